import Derived.Test.YtcipdampcmfmaaaGreatIa44
import Derived.Test.YtcipdampcmfmaaaGreatIa34
namespace Go.Proofs.YtcipdampcmfmaaaGreat
open Go.RowKit Go.Sort
set_option maxRecDepth 100000
set_option maxHeartbeats 4000000
theorem few_none:Few ⟨[],[],[]⟩:=by
 refine ⟨?_,?_,?_,?_⟩ <;> simp
theorem rda_none (w:World):RdA w (.slice none 0 0) (.slice none 0 0) (.slice none 0 0) ⟨[],[],[]⟩:=⟨.inl ⟨rfl,rfl⟩,⟨none,0,rfl,fun _i hi=>absurd hi (Nat.not_lt_zero _)⟩,rdl_nil w⟩
theorem nil_c {w:World} {k i n b ri:Int} {rv qv:Value} {rl ql:List Int} (hr:RdI w rv rl) (hq:RdI w qv ql) :
  Calls Tryz.prog 7 #[.agg #[.int .i64 k,.int .i64 i,.int .i64 n,.int .i64 b,.int .i64 ri,rv,qv]] w fun e w'=>e=.returned (.bool true)/\Gb w w':=by
 have g1:Gb w (w.alloc (.cells #[.int .i64 k,.int .i64 i,.int .i64 n,.int .i64 b,.int .i64 ri,rv,qv] 45)):=gb_alloc (Below.refl _ _) _
 obtain ⟨w1,hw1⟩:∃ w1,w1=w.alloc (.cells #[.int .i64 k,.int .i64 i,.int .i64 n,.int .i64 b,.int .i64 ri,rv,qv] 45):=⟨_,rfl⟩
 have g2:Gb w1 (w1.alloc (.cells #[.int .i64 k,.int .i64 i,.int .i64 n,.int .i64 b,.int .i64 ri,rv,qv] 45)):=gb_alloc (Below.refl _ _) _
 rw [<- hw1] at g1
 have cB:=kbig_c (ops:=[((k,i,n,b),(ri,rl),ql)]) (rdw_nil (w1.alloc (.cells #[.int .i64 k,.int .i64 i,.int .i64 n,.int .i64 b,.int .i64 ri,rv,qv] 45))) (by decide)
  (u:=.slice (some ⟨w1.heap.size,0,none⟩) 1 1) ⟨_,_,rfl,fun j hj=>by
   obtain rfl:j=0:=by simp only [List.length_cons,List.length_nil] at hj;omega
   exact ⟨w1.heap.size,0,rv,qv,rfl,by simp [go_sem],(hr.gb g1).gb g2,(hq.gb g1).gb g2⟩⟩
 have HB:w1.heap[w.heap.size]? = some (.cells #[.int .i64 k,.int .i64 i,.int .i64 n,.int .i64 b,.int .i64 ri,rv,qv] 45 (0,0)):=by rw [hw1];exact World.alloc_heap_new w _
 have cells:∀ W,Gb w1 W->(W.cell? ⟨w.heap.size,0,none⟩=some (.int .i64 k)/\W.cell? ⟨w.heap.size,1,none⟩=some (.int .i64 i)/\W.cell? ⟨w.heap.size,2,none⟩=some (.int .i64 n)/\W.cell? ⟨w.heap.size,3,none⟩=some (.int .i64 b)/\W.cell? ⟨w.heap.size,4,none⟩=some (.int .i64 ri)/\W.cell? ⟨w.heap.size,5,none⟩=some rv/\W.cell? ⟨w.heap.size,6,none⟩=some qv):=fun W g =>
  ⟨gb_keeps g (cell_cur (i:=0) HB rfl),gb_keeps g (cell_cur (i:=1) HB rfl),gb_keeps g (cell_cur (i:=2) HB rfl),gb_keeps g (cell_cur (i:=3) HB rfl),gb_keeps g (cell_cur (i:=4) HB rfl),gb_keeps g (cell_cur (i:=5) HB rfl),gb_keeps g (cell_cur (i:=6) HB rfl)⟩
 have CE:Hid _:=cells
 obtain ⟨ar,cr,er,_⟩:=hr.rd0
 obtain ⟨aq,cq,eq,_⟩:=hq.rd0
 subst er eq
 have HR:Hid (RdI w (.slice ar rl.length cr) rl):=hr
 have HQ:Hid (RdI w (.slice aq ql.length cq) ql):=hq
 obtain ⟨c0,c1,c2,c3,c4,c5,c6⟩:=cells w1 (Below.refl _ _)
 clear cells HB
 go_enter Tryz.func7,Tryz.ntmps7
 go_wp2_with fail
 rw [<- hw1]
 have sz:w1.heap.size=w.heap.size + 1:=by rw [hw1];exact World.size_alloc _ _
 rw [sz] at cB
 clear hw1
 refine cB.mono ?_
 rintro e w2 ⟨bb,rfl,g3⟩
 have G2:Gb w1 w2:=gb_trans g2 g3
 clear cB g2 g3 c0 c1 c2 c3 c4 c5 c6
 cases bb with
 | true =>
  go_wp2
  refine bodyPost_ret (v:=.bool true) (by simp [results,Tryz.results7,go_sem]) rfl ⟨rfl,?_⟩
  exact gb_trans g1 G2
 | false =>
  obtain ⟨c0,c1,c2,c3,c4,c5,c6⟩:=CE.out w2 G2
  have cP:=put_nil w2 ri (HR.out.gb (gb_trans g1 G2))
  go_wp2_with fail
  refine cP.mono ?_
  rintro e w3 ⟨rfl,g3⟩
  have G3:=gb_trans G2 g3
  clear cP g3 c0 c1 c2 c3 c4 c5 c6
  obtain ⟨c0,c1,c2,c3,c4,c5,c6⟩:=CE.out w3 G3
  go_wp2_with fail
  refine (delete_nil w3 i).mono ?_
  rintro e w4 ⟨rfl,rfl⟩
  have cS:=ksearch_nil (HQ.out.gb (gb_trans g1 G3)) n b
  go_wp2_with fail
  refine cS.mono ?_
  rintro e w5 ⟨rfl,g5⟩
  have G5:=gb_trans G3 g5
  clear cS g5 c0 c1 c2 c3 c4 c5 c6
  have ga:Gb w5 (w5.alloc (.cells #[.slice none 0 0,.slice none 0 0,.slice none 0 0] 51)):=gb_alloc (Below.refl _ _) _
  have G6:=gb_trans G5 ga
  have H6:=World.alloc_heap_new w5 (.cells #[.slice none 0 0,.slice none 0 0,.slice none 0 0] 51)
  have cA:=kawake_c (w5.alloc (.cells #[.slice none 0 0,.slice none 0 0,.slice none 0 0] 51))
  go_wp2_with fail
  refine cA.mono ?_
  rintro e w6 ⟨rfl,g6⟩
  have d0:=gb_keeps g6 (cell_cur (i:=0) H6 rfl)
  have d1:=gb_keeps g6 (cell_cur (i:=1) H6 rfl)
  have d2:=gb_keeps g6 (cell_cur (i:=2) H6 rfl)
  have G7:=gb_trans G6 g6
  clear cA G6 ga H6 g6 G5
  have cK:=kanswer_c (rda_none w6) (rda_none w6) few_none
  go_wp2_with fail
  refine cK.mono ?_
  rintro e w7 ⟨rfl,g7⟩
  have G8:Hid (Gb w w7):=gb_trans g1 (gb_trans G7 g7)
  clear cK d0 d1 d2 G7 g7
  go_wp2_with fail
  refine (len_nil w7).mono ?_
  rintro e w8 ⟨rfl,rfl⟩
  go_wp2_with fail
  refine (rows_nil w8).mono ?_
  rintro e w9 ⟨rfl,rfl⟩
  go_wp2
  refine bodyPost_ret (v:=.bool true) (by simp [results,Tryz.results7,go_sem]) rfl ⟨rfl,?_⟩
  exact G8.out
end Go.Proofs.YtcipdampcmfmaaaGreat
