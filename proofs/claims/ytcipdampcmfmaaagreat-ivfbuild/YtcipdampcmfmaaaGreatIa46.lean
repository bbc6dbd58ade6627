import Derived.Test.YtcipdampcmfmaaaGreatIa45
import Derived.Test.YtcipdampcmfmaaaGreatIa44
import Derived.Test.YtcipdampcmfmaaaGreatIa43
import Derived.Test.YtcipdampcmfmaaaGreatIa31
import Derived.Test.YtcipdampcmfmaaaGreatIa17
import Derived.Test.YtcipdampcmfmaaaGreatIa6
import Derived.Test.YtcipdampcmfmaaaGreatIa29
import Derived.Test.YtcipdampcmfmaaaGreatIa32
namespace Go.Proofs.YtcipdampcmfmaaaGreat
open Go.RowKit Go.Sort
set_option maxRecDepth 100000
set_option maxHeartbeats 2000000
theorem klens {rs:List Rw} {d:Int} (hok:RowsOk rs d):rs.length<=4611686018427387904/\∀ r ∈ rs,r.2.length<=4611686018427387904:=⟨by have:=hok.few;omega,fun r hr=>by
 have:=(chk_ok (hok.row r hr).2)
 have h1:=this.2.1
 omega⟩
theorem kspoil_c {w0 w1 w2:World} {v:Value} {rs:List Rw} (o:OwnC w1 w0.heap.size v rs) (g1:Gb w0 w1) (g2:Gb w1 w2) (hl:rs.length<=512/\∀ r ∈ rs,r.2.length<=4611686018427387904) :
  Calls Tryz.prog 41 #[v] w2 fun e w'=>e=.returned (.tuple #[])/\Gb w0 w':=by
 have o2:=o.gb g2
 obtain ⟨g,cap,e⟩:=o2.form
 obtain ⟨_,xs,ow,hx⟩:=o2
 obtain ⟨cur,b1,b2,b3,b4,b5⟩:=own_cur ow e
 subst e
 refine (spoilrows_c (Nat.le_refl _) (by omega) b1 b2 b3 (fun i hi=>?_)).mono ?_
 ·obtain ⟨h1,u,h2,h3⟩:=hx i hi
  exact ⟨_,u,b5 _ _ h1,b5 _ _ h2,wi_own h3 (hl.2 _ (by rw [getElem!_pos rs i hi];exact List.getElem_mem hi)) (fun g e=>(World.ownsRow.lt h3 g e).2)⟩
 ·rintro e w' ⟨rfl,m⟩
  exact ⟨rfl,m.gb (gb_trans g1 g2) (Nat.le_refl _)⟩
theorem klooks_c {Iq:Nat->Prop} {W:World} {tb ub m:Nat} {C:Vs} {rs:List Rw} {F G:List Nat} (ht:TreeAt Iq W tb m C rs F) (hm:TbAt W ub m rs G) :
  Calls Tryz.prog 15 #[.pointer (some ⟨tb,0,none⟩),.pointer (some ⟨ub,0,none⟩)] W fun e w'=>e=.returned (.bool true)/\Gb W w':=by
 have HT:Hid (TreeAt Iq W tb m C rs F):=ht
 have HM:Hid (TbAt W ub m rs G):=hm
 have KL:Hid (rs.length<=4611686018427387904/\∀ r ∈ rs,r.2.length<=4611686018427387904):=klens ht.rok.1
 have K5:Hid (rs.length<=512):=ht.rok.1.few
 have cR:=rows_c ht
 obtain ⟨a,cap,_,c1,rdm,_⟩:=hm.rd
 have RM:Hid (RdW W (.slice a rs.length cap) rs):=rdm
 clear ht hm rdm
 obtain ⟨n,hn⟩:∃ n,n=rs.length:=⟨_,rfl⟩
 have N:Hid (n=rs.length):=hn
 rw [<- hn] at RM c1
 clear hn
 go_enter Tryz.func15,Tryz.ntmps15
 go_wp2_with fail
 refine cR.mono ?_
 rintro e w1 ⟨v1,rfl,o1,g1⟩
 have c1:=gb_keeps g1 c1
 have cK:=fun W' (g:Gb w1 W')=>krsame_c ((o1.gb g).rdw) ((RM.out.gb g1).gb g) KL.out.1 KL.out.2
 have cL:∀ W',Gb w1 W'->Calls Tryz.prog 23 #[.pointer (some ⟨tb,0,none⟩)] W' fun e w'=>e=.returned (.int .i64 (n:Nat))/\w'=W':=fun W' g=>by
  rw [N.out]
  exact len_c (HT.out.gb (gb_trans g1 g))
 have OO:Hid (OwnC w1 W.heap.size v1 rs):=o1
 have G1:Hid (Gb W w1):=g1
 obtain ⟨g,cp,e1⟩:=o1.form
 subst e1
 rw [<- N.out] at OO cK ⊢
 have GD:Gb w1 w1.drew:=⟨rfl,rfl,rfl,Nat.le_refl _,fun _ _=>rfl⟩
 clear cR o1 g1
 go_wp2_with fail
 refine wp_region_held_drew (S:=fun W=>Gb w1 W) (by kernel_rfl) (GD) (fun hHeld=>?_)
 refine tkn 0 ?_ rfl ?_ ?_;rotate_left;·(intro w hSw;(have s1:=gb_keeps hSw c1);go_simp;try rfl)
 refine tkn 1 ?_ rfl ?_ ?_;rotate_left;·(intro w hSw;(have s1:=gb_keeps hSw c1);go_simp;try rfl)
 refine tkn 2 ?_ rfl ?_ ?_;rotate_left;·(intro w hSw;(have s1:=gb_keeps hSw c1);go_simp;try rfl)
 refine tkn 3 ?_ rfl ?_ ?_;rotate_left;·(intro w hSw;(have s1:=gb_keeps hSw c1);go_simp;try rfl)
 refine tkn 4 ?_ rfl ?_ ?_;rotate_left;·(intro w hSw;(have s1:=gb_keeps hSw c1);go_simp;try rfl)
 refine rdn 5 rfl (fun K hK=>?_)
 go_simp
 refine (cK _ hHeld).mono ?_
 rintro e w2 ⟨rfl,g2⟩
 refine hK.out _ _ (gb_trans hHeld g2) (fun hHeld=>?_)
 clear hK K
 refine tkn 6 ?_ rfl ?_ ?_;rotate_left;·(intro w hSw;(have s1:=gb_keeps hSw c1);go_simp;try rfl)
 refine tkn 7 ?_ rfl ?_ ?_;rotate_left;·(intro w hSw;(have s1:=gb_keeps hSw c1);go_simp;try rfl)
 refine tkn 9 ?_ rfl ?_ ?_;rotate_left;·(intro w hSw;(have s1:=gb_keeps hSw c1);go_simp;try rfl)
 refine tkn 10 ?_ rfl ?_ ?_;rotate_left;·(intro w hSw;(have s1:=gb_keeps hSw c1);go_simp;try rfl)
 refine tkn 11 ?_ rfl ?_ ?_;rotate_left;·(intro w hSw;(have s1:=gb_keeps hSw c1);go_simp;try rfl)
 refine tkn 12 ?_ rfl ?_ ?_;rotate_left;·(intro w hSw;(have s1:=gb_keeps hSw c1);go_simp;try rfl)
 refine tkn 13 ?_ rfl ?_ ?_;rotate_left;·(intro w hSw;(have s1:=gb_keeps hSw c1);go_simp;try rfl)
 refine rdn 8 rfl (fun K hK=>?_)
 go_simp
 refine (cL _ hHeld).mono ?_
 rintro e w3 ⟨rfl,e3⟩
 subst e3
 refine hK.out _ _ (hHeld) (fun hHeld=>?_)
 clear hK K
 refine tkn 14 ?_ rfl ?_ ?_;rotate_left;·(intro w hSw;(have s1:=gb_keeps hSw c1);go_simp;try rfl)
 refine tkn 15 ?_ rfl ?_ ?_;rotate_left;·(intro w hSw;(have s1:=gb_keeps hSw c1);go_simp;try rfl)
 refine tkn 16 ?_ rfl ?_ ?_;rotate_left;·(intro w hSw;(have s1:=gb_keeps hSw c1);go_simp;try rfl)
 refine wpAnyH_done (by kernel_rfl) ?_ _
 have G2:Hid (Gb w1 w3):=hHeld
 have cS:=kspoil_c OO.out G1.out G2.out ⟨K5.out,KL.out.2⟩
 clear hHeld cK cL c1 GD
 go_wp2_with fail
 refine cS.mono ?_
 rintro e w4 ⟨rfl,g4⟩
 clear cS
 go_wp2
 go_ret
 exact ⟨rfl,g4⟩
end Go.Proofs.YtcipdampcmfmaaaGreat

namespace Go.Proofs.YtcipdampcmfmaaaGreat
open Go.RowKit Go.Sort
set_option maxRecDepth 100000
set_option maxHeartbeats 4000000
theorem build_law_no {w:World} {v:Value} {l:List Rw} (hv:RdW w v l) (hwf:Wf l) (hrow:∀ i,i < l.length->l[i]!.2.length<=4611686018427387904) (d A B S:Int) (hz:bldE l d A B ≠ 0) :
  Calls Tryz.prog 3 #[v,.int .i64 d,.agg #[.int .i64 A,.int .i64 B,.int .u64 S]] w fun e w'=>e=.returned (.bool true)/\Gb w w':=by
 have g1:Gb w (w.alloc (.cells #[.int .i64 A,.int .i64 B,.int .u64 S] 25)):=gb_alloc (Below.refl _ _) _
 obtain ⟨w1,hw1⟩:∃ w1,w1=w.alloc (.cells #[.int .i64 A,.int .i64 B,.int .u64 S] 25):=⟨_,rfl⟩
 rw [<- hw1] at g1
 have c0:w1.cell? ⟨w.heap.size,0,none⟩=some (.int .i64 A):=by rw [hw1];simp [go_sem]
 have c1:w1.cell? ⟨w.heap.size,1,none⟩=some (.int .i64 B):=by rw [hw1];simp [go_sem]
 have c2:w1.cell? ⟨w.heap.size,2,none⟩=some (.int .u64 S):=by rw [hw1];simp [go_sem]
 have cB:=kbig_f (hv.gb g1) hwf.1 hrow (rdo_nil w1) (fun i hi=>absurd hi (Nat.not_lt_zero _))
 have cW:=fun W (g:Gb w W)=>kwrong_c (hv.gb g) hwf.1 d A B S
 have CW:Hid _:=cW
 have cU:=fun W v' (h:RdW W v' l)=>kbuild_no h hwf d A B S hz
 have CU:Hid _:=cU
 clear cW cU
 have HV:Hid (RdW w v l):=hv
 obtain ⟨av,cv,ev,_⟩:=hv
 subst ev
 obtain ⟨n,hn⟩:∃ n,n=l.length:=⟨_,rfl⟩
 have NL:Hid (n=l.length):=hn
 rw [<- hn] at HV cB ⊢
 simp only [<- hn] at CW
 clear hn hwf hrow
 generalize bldE l d A B=z at *
 have hzb:(z == 0)=false:=by rw [beq_eq_false_iff_ne];exact hz
 have hzn:(z != 0)=true:=by rw [bne,hzb];rfl
 go_enter Tryz.func3,Tryz.ntmps3
 go_wp2_with fail
 rw [<- hw1]
 clear hw1
 refine cB.mono ?_
 rintro e w2 ⟨bb,rfl,g2,hfit⟩
 have d0:=gb_keeps g2 c0
 have d1:=gb_keeps g2 c1
 have d2:=gb_keeps g2 c2
 have G2:Hid (Gb w w2):=gb_trans g1 g2
 clear cB c0 c1 c2
 cases bb with
 | true =>
  clear hfit d0 d1 d2
  go_wp2
  refine bodyPost_ret (v:=.bool true) (by simp [results,Tryz.results3,go_sem]) rfl ⟨rfl,?_⟩
  exact G2.out
 | false =>
  have FT:Hid (Fit l []):=hfit rfl
  have V2:Hid (RdW w2 (.slice av n cv) l):=HV.out.gb G2.out
  have cW:=CW.out w2 G2.out
  clear hfit g1 g2
  go_wp2_with fail
  refine cW.mono ?_
  rintro e w3 ⟨rfl,g3⟩
  have d0:=gb_keeps g3 d0
  have d1:=gb_keeps g3 d1
  have d2:=gb_keeps g3 d2
  have V3:Hid (RdW w3 (.slice av n cv) l):=V2.out.gb g3
  have G3:Hid (Gb w w3):=gb_trans G2.out g3
  have cL:=lendrows_c V3.out (by have:=FT.out.rows;omega) (fun i hi=>by have:=FT.out.row i hi;omega)
  rw [<- NL.out] at cL
  clear cW g3 V2
  go_wp2_with fail
  refine cL.mono ?_
  rintro e w4 ⟨G,rfl,hL⟩
  have g4:Gb w3 w4:=by obtain ⟨f,h⟩:=hL;exact h.gb
  have d0:=gb_keeps g4 d0
  have d1:=gb_keeps g4 d1
  have d2:=gb_keeps g4 d2
  have HL:Hid (LentR w3 w4 G l):=hL
  have G4:Hid (Gb w3 w4):=g4
  have cU:=CU.out w4 (.slice (some ⟨G,0,none⟩) n (n + 1)) (by have:=hL.rd;rw [<- NL.out] at this;exact this)
  clear cL hL g4 CU
  go_wp2_with fail
  refine cU.mono ?_
  rintro e w5 ⟨rfl,g5⟩
  have G5:Hid (Gb w4 w5):=g5
  have cK:Calls Tryz.prog 13 #[.slice (some ⟨G,0,none⟩) n (n + 1),.slice av n cv] w5 fun e w'=>e=.returned (.bool true)/\Mid w3.heap.size w4.heap.size w5 w':=by
   obtain ⟨f,gs,hl⟩:=HL.out.lt
   have hl5:=hl.keep (W':=w5) (fun k _ hk=>G5.out.block k hk)
   have:=backrows_c hl5 (gb_trans G4.out G5.out) (Nat.le_refl _) V3.out (by have:=FT.out.rows;omega) (fun i hi=>by have:=FT.out.row i hi;omega)
   rw [<- NL.out] at this
   exact this
  clear cU g5 d0 d1 d2
  go_wp2_with fail
  refine cK.mono ?_
  rintro e w6 ⟨rfl,mid⟩
  have G6:Hid (Gb w w6):=mid.gb (gb_trans G3.out (gb_trans G4.out G5.out)) G3.out.size
  clear cK mid
  go_wp2_with fail
  refine (kawake_c _).mono ?_
  rintro e w7 ⟨rfl,g7⟩
  have G7:Hid (Gb w w7):=gb_trans G6.out g7
  clear g7
  go_wp2
  refine bodyPost_ret (v:=.bool true) (by simp [results,Tryz.results3,go_sem]) rfl ⟨rfl,?_⟩
  exact G7.out
theorem build_law_ok {w:World} {v:Value} {l:List Rw} (hv:RdW w v l) (hwf:Wf l) (hrow:∀ i,i < l.length->l[i]!.2.length<=4611686018427387904) {m lf B:Nat} (S:Int) (hz:flatE l (m:Int)=0) (hlf:1<=lf/\lf<=64) (hB:B<=20) (hus:Rn.U S) :
  Calls Tryz.prog 3 #[v,.int .i64 (m:Int),.agg #[.int .i64 (lf:Int),.int .i64 (B:Int),.int .u64 S]] w fun e w'=>e=.returned (.bool true)/\Gb w w':=by
 have g1:Gb w (w.alloc (.cells #[.int .i64 (lf:Int),.int .i64 (B:Int),.int .u64 S] 25)):=gb_alloc (Below.refl _ _) _
 obtain ⟨w1,hw1⟩:∃ w1,w1=w.alloc (.cells #[.int .i64 (lf:Int),.int .i64 (B:Int),.int .u64 S] 25):=⟨_,rfl⟩
 rw [<- hw1] at g1
 have c0:w1.cell? ⟨w.heap.size,0,none⟩=some (.int .i64 (lf:Int)):=by rw [hw1];simp [go_sem]
 have c1:w1.cell? ⟨w.heap.size,1,none⟩=some (.int .i64 (B:Int)):=by rw [hw1];simp [go_sem]
 have c2:w1.cell? ⟨w.heap.size,2,none⟩=some (.int .u64 S):=by rw [hw1];simp [go_sem]
 have cB:=kbig_f (hv.gb g1) hwf.1 hrow (rdo_nil w1) (fun i hi=>absurd hi (Nat.not_lt_zero _))
 have cW:=fun W (g:Gb w W)=>kwrong_c (hv.gb g) hwf.1 (m:Int) (lf:Int) (B:Int) S
 have hb0:bldE l (m:Int) (lf:Int) (B:Int)=0:=by unfold bldE;rw [if_pos hz,if_pos (by omega)]
 rw [hb0] at cW
 have CW:Hid _:=cW
 have ROK:Hid (RowsOk l (m:Int)):=(flatE_zero.1 hz).2
 have cU:=fun W v' (h:RdW W v' l)=>kbuild_ok (Iq:=fun k=>W.heap.size<=k) (fun k hk=>hk) h hwf (m:=m) hz hlf hB S hus
 have CU:Hid _:=cU
 clear cW cU hb0
 have HV:Hid (RdW w v l):=hv
 obtain ⟨av,cv,ev,_⟩:=hv
 subst ev
 obtain ⟨n,hn⟩:∃ n,n=l.length:=⟨_,rfl⟩
 have NL:Hid (n=l.length):=hn
 rw [<- hn] at HV cB ⊢
 simp only [<- hn] at CW
 clear hn hwf hrow hz hlf hB hus
 go_enter Tryz.func3,Tryz.ntmps3
 go_wp2_with fail
 rw [<- hw1]
 clear hw1
 refine cB.mono ?_
 rintro e w2 ⟨bb,rfl,g2,hfit⟩
 have d0:=gb_keeps g2 c0
 have d1:=gb_keeps g2 c1
 have d2:=gb_keeps g2 c2
 have G2:Hid (Gb w w2):=gb_trans g1 g2
 clear cB c0 c1 c2
 cases bb with
 | true =>
  clear hfit d0 d1 d2
  go_wp2
  refine bodyPost_ret (v:=.bool true) (by simp [results,Tryz.results3,go_sem]) rfl ⟨rfl,?_⟩
  exact G2.out
 | false =>
  have FT:Hid (Fit l []):=hfit rfl
  have V2:Hid (RdW w2 (.slice av n cv) l):=HV.out.gb G2.out
  have cW:=CW.out w2 G2.out
  clear hfit g1 g2
  go_wp2_with fail
  refine cW.mono ?_
  rintro e w3 ⟨rfl,g3⟩
  have d0:=gb_keeps g3 d0
  have d1:=gb_keeps g3 d1
  have d2:=gb_keeps g3 d2
  have V3:Hid (RdW w3 (.slice av n cv) l):=V2.out.gb g3
  have G3:Hid (Gb w w3):=gb_trans G2.out g3
  have cL:=lendrows_c V3.out (by have:=FT.out.rows;omega) (fun i hi=>by have:=FT.out.row i hi;omega)
  rw [<- NL.out] at cL
  clear cW g3 V2
  go_wp2_with fail
  refine cL.mono ?_
  rintro e w4 ⟨G,rfl,hL⟩
  have g4:Gb w3 w4:=by obtain ⟨f,h⟩:=hL;exact h.gb
  have d0:=gb_keeps g4 d0
  have d1:=gb_keeps g4 d1
  have d2:=gb_keeps g4 d2
  have HL:Hid (LentR w3 w4 G l):=hL
  have G4:Hid (Gb w3 w4):=g4
  have cU:=CU.out w4 (.slice (some ⟨G,0,none⟩) n (n + 1)) (by have:=hL.rd;rw [<- NL.out] at this;exact this)
  clear cL hL g4 CU
  go_wp2_with fail
  refine cU.mono ?_
  intro e w5 hO
  obtain ⟨tb,rs',FF,rfl,ht,pm,g5,hF⟩:=hO
  have HT:Hid (TreeAt (fun k=>w4.heap.size<=k) w5 tb m (cenOf rs' m lf B S) rs' FF/\rs'.Perm l/\∀ x ∈ FF,w4.heap.size<=x):=⟨ht,pm,hF⟩
  clear ht pm hF
  have G5:Hid (Gb w4 w5):=g5
  have cK:Calls Tryz.prog 13 #[.slice (some ⟨G,0,none⟩) n (n + 1),.slice av n cv] w5 fun e w'=>e=.returned (.bool true)/\Mid w3.heap.size w4.heap.size w5 w':=by
   obtain ⟨f,gs,hl⟩:=HL.out.lt
   have hl5:=hl.keep (W':=w5) (fun k _ hk=>G5.out.block k hk)
   have:=backrows_c hl5 (gb_trans G4.out G5.out) (Nat.le_refl _) V3.out (by have:=FT.out.rows;omega) (fun i hi=>by have:=FT.out.row i hi;omega)
   rw [<- NL.out] at this
   exact this
  clear cU g5 d0 d1 d2
  go_wp2_with fail
  refine cK.mono ?_
  rintro e w6 ⟨rfl,mid⟩
  have G6:Hid (Gb w w6):=mid.gb (gb_trans G3.out (gb_trans G4.out G5.out)) G3.out.size
  have T6:Hid (TreeAt (fun k=>w4.heap.size<=k) w6 tb m (cenOf rs' m lf B S) rs' FF):=HT.out.1.mid mid HT.out.2.2
  have V6:Hid (RdW w6 (.slice av n cv) l):=HV.out.gb G6.out
  clear cK mid
  go_wp2_with fail
  refine (kawake_c _).mono ?_
  rintro e w7 ⟨rfl,g7⟩
  have cO:=tof_c (m:=m) (V6.out.gb g7) ROK.out T6.out.ris HT.out.2.1
  have T7:Hid (TreeAt (fun k=>w4.heap.size<=k) w7 tb m (cenOf rs' m lf B S) rs' FF):=T6.out.gb g7
  have G7:Hid (Gb w w7):=gb_trans G6.out g7
  clear g7 T6 V6
  go_wp2_with fail
  refine cO.mono ?_
  intro e w8 hO
  obtain ⟨ub,GG,rfl,tt,_,g8⟩:=hO
  have cQ:=klooks_c (T7.out.gb g8) tt
  have G8:Hid (Gb w w8):=gb_trans G7.out g8
  clear cO tt g8 T7
  go_wp2_with fail
  refine cQ.mono ?_
  rintro e w9 ⟨rfl,g9⟩
  have G9:Hid (Gb w w9):=gb_trans G8.out g9
  clear cQ g9
  go_wp2
  refine bodyPost_ret (v:=.bool true) (by simp [results,Tryz.results3,go_sem]) rfl ⟨rfl,?_⟩
  exact G9.out
end Go.Proofs.YtcipdampcmfmaaaGreat
