import Derived.Test.YtcipdampcmfmaaaGreatIa44
import Derived.Test.YtcipdampcmfmaaaGreatIa6
namespace Go.Proofs.YtcipdampcmfmaaaGreat
open Go.RowKit Go.Sort
set_option maxRecDepth 100000
set_option maxHeartbeats 8000000
theorem wf_rok {rs:List Rw} {d:Int} (h:RowsOk rs d):Wf rs:=by
 refine ⟨by have:=h.few;omega,fun i hi=>?_⟩
 have h1:=(okId_iff _).1 (h.row rs[i]! (by rw [getElem!_pos rs i hi];exact List.getElem_mem hi)).1
 generalize rs[i]!.1=x at h1 ⊢
 simp [Lit.wf,IntKind.min,IntKind.max,IntKind.signed,IntKind.bits]
 omega
theorem srch_top {rs:List Rw} {q:List Int} (h:RowsOk rs (q.length:Int)) (hm:1<=q.length/\q.length<=64) (k:Int):topE rs q k=srchE q.length q k 1000000:=by
 have hf:flatE rs (q.length:Int)=0:=flatE_zero.2 ⟨by omega,h⟩
 unfold topE askE srchE
 by_cases h1:chk q (q.length:Int)=0
 ·rw [if_pos h1,hf,if_pos rfl,if_pos h1]
  by_cases h2:1<=k/\k<=64
  ·rw [if_pos h2,if_pos ⟨h2,by decide,by decide⟩]
  ·rw [if_neg h2,if_neg (fun h=>h2 h.1)]
 ·rw [if_neg h1,if_neg h1,if_neg h1]
theorem TrW.rok {w0 W:World} {tb m:Nat} {C:Vs} {rs:List Rw} (h:TrW IqT w0 tb m C rs W):RowsOk rs (m:Int)/\1<=m/\m<=64:=by
 obtain ⟨F,t,_⟩:=h
 exact t.rok
theorem kown_rd {w:World} {v:Value} {l:List Tk.Ht} (h:Tk.Own w v l.toArray):Tk.Rd w v l:=by
 by_cases h0:0 < l.length
 ·obtain ⟨g,cap,e,_,hl⟩:=kown_sl h h0
  exact .inr (.inr ⟨g,0,cap,e,hl⟩)
 ·have e:l=[]:=List.length_eq_zero_iff.1 (by omega)
  subst e
  rcases h.2 with ⟨e,_⟩ | ⟨g,cap,cur,e,_⟩
  ·exact .inl ⟨e,rfl⟩
  ·exact .inr (.inl ⟨_,cap,e,rfl⟩)
theorem whole_no {w:World} {v u sc:Value} {l:List Rw} {q:List Int} {ops:List Opv} (hv:RdW w v l) (hwf:Wf l) (hs:RdO w sc ops) (hu:RdI w u q) (leaf B S k:Int) (hz:bldE l (q.length:Int) leaf B ≠ 0) :
  Calls Tryz.prog 5 #[v,.agg #[.int .i64 leaf,.int .i64 B,.int .u64 S],sc,u,.int .i64 k] w fun e w'=>e=.returned (.bool true)/\Gb w w':=by
 have g1:Gb w (w.alloc (.cells #[.int .i64 leaf,.int .i64 B,.int .u64 S] 25)):=gb_alloc (Below.refl _ _) _
 obtain ⟨w1,hw1⟩:∃ w1,w1=w.alloc (.cells #[.int .i64 leaf,.int .i64 B,.int .u64 S] 25):=⟨_,rfl⟩
 rw [<- hw1] at g1
 have c0:w1.cell? ⟨w.heap.size,0,none⟩=some (.int .i64 leaf):=by rw [hw1];simp [go_sem]
 have c1:w1.cell? ⟨w.heap.size,1,none⟩=some (.int .i64 B):=by rw [hw1];simp [go_sem]
 have c2:w1.cell? ⟨w.heap.size,2,none⟩=some (.int .u64 S):=by rw [hw1];simp [go_sem]
 have cB:=kbig_c (hv.gb g1) (by have:=hwf.1;omega) (hs.gb g1)
 have cU:=fun W (g:Gb w1 W)=>kbuild_no ((hv.gb g1).gb g) hwf (q.length:Int) leaf B S hz
 have CU:Hid _:=cU
 clear cU
 obtain ⟨av,cv,ev,_⟩:=hv
 obtain ⟨aq,cq,eq,_⟩:=hu.rd0
 obtain ⟨sca,scc,es,_⟩:=hs
 subst ev eq es
 generalize bldE l (q.length:Int) leaf B=z at *
 generalize l.length=n at *
 generalize q.length=m at *
 generalize ops.length=no at *
 have hzb:(z == 0)=false:=by rw [beq_eq_false_iff_ne];exact hz
 clear hwf hu
 go_enter Tryz.func5,Tryz.ntmps5
 go_wp2_with fail
 rw [<- hw1]
 clear hw1
 refine cB.mono ?_
 rintro e w2 ⟨bb,rfl,g2⟩
 have d0:=gb_keeps g2 c0
 have d1:=gb_keeps g2 c1
 have d2:=gb_keeps g2 c2
 have G2:=gb_trans g1 g2
 clear cB c0 c1 c2
 cases bb with
 | true =>
  go_wp2
  refine bodyPost_ret (v:=.bool true) (by simp [results,Tryz.results5,go_sem]) rfl ⟨rfl,?_⟩
  exact G2
 | false =>
  by_cases h1:32768 < (m:Int)
  ·skip
   go_wp2
   refine bodyPost_ret (v:=.bool true) (by simp [results,Tryz.results5,go_sem]) rfl ⟨rfl,?_⟩
   exact G2
  have cU:=CU.out w2 g2
  clear CU
  go_wp2_with fail
  refine cU.mono ?_
  rintro e w3 ⟨rfl,g3⟩
  have G3:=gb_trans G2 g3
  clear cU d0 d1 d2
  go_wp2_with fail
  refine (kawake_c _).mono ?_
  rintro e wz ⟨rfl,gz⟩
  have GZ:Hid (Gb w wz):=gb_trans G3 gz
  clear gz
  go_wp2
  refine bodyPost_ret (v:=.bool true) (by simp [results,Tryz.results5,go_sem]) rfl ⟨rfl,?_⟩
  exact GZ.out
theorem whole_ok {w:World} {v u sc:Value} {l:List Rw} {q:List Int} {ops:List Opv} {lf B:Nat} (hv:RdW w v l) (hwf:Wf l) (hs:RdO w sc ops) (hwo:WfO ops) (hn:ops.length<=9223372036854775807) (hu:RdI w u q) (S k:Int) (hz:flatE l (q.length:Int)=0) (hlf:1<=lf/\lf<=64) (hB:B<=20) (hus:Rn.U S) :
  Calls Tryz.prog 5 #[v,.agg #[.int .i64 (lf:Int),.int .i64 (B:Int),.int .u64 S],sc,u,.int .i64 k] w fun e w'=>e=.returned (.bool true)/\Gb w w':=by
 have g1:Gb w (w.alloc (.cells #[.int .i64 (lf:Int),.int .i64 (B:Int),.int .u64 S] 25)):=gb_alloc (Below.refl _ _) _
 obtain ⟨w1,hw1⟩:∃ w1,w1=w.alloc (.cells #[.int .i64 (lf:Int),.int .i64 (B:Int),.int .u64 S] 25):=⟨_,rfl⟩
 rw [<- hw1] at g1
 have c0:w1.cell? ⟨w.heap.size,0,none⟩=some (.int .i64 (lf:Int)):=by rw [hw1];simp [go_sem]
 have c1:w1.cell? ⟨w.heap.size,1,none⟩=some (.int .i64 (B:Int)):=by rw [hw1];simp [go_sem]
 have c2:w1.cell? ⟨w.heap.size,2,none⟩=some (.int .u64 S):=by rw [hw1];simp [go_sem]
 have cB:=kbig_c (hv.gb g1) (by have:=hwf.1;omega) (hs.gb g1)
 have cU:=fun W (g:Gb w1 W)=>kbuild_ok (upT W) ((hv.gb g1).gb g) hwf (m:=q.length) hz hlf hB S hus
 have CU:Hid _:=cU
 have HU:Hid (RdI w u q):=hu
 have HS:Hid (RdO w sc ops):=hs
 have HN:Hid (ops.length<=9223372036854775807):=hn
 obtain ⟨av,cv,ev,_⟩:=hv
 obtain ⟨aq,cq,eq,_⟩:=hu.rd0
 obtain ⟨sca,scc,es,_⟩:=hs
 subst ev eq es
 have WO:Hid (WfO ops):=hwo
 clear cU hwf hu hz hlf hB hn hus hwo
 go_enter Tryz.func5,Tryz.ntmps5
 go_wp2_with fail
 rw [<- hw1]
 clear hw1
 refine cB.mono ?_
 rintro e w2 ⟨bb,rfl,g2⟩
 have d0:=gb_keeps g2 c0
 have d1:=gb_keeps g2 c1
 have d2:=gb_keeps g2 c2
 have G2:=gb_trans g1 g2
 clear cB c0 c1 c2
 cases bb with
 | true =>
  go_wp2
  refine bodyPost_ret (v:=.bool true) (by simp [results,Tryz.results5,go_sem]) rfl ⟨rfl,?_⟩
  exact G2
 | false =>
  by_cases h1:32768 < (q.length:Int)
  ·skip
   go_wp2
   refine bodyPost_ret (v:=.bool true) (by simp [results,Tryz.results5,go_sem]) rfl ⟨rfl,?_⟩
   exact G2
  have cU:=CU.out w2 g2
  clear CU g1 g2
  go_wp2_with fail
  refine cU.mono ?_
  intro e w3 hO
  obtain ⟨tb,rs0,rfl,T3,pm,_⟩:=trw_of hO
  have cP:=plays_c T3 (HS.out.gb G2) HN.out WO.out
  clear cU hO T3 d0 d1 d2 pm
  go_wp2_with fail
  refine cP.mono ?_
  rintro e w4 ⟨rfl,T4⟩
  clear cP
  generalize ops.foldl (playRw q.length) rs0=rs at *
  have cS:=trw_search T4 ((HU.out.gb G2).gb T4.old) k 1000000
  go_wp2_with fail
  refine cS.mono ?_
  rintro e w5 ⟨a1,n1,c1,a2,n2,c2,a3,n3,c3,rfl,T5,hn5,hw5,hl5,hz5⟩
  have T6:=T5.gb (gb_alloc (Below.refl w5.heap.size w5) (.cells #[.slice a1 n1 c1,.slice a2 n2 c2,.slice a3 n3 c3] 51))
  have gA:Gb w5 (w5.alloc (.cells #[.slice a1 n1 c1,.slice a2 n2 c2,.slice a3 n3 c3] 51)):=gb_alloc (Below.refl _ _) _
  have hr0:(w5.alloc (.cells #[.slice a1 n1 c1,.slice a2 n2 c2,.slice a3 n3 c3] 51)).cell? ⟨w5.heap.size,0,none⟩=some (.slice a1 n1 c1):=by simp [go_sem]
  have hr1:(w5.alloc (.cells #[.slice a1 n1 c1,.slice a2 n2 c2,.slice a3 n3 c3] 51)).cell? ⟨w5.heap.size,1,none⟩=some (.slice a2 n2 c2):=by simp [go_sem]
  have cR:=trw_rows T6
  clear cS T4
  have H5:Hid ((srchE q.length q k 1000000 ≠ 0 ∨ rs=[])->n1=0/\n2=0/\n3=0):=hn5
  have Z5:Hid (srchE q.length q k 1000000 ≠ 0->a1=none/\c1=0):=hz5
  have L5:Hid (n2<=rs.length):=hl5
  have W5:Hid (srchE q.length q k 1000000=0->(rs.length:Int)<=1000000->Tk.Own w5 (.slice a1 n1 c1) (Tk.firsts k.toNat (hitsOf q rs)).toArray):=hw5
  obtain ⟨hok,hm⟩:=T6.rok
  have TE:=srch_top hok hm k
  have WF:=wf_rok hok
  have F5:Hid (rs.length<=512):=hok.few
  clear hn5 hl5 hw5 hz5 hok hm T5
  go_wp2_with fail
  refine cR.mono ?_
  rintro e w6 ⟨v6,rfl,o6,g6⟩
  have cT:=topk_c (o6.rdw) (((HU.out.gb G2).gb T6.old).gb g6) WF k
  rw [TE] at cT
  obtain ⟨r6,c6,rfl⟩:=o6.form
  clear cR WF TE
  go_wp2_with fail
  refine cT.mono ?_
  rintro e w9 ⟨v9,rfl,g9,z9,y9⟩
  have G69:=gb_trans g6 g9
  have hc0:=gb_keeps G69 hr0
  have hc1:=gb_keeps G69 hr1
  have T9:=T6.gb G69
  have hV:∃ a9 n9 c9,v9=.slice a9 n9 c9:=by
   by_cases h0:srchE q.length q k 1000000=0
   ·obtain ⟨a9,c9,e9,_⟩:=(kown_rd (y9 h0).1).form
    exact ⟨_,_,_,e9⟩
   ·exact ⟨_,_,_,z9 h0⟩
  have cH:∀ W,Gb w9 W->Calls Tryz.prog 22 #[.slice a1 n1 c1,v9] W fun e w'=>e=.returned (.bool true)/\Gb W w':=by
   intro W gW
   by_cases h0:srchE q.length q k 1000000=0
   ·have o1:=kown_rd (W5.out h0 (by have:=F5.out;omega))
    have o2:=kown_rd (y9 h0).1
    have hk:=(srchE_zero.1 h0).2.1
    refine (Tk.same_c (o1.gr (gb_trans gA (gb_trans G69 gW))) (o2.gr gW) (by rw [Tk.firsts_len];omega)).mono ?_
    rintro e w' ⟨rfl,g⟩
    exact ⟨by simp,g⟩
   ·obtain ⟨rfl,_,_⟩:=H5.out (.inl h0)
    rw [z9 h0]
    obtain ⟨rfl,rfl⟩:=Z5.out h0
    refine (Tk.same_c (.inl ⟨rfl,rfl⟩) (.inl ⟨rfl,rfl⟩) (Nat.zero_le _)).mono ?_
    rintro e w' ⟨rfl,g⟩
    exact ⟨by simp,g⟩
  have cL:∀ W,Gb w9 W->Calls Tryz.prog 23 #[.pointer (some ⟨tb,0,none⟩)] W fun e w'=>e=.returned (.int .i64 (rs.length:Nat))/\w'=W:=fun W g=>trw_len (T9.gb g)
  have hle:(n2:Int)<=(rs.length:Int):=by have:=L5.out;omega
  have gd8:Gb w9 w9.drew:=⟨rfl,rfl,rfl,Nat.le_refl _,fun _ _=>rfl⟩
  have G10:Hid (Gb w w9):=gb_trans G2 T9.old
  obtain ⟨a9,n9,c9,rfl⟩:=hV
  generalize srchE q.length q k 1000000=f at *
  generalize rs.length=n at *
  clear cT g6 g9 z9 y9 G69 hr0 hr1 T9 T6 gA o6 W5 H5 L5 Z5
  go_wp2_with fail
  refine wp_region_held_drew (S:=fun W=>Gb w9 W) (by kernel_rfl) (gd8) (fun hHeld=>?_)
  refine rdn 0 rfl (fun K hK=>?_)
  go_simp
  refine (kawake_c _).mono ?_
  rintro e wa ⟨rfl,ga⟩
  refine hK.out _ _ (gb_trans hHeld ga) (fun hHeld=>?_)
  clear hK K
  try simp only [pt]
  refine tkn 1 ?_ rfl ?_ ?_;rotate_left;·(intro w hSw;obtain ⟨s0,s1⟩:=kp2 hSw hc0 hc1;go_simp;try rfl)
  try simp only [pt]
  refine tkn 2 ?_ rfl ?_ ?_;rotate_left;·(intro w hSw;obtain ⟨s0,s1⟩:=kp2 hSw hc0 hc1;go_simp;try rfl)
  try simp only [pt]
  refine tkn 3 ?_ rfl ?_ ?_;rotate_left;·(intro w hSw;obtain ⟨s0,s1⟩:=kp2 hSw hc0 hc1;go_simp;try rfl)
  try simp only [pt]
  refine tkn 4 ?_ rfl ?_ ?_;rotate_left;·(intro w hSw;obtain ⟨s0,s1⟩:=kp2 hSw hc0 hc1;go_simp;try rfl)
  try simp only [pt]
  refine tkn 5 ?_ rfl ?_ ?_;rotate_left;·(intro w hSw;obtain ⟨s0,s1⟩:=kp2 hSw hc0 hc1;go_simp;try rfl)
  try simp only [pt]
  refine tkn 6 ?_ rfl ?_ ?_;rotate_left;·(intro w hSw;obtain ⟨s0,s1⟩:=kp2 hSw hc0 hc1;go_simp;try rfl)
  try simp only [pt]
  refine tkn 7 ?_ rfl ?_ ?_;rotate_left;·(intro w hSw;obtain ⟨s0,s1⟩:=kp2 hSw hc0 hc1;go_simp;try rfl)
  try simp only [pt]
  refine tkn 8 ?_ rfl ?_ ?_;rotate_left;·(intro w hSw;obtain ⟨s0,s1⟩:=kp2 hSw hc0 hc1;go_simp;try rfl)
  try simp only [pt]
  refine tkn 9 ?_ rfl ?_ ?_;rotate_left;·(intro w hSw;obtain ⟨s0,s1⟩:=kp2 hSw hc0 hc1;go_simp;try rfl)
  try simp only [pt]
  refine rdn 10 rfl (fun K hK=>?_)
  go_simp
  refine (cH _ hHeld).mono ?_
  rintro e wh ⟨rfl,gh⟩
  refine hK.out _ _ (gb_trans hHeld gh) (fun hHeld=>?_)
  clear hK K
  try simp only [pt]
  refine tkn 11 ?_ rfl ?_ ?_;rotate_left;·(intro w hSw;obtain ⟨s0,s1⟩:=kp2 hSw hc0 hc1;go_simp;try rfl)
  try simp only [pt]
  refine tkn 12 ?_ rfl ?_ ?_;rotate_left;·(intro w hSw;obtain ⟨s0,s1⟩:=kp2 hSw hc0 hc1;go_simp;try rfl)
  try simp only [pt]
  refine tkn 13 ?_ rfl ?_ ?_;rotate_left;·(intro w hSw;obtain ⟨s0,s1⟩:=kp2 hSw hc0 hc1;go_simp;try rfl)
  try simp only [pt]
  refine tkn 14 ?_ rfl ?_ ?_;rotate_left;·(intro w hSw;obtain ⟨s0,s1⟩:=kp2 hSw hc0 hc1;go_simp;try rfl)
  try simp only [pt]
  refine tkn 15 ?_ rfl ?_ ?_;rotate_left;·(intro w hSw;obtain ⟨s0,s1⟩:=kp2 hSw hc0 hc1;go_simp;try rfl)
  try simp only [pt]
  refine tkn 16 ?_ rfl ?_ ?_;rotate_left;·(intro w hSw;obtain ⟨s0,s1⟩:=kp2 hSw hc0 hc1;go_simp;try rfl)
  try simp only [pt]
  refine rdn 17 rfl (fun K hK=>?_)
  go_simp
  refine (cL _ hHeld).mono ?_
  rintro e wb ⟨rfl,rfl⟩
  refine hK.out _ _ (hHeld) (fun hHeld=>?_)
  clear hK K
  try simp only [pt]
  refine tkn 18 ?_ rfl ?_ ?_;rotate_left;·(intro w hSw;obtain ⟨s0,s1⟩:=kp2 hSw hc0 hc1;go_simp;try rfl)
  try simp only [pt]
  refine tkn 19 ?_ rfl ?_ ?_;rotate_left;·(intro w hSw;obtain ⟨s0,s1⟩:=kp2 hSw hc0 hc1;go_simp;try rfl)
  try simp only [pt]
  refine tkn 20 ?_ rfl ?_ ?_;rotate_left;·(intro w hSw;obtain ⟨s0,s1⟩:=kp2 hSw hc0 hc1;go_simp;try rfl)
  try simp only [pt]
  refine wpAnyH_done (by kernel_rfl) ?_ _
  have G11:Hid (Gb w wb):=gb_trans G10.out hHeld
  clear hHeld
  go_wp2
  refine bodyPost_ret (v:=.bool true) (by simp [results,Tryz.results5,go_sem]) rfl ⟨rfl,?_⟩
  exact G11.out
end Go.Proofs.YtcipdampcmfmaaaGreat
