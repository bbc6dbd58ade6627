import Derived.Test.YtgbgejflmbhigaaGreatKwKqSh
import Derived.Test.YtgbgejflmbhigaaGreatKw12
namespace Go.Proofs.YtgbgejflmbhigaaGreat
open Go.RowKit Go.Sort
set_option maxRecDepth 100000
set_option maxHeartbeats 8000000
theorem obeys_sea {W V:World} {tb m:Nat} {rs:List Rw} {q:List Int} {K Bb:Nat} {an:Ans} {tv u vh vs vr:Value} (hS:SeaP W tb rs q K Bb an) (hk:1<=K/\K<=64) (hc:chk q (m:Int)=0) (hok:RowsOk rs (m:Int)) (hv:RdW V tv rs) (hu:RdI V u q) (ha:RdA V vh vs vr an) :
  Calls Tryz.prog 50 #[tv,u,.int .i64 (K:Int),.int .i64 (Bb:Int),.agg #[vh,vs,vr]] V fun e w'=>e=.returned (.bool true)/\Gb V w':=by
 obtain ⟨srs,hs⟩:=hS.sound
 have hl:=(chk_ok hc).2.2.1
 have hask:askE rs q=0:=by
  rw [hl] at hc hok
  exact askE_zero.2 ⟨hc,hok⟩
 refine robeys_c hv hu ha hask hk.2 hs hS.le ?_
 rcases hS.stop with h | h | h
 ·exact .inl h
 ·exact .inr (.inl h)
 ·refine .inr (.inr fun V' g=>?_)
  have c:=rcertain_c (hu.gb g) (ha.gb g) hk hS.few.rest (by have:=hS.few.hits;omega) hS.reg hS.dist
  rw [h] at c
  exact c
theorem mid_cell {B T:Nat} {w w':World} (m:Mid B T w w') {g o:Nat} {v:Value} (h:g < B ∨ T<=g) (hc:w.cell? ⟨g,o,none⟩=some v):w'.cell? ⟨g,o,none⟩=some v:=by
 rw [World.cell?_of_block (w:=w) (w':=w') (a:=⟨g,o,none⟩) (m.block g (World.block_lt_of_cell? w _ hc) h)];exact hc
theorem ksearches_ok {Iq:Nat->Prop} {W:World} {tb ub m leaf:Nat} {rs:List Rw} {F G:List Nat} (ht:TreeAt Iq W tb m leaf rs F) (hm:TbAt W ub m rs G) {ra qa:Option Addr} {rn rc qn qc:Nat} {ql:List Int} (hq:RdI W (.slice qa qn qc) ql) (hl:ql.length<=65536) (kd id k b ri:Int) (hz:srchE m ql k b=0) :
  Calls Tryz.prog 24 #[.pointer (some ⟨tb,0,none⟩),.pointer (some ⟨ub,0,none⟩),.agg #[.int .i64 kd,.int .i64 id,.int .i64 k,.int .i64 b,.int .i64 ri,.slice ra rn rc,.slice qa qn qc]] W fun e w'=>e=.returned (.bool true)/\Gb W w':=by
 have ZE:Hid (srchE m ql k b=0):=hz
 obtain ⟨hc,hk,hb⟩:=srchE_zero.1 hz
 obtain ⟨K,eK⟩:=Int.eq_ofNat_of_zero_le (show 0<=k by omega)
 obtain ⟨Bb,eB⟩:=Int.eq_ofNat_of_zero_le hb.1
 obtain ⟨an,hS⟩:=kd_sea ht hc (k:=K) (b:=Bb) (by omega) (by omega)
 have KK:Hid ((1<=K/\K<=64)/\chk ql (m:Int)=0/\RowsOk rs (m:Int)):=⟨by omega,hc,ht.rok.1⟩
 have HS:Hid (SeaP W tb rs ql K Bb an):=hS
 have EK:Hid (k=(K:Int)/\b=(Bb:Int)):=⟨eK,eB⟩
 clear hz hc hk hb hS eK eB
 have HT:Hid (TreeAt Iq W tb m leaf rs F):=ht
 have HM:Hid (TbAt W ub m rs G):=hm
 have HQ:Hid (RdI W (.slice qa qn qc) ql):=hq
 have HL:Hid (ql.length<=65536):=hl
 have QN:Hid (qn=ql.length):=by obtain ⟨_,_,e,_⟩:=hq;injection e
 obtain ⟨W1,hW1⟩:∃ W1,W1=W.alloc (.cells #[.int .i64 kd,.int .i64 id,.int .i64 k,.int .i64 b,.int .i64 ri,.slice ra rn rc,.slice qa qn qc] 41):=⟨_,rfl⟩
 have G0:Hid (Gb W W1):=by unfold Hid;rw [hW1];exact gb_alloc (Below.refl _ _) _
 have S1:Hid (W1.heap.size=W.heap.size + 1):=by unfold Hid;rw [hW1];simp
 have X:Hid (W1.cell? ⟨W.heap.size,2,none⟩=some (.int .i64 k)/\W1.cell? ⟨W.heap.size,3,none⟩=some (.int .i64 b)/\W1.cell? ⟨W.heap.size,6,none⟩=some (.slice qa qn qc)):=by
  unfold Hid;rw [hW1];exact ⟨by simp [go_sem],by simp [go_sem],by simp [go_sem]⟩
 have cL:=lend_c (hq.gb G0.out) hl
 rw [<- QN.out] at cL
 clear ht hm hq hl
 go_enter Tryz.func24,Tryz.ntmps24
 go_wp2_with fail
 rw [<- hW1]
 clear hW1
 refine cL.mono ?_
 rintro e w2 ⟨g,rfl,lent,g2⟩
 have LT2:Hid (Lent w2 W1.heap.size g ql):=lent
 have G2:Hid (Gb W1 w2):=g2
 have GL:Hid (W.heap.size < g/\g < w2.heap.size):=⟨by have:=lent.1;have:=S1.out;omega,(Array.getElem?_eq_some_iff.1 lent.2).1⟩
 have u2:RdI w2 (.slice (some ⟨g,0,none⟩) qn (qn + 1)) ql:=by have:=lent.rd;rw [<- QN.out] at this;exact this
 clear cL lent g2
 have x2:=gb_keeps G2.out X.out.1
 have x3:=gb_keeps G2.out X.out.2.1
 have cS:=HS.out.call w2 _ (gb_trans G0.out G2.out) u2
 rw [<- (EK.out.1:k=(K:Int)),<- (EK.out.2:b=(Bb:Int))] at cS
 clear u2
 go_wp2_with fail
 refine cS.mono ?_
 rintro e w3 ⟨vh,vs,vr,rfl,g3,hA,hO⟩
 obtain ⟨h1,h2,h3,i1,i2,i3,j1,j2,j3,f1,f2,f3⟩:∃ h1 h2 h3 i1 i2 i3 j1 j2 j3,vh=.slice h1 h2 h3/\vs=.slice i1 i2 i3/\vr=.slice j1 j2 j3:=by
  obtain ⟨a1,c1,e1,_⟩:=hA.hits.form
  obtain ⟨a2,c2,e2,_⟩:=hA.seen
  obtain ⟨a3,c3,e3,_⟩:=hA.rest
  exact ⟨_,_,_,_,_,_,_,_,_,e1,e2,e3⟩
 subst f1 f2 f3
 have G3:Hid (Gb w2 w3):=g3
 have HA:Hid (RdA w3 (.slice h1 h2 h3) (.slice i1 i2 i3) (.slice j1 j2 j3) an/\OwnA w3 w2.heap.size w3.heap.size (.slice h1 h2 h3) (.slice i1 i2 i3) (.slice j1 j2 j3)):=⟨hA,hO⟩
 clear cS g3 x2 x3 hA hO
 obtain ⟨w4,hw4⟩:∃ w4,w4=w3.alloc (.cells #[.slice h1 h2 h3,.slice i1 i2 i3,.slice j1 j2 j3] 51):=⟨_,rfl⟩
 obtain ⟨ab,hab⟩:∃ ab,ab=w3.heap.size:=⟨_,rfl⟩
 have G4:Hid (Gb w3 w4):=by unfold Hid;rw [hw4];exact gb_alloc (Below.refl _ _) _
 have GW4:Hid (Gb W w4):=gb_trans (gb_trans G0.out G2.out) (gb_trans G3.out G4.out)
 have G24:Hid (Gb W1 w4):=gb_trans G2.out (gb_trans G3.out G4.out)
 obtain ⟨ta,tc,t0,t1,trd,_⟩:=HM.out.rd
 have SQ:Sq w4.drew W.heap.size k b (.slice qa qn qc) ub m ab (.slice h1 h2 h3) (.slice i1 i2 i3) (.slice j1 j2 j3) :=
  ⟨gb_keeps G24.out X.out.1,gb_keeps G24.out X.out.2.1,gb_keeps G24.out X.out.2.2,gb_keeps GW4.out t0,by rw [hab];show w4.cell? _=_;rw [hw4];simp [go_sem],by rw [hab];show w4.cell? _=_;rw [hw4];simp [go_sem],by rw [hab];show w4.cell? _=_;rw [hw4];simp [go_sem]⟩
 have cB:Calls Tryz.prog 22 #[.slice (some ⟨g,0,none⟩) qn (qn + 1),.slice qa qn qc] w4.drew fun e w'=>e=.returned (.bool true)/\w4.drew.grownBy w' (some g):=by
  have gd:Gb w4 w4.drew:=(Below.refl _ _).drew
  have:=back_c ((LT2.out.gb (gb_trans G3.out G4.out)).gb gd) ((HQ.out.gb GW4.out).gb gd) HL.out
  rw [<- QN.out] at this
  exact this
 have hub:=HM.out.mem.2 ub HM.out.mem.1
 have NE:Hid (W.heap.size ≠ g/\ub ≠ g/\ab ≠ g):=by
  have h1:=GL.out
  have h2:=G3.out.size
  have h3:=(gb_trans G0.out G2.out).size
  unfold Hid
  omega
 have GB5:Hid (∀ w5,w4.drew.grownBy w5 (some g)->Gb W w5):=fun w5 k=>below_grown (gb_trans GW4.out (Below.refl _ _).drew) k (fun j e=>by injection e with e;have:=GL.out;omega) GW4.out.size
 have cE:∀ V,Gb W V->Calls Tryz.prog 48 #[.slice qa qn qc,.int .i64 (m:Int),.int .i64 k,.int .i64 b] V fun e w'=>e=.returned (.int .i64 0)/\V=w':=fun V gv=>by
  have:=rsearched_c (HQ.out.gb gv) (m:Int) k b
  rw [srch_fs,(ZE.out:srchE m ql k b=0)] at this
  exact this
 have TM:Hid (RdW W (.slice ta rs.length tc) rs/\W.cell? ⟨ub,1,none⟩=some (.slice ta rs.length tc)):=⟨trd,t1⟩
 clear t0 t1 trd hub
 go_wp2_with fail
 rw [<- hw4,<- hab]
 clear hw4 hab
 refine wp_region_held_drew (S:=fun V=>Sq V W.heap.size k b (.slice qa qn qc) ub m ab (.slice h1 h2 h3) (.slice i1 i2 i3) (.slice j1 j2 j3)) (by kernel_rfl) (SQ) (fun hHeld=>?_)
 refine tkn 0 ?_ rfl ?_ ?_;rotate_left;·(rintro w ⟨s2,s3,s6,s0,sa,sb,sc⟩;go_simp;try rfl)
 try simp only [Act.put,List.getElem_toArray,List.getElem_cons_zero,List.setIfInBounds_toArray,List.set_cons_zero,List.set_cons_succ]
 refine tkn 1 ?_ rfl ?_ ?_;rotate_left;·(rintro w ⟨s2,s3,s6,s0,sa,sb,sc⟩;go_simp;try rfl)
 try simp only [Act.put,List.getElem_toArray,List.getElem_cons_zero,List.getElem_cons_succ,List.setIfInBounds_toArray,List.set_cons_zero,List.set_cons_succ]
 refine tkn 2 ?_ rfl ?_ ?_;rotate_left;·(rintro w ⟨s2,s3,s6,s0,sa,sb,sc⟩;go_simp;try rfl)
 try simp only [Act.put,List.getElem_toArray,List.getElem_cons_zero,List.getElem_cons_succ,List.setIfInBounds_toArray,List.set_cons_zero,List.set_cons_succ]
 refine rdn 3 rfl (fun K hK=>?_)
 go_simp
 refine cB.mono ?_
 rintro e w5 ⟨rfl,gg⟩
 refine hK.out _ _ (hHeld.grown gg NE.out.1 NE.out.2.1 NE.out.2.2) (fun hHeld=>?_)
 clear hK K
 try simp only [Act.put,List.getElem_toArray,List.getElem_cons_zero,List.getElem_cons_succ,List.setIfInBounds_toArray,List.set_cons_zero,List.set_cons_succ]
 refine tkn 4 ?_ rfl ?_ ?_;rotate_left;·(rintro w ⟨s2,s3,s6,s0,sa,sb,sc⟩;go_simp;try rfl)
 try simp only [Act.put,List.getElem_toArray,List.getElem_cons_zero,List.getElem_cons_succ,List.setIfInBounds_toArray,List.set_cons_zero,List.set_cons_succ]
 refine tkn 5 ?_ rfl ?_ ?_;rotate_left;·(rintro w ⟨s2,s3,s6,s0,sa,sb,sc⟩;go_simp;try rfl)
 try simp only [Act.put,List.getElem_toArray,List.getElem_cons_zero,List.getElem_cons_succ,List.setIfInBounds_toArray,List.set_cons_zero,List.set_cons_succ]
 refine tkn 6 ?_ rfl ?_ ?_;rotate_left;·(rintro w ⟨s2,s3,s6,s0,sa,sb,sc⟩;go_simp;try rfl)
 try simp only [Act.put,List.getElem_toArray,List.getElem_cons_zero,List.getElem_cons_succ,List.setIfInBounds_toArray,List.set_cons_zero,List.set_cons_succ]
 refine tkn 7 ?_ rfl ?_ ?_;rotate_left;·(rintro w ⟨s2,s3,s6,s0,sa,sb,sc⟩;go_simp;try rfl)
 try simp only [Act.put,List.getElem_toArray,List.getElem_cons_zero,List.getElem_cons_succ,List.setIfInBounds_toArray,List.set_cons_zero,List.set_cons_succ]
 refine tkn 8 ?_ rfl ?_ ?_;rotate_left;·(rintro w ⟨s2,s3,s6,s0,sa,sb,sc⟩;go_simp;try rfl)
 try simp only [Act.put,List.getElem_toArray,List.getElem_cons_zero,List.getElem_cons_succ,List.setIfInBounds_toArray,List.set_cons_zero,List.set_cons_succ]
 refine tkn 9 ?_ rfl ?_ ?_;rotate_left;·(rintro w ⟨s2,s3,s6,s0,sa,sb,sc⟩;go_simp;try rfl)
 try simp only [Act.put,List.getElem_toArray,List.getElem_cons_zero,List.getElem_cons_succ,List.setIfInBounds_toArray,List.set_cons_zero,List.set_cons_succ]
 refine tkn 10 ?_ rfl ?_ ?_;rotate_left;·(rintro w ⟨s2,s3,s6,s0,sa,sb,sc⟩;go_simp;try rfl)
 try simp only [Act.put,List.getElem_toArray,List.getElem_cons_zero,List.getElem_cons_succ,List.setIfInBounds_toArray,List.set_cons_zero,List.set_cons_succ]
 refine tkn 11 ?_ rfl ?_ ?_;rotate_left;·(rintro w ⟨s2,s3,s6,s0,sa,sb,sc⟩;go_simp;try rfl)
 try simp only [Act.put,List.getElem_toArray,List.getElem_cons_zero,List.getElem_cons_succ,List.setIfInBounds_toArray,List.set_cons_zero,List.set_cons_succ]
 refine tkn 12 ?_ rfl ?_ ?_;rotate_left;·(rintro w ⟨s2,s3,s6,s0,sa,sb,sc⟩;go_simp;try rfl)
 try simp only [Act.put,List.getElem_toArray,List.getElem_cons_zero,List.getElem_cons_succ,List.setIfInBounds_toArray,List.set_cons_zero,List.set_cons_succ]
 refine tkn 13 ?_ rfl ?_ ?_;rotate_left;·(rintro w ⟨s2,s3,s6,s0,sa,sb,sc⟩;go_simp;try rfl)
 try simp only [Act.put,List.getElem_toArray,List.getElem_cons_zero,List.getElem_cons_succ,List.setIfInBounds_toArray,List.set_cons_zero,List.set_cons_succ]
 refine tkn 14 ?_ rfl ?_ ?_;rotate_left;·(rintro w ⟨s2,s3,s6,s0,sa,sb,sc⟩;go_simp;try rfl)
 try simp only [Act.put,List.getElem_toArray,List.getElem_cons_zero,List.getElem_cons_succ,List.setIfInBounds_toArray,List.set_cons_zero,List.set_cons_succ]
 refine tkn 15 ?_ rfl ?_ ?_;rotate_left;·(rintro w ⟨s2,s3,s6,s0,sa,sb,sc⟩;go_simp;try rfl)
 try simp only [Act.put,List.getElem_toArray,List.getElem_cons_zero,List.getElem_cons_succ,List.setIfInBounds_toArray,List.set_cons_zero,List.set_cons_succ]
 refine tkn 16 ?_ rfl ?_ ?_;rotate_left;·(rintro w ⟨s2,s3,s6,s0,sa,sb,sc⟩;go_simp;try rfl)
 try simp only [Act.put,List.getElem_toArray,List.getElem_cons_zero,List.getElem_cons_succ,List.setIfInBounds_toArray,List.set_cons_zero,List.set_cons_succ]
 refine rdn 17 rfl (fun K hK=>?_)
 go_simp
 refine (cE _ (GB5.out _ gg)).mono ?_
 rintro e w5' ⟨rfl,e5⟩
 subst e5
 refine hK.out _ _ (hHeld) (fun hHeld=>?_)
 clear hK K
 try simp only [Act.put,List.getElem_toArray,List.getElem_cons_zero,List.getElem_cons_succ,List.setIfInBounds_toArray,List.set_cons_zero,List.set_cons_succ]
 refine tkn 18 ?_ rfl ?_ ?_;rotate_left;·(rintro w ⟨s2,s3,s6,s0,sa,sb,sc⟩;go_simp;try rfl)
 try simp only [Act.put,List.getElem_toArray,List.getElem_cons_zero,List.getElem_cons_succ,List.setIfInBounds_toArray,List.set_cons_zero,List.set_cons_succ]
 refine tkn 19 ?_ rfl ?_ ?_;rotate_left;·(rintro w ⟨s2,s3,s6,s0,sa,sb,sc⟩;go_simp;try rfl)
 try simp only [Act.put,List.getElem_toArray,List.getElem_cons_zero,List.getElem_cons_succ,List.setIfInBounds_toArray,List.set_cons_zero,List.set_cons_succ]
 refine wpAnyH_done (by kernel_rfl) ?_ _
 have G5:Hid (Gb W w5):=GB5.out _ gg
 have S5:Hid (w4.heap.size<=w5.heap.size/\w3.heap.size<=w4.heap.size):=⟨gg.size,G4.out.size⟩
 have A5:Hid (RdA w5 (.slice h1 h2 h3) (.slice i1 i2 i3) (.slice j1 j2 j3) an/\OwnA w5 w2.heap.size w3.heap.size (.slice h1 h2 h3) (.slice i1 i2 i3) (.slice j1 j2 j3)):=by
  refine rda_same HA.out.1 HA.out.2 (fun j hj1 hj2=>?_) (by have:=S5.out;omega)
  have h4:=S5.out.2
  rw [gg.block j (show j < w4.drew.heap.size from Nat.lt_of_lt_of_le hj2 h4) (by have:=GL.out;simp;omega)]
  exact G4.out.block j hj2
 obtain ⟨x2,x3,x6,_,a0,a1,a2⟩:=hHeld
 have t1:=gb_keeps G5.out TM.out.2
 have cO:=fun V (g':Gb w5 V)=>obeys_sea HS.out KK.out.1 KK.out.2.1 KK.out.2.2 ((TM.out.1.gb G5.out).gb g') ((HQ.out.gb G5.out).gb g') (A5.out.1.gb g')
 simp only [<- (EK.out.1:k=(K:Int)),<- (EK.out.2:b=(Bb:Int))] at cO
 have GD:Gb w5 w5.drew:=⟨rfl,rfl,rfl,Nat.le_refl _,fun _ _=>rfl⟩
 have AX:Hid (w5.cell? ⟨ab,0,none⟩=some (.slice h1 h2 h3)/\w5.cell? ⟨ab,1,none⟩=some (.slice i1 i2 i3)/\w5.cell? ⟨ab,2,none⟩=some (.slice j1 j2 j3)):=⟨a0,a1,a2⟩
 clear cB cE SQ gg GB5 HA
 generalize rs.length=tn at *
 go_wp2_with fail
 refine wp_region_held_drew (S:=fun V=>Gb w5 V) (by kernel_rfl) (GD) (fun hHeld=>?_)
 refine tkn 0 ?_ rfl ?_ ?_;rotate_left;·(intro w hSw;obtain ⟨s0,s1,s2,s3,s4,s5,s6⟩:=kp7 hSw x2 x3 x6 t1 a0 a1 a2;go_simp;try rfl)
 try simp only [Act.put,List.getElem_toArray,List.getElem_cons_zero,List.setIfInBounds_toArray,List.set_cons_zero,List.set_cons_succ]
 refine tkn 1 ?_ rfl ?_ ?_;rotate_left;·(intro w hSw;obtain ⟨s0,s1,s2,s3,s4,s5,s6⟩:=kp7 hSw x2 x3 x6 t1 a0 a1 a2;go_simp;try rfl)
 try simp only [Act.put,List.getElem_toArray,List.getElem_cons_zero,List.getElem_cons_succ,List.setIfInBounds_toArray,List.set_cons_zero,List.set_cons_succ]
 refine tkn 2 ?_ rfl ?_ ?_;rotate_left;·(intro w hSw;obtain ⟨s0,s1,s2,s3,s4,s5,s6⟩:=kp7 hSw x2 x3 x6 t1 a0 a1 a2;go_simp;try rfl)
 try simp only [Act.put,List.getElem_toArray,List.getElem_cons_zero,List.getElem_cons_succ,List.setIfInBounds_toArray,List.set_cons_zero,List.set_cons_succ]
 refine tkn 3 ?_ rfl ?_ ?_;rotate_left;·(intro w hSw;obtain ⟨s0,s1,s2,s3,s4,s5,s6⟩:=kp7 hSw x2 x3 x6 t1 a0 a1 a2;go_simp;try rfl)
 try simp only [Act.put,List.getElem_toArray,List.getElem_cons_zero,List.getElem_cons_succ,List.setIfInBounds_toArray,List.set_cons_zero,List.set_cons_succ]
 refine tkn 4 ?_ rfl ?_ ?_;rotate_left;·(intro w hSw;obtain ⟨s0,s1,s2,s3,s4,s5,s6⟩:=kp7 hSw x2 x3 x6 t1 a0 a1 a2;go_simp;try rfl)
 try simp only [Act.put,List.getElem_toArray,List.getElem_cons_zero,List.getElem_cons_succ,List.setIfInBounds_toArray,List.set_cons_zero,List.set_cons_succ]
 refine tkn 5 ?_ rfl ?_ ?_;rotate_left;·(intro w hSw;obtain ⟨s0,s1,s2,s3,s4,s5,s6⟩:=kp7 hSw x2 x3 x6 t1 a0 a1 a2;go_simp;try rfl)
 try simp only [Act.put,List.getElem_toArray,List.getElem_cons_zero,List.getElem_cons_succ,List.setIfInBounds_toArray,List.set_cons_zero,List.set_cons_succ]
 refine tkn 6 ?_ rfl ?_ ?_;rotate_left;·(intro w hSw;obtain ⟨s0,s1,s2,s3,s4,s5,s6⟩:=kp7 hSw x2 x3 x6 t1 a0 a1 a2;go_simp;try rfl)
 try simp only [Act.put,List.getElem_toArray,List.getElem_cons_zero,List.getElem_cons_succ,List.setIfInBounds_toArray,List.set_cons_zero,List.set_cons_succ]
 refine tkn 7 ?_ rfl ?_ ?_;rotate_left;·(intro w hSw;obtain ⟨s0,s1,s2,s3,s4,s5,s6⟩:=kp7 hSw x2 x3 x6 t1 a0 a1 a2;go_simp;try rfl)
 try simp only [Act.put,List.getElem_toArray,List.getElem_cons_zero,List.getElem_cons_succ,List.setIfInBounds_toArray,List.set_cons_zero,List.set_cons_succ]
 refine tkn 8 ?_ rfl ?_ ?_;rotate_left;·(intro w hSw;obtain ⟨s0,s1,s2,s3,s4,s5,s6⟩:=kp7 hSw x2 x3 x6 t1 a0 a1 a2;go_simp;try rfl)
 try simp only [Act.put,List.getElem_toArray,List.getElem_cons_zero,List.getElem_cons_succ,List.setIfInBounds_toArray,List.set_cons_zero,List.set_cons_succ]
 refine tkn 9 ?_ rfl ?_ ?_;rotate_left;·(intro w hSw;obtain ⟨s0,s1,s2,s3,s4,s5,s6⟩:=kp7 hSw x2 x3 x6 t1 a0 a1 a2;go_simp;try rfl)
 try simp only [Act.put,List.getElem_toArray,List.getElem_cons_zero,List.getElem_cons_succ,List.setIfInBounds_toArray,List.set_cons_zero,List.set_cons_succ]
 refine tkn 10 ?_ rfl ?_ ?_;rotate_left;·(intro w hSw;obtain ⟨s0,s1,s2,s3,s4,s5,s6⟩:=kp7 hSw x2 x3 x6 t1 a0 a1 a2;go_simp;try rfl)
 try simp only [Act.put,List.getElem_toArray,List.getElem_cons_zero,List.getElem_cons_succ,List.setIfInBounds_toArray,List.set_cons_zero,List.set_cons_succ]
 refine rdn 11 rfl (fun K hK=>?_)
 go_simp
 refine (cO _ hHeld).mono ?_
 rintro e w6 ⟨rfl,g6⟩
 refine hK.out _ _ (gb_trans hHeld g6) (fun hHeld=>?_)
 clear hK K
 try simp only [Act.put,List.getElem_toArray,List.getElem_cons_zero,List.getElem_cons_succ,List.setIfInBounds_toArray,List.set_cons_zero,List.set_cons_succ]
 refine tkn 12 ?_ rfl ?_ ?_;rotate_left;·(intro w hSw;obtain ⟨s0,s1,s2,s3,s4,s5,s6⟩:=kp7 hSw x2 x3 x6 t1 a0 a1 a2;go_simp;try rfl)
 try simp only [Act.put,List.getElem_toArray,List.getElem_cons_zero,List.getElem_cons_succ,List.setIfInBounds_toArray,List.set_cons_zero,List.set_cons_succ]
 refine wpAnyH_done (by kernel_rfl) ?_ _
 have G56:Hid (Gb w5 w6):=hHeld
 have cS2:=HS.out.call w6 _ (gb_trans G5.out G56.out) (HQ.out.gb (gb_trans G5.out G56.out))
 rw [<- (EK.out.1:k=(K:Int)),<- (EK.out.2:b=(Bb:Int))] at cS2
 have x2:=gb_keeps hHeld x2
 have x3:=gb_keeps hHeld x3
 have x6:=gb_keeps hHeld x6
 have t1:=gb_keeps hHeld t1
 clear hHeld cO GD a0 a1 a2
 go_wp2_with fail
 refine cS2.mono ?_
 rintro e w7 ⟨uh,us,ur,rfl,g7,hA2,hO2⟩
 obtain ⟨k1,k2,k3,l1,l2,l3,n1,n2,n3,f1,f2,f3⟩:∃ h1 h2 h3 i1 i2 i3 j1 j2 j3,uh=.slice h1 h2 h3/\us=.slice i1 i2 i3/\ur=.slice j1 j2 j3:=by
  obtain ⟨a1,c1,e1,_⟩:=hA2.hits.form
  obtain ⟨a2,c2,e2,_⟩:=hA2.seen
  obtain ⟨a3,c3,e3,_⟩:=hA2.rest
  exact ⟨_,_,_,_,_,_,_,_,_,e1,e2,e3⟩
 subst f1 f2 f3
 obtain ⟨w8,hw8⟩:∃ w8,w8=w7.alloc (.cells #[.slice k1 k2 k3,.slice l1 l2 l3,.slice n1 n2 n3] 51):=⟨_,rfl⟩
 obtain ⟨cb,hcb⟩:∃ cb,cb=w7.heap.size:=⟨_,rfl⟩
 have g8:Gb w7 w8:=by rw [hw8];exact gb_alloc (Below.refl _ _) _
 have b0:w8.cell? ⟨cb,0,none⟩=some (.slice k1 k2 k3):=by rw [hcb,hw8];simp [go_sem]
 have b1:w8.cell? ⟨cb,1,none⟩=some (.slice l1 l2 l3):=by rw [hcb,hw8];simp [go_sem]
 have b2:w8.cell? ⟨cb,2,none⟩=some (.slice n1 n2 n3):=by rw [hcb,hw8];simp [go_sem]
 have G58:Hid (Gb w5 w8):=gb_trans G56.out (gb_trans g7 g8)
 have a0:=gb_keeps G58.out AX.out.1
 have a1:=gb_keeps G58.out AX.out.2.1
 have a2:=gb_keeps G58.out AX.out.2.2
 have x2:=gb_keeps (gb_trans g7 g8) x2
 have x3:=gb_keeps (gb_trans g7 g8) x3
 have x6:=gb_keeps (gb_trans g7 g8) x6
 have t1:=gb_keeps (gb_trans g7 g8) t1
 have B8:Hid (RdA w8 (.slice k1 k2 k3) (.slice l1 l2 l3) (.slice n1 n2 n3) an/\OwnA w8 w6.heap.size w7.heap.size (.slice k1 k2 k3) (.slice l1 l2 l3) (.slice n1 n2 n3)):=⟨hA2.gb g8,hO2.gb g8⟩
 have A8:Hid (RdA w8 (.slice h1 h2 h3) (.slice i1 i2 i3) (.slice j1 j2 j3) an/\OwnA w8 w2.heap.size w3.heap.size (.slice h1 h2 h3) (.slice i1 i2 i3) (.slice j1 j2 j3)):=⟨A5.out.1.gb G58.out,A5.out.2.gb G58.out⟩
 have SZ:Hid (w3.heap.size<=w6.heap.size/\w7.heap.size<=w8.heap.size):=⟨by have:=S5.out;have:=G56.out.size;omega,g8.size⟩
 have cA:=kanswer_c A8.out.1 B8.out.1 HS.out.few
 have S67:Hid (w6.heap.size<=w7.heap.size):=g7.size
 clear cS2 hA2 hO2 g7 g8
 have HCB:Hid (cb=w7.heap.size):=hcb
 rw [hw8] at a0 a1 a2
 go_wp2_with fail
 rw [<- hw8,<- hcb]
 rw [<- hw8] at a0 a1 a2
 clear hw8 hcb
 refine cA.mono ?_
 rintro e w9 ⟨rfl,g9⟩
 have cP:=spoil_c (A8.out.2.gb g9)
 have a0:=gb_keeps g9 a0
 have a1:=gb_keeps g9 a1
 have a2:=gb_keeps g9 a2
 have G59:Hid (Gb w5 w9):=gb_trans G58.out g9
 have B9:Hid (RdA w9 (.slice k1 k2 k3) (.slice l1 l2 l3) (.slice n1 n2 n3) an/\OwnA w9 w6.heap.size w7.heap.size (.slice k1 k2 k3) (.slice l1 l2 l3) (.slice n1 n2 n3)):=⟨B8.out.1.gb g9,B8.out.2.gb g9⟩
 have XX:Hid (w9.cell? ⟨W.heap.size,2,none⟩=some (.int .i64 k)/\w9.cell? ⟨W.heap.size,3,none⟩=some (.int .i64 b)/\w9.cell? ⟨W.heap.size,6,none⟩=some (.slice qa qn qc)/\w9.cell? ⟨ub,1,none⟩=some (.slice ta tn tc)/\w9.cell? ⟨cb,0,none⟩=some (.slice k1 k2 k3)/\w9.cell? ⟨cb,1,none⟩=some (.slice l1 l2 l3)/\w9.cell? ⟨cb,2,none⟩=some (.slice n1 n2 n3)) :=
  ⟨gb_keeps g9 x2,gb_keeps g9 x3,gb_keeps g9 x6,gb_keeps g9 t1,gb_keeps g9 b0,gb_keeps g9 b1,gb_keeps g9 b2⟩
 have S9:Hid (w8.heap.size<=w9.heap.size):=g9.size
 clear cA g9 x2 x3 x6 t1 b0 b1 b2
 go_wp2_with fail
 refine cP.mono ?_
 rintro e wa ⟨rfl,mid⟩
 have hub:=HM.out.mem.2 ub HM.out.mem.1
 have lo:W.heap.size < w2.heap.size:=by have:=GL.out;omega
 have GA:Hid (Gb W wa):=mid.gb (gb_trans G5.out G59.out) (by omega)
 have hsz:w3.heap.size<=w7.heap.size:=by
  have h:=B9.out.2.top
  have h1:=SZ.out.1
  have h2:=GL.out
  have h3:=S67.out
  omega
 have BA:Hid (RdA wa (.slice k1 k2 k3) (.slice l1 l2 l3) (.slice n1 n2 n3) an):=(rda_same B9.out.1 B9.out.2 (fun j hj1 hj2=>mid.block j (by have:=B9.out.2.top;omega) (.inr (by have:=SZ.out.1;omega))) (Nat.le_trans B9.out.2.top mid.size)).1
 have x2:wa.cell? ⟨W.heap.size,2,none⟩=some (.int .i64 k):=mid_cell mid (.inl lo) XX.out.1
 have x3:wa.cell? ⟨W.heap.size,3,none⟩=some (.int .i64 b):=mid_cell mid (.inl lo) XX.out.2.1
 have x6:wa.cell? ⟨W.heap.size,6,none⟩=some (.slice qa qn qc):=mid_cell mid (.inl lo) XX.out.2.2.1
 have t1:wa.cell? ⟨ub,1,none⟩=some (.slice ta tn tc):=mid_cell mid (.inl (by omega)) XX.out.2.2.2.1
 have b0:wa.cell? ⟨cb,0,none⟩=some (.slice k1 k2 k3):=mid_cell mid (.inr (by have:=HCB.out;omega)) XX.out.2.2.2.2.1
 have b1:wa.cell? ⟨cb,1,none⟩=some (.slice l1 l2 l3):=mid_cell mid (.inr (by have:=HCB.out;omega)) XX.out.2.2.2.2.2.1
 have b2:wa.cell? ⟨cb,2,none⟩=some (.slice n1 n2 n3):=mid_cell mid (.inr (by have:=HCB.out;omega)) XX.out.2.2.2.2.2.2
 have cO:=fun V (g':Gb wa V)=>obeys_sea HS.out KK.out.1 KK.out.2.1 KK.out.2.2 ((TM.out.1.gb GA.out).gb g') ((HQ.out.gb GA.out).gb g') (BA.out.gb g')
 simp only [<- (EK.out.1:k=(K:Int)),<- (EK.out.2:b=(Bb:Int))] at cO
 have GD:Gb wa wa.drew:=⟨rfl,rfl,rfl,Nat.le_refl _,fun _ _=>rfl⟩
 clear cP mid a0 a1 a2 hub lo hsz
 go_wp2_with fail
 refine wp_region_held_drew (S:=fun V=>Gb wa V) (by kernel_rfl) (GD) (fun hHeld=>?_)
 refine tkn 0 ?_ rfl ?_ ?_;rotate_left;·(intro w hSw;obtain ⟨s0,s1,s2,s3,s4,s5,s6⟩:=kp7 hSw x2 x3 x6 t1 b0 b1 b2;go_simp;try rfl)
 try simp only [Act.put,List.getElem_toArray,List.getElem_cons_zero,List.setIfInBounds_toArray,List.set_cons_zero,List.set_cons_succ]
 refine tkn 1 ?_ rfl ?_ ?_;rotate_left;·(intro w hSw;obtain ⟨s0,s1,s2,s3,s4,s5,s6⟩:=kp7 hSw x2 x3 x6 t1 b0 b1 b2;go_simp;try rfl)
 try simp only [Act.put,List.getElem_toArray,List.getElem_cons_zero,List.getElem_cons_succ,List.setIfInBounds_toArray,List.set_cons_zero,List.set_cons_succ]
 refine tkn 2 ?_ rfl ?_ ?_;rotate_left;·(intro w hSw;obtain ⟨s0,s1,s2,s3,s4,s5,s6⟩:=kp7 hSw x2 x3 x6 t1 b0 b1 b2;go_simp;try rfl)
 try simp only [Act.put,List.getElem_toArray,List.getElem_cons_zero,List.getElem_cons_succ,List.setIfInBounds_toArray,List.set_cons_zero,List.set_cons_succ]
 refine tkn 3 ?_ rfl ?_ ?_;rotate_left;·(intro w hSw;obtain ⟨s0,s1,s2,s3,s4,s5,s6⟩:=kp7 hSw x2 x3 x6 t1 b0 b1 b2;go_simp;try rfl)
 try simp only [Act.put,List.getElem_toArray,List.getElem_cons_zero,List.getElem_cons_succ,List.setIfInBounds_toArray,List.set_cons_zero,List.set_cons_succ]
 refine tkn 4 ?_ rfl ?_ ?_;rotate_left;·(intro w hSw;obtain ⟨s0,s1,s2,s3,s4,s5,s6⟩:=kp7 hSw x2 x3 x6 t1 b0 b1 b2;go_simp;try rfl)
 try simp only [Act.put,List.getElem_toArray,List.getElem_cons_zero,List.getElem_cons_succ,List.setIfInBounds_toArray,List.set_cons_zero,List.set_cons_succ]
 refine tkn 5 ?_ rfl ?_ ?_;rotate_left;·(intro w hSw;obtain ⟨s0,s1,s2,s3,s4,s5,s6⟩:=kp7 hSw x2 x3 x6 t1 b0 b1 b2;go_simp;try rfl)
 try simp only [Act.put,List.getElem_toArray,List.getElem_cons_zero,List.getElem_cons_succ,List.setIfInBounds_toArray,List.set_cons_zero,List.set_cons_succ]
 refine tkn 6 ?_ rfl ?_ ?_;rotate_left;·(intro w hSw;obtain ⟨s0,s1,s2,s3,s4,s5,s6⟩:=kp7 hSw x2 x3 x6 t1 b0 b1 b2;go_simp;try rfl)
 try simp only [Act.put,List.getElem_toArray,List.getElem_cons_zero,List.getElem_cons_succ,List.setIfInBounds_toArray,List.set_cons_zero,List.set_cons_succ]
 refine tkn 7 ?_ rfl ?_ ?_;rotate_left;·(intro w hSw;obtain ⟨s0,s1,s2,s3,s4,s5,s6⟩:=kp7 hSw x2 x3 x6 t1 b0 b1 b2;go_simp;try rfl)
 try simp only [Act.put,List.getElem_toArray,List.getElem_cons_zero,List.getElem_cons_succ,List.setIfInBounds_toArray,List.set_cons_zero,List.set_cons_succ]
 refine tkn 8 ?_ rfl ?_ ?_;rotate_left;·(intro w hSw;obtain ⟨s0,s1,s2,s3,s4,s5,s6⟩:=kp7 hSw x2 x3 x6 t1 b0 b1 b2;go_simp;try rfl)
 try simp only [Act.put,List.getElem_toArray,List.getElem_cons_zero,List.getElem_cons_succ,List.setIfInBounds_toArray,List.set_cons_zero,List.set_cons_succ]
 refine tkn 9 ?_ rfl ?_ ?_;rotate_left;·(intro w hSw;obtain ⟨s0,s1,s2,s3,s4,s5,s6⟩:=kp7 hSw x2 x3 x6 t1 b0 b1 b2;go_simp;try rfl)
 try simp only [Act.put,List.getElem_toArray,List.getElem_cons_zero,List.getElem_cons_succ,List.setIfInBounds_toArray,List.set_cons_zero,List.set_cons_succ]
 refine tkn 10 ?_ rfl ?_ ?_;rotate_left;·(intro w hSw;obtain ⟨s0,s1,s2,s3,s4,s5,s6⟩:=kp7 hSw x2 x3 x6 t1 b0 b1 b2;go_simp;try rfl)
 try simp only [Act.put,List.getElem_toArray,List.getElem_cons_zero,List.getElem_cons_succ,List.setIfInBounds_toArray,List.set_cons_zero,List.set_cons_succ]
 refine tkn 11 ?_ rfl ?_ ?_;rotate_left;·(intro w hSw;obtain ⟨s0,s1,s2,s3,s4,s5,s6⟩:=kp7 hSw x2 x3 x6 t1 b0 b1 b2;go_simp;try rfl)
 try simp only [Act.put,List.getElem_toArray,List.getElem_cons_zero,List.getElem_cons_succ,List.setIfInBounds_toArray,List.set_cons_zero,List.set_cons_succ]
 refine tkn 12 ?_ rfl ?_ ?_;rotate_left;·(intro w hSw;obtain ⟨s0,s1,s2,s3,s4,s5,s6⟩:=kp7 hSw x2 x3 x6 t1 b0 b1 b2;go_simp;try rfl)
 try simp only [Act.put,List.getElem_toArray,List.getElem_cons_zero,List.getElem_cons_succ,List.setIfInBounds_toArray,List.set_cons_zero,List.set_cons_succ]
 refine rdn 13 rfl (fun K hK=>?_)
 go_simp
 refine (cO _ hHeld).mono ?_
 rintro e wb ⟨rfl,gb⟩
 refine hK.out _ _ (gb_trans hHeld gb) (fun hHeld=>?_)
 clear hK K
 try simp only [Act.put,List.getElem_toArray,List.getElem_cons_zero,List.getElem_cons_succ,List.setIfInBounds_toArray,List.set_cons_zero,List.set_cons_succ]
 refine tkn 14 ?_ rfl ?_ ?_;rotate_left;·(intro w hSw;obtain ⟨s0,s1,s2,s3,s4,s5,s6⟩:=kp7 hSw x2 x3 x6 t1 b0 b1 b2;go_simp;try rfl)
 try simp only [Act.put,List.getElem_toArray,List.getElem_cons_zero,List.getElem_cons_succ,List.setIfInBounds_toArray,List.set_cons_zero,List.set_cons_succ]
 refine tkn 15 ?_ rfl ?_ ?_;rotate_left;·(intro w hSw;obtain ⟨s0,s1,s2,s3,s4,s5,s6⟩:=kp7 hSw x2 x3 x6 t1 b0 b1 b2;go_simp;try rfl)
 try simp only [Act.put,List.getElem_toArray,List.getElem_cons_zero,List.getElem_cons_succ,List.setIfInBounds_toArray,List.set_cons_zero,List.set_cons_succ]
 refine wpAnyH_done (by kernel_rfl) ?_ _
 have GF:Hid (Gb W wb):=gb_trans GA.out hHeld
 clear hHeld cO x2 x3 x6 t1 b0 b1 b2 GD
 go_wp2
 go_ret
 exact ⟨rfl,GF.out⟩
end Go.Proofs.YtgbgejflmbhigaaGreat
