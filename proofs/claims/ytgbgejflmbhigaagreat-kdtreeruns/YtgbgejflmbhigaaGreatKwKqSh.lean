import Derived.Test.YtgbgejflmbhigaaGreatKw49
import Derived.Test.YtgbgejflmbhigaaGreatKw41
import Derived.Test.YtgbgejflmbhigaaGreatKw33
import Derived.Test.YtgbgejflmbhigaaGreatKw12
namespace Go.Proofs.YtgbgejflmbhigaaGreat
open Go.RowKit Go.Sort
set_option maxRecDepth 100000
set_option maxHeartbeats 4000000
structure Sq (V:World) (B:Nat) (k b:Int) (vq:Value) (ub m ab:Nat) (a0 a1 a2:Value):Prop where
 x2:V.cell? ⟨B,2,none⟩=some (.int .i64 k)
 x3:V.cell? ⟨B,3,none⟩=some (.int .i64 b)
 x6:V.cell? ⟨B,6,none⟩=some vq
 t0:V.cell? ⟨ub,0,none⟩=some (.int .i64 (m:Int))
 a0:V.cell? ⟨ab,0,none⟩=some a0
 a1:V.cell? ⟨ab,1,none⟩=some a1
 a2:V.cell? ⟨ab,2,none⟩=some a2
theorem Sq.grown {V V':World} {B:Nat} {k b:Int} {vq:Value} {ub m ab g:Nat} {a0 a1 a2:Value} (h:Sq V B k b vq ub m ab a0 a1 a2) (gr:V.grownBy V' (some g)) (n1:B ≠ g) (n2:ub ≠ g) (n3:ab ≠ g):Sq V' B k b vq ub m ab a0 a1 a2 :=
 ⟨gr.cell h.x2 (by simpa using n1),gr.cell h.x3 (by simpa using n1),gr.cell h.x6 (by simpa using n1),gr.cell h.t0 (by simpa using n2),gr.cell h.a0 (by simpa using n3),gr.cell h.a1 (by simpa using n3),gr.cell h.a2 (by simpa using n3)⟩
theorem ksearches_no {Iq:Nat->Prop} {W:World} {tb ub m leaf:Nat} {rs:List Rw} {F G:List Nat} (ht:TreeAt Iq W tb m leaf rs F) (hm:TbAt W ub m rs G) {ra qa:Option Addr} {rn rc qn qc:Nat} {ql:List Int} (hq:RdI W (.slice qa qn qc) ql) (hl:ql.length<=65536) (kd id k b ri:Int) (hz:srchE m ql k b ≠ 0) :
  Calls Tryz.prog 24 #[.pointer (some ⟨tb,0,none⟩),.pointer (some ⟨ub,0,none⟩),.agg #[.int .i64 kd,.int .i64 id,.int .i64 k,.int .i64 b,.int .i64 ri,.slice ra rn rc,.slice qa qn qc]] W fun e w'=>e=.returned (.bool true)/\Gb W w':=by
 obtain ⟨z,hzz⟩:∃ z,z=srchE m ql k b:=⟨_,rfl⟩
 have ZE:Hid (srchE m ql k b=z):=hzz.symm
 have hz:z ≠ 0:=by rw [hzz];exact hz
 clear hzz
 have HT:Hid (TreeAt Iq W tb m leaf rs F):=ht
 have HM:Hid (TbAt W ub m rs G):=hm
 have HQ:Hid (RdI W (.slice qa qn qc) ql):=hq
 have HL:Hid (ql.length<=65536):=hl
 have QN:Hid (qn=ql.length):=by obtain ⟨_,_,e,_⟩:=hq;injection e
 obtain ⟨W1,hW1⟩:∃ W1,W1=W.alloc (.cells #[.int .i64 kd,.int .i64 id,.int .i64 k,.int .i64 b,.int .i64 ri,.slice ra rn rc,.slice qa qn qc] 41):=⟨_,rfl⟩
 have G0:Hid (Gb W W1):=by unfold Hid;rw [hW1];exact gb_alloc (Below.refl _ _) _
 have S1:Hid (W1.heap.size=W.heap.size + 1):=by unfold Hid;rw [hW1];simp
 have X:Hid (W1.cell? ⟨W.heap.size,2,none⟩=some (.int .i64 k)/\W1.cell? ⟨W.heap.size,3,none⟩=some (.int .i64 b)/\W1.cell? ⟨W.heap.size,6,none⟩=some (.slice qa qn qc)):=by
  unfold Hid;rw [hW1];exact ⟨by simp [go_sem],by simp [go_sem],by simp [go_sem]⟩
 have cL:=lend_c (hq.gb G0.out) hl
 rw [<- QN.out] at cL
 clear ht hm hq hl
 go_enter Tryz.func24,Tryz.ntmps24
 go_wp2_with fail
 rw [<- hW1]
 clear hW1
 refine cL.mono ?_
 rintro e w2 ⟨g,rfl,lent,g2⟩
 have LT2:Hid (Lent w2 W1.heap.size g ql):=lent
 have G2:Hid (Gb W1 w2):=g2
 have GL:Hid (W.heap.size < g/\g < w2.heap.size):=⟨by have:=lent.1;have:=S1.out;omega,(Array.getElem?_eq_some_iff.1 lent.2).1⟩
 have u2:RdI w2 (.slice (some ⟨g,0,none⟩) qn (qn + 1)) ql:=by have:=lent.rd;rw [<- QN.out] at this;exact this
 clear cL lent g2
 have x2:=gb_keeps G2.out X.out.1
 have x3:=gb_keeps G2.out X.out.2.1
 have cS:=ksearch_no (HT.out.gb (gb_trans G0.out G2.out)) u2 k b (by rw [(ZE.out:srchE m ql k b=z)];exact hz)
 rw [(ZE.out:srchE m ql k b=z)] at cS
 clear u2
 go_wp2_with fail
 refine cS.mono ?_
 rintro e w3 ⟨rfl,g3⟩
 have G3:Hid (Gb w2 w3):=g3
 clear cS g3 x2 x3
 obtain ⟨h1,h2,h3,i1,i2,i3,j1,j2,j3,eh⟩:∃ (h1:Option Addr) (h2 h3:Nat) (i1:Option Addr) (i2 i3:Nat) (j1:Option Addr) (j2 j3:Nat),(h1=none/\h2=0/\h3=0)/\(i1=none/\i2=0/\i3=0)/\j1=none/\j2=0/\j3=0:=⟨none,0,0,none,0,0,none,0,0,⟨rfl,rfl,rfl⟩,⟨rfl,rfl,rfl⟩,rfl,rfl,rfl⟩
 obtain ⟨⟨rfl,rfl,rfl⟩,⟨rfl,rfl,rfl⟩,rfl,rfl,rfl⟩:=eh
 have hzb:(z == 0)=false:=by rw [beq_eq_false_iff_ne];exact hz
 have hzn:(z != 0)=true:=by rw [bne,hzb];rfl
 obtain ⟨w4,hw4⟩:∃ w4,w4=w3.alloc (.cells #[.slice none 0 0,.slice none 0 0,.slice none 0 0] 51):=⟨_,rfl⟩
 obtain ⟨ab,hab⟩:∃ ab,ab=w3.heap.size:=⟨_,rfl⟩
 have G4:Hid (Gb w3 w4):=by unfold Hid;rw [hw4];exact gb_alloc (Below.refl _ _) _
 have GW4:Hid (Gb W w4):=gb_trans (gb_trans G0.out G2.out) (gb_trans G3.out G4.out)
 have G24:Hid (Gb W1 w4):=gb_trans G2.out (gb_trans G3.out G4.out)
 obtain ⟨ta,tc,t0,t1,trd,_⟩:=HM.out.rd
 have SQ:Sq w4.drew W.heap.size k b (.slice qa qn qc) ub m ab (.slice none 0 0) (.slice none 0 0) (.slice none 0 0) :=
  ⟨gb_keeps G24.out X.out.1,gb_keeps G24.out X.out.2.1,gb_keeps G24.out X.out.2.2,gb_keeps GW4.out t0,by rw [hab];show w4.cell? _=_;rw [hw4];simp [go_sem],by rw [hab];show w4.cell? _=_;rw [hw4];simp [go_sem],by rw [hab];show w4.cell? _=_;rw [hw4];simp [go_sem]⟩
 have cB:Calls Tryz.prog 22 #[.slice (some ⟨g,0,none⟩) qn (qn + 1),.slice qa qn qc] w4.drew fun e w'=>e=.returned (.bool true)/\w4.drew.grownBy w' (some g):=by
  have gd:Gb w4 w4.drew:=(Below.refl _ _).drew
  have:=back_c ((LT2.out.gb (gb_trans G3.out G4.out)).gb gd) ((HQ.out.gb GW4.out).gb gd) HL.out
  rw [<- QN.out] at this
  exact this
 have hub:=HM.out.mem.2 ub HM.out.mem.1
 have NE:Hid (W.heap.size ≠ g/\ub ≠ g/\ab ≠ g):=by
  have h1:=GL.out
  have h2:=G3.out.size
  have h3:=(gb_trans G0.out G2.out).size
  unfold Hid
  omega
 have GB5:Hid (∀ w5,w4.drew.grownBy w5 (some g)->Gb W w5):=fun w5 k=>below_grown (gb_trans GW4.out (Below.refl _ _).drew) k (fun j e=>by injection e with e;have:=GL.out;omega) GW4.out.size
 have cE:∀ V,Gb W V->Calls Tryz.prog 48 #[.slice qa qn qc,.int .i64 (m:Int),.int .i64 k,.int .i64 b] V fun e w'=>e=.returned (.int .i64 z)/\V=w':=fun V gv=>by
  have:=rsearched_c (HQ.out.gb gv) (m:Int) k b
  rw [srch_fs,(ZE.out:srchE m ql k b=z)] at this
  exact this
 have TM:Hid (RdW W (.slice ta rs.length tc) rs/\W.cell? ⟨ub,1,none⟩=some (.slice ta rs.length tc)):=⟨trd,t1⟩
 clear t0 t1 trd hub
 go_wp2_with fail
 rw [<- hw4,<- hab]
 clear hw4 hab
 refine wp_region_held_drew (S:=fun V=>Sq V W.heap.size k b (.slice qa qn qc) ub m ab (.slice none 0 0) (.slice none 0 0) (.slice none 0 0)) (by kernel_rfl) (SQ) (fun hHeld=>?_)
 refine tkn 0 ?_ rfl ?_ ?_;rotate_left;·(rintro w ⟨s2,s3,s6,s0,sa,sb,sc⟩;go_simp;try rfl)
 try simp only [Act.put,List.getElem_toArray,List.getElem_cons_zero,List.setIfInBounds_toArray,List.set_cons_zero,List.set_cons_succ]
 refine tkn 1 ?_ rfl ?_ ?_;rotate_left;·(rintro w ⟨s2,s3,s6,s0,sa,sb,sc⟩;go_simp;try rfl)
 try simp only [Act.put,List.getElem_toArray,List.getElem_cons_zero,List.getElem_cons_succ,List.setIfInBounds_toArray,List.set_cons_zero,List.set_cons_succ]
 refine tkn 2 ?_ rfl ?_ ?_;rotate_left;·(rintro w ⟨s2,s3,s6,s0,sa,sb,sc⟩;go_simp;try rfl)
 try simp only [Act.put,List.getElem_toArray,List.getElem_cons_zero,List.getElem_cons_succ,List.setIfInBounds_toArray,List.set_cons_zero,List.set_cons_succ]
 refine rdn 3 rfl (fun K hK=>?_)
 go_simp
 refine cB.mono ?_
 rintro e w5 ⟨rfl,gg⟩
 refine hK.out _ _ (hHeld.grown gg NE.out.1 NE.out.2.1 NE.out.2.2) (fun hHeld=>?_)
 clear hK K
 try simp only [Act.put,List.getElem_toArray,List.getElem_cons_zero,List.getElem_cons_succ,List.setIfInBounds_toArray,List.set_cons_zero,List.set_cons_succ]
 refine tkn 4 ?_ rfl ?_ ?_;rotate_left;·(rintro w ⟨s2,s3,s6,s0,sa,sb,sc⟩;go_simp;try rfl)
 try simp only [Act.put,List.getElem_toArray,List.getElem_cons_zero,List.getElem_cons_succ,List.setIfInBounds_toArray,List.set_cons_zero,List.set_cons_succ]
 refine tkn 5 ?_ rfl ?_ ?_;rotate_left;·(rintro w ⟨s2,s3,s6,s0,sa,sb,sc⟩;go_simp;try rfl)
 try simp only [Act.put,List.getElem_toArray,List.getElem_cons_zero,List.getElem_cons_succ,List.setIfInBounds_toArray,List.set_cons_zero,List.set_cons_succ]
 refine tkn 6 ?_ rfl ?_ ?_;rotate_left;·(rintro w ⟨s2,s3,s6,s0,sa,sb,sc⟩;go_simp;try rfl)
 try simp only [Act.put,List.getElem_toArray,List.getElem_cons_zero,List.getElem_cons_succ,List.setIfInBounds_toArray,List.set_cons_zero,List.set_cons_succ]
 refine tkn 7 ?_ rfl ?_ ?_;rotate_left;·(rintro w ⟨s2,s3,s6,s0,sa,sb,sc⟩;go_simp;try rfl)
 try simp only [Act.put,List.getElem_toArray,List.getElem_cons_zero,List.getElem_cons_succ,List.setIfInBounds_toArray,List.set_cons_zero,List.set_cons_succ]
 refine tkn 8 ?_ rfl ?_ ?_;rotate_left;·(rintro w ⟨s2,s3,s6,s0,sa,sb,sc⟩;go_simp;try rfl)
 try simp only [Act.put,List.getElem_toArray,List.getElem_cons_zero,List.getElem_cons_succ,List.setIfInBounds_toArray,List.set_cons_zero,List.set_cons_succ]
 refine tkn 9 ?_ rfl ?_ ?_;rotate_left;·(rintro w ⟨s2,s3,s6,s0,sa,sb,sc⟩;go_simp;try rfl)
 try simp only [Act.put,List.getElem_toArray,List.getElem_cons_zero,List.getElem_cons_succ,List.setIfInBounds_toArray,List.set_cons_zero,List.set_cons_succ]
 refine tkn 10 ?_ rfl ?_ ?_;rotate_left;·(rintro w ⟨s2,s3,s6,s0,sa,sb,sc⟩;go_simp;try rfl)
 try simp only [Act.put,List.getElem_toArray,List.getElem_cons_zero,List.getElem_cons_succ,List.setIfInBounds_toArray,List.set_cons_zero,List.set_cons_succ]
 refine tkn 11 ?_ rfl ?_ ?_;rotate_left;·(rintro w ⟨s2,s3,s6,s0,sa,sb,sc⟩;go_simp;try rfl)
 try simp only [Act.put,List.getElem_toArray,List.getElem_cons_zero,List.getElem_cons_succ,List.setIfInBounds_toArray,List.set_cons_zero,List.set_cons_succ]
 refine tkn 12 ?_ rfl ?_ ?_;rotate_left;·(rintro w ⟨s2,s3,s6,s0,sa,sb,sc⟩;go_simp;try rfl)
 try simp only [Act.put,List.getElem_toArray,List.getElem_cons_zero,List.getElem_cons_succ,List.setIfInBounds_toArray,List.set_cons_zero,List.set_cons_succ]
 refine tkn 13 ?_ rfl ?_ ?_;rotate_left;·(rintro w ⟨s2,s3,s6,s0,sa,sb,sc⟩;go_simp;try rfl)
 try simp only [Act.put,List.getElem_toArray,List.getElem_cons_zero,List.getElem_cons_succ,List.setIfInBounds_toArray,List.set_cons_zero,List.set_cons_succ]
 refine tkn 14 ?_ rfl ?_ ?_;rotate_left;·(rintro w ⟨s2,s3,s6,s0,sa,sb,sc⟩;go_simp;try rfl)
 try simp only [Act.put,List.getElem_toArray,List.getElem_cons_zero,List.getElem_cons_succ,List.setIfInBounds_toArray,List.set_cons_zero,List.set_cons_succ]
 refine tkn 15 ?_ rfl ?_ ?_;rotate_left;·(rintro w ⟨s2,s3,s6,s0,sa,sb,sc⟩;go_simp;try rfl)
 try simp only [Act.put,List.getElem_toArray,List.getElem_cons_zero,List.getElem_cons_succ,List.setIfInBounds_toArray,List.set_cons_zero,List.set_cons_succ]
 refine tkn 16 ?_ rfl ?_ ?_;rotate_left;·(rintro w ⟨s2,s3,s6,s0,sa,sb,sc⟩;go_simp;try rfl)
 try simp only [Act.put,List.getElem_toArray,List.getElem_cons_zero,List.getElem_cons_succ,List.setIfInBounds_toArray,List.set_cons_zero,List.set_cons_succ]
 refine rdn 17 rfl (fun K hK=>?_)
 go_simp
 refine (cE _ (GB5.out _ gg)).mono ?_
 rintro e w5' ⟨rfl,e5⟩
 subst e5
 refine hK.out _ _ (hHeld) (fun hHeld=>?_)
 clear hK K
 try simp only [Act.put,List.getElem_toArray,List.getElem_cons_zero,List.getElem_cons_succ,List.setIfInBounds_toArray,List.set_cons_zero,List.set_cons_succ]
 refine tkn 18 ?_ rfl ?_ ?_;rotate_left;·(rintro w ⟨s2,s3,s6,s0,sa,sb,sc⟩;go_simp;try rfl)
 try simp only [Act.put,List.getElem_toArray,List.getElem_cons_zero,List.getElem_cons_succ,List.setIfInBounds_toArray,List.set_cons_zero,List.set_cons_succ]
 refine tkn 19 ?_ rfl ?_ ?_;rotate_left;·(rintro w ⟨s2,s3,s6,s0,sa,sb,sc⟩;go_simp;try rfl)
 try simp only [Act.put,List.getElem_toArray,List.getElem_cons_zero,List.getElem_cons_succ,List.setIfInBounds_toArray,List.set_cons_zero,List.set_cons_succ]
 refine wpAnyH_done (by kernel_rfl) ?_ _
 have G5:Hid (Gb W w5):=GB5.out _ gg
 obtain ⟨_,_,_,_,a0,a1,a2⟩:=hHeld
 have cA:=fun V=>kanswer_c (krda_nil V) (krda_nil V) kfew_nil
 clear cB cE SQ gg GB5
 go_wp2_with fail
 refine (cA _).mono ?_
 rintro e w6 ⟨rfl,g6⟩
 have G6:Hid (Gb W w6):=gb_trans G5.out g6
 clear cA a0 a1 a2 g6
 go_wp2
 go_ret
 exact ⟨rfl,G6.out⟩
end Go.Proofs.YtgbgejflmbhigaaGreat
