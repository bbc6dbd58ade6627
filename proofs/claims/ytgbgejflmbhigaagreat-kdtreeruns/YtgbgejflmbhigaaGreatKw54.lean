import Derived.Test.YtgbgejflmbhigaaGreatKw50
import Derived.Test.YtgbgejflmbhigaaGreatKw53
import Derived.Test.YtgbgejflmbhigaaGreatKwKqSh2
import Derived.Test.YtgbgejflmbhigaaGreatKw40
namespace Go.Proofs.YtgbgejflmbhigaaGreat
open Go.RowKit Go.Sort
set_option maxRecDepth 100000
set_option maxHeartbeats 4000000
theorem kstep_put {w0 W:World} {tb ub m leaf:Nat} {rs:List Rw} (h:RunW w0 tb ub m leaf rs W) {ra qa:Option Addr} {rn rc qn qc:Nat} {rl ql:List Int} (hr:RdI w0 (.slice ra rn rc) rl) (_hq:RdI w0 (.slice qa qn qc) ql) (hl:rl.length<=65536/\ql.length<=65536) (id k b ri:Int) :
  Calls Tryz.prog 9 #[.pointer (some ⟨tb,0,none⟩),.pointer (some ⟨ub,0,none⟩),.agg #[.int .i64 1,.int .i64 id,.int .i64 k,.int .i64 b,.int .i64 ri,.slice ra rn rc,.slice qa qn qc]] W fun e w'=>e=.returned (.bool true)/\RunW w0 tb ub m leaf (if putE m rs (ri,rl)=0 then putRw rs (ri,rl) else rs) w':=by
 obtain ⟨pb,hpb⟩:∃ pb,pb=(decide (putE m rs (ri,rl)=0) && !hasId rs ri):=⟨_,rfl⟩
 obtain ⟨pe,hpe⟩:∃ pe,pe=putE m rs (ri,rl):=⟨_,rfl⟩
 obtain ⟨rp,hrp⟩:∃ rp,rp=(if putE m rs (ri,rl)=0 then putRw rs (ri,rl) else rs):=⟨_,rfl⟩
 have PP:Hid ((decide (putE m rs (ri,rl)=0) && !hasId rs ri)=pb/\putE m rs (ri,rl)=pe/\(if putE m rs (ri,rl)=0 then putRw rs (ri,rl) else rs)=rp):=⟨hpb.symm,hpe.symm,hrp.symm⟩
 rw [<- hrp]
 clear hpb hpe hrp
 obtain ⟨F,G,ta,tm,hF,hG,hFG,go⟩:=h
 obtain ⟨W1,hW1⟩:∃ W1,W1=W.alloc (.cells #[.int .i64 1,.int .i64 id,.int .i64 k,.int .i64 b,.int .i64 ri,.slice ra rn rc,.slice qa qn qc] 41):=⟨_,rfl⟩
 have G0:Hid (Gb W W1):=by unfold Hid;rw [hW1];exact gb_alloc (Below.refl _ _) _
 have S1:Hid (W1.heap.size=W.heap.size + 1):=by unfold Hid;rw [hW1];simp
 have RN:Hid (rn=rl.length):=by obtain ⟨_,_,e,_⟩:=hr;injection e
 have X:Hid (W1.cell? ⟨W.heap.size,4,none⟩=some (.int .i64 ri)/\W1.cell? ⟨W.heap.size,5,none⟩=some (.slice ra rn rc)):=by
  unfold Hid;rw [hW1];exact ⟨by simp [go_sem],by simp [go_sem]⟩
 have R1:=(hr.gb go).gb G0.out
 have cL:=lend_c R1 hl.1
 rw [<- RN.out] at cL
 have HR:Hid (RdI w0 (.slice ra rn rc) rl):=hr
 have HL:Hid (rl.length<=65536):=hl.1
 have HT:Hid (TreeAt IqT W tb m leaf rs F):=ta
 have HM:Hid (TbAt W ub m rs G):=tm
 have HX:Hid ((∀ x ∈ F,w0.heap.size<=x)/\(∀ x ∈ G,w0.heap.size<=x)/\(∀ x ∈ F,x ∉ G)/\Gb w0 W):=⟨hF,hG,hFG,go⟩
 have x5:=X.out.2
 clear hr _hq hl ta tm hF hG hFG go R1
 go_enter Tryz.func9,Tryz.ntmps9
 go_wp2_with fail
 rw [<- hW1]
 clear hW1
 refine cL.mono ?_
 rintro e w2 ⟨g,rfl,lent,g2⟩
 have GL:Hid (W.heap.size < g/\g < w2.heap.size):=⟨by have:=lent.1;have:=S1.out;omega,(Array.getElem?_eq_some_iff.1 lent.2).1⟩
 have G2:Hid (Gb W1 w2):=g2
 have u2:RdI w2 (.slice (some ⟨g,0,none⟩) rn (rn + 1)) rl:=by have:=lent.rd;rw [<- RN.out] at this;exact this
 have t2:TreeAt (fun k=>k ≠ g) w2 tb m leaf rs F:=HT.out.lift (gb_trans G0.out g2) (fun k hk _=>by have:=GL.out;omega) (fun k hk=>by have:=GL.out;omega)
 have gF:g ∉ F:=fun e=>by have:=HT.out.mem.2 g e;have:=GL.out;omega
 have cP:=put_c (xi:=ri) t2 u2 (fun b' o n c e hb=>by cases e;exact gF hb)
 have LN:Hid (Lent w2 W1.heap.size g rl):=lent
 have GF:Hid (g ∉ F):=gF
 have x4:=gb_keeps g2 X.out.1
 clear cL lent g2 u2 t2 gF x5
 rw [(PP.out.1:(decide (putE m rs (ri,rl)=0) && !hasId rs ri)=pb),(PP.out.2.2:(if putE m rs (ri,rl)=0 then putRw rs (ri,rl) else rs)=rp),(PP.out.2.1:putE m rs (ri,rl)=pe)] at cP
 go_wp2_with fail
 refine cP.mono ?_
 rintro e w3 ⟨rfl,F',t3,l3,k3⟩
 have K3:Hid (Tk.Kp (fun k=>k ∈ F) w2 w3):=k3
 have T3:Hid (TreeAt (fun k=>k ≠ g) w3 tb m leaf rp F'/\∀ y ∈ F',y ∈ F ∨ w2.heap.size<=y):=⟨t3,l3⟩
 have bF:W.heap.size ∉ F:=fun e=>by have:=HT.out.mem.2 _ e;omega
 have x4:=k3.cell x4 bF
 have x5:w3.cell? ⟨W.heap.size,5,none⟩=some (.slice ra rn rc):=k3.cell (gb_keeps G2.out X.out.2) bF
 have G03:Hid (Gb w0 w3):=(gb_trans HX.out.2.2.2 (gb_trans G0.out G2.out)).trans (k3.gr (gb_trans HX.out.2.2.2 (gb_trans G0.out G2.out)).size HX.out.1)
 have L3:Lent w3 W1.heap.size g rl:=⟨LN.out.1,by rw [k3.block g GL.out.2 GF.out];exact LN.out.2⟩
 have cB:=back_c L3 (HR.out.gb G03.out) HL.out
 rw [<- RN.out] at cB
 have X5:Hid (w3.cell? ⟨W.heap.size,4,none⟩=some (.int .i64 ri)/\w3.cell? ⟨W.heap.size,5,none⟩=some (.slice ra rn rc)):=⟨x4,x5⟩
 clear cP t3 l3 k3 bF L3 x4
 go_wp2_with fail
 refine cB.mono ?_
 rintro e w4 ⟨rfl,k4⟩
 have gF':g ∉ F':=fun e=>by
  rcases T3.out.2 g e with h | h
  ·exact GF.out h
  ·have:=GL.out;omega
 have t4:TreeAt IqT w4 tb m leaf rp F':=(T3.out.1.one k4 gF').wk (fun _ _ _=>trivial) (upT _)
 have gs:W.heap.size<=w2.heap.size:=(gb_trans G0.out G2.out).size
 have hg0:W.heap.size ≠ g:=by have:=GL.out;omega
 have KW:Tk.Kp (fun k=>k ∈ F) W w4:=by
  have k2:Tk.Kp (fun k=>k ∈ F) W w3:=(Tk.Kp.of_gr (gb_trans G0.out G2.out)).trans K3.out
  refine ⟨k4.os.trans k2.os,k4.tape.trans k2.tape,k4.output.trans k2.output,Nat.le_trans k2.size k4.size,fun j hj hn=>?_⟩
  rw [k4.block j (Nat.lt_of_lt_of_le hj k2.size) (by have:=GL.out;simp;omega)]
  exact k2.block j hj hn
 have tm4:TbAt w4 ub m rs G:=HM.out.kp KW HT.out.noint (fun x hx hs=>HX.out.2.2.1 x hs hx)
 have G04:Gb w0 w4:=HX.out.2.2.2.trans (KW.gr HX.out.2.2.2.size HX.out.1)
 have cM:=tput_c (xi:=ri) tm4 (HR.out.gb G04)
 rw [(PP.out.1:(decide (putE m rs (ri,rl)=0) && !hasId rs ri)=pb),(PP.out.2.2:(if putE m rs (ri,rl)=0 then putRw rs (ri,rl) else rs)=rp),(PP.out.2.1:putE m rs (ri,rl)=pe)] at cM
 have x4:w4.cell? ⟨W.heap.size,4,none⟩=some (.int .i64 ri):=k4.cell X5.out.1 (by simpa using hg0)
 have x5:w4.cell? ⟨W.heap.size,5,none⟩=some (.slice ra rn rc):=k4.cell X5.out.2 (by simpa using hg0)
 have T4:Hid (TreeAt IqT w4 tb m leaf rp F'/\TbAt w4 ub m rs G/\Gb w0 w4/\W.heap.size<=w4.heap.size):=⟨t4,tm4,G04,KW.size⟩
 clear cB k4 gF' t4 tm4 KW G04 gs hg0
 go_wp2_with fail
 refine cM.mono ?_
 rintro e w5 ⟨rfl,hO⟩
 have FN:Hid (RunW w0 tb ub m leaf rp w5):=RunW.both HX.out.1 HX.out.2.1 HX.out.2.2.1 HX.out.2.2.2 HM.out.mem.2 T4.out.1 (fun y hy=>by
  rcases T3.out.2 y hy with h | h
  ·exact .inl h
  ·have:=(gb_trans G0.out G2.out).size;exact .inr (by omega)) T4.out.2.2.1 T4.out.2.2.2 T4.out.2.1 hO
 clear cM hO x4 x5
 go_wp2
 go_ret
 exact ⟨rfl,FN.out⟩
theorem kstep_del {w0 W:World} {tb ub m leaf:Nat} {rs:List Rw} (h:RunW w0 tb ub m leaf rs W) {ra qa:Option Addr} {rn rc qn qc:Nat} {rl ql:List Int} (_hr:RdI w0 (.slice ra rn rc) rl) (_hq:RdI w0 (.slice qa qn qc) ql) (_hl:rl.length<=65536/\ql.length<=65536) (id k b ri:Int) :
  Calls Tryz.prog 9 #[.pointer (some ⟨tb,0,none⟩),.pointer (some ⟨ub,0,none⟩),.agg #[.int .i64 2,.int .i64 id,.int .i64 k,.int .i64 b,.int .i64 ri,.slice ra rn rc,.slice qa qn qc]] W fun e w'=>e=.returned (.bool true)/\RunW w0 tb ub m leaf (delRw rs id) w':=by
 obtain ⟨F,G,ta,tm,hF,hG,hFG,go⟩:=h
 obtain ⟨W1,hW1⟩:∃ W1,W1=W.alloc (.cells #[.int .i64 2,.int .i64 id,.int .i64 k,.int .i64 b,.int .i64 ri,.slice ra rn rc,.slice qa qn qc] 41):=⟨_,rfl⟩
 have G0:Hid (Gb W W1):=by unfold Hid;rw [hW1];exact gb_alloc (Below.refl _ _) _
 have S1:Hid (W1.heap.size=W.heap.size + 1):=by unfold Hid;rw [hW1];simp
 have x1:W1.cell? ⟨W.heap.size,1,none⟩=some (.int .i64 id):=by rw [hW1];simp [go_sem]
 have cD:=delete_c (ta.gb G0.out) id
 have HT:Hid (TreeAt IqT W tb m leaf rs F):=ta
 have HM:Hid (TbAt W ub m rs G):=tm
 have HX:Hid ((∀ x ∈ F,w0.heap.size<=x)/\(∀ x ∈ G,w0.heap.size<=x)/\(∀ x ∈ F,x ∉ G)/\Gb w0 W):=⟨hF,hG,hFG,go⟩
 obtain ⟨hb,hhb⟩:∃ hb,hb=hasId rs id:=⟨_,rfl⟩
 have HB:Hid (hasId rs id=hb):=hhb.symm
 rw [<- hhb] at cD
 have X1:Hid (W1.cell? ⟨W.heap.size,1,none⟩=some (.int .i64 id)):=x1
 clear _hr _hq _hl ta tm hF hG hFG go hhb x1
 go_enter Tryz.func9,Tryz.ntmps9
 go_wp2_with fail
 rw [<- hW1]
 clear hW1
 refine cD.mono ?_
 rintro e w2 ⟨rfl,F',t2,l2,k2⟩
 have bF:W.heap.size ∉ F:=fun e=>by have:=HT.out.mem.2 _ e;omega
 have x1:=k2.cell X1.out bF
 have KW:Tk.Kp (fun k=>k ∈ F) W w2:=(Tk.Kp.of_gr G0.out).trans k2
 have tm2:TbAt w2 ub m rs G:=HM.out.kp KW HT.out.noint (fun x hx hs=>HX.out.2.2.1 x hs hx)
 have G02:Gb w0 w2:=HX.out.2.2.2.trans (KW.gr HX.out.2.2.2.size HX.out.1)
 have cM:=tdel_c tm2 id
 rw [(HB.out:hasId rs id=hb)] at cM
 have T2:Hid (TreeAt IqT w2 tb m leaf (delRw rs id) F'/\(∀ y ∈ F',y ∈ F ∨ W.heap.size<=y)/\TbAt w2 ub m rs G/\Gb w0 w2/\W.heap.size<=w2.heap.size):=⟨t2,fun y hy=>by
  rcases l2 y hy with h | h
  ·exact .inl h
  ·have:=G0.out.size;exact .inr (by omega),tm2,G02,KW.size⟩
 clear cD t2 l2 k2 bF KW tm2 G02
 go_wp2_with fail
 refine cM.mono ?_
 rintro e w3 ⟨rfl,hO⟩
 have FN:Hid (RunW w0 tb ub m leaf (delRw rs id) w3):=RunW.both HX.out.1 HX.out.2.1 HX.out.2.2.1 HX.out.2.2.2 HM.out.mem.2 T2.out.1 T2.out.2.1 T2.out.2.2.2.1 T2.out.2.2.2.2 T2.out.2.2.1 hO
 clear cM hO x1
 go_wp2
 go_ret
 exact ⟨rfl,FN.out⟩
theorem kstep_ask {w0 W:World} {tb ub m leaf:Nat} {rs:List Rw} (h:RunW w0 tb ub m leaf rs W) {ra qa:Option Addr} {rn rc qn qc:Nat} {rl ql:List Int} (_hr:RdI w0 (.slice ra rn rc) rl) (hq:RdI w0 (.slice qa qn qc) ql) (hl:rl.length<=65536/\ql.length<=65536) (kd id k b ri:Int) (h1:kd ≠ 1) (h2:kd ≠ 2) :
  Calls Tryz.prog 9 #[.pointer (some ⟨tb,0,none⟩),.pointer (some ⟨ub,0,none⟩),.agg #[.int .i64 kd,.int .i64 id,.int .i64 k,.int .i64 b,.int .i64 ri,.slice ra rn rc,.slice qa qn qc]] W fun e w'=>e=.returned (.bool true)/\RunW w0 tb ub m leaf rs w':=by
 have RR:Hid (RunW w0 tb ub m leaf rs W):=h
 obtain ⟨F,G,ta,tm,hF,hG,hFG,go⟩:=h
 obtain ⟨W1,hW1⟩:∃ W1,W1=W.alloc (.cells #[.int .i64 kd,.int .i64 id,.int .i64 k,.int .i64 b,.int .i64 ri,.slice ra rn rc,.slice qa qn qc] 41):=⟨_,rfl⟩
 have G0:Hid (Gb W W1):=by unfold Hid;rw [hW1];exact gb_alloc (Below.refl _ _) _
 have S1:Hid (W1.heap.size=W.heap.size + 1):=by unfold Hid;rw [hW1];simp
 have X:Hid (W1.cell? ⟨W.heap.size,0,none⟩=some (.int .i64 kd)/\W1.cell? ⟨W.heap.size,1,none⟩=some (.int .i64 id)/\W1.cell? ⟨W.heap.size,2,none⟩=some (.int .i64 k)/\W1.cell? ⟨W.heap.size,3,none⟩=some (.int .i64 b)/\W1.cell? ⟨W.heap.size,4,none⟩=some (.int .i64 ri)/\W1.cell? ⟨W.heap.size,5,none⟩=some (.slice ra rn rc)/\W1.cell? ⟨W.heap.size,6,none⟩=some (.slice qa qn qc)):=by
  unfold Hid;rw [hW1];exact ⟨by simp [go_sem],by simp [go_sem],by simp [go_sem],by simp [go_sem],by simp [go_sem],by simp [go_sem],by simp [go_sem]⟩
 have cK:=klooks_c (ta.gb G0.out) (tm.gb G0.out)
 have cS:Calls Tryz.prog 24 #[.pointer (some ⟨tb,0,none⟩),.pointer (some ⟨ub,0,none⟩),.agg #[.int .i64 kd,.int .i64 id,.int .i64 k,.int .i64 b,.int .i64 ri,.slice ra rn rc,.slice qa qn qc]] W1 fun e w'=>e=.returned (.bool true)/\Gb W1 w':=by
  by_cases hz:srchE m ql k b=0
  ·exact ksearches_ok (ta.gb G0.out) (tm.gb G0.out) ((hq.gb go).gb G0.out) hl.2 kd id k b ri hz
  ·exact ksearches_no (ta.gb G0.out) (tm.gb G0.out) ((hq.gb go).gb G0.out) hl.2 kd id k b ri hz
 clear _hr hq hl ta tm hF hG hFG go
 have h1b:(kd == 1)=false:=by rw [beq_eq_false_iff_ne];exact h1
 have h2b:(kd == 2)=false:=by rw [beq_eq_false_iff_ne];exact h2
 by_cases h3:kd=3
 ·subst h3
  clear cK h1 h2 h1b h2b
  go_enter Tryz.func9,Tryz.ntmps9
  go_wp2_with fail
  rw [<- hW1]
  clear hW1
  refine cS.mono ?_
  rintro e w2 ⟨rfl,g2⟩
  have FN:Hid (RunW w0 tb ub m leaf rs w2):=RR.out.gb (gb_trans G0.out g2)
  clear cS g2
  go_wp2
  go_ret
  exact ⟨rfl,FN.out⟩
 ·have h3b:(kd == 3)=false:=by rw [beq_eq_false_iff_ne];exact h3
  clear cS
  go_enter Tryz.func9,Tryz.ntmps9
  go_wp2_with fail
  rw [<- hW1]
  clear hW1
  refine cK.mono ?_
  rintro e w2 ⟨rfl,g2⟩
  have FN:Hid (RunW w0 tb ub m leaf rs w2):=RR.out.gb (gb_trans G0.out g2)
  clear cK g2
  go_wp2
  go_ret
  exact ⟨rfl,FN.out⟩
theorem kstep_c {w0 W:World} {tb ub m leaf:Nat} {rs:List Rw} (h:RunW w0 tb ub m leaf rs W) {ra qa:Option Addr} {rn rc qn qc:Nat} {rl ql:List Int} (hr:RdI w0 (.slice ra rn rc) rl) (hq:RdI w0 (.slice qa qn qc) ql) (hl:rl.length<=65536/\ql.length<=65536) (kd id k b ri:Int) :
  Calls Tryz.prog 9 #[.pointer (some ⟨tb,0,none⟩),.pointer (some ⟨ub,0,none⟩),.agg #[.int .i64 kd,.int .i64 id,.int .i64 k,.int .i64 b,.int .i64 ri,.slice ra rn rc,.slice qa qn qc]] W fun e w'=>e=.returned (.bool true)/\RunW w0 tb ub m leaf (playRw m rs ((kd,id,k,b),(ri,rl),ql)) w':=by
 unfold playRw
 dsimp only
 by_cases h1:kd=1
 ·subst h1
  rw [if_pos rfl]
  exact kstep_put h hr hq hl id k b ri
 ·rw [if_neg h1]
  by_cases h2:kd=2
  ·subst h2
   rw [if_pos rfl]
   exact kstep_del h hr hq hl id k b ri
  ·rw [if_neg h2]
   exact kstep_ask h hr hq hl kd id k b ri h1 h2
end Go.Proofs.YtgbgejflmbhigaaGreat

namespace Go.Proofs.YtgbgejflmbhigaaGreat
open Go.RowKit Go.Sort
set_option maxRecDepth 100000
set_option maxHeartbeats 8000000
theorem runs_no {w:World} {v sc:Value} {l:List Rw} {ops:List Opv} (hv:RdW w v l) (hwf:Wf l) (hrow:∀ i,i < l.length->l[i]!.2.length<=4611686018427387904) (hs:RdO w sc ops) (hop:∀ i,i < ops.length->ops[i]!.2.1.2.length<=1152921504606846976/\ops[i]!.2.2.length<=1152921504606846976) (d A B S:Int) (hz:bldE l d A ≠ 0) :
  Calls Tryz.prog 3 #[v,.int .i64 d,.agg #[.int .i64 A,.int .i64 B,.int .u64 S],sc] w fun e w'=>e=.returned (.bool true)/\Gb w w':=by
 have g1:Gb w (w.alloc (.cells #[.int .i64 A,.int .i64 B,.int .u64 S] 25)):=gb_alloc (Below.refl _ _) _
 obtain ⟨w1,hw1⟩:∃ w1,w1=w.alloc (.cells #[.int .i64 A,.int .i64 B,.int .u64 S] 25):=⟨_,rfl⟩
 rw [<- hw1] at g1
 have c0:w1.cell? ⟨w.heap.size,0,none⟩=some (.int .i64 A):=by rw [hw1];simp [go_sem]
 have c1:w1.cell? ⟨w.heap.size,1,none⟩=some (.int .i64 B):=by rw [hw1];simp [go_sem]
 have c2:w1.cell? ⟨w.heap.size,2,none⟩=some (.int .u64 S):=by rw [hw1];simp [go_sem]
 have cB:=kbig_f (hv.gb g1) hwf.1 hrow (hs.gb g1) hop
 have cW:=fun W (g:Gb w W)=>kwrong_c (hv.gb g) hwf.1 d A B S
 have cU:=fun W (g:Gb w W)=>kbuild_no (hv.gb g) hwf d A B S hz
 have HV:Hid (RdW w v l):=hv
 have HS:Hid (RdO w sc ops):=hs
 obtain ⟨av,cv,ev,_⟩:=hv
 obtain ⟨sca,scc,es,_⟩:=hs
 subst ev es
 obtain ⟨n,hn⟩:∃ n,n=l.length:=⟨_,rfl⟩
 have NL:Hid (n=l.length):=hn
 obtain ⟨no,hno⟩:∃ no,no=ops.length:=⟨_,rfl⟩
 have NO:Hid (no=ops.length):=hno
 rw [<- hn,<- hno] at cB ⊢
 rw [<- hn] at HV
 rw [<- hno] at HS
 simp only [<- hn] at cW cU
 have CW:Hid _:=cW
 have CU:Hid _:=cU
 clear cW cU hn hno hwf hrow hop
 generalize bldE l d A=z at *
 have hzb:(z == 0)=false:=by rw [beq_eq_false_iff_ne];exact hz
 have hzn:(z != 0)=true:=by rw [bne,hzb];rfl
 go_enter Tryz.func3,Tryz.ntmps3
 go_wp2_with fail
 rw [<- hw1]
 clear hw1
 refine cB.mono ?_
 rintro e w2 ⟨bb,rfl,g2,hfit⟩
 have d0:=gb_keeps g2 c0
 have d1:=gb_keeps g2 c1
 have d2:=gb_keeps g2 c2
 have G2:Hid (Gb w w2):=gb_trans g1 g2
 clear cB c0 c1 c2
 cases bb with
 | true =>
  clear hfit d0 d1 d2
  go_wp2
  refine bodyPost_ret (v:=.bool true) (by simp [results,Tryz.results3,go_sem]) rfl ⟨rfl,?_⟩
  exact G2.out
 | false =>
  have FT:Hid (Fit l ops):=hfit rfl
  clear hfit
  have cU:=CU.out w2 G2.out
  clear g1 g2
  go_wp2_with fail
  refine cU.mono ?_
  rintro e w3 ⟨rfl,g3⟩
  have G3:Hid (Gb w w3):=gb_trans G2.out g3
  have d0:=gb_keeps g3 d0
  have d1:=gb_keeps g3 d1
  have d2:=gb_keeps g3 d2
  clear cU g3
  go_wp2_with fail
  refine (kawake_c _).mono ?_
  rintro e w4 ⟨rfl,g4⟩
  have G4:Hid (Gb w w4):=gb_trans G3.out g4
  have d0:=gb_keeps g4 d0
  have d1:=gb_keeps g4 d1
  have d2:=gb_keeps g4 d2
  have cW:=CW.out w4 G4.out
  clear g4
  go_wp2_with fail
  refine cW.mono ?_
  rintro e w5 ⟨rfl,g5⟩
  have G5:Hid (Gb w w5):=gb_trans G4.out g5
  clear cW g5 d0 d1 d2
  go_wp2
  refine bodyPost_ret (v:=.bool true) (by simp [results,Tryz.results3,go_sem]) rfl ⟨rfl,?_⟩
  exact G5.out
theorem runs_ok {w:World} {v sc:Value} {l:List Rw} {ops:List Opv} (hv:RdW w v l) (hwf:Wf l) (hrow:∀ i,i < l.length->l[i]!.2.length<=4611686018427387904) (hs:RdO w sc ops) (hop:∀ i,i < ops.length->ops[i]!.2.1.2.length<=1152921504606846976/\ops[i]!.2.2.length<=1152921504606846976) {m lf:Nat} (B S:Int) (hz:flatE l (m:Int)=0) (hlf:1<=lf/\lf<=64) :
  Calls Tryz.prog 3 #[v,.int .i64 (m:Int),.agg #[.int .i64 (lf:Int),.int .i64 B,.int .u64 S],sc] w fun e w'=>e=.returned (.bool true)/\Gb w w':=by
 have g1:Gb w (w.alloc (.cells #[.int .i64 (lf:Int),.int .i64 B,.int .u64 S] 25)):=gb_alloc (Below.refl _ _) _
 obtain ⟨w1,hw1⟩:∃ w1,w1=w.alloc (.cells #[.int .i64 (lf:Int),.int .i64 B,.int .u64 S] 25):=⟨_,rfl⟩
 rw [<- hw1] at g1
 have c0:w1.cell? ⟨w.heap.size,0,none⟩=some (.int .i64 (lf:Int)):=by rw [hw1];simp [go_sem]
 have c1:w1.cell? ⟨w.heap.size,1,none⟩=some (.int .i64 B):=by rw [hw1];simp [go_sem]
 have c2:w1.cell? ⟨w.heap.size,2,none⟩=some (.int .u64 S):=by rw [hw1];simp [go_sem]
 have cB:=kbig_f (hv.gb g1) hwf.1 hrow (hs.gb g1) hop
 have cU:=fun W (g:Gb w W)=>kbuild_ok (upT W) (hv.gb g) hwf (m:=m) hz hlf B S
 have ROK:Hid (RowsOk l (m:Int)):=(flatE_zero.1 hz).2
 have HV:Hid (RdW w v l):=hv
 have HS:Hid (RdO w sc ops):=hs
 obtain ⟨av,cv,ev,_⟩:=hv
 obtain ⟨sca,scc,es,_⟩:=hs
 subst ev es
 obtain ⟨n,hn⟩:∃ n,n=l.length:=⟨_,rfl⟩
 have NL:Hid (n=l.length):=hn
 obtain ⟨no,hno⟩:∃ no,no=ops.length:=⟨_,rfl⟩
 have NO:Hid (no=ops.length):=hno
 rw [<- hn,<- hno] at cB ⊢
 rw [<- hn] at HV
 rw [<- hno] at HS
 simp only [<- hn] at cU
 have CU:Hid _:=cU
 clear cU hn hno hwf hrow hop hz hlf
 go_enter Tryz.func3,Tryz.ntmps3
 go_wp2_with fail
 rw [<- hw1]
 clear hw1
 refine cB.mono ?_
 rintro e w2 ⟨bb,rfl,g2,hfit⟩
 have d0:=gb_keeps g2 c0
 have d1:=gb_keeps g2 c1
 have d2:=gb_keeps g2 c2
 have G2:Hid (Gb w w2):=gb_trans g1 g2
 clear cB c0 c1 c2
 cases bb with
 | true =>
  clear hfit d0 d1 d2
  go_wp2
  refine bodyPost_ret (v:=.bool true) (by simp [results,Tryz.results3,go_sem]) rfl ⟨rfl,?_⟩
  exact G2.out
 | false =>
  have FT:Hid (Fit l ops):=hfit rfl
  clear hfit
  have no2:no<=2000:=by have:=FT.out.few;have:=NO.out;omega
  have cU:=CU.out w2 G2.out
  clear g1 g2 CU
  go_wp2_with fail
  refine cU.mono ?_
  intro e w3 hO
  obtain ⟨tb,rs0,rfl,T3,pm,ri⟩:=trw_of hO
  have T3':Hid (TrW IqT w2 tb m lf rs0 w3):=T3
  have PM:Hid (rs0.Perm l/\Ris rs0):=⟨pm,ri⟩
  have cO:=tof_c (m:=m) ((HV.out.gb G2.out).gb T3.old) ROK.out ri pm
  clear cU hO T3 pm ri d0 d1 d2
  go_wp2_with fail
  refine cO.mono ?_
  rintro e w4 ⟨ub,G,rfl,tm,hG,g4⟩
  have R4:Hid (RunW w2 tb ub m lf rs0 w4):=by
   obtain ⟨F,t,hF,g⟩:=T3'.out
   have s:=g.size
   exact ⟨F,G,t.gb g4,tm,hF,fun x hx=>by have:=hG x hx;omega,fun x hx hy=>by have h1:=t.mem.2 x hx;have h2:=hG x hy;omega,gb_trans g g4⟩
  clear cO tm hG g4
  go_wp2
  go_loopw [12] (fun iv W=>∃ q:Nat,iv=.int .i64 (q:Int)/\q<=no/\Hid (RunW w2 tb ub m lf ((ops.take q).foldl (playRw m) rs0) W)) (fun iv _=>no - (intOf iv).toNat)
  case atStart=>exact ⟨0,rfl,Nat.zero_le _,R4⟩
  case round =>
   clear R4
   obtain ⟨q,rfl,hq,X⟩:=hrel
   by_cases hqn:q < no
   ·have hqi:(q:Int) < (no:Int):=by omega
    have hql:q < ops.length:=by have:=NO.out;omega
    have fo:=FT.out.op q hql
    obtain ⟨a,cap,ea,hO⟩:=(HS.out.gb G2.out)
    obtain ⟨bb,o,rv,qv,e0,⟨c0,c1,c2,c3,c4,c5,c6⟩,hr,hqq⟩:=hO q hql
    injection ea with ea1 ea2 ea3
    subst ea1 ea3 e0
    have go:=X.out.old
    have c0:=gb_keeps go c0
    have c1:=gb_keeps go c1
    have c2:=gb_keeps go c2
    have c3:=gb_keeps go c3
    have c4:=gb_keeps go c4
    have c5:=gb_keeps go c5
    have c6:=gb_keeps go c6
    obtain ⟨ra,rc,er,_⟩:=hr.rd0
    obtain ⟨qa,qc,eq,_⟩:=hqq.rd0
    subst er eq
    have cS:=kstep_c X.out hr hqq (by omega) ops[q]!.1.1 ops[q]!.1.2.1 ops[q]!.1.2.2.1 ops[q]!.1.2.2.2 ops[q]!.2.1.1
    have NX:Hid (∀ W',RunW w2 tb ub m lf (playRw m ((ops.take q).foldl (playRw m) rs0) ((ops[q]!.1.1,ops[q]!.1.2.1,ops[q]!.1.2.2.1,ops[q]!.1.2.2.2),(ops[q]!.2.1.1,ops[q]!.2.1.2),ops[q]!.2.2)) W'->RunW w2 tb ub m lf ((ops.take (q + 1)).foldl (playRw m) rs0) W'):=by
     intro W' h
     rw [List.take_succ_eq_append_getElem hql,List.foldl_append,<- getElem!_pos ops q hql]
     exact h
    generalize playRw m ((ops.take q).foldl (playRw m) rs0) ((ops[q]!.1.1,ops[q]!.1.2.1,ops[q]!.1.2.2.1,ops[q]!.1.2.2.2),(ops[q]!.2.1.1,ops[q]!.2.1.2),ops[q]!.2.2)=rn at *
    generalize ops[q]!.1.1=kd at *
    generalize ops[q]!.1.2.1=id at *
    generalize ops[q]!.1.2.2.1=kk at *
    generalize ops[q]!.1.2.2.2=bg at *
    generalize ops[q]!.2.1.1=xi at *
    generalize ops[q]!.2.1.2.length=rlen at *
    generalize ops[q]!.2.2.length=qlen at *
    clear hO ea2 hr hqq fo go hql X
    go_wp2_with fail
    refine cS.mono ?_
    rintro e w5 ⟨rfl,hR⟩
    have XN:Hid (RunW w2 tb ub m lf ((ops.take (q + 1)).foldl (playRw m) rs0) w5):=NX.out _ hR
    clear cS hR NX c0 c1 c2 c3 c4 c5 c6
    go_wp2
    go_roundw
    case rel=>exact ⟨q + 1,by first | rfl | go_num | simp,hqn,XN⟩
    case measure=>simp [intOf];omega
   ·have hqi:¬ (q:Int) < (no:Int):=by omega
    go_wp2_with fail
    refine (kawake_c _).mono ?_
    rintro e w5 ⟨rfl,g5⟩
    obtain ⟨FF,GG,t5,m5,_,_,_,o5⟩:=X.out.gb g5
    have cK:=klooks_c t5 m5
    have O5:Hid (Gb w w5):=gb_trans G2.out o5
    clear g5 t5 m5 o5 X
    go_wp2_with fail
    refine cK.mono ?_
    rintro e w6 ⟨rfl,g6⟩
    have O6:Hid (Gb w w6):=gb_trans O5.out g6
    clear cK g6
    go_wp2
    refine bodyPost_ret (v:=.bool true) (by simp [results,Tryz.results3,go_sem]) rfl ⟨rfl,?_⟩
    exact O6.out
end Go.Proofs.YtgbgejflmbhigaaGreat
