import Derived.Test.YtgbgejflmbhigaaGreatKwKqQ
import Derived.Laws.EntriesVeiled
import Derived.Test.YtgbgejflmbhigaaGreatKw12
import Derived.Test.YtgbgejflmbhigaaGreatKw22
namespace Go.Proofs.YtgbgejflmbhigaaGreat
open Go.RowKit Go.Sort
set_option maxRecDepth 100000
set_option maxHeartbeats 1000000
def PartOut (Iq:Nat->Prop) (w:World) (m:Nat) (d:List Rt) (e:Ending) (w':World):Prop :=
 Gb w w'/\(d=[]->e=.returned (.pointer none)) /\
 (d ≠ []->∃ b T F,e=.returned (.pointer (some ⟨b,0,none⟩))/\(∀ N,d.length<=N->TrO Iq w' T (N + 1) b F/\OkP T m N (T b)/\(rowsP T N (T b)).Perm (d.map rwR))/\F.Nodup/\∀ x ∈ F,w.heap.size<=x)
theorem own_cap {w:World} {B g n n' cap:Nat} {xs:List Value} (h:w.ownsRow B 39 2 (.slice (some ⟨g,0,none⟩) n cap) n' xs):n'<=cap:=by
 rcases h.2 with ⟨e,_⟩ | ⟨g',cap',cur,e,_,_,hle,_⟩
 ·cases e
 ·cases e;exact hle
theorem part_out {Iq:Nat->Prop} {w V w3 w4:World} {g3 m:Nat} {d:List Rt} {e:Ending} (gV:Gb w V) (hb:V.heap.size<=g3) (hl:g3 < w3.heap.size) (k3:Gb V w3) (h:CutOut Iq w3 g3 0 m d e w4) :
  ∃ pv,e=.returned (.pointer pv)/\PartOut Iq w m d e w4/\∀ (p:Addr) (y:Value),p.block < V.heap.size->w3.cell? p=some y->w4.cell? p=some y:=by
 have gw:Gb w w3:=gb_trans gV k3
 by_cases hd:d=[]
 ·obtain ⟨h1,h2⟩:=h.1 hd
  exact ⟨none,h1,⟨gb_trans gw h2,fun _=>h1,fun h=>absurd hd h⟩,fun p y _ hc=>gb_keeps h2 hc⟩
 ·obtain ⟨b,T,F,h1,h2,h3,h4,h5⟩:=h.2 hd
  have s:=gw.size
  have s2:=gV.size
  refine ⟨some ⟨b,0,none⟩,h1,⟨?_,fun e=>absurd e hd,fun _=>⟨b,T,F,h1,h2,h3,fun x hx=>by have:=h4 x hx;omega⟩⟩,fun p y hp hc=>h5.kp.cell hc (by intro e;omega)⟩
  exact gw.trans (h5.kp.gr s (fun k e=>by omega))
theorem partsOf_c {Iq:Nat->Prop} {m leaf:Nat} (hm:1<=m/\m<=64) (hlf:1<=leaf/\leaf<=100000) (d:List Rt) {w:World} {g o cap:Nat} (hR:RwRd w g o d) (hI:CutIn Iq w m d) :
  Calls Tryz.prog 33 #[.slice (some ⟨g,o,none⟩) d.length cap,.int .i64 (leaf:Int)] w fun e w'=>PartOut Iq w m d e w':=by
 have h512:=hI.ok.few
 rw [List.length_map] at h512
 have G0:Hid (Gb w ((w.alloc (.cells #[.int .i64 (leaf:Int)] 3)).alloc (.cells #[.func (.func 56) #[] #[.pointer (some ⟨w.heap.size,0,none⟩),.pointer (some ⟨w.heap.size + 1,0,none⟩)]] 103)).drew):=(gb_alloc (gb_alloc (Below.refl _ _) _) _).drew
 have cC:=cloneR_c (cap:=cap) (hR.gb G0.out) (by omega) (fun x hx=>by obtain ⟨a,c,e,_⟩:=(hI.vec x hx).rd;rw [e];rfl)
 have FS0:(fun W=>W.cell? ⟨w.heap.size + 1,0,none⟩=some (.func (.func 56) #[] #[.pointer (some ⟨w.heap.size,0,none⟩),.pointer (some ⟨w.heap.size + 1,0,none⟩)])/\W.cell? ⟨w.heap.size,0,none⟩=some (.int .i64 (leaf:Int))) ((w.alloc (.cells #[.int .i64 (leaf:Int)] 3)).alloc (.cells #[.func (.func 56) #[] #[.pointer (some ⟨w.heap.size,0,none⟩),.pointer (some ⟨w.heap.size + 1,0,none⟩)]] 103)).drew:=⟨by simp [go_sem],by simp [go_sem]⟩
 have hsz:((w.alloc (.cells #[.int .i64 (leaf:Int)] 3)).alloc (.cells #[.func (.func 56) #[] #[.pointer (some ⟨w.heap.size,0,none⟩),.pointer (some ⟨w.heap.size + 1,0,none⟩)]] 103)).drew.heap.size=w.heap.size + 2:=by simp only [World.size_drew,World.size_alloc]
 have CX:Hid (∀ w3 g3 c3,((w.alloc (.cells #[.int .i64 (leaf:Int)] 3)).alloc (.cells #[.func (.func 56) #[] #[.pointer (some ⟨w.heap.size,0,none⟩),.pointer (some ⟨w.heap.size + 1,0,none⟩)]] 103)).drew.heap.size<=g3->Gb ((w.alloc (.cells #[.int .i64 (leaf:Int)] 3)).alloc (.cells #[.func (.func 56) #[] #[.pointer (some ⟨w.heap.size,0,none⟩),.pointer (some ⟨w.heap.size + 1,0,none⟩)]] 103)).drew w3->RwAt w3 g3 0 d->d.length<=c3->w3.cell? ⟨w.heap.size,0,none⟩=some (.int .i64 (leaf:Int))->w3.cell? ⟨w.heap.size + 1,0,none⟩=some (.func (.func 56) #[] #[.pointer (some ⟨w.heap.size,0,none⟩),.pointer (some ⟨w.heap.size + 1,0,none⟩)]) ->
   Calls Tryz.prog 56 #[.slice (some ⟨g3,0,none⟩) d.length c3,.pointer (some ⟨w.heap.size,0,none⟩),.pointer (some ⟨w.heap.size + 1,0,none⟩)] w3 fun e w'=>CutOut Iq w3 g3 0 m d e w'):=by
  intro w3 g3 c3 hb k3 a3 hc h1 h2
  rw [hsz] at hb
  exact cut_c hm hlf d.length d (Nat.le_refl _) w3 g3 0 c3 a3 ⟨fun x hx=>((hI.vec x hx).gb G0.out).gb k3,hI.ok,(hI.up.gb G0.out).gb k3⟩ hc (by omega) (by omega) h1 h2
 have FV:Hid (∀ w3 w4 g3 e,((w.alloc (.cells #[.int .i64 (leaf:Int)] 3)).alloc (.cells #[.func (.func 56) #[] #[.pointer (some ⟨w.heap.size,0,none⟩),.pointer (some ⟨w.heap.size + 1,0,none⟩)]] 103)).drew.heap.size<=g3->g3 < w3.heap.size->Gb ((w.alloc (.cells #[.int .i64 (leaf:Int)] 3)).alloc (.cells #[.func (.func 56) #[] #[.pointer (some ⟨w.heap.size,0,none⟩),.pointer (some ⟨w.heap.size + 1,0,none⟩)]] 103)).drew w3->CutOut Iq w3 g3 0 m d e w4 ->
   ∃ pv,e=.returned (.pointer pv)/\PartOut Iq w m d e w4/\∀ b y,b < w.heap.size + 2->w3.cell? ⟨b,0,none⟩=some y->w4.cell? ⟨b,0,none⟩=some y):=by
  intro w3 w4 g3 e hb hl k3 hO
  obtain ⟨pv,h1,h2,h3⟩:=part_out G0.out hb hl k3 hO
  exact ⟨pv,h1,h2,fun b y hb hc=>h3 _ _ (by rw [hsz];exact hb) hc⟩
 obtain ⟨n,hN⟩:∃ n,n=d.length:=⟨_,rfl⟩
 simp only [<- hN] at cC CX
 rw [<- hN]
 clear hR hI hsz hN
 go_enter Tryz.func33,Tryz.ntmps33
 go_wp2_with fail
 refine wp_region_held_drew (S:=fun W=>W.cell? ⟨w.heap.size + 1,0,none⟩=some (.func (.func 56) #[] #[.pointer (some ⟨w.heap.size,0,none⟩),.pointer (some ⟨w.heap.size + 1,0,none⟩)])/\W.cell? ⟨w.heap.size,0,none⟩=some (.int .i64 (leaf:Int))) (by kernel_rfl) (FS0) (fun hHeld=>?_)
 refine tkn 0 ?_ rfl ?_ ?_;rotate_left;·(rintro w ⟨s0,s1⟩;go_simp;try rfl)
 try simp only [Act.put,List.getElem_toArray,List.getElem_cons_zero,List.setIfInBounds_toArray,List.set_cons_zero,List.set_cons_succ]
 refine tkn 1 ?_ rfl ?_ ?_;rotate_left;·(rintro w ⟨s0,s1⟩;go_simp;try rfl)
 try simp only [Act.put,List.getElem_toArray,List.getElem_cons_zero,List.getElem_cons_succ,List.setIfInBounds_toArray,List.set_cons_zero,List.set_cons_succ]
 refine rdn 2 rfl (fun K hK=>?_)
 go_simp
 go_fit cC
 rintro e w3 ⟨g3,c3,rfl,b3,l3,a3,k3,o3⟩
 refine hK.out _ _ (⟨gb_keeps k3 hHeld.1,gb_keeps k3 hHeld.2⟩) (fun hHeld=>?_)
 clear hK K
 try simp only [Act.put,List.getElem_toArray,List.getElem_cons_zero,List.getElem_cons_succ,List.setIfInBounds_toArray,List.set_cons_zero,List.set_cons_succ]
 have cX:=CX.out _ _ _ b3 k3 a3 (own_cap o3) hHeld.2 hHeld.1
 refine rdn 3 rfl (fun K hK=>?_)
 go_simp
 go_fit cX
 rintro e w4 hO
 have hv:=FV.out _ _ _ _ b3 l3 k3 hO
 obtain ⟨pv,rfl,hP,kk⟩:=hv
 refine hK.out _ _ (⟨kk _ _ (by omega) hHeld.1,kk _ _ (by omega) hHeld.2⟩) (fun hHeld=>?_)
 clear hK K
 try simp only [Act.put,List.getElem_toArray,List.getElem_cons_zero,List.getElem_cons_succ,List.setIfInBounds_toArray,List.set_cons_zero,List.set_cons_succ]
 refine tkn 4 ?_ rfl ?_ ?_;rotate_left;·(rintro w ⟨s0,s1⟩;go_simp;try rfl)
 try simp only [Act.put,List.getElem_toArray,List.getElem_cons_zero,List.getElem_cons_succ,List.setIfInBounds_toArray,List.set_cons_zero,List.set_cons_succ]
 refine wpAnyH_done (by kernel_rfl) ?_ _
 clear FS0 hHeld cX cC CX FV
 go_wp2
 go_ret
 exact hP
end Go.Proofs.YtgbgejflmbhigaaGreat

namespace Go.Proofs.YtgbgejflmbhigaaGreat
open Go.RowKit Go.Sort
def TreeAt (Iq:Nat->Prop) (w:World) (tb m leaf:Nat) (rs:List Rw) (F:List Nat):Prop:=∃ (g cap:Nat) (d:List Rt) (rt:Value) (F1:List Nat),
 w.heap[tb]? = some (.cells #[.int .i64 (m:Int),.int .i64 (leaf:Int),.slice (some ⟨g,0,none⟩) d.length cap,rt] 77 (0,0)) /\
 OwnRs Iq w (.slice (some ⟨g,0,none⟩) d.length cap) d/\d.map rwR=rs/\(rs.Pairwise fun x y=>x.1 < y.1)/\RowsOk rs (m:Int) /\
 ((d=[]/\rt=.pointer none/\F1=[]) ∨ ∃ b T,rt=.pointer (some ⟨b,0,none⟩)/\d ≠ []/\∀ N,d.length<=N->TrO Iq w T (N + 1) b F1/\OkP T m N (T b)/\(rowsP T N (T b)).Perm rs) /\
 F=tb :: g :: F1/\F.Nodup/\(1<=m/\m<=64)/\1<=leaf/\leaf<=64
theorem pick_lt {α:Type} {p:Nat->α->Prop} (a0:α) {n:Nat} (h:∀ i,i < n->∃ a,p i a):∃ f:Nat->α,∀ i,i < n->p i (f i):=by
 classical
 refine ⟨fun i=>if hi:i < n then (h i hi).choose else a0,fun i hi=>?_⟩
 simp only [dif_pos hi]
 exact (h i hi).choose_spec
theorem OwnC.rt {W:World} {B:Nat} {v:Value} {rs:List Rw} (h:OwnC W B v rs):∃ d:List Rt,d.map rwR=rs/\W.ownsRow B 39 2 v d.length (d.flatMap encR)/\∀ x ∈ d,Own W B x.2.1 x.2.2:=by
 obtain ⟨_,xs,h1,h2⟩:=h
 have hl:=h1.1
 have hc:∀ i,i < rs.length->∃ u,xs[i * 2]? = some (.int .i64 rs[i]!.1)/\xs[i * 2 + 1]? = some u/\Own W B u rs[i]!.2:=fun i hi=>by
  obtain ⟨a,u,b,c⟩:=h2 i hi
  exact ⟨u,a,b,c⟩
 obtain ⟨U,hU⟩:=pick_lt (p:=fun i u=>xs[i * 2]? = some (.int .i64 rs[i]!.1)/\xs[i * 2 + 1]? = some u/\Own W B u rs[i]!.2) (.slice none 0 0) hc
 have hdl:((List.range rs.length).map fun i=>((rs[i]!.1,U i,rs[i]!.2):Rt)).length=rs.length:=by simp
 refine ⟨(List.range rs.length).map fun i=>(rs[i]!.1,U i,rs[i]!.2),?_,?_,?_⟩
 ·apply List.ext_getElem (by simp)
  intro i h1 h2
  simp [h2]
 ·rw [hdl]
  have e:((List.range rs.length).map fun i=>((rs[i]!.1,U i,rs[i]!.2):Rt)).flatMap encR=xs:=by
   apply List.ext_getElem?
   intro t
   rw [flR_get]
   by_cases ht:t / 2 < rs.length
   ·rw [dif_pos (by rw [hdl];exact ht)]
    obtain ⟨a,b,_⟩:=hU (t / 2) ht
    simp only [List.getElem_map,List.getElem_range,encR]
    rcases Nat.mod_two_eq_zero_or_one t with h0 | h0
    ·rw [h0,show t=t / 2 * 2 by omega,a];simp
    ·rw [h0]
     have e2:t=t / 2 * 2 + 1:=by omega
     rw [show xs[t]? = xs[t / 2 * 2 + 1]? from by rw [<- e2],b];rfl
   ·rw [dif_neg (by rw [hdl];exact ht),List.getElem?_eq_none (by omega)]
  rw [e];exact h1
 ·intro x hx
  obtain ⟨i,hi,rfl⟩:=List.mem_map.1 hx
  exact (hU i (List.mem_range.1 hi)).2.2
theorem own_sorted {w w':World} {B g cap:Nat} {d d':List Rt} (h:w.ownsRow B 39 2 (.slice (some ⟨g,0,none⟩) d.length cap) d.length (d.flatMap encR)) (hr:RwAt w' g 0 d') (hs:Srt w w' g 0 d.length) (hl:d'.length=d.length) :
  w'.ownsRow B 39 2 (.slice (some ⟨g,0,none⟩) d'.length cap) d'.length (d'.flatMap encR):=by
 refine ⟨flR_len d',?_⟩
 rcases h.2 with ⟨e,_⟩ | ⟨g',cap',cur,e,hB,hh,hle,hmx,hsz,_⟩
 ·cases e
 ·cases e
  obtain ⟨c2,e2,s2,_⟩:=hs.blk cur hh
  obtain ⟨c3,e3,_,f3⟩:=hr
  rw [e2] at e3
  injection e3 with e3
  injection e3 with e3 _ _
  subst e3
  refine .inr ⟨g,cap,c2,rfl,hB,e2,by omega,hmx,by omega,?_⟩
  apply List.ext_getElem?
  intro t
  rw [flR_get]
  by_cases ht:t / 2 < d'.length
  ·rw [dif_pos ht,List.getElem?_take_of_lt (by omega),Array.getElem?_toList]
   obtain ⟨a,b⟩:=f3 (t / 2) ht
   rw [Nat.zero_add] at a b
   rcases Nat.mod_two_eq_zero_or_one t with h0 | h0
   ·rw [h0]
    rw [show c2[t]? = c2[t / 2 * 2]? from by rw [show t / 2 * 2=t by omega],a];rfl
   ·rw [h0]
    rw [show c2[t]? = c2[t / 2 * 2 + 1]? from by rw [show t / 2 * 2 + 1=t by omega],b];rfl
  ·rw [dif_neg ht,List.getElem?_eq_none (by rw [List.length_take];omega)]
theorem ci_neg (a b:Int):(¬ Tk.ci a b < 0) ↔ b<=a:=by
 unfold Tk.ci
 split
 ·omega
 ·split <;> omega
theorem rise_ids {d:List Rt} (h:d.Pairwise fun x y=>¬ Tk.ci y.1 x.1 < 0) (hid:(idsOf (d.map rwR)).Pairwise (· ≠ ·)):(d.map rwR).Pairwise fun x y=>x.1 < y.1:=by
 unfold idsOf at hid
 rw [List.pairwise_map] at hid ⊢
 rw [List.pairwise_map] at hid
 refine (h.and hid).imp ?_
 intro a b hab
 have h1:=(ci_neg _ _).1 hab.1
 have h2:=hab.2
 simp only [] at h2 ⊢
 omega
end Go.Proofs.YtgbgejflmbhigaaGreat

namespace Go.Proofs.YtgbgejflmbhigaaGreat
open Go.RowKit Go.Sort
theorem TrO.any {Iq:Nat->Prop} {w:World} {T:Nat->Pt} {m:Nat}:∀ n b F,TrO Iq w T (n + 1) b F->OkP T m n (T b)->∀ M,(rowsP T n (T b)).length<=M->TrO Iq w T (M + 1) b F/\OkP T m M (T b)/\rowsP T M (T b)=rowsP T n (T b)
 | 0,b,F,h,ok,M,hM=>by
  have hk:(T b).kids=none:=by rw [OkP] at ok;exact ok.1
  obtain ⟨vl,vh,vr,hp,h⟩:=h
  rw [hk] at h
  exact ⟨⟨vl,vh,vr,hp,by rw [hk];exact h⟩,(okP_leaf hk _).2 ((okP_leaf hk _).1 ok),by rw [rowsP_leaf hk,rowsP_leaf hk]⟩
 | n + 1,b,F,h,ok,M,hM=>by
  obtain ⟨vl,vh,vr,hp,h⟩:=h
  cases hk:(T b).kids with
  | none =>
   rw [hk] at h
   exact ⟨⟨vl,vh,vr,hp,by rw [hk];exact h⟩,(okP_leaf hk _).2 ((okP_leaf hk _).1 ok),by rw [rowsP_leaf hk,rowsP_leaf hk]⟩
  | some lh =>
   obtain ⟨l,hh⟩:=lh
   rw [hk] at h
   obtain ⟨h0,F1,F2,h1,h2,rfl⟩:=h
   obtain ⟨k,e,o1,o2,o3⟩:=okP_node hk ok
   have e':n=k:=by omega
   subst e'
   rw [rowsP_node hk,List.length_append] at hM
   have p1:=List.length_pos_iff.2 (okP_ne _ _ o1)
   have p2:=List.length_pos_iff.2 (okP_ne _ _ o2)
   obtain ⟨M',rfl⟩:∃ M',M=M' + 1:=⟨M - 1,by omega⟩
   obtain ⟨a1,a2,a3⟩:=TrO.any n l F1 h1 o1 M' (by omega)
   obtain ⟨c1,c2,c3⟩:=TrO.any n hh F2 h2 o2 M' (by omega)
   refine ⟨⟨vl,vh,vr,hp,by rw [hk];exact ⟨h0,F1,F2,a1,c1,rfl⟩⟩,?_,by rw [rowsP_node hk,rowsP_node hk,a3,c3]⟩
   rw [OkP,hk]
   dsimp only
   rw [a3,c3]
   exact ⟨a2,c2,o3⟩
theorem bx_in {L H q:List Int} (h:bx L H q=0) {i:Nat} (hi:i < q.length):L[i]! <= q[i]! /\ q[i]! <= H[i]! := by
 have:=sumN_zero h hi
 have h2:gap L[i]! H[i]! q[i]! = 0:=by
  rcases Nat.mul_eq_zero.1 this with e | e <;> exact e
 unfold gap at h2
 split at h2
 ·omega
 ·split at h2 <;> omega
theorem bx_of {L H q:List Int} (h:∀ i,i < q.length->L[i]! <= q[i]! /\ q[i]! <= H[i]!):bx L H q=0:=by
 unfold bx bxN
 refine sumN_all fun i hi=>?_
 rw [gap_in (h i hi).1 (h i hi).2]
theorem BoxOk.lens {m:Nat} {p:Pt} {rs:List Rw} (h:BoxOk m p rs):p.L.length=m/\p.H.length=m/\1<=m/\m<=64/\allR p.L=true/\allR p.H=true/\∀ i,i < m->p.L[i]! <= p.H[i]! := by
 obtain ⟨q1,_⟩:=ckR_ok h.1
 have k:=q1 rfl
 obtain ⟨a,b,c⟩:=cornE_ok k
 have a':=chk_ok a
 have b':=chk_ok b
 refine ⟨?_,?_,?_,?_,a'.2.2.2,b'.2.2.2,fun i hi=>below_get c ?_⟩
 ·have:=a'.2.2.1;have e:(m:Int)=(p.L.length:Int):=this;omega
 ·have:=b'.2.2.1;have e:(m:Int)=(p.H.length:Int):=this;omega
 ·have:=a'.2.2.1;have e:(m:Int)=(p.L.length:Int):=this;have:=a'.1;have e2:1<=p.L.length:=this;omega
 ·have:=a'.2.2.1;have e:(m:Int)=(p.L.length:Int):=this;have:=a'.2.1;have e2:p.L.length<=64:=this;omega
 ·have:=a'.2.2.1;have e:(m:Int)=(p.L.length:Int):=this;show i < p.L.length;omega
theorem box_around {m:Nat} {p p1 p2:Pt} {R1 R2:List Rw} (h1:BoxOk m p1 R1) (h2:BoxOk m p2 R2) (hL:p.L=tab (fun t=>min p1.L[t]! p2.L[t]!) m) (hH:p.H=tab (fun t=>max p1.H[t]! p2.H[t]!) m):BoxOk m p (R1 ++ R2):=by
 obtain ⟨a1,a2,a3,a4,a5,a6,a7⟩:=h1.lens
 obtain ⟨b1,b2,b3,b4,b5,b6,b7⟩:=h2.lens
 have gL:∀ i,i < m->p.L[i]! = min p1.L[i]! p2.L[i]! := fun i hi=>by rw [hL,tab_get _ hi]
 have gH:∀ i,i < m->p.H[i]! = max p1.H[i]! p2.H[i]! := fun i hi=>by rw [hH,tab_get _ hi]
 have key:∀ (p0:Pt) (R:List Rw),BoxOk m p0 R->(∀ i,i < m->p.L[i]! <= p0.L[i]! /\ p0.H[i]! <= p.H[i]!)->∀ r ∈ R,chk r.2 (m:Int)=0/\inV (pr p) r.2=true:=by
  intro p0 R h hle r hr
  obtain ⟨c1,c2⟩:=h.2 r hr
  refine ⟨c1,?_⟩
  unfold inV at c2 ⊢
  rw [if_pos rfl,decide_eq_true_eq] at c2 ⊢
  have hl:=chk_ok c1
  have el:r.2.length=m:=by omega
  refine bx_of fun i hi=>?_
  have c3:=bx_in c2 hi
  have c4:=hle i (by omega)
  simp only at c3 ⊢
  omega
 refine ⟨?_,fun r hr=>?_⟩
 ·unfold ckR
  rw [if_pos (by omega),if_pos ⟨by simp [uses],by rfl⟩,if_pos rfl]
  have k1:chk p.L (m:Int)=0:=chk_yes ⟨by omega,by omega,by rw [hL,tab_len]⟩ (by
   rw [hL]
   refine allR_tab fun i hi=>?_
   have:=allR_get a5 (i:=i) (by omega)
   have:=allR_get b5 (i:=i) (by omega)
   omega)
  have k2:chk p.H (m:Int)=0:=chk_yes ⟨by omega,by omega,by rw [hH,tab_len]⟩ (by
   rw [hH]
   refine allR_tab fun i hi=>?_
   have:=allR_get a6 (i:=i) (by omega)
   have:=allR_get b6 (i:=i) (by omega)
   omega)
  show cornE p.L p.H (m:Int)=0
  unfold cornE
  rw [if_pos k1,if_pos k2,if_pos]
  refine below_of _ fun i hi=>?_
  rw [hL,tab_len] at hi
  have:=a7 i hi
  rw [gL i hi,gH i hi]
  omega
 ·rcases List.mem_append.1 hr with hr | hr
  ·exact key p1 R1 h1 (fun i hi=>by rw [gL i hi,gH i hi];omega) r hr
  ·exact key p2 R2 h2 (fun i hi=>by rw [gL i hi,gH i hi];omega) r hr
def aft (ad:Bool) (r:Rw) (R:List Rw):List Rw:=if ad=true then R ++ [r] else R.filter fun y=>!decide (y.1=r.1)
def bef (ad:Bool) (r:Rw) (R:List Rw):Prop:=(idsOf R).Pairwise (· ≠ ·)/\if ad=true then ∀ y ∈ R,y.1 ≠ r.1 else r ∈ R
theorem bef_nodup {ad:Bool} {r:Rw} {R R':List Rw} (h:bef ad r R) (p:R.Perm R'):bef ad r R':=by
 refine ⟨(List.Perm.pairwise_iff (fun h=>Ne.symm h) (p.map _)).1 h.1,?_⟩
 have h2:=h.2
 split at h2
 ·rename_i e;rw [if_pos e];exact fun y hy=>h2 y (p.mem_iff.2 hy)
 ·rename_i e;rw [if_neg e];exact p.mem_iff.1 h2
theorem aft_perm {ad:Bool} {r:Rw} {R R':List Rw} (p:R.Perm R'):(aft ad r R).Perm (aft ad r R'):=by
 unfold aft
 split
 ·exact p.append_right _
 ·exact p.filter _
theorem ids_apart {R1 R2:List Rw} (h:(idsOf (R1 ++ R2)).Pairwise (· ≠ ·)):(idsOf R1).Pairwise (· ≠ ·)/\(idsOf R2).Pairwise (· ≠ ·)/\∀ y ∈ R1,∀ z ∈ R2,y.1 ≠ z.1:=by
 unfold idsOf at h ⊢
 rw [List.map_append,List.pairwise_append] at h
 exact ⟨h.1,h.2.1,fun y hy z hz=>h.2.2 _ (List.mem_map.2 ⟨y,hy,rfl⟩) _ (List.mem_map.2 ⟨z,hz,rfl⟩)⟩
theorem aft_left {ad:Bool} {r:Rw} {R1 R2:List Rw} (h:bef ad r (R1 ++ R2)) (hs:ad=false->r ∈ R1):bef ad r R1/\(aft ad r R1 ++ R2).Perm (aft ad r (R1 ++ R2)):=by
 obtain ⟨h1,h2⟩:=h
 obtain ⟨i1,i2,i3⟩:=ids_apart h1
 cases ad with
 | true =>
  rw [if_pos rfl] at h2
  refine ⟨⟨i1,by rw [if_pos rfl];exact fun y hy=>h2 y (List.mem_append_left _ hy)⟩,?_⟩
  unfold aft
  rw [if_pos rfl,if_pos rfl,List.append_assoc,List.append_assoc]
  exact List.Perm.append_left _ List.perm_append_comm
 | false =>
  refine ⟨⟨i1,by rw [if_neg (by decide)];exact hs rfl⟩,?_⟩
  unfold aft
  rw [if_neg (by decide),if_neg (by decide),List.filter_append]
  refine List.Perm.append_left _ (List.Perm.of_eq ?_)
  symm
  rw [List.filter_eq_self]
  intro y hy
  have:=i3 r (hs rfl) y hy
  simp [Ne.symm this]
theorem aft_right {ad:Bool} {r:Rw} {R1 R2:List Rw} (h:bef ad r (R1 ++ R2)) (hs:ad=false->r ∈ R2):bef ad r R2/\(R1 ++ aft ad r R2).Perm (aft ad r (R1 ++ R2)):=by
 have p:(R1 ++ R2).Perm (R2 ++ R1):=List.perm_append_comm
 obtain ⟨a,b⟩:=aft_left (bef_nodup h p) hs
 exact ⟨a,(List.perm_append_comm.trans b).trans (aft_perm p.symm)⟩
end Go.Proofs.YtgbgejflmbhigaaGreat

namespace Go.Proofs.YtgbgejflmbhigaaGreat
open Go.RowKit Go.Sort
set_option maxRecDepth 100000
set_option maxHeartbeats 1000000
def TreeOut (Iq:Nat->Prop) (w:World) (m leaf:Nat) (rs:List Rw) (e:Ending) (w':World):Prop:=∃ tb rs' F,e=.returned (.tuple #[.pointer (some ⟨tb,0,none⟩),.int .i64 0])/\TreeAt Iq w' tb m leaf rs' F/\rs'.Perm rs/\Gb w w'/\∀ x ∈ F,w.heap.size<=x
theorem tree_out {Iq:Nat->Prop} {w w5:World} {m leaf g cap:Nat} {rs:List Rw} {d:List Rt} {rt:Value} (hm:1<=m/\m<=64) (hl:1<=leaf/\leaf<=64) (hp:(d.map rwR).Perm rs) (hr:(d.map rwR).Pairwise fun x y=>x.1 < y.1) (ho:RowsOk (d.map rwR) (m:Int)) (gb:Gb w w5) (own:OwnRs Iq w5 (.slice (some ⟨g,0,none⟩) d.length cap) d) {w4:World} (g4:Gb w w4) (hg:w.heap.size<=g) (hg2:g < w4.heap.size)
  (hP:PartOut Iq w4 m d (.returned rt) w5) :
  TreeOut Iq w m leaf rs (.returned (.tuple #[.pointer (some ⟨w5.heap.size,0,none⟩),.int .i64 0])) (w5.alloc (.cells #[.int .i64 (m:Int),.int .i64 (leaf:Int),.slice (some ⟨g,0,none⟩) d.length cap,rt] 77)):=by
 have k4:∀ ob,Gb w5 (w5.alloc ob):=fun ob=>gb_alloc (Below.refl _ _) ob
 have hno:NoInt w5 (fun _=>False):=fun _ h=>h.elim
 obtain ⟨q1,q2,q3⟩:=hP
 have z4:=q1.size
 have z:=g4.size
 have own':OwnRs Iq (w5.alloc (.cells #[.int .i64 (m:Int),.int .i64 (leaf:Int),.slice (some ⟨g,0,none⟩) d.length cap,rt] 77)) (.slice (some ⟨g,0,none⟩) d.length cap) d:=own.kp (Tk.Kp.of_gr (k4 _)) hno (fun _ _ h=>h)
 by_cases hd:d=[]
 ·have e:=q2 hd
  injection e with e
  refine ⟨w5.heap.size,d.map rwR,[w5.heap.size,g],rfl,⟨g,cap,d,rt,[],heap_new _ _,own',rfl,hr,ho,.inl ⟨hd,e,rfl⟩,rfl,?_,hm,hl⟩,hp,gb_alloc gb _,?_⟩
  ·simp;omega
  ·intro x hx
   simp at hx
   rcases hx with rfl | rfl <;> omega
 ·obtain ⟨b,T,F,e,t1,nd,lF⟩:=q3 hd
  injection e with e
  have mm:=(t1 _ (Nat.le_refl _)).1.mem
  refine ⟨w5.heap.size,d.map rwR,w5.heap.size :: g :: F,rfl,⟨g,cap,d,rt,F,heap_new _ _,own',rfl,hr,ho,.inr ⟨b,T,e,hd,fun N hN=>?_⟩,rfl,?_,hm,hl⟩,hp,gb_alloc gb _,?_⟩
  ·obtain ⟨a,b⟩:=t1 N hN
   exact ⟨TrO.kp (Tk.Kp.of_gr (k4 _)) hno _ _ _ a (fun _ _ h=>h),b⟩
  ·rw [List.nodup_cons,List.nodup_cons]
   refine ⟨fun h=>?_,fun h=>?_,nd⟩
   ·rcases List.mem_cons.1 h with h | h
    ·omega
    ·have:=mm.2 _ h;omega
   ·have:=lF _ h;omega
  ·intro x hx
   simp only [List.mem_cons] at hx
   rcases hx with rfl | rfl | hx
   ·omega
   ·omega
   ·have:=lF x hx;omega
theorem build_ok {Iq:Nat->Prop} {w:World} {v:Value} {rs:List Rw} (up:Up Iq w) (h:RdW w v rs) (hwf:Wf rs) {m leaf:Nat} (hz:flatE rs (m:Int)=0) (hl:1<=leaf/\leaf<=64) :
  Calls Tryz.prog 12 #[v,.int .i64 (m:Int),.int .i64 (leaf:Int)] w fun e w'=>TreeOut Iq w m leaf rs e w':=by
 obtain ⟨hm0,hok⟩:=flatE_zero.1 hz
 have hm:1<=m/\m<=64:=by omega
 have cK:=fcheck_c h hwf (m:Int)
 rw [hz] at cK
 have cP:=fun W (g:Gb w W)=>copies_c (h.gb g) (by have:=hok.few;omega) (fun i hi=>by
  have h1:=chk_ok (hok.row rs[i]! (by rw [getElem!_pos rs i hi];exact List.getElem_mem hi)).2
  omega)
 have HO:Hid (RowsOk rs (m:Int)):=hok
 obtain ⟨a,cap0,rfl,_⟩:=h
 generalize rs.length=n0 at cK cP ⊢
 have hl1:¬ (leaf:Int) < 1:=by omega
 have hl2:¬ (64:Int) < (leaf:Int):=by omega
 clear hwf hz hm0 hok
 go_enter Tryz.func12,Tryz.ntmps12
 go_wp2_with fail
 go_fit cK
 rintro e w1 ⟨rfl,g1⟩
 have cP1:=cP w1 g1
 clear cK cP
 go_wp2_with fail
 go_fit cP1
 rintro e w2 ⟨v2,rfl,o2,g2⟩
 obtain ⟨g,cap,e2⟩:=o2.form
 obtain ⟨d,hd,hown,hvec⟩:=o2.rt
 subst e2
 have hdl:d.length=rs.length:=by rw [<- hd,List.length_map]
 rw [<- hdl]
 rw [<- hdl] at hown
 obtain ⟨r2,hB,hlt⟩:=rwAt_own hown
 have z1:=g1.size
 have z2:=g2.size
 have CI:CutIn Iq w2 m d:=⟨fun x hx=>OwnQ.new (hvec x hx) up z1,by rw [hd];exact HO.out,up.gb (gb_trans g1 g2)⟩
 have G2:Gb w w2:=gb_trans g1 g2
 have h512:d.length<=512:=by rw [hdl];exact HO.out.few
 by_cases hne:d=[]
 ·subst hne
  have cQ:=partsOf_c (leaf:=leaf) (cap:=cap) hm ⟨hl.1,by omega⟩ [] r2.rd CI
  have own0:w2.ownsRow 0 39 2 (.slice (some ⟨g,0,none⟩) ([]:List Rt).length cap) ([]:List Rt).length (([]:List Rt).flatMap encR):=by
   refine ⟨hown.1,?_⟩
   rcases hown.2 with h | ⟨a,b,c,e,_,r⟩
   ·exact .inl h
   ·exact .inr ⟨a,b,c,e,Nat.zero_le _,r⟩
  have FINB:Hid (∀ w5 rt,PartOut Iq w2 m [] (.returned rt) w5->TreeOut Iq w m leaf rs (.returned (.tuple #[.pointer (some ⟨w5.heap.size,0,none⟩),.int .i64 0])) (w5.alloc (.cells #[.int .i64 (m:Int),.int .i64 (leaf:Int),.slice (some ⟨g,0,none⟩) 0 cap,rt] 77))):=by
   intro w5 rt hP
   have hno:NoInt w2 (fun _=>False):=fun _ h=>h.elim
   exact tree_out (d:=[]) hm hl (by rw [hd]) List.Pairwise.nil CI.ok (gb_trans G2 hP.1) (OwnRs.kp ⟨own0,CI.vec,CI.up⟩ (Tk.Kp.of_gr hP.1) hno (fun _ _ h=>h)) G2 (by omega) hlt hP
  have cN:=fun fv=>sort_none (some ⟨g,0,none⟩) cap fv w2
  rw [List.length_nil] at cQ ⊢
  clear cP1 o2 g2 hown hvec hdl r2 hB hlt z1 z2 CI G2 h512 hd own0
  go_wp2_with fail
  go_fit (cN _)
  rintro e w3 ⟨rfl,rfl⟩
  clear cN
  go_wp2_with fail
  go_fit cQ
  rintro e w5 hP
  have hv:=hP.2.1 rfl
  subst hv
  have FB:=FINB.out _ _ hP
  clear FINB hP cQ
  go_wp2
  exact bodyPost_ret (v:=.tuple #[.pointer (some ⟨w5.heap.size,0,none⟩),.int .i64 0]) (by simp [results,Tryz.results12,go_sem]) rfl FB
 ·have cS:=sortId_c (cap:=cap) (n:=m) r2 hne (by omega) (CI.rtOk r2)
  have HX:Hid (RwAt w2 g 0 d/\CutIn Iq w2 m d/\Gb w w2/\w1.heap.size<=g/\g < w2.heap.size/\w.heap.size<=w1.heap.size/\d.map rwR=rs/\d.length<=512/\w2.ownsRow 0 39 2 (.slice (some ⟨g,0,none⟩) d.length cap) d.length (d.flatMap encR)):=⟨r2,CI,G2,hB,hlt,z1,hd,h512,by
   refine ⟨hown.1,?_⟩
   rcases hown.2 with h | ⟨a,b,c,e,_,r⟩
   ·exact .inl h
   ·exact .inr ⟨a,b,c,e,Nat.zero_le _,r⟩⟩
  obtain ⟨n,hN⟩:∃ n,n=d.length:=⟨_,rfl⟩
  have N:Hid (n=d.length):=hN
  simp only [<- hN] at cS
  rw [<- hN]
  clear cP1 o2 g2 hown hvec hdl r2 hB hlt z1 z2 CI G2 h512 hne hN hd
  go_wp2_with fail
  go_fit cS
  rintro e w3 ⟨rfl,d',pm,hs,r3,s3⟩
  have hs:d'.Pairwise fun x y=>¬ Tk.ci y.1 x.1 < 0:=by first | exact hs | exact hs.imp (fun h=>Int.not_lt.2 h)
  have hl':d'.length=n:=by rw [pm.length_eq];exact N.out.symm
  obtain ⟨y1,y2,y3,y4,y5,y6,y7,y8,y9⟩:=HX.out
  have CI3:CutIn Iq w3 m d':=(CutIn.kp y2 s3.kp y1).perm pm
  have cQ:=partsOf_c (leaf:=leaf) (cap:=cap) hm ⟨hl.1,by omega⟩ d' r3.rd CI3
  rw [hl'] at cQ
  have G3:Gb w w3:=y3.trans (s3.kp.gr (by have:=y3.size;exact this) (fun k e=>by omega))
  have own3:=own_sorted y9 r3 (by have:=s3;rwa [N.out] at this) (pm.length_eq)
  have FINB:Hid (∀ w5 rt,PartOut Iq w3 m d' (.returned rt) w5->TreeOut Iq w m leaf rs (.returned (.tuple #[.pointer (some ⟨w5.heap.size,0,none⟩),.int .i64 0])) (w5.alloc (.cells #[.int .i64 (m:Int),.int .i64 (leaf:Int),.slice (some ⟨g,0,none⟩) n cap,rt] 77))):=by
   intro w5 rt hP
   rw [<- hl']
   have hno:NoInt w3 (fun _=>False):=fun _ h=>h.elim
   refine tree_out hm hl (by rw [<- y7];exact pm.map _) (rise_ids hs CI3.ok.ids) CI3.ok (gb_trans G3 hP.1) (OwnRs.kp ⟨own3,CI3.vec,CI3.up⟩ (Tk.Kp.of_gr hP.1) hno (fun _ _ h=>h)) G3 (by omega) r3.lt hP
  clear cS pm hs r3 s3 hl' y1 y2 y3 y4 y5 y6 y7 y8 y9 CI3 G3 own3 HX
  go_wp2_with fail
  go_fit cQ
  rintro e w5 hP
  have hv:∃ pv,e=.returned (.pointer pv):=by
   by_cases h0:d'=[]
   ·exact ⟨none,hP.2.1 h0⟩
   ·obtain ⟨b,_,_,e1,_⟩:=hP.2.2 h0
    exact ⟨_,e1⟩
  obtain ⟨pv,rfl⟩:=hv
  have FB:=FINB.out _ _ hP
  clear FINB hP cQ
  go_wp2
  exact bodyPost_ret (v:=.tuple #[.pointer (some ⟨w5.heap.size,0,none⟩),.int .i64 0]) (by simp [results,Tryz.results12,go_sem]) rfl FB
end Go.Proofs.YtgbgejflmbhigaaGreat

namespace Go.Proofs.YtgbgejflmbhigaaGreat
open Go.RowKit Go.Sort
set_option maxHeartbeats 1000000
theorem build_no {w:World} {v:Value} {rs:List Rw} (h:RdW w v rs) (hwf:Wf rs) (d leaf:Int) (hz:flatE rs d ≠ 0) :
  Calls Tryz.prog 12 #[v,.int .i64 d,.int .i64 leaf] w fun e w'=>e=.returned (.tuple #[.pointer none,.int .i64 (flatE rs d)])/\Gb w w':=by
 have cK:=fcheck_c h hwf d
 obtain ⟨a,cap0,rfl,_⟩:=h
 generalize rs.length=n0 at cK ⊢
 generalize flatE rs d=z at *
 have hzb:(z == 0)=false:=by rw [beq_eq_false_iff_ne];exact hz
 clear hwf
 go_enter Tryz.func12,Tryz.ntmps12
 go_wp2_with fail
 go_fit cK
 rintro e w1 ⟨rfl,g1⟩
 clear cK
 go_wp2
 exact bodyPost_ret (v:=.tuple #[.pointer none,.int .i64 z]) (by simp [results,Tryz.results12,go_sem]) rfl ⟨rfl,g1⟩
theorem build_leaf {w:World} {v:Value} {rs:List Rw} (h:RdW w v rs) (hwf:Wf rs) (d leaf:Int) (hz:flatE rs d=0) (hl:leaf < 1 ∨ 64 < leaf) :
  Calls Tryz.prog 12 #[v,.int .i64 d,.int .i64 leaf] w fun e w'=>e=.returned (.tuple #[.pointer none,.int .i64 1])/\Gb w w':=by
 have cK:=fcheck_c h hwf d
 rw [hz] at cK
 obtain ⟨a,cap0,rfl,_⟩:=h
 generalize rs.length=n0 at cK ⊢
 clear hwf hz
 by_cases h1:leaf < 1
 ·clear hl
  go_enter Tryz.func12,Tryz.ntmps12
  go_wp2_with fail
  go_fit cK
  rintro e w1 ⟨rfl,g1⟩
  clear cK
  go_wp2
  exact bodyPost_ret (v:=.tuple #[.pointer none,.int .i64 1]) (by simp [results,Tryz.results12,go_sem]) rfl ⟨rfl,g1⟩
 ·have h2:64 < leaf:=by omega
  clear hl
  go_enter Tryz.func12,Tryz.ntmps12
  go_wp2_with fail
  go_fit cK
  rintro e w1 ⟨rfl,g1⟩
  clear cK
  go_wp2
  exact bodyPost_ret (v:=.tuple #[.pointer none,.int .i64 1]) (by simp [results,Tryz.results12,go_sem]) rfl ⟨rfl,g1⟩
theorem TreeAt.up {Iq:Nat->Prop} {w:World} {tb m leaf:Nat} {rs:List Rw} {F:List Nat} (h:TreeAt Iq w tb m leaf rs F):Up Iq w:=by
 obtain ⟨g,cap,d,rt,F1,hb,ho,_⟩:=h
 exact ho.up
theorem TreeAt.cells {Iq:Nat->Prop} {w:World} {tb m leaf:Nat} {rs:List Rw} {F:List Nat} (h:TreeAt Iq w tb m leaf rs F):∃ g cap rt,w.cell? ⟨tb,0,none⟩=some (.int .i64 (m:Int))/\w.cell? ⟨tb,1,none⟩=some (.int .i64 (leaf:Int))/\w.cell? ⟨tb,2,none⟩=some (.slice (some ⟨g,0,none⟩) rs.length cap)/\w.cell? ⟨tb,3,none⟩=some rt/\RdW w (.slice (some ⟨g,0,none⟩) rs.length cap) rs:=by
 obtain ⟨g,cap,d,rt,F1,hb,ho,hd,_⟩:=h
 have hl:d.length=rs.length:=by rw [<- hd,List.length_map]
 rw [hl] at hb
 refine ⟨g,cap,rt,cell_cur hb rfl,cell_cur hb rfl,cell_cur hb rfl,cell_cur hb rfl,?_⟩
 have h1:=rwAt_own ho.row
 have h2:=RwRd.rdw (cap:=cap) h1.1.rd (fun x hx=>(ho.vec x hx).rd)
 rw [hd,hl] at h2
 exact h2
theorem len_c {Iq:Nat->Prop} {w:World} {tb m leaf:Nat} {rs:List Rw} {F:List Nat} (h:TreeAt Iq w tb m leaf rs F) :
  Calls Tryz.prog 14 #[.pointer (some ⟨tb,0,none⟩)] w fun e w'=>e=.returned (.int .i64 (rs.length:Nat))/\w'=w:=by
 obtain ⟨g,cap,rt,_,_,c2,_⟩:=h.cells
 clear h
 generalize rs.length=n at *
 go_enter Tryz.func14,Tryz.ntmps14
 go_wp2
 go_ret
 exact ⟨rfl,by first | rfl | trivial⟩
theorem TreeAt.rok {Iq:Nat->Prop} {w:World} {tb m leaf:Nat} {rs:List Rw} {F:List Nat} (h:TreeAt Iq w tb m leaf rs F):RowsOk rs (m:Int)/\1<=m/\m<=64:=by
 obtain ⟨g,cap,d,rt,F1,_,_,_,_,ho,_,_,_,hm,_⟩:=h
 exact ⟨ho,hm⟩
theorem rows_c {Iq:Nat->Prop} {w:World} {tb m leaf:Nat} {rs:List Rw} {F:List Nat} (h:TreeAt Iq w tb m leaf rs F) :
  Calls Tryz.prog 25 #[.pointer (some ⟨tb,0,none⟩)] w fun e w'=>∃ v',e=.returned v'/\OwnC w' w.heap.size v' rs/\Gb w w':=by
 obtain ⟨g,cap,rt,_,_,c2,_,hr⟩:=h.cells
 obtain ⟨hok,hm⟩:=h.rok
 have cC:=copies_c hr (by have:=hok.few;omega) (fun i hi=>by
  have h1:=chk_ok (hok.row rs[i]! (by rw [getElem!_pos rs i hi];exact List.getElem_mem hi)).2
  omega)
 clear h hr hok
 generalize rs.length=n at *
 go_enter Tryz.func25,Tryz.ntmps25
 go_wp2_with fail
 go_fit cC
 rintro e w1 ⟨v',rfl,o1,g1⟩
 have X:Hid (OwnC w1 w.heap.size v' rs/\Gb w w1):=⟨o1,g1⟩
 clear o1 g1
 go_wp2
 go_ret
 exact ⟨_,rfl,X.out⟩
end Go.Proofs.YtgbgejflmbhigaaGreat
