import Derived.Test.YtgbgejflmbhigaaGreatKwBall
import Derived.Test.YtgbgejflmbhigaaGreatKw16
import Derived.Test.YtgbgejflmbhigaaGreatKw6
import Derived.Test.YtgbgejflmbhigaaGreatKw12
import Derived.Test.YtgbgejflmbhigaaGreatKwBoxY
import Derived.BigRegion
namespace Go.Proofs.YtgbgejflmbhigaaGreat
open Go.RowKit Go.Sort
theorem mnN_le (f:Nat->Int) (x:Int):∀ k j,j < k->mnN f x k<=f j
 | k + 1,j,h=>by
  simp only [mnN]
  by_cases e:j=k
  ·subst e;omega
  ·have:=mnN_le f x k j (by omega);omega
theorem mxN_ge (f:Nat->Int) (x:Int):∀ k j,j < k->f j<=mxN f x k
 | k + 1,j,h=>by
  simp only [mxN]
  by_cases e:j=k
  ·subst e;omega
  ·have:=mxN_ge f x k j (by omega);omega
theorem mnN_is (f:Nat->Int) (x:Int):∀ k,mnN f x k=x ∨ ∃ j,j < k/\mnN f x k=f j
 | 0=>.inl rfl
 | k + 1=>by
  simp only [mnN]
  rcases Int.le_total (mnN f x k) (f k) with h | h
  ·rw [Int.min_eq_left h]
   rcases mnN_is f x k with e | ⟨j,hj,e⟩
   ·exact .inl e
   ·exact .inr ⟨j,by omega,e⟩
  ·rw [Int.min_eq_right h];exact .inr ⟨k,by omega,rfl⟩
theorem mxN_is (f:Nat->Int) (x:Int):∀ k,mxN f x k=x ∨ ∃ j,j < k/\mxN f x k=f j
 | 0=>.inl rfl
 | k + 1=>by
  simp only [mxN]
  rcases Int.le_total (mxN f x k) (f k) with h | h
  ·rw [Int.max_eq_right h];exact .inr ⟨k,by omega,rfl⟩
  ·rw [Int.max_eq_left h]
   rcases mxN_is f x k with e | ⟨j,hj,e⟩
   ·exact .inl e
   ·exact .inr ⟨j,by omega,e⟩
theorem lo_is {rs:List Rw} (h:1<=rs.length) (i:Nat):∃ j,j < rs.length/\loAt rs rs.length i=rs[j]!.2[i]! := by
 rcases mnN_is (fun j=>rs[j]!.2[i]!) rs[0]!.2[i]! rs.length with e | ⟨j,hj,e⟩
 ·exact ⟨0,h,e⟩
 ·exact ⟨j,hj,e⟩
theorem hi_is {rs:List Rw} (h:1<=rs.length) (i:Nat):∃ j,j < rs.length/\hiAt rs rs.length i=rs[j]!.2[i]! := by
 rcases mxN_is (fun j=>rs[j]!.2[i]!) rs[0]!.2[i]! rs.length with e | ⟨j,hj,e⟩
 ·exact ⟨0,h,e⟩
 ·exact ⟨j,hj,e⟩
theorem lo_le {rs:List Rw} {j:Nat} (hj:j < rs.length) (i:Nat):loAt rs rs.length i<=rs[j]!.2[i]! := mnN_le (fun j=>rs[j]!.2[i]!) _ _ j hj
theorem hi_ge {rs:List Rw} {j:Nat} (hj:j < rs.length) (i:Nat):rs[j]!.2[i]! <= hiAt rs rs.length i:=mxN_ge (fun j=>rs[j]!.2[i]!) _ _ j hj
theorem riseTo_of {l:List Int}:∀ q,q<=l.length->(∀ i,i < l.length->okId l[i]! = true)->(∀ i,i + 1 < l.length->l[i]! < l[i + 1]!)->riseTo l q=true
 | 0,_,_,_=>rfl
 | q + 1,hq,h1,h2=>by
  simp only [riseTo,okAt]
  rw [riseTo_of q (by omega) h1 h2,h1 q (by omega)]
  cases q with
  | zero=>rfl
  | succ p=>rw [Nat.add_sub_cancel,decide_eq_true (h2 p (by omega))];simp
theorem ids_nodup {rs:List Rw} (h:∀ i,i < rs.length->((idsOf rs).take i).contains rs[i]!.1=false):(idsOf rs).Pairwise (· ≠ ·):=by
 rw [List.pairwise_iff_getElem]
 intro i j hi hj hij e
 have hl:(idsOf rs).length=rs.length:=by simp [idsOf]
 have h1:=h j (by omega)
 rw [List.contains_eq_mem,decide_eq_false_iff_not] at h1
 apply h1
 have e2:rs[j]!.1=(idsOf rs)[j]:=by rw [getElem!_pos rs j (by omega)];simp [idsOf]
 rw [e2,<- e]
 exact List.mem_take_iff_getElem.2 ⟨i,by omega,rfl⟩
theorem srt_rise {rs:List Rw} (h:∀ i,i < rs.length->okId rs[i]!.1=true/\((idsOf rs).take i).contains rs[i]!.1=false):rise (srt (idsOf rs))=true:=by
 have hp:(srt (idsOf rs)).Perm (idsOf rs):=List.mergeSort_perm _ _
 have hs:(srt (idsOf rs)).Pairwise (fun x y=>decide (x<=y)=true):=List.pairwise_mergeSort (by intro a b c h1 h2;simp at *;omega) (by intro a b;simp;omega) _
 have hn:(srt (idsOf rs)).Pairwise (· ≠ ·):=(hp.symm.pairwise_iff (fun h=>Ne.symm h)).1 (ids_nodup fun i hi=>(h i hi).2)
 refine riseTo_of _ (Nat.le_refl _) ?_ ?_
 ·intro i hi
  have hm:(srt (idsOf rs))[i]! ∈ idsOf rs:=by
   rw [getElem!_pos _ i hi]
   exact hp.mem_iff.1 (List.getElem_mem hi)
  obtain ⟨x,hx,e⟩:=List.mem_map.1 hm
  obtain ⟨j,hj,e2⟩:=List.getElem_of_mem hx
  have:=(h j hj).1
  rw [getElem!_pos rs j hj,e2,e] at this
  exact this
 ·intro i hi
  rw [getElem!_pos _ i (by omega),getElem!_pos _ (i + 1) hi]
  have h1:=List.pairwise_iff_getElem.1 hs i (i + 1) (by omega) hi (by omega)
  have h2:=List.pairwise_iff_getElem.1 hn i (i + 1) (by omega) hi (by omega)
  simp at h1
  omega
theorem allR_tab {f:Nat->Int} {m:Nat} (h:∀ i,i < m->-2147483647<=f i/\f i<=2147483647):allR (tab f m)=true:=by
 unfold allR tab
 rw [List.all_eq_true]
 intro x hx
 obtain ⟨i,hi,e⟩:=List.mem_map.1 hx
 subst e
 exact (inR_iff _).2 (h i (List.mem_range.1 hi))
theorem below_of {l h:List Int}:∀ q,(∀ i,i < q->l[i]! <= h[i]!)->below l h q=true
 | 0,_=>rfl
 | q + 1,k=>by simp only [below];rw [below_of q fun i hi=>k i (by omega),decide_eq_true (k q (by omega))];rfl
theorem chk_yes {l:List Int} {d:Int} (h1:1<=d/\d<=64/\(l.length:Int)=d) (h2:allR l=true):chk l d=0:=by
 unfold chk vErr;rw [if_pos h1,if_pos h2]
theorem gap_in {l h x:Int} (h1:l<=x) (h2:x<=h):gap l h x=0:=by unfold gap;split <;> (try split) <;> omega
theorem sumN_all {f:Nat->Nat}:∀ {n:Nat},(∀ i,i < n->f i=0)->sumN f n=0
 | 0,_=>rfl
 | n + 1,h=>by simp only [sumN];rw [sumN_all fun i hi=>h i (by omega),h n (by omega)]
theorem rows_of {rs:List Rw} {m:Nat} (h:boxE rs (m:Int)=0):1<=m/\m<=64/\1<=rs.length/\rise (srt (idsOf rs))=true/\rs.length<=512/\∀ j,j < rs.length->rs[j]!.2.length=m/\allR rs[j]!.2=true:=by
 obtain ⟨d1,d2,d3,d4⟩:=boxE_ok h
 obtain ⟨r1,r2⟩:=idsE_ok d4
 refine ⟨by omega,by omega,d3,srt_rise fun i hi=>(r2 i hi).2,r1,fun j hj=>?_⟩
 have:=chk_ok (r2 j hj).1
 exact ⟨by omega,this.2.2.2⟩
theorem box_ck {rs:List Rw} {m:Nat} (h:boxE rs (m:Int)=0) {f:Nat->Int} (hf:∀ i,i < m->-2147483647<=f i/\f i<=hiAt rs rs.length i) {j:Nat} (hj:j < rs.length) :
  ckB ⟨2,tab f m,boxH rs m,0,srt (idsOf rs)⟩ rs[j]!.2=0:=by
 obtain ⟨m1,m2,n1,hr,_,hv⟩:=rows_of h
 obtain ⟨v1,v2⟩:=hv j hj
 have hH:∀ i,i < m->-2147483647<=hiAt rs rs.length i/\hiAt rs rs.length i<=2147483647:=by
  intro i hi
  obtain ⟨t,ht,e⟩:=hi_is n1 i
  rw [e]
  obtain ⟨q1,q2⟩:=hv t ht
  exact allR_get q2 (by omega)
 have c1:chk (tab f m) (m:Int)=0:=chk_yes ⟨by omega,by omega,by rw [tab_len]⟩ (allR_tab fun i hi=>⟨(hf i hi).1,by have:=(hf i hi).2;have:=(hH i hi).2;omega⟩)
 have c2:chk (boxH rs m) (m:Int)=0:=chk_yes ⟨by omega,by omega,by unfold boxH;rw [tab_len]⟩ (allR_tab hH)
 have c3:below (tab f m) (boxH rs m) (tab f m).length=true:=by
  rw [tab_len]
  refine below_of m fun i hi=>?_
  unfold boxH
  rw [tab_get _ hi,tab_get _ hi];exact (hf i hi).2
 have e1:ckR ⟨2,tab f m,boxH rs m,0,srt (idsOf rs)⟩ (m:Int)=0:=by
  unfold ckR uses cornE
  rw [if_pos ⟨by omega,by omega⟩]
  simp [hr,c1,c2,c3]
 unfold ckB
 rw [v1,if_pos e1]
 exact chk_yes ⟨by omega,by omega,by omega⟩ v2
theorem box_in {rs:List Rw} {m:Nat} (h:boxE rs (m:Int)=0) {j:Nat} (hj:j < rs.length):ckB (boxR rs (m:Int)) rs[j]!.2=0/\insV (boxR rs (m:Int)) rs[j]!.2=true:=by
 obtain ⟨m1,m2,n1,hr,_,hv⟩:=rows_of h
 have e:boxR rs (m:Int)=⟨2,tab (loAt rs rs.length) m,boxH rs m,0,srt (idsOf rs)⟩:=by unfold boxR;rw [if_pos h];rfl
 rw [e]
 have c:=box_ck h (f:=loAt rs rs.length) (fun i hi=>by
  obtain ⟨t,ht,e⟩:=lo_is n1 i
  obtain ⟨q1,q2⟩:=hv t ht
  have h1:=allR_get q2 (i:=i) (by omega)
  have h2:=hi_ge ht i
  rw [e];exact ⟨h1.1,h2⟩) hj
 refine ⟨c,?_⟩
 unfold insV
 rw [c]
 have hb:bx (tab (loAt rs rs.length) m) (boxH rs m) rs[j]!.2=0:=by
  unfold bx bxN
  refine sumN_all fun i hi=>?_
  have hi:i < m:=by have:=(hv j hj).1;omega
  unfold boxH
  rw [tab_get _ hi,tab_get _ hi,gap_in (lo_le hj i) (hi_ge hj i)]
 unfold inV
 generalize rs[j]!.2=x at hb ⊢
 simp [hb]
end Go.Proofs.YtgbgejflmbhigaaGreat

namespace Go.Proofs.YtgbgejflmbhigaaGreat
open Go.RowKit Go.Sort
structure Pt where
 L:List Int
 H:List Int
 rs:List Rw
 cut:Int × Int × Int
 kids:Option (Nat × Nat)
abbrev pr (p:Pt):Reg:=⟨2,p.L,p.H,0,[]⟩
def rowsP (T:Nat->Pt):Nat->Pt->List Rw
 | 0,p=>p.rs
 | n + 1,p=>match p.kids with
  | none=>p.rs
  | some (l,h)=>rowsP T n (T l) ++ rowsP T n (T h)
def BoxOk (d:Nat) (p:Pt) (rs:List Rw):Prop:=ckR (pr p) (d:Int)=0/\∀ r ∈ rs,chk r.2 (d:Int)=0/\inV (pr p) r.2=true
def isAb (c:Int × Int × Int) (r:Rw):Bool:=decide (r.2[c.1.toNat]! < c.2.1) || (decide (r.2[c.1.toNat]! = c.2.1) && decide (r.1 < c.2.2))
def OkP (T:Nat->Pt) (d:Nat):Nat->Pt->Prop
 | 0,p=>p.kids=none/\p.rs ≠ []/\BoxOk d p p.rs
 | n + 1,p=>match p.kids with
  | none=>p.rs ≠ []/\BoxOk d p p.rs
  | some (l,h)=>OkP T d n (T l)/\OkP T d n (T h)/\BoxOk d p (rowsP T n (T l) ++ rowsP T n (T h))/\(0<=p.cut.1/\p.cut.1 < (d:Int)) /\
    (∀ r ∈ rowsP T n (T l),isAb p.cut r=true)/\∀ r ∈ rowsP T n (T h),isAb p.cut r=false
def wtP (T:Nat->Pt):Nat->Pt->Nat
 | 0,p=>2 * p.rs.length + 1
 | n + 1,p=>match p.kids with
  | none=>2 * p.rs.length + 1
  | some (l,h)=>1 + wtP T n (T l) + wtP T n (T h)
theorem rowsP_leaf {T:Nat->Pt} {p:Pt} (h:p.kids=none):∀ n,rowsP T n p=p.rs
 | 0=>rfl
 | n + 1=>by rw [rowsP,h]
theorem wtP_leaf {T:Nat->Pt} {p:Pt} (h:p.kids=none):∀ n,wtP T n p=2 * p.rs.length + 1
 | 0=>rfl
 | n + 1=>by rw [wtP,h]
theorem okP_leaf {T:Nat->Pt} {d:Nat} {p:Pt} (h:p.kids=none):∀ n,OkP T d n p ↔ p.rs ≠ []/\BoxOk d p p.rs
 | 0=>by rw [OkP];exact ⟨fun e=>e.2,fun e=>⟨h,e⟩⟩
 | n + 1=>by rw [OkP,h]
theorem okP_node {T:Nat->Pt} {d n l h:Nat} {p:Pt} (hk:p.kids=some (l,h)) (ok:OkP T d n p):∃ m,n=m + 1/\OkP T d m (T l)/\OkP T d m (T h)/\BoxOk d p (rowsP T m (T l) ++ rowsP T m (T h))/\(0<=p.cut.1/\p.cut.1 < (d:Int)) /\
  (∀ r ∈ rowsP T m (T l),isAb p.cut r=true)/\∀ r ∈ rowsP T m (T h),isAb p.cut r=false:=by
 cases n with
 | zero=>rw [OkP] at ok;rw [ok.1] at hk;cases hk
 | succ m=>rw [OkP,hk] at ok;exact ⟨m,rfl,ok⟩
theorem rowsP_node {T:Nat->Pt} {n l h:Nat} {p:Pt} (hk:p.kids=some (l,h)):rowsP T (n + 1) p=rowsP T n (T l) ++ rowsP T n (T h):=by rw [rowsP,hk]
theorem wtP_node {T:Nat->Pt} {n l h:Nat} {p:Pt} (hk:p.kids=some (l,h)):wtP T (n + 1) p=1 + wtP T n (T l) + wtP T n (T h):=by rw [wtP,hk]
theorem okP_mono {T:Nat->Pt} {d:Nat}:∀ n p,OkP T d n p->OkP T d (n + 1) p/\rowsP T (n + 1) p=rowsP T n p/\wtP T (n + 1) p=wtP T n p
 | 0,p,ok=>by
  have hk:p.kids=none:=by rw [OkP] at ok;exact ok.1
  exact ⟨(okP_leaf hk _).2 ((okP_leaf hk _).1 ok),by rw [rowsP_leaf hk,rowsP_leaf hk],by rw [wtP_leaf hk,wtP_leaf hk]⟩
 | n + 1,p,ok=>by
  cases hk:p.kids with
  | none=>exact ⟨(okP_leaf hk _).2 ((okP_leaf hk _).1 ok),by rw [rowsP_leaf hk,rowsP_leaf hk],by rw [wtP_leaf hk,wtP_leaf hk]⟩
  | some lh =>
   obtain ⟨l,h⟩:=lh
   obtain ⟨m,e,o1,o2,o3⟩:=okP_node hk ok
   have e':n=m:=by omega
   subst e'
   obtain ⟨a1,a2,a3⟩:=okP_mono n _ o1
   obtain ⟨b1,b2,b3⟩:=okP_mono n _ o2
   refine ⟨?_,by rw [rowsP_node hk,rowsP_node hk,a2,b2],by rw [wtP_node hk,wtP_node hk,a3,b3]⟩
   rw [OkP,hk]
   dsimp only
   rw [a2,b2]
   exact ⟨a1,b1,o3⟩
theorem okP_box {T:Nat->Pt} {d n:Nat} {p:Pt} (ok:OkP T d n p):BoxOk d p (rowsP T n p):=by
 cases hk:p.kids with
 | none=>rw [rowsP_leaf hk];exact ((okP_leaf hk n).1 ok).2
 | some lh =>
  obtain ⟨l,h⟩:=lh
  obtain ⟨m,rfl,_,_,o3,_⟩:=okP_node hk ok
  rw [rowsP_node hk];exact o3
theorem okP_ne {T:Nat->Pt} {d:Nat}:∀ n p,OkP T d n p->rowsP T n p ≠ []
 | 0,p,ok=>by rw [OkP] at ok;rw [rowsP];exact ok.2.1
 | n + 1,p,ok=>by
  cases hk:p.kids with
  | none=>rw [rowsP_leaf hk];exact ((okP_leaf hk _).1 ok).1
  | some lh =>
   obtain ⟨l,h⟩:=lh
   obtain ⟨m,e,o1,_⟩:=okP_node hk ok
   have e':n=m:=by omega
   subst e'
   rw [rowsP_node hk]
   intro e
   exact okP_ne n _ o1 (List.append_eq_nil_iff.1 e).1
def bnd (q:List Int) (p:Pt):Nat:=bx p.L p.H q
def insP (q:List Int) (p:Pt):List Pt->List Pt
 | []=>[p]
 | u :: r=>if bnd q p<=bnd q u then u :: insP q p r else p :: u :: r
theorem insP_perm (q:List Int) (p:Pt):∀ l,(insP q p l).Perm (p :: l)
 | []=>List.Perm.refl _
 | u :: r=>by
  rw [insP]
  split
  ·exact ((insP_perm q p r).cons u).trans (List.Perm.swap p u r)
  ·exact List.Perm.refl _
def Dsc (q:List Int) (l:List Pt):Prop:=l.Pairwise fun u v=>bnd q v<=bnd q u
theorem insP_dsc (q:List Int) (p:Pt):∀ l,Dsc q l->Dsc q (insP q p l)
 | [],_=>List.pairwise_singleton _ _
 | u :: r,h=>by
  rw [insP]
  have h1:=List.pairwise_cons.1 h
  split
  ·rename_i hle
   refine List.pairwise_cons.2 ⟨fun x hx=>?_,insP_dsc q p r h1.2⟩
   rcases List.mem_cons.1 ((insP_perm q p r).subset hx) with e | e
   ·rw [e];exact hle
   ·exact h1.1 x e
  ·rename_i hle
   refine List.pairwise_cons.2 ⟨fun x hx=>?_,h⟩
   rcases List.mem_cons.1 hx with e | e
   ·rw [e];omega
   ·have:=h1.1 x e;omega
theorem insP_at (q:List Int) (p:Pt):∀ l,Dsc q l->insP q p l=l.take (l.countP fun u=>decide (bnd q p<=bnd q u)) ++ p :: l.drop (l.countP fun u=>decide (bnd q p<=bnd q u))
 | [],_=>rfl
 | u :: r,h=>by
  have h1:=List.pairwise_cons.1 h
  rw [insP]
  split
  ·rename_i hle
   rw [List.countP_cons_of_pos (by simpa using hle),List.take_succ_cons,List.drop_succ_cons,List.cons_append,<- insP_at q p r h1.2]
  ·rename_i hle
   have h0:(u :: r).countP (fun u=>decide (bnd q p<=bnd q u))=0:=by
    rw [List.countP_eq_zero]
    intro x hx
    rcases List.mem_cons.1 hx with e | e
    ·rw [e];simpa using hle
    ·have:=h1.1 x e;simp;omega
   rw [h0];rfl
def dN (x:Tk.Ht):Nat:=(x.2.1 * 18446744073709551616 + x.2.2).toNat
theorem dN_hit (q:List Int) (r:Rw):dN (hitOf q r)=dst q r.2:=by
 unfold dN hitOf hi lo
 dsimp only
 omega
structure Sr where
 seen:List Rw
 bud:Nat
 opn:List Pt
def beyond (q:List Int) (k:Nat) (seen:List Rw) (p:Pt):Bool:=decide ((Tk.firsts k (hitsOf q seen)).length=k) && decide (dN (Tk.firsts k (hitsOf q seen))[k - 1]! < bnd q p)
def look (T:Nat->Pt) (q:List Int) (s:Sr) (p:Pt) (o:List Pt):Sr:=match p.kids with
 | some (l,h)=>⟨s.seen,s.bud,insP q (T h) (insP q (T l) o)⟩
 | none=>⟨s.seen ++ p.rs.take (min s.bud p.rs.length),s.bud - min s.bud p.rs.length,if min s.bud p.rs.length < p.rs.length then insP q ⟨p.L,p.H,p.rs.drop (min s.bud p.rs.length),(0,0,0),none⟩ o else o⟩
def stepS (T:Nat->Pt) (q:List Int) (k:Nat) (s:Sr):Option Sr:=match s.opn.getLast? with
 | none=>none
 | some p=>if beyond q k s.seen p=true then none else if p.kids=none/\s.bud=0 then none else some (look T q s p s.opn.dropLast)
def runS (T:Nat->Pt) (q:List Int) (k:Nat):Nat->Sr->Sr
 | 0,s=>s
 | n + 1,s=>match stepS T q k s with
  | none=>s
  | some s'=>runS T q k n s'
theorem runS_stop {T:Nat->Pt} {q:List Int} {k:Nat} {s:Sr} (h:stepS T q k s=none):∀ n,runS T q k n s=s
 | 0=>rfl
 | n + 1=>by rw [runS,h]
structure InvS (T:Nat->Pt) (d N:Nat) (q:List Int) (b0:Nat) (rs:List Rw) (s:Sr):Prop where
 rows:(s.seen ++ s.opn.flatMap (rowsP T N)).Perm rs
 ok:∀ p ∈ s.opn,OkP T d N p
 dsc:Dsc q s.opn
 bud:s.seen.length + s.bud=b0
def wtS (T:Nat->Pt) (N:Nat) (s:Sr):Nat:=(s.opn.map (wtP T N)).sum
theorem wtP_pos (T:Nat->Pt):∀ n p,0 < wtP T n p
 | 0,p=>by rw [wtP];omega
 | n + 1,p=>by
  rw [wtP];split <;> omega
theorem last_split {l:List Pt} {p:Pt} (h:l.getLast? = some p):l=l.dropLast ++ [p]:=by
 have hne:l ≠ []:=by intro e;rw [e] at h;cases h
 rw [List.getLast?_eq_some_getLast hne] at h
 injection h with h
 rw [<- h,List.dropLast_concat_getLast]
theorem flat_perm {f:Pt->List Rw} {l m:List Pt} (p:l.Perm m):(l.flatMap f).Perm (m.flatMap f):=List.Perm.flatMap_right f p
theorem sum_permN {l m:List Nat} (p:l.Perm m):l.sum=m.sum:=p.sum_nat
theorem look_inv {T:Nat->Pt} {d N:Nat} {q:List Int} {b0:Nat} {rs:List Rw} {s:Sr} {p:Pt} {o:List Pt} (hs:s.opn=o ++ [p]) (h:InvS T d N q b0 rs s) (hb:¬ (p.kids=none/\s.bud=0)) :
  InvS T d N q b0 rs (look T q s p o)/\wtS T N (look T q s p o) < wtS T N s:=by
 have ok:=h.ok
 have rows:=h.rows
 have dsc:=h.dsc
 have hw:wtS T N s=(o.map (wtP T N)).sum + wtP T N p:=by unfold wtS;rw [hs];simp
 rw [hs] at ok rows dsc
 have okp:=ok p (by simp)
 have oko:∀ u ∈ o,OkP T d N u:=fun u hu=>ok u (List.mem_append_left _ hu)
 have dsco:Dsc q o:=dsc.sublist (List.sublist_append_left _ _)
 rw [List.flatMap_append] at rows
 simp only [List.flatMap_cons,List.flatMap_nil,List.append_nil] at rows
 cases hk:p.kids with
 | some lh =>
  obtain ⟨l,hh⟩:=lh
  have e:look T q s p o=⟨s.seen,s.bud,insP q (T hh) (insP q (T l) o)⟩:=by unfold look;rw [hk]
  obtain ⟨m,rfl,o1,o2,_⟩:=okP_node hk okp
  obtain ⟨a1,a2,a3⟩:=okP_mono m _ o1
  obtain ⟨b1,b2,b3⟩:=okP_mono m _ o2
  have pp:(insP q (T hh) (insP q (T l) o)).Perm (T hh :: T l :: o):=(insP_perm q _ _).trans ((insP_perm q _ _).cons _)
  rw [e]
  refine ⟨⟨?_,fun u hu=>?_,insP_dsc q _ _ (insP_dsc q _ _ dsco),h.bud⟩,?_⟩
  ·dsimp only
   refine List.Perm.trans (List.Perm.append_left _ (flat_perm pp)) (List.Perm.trans ?_ rows)
   simp only [List.flatMap_cons]
   rw [a2,b2,rowsP_node hk]
   refine List.Perm.append_left _ ?_
   refine List.Perm.trans ?_ List.perm_append_comm
   rw [<- List.append_assoc]
   exact List.Perm.append_right _ List.perm_append_comm
  ·rcases List.mem_cons.1 (pp.subset hu) with e | hu
   ·rw [e];exact b1
   ·rcases List.mem_cons.1 hu with e | hu
    ·rw [e];exact a1
    ·exact oko u hu
  ·rw [hw]
   unfold wtS
   dsimp only
   rw [sum_permN (pp.map (wtP T (m + 1)))]
   simp only [List.map_cons,List.sum_cons]
   rw [a3,b3,wtP_node hk]
   omega
 | none =>
  have hbud:s.bud ≠ 0:=fun e=>hb ⟨hk,e⟩
  obtain ⟨hne,hbox⟩:=(okP_leaf hk N).1 okp
  have hlen:0 < p.rs.length:=List.length_pos_iff.2 hne
  rw [rowsP_leaf hk] at rows
  rw [wtP_leaf hk] at hw
  have e:look T q s p o=⟨s.seen ++ p.rs.take (min s.bud p.rs.length),s.bud - min s.bud p.rs.length,if min s.bud p.rs.length < p.rs.length then insP q ⟨p.L,p.H,p.rs.drop (min s.bud p.rs.length),(0,0,0),none⟩ o else o⟩:=by unfold look;rw [hk]
  rw [e]
  obtain ⟨c,hc⟩:∃ c,c=min s.bud p.rs.length:=⟨_,rfl⟩
  rw [<- hc]
  have hb2:=h.bud
  have htl:(p.rs.take c).length=c:=by rw [List.length_take];omega
  by_cases hlt:c < p.rs.length
  ·rw [if_pos hlt]
   have pp:=insP_perm q ⟨p.L,p.H,p.rs.drop c,(0,0,0),none⟩ o
   refine ⟨⟨?_,fun u hu=>?_,insP_dsc q _ _ dsco,?_⟩,?_⟩
   ·dsimp only
    refine List.Perm.trans (List.Perm.append_left _ (flat_perm pp)) (List.Perm.trans ?_ rows)
    simp only [List.flatMap_cons]
    rw [rowsP_leaf rfl]
    dsimp only
    rw [List.append_assoc]
    refine List.Perm.append_left _ ?_
    rw [<- List.append_assoc,List.take_append_drop]
    exact List.perm_append_comm
   ·rcases List.mem_cons.1 (pp.subset hu) with e | hu
    ·rw [e]
     refine (okP_leaf rfl N).2 ⟨fun e=>?_,hbox.1,fun r hr=>hbox.2 r (List.mem_of_mem_drop hr)⟩
     have:=congrArg List.length e
     dsimp only at this
     rw [List.length_drop] at this
     simp at this
     omega
    ·exact oko u hu
   ·dsimp only
    rw [List.length_append,htl]
    omega
   ·rw [hw]
    unfold wtS
    dsimp only
    rw [sum_permN (pp.map (wtP T N))]
    simp only [List.map_cons,List.sum_cons]
    rw [wtP_leaf rfl]
    dsimp only
    rw [List.length_drop]
    omega
  ·rw [if_neg hlt]
   have hcl:c=p.rs.length:=by omega
   refine ⟨⟨?_,oko,dsco,?_⟩,?_⟩
   ·dsimp only
    refine List.Perm.trans ?_ rows
    rw [hcl,List.take_length,List.append_assoc]
    exact List.Perm.append_left _ List.perm_append_comm
   ·dsimp only
    rw [List.length_append,htl]
    omega
   ·rw [hw];unfold wtS;dsimp only;omega
theorem step_inv {T:Nat->Pt} {d N:Nat} {q:List Int} {k b0:Nat} {rs:List Rw} {s s':Sr} (h:InvS T d N q b0 rs s) (e:stepS T q k s=some s'):InvS T d N q b0 rs s'/\wtS T N s' < wtS T N s:=by
 unfold stepS at e
 cases hl:s.opn.getLast? with
 | none=>rw [hl] at e;cases e
 | some p =>
  rw [hl] at e
  dsimp only at e
  split at e
  ·cases e
  ·split at e
   ·cases e
   ·rename_i hb
    injection e with e
    rw [<- e]
    exact look_inv (last_split hl) h hb
theorem run_inv {T:Nat->Pt} {d N:Nat} {q:List Int} {k b0:Nat} {rs:List Rw}:∀ n s,InvS T d N q b0 rs s->wtS T N s<=n->InvS T d N q b0 rs (runS T q k n s)/\stepS T q k (runS T q k n s)=none
 | 0,s,h,hw=>by
  refine ⟨h,?_⟩
  show stepS T q k s=none
  cases e:stepS T q k s with
  | none=>rfl
  | some s'=>have:=(step_inv h e).2;omega
 | n + 1,s,h,hw=>by
  rw [runS]
  cases e:stepS T q k s with
  | none=>exact ⟨h,e⟩
  | some s' =>
   obtain ⟨h1,h2⟩:=step_inv h e
   exact run_inv n s' h1 (by omega)
theorem step_none {T:Nat->Pt} {d N:Nat} {q:List Int} {k b0:Nat} {rs:List Rw} {s:Sr} (h:InvS T d N q b0 rs s) (e:stepS T q k s=none) :
  s.opn=[] ∨ ((Tk.firsts k (hitsOf q s.seen)).length=k/\∀ p ∈ s.opn,dN (Tk.firsts k (hitsOf q s.seen))[k - 1]! < bnd q p) ∨ s.bud=0:=by
 unfold stepS at e
 cases hl:s.opn.getLast? with
 | none=>exact .inl (List.getLast?_eq_none_iff.1 hl)
 | some p =>
  rw [hl] at e
  dsimp only at e
  split at e
  ·rename_i hb
   unfold beyond at hb
   simp only [Bool.and_eq_true,decide_eq_true_eq] at hb
   refine .inr (.inl ⟨hb.1,fun u hu=>?_⟩)
   have hs:=last_split hl
   have dsc:=h.dsc
   rw [hs] at hu dsc
   rcases List.mem_append.1 hu with hu | hu
   ·have:=(List.pairwise_append.1 dsc).2.2 u hu p (by simp)
    omega
   ·rw [List.mem_singleton.1 hu];exact hb.2
  ·split at e
   ·rename_i hb;exact .inr (.inr hb.2)
   ·cases e
end Go.Proofs.YtgbgejflmbhigaaGreat

namespace Go.Proofs.YtgbgejflmbhigaaGreat
open Go.RowKit Go.Sort
set_option maxHeartbeats 2000000
theorem gw_gb {w w':World} (h:Tk.Gw w w'):Gb w w':=h.gr
theorem seven_call {w0 W w':World} {p0 p1 p2 p3 p4 p5 p6:Addr} {v0 v1 v2 v3 v4 v5 v6:Value} (g:Tk.Gw W w')
  (h:Tk.Gw w0 W/\W.cell? p0=some v0/\W.cell? p1=some v1/\W.cell? p2=some v2/\W.cell? p3=some v3/\W.cell? p4=some v4/\W.cell? p5=some v5/\W.cell? p6=some v6) :
  Tk.Gw w0 w'/\w'.cell? p0=some v0/\w'.cell? p1=some v1/\w'.cell? p2=some v2/\w'.cell? p3=some v3/\w'.cell? p4=some v4/\w'.cell? p5=some v5/\w'.cell? p6=some v6:=by
 obtain ⟨a,b0,b1,b2,b3,b4,b5,b6⟩:=h
 exact ⟨a.trans g,Tk.gr_keeps g.gr b0,Tk.gr_keeps g.gr b1,Tk.gr_keeps g.gr b2,Tk.gr_keeps g.gr b3,Tk.gr_keeps g.gr b4,Tk.gr_keeps g.gr b5,Tk.gr_keeps g.gr b6⟩
theorem seven_alloc {w0 W:World} {o:Obj} {p0 p1 p2 p3 p4 p5 p6:Addr} {v0 v1 v2 v3 v4 v5 v6:Value}
  (h:Tk.Gw w0 W/\W.cell? p0=some v0/\W.cell? p1=some v1/\W.cell? p2=some v2/\W.cell? p3=some v3/\W.cell? p4=some v4/\W.cell? p5=some v5/\W.cell? p6=some v6) :
  Tk.Gw w0 (W.alloc o)/\(W.alloc o).cell? p0=some v0/\(W.alloc o).cell? p1=some v1/\(W.alloc o).cell? p2=some v2/\(W.alloc o).cell? p3=some v3/\(W.alloc o).cell? p4=some v4/\(W.alloc o).cell? p5=some v5/\(W.alloc o).cell? p6=some v6 :=
 seven_call ((Tk.Gw.refl _).alloc _) h
theorem compare_g (a b:Int) (w:World):Calls Tryz.prog 32 #[.int .i64 a,.int .i64 b] w fun e w'=>e=.returned (.int .i64 (Tk.ci a b))/\Tk.Gw w w' :=
 (Tk.compare_c a b w).mono fun _ _ ⟨h,e⟩=>⟨h,by rw [e];exact Tk.Gw.refl _⟩
def alg (x:Int) (a:Int) (y:Int) (b:Int):Int:=Tk.cor (Tk.ci a b) (Tk.ci x y)
theorem along1_c {w:World} {x y:Int} {u v:Value} {l m:List Int} {ax cb co:Nat} (hu:RdI w u l) (hv:RdI w v m) (hl:ax < l.length) (hm:ax < m.length) (hc:w.cell? ⟨cb,co,none⟩=some (.int .i64 (ax:Int))) :
  Calls Tryz.prog 97 #[.agg #[.int .i64 x,u],.agg #[.int .i64 y,v],.pointer (some ⟨cb,co,none⟩)] w fun e w'=>e=.returned (.int .i64 (alg x l[ax]! y m[ax]!))/\Tk.Gw w w':=by
 unfold alg
 obtain ⟨a,cap,rfl,h⟩:=hu
 obtain ⟨b,o,rfl,hA⟩:=h ax hl
 obtain ⟨a',cap',rfl,h'⟩:=hv
 obtain ⟨b',o',rfl,hB⟩:=h' ax hm
 generalize l[ax]! = f at *
 generalize m[ax]! = g at *
 generalize l.length=n at *
 generalize m.length=n' at *
 clear h h'
 go_enter Tryz.func97,Tryz.ntmps97
 go_wp2
 have C:Tk.Gw w ((w.alloc (.cells #[.int .i64 x,.slice (some ⟨b,o,none⟩) n cap] 39)).alloc (.cells #[.int .i64 y,.slice (some ⟨b',o',none⟩) n' cap'] 39)):=((Tk.Gw.refl _).alloc _).alloc _
 go_region_held3 (fun w'=>Tk.Gw w w'/\w'.cell? ⟨w.heap.size,0,none⟩=some (.int .i64 x)/\w'.cell? ⟨w.heap.size,1,none⟩=some (.slice (some ⟨b,o,none⟩) n cap)/\w'.cell? ⟨w.heap.size + 1,0,none⟩=some (.int .i64 y)/\w'.cell? ⟨w.heap.size + 1,1,none⟩=some (.slice (some ⟨b',o',none⟩) n' cap')/\w'.cell? ⟨cb,co,none⟩=some (.int .i64 (ax:Int))/\w'.cell? ⟨b,o + ax,none⟩=some (.int .i64 f)/\w'.cell? ⟨b',o' + ax,none⟩=some (.int .i64 g)) (first | (with_reducible exact seven_call (by assumption) (by assumption)) | (with_reducible assumption) | (with_reducible exact seven_alloc (by assumption)) | exact ⟨C.drew,by simp [go_sem],by simp [go_sem],by simp [go_sem],by simp [go_sem],Tk.gr_keeps C.drew.gr hc,Tk.gr_keeps C.drew.gr hA,Tk.gr_keeps C.drew.gr hB⟩) (first | (go_at_call 32;refine (compare_g _ _ _).mono ?_;rintro e w' ⟨rfl,hg⟩) | (go_at_call 98;refine (Tk.or_new _ _ _).mono ?_;rintro e w' ⟨rfl,rfl⟩))
 all_goals
  go_wp2
  go_ret
  exact ⟨rfl,And.left (by assumption)⟩
theorem alg_neg (x a y b:Int):decide (alg x a y b < 0)=(decide (a < b) || (decide (a=b) && decide (x < y))):=by
 unfold alg Tk.cor Tk.ci
 by_cases h1:a < b
 ·simp [h1]
 ·by_cases h2:b < a
  ·simp [h1,h2];intro e;omega
  ·have e:a=b:=by omega
   subst e
   by_cases h3:x < y
   ·simp [h3]
   ·by_cases h4:y < x <;> simp [h3,h4]
theorem isAbove_c {w:World} {x at' id ax:Int} {u:Value} {l:List Int} (hu:RdI w u l) (h0:0<=ax) (h1:ax < (l.length:Int)) :
  Calls Tryz.prog 115 #[.agg #[.int .i64 ax,.int .i64 at',.int .i64 id],.agg #[.int .i64 x,u]] w fun e w'=>e=.returned (.bool (isAb (ax,at',id) (x,l)))/\Tk.Gw w w':=by
 rw [show isAb (ax,at',id) (x,l)=decide (alg x l[ax.toNat]! id at' < 0) from (alg_neg _ _ _ _).symm]
 unfold alg
 obtain ⟨A,rfl⟩:∃ A:Nat,ax=A:=⟨ax.toNat,by omega⟩
 rw [Int.toNat_natCast]
 have hl:A < l.length:=by omega
 obtain ⟨a,cap,rfl,h⟩:=hu
 obtain ⟨b,o,rfl,hA⟩:=h A hl
 generalize l[A]! = f at *
 generalize l.length=n at *
 clear h h0 h1
 go_enter Tryz.func115,Tryz.ntmps115
 go_wp2
 have C:Tk.Gw w ((w.alloc (.cells #[.int .i64 (A:Int),.int .i64 at',.int .i64 id] 106)).alloc (.cells #[.int .i64 x,.slice (some ⟨b,o,none⟩) n cap] 39)):=((Tk.Gw.refl _).alloc _).alloc _
 go_region_held3 (fun w'=>Tk.Gw w w'/\w'.cell? ⟨w.heap.size,0,none⟩=some (.int .i64 (A:Int))/\w'.cell? ⟨w.heap.size,1,none⟩=some (.int .i64 at')/\w'.cell? ⟨w.heap.size,2,none⟩=some (.int .i64 id)/\w'.cell? ⟨w.heap.size + 1,0,none⟩=some (.int .i64 x)/\w'.cell? ⟨w.heap.size + 1,1,none⟩=some (.slice (some ⟨b,o,none⟩) n cap)/\w'.cell? ⟨b,o + A,none⟩=some (.int .i64 f)) (first | (with_reducible exact Tk.six_call (by assumption) (by assumption)) | (with_reducible assumption) | (with_reducible exact Tk.six_alloc (by assumption)) | exact ⟨C.drew,by simp [go_sem],by simp [go_sem],by simp [go_sem],by simp [go_sem],by simp [go_sem],Tk.gr_keeps C.drew.gr hA⟩) (first | (go_at_call 32;refine (compare_g _ _ _).mono ?_;rintro e w' ⟨rfl,hg⟩) | (go_at_call 98;refine (Tk.or_new _ _ _).mono ?_;rintro e w' ⟨rfl,rfl⟩))
 all_goals
  go_wp2
  go_ret
  exact ⟨rfl,And.left (by assumption)⟩
theorem along_c (ax:Int) (w:World):Calls Tryz.prog 60 #[.int .i64 ax] w fun e w'=>e=.returned (.func (.func 97) #[] #[.pointer (some ⟨w.heap.size,0,none⟩)])/\w'=w.alloc (.cells #[.int .i64 ax] 3):=by
 go_enter Tryz.func60,Tryz.ntmps60
 go_wp2
 go_ret
 exact ⟨rfl,rfl⟩
def wid (L H:List Int):Nat->Nat
 | 0=>0
 | n + 1=>if H[wid L H n]! - L[wid L H n]! < H[n]! - L[n]! then n else wid L H n
theorem wid_le (L H:List Int):∀ n,wid L H n<=n - 1
 | 0=>Nat.le_refl _
 | n + 1=>by
  have:=wid_le L H n
  unfold wid
  split <;> omega
end Go.Proofs.YtgbgejflmbhigaaGreat

namespace Go.Proofs.YtgbgejflmbhigaaGreat
open Go.Shelf Go.RowKit Go.Lib Go.Sort
shelf_lay_g SlLaysF0.n6 Slsf 6 at Tryz 30 as Tryz.laidSortR
abbrev Rt:=Int × Value × List Int
abbrev encR (x:Rt):List Value:=[.int .i64 x.1,x.2.1]
abbrev rwR (x:Rt):Rw:=(x.1,x.2.2)
def RwAt (w:World) (g o:Nat) (d:List Rt):Prop:=∃ cur,w.heap[g]? = some (.cells cur 39 (0,0))/\o + d.length * 2<=cur.size/\∀ i (h:i < d.length),cur[o + i * 2]? = some (.int .i64 d[i].1)/\cur[o + i * 2 + 1]? = some d[i].2.1
theorem cell_cur {w:World} {g i:Nat} {cur:Array Value} {t:TypeId} {s:Nat × Nat} {v:Value} (h:w.heap[g]? = some (.cells cur t s)) (hc:cur[i]? = some v):w.cell? ⟨g,i,none⟩=some v:=by
 simp [World.cell?,h,hc]
structure Srt (w w':World) (g o n:Nat):Prop where
 kp:Tk.Kp (fun b=>b=g) w w'
 blk:∀ cur,w.heap[g]? = some (.cells cur 39 (0,0))->∃ cur',w'.heap[g]? = some (.cells cur' 39 (0,0))/\cur'.size=cur.size/\∀ i,(i < o ∨ o + n * 2<=i)->cur'[i]? = cur[i]?
theorem sort_heap {α:Type} [Inhabited α] (enc:α->List Value) (w:World) (g o m:Nat) (d:Array α) (os:Array Obj) {cur:Array Value} (h:w.heap[g]? = some (.cells cur 39 (0,0))) :
  (sortWorldK enc 2 w g o m d os).heap[g]? = some (.cells (putCells id o (flatK enc 2 d) cur) 39 (0,0)):=by
 have hlt:=(Array.getElem?_eq_some_iff.1 h).1
 unfold sortWorldK
 rw [heap_grow_old _ _ (by simp [putRowK,putRow,mapBlock];exact hlt)]
 simp [putRowK,putRow,mapBlock,Array.getElem?_modify,h,onCells]
theorem sort_kp {α:Type} [Inhabited α] (enc:α->List Value) (w:World) (g o m:Nat) (d:Array α) (os:Array Obj):Tk.Kp (fun b=>b=g) w (sortWorldK enc 2 w g o m d os):=by
 unfold sortWorldK
 refine Tk.Kp.trans (b:=putRowK enc 2 (Sort.ahead w m) g o d) ⟨rfl,rfl,rfl,by simp [putRowK,putRow,mapBlock],fun k _ hn=>?_⟩ (Tk.Kp.of_gr (Tk.gr_grow _ _))
 simp [putRowK,putRow,mapBlock,Array.getElem?_modify,Ne.symm hn]
theorem rdi_kp {S:Nat->Prop} {w w':World} {u:Value} {l:List Int} (h:RdI w u l) (k:Tk.Kp S w w') (hn:∀ b o n c,u=.slice (some ⟨b,o,none⟩) n c->¬ S b):RdI w' u l:=by
 obtain ⟨a,cap,rfl,h⟩:=h
 refine ⟨a,cap,rfl,fun i hi=>?_⟩
 obtain ⟨b,o,rfl,hc⟩:=h i hi
 exact ⟨b,o,rfl,k.cell hc (hn _ _ _ _ rfl)⟩
theorem sortR {w:World} {g o cap fn:Nat} {d:List Rt} {cb:Array Value} {cf:Rt->Rt->Int} (ok:Rt->Prop) (hd:RwAt w g o d) (hne:d ≠ []) (hlen:d.length<=4000) (hok:∀ x ∈ d,ok x) (hone:∀ x,ok x->x.2.1.oneCell'=true)
  (hO:SWO (fun x y:Rt=>decide (cf x y < 0))) (eg:∀ args w,(callFunc fn args).run Tryz.prog w=.ok (.enter fn args) w)
  (hc:∀ W,Tk.Kp (fun b=>b=g) w W->∀ x y,ok x->ok y->Calls Tryz.prog fn (#[.agg #[.int .i64 x.1,x.2.1],.agg #[.int .i64 y.1,y.2.1]] ++ cb) W fun e w'=>e=.returned (.int .i64 (cf x y))/\Tk.Gw W w') :
  Calls Tryz.prog 30 #[.slice (some ⟨g,o,none⟩) d.length cap,.func (.func fn) #[] cb] w fun e w'=>e=.returned (.tuple #[])/\∃ d',d'.Perm d/\(d'.Pairwise fun x y=>¬ cf y x < 0)/\RwAt w' g o d'/\Srt w w' g o d.length:=by
 haveI:Inhabited {x // ok x}:=⟨⟨d.head hne,hok _ (List.head_mem hne)⟩⟩
 obtain ⟨cur,hcur,hsz,hcells⟩:=hd
 have hlt:=(Array.getElem?_eq_some_iff.1 hcur).1
 obtain ⟨A,hA⟩:∃ A:Array {x // ok x},A=(d.attachWith ok hok).toArray:=⟨_,rfl⟩
 have hAs:A.size=d.length:=by rw [hA];simp
 have hAg:∀ i (h:i < d.length),(A[i]!).1=d[i]:=by
  intro i h
  rw [getElem!_pos A i (by omega)]
  subst hA
  simp
 have hH:HoldsK (fun x:{x // ok x}=>encR x.1) 2 w g o A:=by
  intro t ht
  have ht':t < d.length * 2:=by simpa [hAs] using ht
  have hi:t / 2 < d.length:=by omega
  have e:(flatK (fun x:{x // ok x}=>encR x.1) 2 A)[t]! = (encR d[t / 2])[t % 2]! := by
   rw [get_flatK _ _ _ _ (by rw [hAs];exact ht'),hAg _ hi]
  refine ⟨?_,by simp [World.frozen?,hcur]⟩
  rw [e]
  obtain ⟨c0,c1⟩:=hcells (t / 2) hi
  rcases Nat.mod_two_eq_zero_or_one t with h0 | h0
  ·rw [h0];exact cell_cur hcur (by rw [show o + t=o + t / 2 * 2 by omega];exact c0)
  ·rw [h0];exact cell_cur hcur (by rw [show o + t=o + t / 2 * 2 + 1 by omega];exact c1)
 have hS:SWO (ltOf fun x y:{x // ok x}=>cf x.1 y.1):=⟨fun x=>hO.irrefl x.1,fun x y z=>hO.trans x.1 y.1 z.1,fun x y z=>hO.ntrans x.1 y.1 z.1⟩
 have hcmp:CmpLays Tryz.prog fn cb (fun x:{x // ok x}=>encR x.1) 2 (fun x y=>cf x.1 y.1) g o A.size w:=by
  intro m os dk _ x y
  exact hc _ (sort_kp _ _ _ _ _ _ _) x.1 y.1 x.2 y.2
 have hs:=AnyQ.slices_SortFunc Tryz.laidSortR 2 Tryz.isAgg39 Tryz.sizeOf39 (fun x:{x // ok x}=>encR x.1) (fun _=>rfl) (fun x v hv=>by
  simp only [encR,List.mem_cons,List.not_mem_nil,or_false] at hv
  rcases hv with rfl | rfl
  ·rfl
  ·exact hone x.1 x.2) (fun x y=>cf x.1 y.1) hS fn cb g o cap A w eg hcmp hH hlt (by omega)
 rw [hAs] at hs
 change Calls Tryz.prog 30 _ _ _ at hs
 refine hs.mono ?_
 rintro e w' ⟨rfl,D,m,os,⟨hP0,_,hP⟩,hSo,rfl⟩
 have hDs:D.size=d.length:=by rw [hP0,hAs]
 rw [show d.length=A.size from hAs.symm,Array.extract_size,hAs] at hP
 rw [show D.extract 0 d.length=D by rw [<- hDs];exact Array.extract_size] at hP
 have hDl:(D.toList.map Subtype.val).length=d.length:=by simp [hDs]
 have hDg:∀ i (h:i < (D.toList.map Subtype.val).length),(D.toList.map Subtype.val)[i]=(D[i]!).1:=by
  intro i h
  rw [getElem!_pos D i (by rw [hDl] at h;omega)]
  simp
 refine ⟨rfl,D.toList.map Subtype.val,?_,?_,?_,?_⟩
 ·have:=hP.map Subtype.val
  refine this.trans (List.Perm.of_eq ?_)
  rw [hA]
  simp only []
  first | exact List.attachWith_map_subtype_val _ | exact List.attachWith_map_val _ | (simp;exact List.attach_map_subtype_val d)
 ·rw [List.pairwise_iff_getElem]
  intro i j hi hj hij
  rw [hDg i hi,hDg j hj]
  have:=hSo i j (Nat.zero_le _) hij (by rw [hDl] at hj;exact hj)
  unfold ltOf at this
  exact of_decide_eq_false this
 ·refine ⟨_,sort_heap _ w g o m D os hcur,by rw [hDl];simpa [putCells] using hsz,fun i h=>?_⟩
  rw [hDg i h]
  have hi:i < d.length:=by rw [hDl] at h;exact h
  have key:∀ t,t < d.length * 2->(putCells id o (flatK (fun x:{x // ok x}=>encR x.1) 2 D) cur)[o + t]? = some ((encR (D[t / 2]!).1)[t % 2]!):=by
   intro t ht
   have hb:o + t < cur.size:=by omega
   simp only [putCells,Array.getElem?_mapIdx,Array.getElem?_eq_getElem hb,Option.map_some]
   rw [if_pos ⟨by omega,by simp [hDs];omega⟩,show o + t - o=t by omega,get_flatK _ _ _ _ (by rw [hDs];exact ht)]
   rfl
  have k0:=key (i * 2) (by omega)
  have k1:=key (i * 2 + 1) (by omega)
  rw [show i * 2 / 2=i by omega,show i * 2 % 2=0 by omega] at k0
  rw [show (i * 2 + 1) / 2=i by omega,show (i * 2 + 1) % 2=1 by omega] at k1
  exact ⟨k0,by rw [Nat.add_assoc];exact k1⟩
 ·refine ⟨sort_kp _ _ _ _ _ _ _,fun cur2 h2=>?_⟩
  rw [hcur] at h2
  injection h2 with h2
  injection h2 with h2 _ _
  subst h2
  refine ⟨_,sort_heap _ w g o m D os hcur,by simp [putCells],fun i hi=>?_⟩
  simp only [putCells,Array.getElem?_mapIdx]
  have hn2:¬ (o<=i/\i < o + (flatK (fun x:{x // ok x}=>encR x.1) 2 D).size):=by simp [hDs];omega
  cases hcc:cur[i]? with
  | none=>rfl
  | some c=>rw [Option.map_some,if_neg hn2]
end Go.Proofs.YtgbgejflmbhigaaGreat

namespace Go.Proofs.YtgbgejflmbhigaaGreat
open Go.Shelf Go.RowKit Go.Lib Go.Sort
set_option maxHeartbeats 1000000
shelf_lay_g SlLaysE0.n41 Slgn 41 at Tryz 58 as Tryz.laidCloneR
theorem swoAl (ax:Nat):SWO (fun x y:Rt=>decide (alg x.1 x.2.2[ax]! y.1 y.2.2[ax]! < 0)):=by
 refine ⟨fun x=>?_,fun x y z=>?_,fun x y z=>?_⟩
 ·simp only [alg_neg];simp
 ·simp only [alg_neg]
  generalize x.2.2[ax]! = a
  generalize y.2.2[ax]! = b
  generalize z.2.2[ax]! = c
  simp only [Bool.or_eq_true,Bool.and_eq_true,decide_eq_true_eq]
  omega
 ·simp only [alg_neg]
  generalize x.2.2[ax]! = a
  generalize y.2.2[ax]! = b
  generalize z.2.2[ax]! = c
  simp only [Bool.or_eq_false_iff,Bool.and_eq_false_iff,decide_eq_false_iff_not]
  omega
theorem swoId:SWO (fun x y:Rt=>decide (Tk.ci x.1 y.1 < 0)):=by
 have e:∀ a b:Int,decide (Tk.ci a b < 0)=decide (a < b):=fun a b=>by
  unfold Tk.ci
  split
  ·rename_i h;simp [h]
  ·rename_i h;split <;> simp [h]
 refine ⟨fun x=>?_,fun x y z=>?_,fun x y z=>?_⟩ <;> simp only [e,decide_eq_true_eq,decide_eq_false_iff_not] <;> omega
structure RtOk (w:World) (g n:Nat) (x:Rt):Prop where
 rd:RdI w x.2.1 x.2.2
 len:x.2.2.length=n
 ne:∀ b o n c,x.2.1=.slice (some ⟨b,o,none⟩) n c->b ≠ g
theorem RtOk.one {w:World} {g n:Nat} {x:Rt} (h:RtOk w g n x):x.2.1.oneCell'=true:=by
 obtain ⟨a,c,e,_⟩:=h.rd
 rw [e];rfl
theorem RtOk.kp {w w':World} {g n:Nat} {x:Rt} (h:RtOk w g n x) (k:Tk.Kp (fun b=>b=g) w w'):RtOk w' g n x :=
 ⟨rdi_kp h.rd k (fun b o n c e=>h.ne b o n c e),h.len,h.ne⟩
theorem sortAl_c {w:World} {g o cap cb ax n:Nat} {d:List Rt} (hd:RwAt w g o d) (hne:d ≠ []) (hlen:d.length<=4000) (hok:∀ x ∈ d,RtOk w g n x) (hax:ax < n) (hcb:w.cell? ⟨cb,0,none⟩=some (.int .i64 (ax:Int))) (hcg:cb ≠ g) :
  Calls Tryz.prog 30 #[.slice (some ⟨g,o,none⟩) d.length cap,.func (.func 97) #[] #[.pointer (some ⟨cb,0,none⟩)]] w fun e w'=>e=.returned (.tuple #[])/\∃ d',d'.Perm d/\(d'.Pairwise fun x y=>¬ alg y.1 y.2.2[ax]! x.1 x.2.2[ax]! < 0)/\RwAt w' g o d'/\Srt w w' g o d.length :=
 sortR (cf:=fun x y=>alg x.1 x.2.2[ax]! y.1 y.2.2[ax]!) (RtOk w g n) hd hne hlen hok (fun _ h=>h.one) (swoAl ax) (enters_of Tryz.func97 (by kernel_rfl) rfl)
  (fun W k x y hx hy=>along1_c (hx.kp k).rd (hy.kp k).rd (by rw [hx.len];exact hax) (by rw [hy.len];exact hax) (k.cell hcb hcg))
theorem build1_c (x y:Int) (u v:Value) (hu:u.oneCell'=true) (hv:v.oneCell'=true) (w:World) :
  Calls Tryz.prog 31 #[.agg #[.int .i64 x,u],.agg #[.int .i64 y,v]] w fun e w'=>e=.returned (.int .i64 (Tk.ci x y))/\Tk.Gw w w':=by
 have cC:=fun W=>compare_g x y W
 have hcu:u.cells=#[u]:=by first | exact Value.cells_of_oneCell' hu | (cases u <;> simp_all [Value.oneCell',Value.cells])
 have hcv:v.cells=#[v]:=by first | exact Value.cells_of_oneCell' hv | (cases v <;> simp_all [Value.oneCell',Value.cells])
 go_enter Tryz.func31,Tryz.ntmps31
 go_wp2_with fail
 refine (cC _).mono ?_
 rintro e w' ⟨rfl,hg⟩
 go_wp2
 go_ret
 exact ⟨rfl,(((Tk.Gw.refl _).alloc _).alloc _).trans hg⟩
theorem find1_c (x y:Int) (u:Value) (hu:u.oneCell'=true) (w:World) :
  Calls Tryz.prog 74 #[.agg #[.int .i64 x,u],.int .i64 y] w fun e w'=>e=.returned (.int .i64 (Tk.ci x y))/\Tk.Gw w w':=by
 have cC:=fun W=>compare_g x y W
 have hcu:u.cells=#[u]:=by first | exact Value.cells_of_oneCell' hu | (cases u <;> simp_all [Value.oneCell',Value.cells])
 go_enter Tryz.func74,Tryz.ntmps74
 go_wp2_with fail
 refine (cC _).mono ?_
 rintro e w' ⟨rfl,hg⟩
 go_wp2
 go_ret
 exact ⟨rfl,((Tk.Gw.refl _).alloc _).trans hg⟩
theorem sortId_c {w:World} {g o cap n:Nat} {d:List Rt} (hd:RwAt w g o d) (hne:d ≠ []) (hlen:d.length<=4000) (hok:∀ x ∈ d,RtOk w g n x) :
  Calls Tryz.prog 30 #[.slice (some ⟨g,o,none⟩) d.length cap,.func (.func 31) #[] #[]] w fun e w'=>e=.returned (.tuple #[])/\∃ d',d'.Perm d/\(d'.Pairwise fun x y=>¬ Tk.ci y.1 x.1 < 0)/\RwAt w' g o d'/\Srt w w' g o d.length :=
 sortR (cf:=fun x y=>Tk.ci x.1 y.1) (RtOk w g n) hd hne hlen hok (fun _ h=>h.one) swoId (enters_of Tryz.func31 (by kernel_rfl) rfl)
  (fun W _ x y hx hy=>build1_c _ _ _ _ hx.one hy.one W)
theorem sort_none (a:Option Addr) (cap:Nat) (fv:Value) (w:World):Calls Tryz.prog 30 #[.slice a 0 cap,fv] w fun e w'=>e=.returned (.tuple #[])/\w'=w:=by
 have hc:=AnyF.slices_SortFunc_none Tryz.laidSortR a cap fv w
 exact hc
def RwRd (w:World) (g o:Nat) (d:List Rt):Prop:=∀ i (h:i < d.length),w.cell? ⟨g,o + i * 2,none⟩=some (.int .i64 d[i].1)/\w.cell? ⟨g,o + i * 2 + 1,none⟩=some d[i].2.1
theorem RwAt.rd {w:World} {g o:Nat} {d:List Rt} (h:RwAt w g o d):RwRd w g o d:=by
 obtain ⟨cur,h1,_,h3⟩:=h
 intro i hi
 exact ⟨cell_cur h1 (h3 i hi).1,cell_cur h1 (h3 i hi).2⟩
theorem flR_get (d:List Rt) (t:Nat):(d.flatMap encR)[t]? = if h:t / 2 < d.length then (encR d[t / 2])[t % 2]? else none:=by
 induction d generalizing t with
 | nil=>simp
 | cons x r ih =>
  rw [List.flatMap_cons]
  by_cases h:t < 2
  ·rw [List.getElem?_append_left (by simpa using h)]
   have h0:t / 2=0:=by omega
   have h1:t % 2=t:=by omega
   simp [h0,h1]
  ·rw [List.getElem?_append_right (by simp;omega),show t - (encR x).length=t - 2 by rfl,ih]
   have h0:t / 2=(t - 2) / 2 + 1:=by omega
   have h1:t % 2=(t - 2) % 2:=by omega
   simp only [h0,h1,List.length_cons,Nat.add_lt_add_iff_right,List.getElem_cons_succ]
theorem flR_len (d:List Rt):(d.flatMap encR).length=d.length * 2:=by
 induction d with
 | nil=>rfl
 | cons x r ih=>rw [List.flatMap_cons,List.length_append,ih,List.length_cons];simp;omega
theorem rwAt_own {w:World} {B g n cap:Nat} {d:List Rt} (h:w.ownsRow B 39 2 (.slice (some ⟨g,0,none⟩) n cap) d.length (d.flatMap encR)):RwAt w g 0 d/\B<=g/\g < w.heap.size:=by
 rcases h.2 with ⟨e,_⟩ | ⟨g',cap',cur,e,hB,hh,hle,_,hsz,htk⟩
 ·cases e
 ·cases e
  refine ⟨⟨cur,hh,by omega,fun i hi=>?_⟩,hB,(Array.getElem?_eq_some_iff.1 hh).1⟩
  have key:∀ t,t < d.length * 2->cur[t]? = (d.flatMap encR)[t]? := fun t ht=>by
   rw [<- htk,List.getElem?_take_of_lt ht,Array.getElem?_toList]
  rw [Nat.zero_add,key _ (by omega),key _ (by omega),flR_get,flR_get,show i * 2 / 2=i by omega,show (i * 2 + 1) / 2=i by omega,show i * 2 % 2=0 by omega,show (i * 2 + 1) % 2=1 by omega,dif_pos hi,dif_pos hi]
  exact ⟨rfl,rfl⟩
theorem cloneR_c {w:World} {g o cap:Nat} {d:List Rt} (hd:RwRd w g o d) (hlen:d.length<=4000) (hone:∀ x ∈ d,x.2.1.oneCell'=true) :
  Calls Tryz.prog 58 #[.slice (some ⟨g,o,none⟩) d.length cap] w fun e w'=>∃ g' cap',e=.returned (.slice (some ⟨g',0,none⟩) d.length cap')/\w.heap.size<=g'/\g' < w'.heap.size/\RwAt w' g' 0 d/\Gb w w'/\w'.ownsRow w.heap.size 39 2 (.slice (some ⟨g',0,none⟩) d.length cap') d.length (d.flatMap encR):=by
 obtain ⟨i0,hi0,hz0,hz1,hz2⟩:=info_partsW
 have hc:=AnyE.slices_Clone Tryz.laidCloneR i0 (.agg #[.int .i64 0,.slice none 0 0]) 2 32 hi0 hz0 hz1 hz2 rfl (by omega) Tryz.sizeOf39 g o d.length cap (d.flatMap encR) w (flR_len d) (by simp only [maxLen];omega) (by omega)
  (fun j u hu=>by
   rw [flR_get] at hu
   split at hu
   ·rename_i h
    obtain ⟨c0,c1⟩:=hd (j / 2) h
    rcases Nat.mod_two_eq_zero_or_one j with h0 | h0
    ·rw [h0] at hu;cases hu;rw [show o + j=o + j / 2 * 2 by omega];exact c0
    ·rw [h0] at hu;cases hu;rw [show o + j=o + j / 2 * 2 + 1 by omega];exact c1
   ·cases hu)
  (fun u hu=>by
   obtain ⟨x,hx,hu⟩:=List.mem_flatMap.1 hu
   simp only [encR,List.mem_cons,List.not_mem_nil,or_false] at hu
   rcases hu with rfl | rfl
   ·rfl
   ·exact hone x hx)
 change Calls Tryz.prog 58 _ _ _ at hc
 refine hc.mono ?_
 rintro e w' ⟨v',rfl,ho,hv,hb⟩
 rcases ho.2 with ⟨h1,_⟩ | ⟨g',cap',cur,rfl,_⟩
 ·exact absurd h1 hv
 ·obtain ⟨h1,h2,h3⟩:=rwAt_own ho
  exact ⟨g',cap',rfl,h2,h3,h1,hb,ho⟩
end Go.Proofs.YtgbgejflmbhigaaGreat

namespace Go.Proofs.YtgbgejflmbhigaaGreat
open Go.RowKit Go.Sort
set_option maxRecDepth 100000
set_option maxHeartbeats 2000000
theorem gw_drewN {a w:World} (h:Tk.Gw a w) (n:Nat):Tk.Gw a (w.drewN n):=h.trans ⟨n,#[],by rw [grow_empty]⟩
theorem rdi_cell {w:World} {a:Option Addr} {n cap:Nat} {l:List Int} (h:RdI w (.slice a n cap) l) {i:Nat} (hi:i < l.length):∃ b o,a=some ⟨b,o,none⟩/\w.cell? ⟨b,o + i,none⟩=some (.int .i64 l[i]!):=by
 obtain ⟨a',c',e,h⟩:=h
 injection e with e1 _ _
 subst e1
 exact h i hi
theorem widest_c {w:World} {v:Value} {r:Reg} (h:RdR w v r) (hn:r.H.length=r.L.length) (hlen:r.L.length<=4611686018427387904) (hL:∀ i,i < r.L.length->-4611686018427387904 < r.L[i]! /\ r.L[i]! < 4611686018427387904/\-4611686018427387904 < r.H[i]! /\ r.H[i]! < 4611686018427387904) :
  Calls Tryz.prog 59 #[v] w fun e w'=>e=.returned (.int .i64 (wid r.L r.H r.L.length:Nat))/\Tk.Gw w w':=by
 obtain ⟨vl,vh,vi,rfl,h1,h2,ai,ci,rfl,_⟩:=h
 have B:Hid (∀ i,i < r.L.length->-4611686018427387904 < r.L[i]! /\ r.L[i]! < 4611686018427387904/\-4611686018427387904 < r.H[i]! /\ r.H[i]! < 4611686018427387904):=hL
 obtain ⟨S,L,H,R,I⟩:=r
 dsimp only at *
 have P1:Hid (RdI w vl L):=h1
 have P2:Hid (RdI w vh H):=h2
 obtain ⟨al,cl,rfl,_⟩:=h1
 obtain ⟨ah,ch,rfl,_⟩:=h2
 obtain ⟨n,hN⟩:∃ n,n=L.length:=⟨_,rfl⟩
 have N:Hid (n=L.length/\H.length=L.length):=⟨hN,hn⟩
 rw [hn,<- hN] at P2
 rw [<- hN] at P1 B hlen
 rw [hn,<- hN]
 clear hL hn hN
 generalize I.length=ni
 go_enter Tryz.func59,Tryz.ntmps59
 go_wp2
 go_loopw [3,8] (fun av iv w'=>∃ q:Nat,iv=.int .i64 (q:Int)/\q<=n/\av=.int .i64 (wid L H q:Nat)/\Tk.Gw (w.alloc (.cells #[.int .i64 S,.slice al n cl,.slice ah n ch,.int .u64 (hi R),.int .u64 (lo R),.slice ai ni ci] 97)) w') (fun _ iv _=>n - (intOf iv).toNat)
 case atStart=>exact ⟨0,rfl,Nat.zero_le _,rfl,Tk.Gw.refl _⟩
 case round =>
  obtain ⟨q,rfl,hq,rfl,X⟩:=hrel
  by_cases hqn:q < n
  ·have hqi:(q:Int) < (n:Int):=by omega
   obtain ⟨a,ha⟩:∃ a,a=wid L H q:=⟨_,rfl⟩
   have han:a < n:=by have:=wid_le L H q;omega
   have E:Hid (wid L H (q + 1)=if H[a]! - L[a]! < H[q]! - L[q]! then q else a):=by rw [ha];rfl
   have G:Gb w wr:=gb_trans (gb_alloc (Below.refl _ _) _) (gw_gb X)
   obtain ⟨bl,ol,rfl,c1⟩:=rdi_cell P1.out (i:=q) (by have:=N.out;omega)
   obtain ⟨_,_,e1,c2⟩:=rdi_cell P1.out (i:=a) (by have:=N.out;omega)
   injection e1 with e1
   injection e1 with e1 e2
   subst e1 e2
   obtain ⟨bh,oh,rfl,c3⟩:=rdi_cell P2.out (i:=q) (by have:=N.out;omega)
   obtain ⟨_,_,e1,c4⟩:=rdi_cell P2.out (i:=a) (by have:=N.out;omega)
   injection e1 with e1
   injection e1 with e1 e2
   subst e1 e2
   have b1:=B.out q hqn
   have b2:=B.out a han
   have d1:=gb_keeps G c1
   have d2:=gb_keeps G c2
   have d3:=gb_keeps G c3
   have d4:=gb_keeps G c4
   have f1:=Tk.gr_keeps X.gr (p:=⟨w.heap.size,1,none⟩) (v:=.slice (some ⟨bl,ol,none⟩) n cl) (by simp [go_sem])
   have f2:=Tk.gr_keeps X.gr (p:=⟨w.heap.size,2,none⟩) (v:=.slice (some ⟨bh,oh,none⟩) n ch) (by simp [go_sem])
   rw [<- ha]
   clear ha c1 c2 c3 c4 G P1 P2 B
   have K:Hid (Tk.Gw (w.alloc (.cells #[.int .i64 S,.slice (some ⟨bl,ol,none⟩) n cl,.slice (some ⟨bh,oh,none⟩) n ch,.int .u64 (hi R),.int .u64 (lo R),.slice ai ni ci] 97)) wr):=X
   clear X
   generalize L[q]! = lq at *
   generalize L[a]! = la at *
   generalize H[q]! = hq' at *
   generalize H[a]! = ha' at *
   have w1:IntKind.i64.wrap (hq' - lq)=hq' - lq:=by rw [IntKind.wrap_i64];omega
   have w2:IntKind.i64.wrap (ha' - la)=ha' - la:=by rw [IntKind.wrap_i64];omega
   have w3:wrap64 (hq' - lq)=hq' - lq:=by simp only [wrap64];omega
   have w4:wrap64 (ha' - la)=ha' - la:=by simp only [wrap64];omega
   by_cases hc:ha' - la < hq' - lq
   ·have EE:Hid (wid L H (q + 1)=q):=by rw [if_pos hc] at E;exact E
    clear E
    go_wp2
    go_quiet (fail)
    go_wp2
    go_roundw
    case rel=>exact ⟨q + 1,by first | rfl | go_num,hqn,by rw [EE.out],gw_drewN K.out _⟩
    case measure=>simp [intOf];omega
   ·have EE:Hid (wid L H (q + 1)=a):=by rw [if_neg hc] at E;exact E
    clear E
    go_wp2
    go_quiet (fail)
    go_wp2
    go_roundw
    case rel=>exact ⟨q + 1,by first | rfl | go_num,hqn,by rw [EE.out],gw_drewN K.out _⟩
    case measure=>simp [intOf];omega
  ·have hqi:¬ (q:Int) < (n:Int):=by omega
   have e:q=n:=by omega
   subst e
   go_wp2
   go_ret
   exact ⟨rfl,((Tk.Gw.refl _).alloc _).trans X⟩
end Go.Proofs.YtgbgejflmbhigaaGreat

namespace Go.Proofs.YtgbgejflmbhigaaGreat
open Go.RowKit Go.Sort
set_option maxRecDepth 100000
set_option maxHeartbeats 1000000
def OutB (w:World) (L H:List Int) (e:Ending) (w':World):Prop:=∃ vl vh,e=.returned (.agg #[.int .i64 2,vl,vh,.int .u64 0,.int .u64 0,.slice none 0 0])/\Gb w w'/\Own w' w.heap.size vl L/\Own w' w.heap.size vh H
def OutB' (w w':World) (L H:List Int) (vl vh:Value):Prop:=Gb w w'/\Own w' w.heap.size vl L/\Own w' w.heap.size vh H
theorem OutB'.set {w W:World} {L H:List Int} {vl vh:Value} (h:OutB' w W L H vl vh) (h1:vl.ownBlock ≠ some w.heap.size) (h2:vh.ownBlock ≠ some w.heap.size) (i:Nat) (u:Value):OutB' w (W.setCell ⟨w.heap.size,i,none⟩ u) L H vl vh :=
 ⟨gb_set h.1 (Nat.le_refl _) u,ownsRow_setCell_other h.2.1 h1 u,ownsRow_setCell_other h.2.2 h2 u⟩
theorem boxOf_c {w:World} {v:Value} {rs:List Rw} (h:RdW w v rs) {d:Nat} (hok:boxE rs (d:Int)=0) (hd:rs[0]!.2.length=d) (hwf:∀ i,i < rs.length->(Lit.int .i64 rs[i]!.1).wf=true) :
  Calls Tryz.prog 57 #[v] w fun e w'=>OutB w (boxL rs d) (boxH rs d) e w':=by
 have hn:0 < rs.length/\rs.length<=512:=by
  unfold boxE at hok
  split at hok
  ·split at hok
   ·cases hok
   ·unfold idsE at hok
    split at hok
    ·omega
    ·cases hok
  ·cases hok
 have hr:boxR rs (d:Int)=⟨2,boxL rs d,boxH rs d,0,srt (idsOf rs)⟩:=by unfold boxR;rw [if_pos hok,Int.toNat_natCast]
 have cb:=fun W (g:Gb w W)=>box_c (h.gb g) (d:Int) (by omega) hwf
 simp only [hr,hok] at cb
 obtain ⟨a,cap,rfl,hA⟩:=h
 obtain ⟨b,o,u,rfl,k1,k2,k3⟩:=hA 0 hn.1
 obtain ⟨pu,cu,rfl,_⟩:=k3
 rw [hd] at k2
 generalize boxL rs d=L at *
 generalize boxH rs d=H at *
 generalize srt (idsOf rs)=I at *
 generalize rs[0]!.1=id0 at *
 obtain ⟨n,hN⟩:∃ n,n=rs.length:=⟨_,rfl⟩
 simp only [<- hN] at cb hn ⊢
 have CB:=fun W=>Hid.out (p:=Gb w W->_) (cb W)
 clear hok hr hA hd hwf hN cb
 simp only [Nat.zero_mul,Nat.add_zero] at k1 k2
 have k3:(w.alloc (.cells #[.int .i64 0,.slice none 0 0,.slice none 0 0,.int .u64 0,.int .u64 0,.slice none 0 0] 97)).cell? ⟨b,o + 1,none⟩=some (.slice pu d cu):=gb_keeps (gb_alloc (Below.refl _ _) _) k2
 go_enter Tryz.func57,Tryz.ntmps57
 go_wp2_with fail
 go_fit (CB _ (gb_alloc (Below.refl _ _) _))
 rintro e w' ⟨vl,vh,vi,rfl,g1,o1,o2,o3,_⟩
 obtain ⟨al,cl,el,_⟩:=o1.rd
 obtain ⟨ah,ch,eh,_⟩:=o2.rd
 obtain ⟨ai,ci,ei,_⟩:=o3.rd
 subst el eh ei
 dsimp only at o1 o2 o3
 have hs:=reg0 (gb_alloc g1 (.cells #[.int .i64 2,.slice al L.length cl,.slice ah H.length ch,.int .u64 0,.int .u64 0,.slice none 0 0] 97))
 dsimp only [rv]
 rw [show hi 0=0 from by decide,show lo 0=0 from by decide]
 have hw:=g1.size
 rw [World.size_alloc] at hw
 have X:Hid (Gb (w.alloc (.cells #[.int .i64 0,.slice none 0 0,.slice none 0 0,.int .u64 0,.int .u64 0,.slice none 0 0] 97)) w'/\Own w' (w.heap.size + 1) (.slice al L.length cl) L/\Own w' (w.heap.size + 1) (.slice ah H.length ch) H):=⟨g1,by rw [World.size_alloc] at o1;exact o1,by rw [World.size_alloc] at o2;exact o2⟩
 clear g1 o1 o2 o3 k1 k2 k3 CB
 generalize L.length=nl at *
 generalize H.length=nh at *
 generalize I.length=ni at *
 go_wp2
 obtain ⟨⟨q0,q1,q2,q3,q4,q5⟩,_⟩:=hs
 refine bodyPost_ret (v:=.agg #[.int .i64 2,.slice al nl cl,.slice ah nh ch,.int .u64 0,.int .u64 0,.slice none 0 0]) (by simp [results,Tryz.results57,go_sem,q0,q1,q2,q3,q4,q5]) rfl ⟨_,_,rfl,?_⟩
 have b0:(Value.slice none 0 0).ownBlock ≠ some w.heap.size:=by simp [Value.ownBlock]
 have b1:(Value.slice al nl cl).ownBlock ≠ some w.heap.size:=fun e=>by have:=(World.ownsRow.lt X.out.2.1 _ e).1;omega
 have b2:(Value.slice ah nh ch).ownBlock ≠ some w.heap.size:=fun e=>by have:=(World.ownsRow.lt X.out.2.2 _ e).1;omega
 have P:OutB' w (w'.alloc (.cells #[.int .i64 2,.slice al nl cl,.slice ah nh ch,.int .u64 0,.int .u64 0,.slice none 0 0] 97)) L H (.slice al nl cl) (.slice ah nh ch) :=
  ⟨gb_alloc (gb_trans (gb_alloc (Below.refl _ _) _) X.out.1) _,(X.out.2.1.mono (by omega)).gb (gb_alloc (Below.refl _ _) _),(X.out.2.2.mono (by omega)).gb (gb_alloc (Below.refl _ _) _)⟩
 exact (((((P.set b1 b2 _ _).set b1 b2 _ _).set b1 b2 _ _).set b1 b2 _ _).set b1 b2 _ _).set b1 b2 _ _
end Go.Proofs.YtgbgejflmbhigaaGreat

namespace Go.Proofs.YtgbgejflmbhigaaGreat
open Go.RowKit Go.Sort
set_option maxRecDepth 100000
set_option maxHeartbeats 2000000
theorem OutB'.setAt {w W:World} {L H:List Int} {vl vh:Value} {g:Nat} (h:OutB' w W L H vl vh) (hg:w.heap.size<=g) (h1:vl.ownBlock ≠ some g) (h2:vh.ownBlock ≠ some g) (i:Nat) (u:Value):OutB' w (W.setCell ⟨g,i,none⟩ u) L H vl vh :=
 ⟨gb_set h.1 hg u,ownsRow_setCell_other h.2.1 h1 u,ownsRow_setCell_other h.2.2 h2 u⟩
theorem set2_other {W:World} {g1 g2 i j b:Nat} {x y:Value} (h1:b ≠ g1) (h2:b ≠ g2):((W.setCell ⟨g1,i,none⟩ x).setCell ⟨g2,j,none⟩ y).heap[b]? = W.heap[b]? := by
 simp [World.setCell,Array.getElem?_modify,Ne.symm h1,Ne.symm h2]
theorem around_c {w:World} {v1 v2:Value} {a b:Reg} {m:Nat} (h1:RdR w v1 a) (h2:RdR w v2 b) (hm1:1<=m) (hm:m<=64) (ha:a.L.length=m/\a.H.length=m) (hb:b.L.length=m/\b.H.length=m) :
  Calls Tryz.prog 116 #[v1,v2] w fun e w'=>OutB w (tab (fun t=>min a.L[t]! b.L[t]!) m) (tab (fun t=>max a.H[t]! b.H[t]!) m) e w':=by
 obtain ⟨vl,vh,vi,rfl,r1,r2,ai,ci,rfl,_⟩:=h1
 obtain ⟨ul,uh,ui,rfl,t1,t2,di,ei,rfl,_⟩:=h2
 obtain ⟨S,L,H,R,I⟩:=a
 obtain ⟨S',L',H',R',I'⟩:=b
 dsimp only at *
 obtain ⟨TL,hTL⟩:∃ x,x=tab (fun t=>min L[t]! L'[t]!) m:=⟨_,rfl⟩
 obtain ⟨TH,hTH⟩:∃ x,x=tab (fun t=>max H[t]! H'[t]!) m:=⟨_,rfl⟩
 have TT:Hid (TL=tab (fun t=>min L[t]! L'[t]!) m/\TH=tab (fun t=>max H[t]! H'[t]!) m):=⟨hTL,hTH⟩
 rw [<- hTL,<- hTH]
 clear hTL hTH
 have P1:Hid (RdI w vl L/\RdI w vh H):=⟨r1,r2⟩
 have P2:Hid (RdI w ul L'/\RdI w uh H'):=⟨t1,t2⟩
 obtain ⟨al,cl,rfl,_⟩:=r1
 obtain ⟨ah,ch,rfl,_⟩:=r2
 obtain ⟨bl,dl,rfl,_⟩:=t1
 obtain ⟨bh,dh,rfl,_⟩:=t2
 rw [ha.1,ha.2] at P1
 rw [hb.1,hb.2] at P2
 rw [ha.1,ha.2,hb.1,hb.2]
 have NN:Hid (L.length=m/\H.length=m/\L'.length=m/\H'.length=m):=⟨ha.1,ha.2,hb.1,hb.2⟩
 generalize I.length=ni
 generalize I'.length=ni'
 clear ha hb
 have G0:Gb w (((w.alloc (.cells #[.int .i64 S,.slice al m cl,.slice ah m ch,.int .u64 (hi R),.int .u64 (lo R),.slice ai ni ci] 97)).alloc (.cells #[.int .i64 S',.slice bl m dl,.slice bh m dh,.int .u64 (hi R'),.int .u64 (lo R'),.slice di ni' ei] 97)).alloc z36):=gb_alloc (gb_alloc (gb_alloc (Below.refl _ _) _) _) _
 have CL:=fun W' (g:Gb w W')=>clone_c (P1.out.1.gb g) (by have:=NN.out;omega) (by have:=NN.out;omega)
 have CH:=fun W' (g:Gb w W')=>clone_c (P1.out.2.gb g) (by have:=NN.out;omega) (by have:=NN.out;omega)
 go_enter Tryz.func116,Tryz.ntmps116
 go_wp2_with fail
 go_region_held3 (fun w'=>Gb w w'/\w'.cell? ⟨w.heap.size,1,none⟩=some (.slice al m cl)/\w'.cell? ⟨w.heap.size,2,none⟩=some (.slice ah m ch)) (first | (with_reducible assumption) | exact ⟨gb_trans (And.left (by assumption)) (by assumption),gb_keeps (by assumption) (And.left (And.right (by assumption))),gb_keeps (by assumption) (And.right (And.right (by assumption)))⟩ | exact ⟨G0.drew,by simp [go_sem],by simp [go_sem]⟩)
  (first
   | (go_at_call 42;refine (CL _ (And.left (by assumption))).mono ?_;rintro e w2 ⟨y1,rfl,ho1,k1⟩)
   | (go_at_call 42;refine (CH _ (And.left (by assumption))).mono ?_;rintro e w3 ⟨y2,rfl,ho2,k2⟩))
 obtain ⟨gl,c1,e1,bl1,bl2⟩:=own_form ho1 (by have:=NN.out;omega)
 obtain ⟨gh,c2,e2,bh1,bh2⟩:=own_form ho2 (by have:=NN.out;omega)
 rw [NN.out.1] at e1
 rw [NN.out.2.1] at e2
 subst e1 e2
 have BK:Hid (Gb (((w.alloc (.cells #[.int .i64 S,.slice al m cl,.slice ah m ch,.int .u64 (hi R),.int .u64 (lo R),.slice ai ni ci] 97)).alloc (.cells #[.int .i64 S',.slice bl m dl,.slice bh m dh,.int .u64 (hi R'),.int .u64 (lo R'),.slice di ni' ei] 97)).alloc z36) w3/\Gb w w3):=by
  have g:=gb_trans (Below.drew (Below.refl _ _)) (gb_trans k1 k2)
  exact ⟨g,gb_trans (gb_alloc (gb_alloc (gb_alloc (Below.refl _ _) _) _) _) g⟩
 have q1:=gb_keeps BK.out.1 (p:=⟨w.heap.size + 1,1,none⟩) (v:=.slice bl m dl) (by simp [go_sem])
 have q2:=gb_keeps BK.out.1 (p:=⟨w.heap.size + 1,2,none⟩) (v:=.slice bh m dh) (by simp [go_sem])
 have s2:=k1.size
 simp only [World.size_drew,World.size_alloc] at bl1 s2
 have ST:Hid (BxSt w w3 gl gh c1 c2 m (fun t=>L[t]!) (fun t=>H[t]!)/\w.heap.size + 2 < gl/\w.heap.size + 2 < gh/\(w3.cell? ⟨w.heap.size + 1,1,none⟩=some (.slice bl m dl)/\w3.cell? ⟨w.heap.size + 1,2,none⟩=some (.slice bh m dh))/\((w3.cell? ⟨w.heap.size + 1 + 1,0,none⟩=some (.int .i64 0)/\w3.cell? ⟨w.heap.size + 1 + 1,1,none⟩=some (.slice none 0 0)/\w3.cell? ⟨w.heap.size + 1 + 1,2,none⟩=some (.slice none 0 0)/\w3.cell? ⟨w.heap.size + 1 + 1,3,none⟩=some (.int .u64 0)/\w3.cell? ⟨w.heap.size + 1 + 1,4,none⟩=some (.int .u64 0)/\w3.cell? ⟨w.heap.size + 1 + 1,5,none⟩=some (.slice none 0 0))/\∀ i,i < 6->w3.frozen? ⟨w.heap.size + 1 + 1,i,none⟩=false)):=by
  have hT:L=tab (fun t=>L[t]!) m:=by rw [<- NN.out.1];exact tab_of _
  have hT2:H=tab (fun t=>H[t]!) m:=by rw [<- NN.out.2.1];exact tab_of _
  have z0:=reg0 BK.out.1
  simp only [World.size_alloc] at z0
  refine ⟨⟨?_,?_,by omega,by omega,by omega,BK.out.2⟩,by omega,by omega,⟨q1,q2⟩,z0⟩
  ·rw [<- hT];exact (ho1.gb k2).mono (by simp only [World.size_drew,World.size_alloc];omega)
  ·rw [<- hT2];exact ho2.mono (by omega)
 rename_i hHeld
 clear ho1 ho2 k1 k2 CL CH q1 q2 bl1 bl2 bh1 bh2 s2 BK G0 hHeld
 go_wp2
 go_loopw [16] (fun iv W=>∃ (i:Nat) (f h:Nat->Int),iv=.int .i64 (i:Int)/\i<=m/\Hid (BxSt w W gl gh c1 c2 m f h/\(∀ t,t < m->f t=(if t < i then min L[t]! L'[t]! else L[t]!)/\h t=(if t < i then max H[t]! H'[t]! else H[t]!))/\∀ (b:Nat),b < w3.heap.size->b ≠ gl->b ≠ gh->W.heap[b]? = w3.heap[b]?)) (fun iv _=>m - (intOf iv).toNat)
 case atStart=>exact ⟨0,_,_,rfl,Nat.zero_le _,ST.out.1,fun t _=>⟨by simp,by simp⟩,fun b _ _ _=>rfl⟩
 case round =>
  obtain ⟨i,f,h,rfl,hi',Z⟩:=hrel
  by_cases him:i < m
  ·have hii:(i:Int) < (m:Int):=by omega
   obtain ⟨bx,ox,rfl,x0⟩:=rdi_cell P2.out.1 (i:=i) (by have:=NN.out;omega)
   obtain ⟨by',oy,rfl,y0⟩:=rdi_cell P2.out.2 (i:=i) (by have:=NN.out;omega)
   have x0:=gb_keeps Z.out.1.gb x0
   have y0:=gb_keeps Z.out.1.gb y0
   obtain ⟨l0,l1⟩:=Z.out.1.low.at him
   obtain ⟨m0,m1⟩:=Z.out.1.high.at him
   obtain ⟨q1,q2⟩:=ST.out.2.2.2.1
   have t1:=World.block_lt_of_cell? _ _ q1
   have r1:wr.cell? ⟨w.heap.size + 1,1,none⟩=some (.slice (some ⟨bx,ox,none⟩) m dl):=(World.cell?_of_block (Z.out.2.2 _ t1 (by have:=ST.out.2.1;dsimp only;omega) (by have:=ST.out.2.2.1;dsimp only;omega))).trans q1
   have t2:=World.block_lt_of_cell? _ _ q2
   have r2:wr.cell? ⟨w.heap.size + 1,2,none⟩=some (.slice (some ⟨by',oy,none⟩) m dh):=(World.cell?_of_block (Z.out.2.2 _ t2 (by have:=ST.out.2.1;dsimp only;omega) (by have:=ST.out.2.2.1;dsimp only;omega))).trans q2
   have ne':gl ≠ gh:=Z.out.1.ne
   have ne2:gh ≠ gl:=fun e=>ne' e.symm
   have ZN:Hid (∀ x y:Int,x=min (f i) L'[i]! -> y=max (h i) H'[i]! -> ∀ t,t < m->(if t=i then x else f t)=(if t < i + 1 then min L[t]! L'[t]! else L[t]!)/\(if t=i then y else h t)=(if t < i + 1 then max H[t]! H'[t]! else H[t]!)):=by
    intro x y hx hy t ht
    obtain ⟨z1,z2⟩:=Z.out.2.1 t ht
    by_cases e:t=i
    ·subst e
     rw [if_neg (by omega)] at z1 z2
     rw [if_pos rfl,if_pos (by omega),if_pos rfl,if_pos (by omega),hx,hy,z1,z2];exact ⟨rfl,rfl⟩
    ·rw [if_neg e,if_neg e,z1,z2]
     by_cases l:t < i
     ·rw [if_pos l,if_pos (by omega),if_pos l,if_pos (by omega)];exact ⟨rfl,rfl⟩
     ·rw [if_neg l,if_neg (by omega),if_neg l,if_neg (by omega)];exact ⟨rfl,rfl⟩
   have ZK:Hid (∀ (b:Nat),b < w3.heap.size->b ≠ gl->b ≠ gh->wr.heap[b]? = w3.heap[b]?):=Z.out.2.2
   have ZS:=Z.out.1
   clear Z P1 P2 q1 q2 t1 t2 ST
   generalize L'[i]! = x at *
   generalize H'[i]! = y at *
   generalize f i=lo0 at *
   generalize h i=hi0 at *
   go_wp2
   go_region
   all_goals
    clear l0 l1 m0 m1 x0 y0 r1 r2
    go_wp2
    refine ⟨⟨i + 1,_,_,by go_num,him,BxSt.set ZS.drew him _ _,ZN.out _ _ rfl rfl,fun b hb h1 h2=>(set2_other h1 h2).trans (ZK.out b hb h1 h2)⟩,by simp [intOf];omega⟩
  ·have hii:¬ (i:Int) < (m:Int):=by omega
   have YN:Hid (OutB' w wr TL TH (.slice (some ⟨gl,0,none⟩) m c1) (.slice (some ⟨gh,0,none⟩) m c2)):=by
    obtain ⟨z1,z2,_⟩:=Z.out
    have e1:tab f m=tab (fun t=>min L[t]! L'[t]!) m:=tab_ext (fun t ht=>by rw [(z2 t ht).1,if_pos (by omega)])
    have e2:tab h m=tab (fun t=>max H[t]! H'[t]!) m:=tab_ext (fun t ht=>by rw [(z2 t ht).2,if_pos (by omega)])
    rw [TT.out.1,TT.out.2]
    exact ⟨z1.gb,e1 ▸ z1.low,e2 ▸ z1.high⟩
   obtain ⟨_,n1,n2,_,⟨q0,q1,q2,q3,q4,q5⟩,qf⟩:=ST.out
   have hbk:wr.heap[w.heap.size + 1 + 1]? = w3.heap[w.heap.size + 1 + 1]? := Z.out.2.2 _ (World.block_lt_of_cell? _ _ q0) (by omega) (by omega)
   have f0:=(World.frozen?_of_block (a:=⟨w.heap.size + 1 + 1,0,none⟩) hbk).trans (qf 0 (by omega))
   have f1:=(World.frozen?_of_block (a:=⟨w.heap.size + 1 + 1,1,none⟩) hbk).trans (qf 1 (by omega))
   have f2:=(World.frozen?_of_block (a:=⟨w.heap.size + 1 + 1,2,none⟩) hbk).trans (qf 2 (by omega))
   have f3:=(World.frozen?_of_block (a:=⟨w.heap.size + 1 + 1,3,none⟩) hbk).trans (qf 3 (by omega))
   have f4:=(World.frozen?_of_block (a:=⟨w.heap.size + 1 + 1,4,none⟩) hbk).trans (qf 4 (by omega))
   have f5:=(World.frozen?_of_block (a:=⟨w.heap.size + 1 + 1,5,none⟩) hbk).trans (qf 5 (by omega))
   have q0:=(World.cell?_of_block (a:=⟨w.heap.size + 1 + 1,0,none⟩) hbk).trans q0
   have q1:=(World.cell?_of_block (a:=⟨w.heap.size + 1 + 1,1,none⟩) hbk).trans q1
   have q2:=(World.cell?_of_block (a:=⟨w.heap.size + 1 + 1,2,none⟩) hbk).trans q2
   have q3:=(World.cell?_of_block (a:=⟨w.heap.size + 1 + 1,3,none⟩) hbk).trans q3
   have q4:=(World.cell?_of_block (a:=⟨w.heap.size + 1 + 1,4,none⟩) hbk).trans q4
   have q5:=(World.cell?_of_block (a:=⟨w.heap.size + 1 + 1,5,none⟩) hbk).trans q5
   have N2:Hid (w.heap.size + 2 < gl/\w.heap.size + 2 < gh):=⟨n1,n2⟩
   clear Z ST P1 P2 qf hbk n1 n2
   go_wp2
   refine bodyPost_ret (v:=.agg #[.int .i64 2,.slice (some ⟨gl,0,none⟩) m c1,.slice (some ⟨gh,0,none⟩) m c2,.int .u64 0,.int .u64 0,.slice none 0 0]) (by simp [results,Tryz.results116,go_sem,q0,q1,q2,q3,q4,q5]) rfl ⟨_,_,rfl,?_⟩
   have b1:(Value.slice (some ⟨gl,0,none⟩) m c1).ownBlock ≠ some (w.heap.size + 1 + 1):=by have:=N2.out;simp [Value.ownBlock];omega
   have b2:(Value.slice (some ⟨gh,0,none⟩) m c2).ownBlock ≠ some (w.heap.size + 1 + 1):=by have:=N2.out;simp [Value.ownBlock];omega
   have hle:w.heap.size<=w.heap.size + 1 + 1:=by omega
   exact (((((YN.out.setAt hle b1 b2 _ _).setAt hle b1 b2 _ _).setAt hle b1 b2 _ _).setAt hle b1 b2 _ _).setAt hle b1 b2 _ _).setAt hle b1 b2 _ _
end Go.Proofs.YtgbgejflmbhigaaGreat
