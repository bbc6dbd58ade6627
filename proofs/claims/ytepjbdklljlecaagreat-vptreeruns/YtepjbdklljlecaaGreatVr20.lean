import Derived.Test.YtepjbdklljlecaaGreatVrBall
import Derived.Test.YtepjbdklljlecaaGreatVr15
import Derived.Test.YtepjbdklljlecaaGreatVr5
import Derived.Test.YtepjbdklljlecaaGreatVr19
import Derived.Maps.AppendAt
namespace Go.Proofs.YtepjbdklljlecaaGreat
open Go.RowKit Go.Sort
theorem mnN_le (f:Nat->Int) (x:Int):∀ k j,j < k->mnN f x k<=f j
 | k + 1,j,h=>by
  simp only [mnN]
  by_cases e:j=k
  ·subst e;omega
  ·have:=mnN_le f x k j (by omega);omega
theorem rad_mono {c:List Int} {rs:List Rw}:∀ k j,j < k->dst c rs[j]!.2<=radN c rs k
 | k + 1,j,h=>by
  simp only [radN]
  by_cases e:j=k
  ·subst e;split <;> omega
  ·have:=rad_mono (c:=c) (rs:=rs) k j (by omega)
   split <;> omega
end Go.Proofs.YtepjbdklljlecaaGreat

namespace Go.Proofs.YtepjbdklljlecaaGreat
open Go.RowKit Go.Sort
structure Pt where
 reg:Reg
 rs:List Rw
 cut:Tk.Ht
 kids:Option (Nat × Nat)
abbrev pr (p:Pt):Reg:=p.reg
def rowsP (T:Nat->Pt):Nat->Pt->List Rw
 | 0,p=>p.rs
 | n + 1,p=>match p.kids with
  | none=>p.rs
  | some (l,h)=>rowsP T n (T l) ++ rowsP T n (T h)
def BoxOk (d:Nat) (p:Pt) (rs:List Rw):Prop:=ckR (pr p) (d:Int)=0/\∀ r ∈ rs,chk r.2 (d:Int)=0/\inV (pr p) r.2=true
def isAb (p:Pt) (r:Rw):Bool:=Tk.hlt (hitOf p.reg.L r) p.cut
def OkP (T:Nat->Pt) (d:Nat):Nat->Pt->Prop
 | 0,p=>p.kids=none/\p.rs ≠ []/\BoxOk d p p.rs
 | n + 1,p=>match p.kids with
  | none=>p.rs ≠ []/\BoxOk d p p.rs
  | some (l,h)=>OkP T d n (T l)/\OkP T d n (T h)/\BoxOk d p (rowsP T n (T l) ++ rowsP T n (T h)) /\
    (∀ r ∈ rowsP T n (T l),isAb p r=true)/\∀ r ∈ rowsP T n (T h),isAb p r=false
def wtP (T:Nat->Pt):Nat->Pt->Nat
 | 0,p=>2 * p.rs.length + 1
 | n + 1,p=>match p.kids with
  | none=>2 * p.rs.length + 1
  | some (l,h)=>1 + wtP T n (T l) + wtP T n (T h)
theorem rowsP_leaf {T:Nat->Pt} {p:Pt} (h:p.kids=none):∀ n,rowsP T n p=p.rs
 | 0=>rfl
 | n + 1=>by rw [rowsP,h]
theorem wtP_leaf {T:Nat->Pt} {p:Pt} (h:p.kids=none):∀ n,wtP T n p=2 * p.rs.length + 1
 | 0=>rfl
 | n + 1=>by rw [wtP,h]
theorem okP_leaf {T:Nat->Pt} {d:Nat} {p:Pt} (h:p.kids=none):∀ n,OkP T d n p ↔ p.rs ≠ []/\BoxOk d p p.rs
 | 0=>by rw [OkP];exact ⟨fun e=>e.2,fun e=>⟨h,e⟩⟩
 | n + 1=>by rw [OkP,h]
theorem okP_node {T:Nat->Pt} {d n l h:Nat} {p:Pt} (hk:p.kids=some (l,h)) (ok:OkP T d n p):∃ m,n=m + 1/\OkP T d m (T l)/\OkP T d m (T h)/\BoxOk d p (rowsP T m (T l) ++ rowsP T m (T h)) /\
  (∀ r ∈ rowsP T m (T l),isAb p r=true)/\∀ r ∈ rowsP T m (T h),isAb p r=false:=by
 cases n with
 | zero=>rw [OkP] at ok;rw [ok.1] at hk;cases hk
 | succ m=>rw [OkP,hk] at ok;exact ⟨m,rfl,ok⟩
theorem rowsP_node {T:Nat->Pt} {n l h:Nat} {p:Pt} (hk:p.kids=some (l,h)):rowsP T (n + 1) p=rowsP T n (T l) ++ rowsP T n (T h):=by rw [rowsP,hk]
theorem wtP_node {T:Nat->Pt} {n l h:Nat} {p:Pt} (hk:p.kids=some (l,h)):wtP T (n + 1) p=1 + wtP T n (T l) + wtP T n (T h):=by rw [wtP,hk]
theorem okP_mono {T:Nat->Pt} {d:Nat}:∀ n p,OkP T d n p->OkP T d (n + 1) p/\rowsP T (n + 1) p=rowsP T n p/\wtP T (n + 1) p=wtP T n p
 | 0,p,ok=>by
  have hk:p.kids=none:=by rw [OkP] at ok;exact ok.1
  exact ⟨(okP_leaf hk _).2 ((okP_leaf hk _).1 ok),by rw [rowsP_leaf hk,rowsP_leaf hk],by rw [wtP_leaf hk,wtP_leaf hk]⟩
 | n + 1,p,ok=>by
  cases hk:p.kids with
  | none=>exact ⟨(okP_leaf hk _).2 ((okP_leaf hk _).1 ok),by rw [rowsP_leaf hk,rowsP_leaf hk],by rw [wtP_leaf hk,wtP_leaf hk]⟩
  | some lh =>
   obtain ⟨l,h⟩:=lh
   obtain ⟨m,e,o1,o2,o3⟩:=okP_node hk ok
   have e':n=m:=by omega
   subst e'
   obtain ⟨a1,a2,a3⟩:=okP_mono n _ o1
   obtain ⟨b1,b2,b3⟩:=okP_mono n _ o2
   refine ⟨?_,by rw [rowsP_node hk,rowsP_node hk,a2,b2],by rw [wtP_node hk,wtP_node hk,a3,b3]⟩
   rw [OkP,hk]
   dsimp only
   rw [a2,b2]
   exact ⟨a1,b1,o3⟩
theorem okP_box {T:Nat->Pt} {d n:Nat} {p:Pt} (ok:OkP T d n p):BoxOk d p (rowsP T n p):=by
 cases hk:p.kids with
 | none=>rw [rowsP_leaf hk];exact ((okP_leaf hk n).1 ok).2
 | some lh =>
  obtain ⟨l,h⟩:=lh
  obtain ⟨m,rfl,_,_,o3,_⟩:=okP_node hk ok
  rw [rowsP_node hk];exact o3
theorem okP_ne {T:Nat->Pt} {d:Nat}:∀ n p,OkP T d n p->rowsP T n p ≠ []
 | 0,p,ok=>by rw [OkP] at ok;rw [rowsP];exact ok.2.1
 | n + 1,p,ok=>by
  cases hk:p.kids with
  | none=>rw [rowsP_leaf hk];exact ((okP_leaf hk _).1 ok).1
  | some lh =>
   obtain ⟨l,h⟩:=lh
   obtain ⟨m,e,o1,_⟩:=okP_node hk ok
   have e':n=m:=by omega
   subst e'
   rw [rowsP_node hk]
   intro e
   exact okP_ne n _ o1 (List.append_eq_nil_iff.1 e).1
def bnd (q:List Int) (p:Pt):Nat:=bdV p.reg q
def insP (q:List Int) (p:Pt):List Pt->List Pt
 | []=>[p]
 | u :: r=>if bnd q p<=bnd q u then u :: insP q p r else p :: u :: r
theorem insP_perm (q:List Int) (p:Pt):∀ l,(insP q p l).Perm (p :: l)
 | []=>List.Perm.refl _
 | u :: r=>by
  rw [insP]
  split
  ·exact ((insP_perm q p r).cons u).trans (List.Perm.swap p u r)
  ·exact List.Perm.refl _
def Dsc (q:List Int) (l:List Pt):Prop:=l.Pairwise fun u v=>bnd q v<=bnd q u
theorem insP_dsc (q:List Int) (p:Pt):∀ l,Dsc q l->Dsc q (insP q p l)
 | [],_=>List.pairwise_singleton _ _
 | u :: r,h=>by
  rw [insP]
  have h1:=List.pairwise_cons.1 h
  split
  ·rename_i hle
   refine List.pairwise_cons.2 ⟨fun x hx=>?_,insP_dsc q p r h1.2⟩
   rcases List.mem_cons.1 ((insP_perm q p r).subset hx) with e | e
   ·rw [e];exact hle
   ·exact h1.1 x e
  ·rename_i hle
   refine List.pairwise_cons.2 ⟨fun x hx=>?_,h⟩
   rcases List.mem_cons.1 hx with e | e
   ·rw [e];omega
   ·have:=h1.1 x e;omega
theorem insP_at (q:List Int) (p:Pt):∀ l,Dsc q l->insP q p l=l.take (l.countP fun u=>decide (bnd q p<=bnd q u)) ++ p :: l.drop (l.countP fun u=>decide (bnd q p<=bnd q u))
 | [],_=>rfl
 | u :: r,h=>by
  have h1:=List.pairwise_cons.1 h
  rw [insP]
  split
  ·rename_i hle
   rw [List.countP_cons_of_pos (by simpa using hle),List.take_succ_cons,List.drop_succ_cons,List.cons_append,<- insP_at q p r h1.2]
  ·rename_i hle
   have h0:(u :: r).countP (fun u=>decide (bnd q p<=bnd q u))=0:=by
    rw [List.countP_eq_zero]
    intro x hx
    rcases List.mem_cons.1 hx with e | e
    ·rw [e];simpa using hle
    ·have:=h1.1 x e;simp;omega
   rw [h0];rfl
def dN (x:Tk.Ht):Nat:=(x.2.1 * 18446744073709551616 + x.2.2).toNat
theorem dN_hit (q:List Int) (r:Rw):dN (hitOf q r)=dst q r.2:=by
 unfold dN hitOf hi lo
 dsimp only
 omega
structure Sr where
 seen:List Rw
 bud:Nat
 opn:List Pt
def beyond (q:List Int) (k:Nat) (seen:List Rw) (p:Pt):Bool:=decide ((Tk.firsts k (hitsOf q seen)).length=k) && decide (dN (Tk.firsts k (hitsOf q seen))[k - 1]! < bnd q p)
def look (T:Nat->Pt) (q:List Int) (s:Sr) (p:Pt) (o:List Pt):Sr:=match p.kids with
 | some (l,h)=>⟨s.seen,s.bud,insP q (T h) (insP q (T l) o)⟩
 | none=>⟨s.seen ++ p.rs.take (min s.bud p.rs.length),s.bud - min s.bud p.rs.length,if min s.bud p.rs.length < p.rs.length then insP q ⟨p.reg,p.rs.drop (min s.bud p.rs.length),(0,0,0),none⟩ o else o⟩
def stepS (T:Nat->Pt) (q:List Int) (k:Nat) (s:Sr):Option Sr:=match s.opn.getLast? with
 | none=>none
 | some p=>if beyond q k s.seen p=true then none else if p.kids=none/\s.bud=0 then none else some (look T q s p s.opn.dropLast)
def runS (T:Nat->Pt) (q:List Int) (k:Nat):Nat->Sr->Sr
 | 0,s=>s
 | n + 1,s=>match stepS T q k s with
  | none=>s
  | some s'=>runS T q k n s'
theorem runS_stop {T:Nat->Pt} {q:List Int} {k:Nat} {s:Sr} (h:stepS T q k s=none):∀ n,runS T q k n s=s
 | 0=>rfl
 | n + 1=>by rw [runS,h]
structure InvS (T:Nat->Pt) (d N:Nat) (q:List Int) (b0:Nat) (rs:List Rw) (s:Sr):Prop where
 rows:(s.seen ++ s.opn.flatMap (rowsP T N)).Perm rs
 ok:∀ p ∈ s.opn,OkP T d N p
 dsc:Dsc q s.opn
 bud:s.seen.length + s.bud=b0
def wtS (T:Nat->Pt) (N:Nat) (s:Sr):Nat:=(s.opn.map (wtP T N)).sum
theorem wtP_pos (T:Nat->Pt):∀ n p,0 < wtP T n p
 | 0,p=>by rw [wtP];omega
 | n + 1,p=>by
  rw [wtP];split <;> omega
theorem last_split {l:List Pt} {p:Pt} (h:l.getLast? = some p):l=l.dropLast ++ [p]:=by
 have hne:l ≠ []:=by intro e;rw [e] at h;cases h
 rw [List.getLast?_eq_some_getLast hne] at h
 injection h with h
 rw [<- h,List.dropLast_concat_getLast]
theorem flat_perm {f:Pt->List Rw} {l m:List Pt} (p:l.Perm m):(l.flatMap f).Perm (m.flatMap f):=List.Perm.flatMap_right f p
theorem sum_permN {l m:List Nat} (p:l.Perm m):l.sum=m.sum:=p.sum_nat
theorem look_inv {T:Nat->Pt} {d N:Nat} {q:List Int} {b0:Nat} {rs:List Rw} {s:Sr} {p:Pt} {o:List Pt} (hs:s.opn=o ++ [p]) (h:InvS T d N q b0 rs s) (hb:¬ (p.kids=none/\s.bud=0)) :
  InvS T d N q b0 rs (look T q s p o)/\wtS T N (look T q s p o) < wtS T N s:=by
 have ok:=h.ok
 have rows:=h.rows
 have dsc:=h.dsc
 have hw:wtS T N s=(o.map (wtP T N)).sum + wtP T N p:=by unfold wtS;rw [hs];simp
 rw [hs] at ok rows dsc
 have okp:=ok p (by simp)
 have oko:∀ u ∈ o,OkP T d N u:=fun u hu=>ok u (List.mem_append_left _ hu)
 have dsco:Dsc q o:=dsc.sublist (List.sublist_append_left _ _)
 rw [List.flatMap_append] at rows
 simp only [List.flatMap_cons,List.flatMap_nil,List.append_nil] at rows
 cases hk:p.kids with
 | some lh =>
  obtain ⟨l,hh⟩:=lh
  have e:look T q s p o=⟨s.seen,s.bud,insP q (T hh) (insP q (T l) o)⟩:=by unfold look;rw [hk]
  obtain ⟨m,rfl,o1,o2,_⟩:=okP_node hk okp
  obtain ⟨a1,a2,a3⟩:=okP_mono m _ o1
  obtain ⟨b1,b2,b3⟩:=okP_mono m _ o2
  have pp:(insP q (T hh) (insP q (T l) o)).Perm (T hh :: T l :: o):=(insP_perm q _ _).trans ((insP_perm q _ _).cons _)
  rw [e]
  refine ⟨⟨?_,fun u hu=>?_,insP_dsc q _ _ (insP_dsc q _ _ dsco),h.bud⟩,?_⟩
  ·dsimp only
   refine List.Perm.trans (List.Perm.append_left _ (flat_perm pp)) (List.Perm.trans ?_ rows)
   simp only [List.flatMap_cons]
   rw [a2,b2,rowsP_node hk]
   refine List.Perm.append_left _ ?_
   refine List.Perm.trans ?_ List.perm_append_comm
   rw [<- List.append_assoc]
   exact List.Perm.append_right _ List.perm_append_comm
  ·rcases List.mem_cons.1 (pp.subset hu) with e | hu
   ·rw [e];exact b1
   ·rcases List.mem_cons.1 hu with e | hu
    ·rw [e];exact a1
    ·exact oko u hu
  ·rw [hw]
   unfold wtS
   dsimp only
   rw [sum_permN (pp.map (wtP T (m + 1)))]
   simp only [List.map_cons,List.sum_cons]
   rw [a3,b3,wtP_node hk]
   omega
 | none =>
  have hbud:s.bud ≠ 0:=fun e=>hb ⟨hk,e⟩
  obtain ⟨hne,hbox⟩:=(okP_leaf hk N).1 okp
  have hlen:0 < p.rs.length:=List.length_pos_iff.2 hne
  rw [rowsP_leaf hk] at rows
  rw [wtP_leaf hk] at hw
  have e:look T q s p o=⟨s.seen ++ p.rs.take (min s.bud p.rs.length),s.bud - min s.bud p.rs.length,if min s.bud p.rs.length < p.rs.length then insP q ⟨p.reg,p.rs.drop (min s.bud p.rs.length),(0,0,0),none⟩ o else o⟩:=by unfold look;rw [hk]
  rw [e]
  obtain ⟨c,hc⟩:∃ c,c=min s.bud p.rs.length:=⟨_,rfl⟩
  rw [<- hc]
  have hb2:=h.bud
  have htl:(p.rs.take c).length=c:=by rw [List.length_take];omega
  by_cases hlt:c < p.rs.length
  ·rw [if_pos hlt]
   have pp:=insP_perm q ⟨p.reg,p.rs.drop c,(0,0,0),none⟩ o
   refine ⟨⟨?_,fun u hu=>?_,insP_dsc q _ _ dsco,?_⟩,?_⟩
   ·dsimp only
    refine List.Perm.trans (List.Perm.append_left _ (flat_perm pp)) (List.Perm.trans ?_ rows)
    simp only [List.flatMap_cons]
    rw [rowsP_leaf rfl]
    dsimp only
    rw [List.append_assoc]
    refine List.Perm.append_left _ ?_
    rw [<- List.append_assoc,List.take_append_drop]
    exact List.perm_append_comm
   ·rcases List.mem_cons.1 (pp.subset hu) with e | hu
    ·rw [e]
     refine (okP_leaf rfl N).2 ⟨fun e=>?_,hbox.1,fun r hr=>hbox.2 r (List.mem_of_mem_drop hr)⟩
     have:=congrArg List.length e
     dsimp only at this
     rw [List.length_drop] at this
     simp at this
     omega
    ·exact oko u hu
   ·dsimp only
    rw [List.length_append,htl]
    omega
   ·rw [hw]
    unfold wtS
    dsimp only
    rw [sum_permN (pp.map (wtP T N))]
    simp only [List.map_cons,List.sum_cons]
    rw [wtP_leaf rfl]
    dsimp only
    rw [List.length_drop]
    omega
  ·rw [if_neg hlt]
   have hcl:c=p.rs.length:=by omega
   refine ⟨⟨?_,oko,dsco,?_⟩,?_⟩
   ·dsimp only
    refine List.Perm.trans ?_ rows
    rw [hcl,List.take_length,List.append_assoc]
    exact List.Perm.append_left _ List.perm_append_comm
   ·dsimp only
    rw [List.length_append,htl]
    omega
   ·rw [hw];unfold wtS;dsimp only;omega
theorem step_inv {T:Nat->Pt} {d N:Nat} {q:List Int} {k b0:Nat} {rs:List Rw} {s s':Sr} (h:InvS T d N q b0 rs s) (e:stepS T q k s=some s'):InvS T d N q b0 rs s'/\wtS T N s' < wtS T N s:=by
 unfold stepS at e
 cases hl:s.opn.getLast? with
 | none=>rw [hl] at e;cases e
 | some p =>
  rw [hl] at e
  dsimp only at e
  split at e
  ·cases e
  ·split at e
   ·cases e
   ·rename_i hb
    injection e with e
    rw [<- e]
    exact look_inv (last_split hl) h hb
theorem run_inv {T:Nat->Pt} {d N:Nat} {q:List Int} {k b0:Nat} {rs:List Rw}:∀ n s,InvS T d N q b0 rs s->wtS T N s<=n->InvS T d N q b0 rs (runS T q k n s)/\stepS T q k (runS T q k n s)=none
 | 0,s,h,hw=>by
  refine ⟨h,?_⟩
  show stepS T q k s=none
  cases e:stepS T q k s with
  | none=>rfl
  | some s'=>have:=(step_inv h e).2;omega
 | n + 1,s,h,hw=>by
  rw [runS]
  cases e:stepS T q k s with
  | none=>exact ⟨h,e⟩
  | some s' =>
   obtain ⟨h1,h2⟩:=step_inv h e
   exact run_inv n s' h1 (by omega)
theorem step_none {T:Nat->Pt} {d N:Nat} {q:List Int} {k b0:Nat} {rs:List Rw} {s:Sr} (h:InvS T d N q b0 rs s) (e:stepS T q k s=none) :
  s.opn=[] ∨ ((Tk.firsts k (hitsOf q s.seen)).length=k/\∀ p ∈ s.opn,dN (Tk.firsts k (hitsOf q s.seen))[k - 1]! < bnd q p) ∨ s.bud=0:=by
 unfold stepS at e
 cases hl:s.opn.getLast? with
 | none=>exact .inl (List.getLast?_eq_none_iff.1 hl)
 | some p =>
  rw [hl] at e
  dsimp only at e
  split at e
  ·rename_i hb
   unfold beyond at hb
   simp only [Bool.and_eq_true,decide_eq_true_eq] at hb
   refine .inr (.inl ⟨hb.1,fun u hu=>?_⟩)
   have hs:=last_split hl
   have dsc:=h.dsc
   rw [hs] at hu dsc
   rcases List.mem_append.1 hu with hu | hu
   ·have:=(List.pairwise_append.1 dsc).2.2 u hu p (by simp)
    omega
   ·rw [List.mem_singleton.1 hu];exact hb.2
  ·split at e
   ·rename_i hb;exact .inr (.inr hb.2)
   ·cases e
end Go.Proofs.YtepjbdklljlecaaGreat

namespace Go.Proofs.YtepjbdklljlecaaGreat
open Go.RowKit Go.Sort
theorem compare_g (a b:Int) (w:World):Calls Tryz.prog 58 #[.int .i64 a,.int .i64 b] w fun e w'=>e=.returned (.int .i64 (Tk.ci a b))/\Tk.Gw w w' :=
 (Tk.compare_c a b w).mono fun _ _ ⟨h,e⟩=>⟨h,by rw [e];exact Tk.Gw.refl _⟩
def alg (x:Int) (a:Int) (y:Int) (b:Int):Int:=Tk.cor (Tk.ci a b) (Tk.ci x y)
theorem alg_neg (x a y b:Int):decide (alg x a y b < 0)=(decide (a < b) || (decide (a=b) && decide (x < y))):=by
 unfold alg Tk.cor Tk.ci
 by_cases h1:a < b
 ·simp [h1]
 ·by_cases h2:b < a
  ·simp [h1,h2];intro e;omega
  ·have e:a=b:=by omega
   subst e
   by_cases h3:x < y
   ·simp [h3]
   ·by_cases h4:y < x <;> simp [h3,h4]
end Go.Proofs.YtepjbdklljlecaaGreat

namespace Go.Proofs.YtepjbdklljlecaaGreat
open Go.Shelf Go.RowKit Go.Lib Go.Sort
shelf_lay_g SlLaysF0.n6 Slsf 6 at Tryz 56 as Tryz.laidSortR
abbrev Rt:=Int × Value × List Int
abbrev encR (x:Rt):List Value:=[.int .i64 x.1,x.2.1]
abbrev rwR (x:Rt):Rw:=(x.1,x.2.2)
def RwAt (w:World) (g o:Nat) (d:List Rt):Prop:=∃ cur,w.heap[g]? = some (.cells cur 43 (0,0))/\o + d.length * 2<=cur.size/\∀ i (h:i < d.length),cur[o + i * 2]? = some (.int .i64 d[i].1)/\cur[o + i * 2 + 1]? = some d[i].2.1
theorem cell_cur {w:World} {g i:Nat} {cur:Array Value} {t:TypeId} {s:Nat × Nat} {v:Value} (h:w.heap[g]? = some (.cells cur t s)) (hc:cur[i]? = some v):w.cell? ⟨g,i,none⟩=some v:=by
 simp [World.cell?,h,hc]
theorem cur_cell {w:World} {g i:Nat} {cur:Array Value} {t:TypeId} {s:Nat × Nat} {v:Value} (h:w.heap[g]? = some (.cells cur t s)) (hc:w.cell? ⟨g,i,none⟩=some v):cur[i]? = some v:=by
 simpa [World.cell?,h] using hc
structure Srt (w w':World) (g o n:Nat):Prop where
 kp:Tk.Kp (fun b=>b=g) w w'
 blk:∀ cur,w.heap[g]? = some (.cells cur 43 (0,0))->∃ cur',w'.heap[g]? = some (.cells cur' 43 (0,0))/\cur'.size=cur.size/\∀ i,(i < o ∨ o + n * 2<=i)->cur'[i]? = cur[i]?
theorem sort_heap {α:Type} [Inhabited α] (enc:α->List Value) (w:World) (g o m:Nat) (d:Array α) (os:Array Obj) {cur:Array Value} (h:w.heap[g]? = some (.cells cur 43 (0,0))) :
  (sortWorldK enc 2 w g o m d os).heap[g]? = some (.cells (putCells id o (flatK enc 2 d) cur) 43 (0,0)):=by
 have hlt:=(Array.getElem?_eq_some_iff.1 h).1
 unfold sortWorldK
 rw [heap_grow_old _ _ (by simp [putRowK,putRow,mapBlock];exact hlt)]
 simp [putRowK,putRow,mapBlock,Array.getElem?_modify,h,onCells]
theorem sort_kp {α:Type} [Inhabited α] (enc:α->List Value) (w:World) (g o m:Nat) (d:Array α) (os:Array Obj):Tk.Kp (fun b=>b=g) w (sortWorldK enc 2 w g o m d os):=by
 unfold sortWorldK
 refine Tk.Kp.trans (b:=putRowK enc 2 (Sort.ahead w m) g o d) ⟨rfl,rfl,rfl,by simp [putRowK,putRow,mapBlock],fun k _ hn=>?_⟩ (Tk.Kp.of_gr (Tk.gr_grow _ _))
 simp [putRowK,putRow,mapBlock,Array.getElem?_modify,Ne.symm hn]
theorem rdi_kp {S:Nat->Prop} {w w':World} {u:Value} {l:List Int} (h:RdI w u l) (k:Tk.Kp S w w') (hn:∀ b o n c,u=.slice (some ⟨b,o,none⟩) n c->¬ S b):RdI w' u l:=by
 obtain ⟨a,cap,rfl,h⟩:=h
 refine ⟨a,cap,rfl,fun i hi=>?_⟩
 obtain ⟨b,o,rfl,hc⟩:=h i hi
 exact ⟨b,o,rfl,k.cell hc (hn _ _ _ _ rfl)⟩
theorem sortR {w:World} {g o cap fn:Nat} {d:List Rt} {cb:Array Value} {cf:Rt->Rt->Int} (ok:Rt->Prop) (hd:RwAt w g o d) (hne:d ≠ []) (hlen:d.length<=4000) (hok:∀ x ∈ d,ok x) (hone:∀ x,ok x->x.2.1.oneCell'=true)
  (hO:SWO (fun x y:Rt=>decide (cf x y < 0))) (eg:∀ args w,(callFunc fn args).run Tryz.prog w=.ok (.enter fn args) w)
  (hc:∀ W,Tk.Kp (fun b=>b=g) w W->∀ x y,ok x->ok y->Calls Tryz.prog fn (#[.agg #[.int .i64 x.1,x.2.1],.agg #[.int .i64 y.1,y.2.1]] ++ cb) W fun e w'=>e=.returned (.int .i64 (cf x y))/\Tk.Gw W w') :
  Calls Tryz.prog 56 #[.slice (some ⟨g,o,none⟩) d.length cap,.func (.func fn) #[] cb] w fun e w'=>e=.returned (.tuple #[])/\∃ d',d'.Perm d/\(d'.Pairwise fun x y=>¬ cf y x < 0)/\RwAt w' g o d'/\Srt w w' g o d.length:=by
 haveI:Inhabited {x // ok x}:=⟨⟨d.head hne,hok _ (List.head_mem hne)⟩⟩
 obtain ⟨cur,hcur,hsz,hcells⟩:=hd
 have hlt:=(Array.getElem?_eq_some_iff.1 hcur).1
 obtain ⟨A,hA⟩:∃ A:Array {x // ok x},A=(d.attachWith ok hok).toArray:=⟨_,rfl⟩
 have hAs:A.size=d.length:=by rw [hA];simp
 have hAg:∀ i (h:i < d.length),(A[i]!).1=d[i]:=by
  intro i h
  rw [getElem!_pos A i (by omega)]
  subst hA
  simp
 have hH:HoldsK (fun x:{x // ok x}=>encR x.1) 2 w g o A:=by
  intro t ht
  have ht':t < d.length * 2:=by simpa [hAs] using ht
  have hi:t / 2 < d.length:=by omega
  have e:(flatK (fun x:{x // ok x}=>encR x.1) 2 A)[t]! = (encR d[t / 2])[t % 2]! := by
   rw [get_flatK _ _ _ _ (by rw [hAs];exact ht'),hAg _ hi]
  refine ⟨?_,by simp [World.frozen?,hcur]⟩
  rw [e]
  obtain ⟨c0,c1⟩:=hcells (t / 2) hi
  rcases Nat.mod_two_eq_zero_or_one t with h0 | h0
  ·rw [h0];exact cell_cur hcur (by rw [show o + t=o + t / 2 * 2 by omega];exact c0)
  ·rw [h0];exact cell_cur hcur (by rw [show o + t=o + t / 2 * 2 + 1 by omega];exact c1)
 have hS:SWO (ltOf fun x y:{x // ok x}=>cf x.1 y.1):=⟨fun x=>hO.irrefl x.1,fun x y z=>hO.trans x.1 y.1 z.1,fun x y z=>hO.ntrans x.1 y.1 z.1⟩
 have hcmp:CmpLays Tryz.prog fn cb (fun x:{x // ok x}=>encR x.1) 2 (fun x y=>cf x.1 y.1) g o A.size w:=by
  intro m os dk _ x y
  exact hc _ (sort_kp _ _ _ _ _ _ _) x.1 y.1 x.2 y.2
 have hs:=AnyQ.slices_SortFunc Tryz.laidSortR 2 Tryz.isAgg43 Tryz.sizeOf43 (fun x:{x // ok x}=>encR x.1) (fun _=>rfl) (fun x v hv=>by
  simp only [encR,List.mem_cons,List.not_mem_nil,or_false] at hv
  rcases hv with rfl | rfl
  ·rfl
  ·exact hone x.1 x.2) (fun x y=>cf x.1 y.1) hS fn cb g o cap A w eg hcmp hH hlt (by omega)
 rw [hAs] at hs
 change Calls Tryz.prog 56 _ _ _ at hs
 refine hs.mono ?_
 rintro e w' ⟨rfl,D,m,os,⟨hP0,_,hP⟩,hSo,rfl⟩
 have hDs:D.size=d.length:=by rw [hP0,hAs]
 rw [show d.length=A.size from hAs.symm,Array.extract_size,hAs] at hP
 rw [show D.extract 0 d.length=D by rw [<- hDs];exact Array.extract_size] at hP
 have hDl:(D.toList.map Subtype.val).length=d.length:=by simp [hDs]
 have hDg:∀ i (h:i < (D.toList.map Subtype.val).length),(D.toList.map Subtype.val)[i]=(D[i]!).1:=by
  intro i h
  rw [getElem!_pos D i (by rw [hDl] at h;omega)]
  simp
 refine ⟨rfl,D.toList.map Subtype.val,?_,?_,?_,?_⟩
 ·have:=hP.map Subtype.val
  refine this.trans (List.Perm.of_eq ?_)
  rw [hA]
  simp only []
  first | exact List.attachWith_map_subtype_val _ | exact List.attachWith_map_val _ | (simp;exact List.attach_map_subtype_val d)
 ·rw [List.pairwise_iff_getElem]
  intro i j hi hj hij
  rw [hDg i hi,hDg j hj]
  have:=hSo i j (Nat.zero_le _) hij (by rw [hDl] at hj;exact hj)
  unfold ltOf at this
  exact of_decide_eq_false this
 ·refine ⟨_,sort_heap _ w g o m D os hcur,by rw [hDl];simpa [putCells] using hsz,fun i h=>?_⟩
  rw [hDg i h]
  have hi:i < d.length:=by rw [hDl] at h;exact h
  have key:∀ t,t < d.length * 2->(putCells id o (flatK (fun x:{x // ok x}=>encR x.1) 2 D) cur)[o + t]? = some ((encR (D[t / 2]!).1)[t % 2]!):=by
   intro t ht
   have hb:o + t < cur.size:=by omega
   simp only [putCells,Array.getElem?_mapIdx,Array.getElem?_eq_getElem hb,Option.map_some]
   rw [if_pos ⟨by omega,by simp [hDs];omega⟩,show o + t - o=t by omega,get_flatK _ _ _ _ (by rw [hDs];exact ht)]
   rfl
  have k0:=key (i * 2) (by omega)
  have k1:=key (i * 2 + 1) (by omega)
  rw [show i * 2 / 2=i by omega,show i * 2 % 2=0 by omega] at k0
  rw [show (i * 2 + 1) / 2=i by omega,show (i * 2 + 1) % 2=1 by omega] at k1
  exact ⟨k0,by rw [Nat.add_assoc];exact k1⟩
 ·refine ⟨sort_kp _ _ _ _ _ _ _,fun cur2 h2=>?_⟩
  rw [hcur] at h2
  injection h2 with h2
  injection h2 with h2 _ _
  subst h2
  refine ⟨_,sort_heap _ w g o m D os hcur,by simp [putCells],fun i hi=>?_⟩
  simp only [putCells,Array.getElem?_mapIdx]
  have hn2:¬ (o<=i/\i < o + (flatK (fun x:{x // ok x}=>encR x.1) 2 D).size):=by simp [hDs];omega
  cases hcc:cur[i]? with
  | none=>rfl
  | some c=>rw [Option.map_some,if_neg hn2]
end Go.Proofs.YtepjbdklljlecaaGreat

namespace Go.Proofs.YtepjbdklljlecaaGreat
open Go.Shelf Go.RowKit Go.Lib Go.Sort
set_option maxHeartbeats 1000000
shelf_lay_g SlLaysE0.n41 Slgn 41 at Tryz 94 as Tryz.laidCloneR
theorem swoAl (ax:Nat):SWO (fun x y:Rt=>decide (alg x.1 x.2.2[ax]! y.1 y.2.2[ax]! < 0)):=by
 refine ⟨fun x=>?_,fun x y z=>?_,fun x y z=>?_⟩
 ·simp only [alg_neg];simp
 ·simp only [alg_neg]
  generalize x.2.2[ax]! = a
  generalize y.2.2[ax]! = b
  generalize z.2.2[ax]! = c
  simp only [Bool.or_eq_true,Bool.and_eq_true,decide_eq_true_eq]
  omega
 ·simp only [alg_neg]
  generalize x.2.2[ax]! = a
  generalize y.2.2[ax]! = b
  generalize z.2.2[ax]! = c
  simp only [Bool.or_eq_false_iff,Bool.and_eq_false_iff,decide_eq_false_iff_not]
  omega
theorem swoId:SWO (fun x y:Rt=>decide (Tk.ci x.1 y.1 < 0)):=by
 have e:∀ a b:Int,decide (Tk.ci a b < 0)=decide (a < b):=fun a b=>by
  unfold Tk.ci
  split
  ·rename_i h;simp [h]
  ·rename_i h;split <;> simp [h]
 refine ⟨fun x=>?_,fun x y z=>?_,fun x y z=>?_⟩ <;> simp only [e,decide_eq_true_eq,decide_eq_false_iff_not] <;> omega
structure RtOk (w:World) (g n:Nat) (x:Rt):Prop where
 rd:RdI w x.2.1 x.2.2
 len:x.2.2.length=n
 ne:∀ b o n c,x.2.1=.slice (some ⟨b,o,none⟩) n c->b ≠ g
theorem RtOk.one {w:World} {g n:Nat} {x:Rt} (h:RtOk w g n x):x.2.1.oneCell'=true:=by
 obtain ⟨a,c,e,_⟩:=h.rd
 rw [e];rfl
theorem RtOk.kp {w w':World} {g n:Nat} {x:Rt} (h:RtOk w g n x) (k:Tk.Kp (fun b=>b=g) w w'):RtOk w' g n x :=
 ⟨rdi_kp h.rd k (fun b o n c e=>h.ne b o n c e),h.len,h.ne⟩
theorem build1_c (x y:Int) (u v:Value) (hu:u.oneCell'=true) (hv:v.oneCell'=true) (w:World) :
  Calls Tryz.prog 57 #[.agg #[.int .i64 x,u],.agg #[.int .i64 y,v]] w fun e w'=>e=.returned (.int .i64 (Tk.ci x y))/\Tk.Gw w w':=by
 have cC:=fun W=>compare_g x y W
 have hcu:u.cells=#[u]:=by first | exact Value.cells_of_oneCell' hu | (cases u <;> simp_all [Value.oneCell',Value.cells])
 have hcv:v.cells=#[v]:=by first | exact Value.cells_of_oneCell' hv | (cases v <;> simp_all [Value.oneCell',Value.cells])
 go_enter Tryz.func57,Tryz.ntmps57
 go_wp2_with fail
 refine (cC _).mono ?_
 rintro e w' ⟨rfl,hg⟩
 go_wp2
 go_ret
 exact ⟨rfl,(((Tk.Gw.refl _).alloc _).alloc _).trans hg⟩
theorem find1_c (x y:Int) (u:Value) (hu:u.oneCell'=true) (w:World) :
  Calls Tryz.prog 83 #[.agg #[.int .i64 x,u],.int .i64 y] w fun e w'=>e=.returned (.int .i64 (Tk.ci x y))/\Tk.Gw w w':=by
 have cC:=fun W=>compare_g x y W
 have hcu:u.cells=#[u]:=by first | exact Value.cells_of_oneCell' hu | (cases u <;> simp_all [Value.oneCell',Value.cells])
 go_enter Tryz.func83,Tryz.ntmps83
 go_wp2_with fail
 refine (cC _).mono ?_
 rintro e w' ⟨rfl,hg⟩
 go_wp2
 go_ret
 exact ⟨rfl,((Tk.Gw.refl _).alloc _).trans hg⟩
theorem sortId_c {w:World} {g o cap n:Nat} {d:List Rt} (hd:RwAt w g o d) (hne:d ≠ []) (hlen:d.length<=4000) (hok:∀ x ∈ d,RtOk w g n x) :
  Calls Tryz.prog 56 #[.slice (some ⟨g,o,none⟩) d.length cap,.func (.func 57) #[] #[]] w fun e w'=>e=.returned (.tuple #[])/\∃ d',d'.Perm d/\(d'.Pairwise fun x y=>¬ Tk.ci y.1 x.1 < 0)/\RwAt w' g o d'/\Srt w w' g o d.length :=
 sortR (cf:=fun x y=>Tk.ci x.1 y.1) (RtOk w g n) hd hne hlen hok (fun _ h=>h.one) swoId (enters_of Tryz.func57 (by kernel_rfl) rfl)
  (fun W _ x y hx hy=>build1_c _ _ _ _ hx.one hy.one W)
theorem sort_none (a:Option Addr) (cap:Nat) (fv:Value) (w:World):Calls Tryz.prog 56 #[.slice a 0 cap,fv] w fun e w'=>e=.returned (.tuple #[])/\w'=w:=by
 have hc:=AnyF.slices_SortFunc_none Tryz.laidSortR a cap fv w
 exact hc
def RwRd (w:World) (g o:Nat) (d:List Rt):Prop:=∀ i (h:i < d.length),w.cell? ⟨g,o + i * 2,none⟩=some (.int .i64 d[i].1)/\w.cell? ⟨g,o + i * 2 + 1,none⟩=some d[i].2.1
theorem RwAt.rd {w:World} {g o:Nat} {d:List Rt} (h:RwAt w g o d):RwRd w g o d:=by
 obtain ⟨cur,h1,_,h3⟩:=h
 intro i hi
 exact ⟨cell_cur h1 (h3 i hi).1,cell_cur h1 (h3 i hi).2⟩
theorem flR_get (d:List Rt) (t:Nat):(d.flatMap encR)[t]? = if h:t / 2 < d.length then (encR d[t / 2])[t % 2]? else none:=by
 induction d generalizing t with
 | nil=>simp
 | cons x r ih =>
  rw [List.flatMap_cons]
  by_cases h:t < 2
  ·rw [List.getElem?_append_left (by simpa using h)]
   have h0:t / 2=0:=by omega
   have h1:t % 2=t:=by omega
   simp [h0,h1]
  ·rw [List.getElem?_append_right (by simp;omega),show t - (encR x).length=t - 2 by rfl,ih]
   have h0:t / 2=(t - 2) / 2 + 1:=by omega
   have h1:t % 2=(t - 2) % 2:=by omega
   simp only [h0,h1,List.length_cons,Nat.add_lt_add_iff_right,List.getElem_cons_succ]
theorem flR_len (d:List Rt):(d.flatMap encR).length=d.length * 2:=by
 induction d with
 | nil=>rfl
 | cons x r ih=>rw [List.flatMap_cons,List.length_append,ih,List.length_cons];simp;omega
theorem rwAt_own {w:World} {B g n cap:Nat} {d:List Rt} (h:w.ownsRow B 43 2 (.slice (some ⟨g,0,none⟩) n cap) d.length (d.flatMap encR)):RwAt w g 0 d/\B<=g/\g < w.heap.size:=by
 rcases h.2 with ⟨e,_⟩ | ⟨g',cap',cur,e,hB,hh,hle,_,hsz,htk⟩
 ·cases e
 ·cases e
  refine ⟨⟨cur,hh,by omega,fun i hi=>?_⟩,hB,(Array.getElem?_eq_some_iff.1 hh).1⟩
  have key:∀ t,t < d.length * 2->cur[t]? = (d.flatMap encR)[t]? := fun t ht=>by
   rw [<- htk,List.getElem?_take_of_lt ht,Array.getElem?_toList]
  rw [Nat.zero_add,key _ (by omega),key _ (by omega),flR_get,flR_get,show i * 2 / 2=i by omega,show (i * 2 + 1) / 2=i by omega,show i * 2 % 2=0 by omega,show (i * 2 + 1) % 2=1 by omega,dif_pos hi,dif_pos hi]
  exact ⟨rfl,rfl⟩
theorem cloneR_c {w:World} {g o cap:Nat} {d:List Rt} (hd:RwRd w g o d) (hlen:d.length<=4000) (hone:∀ x ∈ d,x.2.1.oneCell'=true) :
  Calls Tryz.prog 94 #[.slice (some ⟨g,o,none⟩) d.length cap] w fun e w'=>∃ g' cap',e=.returned (.slice (some ⟨g',0,none⟩) d.length cap')/\w.heap.size<=g'/\g' < w'.heap.size/\RwAt w' g' 0 d/\Gb w w'/\w'.ownsRow w.heap.size 43 2 (.slice (some ⟨g',0,none⟩) d.length cap') d.length (d.flatMap encR):=by
 obtain ⟨i0,hi0,hz0,hz1,hz2⟩:=info_partsW
 have hc:=AnyE.slices_Clone Tryz.laidCloneR i0 (.agg #[.int .i64 0,.slice none 0 0]) 2 32 hi0 hz0 hz1 hz2 rfl (by omega) Tryz.sizeOf43 g o d.length cap (d.flatMap encR) w (flR_len d) (by simp only [maxLen];omega) (by omega)
  (fun j u hu=>by
   rw [flR_get] at hu
   split at hu
   ·rename_i h
    obtain ⟨c0,c1⟩:=hd (j / 2) h
    rcases Nat.mod_two_eq_zero_or_one j with h0 | h0
    ·rw [h0] at hu;cases hu;rw [show o + j=o + j / 2 * 2 by omega];exact c0
    ·rw [h0] at hu;cases hu;rw [show o + j=o + j / 2 * 2 + 1 by omega];exact c1
   ·cases hu)
  (fun u hu=>by
   obtain ⟨x,hx,hu⟩:=List.mem_flatMap.1 hu
   simp only [encR,List.mem_cons,List.not_mem_nil,or_false] at hu
   rcases hu with rfl | rfl
   ·rfl
   ·exact hone x hx)
 change Calls Tryz.prog 94 _ _ _ at hc
 refine hc.mono ?_
 rintro e w' ⟨v',rfl,ho,hv,hb⟩
 rcases ho.2 with ⟨h1,_⟩ | ⟨g',cap',cur,rfl,_⟩
 ·exact absurd h1 hv
 ·obtain ⟨h1,h2,h3⟩:=rwAt_own ho
  exact ⟨g',cap',rfl,h2,h3,h1,hb,ho⟩
end Go.Proofs.YtepjbdklljlecaaGreat

namespace Go.Proofs.YtepjbdklljlecaaGreat
open Go.RowKit Go.Sort Go.Maps
set_option maxRecDepth 100000
set_option maxHeartbeats 1000000
theorem app_run {o:Oper} {a:Act} {w:World} {K:Act->World->Prop} {Q:Exit->Act->World->Prop} (_hgd:o.guard=none) (s x:Operand) (t:TypeId)
  (ho:o.op=.call { callee:=.builtin .append,args:=#[s,x],argTypes:=#[t,t] }) (h:∃ v1 v2 v' w',a.eval s=v1/\a.eval x=v2/\(Builtin.append_ #[t,t] o.type #[v1,v2]).run Tryz.prog w=.ok v' w'/\K (a.put o.dst v') w') :
  Oper.wp Tryz.prog o a w K Q:=by
 obtain ⟨v1,v2,v',w',hs,hx,hr,h⟩:=h
 unfold Oper.wp execOp
 simp only [ho,resolve,invoke,builtin,Sem.run_bind,Sem.run_pure,Result.andThen_ok,List.map_toArray,List.map_cons,List.map_nil,hs,hx,hr]
 exact h
def OwnC (W:World) (B:Nat) (v:Value) (rs:List Rw):Prop:=v ≠ .slice none 0 0/\∃ xs,W.ownsRow B 43 2 v rs.length xs/\∀ i,i < rs.length->xs[i * 2]? = some (.int .i64 rs[i]!.1)/\∃ u,xs[i * 2 + 1]? = some u/\Own W B u rs[i]!.2
theorem OwnC.gb {W W':World} {B:Nat} {v:Value} {rs:List Rw} (h:OwnC W B v rs) (g:Gb W W'):OwnC W' B v rs:=by
 obtain ⟨hn,xs,h1,h2⟩:=h
 refine ⟨hn,xs,h1.kept (row:=none) ⟨g.os,g.tape,g.output,g.size,fun k hk _=>g.block k hk⟩ (by cases hv:v.ownBlock <;> simp),fun i hi=>?_⟩
 obtain ⟨a,u,b,c⟩:=h2 i hi
 exact ⟨a,u,b,c.gb g⟩
theorem OwnC.form {W:World} {B:Nat} {v:Value} {rs:List Rw} (h:OwnC W B v rs):∃ g cap,v=.slice (some ⟨g,0,none⟩) rs.length cap:=by
 obtain ⟨hn,xs,h,_⟩:=h
 rcases h.2 with ⟨e,h0⟩ | ⟨b,cap,cur,rfl,_⟩
 ·exact absurd e hn
 ·exact ⟨_,cap,rfl⟩
theorem OwnC.ownW {W:World} {B:Nat} {v:Value} {rs:List Rw} (h:OwnC W B v rs):OwnW W W B v rs:=by
 obtain ⟨_,xs,h1,h2⟩:=h
 refine ⟨xs,h1,fun i hi=>?_⟩
 obtain ⟨a,u,b,c⟩:=h2 i hi
 exact ⟨a,u,b,c.rd⟩
theorem OwnC.rdw {W:World} {B:Nat} {v:Value} {rs:List Rw} (h:OwnC W B v rs):RdW W v rs:=h.ownW.rdw (Below.refl _ _)
theorem own_neR {W:World} {B B' n:Nat} {u v:Value} {x:List Int} {xs:List Value} (h:Own W B u x) (r:W.ownsRow B' 43 2 v n xs):u.ownBlock=none ∨ u.ownBlock ≠ v.ownBlock:=by
 rcases h.2 with ⟨rfl,_⟩ | ⟨g,cap,cur,rfl,_,hh,_⟩
 ·exact .inl rfl
 ·refine .inr fun e=>?_
  rcases r.2 with ⟨rfl,_⟩ | ⟨g',cap',cur',rfl,_,hh',_⟩
  ·cases e
  ·cases e
   rw [hh] at hh'
   simp at hh'
theorem grown_cellC {W W':World} {row:Option Nat} (h:W.grownBy W' row) {p:Addr} {v:Value} (hc:W.cell? p=some v) (hne:row ≠ some p.block):W'.cell? p=some v:=by
 rw [World.cell?_of_block (h.block p.block (World.block_lt_of_cell? W p hc) (fun e=>hne e.symm))];exact hc
theorem OwnC.next {w W:World} {pv:Option Addr} {nv cv:Nat} {rs:List Rw} {x:Int} {l:List Int} {u:Value} (h:OwnC W w.heap.size (.slice pv nv cv) rs) (hn:rs.length<=4000) (g:Gb w W) (ho:Own W w.heap.size u l) :
  ∃ v' W',(Builtin.append_ #[22,22] 22 #[.slice pv nv cv,.slice (some ⟨W.heap.size,0,none⟩) 1 1]).run Tryz.prog (W.alloc (.cells #[.int .i64 x,u] 43))=.ok v' W'/\OwnC W' w.heap.size v' (rs ++ [(x,l)])/\Gb w W'/\∀ (p:Addr) (y:Value),(Value.slice pv nv cv).ownBlock ≠ some p.block->(W.alloc (.cells #[.int .i64 x,u] 43)).cell? p=some y->W'.cell? p=some y:=by
 obtain ⟨_,xs,h1,h2⟩:=h
 obtain ⟨i0,hi,hz0,hz1,hz2⟩:=info_partsW
 have hu:u.oneCell'=true:=by obtain ⟨a,c,rfl,_⟩:=ho.rd;rfl
 obtain ⟨v',W',hr,hown,hgrow,hnn,_⟩:=run_append_own_at (P:=Tryz.prog) (W.alloc (.cells #[.int .i64 x,u] 43)) w.heap.size 22 22 43 i0 (.agg #[.int .i64 0,.slice none 0 0]) 2 32 Tryz.underlying22 hi hz0 hz1 hz2 rfl (by decide)
  (.slice pv nv cv) rs.length xs (World.ownsRow.alloc h1 _) ⟨W.heap.size,0,none⟩ 1 1 [.int .i64 x,u] rfl (two_cells _ _ _ _) (by simp [Value.oneCell'];try exact hu) (by simp only [maxLen];omega) (by omega) (by rw [World.size_alloc];have:=g.size;omega)
 refine ⟨v',W',hr,⟨fun e=>absurd (hnn.1 e).2 (by decide),xs ++ [.int .i64 x,u],by rw [List.length_append];exact hown,fun i hi=>?_⟩,?_,fun p y hp hc=>grown_cellC hgrow hc hp⟩
 ·have kp:∀ {u':Value} {y:List Int},Own W w.heap.size u' y->Own W' w.heap.size u' y:=fun {u' y} ho'=>(ho'.gb (gb_alloc (Below.refl _ _) _)).kept hgrow (own_neR ho' h1)
  rw [List.length_append] at hi
  by_cases e:i < rs.length
  ·rw [getElem!_pos (rs ++ [(x,l)]) i (by rw [List.length_append];exact hi),List.getElem_append_left e,<- getElem!_pos rs i e,List.getElem?_append_left (by have:=h1.1;omega),List.getElem?_append_left (by have:=h1.1;omega)]
   obtain ⟨a,u',b,c⟩:=h2 i e
   exact ⟨a,u',b,kp c⟩
  ·have e':i=rs.length:=by simp at hi;omega
   subst e'
   have e2:(rs ++ [(x,l)])[rs.length]! = (x,l):=by rw [getElem!_pos _ _ (by simp)];simp
   have hl:=h1.1
   rw [e2,List.getElem?_append_right (by omega),List.getElem?_append_right (by omega),hl]
   exact ⟨by simp,u,by rw [show rs.length * 2 + 1 - rs.length * 2=1 by omega];rfl,kp ho⟩
 ·refine below_grown (gb_alloc g _) hgrow (fun k e=>?_) (gb_alloc g _).size
  have:=(h1.lt k e).1
  omega
theorem copies_c {w:World} {v:Value} {rs:List Rw} (h:RdW w v rs) (hn:rs.length<=4000) (hv:∀ i,i < rs.length->1<=rs[i]!.2.length/\rs[i]!.2.length<=100000) :
  Calls Tryz.prog 46 #[v] w fun e w'=>∃ v',e=.returned v'/\OwnC w' w.heap.size v' rs/\Gb w w':=by
 have A:Hid (RdW w v rs):=h
 have VL:Hid (∀ i,i < rs.length->1<=rs[i]!.2.length/\rs[i]!.2.length<=100000):=hv
 obtain ⟨a,cap,rfl,_⟩:=h
 obtain ⟨n,hN⟩:∃ n,n=rs.length:=⟨_,rfl⟩
 have N:Hid (n=rs.length):=hN
 rw [<- hN] at A hn ⊢
 clear hN hv
 obtain ⟨i0,hi,hz0,hz1,hz2⟩:=info_partsW
 obtain ⟨w1,hmk,ho,hg⟩:=run_make_own (P:=Tryz.prog) w w.heap.size 22 43 i0 (.agg #[.int .i64 0,.slice none 0 0]) 2 Tryz.underlying22 hi hz0 hz1 .i64 .i64 n (by rw [hz2];omega) (by simp only [maxLen];omega) (Nat.le_refl _)
 have O:Hid (OwnC w1 w.heap.size (.slice (some ⟨w.heap.size,0,none⟩) 0 n) (rs.take 0)/\Gb w w1):=⟨⟨by simp,[],ho,fun i hi=>absurd hi (by simp)⟩,below_grown (Below.refl _ _) hg (fun k e=>by cases e) (Nat.le_refl _)⟩
 clear hi hz0 hz1 hz2 ho hg
 go_enter Tryz.func46,Tryz.ntmps46
 go_wp2
 clear hmk
 go_loopw [3,11] (fun ov iv W=>∃ q:Nat,iv=.int .i64 (q:Int)/\q<=n/\Hid (OwnC W w.heap.size ov (rs.take q)/\Gb w W)) (fun _ iv _=>n - (intOf iv).toNat)
 case atStart=>exact ⟨0,rfl,Nat.zero_le _,O.out⟩
 case round =>
  clear O
  obtain ⟨q,rfl,hq,X⟩:=hrel
  by_cases hqn:q < n
  ·have hqi:(q:Int) < (n:Int):=by omega
   have hql:q < rs.length:=by have:=N.out;omega
   obtain ⟨_,_,e1,hA⟩:=A.out
   obtain ⟨b,o,u,ea,k1,k2,k3⟩:=hA q hql
   injection e1 with e2 e3 e4
   subst e2
   subst ea
   have NX:Hid (rs.take (q + 1)=rs.take q ++ [(rs[q]!.1,rs[q]!.2)]):=by unfold Hid;rw [List.take_succ_eq_append_getElem hql,getElem!_pos rs q hql]
   have NL:Hid ((rs.take q).length=q):=by unfold Hid;rw [List.length_take];omega
   have VB:=VL.out q hql
   generalize rs[q]!.1=x at *
   generalize rs[q]!.2=V at *
   have x0:=gb_keeps X.out.2 k1
   have x1:=gb_keeps X.out.2 k2
   have G1:Hid (Gb w (wr.alloc (.cells #[.int .i64 x,u] 43)).drew):=(gb_alloc X.out.2 _).drew
   have cC:=clone_c (k3.gb G1.out) VB.2 VB.1
   obtain ⟨pu,cu,eu,_⟩:=k3
   subst eu
   obtain ⟨gv,cv,ev⟩:=X.out.1.form
   obtain ⟨pv,hpv⟩:∃ pv,pv=some (⟨gv,0,none⟩:Addr):=⟨_,rfl⟩
   rw [<- hpv] at ev
   subst ev
   rw [NL.out]
   have XO:Hid (OwnC wr w.heap.size (.slice pv q cv) (rs.take q)):=by unfold Hid;have:=X.out.1;rwa [NL.out] at this
   obtain ⟨nu,hnu⟩:∃ nu,nu=V.length:=⟨_,rfl⟩
   rw [<- hnu] at x1 G1 cC
   have FS0:(wr.alloc (.cells #[.int .i64 x,.slice pu nu cu] 43)).drew.cell? ⟨wr.heap.size,0,none⟩=some (.int .i64 x)/\(wr.alloc (.cells #[.int .i64 x,.slice pu nu cu] 43)).drew.cell? ⟨wr.heap.size,1,none⟩=some (.slice pu nu cu):=⟨by simp [go_sem],by simp [go_sem]⟩
   have FIN:Hid (∀ w4 u4,Gb (wr.alloc (.cells #[.int .i64 x,.slice pu nu cu] 43)).drew w4->Own w4 (wr.alloc (.cells #[.int .i64 x,.slice pu nu cu] 43)).drew.heap.size u4 V ->
     ∃ v' W',(Builtin.append_ #[22,22] 22 #[.slice pv q cv,.slice (some ⟨w4.heap.size,0,none⟩) 1 1]).run Tryz.prog (w4.alloc (.cells #[.int .i64 x,u4] 43))=.ok v' W'/\(OwnC W' w.heap.size v' (rs.take (q + 1))/\Gb w W')/\∀ i y,(w4.alloc (.cells #[.int .i64 x,u4] 43)).cell? ⟨wr.heap.size,i,none⟩=some y->W'.cell? ⟨wr.heap.size,i,none⟩=some y):=by
    intro w4 u4 g4 o4
    rw [NX.out]
    obtain ⟨v',W',h1,h2,h3,h4⟩:=OwnC.next (x:=x) (u:=u4) (l:=V) (XO.out.gb (gb_trans (Below.drew (gb_alloc (Below.refl _ _) _)) g4)) (by rw [NL.out];omega) (gb_trans G1.out g4) (o4.mono G1.out.size)
    refine ⟨v',W',h1,⟨h2,h3⟩,fun i y hy=>h4 _ _ (fun e=>?_) hy⟩
    obtain ⟨_,xs,hx,_⟩:=XO.out
    have:=(hx.lt _ e).2
    dsimp only at this
    omega
   have KX:Hid (1<=V.length/\V.length<=100000):=VB
   clear hA e3 e4 k1 k2 hql X XO VB hnu
   go_wp2_with fail
   refine wp_region_held_drew (S:=fun W=>W.cell? ⟨wr.heap.size,0,none⟩=some (.int .i64 x)/\W.cell? ⟨wr.heap.size,1,none⟩=some (.slice pu nu cu)) (by kernel_rfl) (FS0) (fun hHeld=>?_)
   refine tkn 0 ?_ rfl ?_ ?_;rotate_left;·(rintro w ⟨s0,s1⟩;go_simp;try rfl)
   try simp only [Act.put,List.getElem_toArray,List.getElem_cons_zero,List.setIfInBounds_toArray,List.set_cons_zero,List.set_cons_succ]
   refine tkn 1 ?_ rfl ?_ ?_;rotate_left;·(rintro w ⟨s0,s1⟩;go_simp;try rfl)
   try simp only [Act.put,List.getElem_toArray,List.getElem_cons_zero,List.getElem_cons_succ,List.setIfInBounds_toArray,List.set_cons_zero,List.set_cons_succ]
   refine tkn 2 ?_ rfl ?_ ?_;rotate_left;·(rintro w ⟨s0,s1⟩;go_simp;try rfl)
   try simp only [Act.put,List.getElem_toArray,List.getElem_cons_zero,List.getElem_cons_succ,List.setIfInBounds_toArray,List.set_cons_zero,List.set_cons_succ]
   refine tkn 3 ?_ rfl ?_ ?_;rotate_left;·(rintro w ⟨s0,s1⟩;go_simp;try rfl)
   try simp only [Act.put,List.getElem_toArray,List.getElem_cons_zero,List.getElem_cons_succ,List.setIfInBounds_toArray,List.set_cons_zero,List.set_cons_succ]
   refine tkn 4 ?_ rfl ?_ ?_;rotate_left;·(rintro w ⟨s0,s1⟩;go_simp;try rfl)
   try simp only [Act.put,List.getElem_toArray,List.getElem_cons_zero,List.getElem_cons_succ,List.setIfInBounds_toArray,List.set_cons_zero,List.set_cons_succ]
   refine rdn 5 rfl (fun K hK=>?_)
   go_simp
   go_fit cC
   rintro e w4 ⟨v4,rfl,o4,g4⟩
   obtain ⟨a4,c4,e4,_⟩:=o4.rd
   subst e4
   refine hK.out _ _ (⟨gb_keeps g4 hHeld.1,gb_keeps g4 hHeld.2⟩) (fun hHeld=>?_)
   clear hK K
   try simp only [Act.put,List.getElem_toArray,List.getElem_cons_zero,List.getElem_cons_succ,List.setIfInBounds_toArray,List.set_cons_zero,List.set_cons_succ]
   refine tkn 6 ?_ rfl ?_ ?_;rotate_left;·(rintro w ⟨s0,s1⟩;go_simp;try rfl)
   try simp only [Act.put,List.getElem_toArray,List.getElem_cons_zero,List.getElem_cons_succ,List.setIfInBounds_toArray,List.set_cons_zero,List.set_cons_succ]
   have F4:=FIN.out w4 _ g4 o4
   obtain ⟨v5,w5,hrun,XN,S5⟩:=F4
   generalize V.length=nV at *
   clear o4 FIN
   refine rdn 7 rfl (fun K hK=>?_)
   go_simp
   refine hK.out _ _ (⟨gb_keeps (gb_alloc (Below.refl _ _) _) hHeld.1,gb_keeps (gb_alloc (Below.refl _ _) _) hHeld.2⟩) (fun hHeld=>?_)
   clear hK K
   try simp only [Act.put,List.getElem_toArray,List.getElem_cons_zero,List.getElem_cons_succ,List.setIfInBounds_toArray,List.set_cons_zero,List.set_cons_succ]
   refine rdn 8 rfl (fun K hK=>?_)
   refine app_run (by rfl) _ _ _ (by rfl) ⟨.slice pv q cv,.slice (some ⟨w4.heap.size,0,none⟩) 1 1,_,_,(by go_simp),(by go_simp),hrun,?_⟩
   refine hK.out _ _ ⟨S5 _ _ hHeld.1,S5 _ _ hHeld.2⟩ (fun hHeld=>?_)
   clear hK K
   try simp only [Act.put,List.getElem_toArray,List.getElem_cons_zero,List.getElem_cons_succ,List.setIfInBounds_toArray,List.set_cons_zero,List.set_cons_succ]
   refine tkn 9 ?_ rfl ?_ ?_;rotate_left;·(rintro w ⟨s0,s1⟩;go_simp;try rfl)
   try simp only [Act.put,List.getElem_toArray,List.getElem_cons_zero,List.getElem_cons_succ,List.setIfInBounds_toArray,List.set_cons_zero,List.set_cons_succ]
   refine wpAnyH_done (by kernel_rfl) ?_ _
   clear hrun hHeld S5
   go_wp2
   go_roundw
   case rel=>exact ⟨q + 1,by first | rfl | go_num,hqn,XN⟩
   case measure=>simp [intOf];omega
  ·have hqi:¬ (q:Int) < (n:Int):=by omega
   have e:q=n:=by omega
   subst e
   have XE:Hid (OwnC wr w.heap.size u3 rs/\Gb w wr):=by
    have:=X.out
    rwa [List.take_of_length_le (by have:=N.out;omega)] at this
   clear X
   go_wp2
   go_ret
   exact ⟨_,rfl,XE.out⟩
end Go.Proofs.YtepjbdklljlecaaGreat

namespace Go.Proofs.YtepjbdklljlecaaGreat
open Go.RowKit Go.Sort
theorem own_kpI {S:Nat->Prop} {w w':World} {B:Nat} {v:Value} {l:List Int} (h:Own w B v l) (k:Tk.Kp S w w') (hn:∀ g,v.ownBlock=some g->¬ S g):Own w' B v l:=by
 refine ⟨h.1,?_⟩
 rcases h.2 with h1 | ⟨g,cap,cur,e,hB,hh,r⟩
 ·exact .inl h1
 ·subst e
  exact .inr ⟨g,cap,cur,rfl,hB,by rw [k.block g (Array.getElem?_eq_some_iff.1 hh).1 (hn g rfl)];exact hh,r⟩
theorem ownR_kp {S:Nat->Prop} {w w':World} {B n:Nat} {v:Value} {xs:List Value} (h:w.ownsRow B 43 2 v n xs) (k:Tk.Kp S w w') (hn:∀ g,v.ownBlock=some g->¬ S g):w'.ownsRow B 43 2 v n xs:=by
 refine ⟨h.1,?_⟩
 rcases h.2 with h1 | ⟨g,cap,cur,e,hB,hh,r⟩
 ·exact .inl h1
 ·subst e
  exact .inr ⟨g,cap,cur,rfl,hB,by rw [k.block g (Array.getElem?_eq_some_iff.1 hh).1 (hn g rfl)];exact hh,r⟩
def NoInt (w:World) (S:Nat->Prop):Prop:=∀ k,S k->∀ cur s,w.heap[k]? ≠ some (.cells cur 3 s)
theorem own_noint {S:Nat->Prop} {w w':World} {B:Nat} {v:Value} {l:List Int} (h:Own w B v l) (k:Tk.Kp S w w') (hS:NoInt w S):Own w' B v l:=by
 refine own_kpI h k (fun g hg hs=>?_)
 rcases h.2 with ⟨rfl,_⟩ | ⟨g',cap,cur,e,hB,hh,_⟩
 ·cases hg
 ·subst e
  cases hg
  exact hS _ hs _ _ hh
abbrev IqT:Nat->Prop:=fun _=>True
def Up (Iq:Nat->Prop) (w:World):Prop:=∀ k,w.heap.size<=k->Iq k
theorem upT (w:World):Up IqT w:=fun _ _=>trivial
theorem Up.le {Iq:Nat->Prop} {w w':World} (h:Up Iq w) (s:w.heap.size<=w'.heap.size):Up Iq w':=fun k hk=>h k (Nat.le_trans s hk)
theorem Up.gb {Iq:Nat->Prop} {w w':World} (h:Up Iq w) (g:Gb w w'):Up Iq w':=h.le g.size
structure OwnQ (Iq:Nat->Prop) (w:World) (v:Value) (l:List Int):Prop where
 own:Own w 0 v l
 inn:∀ g,v.ownBlock=some g->Iq g
theorem OwnQ.rd {Iq:Nat->Prop} {w:World} {v:Value} {l:List Int} (h:OwnQ Iq w v l):RdI w v l:=h.own.rd
theorem OwnQ.gb {Iq:Nat->Prop} {w w':World} {v:Value} {l:List Int} (h:OwnQ Iq w v l) (g:Gb w w'):OwnQ Iq w' v l:=⟨h.own.gb g,h.inn⟩
theorem OwnQ.new {Iq:Nat->Prop} {w w':World} {B:Nat} {v:Value} {l:List Int} (h:Own w' B v l) (up:Up Iq w) (hB:w.heap.size<=B):OwnQ Iq w' v l:=⟨h.mono (Nat.zero_le _),fun g e=>up g (Nat.le_trans hB (World.ownsRow.lt h g e).1)⟩
def NoI (Iq:Nat->Prop) (w:World) (S:Nat->Prop):Prop:=∀ k,S k->Iq k->∀ cur s,w.heap[k]? ≠ some (.cells cur 3 s)
theorem NoI.of {Iq:Nat->Prop} {w:World} {S:Nat->Prop} (h:NoInt w S):NoI Iq w S:=fun k hk _=>h k hk
theorem NoI.off {Iq:Nat->Prop} {w:World} {S:Nat->Prop} (h:∀ k,S k->¬ Iq k):NoI Iq w S:=fun k hk hi=>absurd hi (h k hk)
theorem ownq_noi {Iq S:Nat->Prop} {w w':World} {v:Value} {l:List Int} (h:OwnQ Iq w v l) (k:Tk.Kp S w w') (hS:NoI Iq w S):OwnQ Iq w' v l:=by
 refine ⟨own_kpI h.own k (fun g hg hs=>?_),h.inn⟩
 rcases h.own.2 with ⟨rfl,_⟩ | ⟨g',cap,cur,e,hB,hh,_⟩
 ·cases hg
 ·have hi:=h.inn g hg
  subst e
  cases hg
  exact hS _ hs hi _ _ hh
theorem ownq_noint {Iq S:Nat->Prop} {w w':World} {v:Value} {l:List Int} (h:OwnQ Iq w v l) (k:Tk.Kp S w w') (hS:NoInt w S):OwnQ Iq w' v l:=ownq_noi h k (NoI.of hS)
structure OwnRs (Iq:Nat->Prop) (w:World) (v:Value) (d:List Rt):Prop where
 row:w.ownsRow 0 43 2 v d.length (d.flatMap encR)
 vec:∀ x ∈ d,OwnQ Iq w x.2.1 x.2.2
 up:Up Iq w
theorem OwnRs.kq {Iq S:Nat->Prop} {w w':World} {v:Value} {d:List Rt} (h:OwnRs Iq w v d) (k:Tk.Kp S w w') (hS:NoI Iq w S) (hn:∀ g,v.ownBlock=some g->¬ S g):OwnRs Iq w' v d :=
 ⟨ownR_kp h.row k hn,fun x hx=>ownq_noi (h.vec x hx) k hS,h.up.le k.size⟩
theorem OwnRs.kp {Iq:Nat->Prop} {S:Nat->Prop} {w w':World} {v:Value} {d:List Rt} (h:OwnRs Iq w v d) (k:Tk.Kp S w w') (hS:NoInt w S) (hn:∀ g,v.ownBlock=some g->¬ S g):OwnRs Iq w' v d :=
 h.kq k (NoI.of hS) hn
def kidV:Option Nat->Value
 | none=>.pointer none
 | some b=>.pointer (some ⟨b,0,none⟩)
structure PcAt (Iq:Nat->Prop) (w:World) (b:Nat) (p:Pt) (vl vh vr:Value):Prop where
 blk:w.heap[b]? = some (.cells #[.int .i64 3,vl,vh,.int .u64 (hi p.reg.R),.int .u64 (lo p.reg.R),.slice none 0 0,vr,.int .i64 p.cut.1,.int .u64 p.cut.2.1,.int .u64 p.cut.2.2,kidV (p.kids.map Prod.fst),kidV (p.kids.map Prod.snd)] 117 (0,0))
 low:OwnQ Iq w vl p.reg.L
 high:OwnQ Iq w vh []
 ball:p.reg=⟨3,p.reg.L,[],p.reg.R,[]⟩/\p.reg.R < 340282366920938463463374607431768211456
 up:Up Iq w
theorem PcAt.kq {Iq S:Nat->Prop} {w w':World} {b:Nat} {p:Pt} {vl vh vr:Value} (h:PcAt Iq w b p vl vh vr) (k:Tk.Kp S w w') (hS:NoI Iq w S) (hn:¬ S b):PcAt Iq w' b p vl vh vr :=
 ⟨by rw [k.block b (Array.getElem?_eq_some_iff.1 h.blk).1 hn];exact h.blk,ownq_noi h.low k hS,ownq_noi h.high k hS,h.ball,h.up.le k.size⟩
theorem PcAt.kp {Iq:Nat->Prop} {S:Nat->Prop} {w w':World} {b:Nat} {p:Pt} {vl vh vr:Value} (h:PcAt Iq w b p vl vh vr) (k:Tk.Kp S w w') (hS:NoInt w S) (hn:¬ S b):PcAt Iq w' b p vl vh vr :=
 h.kq k (NoI.of hS) hn
def TrO (Iq:Nat->Prop) (w:World) (T:Nat->Pt):Nat->Nat->List Nat->Prop
 | 0,_,_=>False
 | n + 1,b,F=>∃ vl vh vr,PcAt Iq w b (T b) vl vh vr/\match (T b).kids with
  | none=>∃ d g,OwnRs Iq w vr d/\d.map rwR=(T b).rs/\vr.ownBlock=some g/\F=[b,g]
  | some (l,h)=>vr=.slice none 0 0/\∃ F1 F2,TrO Iq w T n l F1/\TrO Iq w T n h F2/\F=b :: (F1 ++ F2)
theorem TrO.kq {Iq:Nat->Prop} {S:Nat->Prop} {w w':World} {T:Nat->Pt} (k:Tk.Kp S w w') (hS:NoI Iq w S):∀ n b F,TrO Iq w T n b F->(∀ x ∈ F,¬ S x)->TrO Iq w' T n b F
 | 0,_,_,h,_=>h
 | n + 1,b,F,h,hF=>by
  obtain ⟨vl,vh,vr,hp,h⟩:=h
  refine ⟨vl,vh,vr,?_⟩
  cases hk:(T b).kids with
  | none =>
   rw [hk] at h
   obtain ⟨d,g,h1,h2,h3,rfl⟩:=h
   exact ⟨hp.kq k hS (hF b (by simp)),d,g,h1.kq k hS (fun g' e=>by rw [h3] at e;cases e;exact hF g (by simp)),h2,h3,rfl⟩
  | some lh =>
   obtain ⟨l,hh⟩:=lh
   rw [hk] at h
   obtain ⟨h0,F1,F2,h1,h2,rfl⟩:=h
   exact ⟨hp.kq k hS (hF b (by simp)),h0,F1,F2,TrO.kq k hS n l F1 h1 (fun x hx=>hF x (by simp [hx])),TrO.kq k hS n hh F2 h2 (fun x hx=>hF x (by simp [hx])),rfl⟩
theorem TrO.kp {Iq:Nat->Prop} {S:Nat->Prop} {w w':World} {T:Nat->Pt} (k:Tk.Kp S w w') (hS:NoInt w S):∀ n b F,TrO Iq w T n b F->(∀ x ∈ F,¬ S x)->TrO Iq w' T n b F :=
 TrO.kq k (NoI.of hS)
theorem TrO.up {Iq:Nat->Prop} {w:World} {T:Nat->Pt}:∀ {n b:Nat} {F:List Nat},TrO Iq w T n b F->Up Iq w
 | 0,_,_,h=>h.elim
 | _ + 1,_,_,h=>by
  obtain ⟨_,_,_,hp,_⟩:=h
  exact hp.up
theorem TrO.mem {Iq:Nat->Prop} {w:World} {T:Nat->Pt}:∀ {n b:Nat} {F:List Nat},TrO Iq w T n b F->b ∈ F/\∀ x ∈ F,x < w.heap.size
 | 0,_,_,h=>h.elim
 | n + 1,b,F,h=>by
  obtain ⟨vl,vh,vr,hp,h⟩:=h
  have hb:=(Array.getElem?_eq_some_iff.1 hp.blk).1
  cases hk:(T b).kids with
  | none =>
   rw [hk] at h
   obtain ⟨d,g,h1,h2,h3,rfl⟩:=h
   have:=(h1.row.lt g h3).2
   exact ⟨by simp,fun x hx=>by simp at hx;rcases hx with rfl | rfl <;> omega⟩
  | some lh =>
   obtain ⟨l,hh⟩:=lh
   rw [hk] at h
   obtain ⟨_,F1,F2,h1,h2,rfl⟩:=h
   have a1:=TrO.mem h1
   have a2:=TrO.mem h2
   refine ⟨by simp,fun x hx=>?_⟩
   simp at hx
   rcases hx with rfl | hx | hx
   ·exact hb
   ·exact a1.2 x hx
   ·exact a2.2 x hx
theorem TrO.congr {Iq:Nat->Prop} {w:World} {T T':Nat->Pt}:∀ n b F,TrO Iq w T n b F->(∀ x ∈ F,T' x=T x)->TrO Iq w T' n b F/\∀ m,n<=m + 1->∀ d,rowsP T' m (T' b)=rowsP T m (T b)/\(OkP T' d m (T' b) ↔ OkP T d m (T b))
 | 0,_,_,h,_=>h.elim
 | n + 1,b,F,h,hF=>by
  obtain ⟨vl,vh,vr,hp,h⟩:=h
  have eb:T' b=T b:=hF b (by
   cases hk:(T b).kids with
   | none=>rw [hk] at h;obtain ⟨d,g,_,_,_,rfl⟩:=h;simp
   | some lh=>obtain ⟨l,hh⟩:=lh;rw [hk] at h;obtain ⟨_,F1,F2,_,_,rfl⟩:=h;simp)
  cases hk:(T b).kids with
  | none =>
   rw [hk] at h
   refine ⟨⟨vl,vh,vr,by rw [eb];exact hp,by rw [eb,hk];exact h⟩,fun m _ d=>?_⟩
   rw [eb]
   exact ⟨by rw [rowsP_leaf hk,rowsP_leaf hk],by rw [okP_leaf hk,okP_leaf hk]⟩
  | some lh =>
   obtain ⟨l,hh⟩:=lh
   rw [hk] at h
   obtain ⟨h0,F1,F2,h1,h2,rfl⟩:=h
   obtain ⟨a1,a2⟩:=TrO.congr n l F1 h1 (fun x hx=>hF x (by simp [hx]))
   obtain ⟨b1,b2⟩:=TrO.congr n hh F2 h2 (fun x hx=>hF x (by simp [hx]))
   refine ⟨⟨vl,vh,vr,by rw [eb];exact hp,by rw [eb,hk];exact ⟨h0,F1,F2,a1,b1,rfl⟩⟩,fun m hm d=>?_⟩
   rw [eb]
   cases m with
   | zero =>
    have:n=0:=by omega
    subst this
    exact h1.elim
   | succ m =>
    obtain ⟨c1,c2⟩:=a2 m (by omega) d
    obtain ⟨d1,d2⟩:=b2 m (by omega) d
    refine ⟨by rw [rowsP_node hk,rowsP_node hk,c1,d1],?_⟩
    rw [OkP,OkP,hk]
    dsimp only
    rw [c1,d1,c2,d2]
theorem BoxOk.sub {m:Nat} {p:Pt} {rs rs':List Rw} (h:BoxOk m p rs) (hs:∀ r ∈ rs',r ∈ rs):BoxOk m p rs':=⟨h.1,fun r hr=>h.2 r (hs r hr)⟩
end Go.Proofs.YtepjbdklljlecaaGreat
