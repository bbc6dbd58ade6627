
namespace Go.Proofs.YtcipdampcmfmaabGreat
section
variable {α:Type} [Inhabited α]
def sws (l:List α) (i j:Nat):List α:=(l.set i l[j]!).set j l[i]!
theorem get_set (l:List α) (i k:Nat) (x:α) (h:i < l.length):(l.set i x)[k]! = if k=i then x else l[k]! := by
 by_cases hk:k=i
 ·subst hk
  simp [h]
 ·have:i ≠ k:=fun e=>hk e.symm
  simp [getElem!_def,this,hk]
theorem sws_get (l:List α) (i j k:Nat) (hi:i < l.length) (hj:j < l.length):(sws l i j)[k]! = if k=j then l[i]! else if k=i then l[j]! else l[k]! := by
 unfold sws
 rw [get_set _ _ _ _ (by simpa using hj),get_set _ _ _ _ hi]
theorem sws_perm (l:List α) (i j:Nat) (hi:i < l.length) (hj:j < l.length):(sws l i j).Perm l:=by
 unfold sws
 have e1:l[j]! = l[j]:=by simp [hj]
 have e2:l[i]! = l[i]:=by simp [hi]
 rw [e1,e2]
 exact List.set_set_perm hi hj
structure Seg (l l':List α) (a b:Nat):Prop where
 perm:l'.Perm l
 out:∀ i,i < a ∨ b<=i->l'[i]! = l[i]!
theorem Seg.len {l l':List α} {a b:Nat} (h:Seg l l' a b):l'.length=l.length:=h.perm.length_eq
theorem Seg.refl (l:List α) (a b:Nat):Seg l l a b:=⟨List.Perm.refl _,fun _ _=>rfl⟩
theorem Seg.trans {l l' l2:List α} {a b:Nat} (h:Seg l l' a b) (k:Seg l' l2 a b):Seg l l2 a b:=⟨k.perm.trans h.perm,fun i hi=>(k.out i hi).trans (h.out i hi)⟩
theorem Seg.mono {l l':List α} {a b c d:Nat} (h:Seg l l' a b) (h1:c<=a) (h2:b<=d):Seg l l' c d:=⟨h.perm,fun i hi=>h.out i (by omega)⟩
theorem Seg.sws {l l':List α} {a b i j:Nat} (h:Seg l l' a b) (hi:a<=i/\i < b) (hj:a<=j/\j < b) (hb:b<=l.length):Seg l (sws l' i j) a b:=by
 have hl:=h.len
 refine ⟨(sws_perm l' i j (by omega) (by omega)).trans h.perm,fun k hk=>?_⟩
 rw [sws_get _ _ _ _ (by omega) (by omega),if_neg (by omega),if_neg (by omega)]
 exact h.out k hk
theorem Seg.mem {l l':List α} {a b:Nat} (h:Seg l l' a b) (ha:a<=b) (hb:b<=l.length) {i:Nat} (hi:a<=i/\i < b):∃ j,(a<=j/\j < b)/\l'[i]! = l[j]! := by
 have hl:=h.len
 have e0:l'.take a=l.take a:=by
  apply List.ext_getElem?
  intro k
  by_cases hk:k < a
  ·rw [List.getElem?_take_of_lt hk,List.getElem?_take_of_lt hk]
   have:=h.out k (Or.inl hk)
   rw [getElem!_def,getElem!_def] at this
   rw [List.getElem?_eq_getElem (by omega),List.getElem?_eq_getElem (by omega)] at this ⊢
   simpa using this
  ·rw [List.getElem?_eq_none (by simp;omega),List.getElem?_eq_none (by simp;omega)]
 have e1:l'.drop b=l.drop b:=by
  apply List.ext_getElem?
  intro k
  rw [List.getElem?_drop,List.getElem?_drop]
  by_cases hk:b + k < l.length
  ·have:=h.out (b + k) (Or.inr (by omega))
   rw [getElem!_def,getElem!_def] at this
   rw [List.getElem?_eq_getElem (by omega),List.getElem?_eq_getElem (by omega)] at this ⊢
   simpa using this
  ·rw [List.getElem?_eq_none (by omega),List.getElem?_eq_none (by omega)]
 have s1:l=l.take a ++ ((l.drop a).take (b - a) ++ l.drop b):=by
  have h1:(l.drop a).take (b - a) ++ (l.drop a).drop (b - a)=l.drop a:=List.take_append_drop _ _
  rw [List.drop_drop,show a + (b - a)=b by omega] at h1
  rw [h1,List.take_append_drop]
 have s2:l'=l'.take a ++ ((l'.drop a).take (b - a) ++ l'.drop b):=by
  have h1:(l'.drop a).take (b - a) ++ (l'.drop a).drop (b - a)=l'.drop a:=List.take_append_drop _ _
  rw [List.drop_drop,show a + (b - a)=b by omega] at h1
  rw [h1,List.take_append_drop]
 have hp:((l'.drop a).take (b - a)).Perm ((l.drop a).take (b - a)):=by
  have:=h.perm
  rw [s1,s2,e0,e1] at this
  exact (List.perm_append_right_iff _).1 ((List.perm_append_left_iff _).1 this)
 have hm:l'[i]! ∈ (l'.drop a).take (b - a):=by
  rw [List.mem_iff_getElem?]
  refine ⟨i - a,?_⟩
  rw [List.getElem?_take_of_lt (by omega),List.getElem?_drop,show a + (i - a)=i by omega,getElem!_def,List.getElem?_eq_getElem (by omega)]
 have hm2:=hp.mem_iff.1 hm
 rw [List.mem_iff_getElem?] at hm2
 obtain ⟨j,hj⟩:=hm2
 have hjb:j < b - a:=by
  by_cases hjb:j < b - a
  ·exact hjb
  ·rw [List.getElem?_eq_none (by simp;omega)] at hj;cases hj
 rw [List.getElem?_take_of_lt hjb,List.getElem?_drop] at hj
 refine ⟨a + j,by omega,?_⟩
 rw [getElem!_def l,hj]
structure SwR (l l':List α) (a b n:Nat):Prop where
 perm:l'.Perm l
 fst:∀ i,i < n->l'[a + i]! = l[b + i]!
 snd:∀ i,i < n->l'[b + i]! = l[a + i]!
 out:∀ k,(k < a ∨ a + n<=k)->(k < b ∨ b + n<=k)->l'[k]! = l[k]!
theorem SwR.zero (l:List α) (a b:Nat):SwR l l a b 0:=⟨List.Perm.refl _,fun i hi=>by omega,fun i hi=>by omega,fun _ _ _=>rfl⟩
theorem SwR.step {l l':List α} {a b n:Nat} (h:SwR l l' a b n) (hab:a + (n + 1)<=b) (hb:b + (n + 1)<=l.length):SwR l (sws l' (a + n) (b + n)) a b (n + 1):=by
 have hl:=h.perm.length_eq
 have g:=fun k=>sws_get l' (a + n) (b + n) k (by omega) (by omega)
 refine ⟨(sws_perm _ _ _ (by omega) (by omega)).trans h.perm,fun i hi=>?_,fun i hi=>?_,fun k h1 h2=>?_⟩
 ·rw [g]
  by_cases hin:i=n
  ·subst hin
   rw [if_neg (by omega),if_pos rfl]
   exact h.out (b + i) (by omega) (by omega)
  ·rw [if_neg (by omega),if_neg (by omega)]
   exact h.fst i (by omega)
 ·rw [g]
  by_cases hin:i=n
  ·subst hin
   rw [if_pos rfl]
   exact h.out (a + i) (by omega) (by omega)
  ·rw [if_neg (by omega),if_neg (by omega)]
   exact h.snd i (by omega)
 ·rw [g,if_neg (by omega),if_neg (by omega)]
  exact h.out k (by omega) (by omega)
structure Rot (l l':List α) (a m b:Nat):Prop where
 perm:l'.Perm l
 fst:∀ i,i < b - m->l'[a + i]! = l[m + i]!
 snd:∀ i,i < m - a->l'[a + (b - m) + i]! = l[a + i]!
 out:∀ k,k < a ∨ b<=k->l'[k]! = l[k]!
theorem Rot.eq {l l':List α} {m i:Nat} (h:SwR l l' (m - i) m i) (hi:i<=m):Rot l l' (m - i) m (m + i):=by
 refine ⟨h.perm,fun k hk=>h.fst k (by omega),fun k hk=>?_,fun k hk=>h.out k (by omega) (by omega)⟩
 have e:m - i + (m + i - m) + k=m + k:=by omega
 rw [e]
 exact h.snd k (by omega)
theorem Rot.left {l l1 l2:List α} {m i j:Nat} (hij:j < i) (him:i<=m) (h:SwR l l1 (m - i) m j) (k:Rot l1 l2 (m - (i - j)) m (m + j)):Rot l l2 (m - i) m (m + j):=by
 refine ⟨k.perm.trans h.perm,fun x hx=>?_,fun x hx=>?_,fun x hx=>?_⟩
 ·rw [k.out _ (by omega)]
  exact h.fst x (by omega)
 ·by_cases hxj:x < j
  ·have:=k.fst x (by omega)
   have e:m - (i - j) + x=m - i + (m + j - m) + x:=by omega
   rw [e] at this
   rw [this]
   exact h.snd x hxj
  ·have:=k.snd (x - j) (by omega)
   have e:m - (i - j) + (m + j - m) + (x - j)=m - i + (m + j - m) + x:=by omega
   rw [e] at this
   rw [this,h.out _ (by omega) (by omega)]
   congr 1
   omega
 ·rw [k.out x (by omega),h.out x (by omega) (by omega)]
theorem Rot.right {l l1 l2:List α} {m i j:Nat} (hij:i < j) (him:i<=m) (h:SwR l l1 (m - i) (m + j - i) i) (k:Rot l1 l2 (m - i) m (m + (j - i))):Rot l l2 (m - i) m (m + j):=by
 refine ⟨k.perm.trans h.perm,fun x hx=>?_,fun x hx=>?_,fun x hx=>?_⟩
 ·by_cases hxj:x < j - i
  ·rw [k.fst x (by omega),h.out _ (by omega) (by omega)]
  ·have:=k.snd (x - (j - i)) (by omega)
   have e:m - i + (m + (j - i) - m) + (x - (j - i))=m - i + x:=by omega
   rw [e] at this
   rw [this]
   have h2:=h.fst (x - (j - i)) (by omega)
   rw [h2]
   congr 1
   omega
 ·rw [k.out _ (by omega)]
  have:=h.snd x (by omega)
  have e:m + j - i + x=m - i + (m + j - m) + x:=by omega
  rw [e] at this
  exact this
 ·rw [k.out x (by omega),h.out x (by omega) (by omega)]
variable (c lt:α->α->Prop)
def Ri (l:List α) (a b:Nat):Prop:=∀ i j,a<=i->i < j->j < b->lt l[i]! l[j]!
def Crs (l:List α) (a m b:Nat):Prop:=∀ i j,a<=i->i < m->m<=j->j < b->(c l[j]! l[i]! ↔ lt l[j]! l[i]!)/\(lt l[i]! l[j]! ∨ lt l[j]! l[i]!)
theorem ri_trans (ht:∀ x y z,lt x y->lt y z->lt x z) {l:List α} {a b:Nat} (h:Ri lt l a b) {i j:Nat} {x:α} (hi:a<=i) (hij:i<=j) (hj:j < b) (hx:lt l[j]! x):lt l[i]! x:=by
 rcases Nat.lt_or_eq_of_le hij with h1 | rfl
 ·exact ht _ _ _ (h i j hi h1 hj) hx
 ·exact hx
theorem ri_join {l:List α} {a m b:Nat} (h1:Ri lt l a m) (h2:Ri lt l m b) (hx:∀ i j,a<=i->i < m->m<=j->j < b->lt l[i]! l[j]!):Ri lt l a b:=by
 intro i j hi hij hj
 by_cases hjm:j < m
 ·exact h1 i j hi hij hjm
 ·by_cases him:i < m
  ·exact hx i j hi him (by omega) hj
  ·exact h2 i j (by omega) hij hj
structure PreM (l:List α) (a m b:Nat):Prop where
 left:Ri lt l a m
 right:Ri lt l m b
 crs:Crs c lt l a m b
theorem PreM.same {l l':List α} {a m b:Nat} (h:PreM c lt l a m b) (he:∀ i,a<=i->i < b->l'[i]! = l[i]!) (hm:a<=m/\m<=b):PreM c lt l' a m b:=by
 refine ⟨fun i j h1 h2 h3=>?_,fun i j h1 h2 h3=>?_,fun i j h1 h2 h3 h4=>?_⟩
 ·rw [he i h1 (by omega),he j (by omega) (by omega)];exact h.left i j h1 h2 h3
 ·rw [he i (by omega) (by omega),he j (by omega) h3];exact h.right i j h1 h2 h3
 ·rw [he i h1 (by omega),he j (by omega) h4];exact h.crs i j h1 h2 h3 h4
theorem merge_one {l l':List α} {a b i:Nat} (ht:∀ x y z,lt x y->lt y z->lt x z) (h:PreM c lt l a (a + 1) b) (hi:a + 1<=i/\i<=b) (h1:i=a + 1 ∨ c l[i - 1]! l[a]!) (h2:i=b ∨ ¬ c l[i]! l[a]!) (hr:Rot l l' a (a + 1) i):Ri lt l' a b:=by
 have f:∀ k,a<=k->k < i - 1->l'[k]! = l[k + 1]! := fun k hk1 hk2=>by
  have:=hr.fst (k - a) (by omega)
  rw [show a + (k - a)=k by omega,show a + 1 + (k - a)=k + 1 by omega] at this
  exact this
 have g:l'[i - 1]! = l[a]! := by
  have:=hr.snd 0 (by omega)
  rw [show a + (i - (a + 1)) + 0=i - 1 by omega] at this
  exact this
 have o:∀ k,i<=k->l'[k]! = l[k]! := fun k hk=>hr.out k (Or.inr hk)
 have below:∀ k,a + 1<=k->k < i->lt l[k]! l[a]! := fun k hk1 hk2=>by
  rcases h1 with rfl | h1
  ·omega
  ·have q:=(h.crs a (i - 1) (Nat.le_refl _) (by omega) (by omega) (by omega)).1.1 h1
   exact ri_trans lt ht h.right hk1 (by omega) (by omega) q
 have above:∀ k,i<=k->k < b->lt l[a]! l[k]! := fun k hk1 hk2=>by
  have q:=h.crs a i (Nat.le_refl _) (by omega) (by omega) (by omega)
  have n:¬ lt l[i]! l[a]! := fun e=>by
   rcases h2 with rfl | h2
   ·omega
   ·exact h2 (q.1.2 e)
  have q2:lt l[a]! l[i]! := q.2.resolve_right n
  rcases Nat.lt_or_eq_of_le hk1 with h' | rfl
  ·exact ht _ _ _ q2 (h.right i k (by omega) h' hk2)
  ·exact q2
 intro x y hx hxy hy
 by_cases hy1:y < i - 1
 ·rw [f x hx (by omega),f y (by omega) hy1]
  exact h.right _ _ (by omega) (by omega) (by omega)
 ·by_cases hy2:y=i - 1
  ·subst hy2
   rw [f x hx (by omega),g]
   exact below _ (by omega) (by omega)
  ·rw [o y (by omega)]
   by_cases hx1:x < i - 1
   ·rw [f x hx hx1]
    exact h.right _ _ (by omega) (by omega) hy
   ·by_cases hx2:x=i - 1
    ·subst hx2
     rw [g]
     exact above y (by omega) hy
    ·rw [o x (by omega)]
     exact h.right _ _ (by omega) hxy hy
theorem merge_last {l l':List α} {a m i:Nat} (ht:∀ x y z,lt x y->lt y z->lt x z) (h:PreM c lt l a m (m + 1)) (hi:a<=i/\i<=m) (h1:i=a ∨ ¬ c l[m]! l[i - 1]!) (h2:i=m ∨ c l[m]! l[i]!) (hr:Rot l l' i m (m + 1)):Ri lt l' a (m + 1):=by
 have f:∀ k,k < i->l'[k]! = l[k]! := fun k hk=>hr.out k (Or.inl hk)
 have g:l'[i]! = l[m]! := by
  have:=hr.fst 0 (by omega)
  simpa using this
 have o:∀ k,i < k->k<=m->l'[k]! = l[k - 1]! := fun k hk1 hk2=>by
  have:=hr.snd (k - i - 1) (by omega)
  rw [show i + (m + 1 - m) + (k - i - 1)=k by omega,show i + (k - i - 1)=k - 1 by omega] at this
  exact this
 have above:∀ k,i<=k->k < m->lt l[m]! l[k]! := fun k hk1 hk2=>by
  rcases h2 with rfl | h2
  ·omega
  ·have q:=(h.crs i m (by omega) (by omega) (Nat.le_refl _) (by omega)).1.1 h2
   rcases Nat.lt_or_eq_of_le hk1 with h' | rfl
   ·exact ht _ _ _ q (h.left i k (by omega) h' hk2)
   ·exact q
 have below:∀ k,a<=k->k < i->lt l[k]! l[m]! := fun k hk1 hk2=>by
  have q:=h.crs (i - 1) m (by omega) (by omega) (Nat.le_refl _) (by omega)
  have n:¬ lt l[m]! l[i - 1]! := fun e=>by
   rcases h1 with rfl | h1
   ·omega
   ·exact h1 (q.1.2 e)
  exact ri_trans lt ht h.left hk1 (show k<=i - 1 by omega) (by omega) (q.2.resolve_right n)
 intro x y hx hxy hy
 by_cases hy1:y < i
 ·rw [f x (by omega),f y hy1]
  exact h.left _ _ hx hxy (by omega)
 ·by_cases hy2:y=i
  ·subst hy2
   rw [f x hxy,g]
   exact below x hx hxy
  ·rw [o y (by omega) (by omega)]
   by_cases hx1:x < i
   ·rw [f x hx1]
    exact h.left _ _ hx (by omega) (by omega)
   ·by_cases hx2:x=i
    ·subst hx2
     rw [g]
     exact above _ (by omega) (by omega)
    ·rw [o x (by omega) (by omega)]
     exact h.left _ _ (by omega) (by omega) (by omega)
theorem merge_cut {l l1:List α} {a m b md st en:Nat} (ht:∀ x y z,lt x y->lt y z->lt x z) (h:PreM c lt l a m b) (_hm:a < m/\m < b) (hmd:md=(a + b) / 2) (hen:en + st=md + m)
  (hlo:(if md < m then md + m - b else a)<=st) (hhi:st<=(if md < m then md else m))
  (h1:st=(if md < m then md + m - b else a) ∨ ¬ c l[en]! l[st - 1]!) (h2:st=(if md < m then md else m) ∨ c l[en - 1]! l[st]!) (hr:Rot l l1 st m en) :
  (a<=st/\st<=md/\st<=m/\m<=en/\md<=en/\en<=b)/\PreM c lt l1 a st md/\PreM c lt l1 md en b/\∀ i j,a<=i->i < md->md<=j->j < b->lt l1[i]! l1[j]! := by
 have B:a<=st/\st<=md/\st<=m/\m<=en/\md<=en/\en<=b:=by
  by_cases hc:md < m
  ·rw [if_pos hc] at hlo hhi;omega
  ·rw [if_neg hc] at hlo hhi;omega
 obtain ⟨b1,b2,b3,b4,b5,b6⟩:=B
 have e1:∀ i,i < st->l1[i]! = l[i]! := fun i hi=>hr.out i (Or.inl hi)
 have e2:∀ i,st<=i->i < md->l1[i]! = l[m + (i - st)]! := fun i hi1 hi2=>by
  have:=hr.fst (i - st) (by omega)
  rw [show st + (i - st)=i by omega] at this
  exact this
 have e3:∀ i,md<=i->i < en->l1[i]! = l[st + (i - md)]! := fun i hi1 hi2=>by
  have:=hr.snd (i - md) (by omega)
  rw [show st + (en - m) + (i - md)=i by omega] at this
  exact this
 have e4:∀ i,en<=i->l1[i]! = l[i]! := fun i hi=>hr.out i (Or.inr hi)
 have A:∀ i j,a<=i->i < st->en<=j->j < b->lt l[i]! l[j]! := fun i j hi1 hi2 hj1 hj2=>by
  have q:=h.crs (st - 1) en (by omega) (by omega) (by omega) (by omega)
  have n:¬ lt l[en]! l[st - 1]! := fun e=>by
   rcases h1 with h1 | h1
   ·by_cases hc:md < m
    ·rw [if_pos hc] at h1;omega
    ·rw [if_neg hc] at h1;omega
   ·exact h1 (q.1.2 e)
  have q2:lt l[i]! l[en]! := ri_trans lt ht h.left hi1 (show i<=st - 1 by omega) (by omega) (q.2.resolve_right n)
  rcases Nat.lt_or_eq_of_le hj1 with h' | rfl
  ·exact ht _ _ _ q2 (h.right en j (by omega) h' hj2)
  ·exact q2
 have Bx:∀ i j,m<=j->j < en->st<=i->i < m->lt l[j]! l[i]! := fun i j hj1 hj2 hi1 hi2=>by
  have q:lt l[en - 1]! l[st]! := by
   rcases h2 with h2 | h2
   ·exfalso
    by_cases hc:md < m
    ·rw [if_pos hc] at h2;omega
    ·rw [if_neg hc] at h2;omega
   ·exact (h.crs st (en - 1) (by omega) (by omega) (by omega) (by omega)).1.1 h2
  have q2:lt l[j]! l[st]! := ri_trans lt ht h.right hj1 (show j<=en - 1 by omega) (by omega) q
  rcases Nat.lt_or_eq_of_le hi1 with h' | rfl
  ·exact ht _ _ _ q2 (h.left st i (by omega) h' hi2)
  ·exact q2
 refine ⟨⟨b1,b2,b3,b4,b5,b6⟩,⟨?_,?_,?_⟩,⟨?_,?_,?_⟩,?_⟩
 ·intro i j hi hij hj
  rw [e1 i (by omega),e1 j hj];exact h.left i j hi hij (by omega)
 ·intro i j hi hij hj
  rw [e2 i hi (by omega),e2 j (by omega) hj];exact h.right _ _ (by omega) (by omega) (by omega)
 ·intro i j hi him hj hjb
  rw [e1 i him,e2 j hj hjb];exact h.crs i _ hi (by omega) (by omega) (by omega)
 ·intro i j hi hij hj
  rw [e3 i hi (by omega),e3 j (by omega) hj];exact h.left _ _ (by omega) (by omega) (by omega)
 ·intro i j hi hij hj
  rw [e4 i hi,e4 j (by omega)];exact h.right i j (by omega) hij hj
 ·intro i j hi him hj hjb
  rw [e3 i hi him,e4 j hj];exact h.crs _ j (by omega) (by omega) (by omega) hjb
 ·intro i j hi him hj hjb
  by_cases hi1:i < st
  ·rw [e1 i hi1]
   by_cases hj1:j < en
   ·rw [e3 j hj hj1];exact h.left _ _ hi (by omega) (by omega)
   ·rw [e4 j (by omega)];exact A i j hi hi1 (by omega) hjb
  ·rw [e2 i (by omega) him]
   by_cases hj1:j < en
   ·rw [e3 j hj hj1];exact Bx _ _ (by omega) (by omega) (by omega) (by omega)
   ·rw [e4 j (by omega)];exact h.right _ _ (by omega) (by omega) hjb
theorem merge_fin {l1 l2 l3:List α} {a md b:Nat} (hab:a<=md/\md<=b) (hb:b<=l1.length) (h1:Seg l1 l2 a md) (r1:Ri lt l2 a md) (h2:Seg l2 l3 md b) (r2:Ri lt l3 md b) (hx:∀ i j,a<=i->i < md->md<=j->j < b->lt l1[i]! l1[j]!):Ri lt l3 a b:=by
 have hl:=h1.len
 refine ri_join lt (fun i j h1' h2' h3'=>?_) r2 (fun i j hi1 hi2 hj1 hj2=>?_)
 ·rw [h2.out i (by omega),h2.out j (by omega)];exact r1 i j h1' h2' h3'
 ·rw [h2.out i (by omega)]
  obtain ⟨x,hx1,hx2⟩:=h1.mem hab.1 (by omega) (i:=i) ⟨hi1,hi2⟩
  obtain ⟨y,hy1,hy2⟩:=h2.mem hab.2 (by omega) (i:=j) ⟨hj1,hj2⟩
  rw [hx2,hy2,h1.out y (by omega)]
  exact hx x y hx1.1 hx1.2 hy1.1 hy1.2
theorem Rot.seg {l l':List α} {a m b:Nat} (h:Rot l l' a m b):Seg l l' a b:=⟨h.perm,h.out⟩
theorem Rot.none (l:List α) {a m b:Nat} (h:a=m ∨ m=b) (hab:a<=m/\m<=b):Rot l l a m b:=by
 refine ⟨List.Perm.refl _,fun i hi=>?_,fun i hi=>?_,fun _ _=>rfl⟩
 ·rcases h with rfl | rfl
  ·rfl
  ·omega
 ·rcases h with rfl | rfl
  ·omega
  ·simp
end
end Go.Proofs.YtcipdampcmfmaabGreat
