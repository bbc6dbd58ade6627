import Derived.Test.YtepjbdklljlecaaGreatVbBall
import Derived.Test.YtepjbdklljlecaaGreatVb17
import Derived.Test.YtepjbdklljlecaaGreatVb16
import Derived.Test.YtepjbdklljlecaaGreatVbInB
import Derived.Test.YtepjbdklljlecaaGreatVb7
import Derived.Maps.AppendAt
/- What VecHolds asks of boxes and balls. -/
namespace Go.Proofs.YtepjbdklljlecaaGreat
open Go.RowKit Go.Sort

theorem mnN_le (f : Nat → Int) (x : Int) : ∀ k j, j < k → mnN f x k ≤ f j
  | k + 1, j, h => by
    simp only [mnN]
    by_cases e : j = k
    · subst e; omega
    · have := mnN_le f x k j (by omega); omega
theorem rad_mono {c : List Int} {rs : List Rw} : ∀ k j, j < k → dst c rs[j]!.2 ≤ radN c rs k
  | k + 1, j, h => by
    simp only [radN]
    by_cases e : j = k
    · subst e; split <;> omega
    · have := rad_mono (c := c) (rs := rs) k j (by omega)
      split <;> omega
end Go.Proofs.YtepjbdklljlecaaGreat

/- Trees of parts whose rows lie in regions, plainly: parts by the blocks that they lie in; a search of one. (KdM with any region in the box's place.) -/
namespace Go.Proofs.YtepjbdklljlecaaGreat
open Go.RowKit Go.Sort

/-- A part: its region, its rows (if it is not cut), the border, and where the two lesser parts lie (if it is). -/
structure Pt where
  reg : Reg
  rs : List Rw
  cut : Tk.Ht
  kids : Option (Nat × Nat)
abbrev pr (p : Pt) : Reg := p.reg
/-- The rows of a part, whose lesser parts are at most n deep. -/
def rowsP (T : Nat → Pt) : Nat → Pt → List Rw
  | 0, p => p.rs
  | n + 1, p => match p.kids with
    | none => p.rs
    | some (l, h) => rowsP T n (T l) ++ rowsP T n (T h)
def BoxOk (d : Nat) (p : Pt) (rs : List Rw) : Prop := ckR (pr p) (d : Int) = 0 ∧ ∀ r ∈ rs, chk r.2 (d : Int) = 0 ∧ inV (pr p) r.2 = true
/-- Is a row's hit for the region's centre less than the border? -/
def isAb (p : Pt) (r : Rw) : Bool := Tk.hlt (hitOf p.reg.L r) p.cut
def OkP (T : Nat → Pt) (d : Nat) : Nat → Pt → Prop
  | 0, p => p.kids = none ∧ p.rs ≠ [] ∧ BoxOk d p p.rs
  | n + 1, p => match p.kids with
    | none => p.rs ≠ [] ∧ BoxOk d p p.rs
    | some (l, h) => OkP T d n (T l) ∧ OkP T d n (T h) ∧ BoxOk d p (rowsP T n (T l) ++ rowsP T n (T h)) ∧
        (∀ r ∈ rowsP T n (T l), isAb p r = true) ∧ ∀ r ∈ rowsP T n (T h), isAb p r = false
/-- How many steps a part may cost. -/
def wtP (T : Nat → Pt) : Nat → Pt → Nat
  | 0, p => 2 * p.rs.length + 1
  | n + 1, p => match p.kids with
    | none => 2 * p.rs.length + 1
    | some (l, h) => 1 + wtP T n (T l) + wtP T n (T h)

theorem rowsP_leaf {T : Nat → Pt} {p : Pt} (h : p.kids = none) : ∀ n, rowsP T n p = p.rs
  | 0 => rfl
  | n + 1 => by rw [rowsP, h]
theorem wtP_leaf {T : Nat → Pt} {p : Pt} (h : p.kids = none) : ∀ n, wtP T n p = 2 * p.rs.length + 1
  | 0 => rfl
  | n + 1 => by rw [wtP, h]
theorem okP_leaf {T : Nat → Pt} {d : Nat} {p : Pt} (h : p.kids = none) : ∀ n, OkP T d n p ↔ p.rs ≠ [] ∧ BoxOk d p p.rs
  | 0 => by rw [OkP]; exact ⟨fun e => e.2, fun e => ⟨h, e⟩⟩
  | n + 1 => by rw [OkP, h]
theorem okP_node {T : Nat → Pt} {d n l h : Nat} {p : Pt} (hk : p.kids = some (l, h)) (ok : OkP T d n p) : ∃ m, n = m + 1 ∧ OkP T d m (T l) ∧ OkP T d m (T h) ∧ BoxOk d p (rowsP T m (T l) ++ rowsP T m (T h)) ∧
    (∀ r ∈ rowsP T m (T l), isAb p r = true) ∧ ∀ r ∈ rowsP T m (T h), isAb p r = false := by
  cases n with
  | zero => rw [OkP] at ok; rw [ok.1] at hk; cases hk
  | succ m => rw [OkP, hk] at ok; exact ⟨m, rfl, ok⟩
theorem rowsP_node {T : Nat → Pt} {n l h : Nat} {p : Pt} (hk : p.kids = some (l, h)) : rowsP T (n + 1) p = rowsP T n (T l) ++ rowsP T n (T h) := by rw [rowsP, hk]
theorem wtP_node {T : Nat → Pt} {n l h : Nat} {p : Pt} (hk : p.kids = some (l, h)) : wtP T (n + 1) p = 1 + wtP T n (T l) + wtP T n (T h) := by rw [wtP, hk]
theorem okP_mono {T : Nat → Pt} {d : Nat} : ∀ n p, OkP T d n p → OkP T d (n + 1) p ∧ rowsP T (n + 1) p = rowsP T n p ∧ wtP T (n + 1) p = wtP T n p
  | 0, p, ok => by
    have hk : p.kids = none := by rw [OkP] at ok; exact ok.1
    exact ⟨(okP_leaf hk _).2 ((okP_leaf hk _).1 ok), by rw [rowsP_leaf hk, rowsP_leaf hk], by rw [wtP_leaf hk, wtP_leaf hk]⟩
  | n + 1, p, ok => by
    cases hk : p.kids with
    | none => exact ⟨(okP_leaf hk _).2 ((okP_leaf hk _).1 ok), by rw [rowsP_leaf hk, rowsP_leaf hk], by rw [wtP_leaf hk, wtP_leaf hk]⟩
    | some lh =>
      obtain ⟨l, h⟩ := lh
      obtain ⟨m, e, o1, o2, o3⟩ := okP_node hk ok
      have e' : n = m := by omega
      subst e'
      obtain ⟨a1, a2, a3⟩ := okP_mono n _ o1
      obtain ⟨b1, b2, b3⟩ := okP_mono n _ o2
      refine ⟨?_, by rw [rowsP_node hk, rowsP_node hk, a2, b2], by rw [wtP_node hk, wtP_node hk, a3, b3]⟩
      rw [OkP, hk]
      dsimp only
      rw [a2, b2]
      exact ⟨a1, b1, o3⟩
theorem okP_box {T : Nat → Pt} {d n : Nat} {p : Pt} (ok : OkP T d n p) : BoxOk d p (rowsP T n p) := by
  cases hk : p.kids with
  | none => rw [rowsP_leaf hk]; exact ((okP_leaf hk n).1 ok).2
  | some lh =>
    obtain ⟨l, h⟩ := lh
    obtain ⟨m, rfl, _, _, o3, _⟩ := okP_node hk ok
    rw [rowsP_node hk]; exact o3
theorem okP_ne {T : Nat → Pt} {d : Nat} : ∀ n p, OkP T d n p → rowsP T n p ≠ []
  | 0, p, ok => by rw [OkP] at ok; rw [rowsP]; exact ok.2.1
  | n + 1, p, ok => by
    cases hk : p.kids with
    | none => rw [rowsP_leaf hk]; exact ((okP_leaf hk _).1 ok).1
    | some lh =>
      obtain ⟨l, h⟩ := lh
      obtain ⟨m, e, o1, _⟩ := okP_node hk ok
      have e' : n = m := by omega
      subst e'
      rw [rowsP_node hk]
      intro e
      exact okP_ne n _ o1 (List.append_eq_nil_iff.1 e).1

/-- A part's bound; parts by falling bounds. -/
def bnd (q : List Int) (p : Pt) : Nat := bdV p.reg q
def insP (q : List Int) (p : Pt) : List Pt → List Pt
  | [] => [p]
  | u :: r => if bnd q p ≤ bnd q u then u :: insP q p r else p :: u :: r
theorem insP_perm (q : List Int) (p : Pt) : ∀ l, (insP q p l).Perm (p :: l)
  | [] => List.Perm.refl _
  | u :: r => by
    rw [insP]
    split
    · exact ((insP_perm q p r).cons u).trans (List.Perm.swap p u r)
    · exact List.Perm.refl _
def Dsc (q : List Int) (l : List Pt) : Prop := l.Pairwise fun u v => bnd q v ≤ bnd q u
theorem insP_dsc (q : List Int) (p : Pt) : ∀ l, Dsc q l → Dsc q (insP q p l)
  | [], _ => List.pairwise_singleton _ _
  | u :: r, h => by
    rw [insP]
    have h1 := List.pairwise_cons.1 h
    split
    · rename_i hle
      refine List.pairwise_cons.2 ⟨fun x hx => ?_, insP_dsc q p r h1.2⟩
      rcases List.mem_cons.1 ((insP_perm q p r).subset hx) with e | e
      · rw [e]; exact hle
      · exact h1.1 x e
    · rename_i hle
      refine List.pairwise_cons.2 ⟨fun x hx => ?_, h⟩
      rcases List.mem_cons.1 hx with e | e
      · rw [e]; omega
      · have := h1.1 x e; omega
/-- Where a part goes: behind all whose bound is not below its own. -/
theorem insP_at (q : List Int) (p : Pt) : ∀ l, Dsc q l → insP q p l = l.take (l.countP fun u => decide (bnd q p ≤ bnd q u)) ++ p :: l.drop (l.countP fun u => decide (bnd q p ≤ bnd q u))
  | [], _ => rfl
  | u :: r, h => by
    have h1 := List.pairwise_cons.1 h
    rw [insP]
    split
    · rename_i hle
      rw [List.countP_cons_of_pos (by simpa using hle), List.take_succ_cons, List.drop_succ_cons, List.cons_append, ← insP_at q p r h1.2]
    · rename_i hle
      have h0 : (u :: r).countP (fun u => decide (bnd q p ≤ bnd q u)) = 0 := by
        rw [List.countP_eq_zero]
        intro x hx
        rcases List.mem_cons.1 hx with e | e
        · rw [e]; simpa using hle
        · have := h1.1 x e; simp; omega
      rw [h0]; rfl

/-- The number that a hit's distance is. -/
def dN (x : Tk.Ht) : Nat := (x.2.1 * 18446744073709551616 + x.2.2).toNat
theorem dN_hit (q : List Int) (r : Rw) : dN (hitOf q r) = dst q r.2 := by
  unfold dN hitOf hi lo
  dsimp only
  omega
/-- A search under way: the rows that were seen, how many may still be, the parts that are open. -/
structure Sr where
  seen : List Rw
  bud : Nat
  opn : List Pt
def beyond (q : List Int) (k : Nat) (seen : List Rw) (p : Pt) : Bool := decide ((Tk.firsts k (hitsOf q seen)).length = k) && decide (dN (Tk.firsts k (hitsOf q seen))[k - 1]! < bnd q p)
def look (T : Nat → Pt) (q : List Int) (s : Sr) (p : Pt) (o : List Pt) : Sr := match p.kids with
  | some (l, h) => ⟨s.seen, s.bud, insP q (T h) (insP q (T l) o)⟩
  | none => ⟨s.seen ++ p.rs.take (min s.bud p.rs.length), s.bud - min s.bud p.rs.length, if min s.bud p.rs.length < p.rs.length then insP q ⟨p.reg, p.rs.drop (min s.bud p.rs.length), (0, 0, 0), none⟩ o else o⟩
def stepS (T : Nat → Pt) (q : List Int) (k : Nat) (s : Sr) : Option Sr := match s.opn.getLast? with
  | none => none
  | some p => if beyond q k s.seen p = true then none else if p.kids = none ∧ s.bud = 0 then none else some (look T q s p s.opn.dropLast)
def runS (T : Nat → Pt) (q : List Int) (k : Nat) : Nat → Sr → Sr
  | 0, s => s
  | n + 1, s => match stepS T q k s with
    | none => s
    | some s' => runS T q k n s'
theorem runS_stop {T : Nat → Pt} {q : List Int} {k : Nat} {s : Sr} (h : stepS T q k s = none) : ∀ n, runS T q k n s = s
  | 0 => rfl
  | n + 1 => by rw [runS, h]
/-- What holds all through a search of the rows rs. -/
structure InvS (T : Nat → Pt) (d N : Nat) (q : List Int) (b0 : Nat) (rs : List Rw) (s : Sr) : Prop where
  rows : (s.seen ++ s.opn.flatMap (rowsP T N)).Perm rs
  ok : ∀ p ∈ s.opn, OkP T d N p
  dsc : Dsc q s.opn
  bud : s.seen.length + s.bud = b0
def wtS (T : Nat → Pt) (N : Nat) (s : Sr) : Nat := (s.opn.map (wtP T N)).sum
theorem wtP_pos (T : Nat → Pt) : ∀ n p, 0 < wtP T n p
  | 0, p => by rw [wtP]; omega
  | n + 1, p => by
    rw [wtP]; split <;> omega
theorem last_split {l : List Pt} {p : Pt} (h : l.getLast? = some p) : l = l.dropLast ++ [p] := by
  have hne : l ≠ [] := by intro e; rw [e] at h; cases h
  rw [List.getLast?_eq_some_getLast hne] at h
  injection h with h
  rw [← h, List.dropLast_concat_getLast]
theorem flat_perm {f : Pt → List Rw} {l m : List Pt} (p : l.Perm m) : (l.flatMap f).Perm (m.flatMap f) := List.Perm.flatMap_right f p
theorem sum_permN {l m : List Nat} (p : l.Perm m) : l.sum = m.sum := p.sum_nat
theorem look_inv {T : Nat → Pt} {d N : Nat} {q : List Int} {b0 : Nat} {rs : List Rw} {s : Sr} {p : Pt} {o : List Pt} (hs : s.opn = o ++ [p]) (h : InvS T d N q b0 rs s) (hb : ¬ (p.kids = none ∧ s.bud = 0)) :
    InvS T d N q b0 rs (look T q s p o) ∧ wtS T N (look T q s p o) < wtS T N s := by
  have ok := h.ok
  have rows := h.rows
  have dsc := h.dsc
  have hw : wtS T N s = (o.map (wtP T N)).sum + wtP T N p := by unfold wtS; rw [hs]; simp
  rw [hs] at ok rows dsc
  have okp := ok p (by simp)
  have oko : ∀ u ∈ o, OkP T d N u := fun u hu => ok u (List.mem_append_left _ hu)
  have dsco : Dsc q o := dsc.sublist (List.sublist_append_left _ _)
  rw [List.flatMap_append] at rows
  simp only [List.flatMap_cons, List.flatMap_nil, List.append_nil] at rows
  cases hk : p.kids with
  | some lh =>
    obtain ⟨l, hh⟩ := lh
    have e : look T q s p o = ⟨s.seen, s.bud, insP q (T hh) (insP q (T l) o)⟩ := by unfold look; rw [hk]
    obtain ⟨m, rfl, o1, o2, _⟩ := okP_node hk okp
    obtain ⟨a1, a2, a3⟩ := okP_mono m _ o1
    obtain ⟨b1, b2, b3⟩ := okP_mono m _ o2
    have pp : (insP q (T hh) (insP q (T l) o)).Perm (T hh :: T l :: o) := (insP_perm q _ _).trans ((insP_perm q _ _).cons _)
    rw [e]
    refine ⟨⟨?_, fun u hu => ?_, insP_dsc q _ _ (insP_dsc q _ _ dsco), h.bud⟩, ?_⟩
    · dsimp only
      refine List.Perm.trans (List.Perm.append_left _ (flat_perm pp)) (List.Perm.trans ?_ rows)
      simp only [List.flatMap_cons]
      rw [a2, b2, rowsP_node hk]
      refine List.Perm.append_left _ ?_
      refine List.Perm.trans ?_ List.perm_append_comm
      rw [← List.append_assoc]
      exact List.Perm.append_right _ List.perm_append_comm
    · rcases List.mem_cons.1 (pp.subset hu) with e | hu
      · rw [e]; exact b1
      · rcases List.mem_cons.1 hu with e | hu
        · rw [e]; exact a1
        · exact oko u hu
    · rw [hw]
      unfold wtS
      dsimp only
      rw [sum_permN (pp.map (wtP T (m + 1)))]
      simp only [List.map_cons, List.sum_cons]
      rw [a3, b3, wtP_node hk]
      omega
  | none =>
    have hbud : s.bud ≠ 0 := fun e => hb ⟨hk, e⟩
    obtain ⟨hne, hbox⟩ := (okP_leaf hk N).1 okp
    have hlen : 0 < p.rs.length := List.length_pos_iff.2 hne
    rw [rowsP_leaf hk] at rows
    rw [wtP_leaf hk] at hw
    have e : look T q s p o = ⟨s.seen ++ p.rs.take (min s.bud p.rs.length), s.bud - min s.bud p.rs.length, if min s.bud p.rs.length < p.rs.length then insP q ⟨p.reg, p.rs.drop (min s.bud p.rs.length), (0, 0, 0), none⟩ o else o⟩ := by unfold look; rw [hk]
    rw [e]
    obtain ⟨c, hc⟩ : ∃ c, c = min s.bud p.rs.length := ⟨_, rfl⟩
    rw [← hc]
    have hb2 := h.bud
    have htl : (p.rs.take c).length = c := by rw [List.length_take]; omega
    by_cases hlt : c < p.rs.length
    · rw [if_pos hlt]
      have pp := insP_perm q ⟨p.reg, p.rs.drop c, (0, 0, 0), none⟩ o
      refine ⟨⟨?_, fun u hu => ?_, insP_dsc q _ _ dsco, ?_⟩, ?_⟩
      · dsimp only
        refine List.Perm.trans (List.Perm.append_left _ (flat_perm pp)) (List.Perm.trans ?_ rows)
        simp only [List.flatMap_cons]
        rw [rowsP_leaf rfl]
        dsimp only
        rw [List.append_assoc]
        refine List.Perm.append_left _ ?_
        rw [← List.append_assoc, List.take_append_drop]
        exact List.perm_append_comm
      · rcases List.mem_cons.1 (pp.subset hu) with e | hu
        · rw [e]
          refine (okP_leaf rfl N).2 ⟨fun e => ?_, hbox.1, fun r hr => hbox.2 r (List.mem_of_mem_drop hr)⟩
          have := congrArg List.length e
          dsimp only at this
          rw [List.length_drop] at this
          simp at this
          omega
        · exact oko u hu
      · dsimp only
        rw [List.length_append, htl]
        omega
      · rw [hw]
        unfold wtS
        dsimp only
        rw [sum_permN (pp.map (wtP T N))]
        simp only [List.map_cons, List.sum_cons]
        rw [wtP_leaf rfl]
        dsimp only
        rw [List.length_drop]
        omega
    · rw [if_neg hlt]
      have hcl : c = p.rs.length := by omega
      refine ⟨⟨?_, oko, dsco, ?_⟩, ?_⟩
      · dsimp only
        refine List.Perm.trans ?_ rows
        rw [hcl, List.take_length, List.append_assoc]
        exact List.Perm.append_left _ List.perm_append_comm
      · dsimp only
        rw [List.length_append, htl]
        omega
      · rw [hw]; unfold wtS; dsimp only; omega
theorem step_inv {T : Nat → Pt} {d N : Nat} {q : List Int} {k b0 : Nat} {rs : List Rw} {s s' : Sr} (h : InvS T d N q b0 rs s) (e : stepS T q k s = some s') : InvS T d N q b0 rs s' ∧ wtS T N s' < wtS T N s := by
  unfold stepS at e
  cases hl : s.opn.getLast? with
  | none => rw [hl] at e; cases e
  | some p =>
    rw [hl] at e
    dsimp only at e
    split at e
    · cases e
    · split at e
      · cases e
      · rename_i hb
        injection e with e
        rw [← e]
        exact look_inv (last_split hl) h hb
theorem run_inv {T : Nat → Pt} {d N : Nat} {q : List Int} {k b0 : Nat} {rs : List Rw} : ∀ n s, InvS T d N q b0 rs s → wtS T N s ≤ n → InvS T d N q b0 rs (runS T q k n s) ∧ stepS T q k (runS T q k n s) = none
  | 0, s, h, hw => by
    refine ⟨h, ?_⟩
    show stepS T q k s = none
    cases e : stepS T q k s with
    | none => rfl
    | some s' => have := (step_inv h e).2; omega
  | n + 1, s, h, hw => by
    rw [runS]
    cases e : stepS T q k s with
    | none => exact ⟨h, e⟩
    | some s' =>
      obtain ⟨h1, h2⟩ := step_inv h e
      exact run_inv n s' h1 (by omega)
/-- Why a search stops. -/
theorem step_none {T : Nat → Pt} {d N : Nat} {q : List Int} {k b0 : Nat} {rs : List Rw} {s : Sr} (h : InvS T d N q b0 rs s) (e : stepS T q k s = none) :
    s.opn = [] ∨ ((Tk.firsts k (hitsOf q s.seen)).length = k ∧ ∀ p ∈ s.opn, dN (Tk.firsts k (hitsOf q s.seen))[k - 1]! < bnd q p) ∨ s.bud = 0 := by
  unfold stepS at e
  cases hl : s.opn.getLast? with
  | none => exact .inl (List.getLast?_eq_none_iff.1 hl)
  | some p =>
    rw [hl] at e
    dsimp only at e
    split at e
    · rename_i hb
      unfold beyond at hb
      simp only [Bool.and_eq_true, decide_eq_true_eq] at hb
      refine .inr (.inl ⟨hb.1, fun u hu => ?_⟩)
      have hs := last_split hl
      have dsc := h.dsc
      rw [hs] at hu dsc
      rcases List.mem_append.1 hu with hu | hu
      · have := (List.pairwise_append.1 dsc).2.2 u hu p (by simp)
        omega
      · rw [List.mem_singleton.1 hu]; exact hb.2
    · split at e
      · rename_i hb; exact .inr (.inr hb.2)
      · cases e
end Go.Proofs.YtepjbdklljlecaaGreat

/- Which row comes first along an axis; does a row belong below a border. -/
namespace Go.Proofs.YtepjbdklljlecaaGreat
open Go.RowKit Go.Sort

theorem compare_g (a b : Int) (w : World) : Calls Tryz.prog 58 #[.int .i64 a, .int .i64 b] w fun e w' => e = .returned (.int .i64 (Tk.ci a b)) ∧ Tk.Gw w w' :=
  (Tk.compare_c a b w).mono fun _ _ ⟨h, e⟩ => ⟨h, by rw [e]; exact Tk.Gw.refl _⟩
/-- Along an axis, then by ids. -/
def alg (x : Int) (a : Int) (y : Int) (b : Int) : Int := Tk.cor (Tk.ci a b) (Tk.ci x y)
theorem alg_neg (x a y b : Int) : decide (alg x a y b < 0) = (decide (a < b) || (decide (a = b) && decide (x < y))) := by
  unfold alg Tk.cor Tk.ci
  by_cases h1 : a < b
  · simp [h1]
  · by_cases h2 : b < a
    · simp [h1, h2]; intro e; omega
    · have e : a = b := by omega
      subst e
      by_cases h3 : x < y
      · simp [h3]
      · by_cases h4 : y < x <;> simp [h3, h4]
end Go.Proofs.YtepjbdklljlecaaGreat

/- vptree.copies: rows in memory of their own. -/
namespace Go.Proofs.YtepjbdklljlecaaGreat
open Go.RowKit Go.Sort Go.Maps

/-- An append in a region that draws, by its run. -/
theorem app_run {o : Oper} {a : Act} {w : World} {K : Act → World → Prop} {Q : Exit → Act → World → Prop} (_hgd : o.guard = none) (s x : Operand) (t : TypeId)
    (ho : o.op = .call { callee := .builtin .append, args := #[s, x], argTypes := #[t, t] }) (h : ∃ v1 v2 v' w', a.eval s = v1 ∧ a.eval x = v2 ∧ (Builtin.append_ #[t, t] o.type #[v1, v2]).run Tryz.prog w = .ok v' w' ∧ K (a.put o.dst v') w') :
    Oper.wp Tryz.prog o a w K Q := by
  obtain ⟨v1, v2, v', w', hs, hx, hr, h⟩ := h
  unfold Oper.wp execOp
  simp only [ho, resolve, invoke, builtin, Sem.run_bind, Sem.run_pure, Result.andThen_ok, List.map_toArray, List.map_cons, List.map_nil, hs, hx, hr]
  exact h

/-- Rows that the call owns, in blocks from B on, their vectors too. -/
def OwnC (W : World) (B : Nat) (v : Value) (rs : List Rw) : Prop := v ≠ .slice none 0 0 ∧ ∃ xs, W.ownsRow B 43 2 v rs.length xs ∧ ∀ i, i < rs.length → xs[i * 2]? = some (.int .i64 rs[i]!.1) ∧ ∃ u, xs[i * 2 + 1]? = some u ∧ Own W B u rs[i]!.2
theorem OwnC.gb {W W' : World} {B : Nat} {v : Value} {rs : List Rw} (h : OwnC W B v rs) (g : Gb W W') : OwnC W' B v rs := by
  obtain ⟨hn, xs, h1, h2⟩ := h
  refine ⟨hn, xs, h1.kept (row := none) ⟨g.os, g.tape, g.output, g.size, fun k hk _ => g.block k hk⟩ (by cases hv : v.ownBlock <;> simp), fun i hi => ?_⟩
  obtain ⟨a, u, b, c⟩ := h2 i hi
  exact ⟨a, u, b, c.gb g⟩
theorem OwnC.form {W : World} {B : Nat} {v : Value} {rs : List Rw} (h : OwnC W B v rs) : ∃ g cap, v = .slice (some ⟨g, 0, none⟩) rs.length cap := by
  obtain ⟨hn, xs, h, _⟩ := h
  rcases h.2 with ⟨e, h0⟩ | ⟨b, cap, cur, rfl, _⟩
  · exact absurd e hn
  · exact ⟨_, cap, rfl⟩
theorem OwnC.ownW {W : World} {B : Nat} {v : Value} {rs : List Rw} (h : OwnC W B v rs) : OwnW W W B v rs := by
  obtain ⟨_, xs, h1, h2⟩ := h
  refine ⟨xs, h1, fun i hi => ?_⟩
  obtain ⟨a, u, b, c⟩ := h2 i hi
  exact ⟨a, u, b, c.rd⟩
theorem OwnC.rdw {W : World} {B : Nat} {v : Value} {rs : List Rw} (h : OwnC W B v rs) : RdW W v rs := h.ownW.rdw (Below.refl _ _)
theorem own_neR {W : World} {B B' n : Nat} {u v : Value} {x : List Int} {xs : List Value} (h : Own W B u x) (r : W.ownsRow B' 43 2 v n xs) : u.ownBlock = none ∨ u.ownBlock ≠ v.ownBlock := by
  rcases h.2 with ⟨rfl, _⟩ | ⟨g, cap, cur, rfl, _, hh, _⟩
  · exact .inl rfl
  · refine .inr fun e => ?_
    rcases r.2 with ⟨rfl, _⟩ | ⟨g', cap', cur', rfl, _, hh', _⟩
    · cases e
    · cases e
      rw [hh] at hh'
      simp at hh'
theorem grown_cellC {W W' : World} {row : Option Nat} (h : W.grownBy W' row) {p : Addr} {v : Value} (hc : W.cell? p = some v) (hne : row ≠ some p.block) : W'.cell? p = some v := by
  rw [World.cell?_of_block (h.block p.block (World.block_lt_of_cell? W p hc) (fun e => hne e.symm))]; exact hc
/-- One more row. -/
theorem OwnC.next {w W : World} {pv : Option Addr} {nv cv : Nat} {rs : List Rw} {x : Int} {l : List Int} {u : Value} (h : OwnC W w.heap.size (.slice pv nv cv) rs) (hn : rs.length ≤ 4000) (g : Gb w W) (ho : Own W w.heap.size u l) :
    ∃ v' W', (Builtin.append_ #[22, 22] 22 #[.slice pv nv cv, .slice (some ⟨W.heap.size, 0, none⟩) 1 1]).run Tryz.prog (W.alloc (.cells #[.int .i64 x, u] 43)) = .ok v' W' ∧ OwnC W' w.heap.size v' (rs ++ [(x, l)]) ∧ Gb w W' ∧ ∀ (p : Addr) (y : Value), (Value.slice pv nv cv).ownBlock ≠ some p.block → (W.alloc (.cells #[.int .i64 x, u] 43)).cell? p = some y → W'.cell? p = some y := by
  obtain ⟨_, xs, h1, h2⟩ := h
  obtain ⟨i0, hi, hz0, hz1, hz2⟩ := info_partsW
  have hu : u.oneCell' = true := by obtain ⟨a, c, rfl, _⟩ := ho.rd; rfl
  obtain ⟨v', W', hr, hown, hgrow, hnn, _⟩ := run_append_own_at (P := Tryz.prog) (W.alloc (.cells #[.int .i64 x, u] 43)) w.heap.size 22 22 43 i0 (.agg #[.int .i64 0, .slice none 0 0]) 2 32 Tryz.underlying22 hi hz0 hz1 hz2 rfl (by decide)
    (.slice pv nv cv) rs.length xs (World.ownsRow.alloc h1 _) ⟨W.heap.size, 0, none⟩ 1 1 [.int .i64 x, u] rfl (two_cells _ _ _ _) (by simp [Value.oneCell']; try exact hu) (by simp only [maxLen]; omega) (by omega) (by rw [World.size_alloc]; have := g.size; omega)
  refine ⟨v', W', hr, ⟨fun e => absurd (hnn.1 e).2 (by decide), xs ++ [.int .i64 x, u], by rw [List.length_append]; exact hown, fun i hi => ?_⟩, ?_, fun p y hp hc => grown_cellC hgrow hc hp⟩
  · have kp : ∀ {u' : Value} {y : List Int}, Own W w.heap.size u' y → Own W' w.heap.size u' y := fun {u' y} ho' => (ho'.gb (gb_alloc (Below.refl _ _) _)).kept hgrow (own_neR ho' h1)
    rw [List.length_append] at hi
    by_cases e : i < rs.length
    · rw [getElem!_pos (rs ++ [(x, l)]) i (by rw [List.length_append]; exact hi), List.getElem_append_left e, ← getElem!_pos rs i e, List.getElem?_append_left (by have := h1.1; omega), List.getElem?_append_left (by have := h1.1; omega)]
      obtain ⟨a, u', b, c⟩ := h2 i e
      exact ⟨a, u', b, kp c⟩
    · have e' : i = rs.length := by simp at hi; omega
      subst e'
      have e2 : (rs ++ [(x, l)])[rs.length]! = (x, l) := by rw [getElem!_pos _ _ (by simp)]; simp
      have hl := h1.1
      rw [e2, List.getElem?_append_right (by omega), List.getElem?_append_right (by omega), hl]
      exact ⟨by simp, u, by rw [show rs.length * 2 + 1 - rs.length * 2 = 1 by omega]; rfl, kp ho⟩
  · refine below_grown (gb_alloc g _) hgrow (fun k e => ?_) (gb_alloc g _).size
    have := (h1.lt k e).1
    omega

set_option maxHeartbeats 1000000 in
set_option maxRecDepth 100000 in
theorem copies_c {w : World} {v : Value} {rs : List Rw} (h : RdW w v rs) (hn : rs.length ≤ 4000) (hv : ∀ i, i < rs.length → 1 ≤ rs[i]!.2.length ∧ rs[i]!.2.length ≤ 100000) :
    Calls Tryz.prog 46 #[v] w fun e w' => ∃ v', e = .returned v' ∧ OwnC w' w.heap.size v' rs ∧ Gb w w' := by
  have A : Hid (RdW w v rs) := h
  have VL : Hid (∀ i, i < rs.length → 1 ≤ rs[i]!.2.length ∧ rs[i]!.2.length ≤ 100000) := hv
  obtain ⟨a, cap, rfl, _⟩ := h
  obtain ⟨n, hN⟩ : ∃ n, n = rs.length := ⟨_, rfl⟩
  have N : Hid (n = rs.length) := hN
  rw [← hN] at A hn ⊢
  clear hN hv
  obtain ⟨i0, hi, hz0, hz1, hz2⟩ := info_partsW
  obtain ⟨w1, hmk, ho, hg⟩ := run_make_own (P := Tryz.prog) w w.heap.size 22 43 i0 (.agg #[.int .i64 0, .slice none 0 0]) 2 Tryz.underlying22 hi hz0 hz1 .i64 .i64 n (by rw [hz2]; omega) (by simp only [maxLen]; omega) (Nat.le_refl _)
  have O : Hid (OwnC w1 w.heap.size (.slice (some ⟨w.heap.size, 0, none⟩) 0 n) (rs.take 0) ∧ Gb w w1) := ⟨⟨by simp, [], ho, fun i hi => absurd hi (by simp)⟩, below_grown (Below.refl _ _) hg (fun k e => by cases e) (Nat.le_refl _)⟩
  clear hi hz0 hz1 hz2 ho hg
  go_enter Tryz.func46, Tryz.ntmps46
  go_wp2
  clear hmk
  go_loopw [3, 11] (fun ov iv W => ∃ q : Nat, iv = .int .i64 (q : Int) ∧ q ≤ n ∧ Hid (OwnC W w.heap.size ov (rs.take q) ∧ Gb w W)) (fun _ iv _ => n - (intOf iv).toNat)
  case atStart => exact ⟨0, rfl, Nat.zero_le _, O.out⟩
  case round =>
    clear O
    obtain ⟨q, rfl, hq, X⟩ := hrel
    by_cases hqn : q < n
    · have hqi : (q : Int) < (n : Int) := by omega
      have hql : q < rs.length := by have := N.out; omega
      obtain ⟨_, _, e1, hA⟩ := A.out
      obtain ⟨b, o, u, ea, k1, k2, k3⟩ := hA q hql
      injection e1 with e2 e3 e4
      subst e2
      subst ea
      have NX : Hid (rs.take (q + 1) = rs.take q ++ [(rs[q]!.1, rs[q]!.2)]) := by unfold Hid; rw [List.take_succ_eq_append_getElem hql, getElem!_pos rs q hql]
      have NL : Hid ((rs.take q).length = q) := by unfold Hid; rw [List.length_take]; omega
      have VB := VL.out q hql
      generalize rs[q]!.1 = x at *
      generalize rs[q]!.2 = V at *
      have x0 := gb_keeps X.out.2 k1
      have x1 := gb_keeps X.out.2 k2
      have G1 : Hid (Gb w (wr.alloc (.cells #[.int .i64 x, u] 43)).drew) := (gb_alloc X.out.2 _).drew
      have cC := clone_c (k3.gb G1.out) VB.2 VB.1
      obtain ⟨pu, cu, eu, _⟩ := k3
      subst eu
      obtain ⟨gv, cv, ev⟩ := X.out.1.form
      obtain ⟨pv, hpv⟩ : ∃ pv, pv = some (⟨gv, 0, none⟩ : Addr) := ⟨_, rfl⟩
      rw [← hpv] at ev
      subst ev
      rw [NL.out]
      have XO : Hid (OwnC wr w.heap.size (.slice pv q cv) (rs.take q)) := by unfold Hid; have := X.out.1; rwa [NL.out] at this
      obtain ⟨nu, hnu⟩ : ∃ nu, nu = V.length := ⟨_, rfl⟩
      rw [← hnu] at x1 G1 cC
      have FS0 : (wr.alloc (.cells #[.int .i64 x, .slice pu nu cu] 43)).drew.cell? ⟨wr.heap.size, 0, none⟩ = some (.int .i64 x) ∧ (wr.alloc (.cells #[.int .i64 x, .slice pu nu cu] 43)).drew.cell? ⟨wr.heap.size, 1, none⟩ = some (.slice pu nu cu) := ⟨by simp [go_sem], by simp [go_sem]⟩
      have FIN : Hid (∀ w4 u4, Gb (wr.alloc (.cells #[.int .i64 x, .slice pu nu cu] 43)).drew w4 → Own w4 (wr.alloc (.cells #[.int .i64 x, .slice pu nu cu] 43)).drew.heap.size u4 V →
          ∃ v' W', (Builtin.append_ #[22, 22] 22 #[.slice pv q cv, .slice (some ⟨w4.heap.size, 0, none⟩) 1 1]).run Tryz.prog (w4.alloc (.cells #[.int .i64 x, u4] 43)) = .ok v' W' ∧ (OwnC W' w.heap.size v' (rs.take (q + 1)) ∧ Gb w W') ∧ ∀ i y, (w4.alloc (.cells #[.int .i64 x, u4] 43)).cell? ⟨wr.heap.size, i, none⟩ = some y → W'.cell? ⟨wr.heap.size, i, none⟩ = some y) := by
        intro w4 u4 g4 o4
        rw [NX.out]
        obtain ⟨v', W', h1, h2, h3, h4⟩ := OwnC.next (x := x) (u := u4) (l := V) (XO.out.gb (gb_trans (Below.drew (gb_alloc (Below.refl _ _) _)) g4)) (by rw [NL.out]; omega) (gb_trans G1.out g4) (o4.mono G1.out.size)
        refine ⟨v', W', h1, ⟨h2, h3⟩, fun i y hy => h4 _ _ (fun e => ?_) hy⟩
        obtain ⟨_, xs, hx, _⟩ := XO.out
        have := (hx.lt _ e).2
        dsimp only at this
        omega
      have KX : Hid (1 ≤ V.length ∧ V.length ≤ 100000) := VB
      clear hA e3 e4 k1 k2 hql X XO VB hnu
      go_wp2_with fail
      refine wp_region_held_drew (S := fun W => W.cell? ⟨wr.heap.size, 0, none⟩ = some (.int .i64 x) ∧ W.cell? ⟨wr.heap.size, 1, none⟩ = some (.slice pu nu cu)) (by kernel_rfl) (FS0) (fun hHeld => ?_)
      refine wpAnyH_take (i := 0) (v := ?_) rfl (by kernel_rfl) (by kernel_rfl) (by kernel_rfl) (fun _ _ _ h => h) (Or.inl ⟨by rfl, ?_⟩) (by assumption) ?_
      rotate_left 1
      · (intro w hSw; (obtain ⟨s0, s1⟩ := hSw); go_simp; try with_reducible rfl)
      try simp only [Act.put, List.getElem_toArray, List.getElem_cons_zero, List.setIfInBounds_toArray, List.set_cons_zero, List.set_cons_succ]
      refine wpAnyH_take (i := 1) (v := ?_) rfl (by kernel_rfl) (by kernel_rfl) (by kernel_rfl) (fun _ _ _ h => h) (Or.inl ⟨by rfl, ?_⟩) (by assumption) ?_
      rotate_left 1
      · (intro w hSw; (obtain ⟨s0, s1⟩ := hSw); go_simp; try with_reducible rfl)
      try simp only [Act.put, List.getElem_toArray, List.getElem_cons_zero, List.getElem_cons_succ, List.setIfInBounds_toArray, List.set_cons_zero, List.set_cons_succ]
      refine wpAnyH_take (i := 2) (v := ?_) rfl (by kernel_rfl) (by kernel_rfl) (by kernel_rfl) (fun _ _ _ h => h) (Or.inl ⟨by rfl, ?_⟩) (by assumption) ?_
      rotate_left 1
      · (intro w hSw; (obtain ⟨s0, s1⟩ := hSw); go_simp; try with_reducible rfl)
      try simp only [Act.put, List.getElem_toArray, List.getElem_cons_zero, List.getElem_cons_succ, List.setIfInBounds_toArray, List.set_cons_zero, List.set_cons_succ]
      refine wpAnyH_take (i := 3) (v := ?_) rfl (by kernel_rfl) (by kernel_rfl) (by kernel_rfl) (fun _ _ _ h => h) (Or.inl ⟨by rfl, ?_⟩) (by assumption) ?_
      rotate_left 1
      · (intro w hSw; (obtain ⟨s0, s1⟩ := hSw); go_simp; try with_reducible rfl)
      try simp only [Act.put, List.getElem_toArray, List.getElem_cons_zero, List.getElem_cons_succ, List.setIfInBounds_toArray, List.set_cons_zero, List.set_cons_succ]
      refine wpAnyH_take (i := 4) (v := ?_) rfl (by kernel_rfl) (by kernel_rfl) (by kernel_rfl) (fun _ _ _ h => h) (Or.inl ⟨by rfl, ?_⟩) (by assumption) ?_
      rotate_left 1
      · (intro w hSw; (obtain ⟨s0, s1⟩ := hSw); go_simp; try with_reducible rfl)
      try simp only [Act.put, List.getElem_toArray, List.getElem_cons_zero, List.getElem_cons_succ, List.setIfInBounds_toArray, List.set_cons_zero, List.set_cons_succ]
      refine wpAnyH_ready (rs := [5]) (by kernel_rfl) (by simp) ?_
      refine AllReadyH.cons rfl (fun K hK => ?_) AllReadyH.nil
      go_simp
      go_fit cC
      rintro e w4 ⟨v4, rfl, o4, g4⟩
      obtain ⟨a4, c4, e4, _⟩ := o4.rd
      subst e4
      refine hK.out _ _ (⟨gb_keeps g4 hHeld.1, gb_keeps g4 hHeld.2⟩) (fun hHeld => ?_)
      clear hK K
      try simp only [Act.put, List.getElem_toArray, List.getElem_cons_zero, List.getElem_cons_succ, List.setIfInBounds_toArray, List.set_cons_zero, List.set_cons_succ]
      refine wpAnyH_take (i := 6) (v := ?_) rfl (by kernel_rfl) (by kernel_rfl) (by kernel_rfl) (fun _ _ _ h => h) (Or.inl ⟨by rfl, ?_⟩) (by assumption) ?_
      rotate_left 1
      · (intro w hSw; (obtain ⟨s0, s1⟩ := hSw); go_simp; try with_reducible rfl)
      try simp only [Act.put, List.getElem_toArray, List.getElem_cons_zero, List.getElem_cons_succ, List.setIfInBounds_toArray, List.set_cons_zero, List.set_cons_succ]
      have F4 := FIN.out w4 _ g4 o4
      obtain ⟨v5, w5, hrun, XN, S5⟩ := F4
      generalize V.length = nV at *
      clear o4 FIN
      refine wpAnyH_ready (rs := [7]) (by kernel_rfl) (by simp) ?_
      refine AllReadyH.cons rfl (fun K hK => ?_) AllReadyH.nil
      go_simp
      refine hK.out _ _ (⟨gb_keeps (gb_alloc (Below.refl _ _) _) hHeld.1, gb_keeps (gb_alloc (Below.refl _ _) _) hHeld.2⟩) (fun hHeld => ?_)
      clear hK K
      try simp only [Act.put, List.getElem_toArray, List.getElem_cons_zero, List.getElem_cons_succ, List.setIfInBounds_toArray, List.set_cons_zero, List.set_cons_succ]
      refine wpAnyH_ready (rs := [8]) (by kernel_rfl) (by simp) ?_
      refine AllReadyH.cons rfl (fun K hK => ?_) AllReadyH.nil
      refine app_run (by rfl) _ _ _ (by rfl) ⟨.slice pv q cv, .slice (some ⟨w4.heap.size, 0, none⟩) 1 1, _, _, (by go_simp), (by go_simp), hrun, ?_⟩
      refine hK.out _ _ ⟨S5 _ _ hHeld.1, S5 _ _ hHeld.2⟩ (fun hHeld => ?_)
      clear hK K
      try simp only [Act.put, List.getElem_toArray, List.getElem_cons_zero, List.getElem_cons_succ, List.setIfInBounds_toArray, List.set_cons_zero, List.set_cons_succ]
      refine wpAnyH_take (i := 9) (v := ?_) rfl (by kernel_rfl) (by kernel_rfl) (by kernel_rfl) (fun _ _ _ h => h) (Or.inl ⟨by rfl, ?_⟩) (by assumption) ?_
      rotate_left 1
      · (intro w hSw; (obtain ⟨s0, s1⟩ := hSw); go_simp; try with_reducible rfl)
      try simp only [Act.put, List.getElem_toArray, List.getElem_cons_zero, List.getElem_cons_succ, List.setIfInBounds_toArray, List.set_cons_zero, List.set_cons_succ]
      refine wpAnyH_done (by kernel_rfl) ?_ _
      clear hrun hHeld S5
      go_wp2
      go_roundw
      case rel => exact ⟨q + 1, by first | rfl | go_num, hqn, XN⟩
      case measure => simp [intOf]; omega
    · have hqi : ¬ (q : Int) < (n : Int) := by omega
      have e : q = n := by omega
      subst e
      have XE : Hid (OwnC wr w.heap.size u3 rs ∧ Gb w wr) := by
        have := X.out
        rwa [List.take_of_length_le (by have := N.out; omega)] at this
      clear X
      go_wp2
      go_ret
      exact ⟨_, rfl, XE.out⟩
end Go.Proofs.YtepjbdklljlecaaGreat
