import Derived.Test.YtbnljabeccebiabGreatKs9
import Derived.Test.YtbnljabeccebiabGreatKs10
import Derived.Test.YtbnljabeccebiabGreatKs11
import Derived.Test.YtbnljabeccebiabGreatKs5
import Derived.Test.YtbnljabeccebiabGreatKs8
import Derived.Test.YtbnljabeccebiabGreatKs3
import Derived.Laws.AppendOwnNone
/- Trees of boxes, plainly: parts by the blocks that they lie in; a search of one. -/
namespace Go.Proofs.YtbnljabeccebiabGreat
open Go.RowKit Go.Sort

/-- A part: its box, its rows (if it is not cut), the border, and where the two lesser parts lie (if it is). -/
structure Pt where
  L : List Int
  H : List Int
  rs : List Rw
  cut : Int × Int × Int
  kids : Option (Nat × Nat)
abbrev pr (p : Pt) : Reg := ⟨2, p.L, p.H, 0, []⟩
/-- The rows of a part, whose lesser parts are at most n deep. -/
def rowsP (T : Nat → Pt) : Nat → Pt → List Rw
  | 0, p => p.rs
  | n + 1, p => match p.kids with
    | none => p.rs
    | some (l, h) => rowsP T n (T l) ++ rowsP T n (T h)
def BoxOk (d : Nat) (p : Pt) (rs : List Rw) : Prop := ckR (pr p) (d : Int) = 0 ∧ ∀ r ∈ rs, chk r.2 (d : Int) = 0 ∧ inV (pr p) r.2 = true
/-- Does a row belong below a border? -/
def isAb (c : Int × Int × Int) (r : Rw) : Bool := decide (r.2[c.1.toNat]! < c.2.1) || (decide (r.2[c.1.toNat]! = c.2.1) && decide (r.1 < c.2.2))
def OkP (T : Nat → Pt) (d : Nat) : Nat → Pt → Prop
  | 0, p => p.kids = none ∧ p.rs ≠ [] ∧ BoxOk d p p.rs
  | n + 1, p => match p.kids with
    | none => p.rs ≠ [] ∧ BoxOk d p p.rs
    | some (l, h) => OkP T d n (T l) ∧ OkP T d n (T h) ∧ BoxOk d p (rowsP T n (T l) ++ rowsP T n (T h)) ∧ (0 ≤ p.cut.1 ∧ p.cut.1 < (d : Int)) ∧
        (∀ r ∈ rowsP T n (T l), isAb p.cut r = true) ∧ ∀ r ∈ rowsP T n (T h), isAb p.cut r = false
/-- How many steps a part may cost. -/
def wtP (T : Nat → Pt) : Nat → Pt → Nat
  | 0, p => 2 * p.rs.length + 1
  | n + 1, p => match p.kids with
    | none => 2 * p.rs.length + 1
    | some (l, h) => 1 + wtP T n (T l) + wtP T n (T h)

theorem rowsP_leaf {T : Nat → Pt} {p : Pt} (h : p.kids = none) : ∀ n, rowsP T n p = p.rs
  | 0 => rfl
  | n + 1 => by rw [rowsP, h]
theorem wtP_leaf {T : Nat → Pt} {p : Pt} (h : p.kids = none) : ∀ n, wtP T n p = 2 * p.rs.length + 1
  | 0 => rfl
  | n + 1 => by rw [wtP, h]
theorem okP_leaf {T : Nat → Pt} {d : Nat} {p : Pt} (h : p.kids = none) : ∀ n, OkP T d n p ↔ p.rs ≠ [] ∧ BoxOk d p p.rs
  | 0 => by rw [OkP]; exact ⟨fun e => e.2, fun e => ⟨h, e⟩⟩
  | n + 1 => by rw [OkP, h]
theorem okP_node {T : Nat → Pt} {d n l h : Nat} {p : Pt} (hk : p.kids = some (l, h)) (ok : OkP T d n p) : ∃ m, n = m + 1 ∧ OkP T d m (T l) ∧ OkP T d m (T h) ∧ BoxOk d p (rowsP T m (T l) ++ rowsP T m (T h)) ∧ (0 ≤ p.cut.1 ∧ p.cut.1 < (d : Int)) ∧
    (∀ r ∈ rowsP T m (T l), isAb p.cut r = true) ∧ ∀ r ∈ rowsP T m (T h), isAb p.cut r = false := by
  cases n with
  | zero => rw [OkP] at ok; rw [ok.1] at hk; cases hk
  | succ m => rw [OkP, hk] at ok; exact ⟨m, rfl, ok⟩
theorem rowsP_node {T : Nat → Pt} {n l h : Nat} {p : Pt} (hk : p.kids = some (l, h)) : rowsP T (n + 1) p = rowsP T n (T l) ++ rowsP T n (T h) := by rw [rowsP, hk]
theorem wtP_node {T : Nat → Pt} {n l h : Nat} {p : Pt} (hk : p.kids = some (l, h)) : wtP T (n + 1) p = 1 + wtP T n (T l) + wtP T n (T h) := by rw [wtP, hk]
theorem okP_mono {T : Nat → Pt} {d : Nat} : ∀ n p, OkP T d n p → OkP T d (n + 1) p ∧ rowsP T (n + 1) p = rowsP T n p ∧ wtP T (n + 1) p = wtP T n p
  | 0, p, ok => by
    have hk : p.kids = none := by rw [OkP] at ok; exact ok.1
    exact ⟨(okP_leaf hk _).2 ((okP_leaf hk _).1 ok), by rw [rowsP_leaf hk, rowsP_leaf hk], by rw [wtP_leaf hk, wtP_leaf hk]⟩
  | n + 1, p, ok => by
    cases hk : p.kids with
    | none => exact ⟨(okP_leaf hk _).2 ((okP_leaf hk _).1 ok), by rw [rowsP_leaf hk, rowsP_leaf hk], by rw [wtP_leaf hk, wtP_leaf hk]⟩
    | some lh =>
      obtain ⟨l, h⟩ := lh
      obtain ⟨m, e, o1, o2, o3⟩ := okP_node hk ok
      have e' : n = m := by omega
      subst e'
      obtain ⟨a1, a2, a3⟩ := okP_mono n _ o1
      obtain ⟨b1, b2, b3⟩ := okP_mono n _ o2
      refine ⟨?_, by rw [rowsP_node hk, rowsP_node hk, a2, b2], by rw [wtP_node hk, wtP_node hk, a3, b3]⟩
      rw [OkP, hk]
      dsimp only
      rw [a2, b2]
      exact ⟨a1, b1, o3⟩
theorem okP_box {T : Nat → Pt} {d n : Nat} {p : Pt} (ok : OkP T d n p) : BoxOk d p (rowsP T n p) := by
  cases hk : p.kids with
  | none => rw [rowsP_leaf hk]; exact ((okP_leaf hk n).1 ok).2
  | some lh =>
    obtain ⟨l, h⟩ := lh
    obtain ⟨m, rfl, _, _, o3, _⟩ := okP_node hk ok
    rw [rowsP_node hk]; exact o3
theorem okP_ne {T : Nat → Pt} {d : Nat} : ∀ n p, OkP T d n p → rowsP T n p ≠ []
  | 0, p, ok => by rw [OkP] at ok; rw [rowsP]; exact ok.2.1
  | n + 1, p, ok => by
    cases hk : p.kids with
    | none => rw [rowsP_leaf hk]; exact ((okP_leaf hk _).1 ok).1
    | some lh =>
      obtain ⟨l, h⟩ := lh
      obtain ⟨m, e, o1, _⟩ := okP_node hk ok
      have e' : n = m := by omega
      subst e'
      rw [rowsP_node hk]
      intro e
      exact okP_ne n _ o1 (List.append_eq_nil_iff.1 e).1

/-- A part's bound; parts by falling bounds. -/
def bnd (q : List Int) (p : Pt) : Nat := bx p.L p.H q
def insP (q : List Int) (p : Pt) : List Pt → List Pt
  | [] => [p]
  | u :: r => if bnd q p ≤ bnd q u then u :: insP q p r else p :: u :: r
theorem insP_perm (q : List Int) (p : Pt) : ∀ l, (insP q p l).Perm (p :: l)
  | [] => List.Perm.refl _
  | u :: r => by
    rw [insP]
    split
    · exact ((insP_perm q p r).cons u).trans (List.Perm.swap p u r)
    · exact List.Perm.refl _
def Dsc (q : List Int) (l : List Pt) : Prop := l.Pairwise fun u v => bnd q v ≤ bnd q u
theorem insP_dsc (q : List Int) (p : Pt) : ∀ l, Dsc q l → Dsc q (insP q p l)
  | [], _ => List.pairwise_singleton _ _
  | u :: r, h => by
    rw [insP]
    have h1 := List.pairwise_cons.1 h
    split
    · rename_i hle
      refine List.pairwise_cons.2 ⟨fun x hx => ?_, insP_dsc q p r h1.2⟩
      rcases List.mem_cons.1 ((insP_perm q p r).subset hx) with e | e
      · rw [e]; exact hle
      · exact h1.1 x e
    · rename_i hle
      refine List.pairwise_cons.2 ⟨fun x hx => ?_, h⟩
      rcases List.mem_cons.1 hx with e | e
      · rw [e]; omega
      · have := h1.1 x e; omega
/-- Where a part goes: behind all whose bound is not below its own. -/
theorem insP_at (q : List Int) (p : Pt) : ∀ l, Dsc q l → insP q p l = l.take (l.countP fun u => decide (bnd q p ≤ bnd q u)) ++ p :: l.drop (l.countP fun u => decide (bnd q p ≤ bnd q u))
  | [], _ => rfl
  | u :: r, h => by
    have h1 := List.pairwise_cons.1 h
    rw [insP]
    split
    · rename_i hle
      rw [List.countP_cons_of_pos (by simpa using hle), List.take_succ_cons, List.drop_succ_cons, List.cons_append, ← insP_at q p r h1.2]
    · rename_i hle
      have h0 : (u :: r).countP (fun u => decide (bnd q p ≤ bnd q u)) = 0 := by
        rw [List.countP_eq_zero]
        intro x hx
        rcases List.mem_cons.1 hx with e | e
        · rw [e]; simpa using hle
        · have := h1.1 x e; simp; omega
      rw [h0]; rfl

/-- The number that a hit's distance is. -/
def dN (x : Tk.Ht) : Nat := (x.2.1 * 18446744073709551616 + x.2.2).toNat
theorem dN_hit (q : List Int) (r : Rw) : dN (hitOf q r) = dst q r.2 := by
  unfold dN hitOf hi lo
  dsimp only
  omega
/-- A search under way: the rows that were seen, how many may still be, the parts that are open. -/
structure Sr where
  seen : List Rw
  bud : Nat
  opn : List Pt
def beyond (q : List Int) (k : Nat) (seen : List Rw) (p : Pt) : Bool := decide ((Tk.firsts k (hitsOf q seen)).length = k) && decide (dN (Tk.firsts k (hitsOf q seen))[k - 1]! < bnd q p)
def look (T : Nat → Pt) (q : List Int) (s : Sr) (p : Pt) (o : List Pt) : Sr := match p.kids with
  | some (l, h) => ⟨s.seen, s.bud, insP q (T h) (insP q (T l) o)⟩
  | none => ⟨s.seen ++ p.rs.take (min s.bud p.rs.length), s.bud - min s.bud p.rs.length, if min s.bud p.rs.length < p.rs.length then insP q ⟨p.L, p.H, p.rs.drop (min s.bud p.rs.length), (0, 0, 0), none⟩ o else o⟩
def stepS (T : Nat → Pt) (q : List Int) (k : Nat) (s : Sr) : Option Sr := match s.opn.getLast? with
  | none => none
  | some p => if beyond q k s.seen p = true then none else if p.kids = none ∧ s.bud = 0 then none else some (look T q s p s.opn.dropLast)
def runS (T : Nat → Pt) (q : List Int) (k : Nat) : Nat → Sr → Sr
  | 0, s => s
  | n + 1, s => match stepS T q k s with
    | none => s
    | some s' => runS T q k n s'
theorem runS_stop {T : Nat → Pt} {q : List Int} {k : Nat} {s : Sr} (h : stepS T q k s = none) : ∀ n, runS T q k n s = s
  | 0 => rfl
  | n + 1 => by rw [runS, h]
/-- What holds all through a search of the rows rs. -/
structure InvS (T : Nat → Pt) (d N : Nat) (q : List Int) (b0 : Nat) (rs : List Rw) (s : Sr) : Prop where
  rows : (s.seen ++ s.opn.flatMap (rowsP T N)).Perm rs
  ok : ∀ p ∈ s.opn, OkP T d N p
  dsc : Dsc q s.opn
  bud : s.seen.length + s.bud = b0
def wtS (T : Nat → Pt) (N : Nat) (s : Sr) : Nat := (s.opn.map (wtP T N)).sum
theorem wtP_pos (T : Nat → Pt) : ∀ n p, 0 < wtP T n p
  | 0, p => by rw [wtP]; omega
  | n + 1, p => by
    rw [wtP]; split <;> omega
theorem last_split {l : List Pt} {p : Pt} (h : l.getLast? = some p) : l = l.dropLast ++ [p] := by
  have hne : l ≠ [] := by intro e; rw [e] at h; cases h
  rw [List.getLast?_eq_some_getLast hne] at h
  injection h with h
  rw [← h, List.dropLast_concat_getLast]
theorem flat_perm {f : Pt → List Rw} {l m : List Pt} (p : l.Perm m) : (l.flatMap f).Perm (m.flatMap f) := List.Perm.flatMap_right f p
theorem sum_permN {l m : List Nat} (p : l.Perm m) : l.sum = m.sum := p.sum_nat
theorem look_inv {T : Nat → Pt} {d N : Nat} {q : List Int} {b0 : Nat} {rs : List Rw} {s : Sr} {p : Pt} {o : List Pt} (hs : s.opn = o ++ [p]) (h : InvS T d N q b0 rs s) (hb : ¬ (p.kids = none ∧ s.bud = 0)) :
    InvS T d N q b0 rs (look T q s p o) ∧ wtS T N (look T q s p o) < wtS T N s := by
  have ok := h.ok
  have rows := h.rows
  have dsc := h.dsc
  have hw : wtS T N s = (o.map (wtP T N)).sum + wtP T N p := by unfold wtS; rw [hs]; simp
  rw [hs] at ok rows dsc
  have okp := ok p (by simp)
  have oko : ∀ u ∈ o, OkP T d N u := fun u hu => ok u (List.mem_append_left _ hu)
  have dsco : Dsc q o := dsc.sublist (List.sublist_append_left _ _)
  rw [List.flatMap_append] at rows
  simp only [List.flatMap_cons, List.flatMap_nil, List.append_nil] at rows
  cases hk : p.kids with
  | some lh =>
    obtain ⟨l, hh⟩ := lh
    have e : look T q s p o = ⟨s.seen, s.bud, insP q (T hh) (insP q (T l) o)⟩ := by unfold look; rw [hk]
    obtain ⟨m, rfl, o1, o2, _⟩ := okP_node hk okp
    obtain ⟨a1, a2, a3⟩ := okP_mono m _ o1
    obtain ⟨b1, b2, b3⟩ := okP_mono m _ o2
    have pp : (insP q (T hh) (insP q (T l) o)).Perm (T hh :: T l :: o) := (insP_perm q _ _).trans ((insP_perm q _ _).cons _)
    rw [e]
    refine ⟨⟨?_, fun u hu => ?_, insP_dsc q _ _ (insP_dsc q _ _ dsco), h.bud⟩, ?_⟩
    · dsimp only
      refine List.Perm.trans (List.Perm.append_left _ (flat_perm pp)) (List.Perm.trans ?_ rows)
      simp only [List.flatMap_cons]
      rw [a2, b2, rowsP_node hk]
      refine List.Perm.append_left _ ?_
      refine List.Perm.trans ?_ List.perm_append_comm
      rw [← List.append_assoc]
      exact List.Perm.append_right _ List.perm_append_comm
    · rcases List.mem_cons.1 (pp.subset hu) with e | hu
      · rw [e]; exact b1
      · rcases List.mem_cons.1 hu with e | hu
        · rw [e]; exact a1
        · exact oko u hu
    · rw [hw]
      unfold wtS
      dsimp only
      rw [sum_permN (pp.map (wtP T (m + 1)))]
      simp only [List.map_cons, List.sum_cons]
      rw [a3, b3, wtP_node hk]
      omega
  | none =>
    have hbud : s.bud ≠ 0 := fun e => hb ⟨hk, e⟩
    obtain ⟨hne, hbox⟩ := (okP_leaf hk N).1 okp
    have hlen : 0 < p.rs.length := List.length_pos_iff.2 hne
    rw [rowsP_leaf hk] at rows
    rw [wtP_leaf hk] at hw
    have e : look T q s p o = ⟨s.seen ++ p.rs.take (min s.bud p.rs.length), s.bud - min s.bud p.rs.length, if min s.bud p.rs.length < p.rs.length then insP q ⟨p.L, p.H, p.rs.drop (min s.bud p.rs.length), (0, 0, 0), none⟩ o else o⟩ := by unfold look; rw [hk]
    rw [e]
    obtain ⟨c, hc⟩ : ∃ c, c = min s.bud p.rs.length := ⟨_, rfl⟩
    rw [← hc]
    have hb2 := h.bud
    have htl : (p.rs.take c).length = c := by rw [List.length_take]; omega
    by_cases hlt : c < p.rs.length
    · rw [if_pos hlt]
      have pp := insP_perm q ⟨p.L, p.H, p.rs.drop c, (0, 0, 0), none⟩ o
      refine ⟨⟨?_, fun u hu => ?_, insP_dsc q _ _ dsco, ?_⟩, ?_⟩
      · dsimp only
        refine List.Perm.trans (List.Perm.append_left _ (flat_perm pp)) (List.Perm.trans ?_ rows)
        simp only [List.flatMap_cons]
        rw [rowsP_leaf rfl]
        dsimp only
        rw [List.append_assoc]
        refine List.Perm.append_left _ ?_
        rw [← List.append_assoc, List.take_append_drop]
        exact List.perm_append_comm
      · rcases List.mem_cons.1 (pp.subset hu) with e | hu
        · rw [e]
          refine (okP_leaf rfl N).2 ⟨fun e => ?_, hbox.1, fun r hr => hbox.2 r (List.mem_of_mem_drop hr)⟩
          have := congrArg List.length e
          dsimp only at this
          rw [List.length_drop] at this
          simp at this
          omega
        · exact oko u hu
      · dsimp only
        rw [List.length_append, htl]
        omega
      · rw [hw]
        unfold wtS
        dsimp only
        rw [sum_permN (pp.map (wtP T N))]
        simp only [List.map_cons, List.sum_cons]
        rw [wtP_leaf rfl]
        dsimp only
        rw [List.length_drop]
        omega
    · rw [if_neg hlt]
      have hcl : c = p.rs.length := by omega
      refine ⟨⟨?_, oko, dsco, ?_⟩, ?_⟩
      · dsimp only
        refine List.Perm.trans ?_ rows
        rw [hcl, List.take_length, List.append_assoc]
        exact List.Perm.append_left _ List.perm_append_comm
      · dsimp only
        rw [List.length_append, htl]
        omega
      · rw [hw]; unfold wtS; dsimp only; omega
theorem step_inv {T : Nat → Pt} {d N : Nat} {q : List Int} {k b0 : Nat} {rs : List Rw} {s s' : Sr} (h : InvS T d N q b0 rs s) (e : stepS T q k s = some s') : InvS T d N q b0 rs s' ∧ wtS T N s' < wtS T N s := by
  unfold stepS at e
  cases hl : s.opn.getLast? with
  | none => rw [hl] at e; cases e
  | some p =>
    rw [hl] at e
    dsimp only at e
    split at e
    · cases e
    · split at e
      · cases e
      · rename_i hb
        injection e with e
        rw [← e]
        exact look_inv (last_split hl) h hb
theorem run_inv {T : Nat → Pt} {d N : Nat} {q : List Int} {k b0 : Nat} {rs : List Rw} : ∀ n s, InvS T d N q b0 rs s → wtS T N s ≤ n → InvS T d N q b0 rs (runS T q k n s) ∧ stepS T q k (runS T q k n s) = none
  | 0, s, h, hw => by
    refine ⟨h, ?_⟩
    show stepS T q k s = none
    cases e : stepS T q k s with
    | none => rfl
    | some s' => have := (step_inv h e).2; omega
  | n + 1, s, h, hw => by
    rw [runS]
    cases e : stepS T q k s with
    | none => exact ⟨h, e⟩
    | some s' =>
      obtain ⟨h1, h2⟩ := step_inv h e
      exact run_inv n s' h1 (by omega)
/-- Why a search stops. -/
theorem step_none {T : Nat → Pt} {d N : Nat} {q : List Int} {k b0 : Nat} {rs : List Rw} {s : Sr} (h : InvS T d N q b0 rs s) (e : stepS T q k s = none) :
    s.opn = [] ∨ ((Tk.firsts k (hitsOf q s.seen)).length = k ∧ ∀ p ∈ s.opn, dN (Tk.firsts k (hitsOf q s.seen))[k - 1]! < bnd q p) ∨ s.bud = 0 := by
  unfold stepS at e
  cases hl : s.opn.getLast? with
  | none => exact .inl (List.getLast?_eq_none_iff.1 hl)
  | some p =>
    rw [hl] at e
    dsimp only at e
    split at e
    · rename_i hb
      unfold beyond at hb
      simp only [Bool.and_eq_true, decide_eq_true_eq] at hb
      refine .inr (.inl ⟨hb.1, fun u hu => ?_⟩)
      have hs := last_split hl
      have dsc := h.dsc
      rw [hs] at hu dsc
      rcases List.mem_append.1 hu with hu | hu
      · have := (List.pairwise_append.1 dsc).2.2 u hu p (by simp)
        omega
      · rw [List.mem_singleton.1 hu]; exact hb.2
    · split at e
      · rename_i hb; exact .inr (.inr hb.2)
      · cases e
end Go.Proofs.YtbnljabeccebiabGreat

/- Which row comes first along an axis; does a row belong below a border. -/
namespace Go.Proofs.YtbnljabeccebiabGreat
open Go.RowKit Go.Sort

theorem gw_gb {w w' : World} (h : Tk.Gw w w') : Gb w w' := h.gr
/-- Seven cells stay. -/
theorem seven_call {w0 W w' : World} {p0 p1 p2 p3 p4 p5 p6 : Addr} {v0 v1 v2 v3 v4 v5 v6 : Value} (g : Tk.Gw W w')
    (h : Tk.Gw w0 W ∧ W.cell? p0 = some v0 ∧ W.cell? p1 = some v1 ∧ W.cell? p2 = some v2 ∧ W.cell? p3 = some v3 ∧ W.cell? p4 = some v4 ∧ W.cell? p5 = some v5 ∧ W.cell? p6 = some v6) :
    Tk.Gw w0 w' ∧ w'.cell? p0 = some v0 ∧ w'.cell? p1 = some v1 ∧ w'.cell? p2 = some v2 ∧ w'.cell? p3 = some v3 ∧ w'.cell? p4 = some v4 ∧ w'.cell? p5 = some v5 ∧ w'.cell? p6 = some v6 := by
  obtain ⟨a, b0, b1, b2, b3, b4, b5, b6⟩ := h
  exact ⟨a.trans g, Tk.gr_keeps g.gr b0, Tk.gr_keeps g.gr b1, Tk.gr_keeps g.gr b2, Tk.gr_keeps g.gr b3, Tk.gr_keeps g.gr b4, Tk.gr_keeps g.gr b5, Tk.gr_keeps g.gr b6⟩
theorem seven_alloc {w0 W : World} {o : Obj} {p0 p1 p2 p3 p4 p5 p6 : Addr} {v0 v1 v2 v3 v4 v5 v6 : Value}
    (h : Tk.Gw w0 W ∧ W.cell? p0 = some v0 ∧ W.cell? p1 = some v1 ∧ W.cell? p2 = some v2 ∧ W.cell? p3 = some v3 ∧ W.cell? p4 = some v4 ∧ W.cell? p5 = some v5 ∧ W.cell? p6 = some v6) :
    Tk.Gw w0 (W.alloc o) ∧ (W.alloc o).cell? p0 = some v0 ∧ (W.alloc o).cell? p1 = some v1 ∧ (W.alloc o).cell? p2 = some v2 ∧ (W.alloc o).cell? p3 = some v3 ∧ (W.alloc o).cell? p4 = some v4 ∧ (W.alloc o).cell? p5 = some v5 ∧ (W.alloc o).cell? p6 = some v6 :=
  seven_call ((Tk.Gw.refl _).alloc _) h

theorem compare_g (a b : Int) (w : World) : Calls Tryz.prog 32 #[.int .i64 a, .int .i64 b] w fun e w' => e = .returned (.int .i64 (Tk.ci a b)) ∧ Tk.Gw w w' :=
  (Tk.compare_c a b w).mono fun _ _ ⟨h, e⟩ => ⟨h, by rw [e]; exact Tk.Gw.refl _⟩
/-- Along an axis, then by ids. -/
def alg (x : Int) (a : Int) (y : Int) (b : Int) : Int := Tk.cor (Tk.ci a b) (Tk.ci x y)
set_option maxHeartbeats 2000000 in
theorem along1_c {w : World} {x y : Int} {u v : Value} {l m : List Int} {ax cb co : Nat} (hu : RdI w u l) (hv : RdI w v m) (hl : ax < l.length) (hm : ax < m.length) (hc : w.cell? ⟨cb, co, none⟩ = some (.int .i64 (ax : Int))) :
    Calls Tryz.prog 111 #[.agg #[.int .i64 x, u], .agg #[.int .i64 y, v], .pointer (some ⟨cb, co, none⟩)] w fun e w' => e = .returned (.int .i64 (alg x l[ax]! y m[ax]!)) ∧ Tk.Gw w w' := by
  unfold alg
  obtain ⟨a, cap, rfl, h⟩ := hu
  obtain ⟨b, o, rfl, hA⟩ := h ax hl
  obtain ⟨a', cap', rfl, h'⟩ := hv
  obtain ⟨b', o', rfl, hB⟩ := h' ax hm
  generalize l[ax]! = f at *
  generalize m[ax]! = g at *
  generalize l.length = n at *
  generalize m.length = n' at *
  clear h h'
  go_enter Tryz.func111, Tryz.ntmps111
  go_wp2
  have C : Tk.Gw w ((w.alloc (.cells #[.int .i64 x, .slice (some ⟨b, o, none⟩) n cap] 49)).alloc (.cells #[.int .i64 y, .slice (some ⟨b', o', none⟩) n' cap'] 49)) := ((Tk.Gw.refl _).alloc _).alloc _
  go_region_held3 (fun w' => Tk.Gw w w' ∧ w'.cell? ⟨w.heap.size, 0, none⟩ = some (.int .i64 x) ∧ w'.cell? ⟨w.heap.size, 1, none⟩ = some (.slice (some ⟨b, o, none⟩) n cap) ∧ w'.cell? ⟨w.heap.size + 1, 0, none⟩ = some (.int .i64 y) ∧ w'.cell? ⟨w.heap.size + 1, 1, none⟩ = some (.slice (some ⟨b', o', none⟩) n' cap') ∧ w'.cell? ⟨cb, co, none⟩ = some (.int .i64 (ax : Int)) ∧ w'.cell? ⟨b, o + ax, none⟩ = some (.int .i64 f) ∧ w'.cell? ⟨b', o' + ax, none⟩ = some (.int .i64 g)) (first | (with_reducible exact seven_call (by assumption) (by assumption)) | (with_reducible assumption) | (with_reducible exact seven_alloc (by assumption)) | exact ⟨C.drew, by simp [go_sem], by simp [go_sem], by simp [go_sem], by simp [go_sem], Tk.gr_keeps C.drew.gr hc, Tk.gr_keeps C.drew.gr hA, Tk.gr_keeps C.drew.gr hB⟩) (first | (go_at_call 32; refine (compare_g _ _ _).mono ?_; rintro e w' ⟨rfl, hg⟩) | (go_at_call 81; refine (Tk.or_new _ _ _).mono ?_; rintro e w' ⟨rfl, rfl⟩))
  all_goals
    go_wp2
    go_ret
    exact ⟨rfl, And.left (by assumption)⟩
theorem alg_neg (x a y b : Int) : decide (alg x a y b < 0) = (decide (a < b) || (decide (a = b) && decide (x < y))) := by
  unfold alg Tk.cor Tk.ci
  by_cases h1 : a < b
  · simp [h1]
  · by_cases h2 : b < a
    · simp [h1, h2]; intro e; omega
    · have e : a = b := by omega
      subst e
      by_cases h3 : x < y
      · simp [h3]
      · by_cases h4 : y < x <;> simp [h3, h4]
set_option maxHeartbeats 2000000 in
theorem isAbove_c {w : World} {x at' id ax : Int} {u : Value} {l : List Int} (hu : RdI w u l) (h0 : 0 ≤ ax) (h1 : ax < (l.length : Int)) :
    Calls Tryz.prog 112 #[.agg #[.int .i64 ax, .int .i64 at', .int .i64 id], .agg #[.int .i64 x, u]] w fun e w' => e = .returned (.bool (isAb (ax, at', id) (x, l))) ∧ Tk.Gw w w' := by
  rw [show isAb (ax, at', id) (x, l) = decide (alg x l[ax.toNat]! id at' < 0) from (alg_neg _ _ _ _).symm]
  unfold alg
  obtain ⟨A, rfl⟩ : ∃ A : Nat, ax = A := ⟨ax.toNat, by omega⟩
  rw [Int.toNat_natCast]
  have hl : A < l.length := by omega
  obtain ⟨a, cap, rfl, h⟩ := hu
  obtain ⟨b, o, rfl, hA⟩ := h A hl
  generalize l[A]! = f at *
  generalize l.length = n at *
  clear h h0 h1
  go_enter Tryz.func112, Tryz.ntmps112
  go_wp2
  have C : Tk.Gw w ((w.alloc (.cells #[.int .i64 (A : Int), .int .i64 at', .int .i64 id] 98)).alloc (.cells #[.int .i64 x, .slice (some ⟨b, o, none⟩) n cap] 49)) := ((Tk.Gw.refl _).alloc _).alloc _
  go_region_held3 (fun w' => Tk.Gw w w' ∧ w'.cell? ⟨w.heap.size, 0, none⟩ = some (.int .i64 (A : Int)) ∧ w'.cell? ⟨w.heap.size, 1, none⟩ = some (.int .i64 at') ∧ w'.cell? ⟨w.heap.size, 2, none⟩ = some (.int .i64 id) ∧ w'.cell? ⟨w.heap.size + 1, 0, none⟩ = some (.int .i64 x) ∧ w'.cell? ⟨w.heap.size + 1, 1, none⟩ = some (.slice (some ⟨b, o, none⟩) n cap) ∧ w'.cell? ⟨b, o + A, none⟩ = some (.int .i64 f)) (first | (with_reducible exact Tk.six_call (by assumption) (by assumption)) | (with_reducible assumption) | (with_reducible exact Tk.six_alloc (by assumption)) | exact ⟨C.drew, by simp [go_sem], by simp [go_sem], by simp [go_sem], by simp [go_sem], by simp [go_sem], Tk.gr_keeps C.drew.gr hA⟩) (first | (go_at_call 32; refine (compare_g _ _ _).mono ?_; rintro e w' ⟨rfl, hg⟩) | (go_at_call 81; refine (Tk.or_new _ _ _).mono ?_; rintro e w' ⟨rfl, rfl⟩))
  all_goals
    go_wp2
    go_ret
    exact ⟨rfl, And.left (by assumption)⟩

/-- The order along an axis, as a function value. -/
theorem along_c (ax : Int) (w : World) : Calls Tryz.prog 68 #[.int .i64 ax] w fun e w' => e = .returned (.func (.func 111) #[] #[.pointer (some ⟨w.heap.size, 0, none⟩)]) ∧ w' = w.alloc (.cells #[.int .i64 ax] 3) := by
  go_enter Tryz.func68, Tryz.ntmps68
  go_wp2
  go_ret
  exact ⟨rfl, rfl⟩

/-- The axis along which a box is longest, the first of several; of the first n. -/
def wid (L H : List Int) : Nat → Nat
  | 0 => 0
  | n + 1 => if H[wid L H n]! - L[wid L H n]! < H[n]! - L[n]! then n else wid L H n
theorem wid_le (L H : List Int) : ∀ n, wid L H n ≤ n - 1
  | 0 => Nat.le_refl _
  | n + 1 => by
    have := wid_le L H n
    unfold wid
    split <;> omega
end Go.Proofs.YtbnljabeccebiabGreat

/- slices.SortFunc at rows: in place, in a part of a block, by an order that may read the rows' vectors. -/
namespace Go.Proofs.YtbnljabeccebiabGreat
open Go.Shelf Go.RowKit Go.Lib Go.Sort
shelf_lay_g SlLaysF0.n6 Slsf 6 at Tryz 30 as Tryz.laidSortR

/-- A row: its id, its vector's value, its vector. -/
abbrev Rt := Int × Value × List Int
abbrev encR (x : Rt) : List Value := [.int .i64 x.1, x.2.1]
abbrev rwR (x : Rt) : Rw := (x.1, x.2.2)
/-- These rows lie in block g from o on. -/
def RwAt (w : World) (g o : Nat) (d : List Rt) : Prop := ∃ cur, w.heap[g]? = some (.cells cur 49 (0, 0)) ∧ o + d.length * 2 ≤ cur.size ∧ ∀ i (h : i < d.length), cur[o + i * 2]? = some (.int .i64 d[i].1) ∧ cur[o + i * 2 + 1]? = some d[i].2.1
theorem cell_cur {w : World} {g i : Nat} {cur : Array Value} {t : TypeId} {s : Nat × Nat} {v : Value} (h : w.heap[g]? = some (.cells cur t s)) (hc : cur[i]? = some v) : w.cell? ⟨g, i, none⟩ = some v := by
  simp [World.cell?, h, hc]
theorem cur_cell {w : World} {g i : Nat} {cur : Array Value} {t : TypeId} {s : Nat × Nat} {v : Value} (h : w.heap[g]? = some (.cells cur t s)) (hc : w.cell? ⟨g, i, none⟩ = some v) : cur[i]? = some v := by
  simpa [World.cell?, h] using hc
/-- Nothing has turned but in block g, from o on, n rows. -/
structure Srt (w w' : World) (g o n : Nat) : Prop where
  kp : Tk.Kp (fun b => b = g) w w'
  blk : ∀ cur, w.heap[g]? = some (.cells cur 49 (0, 0)) → ∃ cur', w'.heap[g]? = some (.cells cur' 49 (0, 0)) ∧ cur'.size = cur.size ∧ ∀ i, (i < o ∨ o + n * 2 ≤ i) → cur'[i]? = cur[i]?
theorem sort_heap {α : Type} [Inhabited α] (enc : α → List Value) (w : World) (g o m : Nat) (d : Array α) (os : Array Obj) {cur : Array Value} (h : w.heap[g]? = some (.cells cur 49 (0, 0))) :
    (sortWorldK enc 2 w g o m d os).heap[g]? = some (.cells (putCells id o (flatK enc 2 d) cur) 49 (0, 0)) := by
  have hlt := (Array.getElem?_eq_some_iff.1 h).1
  unfold sortWorldK
  rw [heap_grow_old _ _ (by simp [putRowK, putRow, mapBlock]; exact hlt)]
  simp [putRowK, putRow, mapBlock, Array.getElem?_modify, h, onCells]
theorem sort_kp {α : Type} [Inhabited α] (enc : α → List Value) (w : World) (g o m : Nat) (d : Array α) (os : Array Obj) : Tk.Kp (fun b => b = g) w (sortWorldK enc 2 w g o m d os) := by
  unfold sortWorldK
  refine Tk.Kp.trans (b := putRowK enc 2 (Sort.ahead w m) g o d) ⟨rfl, rfl, rfl, by simp [putRowK, putRow, mapBlock], fun k _ hn => ?_⟩ (Tk.Kp.of_gr (Tk.gr_grow _ _))
  simp [putRowK, putRow, mapBlock, Array.getElem?_modify, Ne.symm hn]
theorem rdi_kp {S : Nat → Prop} {w w' : World} {u : Value} {l : List Int} (h : RdI w u l) (k : Tk.Kp S w w') (hn : ∀ b o n c, u = .slice (some ⟨b, o, none⟩) n c → ¬ S b) : RdI w' u l := by
  obtain ⟨a, cap, rfl, h⟩ := h
  refine ⟨a, cap, rfl, fun i hi => ?_⟩
  obtain ⟨b, o, rfl, hc⟩ := h i hi
  exact ⟨b, o, rfl, k.cell hc (hn _ _ _ _ rfl)⟩

theorem sortR {w : World} {g o cap fn : Nat} {d : List Rt} {cb : Array Value} {cf : Rt → Rt → Int} (ok : Rt → Prop) (hd : RwAt w g o d) (hne : d ≠ []) (hlen : d.length ≤ 4000) (hok : ∀ x ∈ d, ok x) (hone : ∀ x, ok x → x.2.1.oneCell' = true)
    (hO : SWO (fun x y : Rt => decide (cf x y < 0))) (eg : ∀ args w, (callFunc fn args).run Tryz.prog w = .ok (.enter fn args) w)
    (hc : ∀ W, Tk.Kp (fun b => b = g) w W → ∀ x y, ok x → ok y → Calls Tryz.prog fn (#[.agg #[.int .i64 x.1, x.2.1], .agg #[.int .i64 y.1, y.2.1]] ++ cb) W fun e w' => e = .returned (.int .i64 (cf x y)) ∧ Tk.Gw W w') :
    Calls Tryz.prog 30 #[.slice (some ⟨g, o, none⟩) d.length cap, .func (.func fn) #[] cb] w fun e w' => e = .returned (.tuple #[]) ∧ ∃ d', d'.Perm d ∧ (d'.Pairwise fun x y => ¬ cf y x < 0) ∧ RwAt w' g o d' ∧ Srt w w' g o d.length := by
  haveI : Inhabited {x // ok x} := ⟨⟨d.head hne, hok _ (List.head_mem hne)⟩⟩
  obtain ⟨cur, hcur, hsz, hcells⟩ := hd
  have hlt := (Array.getElem?_eq_some_iff.1 hcur).1
  obtain ⟨A, hA⟩ : ∃ A : Array {x // ok x}, A = (d.attachWith ok hok).toArray := ⟨_, rfl⟩
  have hAs : A.size = d.length := by rw [hA]; simp
  have hAg : ∀ i (h : i < d.length), (A[i]!).1 = d[i] := by
    intro i h
    rw [getElem!_pos A i (by omega)]
    subst hA
    simp
  have hH : HoldsK (fun x : {x // ok x} => encR x.1) 2 w g o A := by
    intro t ht
    have ht' : t < d.length * 2 := by simpa [hAs] using ht
    have hi : t / 2 < d.length := by omega
    have e : (flatK (fun x : {x // ok x} => encR x.1) 2 A)[t]! = (encR d[t / 2])[t % 2]! := by
      rw [get_flatK _ _ _ _ (by rw [hAs]; exact ht'), hAg _ hi]
    refine ⟨?_, by simp [World.frozen?, hcur]⟩
    rw [e]
    obtain ⟨c0, c1⟩ := hcells (t / 2) hi
    rcases Nat.mod_two_eq_zero_or_one t with h0 | h0
    · rw [h0]; exact cell_cur hcur (by rw [show o + t = o + t / 2 * 2 by omega]; exact c0)
    · rw [h0]; exact cell_cur hcur (by rw [show o + t = o + t / 2 * 2 + 1 by omega]; exact c1)
  have hS : SWO (ltOf fun x y : {x // ok x} => cf x.1 y.1) := ⟨fun x => hO.irrefl x.1, fun x y z => hO.trans x.1 y.1 z.1, fun x y z => hO.ntrans x.1 y.1 z.1⟩
  have hcmp : CmpLays Tryz.prog fn cb (fun x : {x // ok x} => encR x.1) 2 (fun x y => cf x.1 y.1) g o A.size w := by
    intro m os dk _ x y
    exact hc _ (sort_kp _ _ _ _ _ _ _) x.1 y.1 x.2 y.2
  have hs := AnyQ.slices_SortFunc Tryz.laidSortR 2 Tryz.isAgg49 Tryz.sizeOf49 (fun x : {x // ok x} => encR x.1) (fun _ => rfl) (fun x v hv => by
    simp only [encR, List.mem_cons, List.not_mem_nil, or_false] at hv
    rcases hv with rfl | rfl
    · rfl
    · exact hone x.1 x.2) (fun x y => cf x.1 y.1) hS fn cb g o cap A w eg hcmp hH hlt (by omega)
  rw [hAs] at hs
  change Calls Tryz.prog 30 _ _ _ at hs
  refine hs.mono ?_
  rintro e w' ⟨rfl, D, m, os, ⟨hP0, _, hP⟩, hSo, rfl⟩
  have hDs : D.size = d.length := by rw [hP0, hAs]
  rw [show d.length = A.size from hAs.symm, Array.extract_size, hAs] at hP
  rw [show D.extract 0 d.length = D by rw [← hDs]; exact Array.extract_size] at hP
  have hDl : (D.toList.map Subtype.val).length = d.length := by simp [hDs]
  have hDg : ∀ i (h : i < (D.toList.map Subtype.val).length), (D.toList.map Subtype.val)[i] = (D[i]!).1 := by
    intro i h
    rw [getElem!_pos D i (by rw [hDl] at h; omega)]
    simp
  refine ⟨rfl, D.toList.map Subtype.val, ?_, ?_, ?_, ?_⟩
  · have := hP.map Subtype.val
    refine this.trans (List.Perm.of_eq ?_)
    rw [hA]
    simp only []
    first | exact List.attachWith_map_subtype_val _ | exact List.attachWith_map_val _ | (simp; exact List.attach_map_subtype_val d)
  · rw [List.pairwise_iff_getElem]
    intro i j hi hj hij
    rw [hDg i hi, hDg j hj]
    have := hSo i j (Nat.zero_le _) hij (by rw [hDl] at hj; exact hj)
    unfold ltOf at this
    exact of_decide_eq_false this
  · refine ⟨_, sort_heap _ w g o m D os hcur, by rw [hDl]; simpa [putCells] using hsz, fun i h => ?_⟩
    rw [hDg i h]
    have hi : i < d.length := by rw [hDl] at h; exact h
    have key : ∀ t, t < d.length * 2 → (putCells id o (flatK (fun x : {x // ok x} => encR x.1) 2 D) cur)[o + t]? = some ((encR (D[t / 2]!).1)[t % 2]!) := by
      intro t ht
      have hb : o + t < cur.size := by omega
      simp only [putCells, Array.getElem?_mapIdx, Array.getElem?_eq_getElem hb, Option.map_some]
      rw [if_pos ⟨by omega, by simp [hDs]; omega⟩, show o + t - o = t by omega, get_flatK _ _ _ _ (by rw [hDs]; exact ht)]
      rfl
    have k0 := key (i * 2) (by omega)
    have k1 := key (i * 2 + 1) (by omega)
    rw [show i * 2 / 2 = i by omega, show i * 2 % 2 = 0 by omega] at k0
    rw [show (i * 2 + 1) / 2 = i by omega, show (i * 2 + 1) % 2 = 1 by omega] at k1
    exact ⟨k0, by rw [Nat.add_assoc]; exact k1⟩
  · refine ⟨sort_kp _ _ _ _ _ _ _, fun cur2 h2 => ?_⟩
    rw [hcur] at h2
    injection h2 with h2
    injection h2 with h2 _ _
    subst h2
    refine ⟨_, sort_heap _ w g o m D os hcur, by simp [putCells], fun i hi => ?_⟩
    simp only [putCells, Array.getElem?_mapIdx]
    have hn2 : ¬ (o ≤ i ∧ i < o + (flatK (fun x : {x // ok x} => encR x.1) 2 D).size) := by simp [hDs]; omega
    cases hcc : cur[i]? with
    | none => rfl
    | some c => rw [Option.map_some, if_neg hn2]
end Go.Proofs.YtbnljabeccebiabGreat

/- Rows in a list of the call's own. -/
namespace Go.Proofs.YtbnljabeccebiabGreat
open Go.RowKit Go.Sort Go.Maps

theorem Tryz.infoW : (Tryz.prog.info? 49).map (fun i => (i.zero, i.size, i.bytes)) = some (some (.agg #[.int .i64 0, .slice none 0 0]), 2, 32) := by kernel_rfl
theorem info_partsW : ∃ i0, Tryz.prog.info? 49 = some i0 ∧ i0.zero = some (.agg #[.int .i64 0, .slice none 0 0]) ∧ i0.size = 2 ∧ i0.bytes = 32 := by
  obtain ⟨i, hi, hzz⟩ := Option.map_eq_some_iff.1 Tryz.infoW
  simp only [Prod.mk.injEq] at hzz
  exact ⟨i, hi, hzz.1, hzz.2.1, hzz.2.2⟩
/-- The cells xs are these rows'; their vectors are read in w. -/
def CellsW (w : World) (xs : List Value) (rs : List Rw) : Prop := ∀ i, i < rs.length → xs[i * 2]? = some (.int .i64 rs[i]!.1) ∧ ∃ u, xs[i * 2 + 1]? = some u ∧ RdI w u rs[i]!.2
theorem CellsW.gb {w w' : World} {xs : List Value} {rs : List Rw} (h : CellsW w xs rs) (g : Gb w w') : CellsW w' xs rs := fun i hi => by
  obtain ⟨h1, u, h2, h3⟩ := h i hi
  exact ⟨h1, u, h2, h3.gb g⟩
theorem CellsW.snoc {w : World} {xs : List Value} {rs : List Rw} {r : Rw} {u : Value} (h : CellsW w xs rs) (hl : xs.length = rs.length * 2) (hu : RdI w u r.2) : CellsW w (xs ++ [.int .i64 r.1, u]) (rs ++ [r]) := fun i hi => by
  rw [List.length_append] at hi
  by_cases e : i < rs.length
  · rw [getElem!_pos (rs ++ [r]) i (by rw [List.length_append]; exact hi), List.getElem_append_left e, ← getElem!_pos rs i e, List.getElem?_append_left (by omega), List.getElem?_append_left (by omega)]
    exact h i e
  · have e' : i = rs.length := by simp at hi; omega
    subst e'
    have e2 : (rs ++ [r])[rs.length]! = r := by rw [getElem!_pos _ _ (by simp)]; simp
    rw [e2, List.getElem?_append_right (by omega), List.getElem?_append_right (by omega), hl]
    exact ⟨by simp, u, by rw [show rs.length * 2 + 1 - rs.length * 2 = 1 by omega]; rfl, hu⟩
/-- The call owns, in blocks from B on, a slice v of these rows, whose vectors are read in w. -/
def OwnW (w W : World) (B : Nat) (v : Value) (rs : List Rw) : Prop := ∃ xs, W.ownsRow B 49 2 v rs.length xs ∧ CellsW w xs rs
theorem ownW_nil (w W : World) (B : Nat) : OwnW w W B (.slice none 0 0) [] := ⟨[], World.ownsRow_nil W B _ _, fun _ hi => absurd hi (Nat.not_lt_zero _)⟩
theorem OwnW.kept {w W W' : World} {B : Nat} {v : Value} {rs : List Rw} {row : Option Nat} (h : OwnW w W B v rs) (hg : W.grownBy W' row) (hne : v.ownBlock = none ∨ v.ownBlock ≠ row) : OwnW w W' B v rs := by
  obtain ⟨xs, h1, h2⟩ := h
  exact ⟨xs, h1.kept hg hne, h2⟩
theorem OwnW.gb {w W W' : World} {B : Nat} {v : Value} {rs : List Rw} (h : OwnW w W B v rs) (g : Gb W W') : OwnW w W' B v rs :=
  h.kept (row := none) ⟨g.os, g.tape, g.output, g.size, fun k hk _ => g.block k hk⟩ (by cases hv : v.ownBlock <;> simp)
theorem OwnW.rdw {w W : World} {B : Nat} {v : Value} {rs : List Rw} (h : OwnW w W B v rs) (g : Gb w W) : RdW W v rs := by
  obtain ⟨xs, h, hx⟩ := h
  rcases h.2 with ⟨rfl, h0⟩ | ⟨b, cap, cur, rfl, _⟩
  · have : rs = [] := List.eq_nil_of_length_eq_zero h0
    subst this
    exact ⟨none, 0, rfl, fun i hi => absurd hi (Nat.not_lt_zero _)⟩
  · refine ⟨_, cap, rfl, fun i hi => ?_⟩
    obtain ⟨h1, u, h2, h3⟩ := hx i hi
    have c1 := World.ownsRow.cells h (g := b) rfl (i * 2) _ h1
    have c2 := World.ownsRow.cells h (g := b) rfl (i * 2 + 1) _ h2
    rw [Addr.add_lit] at c1 c2
    exact ⟨b, 0, u, rfl, c1, by rw [Nat.add_assoc]; exact c2, h3.gb g⟩
theorem OwnW.form {w W : World} {B : Nat} {v : Value} {rs : List Rw} (h : OwnW w W B v rs) : ∃ a cap, v = .slice a rs.length cap := by
  obtain ⟨xs, h, _⟩ := h
  rcases h.2 with ⟨rfl, h0⟩ | ⟨b, cap, cur, rfl, _⟩
  · exact ⟨none, 0, by rw [h0]⟩
  · exact ⟨_, cap, rfl⟩
theorem two_cells (w : World) (x y : Value) (t : TypeId) : ∀ j u, [x, y][j]? = some u → (w.alloc (.cells #[x, y] t)).cell? ((⟨w.heap.size, 0, none⟩ : Addr).add j) = some u := by
  intro j u hj
  rw [Addr.add_lit]
  rcases j with _ | _ | j <;> simp at hj
  · subst hj; simp [go_sem]
  · subst hj; simp [go_sem]
/-- A list of numbers and a list of rows never share a block. -/
theorem own_neW {w W : World} {B B' : Nat} {u v : Value} {x : List Int} {rs : List Rw} (h : Own W B u x) (r : OwnW w W B' v rs) : u.ownBlock = none ∨ u.ownBlock ≠ v.ownBlock := by
  obtain ⟨xs, r, _⟩ := r
  rcases h.2 with ⟨rfl, _⟩ | ⟨g, cap, cur, rfl, _, hh, _⟩
  · exact .inl rfl
  · refine .inr fun e => ?_
    rcases r.2 with ⟨rfl, _⟩ | ⟨g', cap', cur', rfl, _, hh', _⟩
    · cases e
    · cases e
      rw [hh] at hh'
      simp at hh'
theorem neW_own {w W : World} {B B' : Nat} {u v : Value} {x : List Int} {rs : List Rw} (h : Own W B u x) (r : OwnW w W B' v rs) : v.ownBlock = none ∨ v.ownBlock ≠ u.ownBlock := by
  rcases own_neW h r with e | e
  · rw [e]
    cases hv : v.ownBlock with
    | none => exact .inl rfl
    | some g => exact .inr (by simp)
  · exact .inr fun e' => e e'.symm
end Go.Proofs.YtbnljabeccebiabGreat
