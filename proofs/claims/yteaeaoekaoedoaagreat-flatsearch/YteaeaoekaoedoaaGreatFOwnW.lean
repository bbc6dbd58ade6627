/- Rows in a list of the call's own. -/
import Derived.Test.YteaeaoekaoedoaaGreatIds
import Derived.Laws.AppendOwnNone
namespace Go.Proofs.YteaeaoekaoedoaaGreat
open Go.RowKit Go.Sort Go.Maps

theorem Tryz.infoW : (Tryz.prog.info? 55).map (fun i => (i.zero, i.size, i.bytes)) = some (some (.agg #[.int .i64 0, .slice none 0 0]), 2, 32) := by kernel_rfl
theorem info_partsW : ∃ i0, Tryz.prog.info? 55 = some i0 ∧ i0.zero = some (.agg #[.int .i64 0, .slice none 0 0]) ∧ i0.size = 2 ∧ i0.bytes = 32 := by
  obtain ⟨i, hi, hzz⟩ := Option.map_eq_some_iff.1 Tryz.infoW
  simp only [Prod.mk.injEq] at hzz
  exact ⟨i, hi, hzz.1, hzz.2.1, hzz.2.2⟩
/-- The cells xs are these rows'; their vectors are read in w. -/
def CellsW (w : World) (xs : List Value) (rs : List Rw) : Prop := ∀ i, i < rs.length → xs[i * 2]? = some (.int .i64 rs[i]!.1) ∧ ∃ u, xs[i * 2 + 1]? = some u ∧ RdI w u rs[i]!.2
theorem CellsW.gb {w w' : World} {xs : List Value} {rs : List Rw} (h : CellsW w xs rs) (g : Gb w w') : CellsW w' xs rs := fun i hi => by
  obtain ⟨h1, u, h2, h3⟩ := h i hi
  exact ⟨h1, u, h2, h3.gb g⟩
theorem CellsW.snoc {w : World} {xs : List Value} {rs : List Rw} {r : Rw} {u : Value} (h : CellsW w xs rs) (hl : xs.length = rs.length * 2) (hu : RdI w u r.2) : CellsW w (xs ++ [.int .i64 r.1, u]) (rs ++ [r]) := fun i hi => by
  rw [List.length_append] at hi
  by_cases e : i < rs.length
  · rw [getElem!_pos (rs ++ [r]) i (by rw [List.length_append]; exact hi), List.getElem_append_left e, ← getElem!_pos rs i e, List.getElem?_append_left (by omega), List.getElem?_append_left (by omega)]
    exact h i e
  · have e' : i = rs.length := by simp at hi; omega
    subst e'
    have e2 : (rs ++ [r])[rs.length]! = r := by rw [getElem!_pos _ _ (by simp)]; simp
    rw [e2, List.getElem?_append_right (by omega), List.getElem?_append_right (by omega), hl]
    exact ⟨by simp, u, by rw [show rs.length * 2 + 1 - rs.length * 2 = 1 by omega]; rfl, hu⟩
/-- The call owns, in blocks from B on, a slice v of these rows, whose vectors are read in w. -/
def OwnW (w W : World) (B : Nat) (v : Value) (rs : List Rw) : Prop := ∃ xs, W.ownsRow B 55 2 v rs.length xs ∧ CellsW w xs rs
theorem ownW_nil (w W : World) (B : Nat) : OwnW w W B (.slice none 0 0) [] := ⟨[], World.ownsRow_nil W B _ _, fun _ hi => absurd hi (Nat.not_lt_zero _)⟩
theorem OwnW.kept {w W W' : World} {B : Nat} {v : Value} {rs : List Rw} {row : Option Nat} (h : OwnW w W B v rs) (hg : W.grownBy W' row) (hne : v.ownBlock = none ∨ v.ownBlock ≠ row) : OwnW w W' B v rs := by
  obtain ⟨xs, h1, h2⟩ := h
  exact ⟨xs, h1.kept hg hne, h2⟩
theorem OwnW.gb {w W W' : World} {B : Nat} {v : Value} {rs : List Rw} (h : OwnW w W B v rs) (g : Gb W W') : OwnW w W' B v rs :=
  h.kept (row := none) ⟨g.os, g.tape, g.output, g.size, fun k hk _ => g.block k hk⟩ (by cases hv : v.ownBlock <;> simp)
theorem OwnW.rdw {w W : World} {B : Nat} {v : Value} {rs : List Rw} (h : OwnW w W B v rs) (g : Gb w W) : RdW W v rs := by
  obtain ⟨xs, h, hx⟩ := h
  rcases h.2 with ⟨rfl, h0⟩ | ⟨b, cap, cur, rfl, _⟩
  · have : rs = [] := List.eq_nil_of_length_eq_zero h0
    subst this
    exact ⟨none, 0, rfl, fun i hi => absurd hi (Nat.not_lt_zero _)⟩
  · refine ⟨_, cap, rfl, fun i hi => ?_⟩
    obtain ⟨h1, u, h2, h3⟩ := hx i hi
    have c1 := World.ownsRow.cells h (g := b) rfl (i * 2) _ h1
    have c2 := World.ownsRow.cells h (g := b) rfl (i * 2 + 1) _ h2
    rw [Addr.add_lit] at c1 c2
    exact ⟨b, 0, u, rfl, c1, by rw [Nat.add_assoc]; exact c2, h3.gb g⟩
theorem OwnW.form {w W : World} {B : Nat} {v : Value} {rs : List Rw} (h : OwnW w W B v rs) : ∃ a cap, v = .slice a rs.length cap := by
  obtain ⟨xs, h, _⟩ := h
  rcases h.2 with ⟨rfl, h0⟩ | ⟨b, cap, cur, rfl, _⟩
  · exact ⟨none, 0, by rw [h0]⟩
  · exact ⟨_, cap, rfl⟩
theorem two_cells (w : World) (x y : Value) (t : TypeId) : ∀ j u, [x, y][j]? = some u → (w.alloc (.cells #[x, y] t)).cell? ((⟨w.heap.size, 0, none⟩ : Addr).add j) = some u := by
  intro j u hj
  rw [Addr.add_lit]
  rcases j with _ | _ | j <;> simp at hj
  · subst hj; simp [go_sem]
  · subst hj; simp [go_sem]
/-- A list of numbers and a list of rows never share a block. -/
theorem own_neW {w W : World} {B B' : Nat} {u v : Value} {x : List Int} {rs : List Rw} (h : Own W B u x) (r : OwnW w W B' v rs) : u.ownBlock = none ∨ u.ownBlock ≠ v.ownBlock := by
  obtain ⟨xs, r, _⟩ := r
  rcases h.2 with ⟨rfl, _⟩ | ⟨g, cap, cur, rfl, _, hh, _⟩
  · exact .inl rfl
  · refine .inr fun e => ?_
    rcases r.2 with ⟨rfl, _⟩ | ⟨g', cap', cur', rfl, _, hh', _⟩
    · cases e
    · cases e
      rw [hh] at hh'
      simp at hh'
theorem neW_own {w W : World} {B B' : Nat} {u v : Value} {x : List Int} {rs : List Rw} (h : Own W B u x) (r : OwnW w W B' v rs) : v.ownBlock = none ∨ v.ownBlock ≠ u.ownBlock := by
  rcases own_neW h r with e | e
  · rw [e]
    cases hv : v.ownBlock with
    | none => exact .inl rfl
    | some g => exact .inr (by simp)
  · exact .inr fun e' => e e'.symm
end Go.Proofs.YteaeaoekaoedoaaGreat
