/- The reference's numbers of eight digits in memory; Of, as a contract. -/
import Derived.Test.YtepjbdklljlecaaGreatVa0
namespace Go.Proofs.YtepjbdklljlecaaGreat
open Go.RowKit

/-- Digit number i to the base of 65536. -/
def dd (n i : Nat) : Int := ((n / 65536 ^ i % 65536 : Nat) : Int)
/-- A number of eight digits as the reference's struct. -/
abbrev Nm (n : Nat) (o : Bool) : Value := .agg #[.int .i64 (dd n 0), .int .i64 (dd n 1), .int .i64 (dd n 2), .int .i64 (dd n 3), .int .i64 (dd n 4), .int .i64 (dd n 5), .int .i64 (dd n 6), .int .i64 (dd n 7), .bool o]
/-- Block B holds the number n and the mark o. -/
structure NumAt (w : World) (B n : Nat) (o : Bool) : Prop where
  d : ∀ j, j < 8 → w.cell? ⟨B, j, none⟩ = some (.int .i64 (dd n j))
  o : w.cell? ⟨B, 8, none⟩ = some (.bool o)
  f : ∀ j, j < 9 → w.frozen? ⟨B, j, none⟩ = false
theorem NumAt.call {w w' : World} {B n : Nat} {o : Bool} (h : NumAt w B n o) (g : Gr w w') : NumAt w' B n o :=
  ⟨fun j hj => g.keeps (h.d j hj), g.keeps h.o, fun j hj => (g.froz _).trans (h.f j hj)⟩
theorem NumAt.far {w : World} {B n : Nat} {o : Bool} (h : NumAt w B n o) (b k : Nat) (hb : b ≠ B) (x : Value) : NumAt (w.setCell ⟨b, k, none⟩ x) B n o :=
  ⟨fun j hj => (World.cell?_setCell_far w _ _ x hb).trans (h.d j hj), (World.cell?_setCell_far w _ _ x hb).trans h.o, fun j hj => (World.frozen?_setCell _ _ _ _).trans (h.f j hj)⟩
theorem NumAt.cells {w : World} {B n : Nat} {o : Bool} (h : NumAt w B n o) :
    w.cell? ⟨B, 0, none⟩ = some (.int .i64 (dd n 0)) ∧ w.cell? ⟨B, 1, none⟩ = some (.int .i64 (dd n 1)) ∧ w.cell? ⟨B, 2, none⟩ = some (.int .i64 (dd n 2)) ∧ w.cell? ⟨B, 3, none⟩ = some (.int .i64 (dd n 3)) ∧
    w.cell? ⟨B, 4, none⟩ = some (.int .i64 (dd n 4)) ∧ w.cell? ⟨B, 5, none⟩ = some (.int .i64 (dd n 5)) ∧ w.cell? ⟨B, 6, none⟩ = some (.int .i64 (dd n 6)) ∧ w.cell? ⟨B, 7, none⟩ = some (.int .i64 (dd n 7)) ∧ w.cell? ⟨B, 8, none⟩ = some (.bool o) :=
  ⟨h.d 0 (by omega), h.d 1 (by omega), h.d 2 (by omega), h.d 3 (by omega), h.d 4 (by omega), h.d 5 (by omega), h.d 6 (by omega), h.d 7 (by omega), h.o⟩
/-- A new block that is made of a number. -/
theorem NumAt.new (w : World) (n : Nat) (o : Bool) (t : TypeId) : NumAt (w.alloc (.cells #[.int .i64 (dd n 0), .int .i64 (dd n 1), .int .i64 (dd n 2), .int .i64 (dd n 3), .int .i64 (dd n 4), .int .i64 (dd n 5), .int .i64 (dd n 6), .int .i64 (dd n 7), .bool o] t)) w.heap.size n o := by
  refine ⟨fun j hj => ?_, by simp [go_sem], fun j _ => by simp [go_sem]⟩
  rw [World.cell?_alloc_at _ _ _ _ rfl]
  have : j = 0 ∨ j = 1 ∨ j = 2 ∨ j = 3 ∨ j = 4 ∨ j = 5 ∨ j = 6 ∨ j = 7 := by omega
  rcases this with rfl | rfl | rfl | rfl | rfl | rfl | rfl | rfl <;> rfl
/-- A number that is stored over another one. -/
theorem NumAt.store {w : World} {B n : Nat} {o : Bool} (h : NumAt w B n o) (m : Nat) (p : Bool) :
    NumAt (((((((((w.setCell ⟨B, 0, none⟩ (.int .i64 (dd m 0))).setCell ⟨B, 1, none⟩ (.int .i64 (dd m 1))).setCell ⟨B, 2, none⟩ (.int .i64 (dd m 2))).setCell ⟨B, 3, none⟩ (.int .i64 (dd m 3))).setCell ⟨B, 4, none⟩ (.int .i64 (dd m 4))).setCell ⟨B, 5, none⟩ (.int .i64 (dd m 5))).setCell ⟨B, 6, none⟩ (.int .i64 (dd m 6))).setCell ⟨B, 7, none⟩ (.int .i64 (dd m 7))).setCell ⟨B, 8, none⟩ (.bool p)) B m p := by
  obtain ⟨c0, c1, c2, c3, c4, c5, c6, c7, c8⟩ := h.cells
  refine ⟨fun j hj => ?_, by simp [go_sem, c8], fun j hj => ?_⟩
  · have : j = 0 ∨ j = 1 ∨ j = 2 ∨ j = 3 ∨ j = 4 ∨ j = 5 ∨ j = 6 ∨ j = 7 := by omega
    rcases this with rfl | rfl | rfl | rfl | rfl | rfl | rfl | rfl <;> simp [go_sem, *]
  · simp only [World.frozen?_setCell]; exact h.f j hj

end Go.Proofs.YtepjbdklljlecaaGreat
