/- What the walks over the reference's Add lean on. -/
import Derived.Test.YtblfmhdcgmkpgaaRWide
import Derived.Test.YtblfmhdcgmkpgaaSum
namespace Go.Proofs.Ytblfmhdcgmkpgaa
open Go.RowKit

theorem alloc_keeps4 {W : World} {p q r s : Addr} {x y u v : Value} {ob : Obj} (hs : W.cell? p = some x ∧ W.cell? q = some y ∧ W.cell? r = some u ∧ W.cell? s = some v) :
    (W.alloc ob).cell? p = some x ∧ (W.alloc ob).cell? q = some y ∧ (W.alloc ob).cell? r = some u ∧ (W.alloc ob).cell? s = some v := ⟨alloc_keeps hs.1 ob, alloc_keeps hs.2.1 ob, alloc_keeps hs.2.2.1 ob, alloc_keeps hs.2.2.2 ob⟩
theorem far9_keeps4 {W : World} {B : Nat} {p q r s : Addr} {x y u v : Value} (hp : B ≠ p.block) (hq : B ≠ q.block) (hr : B ≠ r.block) (hs : B ≠ s.block) (x0 x1 x2 x3 x4 x5 x6 x7 x8 : Value) (h : W.cell? p = some x ∧ W.cell? q = some y ∧ W.cell? r = some u ∧ W.cell? s = some v) :
    (((((((((W.setCell ⟨B, 0, none⟩ x0).setCell ⟨B, 1, none⟩ x1).setCell ⟨B, 2, none⟩ x2).setCell ⟨B, 3, none⟩ x3).setCell ⟨B, 4, none⟩ x4).setCell ⟨B, 5, none⟩ x5).setCell ⟨B, 6, none⟩ x6).setCell ⟨B, 7, none⟩ x7).setCell ⟨B, 8, none⟩ x8).cell? p = some x ∧ (((((((((W.setCell ⟨B, 0, none⟩ x0).setCell ⟨B, 1, none⟩ x1).setCell ⟨B, 2, none⟩ x2).setCell ⟨B, 3, none⟩ x3).setCell ⟨B, 4, none⟩ x4).setCell ⟨B, 5, none⟩ x5).setCell ⟨B, 6, none⟩ x6).setCell ⟨B, 7, none⟩ x7).setCell ⟨B, 8, none⟩ x8).cell? q = some y ∧ (((((((((W.setCell ⟨B, 0, none⟩ x0).setCell ⟨B, 1, none⟩ x1).setCell ⟨B, 2, none⟩ x2).setCell ⟨B, 3, none⟩ x3).setCell ⟨B, 4, none⟩ x4).setCell ⟨B, 5, none⟩ x5).setCell ⟨B, 6, none⟩ x6).setCell ⟨B, 7, none⟩ x7).setCell ⟨B, 8, none⟩ x8).cell? r = some u ∧ (((((((((W.setCell ⟨B, 0, none⟩ x0).setCell ⟨B, 1, none⟩ x1).setCell ⟨B, 2, none⟩ x2).setCell ⟨B, 3, none⟩ x3).setCell ⟨B, 4, none⟩ x4).setCell ⟨B, 5, none⟩ x5).setCell ⟨B, 6, none⟩ x6).setCell ⟨B, 7, none⟩ x7).setCell ⟨B, 8, none⟩ x8).cell? s = some v := by
  obtain ⟨h1, h2, h3, h4⟩ := h
  refine ⟨?_, ?_, ?_, ?_⟩
  · simp only [World.cell?_setCell_far _ ⟨B, _, none⟩ _ _ hp]; exact h1
  · simp only [World.cell?_setCell_far _ ⟨B, _, none⟩ _ _ hq]; exact h2
  · simp only [World.cell?_setCell_far _ ⟨B, _, none⟩ _ _ hr]; exact h3
  · simp only [World.cell?_setCell_far _ ⟨B, _, none⟩ _ _ hs]; exact h4
theorem NumAt.zero (w : World) (t : TypeId) : NumAt (w.alloc (.cells #[.int .i64 0, .int .i64 0, .int .i64 0, .int .i64 0, .int .i64 0, .int .i64 0, .int .i64 0, .int .i64 0, .bool false] t)) w.heap.size 0 false := NumAt.new w 0 false t
theorem NumAt.drew {w : World} {B n : Nat} {o : Bool} (h : NumAt w B n o) : NumAt w.drew B n o := h.call (Gr.refl _).drew
theorem sum_ok (n m : Nat) (h : n + m < 340282366920938463463374607431768211456) (w : World) :
    Calls Try.prog 58 #[Nm n false, Nm m false] w fun e w' => e = .returned (Nm (n + m) false) ∧ Gr w w' := by
  have := sum_any n m (by omega) (by omega) false false w
  rw [Nat.mod_eq_of_lt h, decide_eq_false (by omega)] at this
  exact this
theorem sum_no (n m : Nat) (hn : n < 340282366920938463463374607431768211456) (hm : m < 340282366920938463463374607431768211456) (h : 340282366920938463463374607431768211456 ≤ n + m) (w : World) :
    Calls Try.prog 58 #[Nm n false, Nm m false] w fun e w' => ∃ q : Nat, e = .returned (Nm q true) ∧ q < 340282366920938463463374607431768211456 ∧ Gr w w' := by
  refine (sum_any n m hn hm false false w).mono ?_
  rintro e w' ⟨rfl, g⟩
  rw [decide_eq_true h]
  exact ⟨_, rfl, Nat.mod_lt _ (by omega), g⟩

end Go.Proofs.Ytblfmhdcgmkpgaa
