/- Plain facts on words and on numbers of two words, and the relation that says what a call may do to memory. -/
import Derived.Test.YtcbhhdjjanekaaaGreatDoorProg
import Derived.WalkKit
import Derived.WalkSpells
import Derived.WalkLawsBesides
import Derived.Laws.Externs
import Derived.RowKit3
import Derived.WalkSmall
import Derived.Deep.RegionHeld3
import Derived.Handy
namespace Go.Proofs.YtcbhhdjjanekaaaGreatDoor
open Go.RowKit

/-- Nothing that was there has turned: new blocks, stores into those, draws. -/
structure Gr (w w' : World) : Prop where
  below : Below w.heap.size w w'
  froz : ∀ a, w'.frozen? a = w.frozen? a

theorem Gr.refl (w : World) : Gr w w := ⟨Below.refl _ _, fun _ => rfl⟩
theorem Gr.trans {a b c : World} (h : Gr a b) (k : Gr b c) : Gr a c :=
  ⟨h.below.trans (k.below.mono h.below.size), fun x => (k.froz x).trans (h.froz x)⟩
theorem Gr.alloc {a w : World} (h : Gr a w) (c : Array Value) (t : TypeId) : Gr a (w.alloc (.cells c t)) :=
  ⟨h.below.alloc h.below.size _, fun x => (frozen?_alloc_cells _ _ _ x).trans (h.froz x)⟩
theorem Gr.setCell {a w : World} (h : Gr a w) {p : Addr} (hp : a.heap.size ≤ p.block) (u : Value) : Gr a (w.setCell p u) :=
  ⟨h.below.setCell hp u, fun x => (World.frozen?_setCell _ _ _ _).trans (h.froz x)⟩
theorem Gr.drew {a w : World} (h : Gr a w) : Gr a w.drew := ⟨h.below.drew, h.froz⟩
theorem Gr.size {a b : World} (h : Gr a b) : a.heap.size ≤ b.heap.size := h.below.size
theorem Gr.cell {a b : World} (h : Gr a b) : ∀ k o, k < a.heap.size → b.cell? ⟨k, o, none⟩ = a.cell? ⟨k, o, none⟩ :=
  fun k o hk => h.below.cell (p := ⟨k, o, none⟩) hk

theorem Gr.drewN {a w : World} (h : Gr a w) (n : Nat) : Gr a (w.drewN n) := ⟨below_drewN h.below n, h.froz⟩
theorem Gr.rules {a b : World} (h : Gr a b) : (∀ k o, k < a.heap.size → b.cell? ⟨k, o, none⟩ = a.cell? ⟨k, o, none⟩) ∧ (∀ p, b.frozen? p = a.frozen? p) ∧ (∀ k, k < a.heap.size → k < b.heap.size) :=
  ⟨h.cell, h.froz, fun _ hk => Nat.lt_of_lt_of_le hk h.size⟩

/-- A cell that is there stays as it is. -/
theorem Gr.keeps {a b : World} (h : Gr a b) {p : Addr} {v : Value} (hc : a.cell? p = some v) : b.cell? p = some v :=
  (h.below.cell (World.block_lt_of_cell? a p hc)).trans hc
theorem alloc_keeps {a : World} {p : Addr} {v : Value} (hc : a.cell? p = some v) (o : Obj) : (a.alloc o).cell? p = some v :=
  (World.cell?_alloc_lt _ _ _ (World.block_lt_of_cell? a p hc)).trans hc
/-- Two cells that are there: behind a call, behind a new block, behind a store into a block that was made when they were there. -/
theorem call_keeps2 {W w' : World} {p q : Addr} {u v : Value} (h : Gr W w') (hs : W.cell? p = some u ∧ W.cell? q = some v) : w'.cell? p = some u ∧ w'.cell? q = some v := ⟨h.keeps hs.1, h.keeps hs.2⟩
theorem alloc_keeps2 {W : World} {p q : Addr} {u v : Value} {o : Obj} (hs : W.cell? p = some u ∧ W.cell? q = some v) : (W.alloc o).cell? p = some u ∧ (W.alloc o).cell? q = some v := ⟨alloc_keeps hs.1 o, alloc_keeps hs.2 o⟩
theorem set_keeps {W0 W : World} {p : Addr} {u : Value} {o : Nat} {x : Value} (h0 : W0.cell? p = some u) (h : W.cell? p = some u) : (W.setCell ⟨W0.heap.size, o, none⟩ x).cell? p = some u :=
  (World.cell?_setCell_far W _ p x (World.new_ne W0 p h0)).trans h
theorem set_keeps2 {W0 W : World} {p q : Addr} {u v : Value} {o : Nat} {x : Value} (h0 : W0.cell? p = some u ∧ W0.cell? q = some v) (h : W.cell? p = some u ∧ W.cell? q = some v) :
    (W.setCell ⟨W0.heap.size, o, none⟩ x).cell? p = some u ∧ (W.setCell ⟨W0.heap.size, o, none⟩ x).cell? q = some v := ⟨set_keeps h0.1 h.1, set_keeps h0.2 h.2⟩
theorem set_far2 {W : World} {p q : Addr} {u v : Value} {b o : Nat} {x : Value} (hp : b ≠ p.block) (hq : b ≠ q.block) (h : W.cell? p = some u ∧ W.cell? q = some v) :
    (W.setCell ⟨b, o, none⟩ x).cell? p = some u ∧ (W.setCell ⟨b, o, none⟩ x).cell? q = some v := ⟨(World.cell?_setCell_far W _ p x hp).trans h.1, (World.cell?_setCell_far W _ q x hq).trans h.2⟩
/-- A variable of two words, made last of all: still there, and open to stores, behind calls. -/
theorem Gr.var2 {w w' : World} {x y : Value} {t : TypeId} (h : Gr (w.alloc (.cells #[x, y] t)) w') :
    w'.cell? ⟨w.heap.size, 0, none⟩ = some x ∧ w'.cell? ⟨w.heap.size, 1, none⟩ = some y ∧ w'.frozen? ⟨w.heap.size, 0, none⟩ = false ∧ w'.frozen? ⟨w.heap.size, 1, none⟩ = false :=
  ⟨h.keeps (by simp [go_sem]), h.keeps (by simp [go_sem]), (h.froz _).trans (by simp [go_sem]), (h.froz _).trans (by simp [go_sem])⟩
theorem lt_two (n : Nat) : n < n + 1 + 1 := by omega
theorem lt_three (n : Nat) : n < n + 1 + 1 + 1 := by omega
theorem cell_lt {a : World} {p : Addr} {v : Value} (hc : a.cell? p = some v) : p.block < a.heap.size := World.block_lt_of_cell? a p hc

/-- The high and the low word of a number. -/
def hi (n : Nat) : Int := ((n / 18446744073709551616 : Nat) : Int)
def lo (n : Nat) : Int := ((n % 18446744073709551616 : Nat) : Int)
/-- A number of two words as the program's struct. -/
abbrev Wd (n : Nat) : Value := .agg #[.int .u64 (hi n), .int .u64 (lo n)]

theorem lo_bd (n : Nat) : 0 ≤ lo n ∧ lo n < 18446744073709551616 := by unfold lo; omega
theorem hi_nn (n : Nat) : 0 ≤ hi n := by unfold hi; omega
theorem hi_bd {n : Nat} (h : n < 340282366920938463463374607431768211456) : 0 ≤ hi n ∧ hi n < 18446744073709551616 := by unfold hi; omega
theorem hi_lo (h l : Int) (h0 : 0 ≤ h) (l0 : 0 ≤ l) (l1 : l < 18446744073709551616) : hi (h * 18446744073709551616 + l).toNat = h ∧ lo (h * 18446744073709551616 + l).toNat = l := by
  unfold hi lo; omega
theorem wd_lt (h l : Int) (h1 : h < 18446744073709551616) (l1 : l < 18446744073709551616) : (h * 18446744073709551616 + l).toNat < 340282366920938463463374607431768211456 := by omega

/-! math/bits.Add64, Sub64 at this program's numbers, over Int -/
theorem ret_bool {a b : Bool} (h : a = b) : Ending.returned (.bool a) = .returned (.bool b) := by rw [h]

theorem small_wd (d : Nat) (h : d < 18446744073709551616) : (Value.agg #[.int .u64 0, .int .u64 (d : Int)]) = Wd d := by
  have e1 : hi d = 0 := by unfold hi; omega
  have e2 : lo d = (d : Int) := by unfold lo; omega
  rw [Wd, e1, e2]

/-- Two parameters of two words each, behind calls. -/
theorem Gr.args2 {w w' : World} {x y u v : Value} {t s : TypeId} (h : Gr ((w.alloc (.cells #[x, y] t)).alloc (.cells #[u, v] s)) w') :
    w'.cell? ⟨w.heap.size, 0, none⟩ = some x ∧ w'.cell? ⟨w.heap.size, 1, none⟩ = some y ∧ w'.cell? ⟨w.heap.size + 1, 0, none⟩ = some u ∧ w'.cell? ⟨w.heap.size + 1, 1, none⟩ = some v :=
  ⟨h.keeps (by simp [go_sem]), h.keeps (by simp [go_sem]), h.keeps (by simp [go_sem]), h.keeps (by simp [go_sem])⟩

theorem call_keeps4 {W w' : World} {p q r s : Addr} {x y u v : Value} (h : Gr W w') (hs : W.cell? p = some x ∧ W.cell? q = some y ∧ W.cell? r = some u ∧ W.cell? s = some v) :
    w'.cell? p = some x ∧ w'.cell? q = some y ∧ w'.cell? r = some u ∧ w'.cell? s = some v := ⟨h.keeps hs.1, h.keeps hs.2.1, h.keeps hs.2.2.1, h.keeps hs.2.2.2⟩
end Go.Proofs.YtcbhhdjjanekaaaGreatDoor
