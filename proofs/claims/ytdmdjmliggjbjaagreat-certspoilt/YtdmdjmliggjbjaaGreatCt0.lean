import Derived.Test.YtdmdjmliggjbjaaGreatProg
import Derived.WalkKit
import Derived.WalkSpells
import Derived.WalkLawsBesides
import Derived.Laws.Externs
import Derived.RowKit3
import Derived.WalkSmall
import Derived.Deep.RegionHeld3
import Derived.Handy
/- Plain facts on words and on numbers of two words, and the relation that says what a call may do to memory. -/
namespace Go.Proofs.YtdmdjmliggjbjaaGreat
open Go.RowKit

/-- Nothing that was there has turned: new blocks, stores into those, draws. -/
structure Gr (w w' : World) : Prop where
  below : Below w.heap.size w w'
  froz : ∀ a, w'.frozen? a = w.frozen? a

theorem Gr.refl (w : World) : Gr w w := ⟨Below.refl _ _, fun _ => rfl⟩
theorem Gr.trans {a b c : World} (h : Gr a b) (k : Gr b c) : Gr a c :=
  ⟨h.below.trans (k.below.mono h.below.size), fun x => (k.froz x).trans (h.froz x)⟩
theorem Gr.alloc {a w : World} (h : Gr a w) (c : Array Value) (t : TypeId) : Gr a (w.alloc (.cells c t)) :=
  ⟨h.below.alloc h.below.size _, fun x => (frozen?_alloc_cells _ _ _ x).trans (h.froz x)⟩
theorem Gr.setCell {a w : World} (h : Gr a w) {p : Addr} (hp : a.heap.size ≤ p.block) (u : Value) : Gr a (w.setCell p u) :=
  ⟨h.below.setCell hp u, fun x => (World.frozen?_setCell _ _ _ _).trans (h.froz x)⟩
theorem Gr.drew {a w : World} (h : Gr a w) : Gr a w.drew := ⟨h.below.drew, h.froz⟩
theorem Gr.size {a b : World} (h : Gr a b) : a.heap.size ≤ b.heap.size := h.below.size
theorem Gr.cell {a b : World} (h : Gr a b) : ∀ k o, k < a.heap.size → b.cell? ⟨k, o, none⟩ = a.cell? ⟨k, o, none⟩ :=
  fun k o hk => h.below.cell (p := ⟨k, o, none⟩) hk

theorem Gr.drewN {a w : World} (h : Gr a w) (n : Nat) : Gr a (w.drewN n) := ⟨below_drewN h.below n, h.froz⟩
theorem Gr.rules {a b : World} (h : Gr a b) : (∀ k o, k < a.heap.size → b.cell? ⟨k, o, none⟩ = a.cell? ⟨k, o, none⟩) ∧ (∀ p, b.frozen? p = a.frozen? p) ∧ (∀ k, k < a.heap.size → k < b.heap.size) :=
  ⟨h.cell, h.froz, fun _ hk => Nat.lt_of_lt_of_le hk h.size⟩

/-- A cell that is there stays as it is. -/
theorem Gr.keeps {a b : World} (h : Gr a b) {p : Addr} {v : Value} (hc : a.cell? p = some v) : b.cell? p = some v :=
  (h.below.cell (World.block_lt_of_cell? a p hc)).trans hc
theorem alloc_keeps {a : World} {p : Addr} {v : Value} (hc : a.cell? p = some v) (o : Obj) : (a.alloc o).cell? p = some v :=
  (World.cell?_alloc_lt _ _ _ (World.block_lt_of_cell? a p hc)).trans hc
/-- Two cells that are there: behind a call, behind a new block, behind a store into a block that was made when they were there. -/
theorem call_keeps2 {W w' : World} {p q : Addr} {u v : Value} (h : Gr W w') (hs : W.cell? p = some u ∧ W.cell? q = some v) : w'.cell? p = some u ∧ w'.cell? q = some v := ⟨h.keeps hs.1, h.keeps hs.2⟩
theorem alloc_keeps2 {W : World} {p q : Addr} {u v : Value} {o : Obj} (hs : W.cell? p = some u ∧ W.cell? q = some v) : (W.alloc o).cell? p = some u ∧ (W.alloc o).cell? q = some v := ⟨alloc_keeps hs.1 o, alloc_keeps hs.2 o⟩
theorem set_keeps {W0 W : World} {p : Addr} {u : Value} {o : Nat} {x : Value} (h0 : W0.cell? p = some u) (h : W.cell? p = some u) : (W.setCell ⟨W0.heap.size, o, none⟩ x).cell? p = some u :=
  (World.cell?_setCell_far W _ p x (World.new_ne W0 p h0)).trans h
theorem set_keeps2 {W0 W : World} {p q : Addr} {u v : Value} {o : Nat} {x : Value} (h0 : W0.cell? p = some u ∧ W0.cell? q = some v) (h : W.cell? p = some u ∧ W.cell? q = some v) :
    (W.setCell ⟨W0.heap.size, o, none⟩ x).cell? p = some u ∧ (W.setCell ⟨W0.heap.size, o, none⟩ x).cell? q = some v := ⟨set_keeps h0.1 h.1, set_keeps h0.2 h.2⟩
theorem set_far2 {W : World} {p q : Addr} {u v : Value} {b o : Nat} {x : Value} (hp : b ≠ p.block) (hq : b ≠ q.block) (h : W.cell? p = some u ∧ W.cell? q = some v) :
    (W.setCell ⟨b, o, none⟩ x).cell? p = some u ∧ (W.setCell ⟨b, o, none⟩ x).cell? q = some v := ⟨(World.cell?_setCell_far W _ p x hp).trans h.1, (World.cell?_setCell_far W _ q x hq).trans h.2⟩
/-- A variable of two words, made last of all: still there, and open to stores, behind calls. -/
theorem Gr.var2 {w w' : World} {x y : Value} {t : TypeId} (h : Gr (w.alloc (.cells #[x, y] t)) w') :
    w'.cell? ⟨w.heap.size, 0, none⟩ = some x ∧ w'.cell? ⟨w.heap.size, 1, none⟩ = some y ∧ w'.frozen? ⟨w.heap.size, 0, none⟩ = false ∧ w'.frozen? ⟨w.heap.size, 1, none⟩ = false :=
  ⟨h.keeps (by simp [go_sem]), h.keeps (by simp [go_sem]), (h.froz _).trans (by simp [go_sem]), (h.froz _).trans (by simp [go_sem])⟩
theorem lt_two (n : Nat) : n < n + 1 + 1 := by omega
theorem lt_three (n : Nat) : n < n + 1 + 1 + 1 := by omega
theorem cell_lt {a : World} {p : Addr} {v : Value} (hc : a.cell? p = some v) : p.block < a.heap.size := World.block_lt_of_cell? a p hc

/-- The high and the low word of a number. -/
def hi (n : Nat) : Int := ((n / 18446744073709551616 : Nat) : Int)
def lo (n : Nat) : Int := ((n % 18446744073709551616 : Nat) : Int)
/-- A number of two words as the program's struct. -/
abbrev Wd (n : Nat) : Value := .agg #[.int .u64 (hi n), .int .u64 (lo n)]

theorem lo_bd (n : Nat) : 0 ≤ lo n ∧ lo n < 18446744073709551616 := by unfold lo; omega
theorem hi_nn (n : Nat) : 0 ≤ hi n := by unfold hi; omega
theorem hi_bd {n : Nat} (h : n < 340282366920938463463374607431768211456) : 0 ≤ hi n ∧ hi n < 18446744073709551616 := by unfold hi; omega
theorem hi_lo (h l : Int) (h0 : 0 ≤ h) (l0 : 0 ≤ l) (l1 : l < 18446744073709551616) : hi (h * 18446744073709551616 + l).toNat = h ∧ lo (h * 18446744073709551616 + l).toNat = l := by
  unfold hi lo; omega
theorem wd_lt (h l : Int) (h1 : h < 18446744073709551616) (l1 : l < 18446744073709551616) : (h * 18446744073709551616 + l).toNat < 340282366920938463463374607431768211456 := by omega

/-! math/bits.Add64, Sub64 at this program's numbers, over Int -/
theorem add64 (x y c : Int) (hx : 0 ≤ x) (hy : 0 ≤ y) (hc0 : 0 ≤ c) (hc : c ≤ 1) (w : World) : (callFunc 143 #[.int .u64 x, .int .u64 y, .int .u64 c]).run Tryz.prog w =
    .ok (.value (.tuple #[.int .u64 ((x + y + c) % 18446744073709551616), .int .u64 ((x + y + c) / 18446744073709551616)])) w := by
  rw [run_callFunc_extern Tryz.func143 (by kernel_rfl) (by kernel_rfl) (by kernel_rfl) (e := add64Entry) (by kernel_rfl), run_add64 x y c hx hy hc0 hc]
  simp only [Result.andThen]






theorem add64_0 (x y : Int) (hx : 0 ≤ x) (hy : 0 ≤ y) (w : World) : (callFunc 143 #[.int .u64 x, .int .u64 y, .int .u64 0]).run Tryz.prog w =
    .ok (.value (.tuple #[.int .u64 ((x + y) % 18446744073709551616), .int .u64 ((x + y) / 18446744073709551616)])) w := by
  simpa using add64 x y 0 hx hy (Int.le_refl 0) (by decide) w


theorem ret_bool {a b : Bool} (h : a = b) : Ending.returned (.bool a) = .returned (.bool b) := by rw [h]

theorem small_wd (d : Nat) (h : d < 18446744073709551616) : (Value.agg #[.int .u64 0, .int .u64 (d : Int)]) = Wd d := by
  have e1 : hi d = 0 := by unfold hi; omega
  have e2 : lo d = (d : Int) := by unfold lo; omega
  rw [Wd, e1, e2]

/-- Two parameters of two words each, behind calls. -/
theorem Gr.args2 {w w' : World} {x y u v : Value} {t s : TypeId} (h : Gr ((w.alloc (.cells #[x, y] t)).alloc (.cells #[u, v] s)) w') :
    w'.cell? ⟨w.heap.size, 0, none⟩ = some x ∧ w'.cell? ⟨w.heap.size, 1, none⟩ = some y ∧ w'.cell? ⟨w.heap.size + 1, 0, none⟩ = some u ∧ w'.cell? ⟨w.heap.size + 1, 1, none⟩ = some v :=
  ⟨h.keeps (by simp [go_sem]), h.keeps (by simp [go_sem]), h.keeps (by simp [go_sem]), h.keeps (by simp [go_sem])⟩

theorem call_keeps4 {W w' : World} {p q r s : Addr} {x y u v : Value} (h : Gr W w') (hs : W.cell? p = some x ∧ W.cell? q = some y ∧ W.cell? r = some u ∧ W.cell? s = some v) :
    w'.cell? p = some x ∧ w'.cell? q = some y ∧ w'.cell? r = some u ∧ w'.cell? s = some v := ⟨h.keeps hs.1, h.keeps hs.2.1, h.keeps hs.2.2.1, h.keeps hs.2.2.2⟩
end Go.Proofs.YtdmdjmliggjbjaaGreat

/- wide.Add, wide.Sub, wide.Cmp and the law's own lo, as contracts. -/
namespace Go.Proofs.YtdmdjmliggjbjaaGreat
open Go.RowKit

set_option maxHeartbeats 400000 in
theorem addc_ok (ah al bh bl : Int) (a0 : 0 ≤ ah) (b0 : 0 ≤ al) (b1 : al < 18446744073709551616) (c0 : 0 ≤ bh) (d0 : 0 ≤ bl) (d1 : bl < 18446744073709551616)
    (hlt : (ah + bh + (al + bl) / 18446744073709551616) / 18446744073709551616 = 0) (w : World) :
    Calls Tryz.prog 134 #[.agg #[.int .u64 ah, .int .u64 al], .agg #[.int .u64 bh, .int .u64 bl]] w fun e w' =>
      e = .returned (.tuple #[.agg #[.int .u64 ((ah + bh + (al + bl) / 18446744073709551616) % 18446744073709551616), .int .u64 ((al + bl) % 18446744073709551616)], .int .i64 0]) ∧ Gr w w' := by
  have k0 : 0 ≤ (al + bl) / 18446744073709551616 := by omega
  have k1 : (al + bl) / 18446744073709551616 ≤ 1 := by omega
  go_enter Tryz.func134, Tryz.ntmps134
  go_wp2_with (first | simp only [add64_0 al bl b0 d0] | simp only [add64 ah bh _ a0 c0 k0 k1])
  exact bodyPost_ret (v := .tuple #[.agg #[.int .u64 ((ah + bh + (al + bl) / 18446744073709551616) % 18446744073709551616), .int .u64 ((al + bl) % 18446744073709551616)], .int .i64 0]) (by simp [results, Tryz.results134, go_sem]) rfl
    ⟨rfl, (((Gr.refl _).alloc _ _).alloc _ _).alloc _ _⟩



theorem add_ok (a b : Nat) (h : a + b < 340282366920938463463374607431768211456) (w : World) :
    Calls Tryz.prog 134 #[Wd a, Wd b] w fun e w' => e = .returned (.tuple #[Wd (a + b), .int .i64 0]) ∧ Gr w w' := by
  have e1 : (hi a + hi b + (lo a + lo b) / 18446744073709551616) % 18446744073709551616 = hi (a + b) := by unfold hi lo; omega
  have e2 : (lo a + lo b) % 18446744073709551616 = lo (a + b) := by unfold lo; omega
  have e3 : (hi a + hi b + (lo a + lo b) / 18446744073709551616) / 18446744073709551616 = 0 := by unfold hi lo; omega
  have := addc_ok (hi a) (lo a) (hi b) (lo b) (hi_nn a) (lo_bd a).1 (lo_bd a).2 (hi_nn b) (lo_bd b).1 (lo_bd b).2 e3 w
  rw [e1, e2] at this
  exact this











set_option maxHeartbeats 400000 in
theorem cmpc_eq (ah al : Int) (w : World) :
    Calls Tryz.prog 67 #[.agg #[.int .u64 ah, .int .u64 al], .agg #[.int .u64 ah, .int .u64 al]] w fun e w' => e = .returned (.int .i64 0) ∧ Gr w w' := by
  go_enter Tryz.func67, Tryz.ntmps67
  go_wp2
  go_ret
  exact ⟨rfl, ((Gr.refl _).alloc _ _).alloc _ _⟩

set_option maxHeartbeats 400000 in
theorem cmpc_hi (ah al bh bl : Int) (h : ah < bh) (w : World) :
    Calls Tryz.prog 67 #[.agg #[.int .u64 ah, .int .u64 al], .agg #[.int .u64 bh, .int .u64 bl]] w fun e w' => e = .returned (.int .i64 (-1)) ∧ Gr w w' := by
  have h1 : (ah == bh) = false := by rw [beq_eq_false_iff_ne]; omega
  go_enter Tryz.func67, Tryz.ntmps67
  go_wp2
  go_ret
  exact ⟨rfl, ((Gr.refl _).alloc _ _).alloc _ _⟩

set_option maxHeartbeats 400000 in
theorem cmpc_hi' (ah al bh bl : Int) (h : bh < ah) (w : World) :
    Calls Tryz.prog 67 #[.agg #[.int .u64 ah, .int .u64 al], .agg #[.int .u64 bh, .int .u64 bl]] w fun e w' => e = .returned (.int .i64 1) ∧ Gr w w' := by
  have h1 : (ah == bh) = false := by rw [beq_eq_false_iff_ne]; omega
  go_enter Tryz.func67, Tryz.ntmps67
  go_wp2
  go_ret
  exact ⟨rfl, ((Gr.refl _).alloc _ _).alloc _ _⟩

set_option maxHeartbeats 400000 in
theorem cmpc_lo (ah al bl : Int) (h : al < bl) (w : World) :
    Calls Tryz.prog 67 #[.agg #[.int .u64 ah, .int .u64 al], .agg #[.int .u64 ah, .int .u64 bl]] w fun e w' => e = .returned (.int .i64 (-1)) ∧ Gr w w' := by
  have h1 : (al == bl) = false := by rw [beq_eq_false_iff_ne]; omega
  go_enter Tryz.func67, Tryz.ntmps67
  go_wp2
  go_ret
  exact ⟨rfl, ((Gr.refl _).alloc _ _).alloc _ _⟩

set_option maxHeartbeats 400000 in
theorem cmpc_lo' (ah al bl : Int) (h : bl < al) (w : World) :
    Calls Tryz.prog 67 #[.agg #[.int .u64 ah, .int .u64 al], .agg #[.int .u64 ah, .int .u64 bl]] w fun e w' => e = .returned (.int .i64 1) ∧ Gr w w' := by
  have h1 : (al == bl) = false := by rw [beq_eq_false_iff_ne]; omega
  go_enter Tryz.func67, Tryz.ntmps67
  go_wp2
  go_ret
  exact ⟨rfl, ((Gr.refl _).alloc _ _).alloc _ _⟩

/-- -1, 0 or 1. -/
def cmp3 (a b : Nat) : Int := if a < b then -1 else if a = b then 0 else 1

theorem cmp_any (a b : Nat) (w : World) :
    Calls Tryz.prog 67 #[Wd a, Wd b] w fun e w' => e = .returned (.int .i64 (cmp3 a b)) ∧ Gr w w' := by
  by_cases h1 : hi a < hi b
  · have e : cmp3 a b = -1 := by unfold cmp3; rw [if_pos]; unfold hi at h1; omega
    rw [e]; exact cmpc_hi _ _ _ _ h1 w
  by_cases h2 : hi b < hi a
  · have e : cmp3 a b = 1 := by unfold cmp3; unfold hi at h1 h2; rw [if_neg (by omega), if_neg (by omega)]
    rw [e]; exact cmpc_hi' _ _ _ _ h2 w
  have h3 : hi b = hi a := by omega
  by_cases h4 : lo a < lo b
  · have e : cmp3 a b = -1 := by unfold cmp3; rw [if_pos]; unfold hi lo at *; omega
    rw [e, Wd, Wd, h3]; exact cmpc_lo _ _ _ h4 w
  by_cases h5 : lo b < lo a
  · have e : cmp3 a b = 1 := by unfold cmp3; unfold hi lo at *; rw [if_neg (by omega), if_neg (by omega)]
    rw [e, Wd, Wd, h3]; exact cmpc_lo' _ _ _ h5 w
  have h6 : lo b = lo a := by omega
  have e : cmp3 a b = 0 := by unfold cmp3; unfold hi lo at *; rw [if_neg (by omega), if_pos (by omega)]
  rw [e, Wd, Wd, h3, h6]; exact cmpc_eq _ _ w

end Go.Proofs.YtdmdjmliggjbjaaGreat
