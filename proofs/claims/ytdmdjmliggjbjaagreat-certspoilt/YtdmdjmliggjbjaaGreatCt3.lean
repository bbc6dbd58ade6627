import Derived.Test.YtdmdjmliggjbjaaGreatCt0
import Derived.Lib.Mul64
import Derived.Laws.Bits64b
import Derived.Deep.RegionHeld3
import Derived.Handy
import Derived.WalkMore
/- math/bits.Mul64 and wide.Mul, as contracts. -/
namespace Go.Proofs.YtdmdjmliggjbjaaGreat
open Go.RowKit

/-- The low half of a word. -/
theorem mask32 (a : Nat) (ha : a < 18446744073709551616) : bits .and .u64 (a : Int) 4294967295 = ((a % 4294967296 : Nat) : Int) :=
  (bits_and_u64_nat a 4294967295 ha (by omega)).trans (congrArg Int.ofNat (Nat.and_two_pow_sub_one_eq_mod a 32))
theorem addc (a b : Nat) : (a : Int) + (b : Int) = ((a + b : Nat) : Int) := (Int.natCast_add a b).symm
theorem wrapc (a : Nat) (ha : a < 18446744073709551616) : IntKind.u64.wrap (a : Int) = (a : Int) := by rw [IntKind.wrap_u64]; omega
theorem ret2u {k k' : IntKind} {a a' b b' : Int} (h : a = a') (h' : b = b') : Ending.returned (.tuple #[.int k a, .int k' b]) = .returned (.tuple #[.int k a', .int k' b']) := by rw [h, h']

set_option maxHeartbeats 1000000 in
/-- The walk over names: each product of halves, and each sum, is a number of its own, whose meaning is kept from the walk. -/
theorem mul64 (x y : Nat) (hx : x < 18446744073709551616) (hy : y < 18446744073709551616) (w : World) :
    Calls Tryz.prog 136 #[.int .u64 (x : Int), .int .u64 (y : Int)] w fun e w' => e = .returned (.tuple #[.int .u64 (hi (x * y)), .int .u64 (lo (x * y))]) ∧ w' = w := by
  obtain ⟨k1, k2, k3, k4⟩ := Lib.mul64_hi x y hx hy
  have ks := Lib.half_mul_le (a := x / 4294967296) (b := y / 4294967296) (by omega) (by omega)
  have kq := Lib.half_mul_le (a := x / 4294967296) (b := y % 4294967296) (by omega) (by omega)
  have kr := Lib.half_mul_le (a := x % 4294967296) (b := y / 4294967296) (by omega) (by omega)
  have mx := mask32 x hx
  have my := mask32 y hy
  have dx : (x : Int) / 4294967296 = ((x / 4294967296 : Nat) : Int) := by omega
  have dy : (y : Int) / 4294967296 = ((y / 4294967296 : Nat) : Int) := by omega
  have L : Hid (IntKind.u64.wrap ((x : Int) * (y : Int)) = lo (x * y)) := by
    unfold Hid lo; rw [← Int.natCast_mul, IntKind.wrap_u64]; omega
  generalize x % 4294967296 = x0 at *
  generalize x / 4294967296 = x1 at *
  generalize y % 4294967296 = y0 at *
  generalize y / 4294967296 = y1 at *
  have p1 : (x0 : Int) * (y0 : Int) = ((x0 * y0 : Nat) : Int) := (Int.natCast_mul _ _).symm
  have p2 : (x1 : Int) * (y0 : Int) = ((x1 * y0 : Nat) : Int) := (Int.natCast_mul _ _).symm
  have p3 : (x0 : Int) * (y1 : Int) = ((x0 * y1 : Nat) : Int) := (Int.natCast_mul _ _).symm
  have p4 : (x1 : Int) * (y1 : Int) = ((x1 * y1 : Nat) : Int) := (Int.natCast_mul _ _).symm
  generalize x0 * y0 = p at *
  generalize x1 * y0 = q at *
  generalize x0 * y1 = r at *
  generalize x1 * y1 = s at *
  have mt := mask32 (q + p / 4294967296) k2
  have et : (q : Int) + (p : Int) / 4294967296 = ((q + p / 4294967296 : Nat) : Int) := by omega
  generalize q + p / 4294967296 = t at *
  have K : Hid (s + t / 4294967296 + (t % 4294967296 + r) / 4294967296 = x * y / 18446744073709551616) := k4
  clear k4
  go_enter Tryz.func136, Tryz.ntmps136
  go_wp2
  go_ret2
  refine ⟨ret2u ?_ L.out, rfl⟩
  unfold hi
  rw [← K.out]
  omega

set_option maxHeartbeats 400000 in
theorem mul_any (x y : Nat) (hx : x < 18446744073709551616) (hy : y < 18446744073709551616) (w : World) :
    Calls Tryz.prog 118 #[.int .u64 (x : Int), .int .u64 (y : Int)] w fun e w' => e = .returned (Wd (x * y)) ∧ Gr w w' := by
  go_enter Tryz.func118, Tryz.ntmps118
  go_wp2_with (go_at_call 136; refine (mul64 x y hx hy _).mono ?_; rintro e w' ⟨rfl, rfl⟩)
  exact bodyPost_ret (v := Wd (x * y)) (by simp [results, Tryz.results118, go_sem]) rfl ⟨rfl, (Gr.refl _).alloc _ _⟩
theorem mul_int (x y : Int) (hx : 0 ≤ x) (hx' : x < 18446744073709551616) (hy : 0 ≤ y) (hy' : y < 18446744073709551616) (w : World) :
    Calls Tryz.prog 118 #[.int .u64 x, .int .u64 y] w fun e w' => e = .returned (Wd (x.toNat * y.toNat)) ∧ Gr w w' := by
  obtain ⟨x, rfl⟩ := Int.eq_ofNat_of_zero_le hx
  obtain ⟨y, rfl⟩ := Int.eq_ofNat_of_zero_le hy
  exact mul_any x y (by omega) (by omega) w
theorem mul_lt (x y : Nat) (hx : x < 18446744073709551616) (hy : y < 18446744073709551616) : x * y < 340282366920938463463374607431768211456 := by
  have : x * y ≤ 18446744073709551615 * 18446744073709551615 := Nat.mul_le_mul (by omega) (by omega)
  omega

end Go.Proofs.YtdmdjmliggjbjaaGreat

/- wide.Sqrt, as a contract. -/
namespace Go.Proofs.YtdmdjmliggjbjaaGreat
open Go.RowKit

/-- r is the root of a: the greatest number whose square is not above a. -/
def IsRoot (a r : Nat) : Prop := r * r ≤ a ∧ a < (r + 1) * (r + 1)

theorem sq_le {x y : Nat} (h : x ≤ y) : x * x ≤ y * y := Nat.mul_le_mul h h

set_option maxHeartbeats 1000000 in
theorem sqrt_any (a : Nat) (ha : a < 340282366920938463463374607431768211456) (w : World) :
    Calls Tryz.prog 117 #[Wd a] w fun e w' => ∃ r : Nat, e = .returned (.int .u64 (r : Int)) ∧ r < 18446744073709551616 ∧ IsRoot a r ∧ Gr w w' := by
  go_enter Tryz.func117, Tryz.ntmps117
  go_wp2
  go_step3
  go_wp2
  go_step3
  go_wp2
  go_loopw [3, 4] (fun lv hv w' => ∃ x y : Nat, lv = .int .u64 (x : Int) ∧ hv = .int .u64 (y : Int) ∧ x ≤ y ∧ y < 18446744073709551616 ∧ x * x ≤ a ∧ a < (y + 1) * (y + 1) ∧ Gr (w.alloc (.cells #[.int .u64 (hi a), .int .u64 (lo a)] 41)) w') (fun lv hv _ => (intOf hv - intOf lv).toNat)
  case atStart => exact ⟨0, 18446744073709551615, by simp, by simp, by omega, by omega, by omega, by omega, Gr.refl _⟩
  case round =>
    obtain ⟨x, y, rfl, rfl, hxy, hy, hx2, hy2, hg⟩ := hrel
    have hz : w.heap.size < wr.heap.size := by have := hg.size; simp at this; omega
    have c0 : wr.cell? ⟨w.heap.size, 0, none⟩ = some (.int .u64 (hi a)) := by rw [hg.cell _ _ (by simp)]; simp [go_sem]
    have c1 : wr.cell? ⟨w.heap.size, 1, none⟩ = some (.int .u64 (lo a)) := by rw [hg.cell _ _ (by simp)]; simp [go_sem]
    by_cases hc : x < y
    · obtain ⟨m, hm⟩ : ∃ m : Nat, m = y - (y - x) / 2 := ⟨_, rfl⟩
      have hm0 : ((y : Int) - ((y : Int) - (x : Int)) / 2) = (m : Int) := by omega
      have M : Hid (m = y - (y - x) / 2) := hm
      have hm1 : m < 18446744073709551616 := by omega
      clear hm
      go_wp2
      go_region_held3 (fun w' => w'.cell? ⟨w.heap.size, 0, none⟩ = some (.int .u64 (hi a)) ∧ w'.cell? ⟨w.heap.size, 1, none⟩ = some (.int .u64 (lo a))) (first | exact ⟨c0, c1⟩ | exact ⟨k0, k1⟩)
        (first
          | (go_at_call 118; refine (mul_any m m hm1 hm1 _).mono ?_; rintro e w1 ⟨rfl, hg1⟩; have k0 : w1.cell? ⟨w.heap.size, 0, none⟩ = some (.int .u64 (hi a)) := (hg1.cell _ _ hz).trans c0; have k1 : w1.cell? ⟨w.heap.size, 1, none⟩ = some (.int .u64 (lo a)) := (hg1.cell _ _ hz).trans c1)
          | (go_at_call 67; refine (cmp_any (m * m) a _).mono ?_; rintro e w2 ⟨rfl, hg2⟩; have k0 : w2.cell? ⟨w.heap.size, 0, none⟩ = some (.int .u64 (hi a)) := (hg2.cell _ _ (Nat.lt_of_lt_of_le hz hg1.size)).trans k0; have k1 : w2.cell? ⟨w.heap.size, 1, none⟩ = some (.int .u64 (lo a)) := (hg2.cell _ _ (Nat.lt_of_lt_of_le hz hg1.size)).trans k1))
      have hG : Gr (w.alloc (.cells #[.int .u64 (hi a), .int .u64 (lo a)] 41)) w2 := (hg.drew.trans hg1).trans hg2
      have hmx : x < m := by have := M.out; omega
      have hmy : m ≤ y := by have := M.out; omega
      clear c0 c1 hg hg1 hg2 hz
      by_cases h1 : m * m < a
      · have e1 : cmp3 (m * m) a = -1 := by unfold cmp3; rw [if_pos h1]
        go_wp2
        go_roundw
        case rel => exact ⟨m, y, rfl, rfl, hmy, hy, by omega, hy2, hG⟩
        case measure => simp [intOf]; omega
      by_cases h2 : m * m = a
      · have e1 : cmp3 (m * m) a = 0 := by unfold cmp3; rw [if_neg h1, if_pos h2]
        have H2 : Hid (m * m = a) := h2
        clear h2
        go_wp2
        simp only [Exit.noGoto_ret]
        go_ret
        have h3 := H2.out
        exact ⟨m, rfl, hm1, ⟨by omega, by rw [Nat.add_mul, Nat.mul_add]; omega⟩, ((Gr.refl _).alloc _ _).trans hG⟩
      · have e1 : cmp3 (m * m) a = 1 := by unfold cmp3; rw [if_neg h1, if_neg h2]
        have hlt : a < m * m := by omega
        have H2 : Hid (a < m * m) := hlt
        have hm0' : 1 ≤ m := by omega
        clear h2 h1 hlt
        go_wp2
        go_roundw
        case rel =>
          obtain ⟨k, rfl⟩ : ∃ k, m = k + 1 := ⟨m - 1, by omega⟩
          exact ⟨x, k, rfl, by simp, by omega, by omega, hx2, H2.out, hG⟩
        case measure => simp [intOf]; omega
    · go_wp2
      simp only [Exit.noGoto_ret]
      go_ret
      have hyx : y = x := by omega
      subst hyx
      exact ⟨y, rfl, hy, ⟨hx2, hy2⟩, ((Gr.refl _).alloc _ _).trans hg⟩

end Go.Proofs.YtdmdjmliggjbjaaGreat

/- The reference's numbers of eight digits in memory; Of, as a contract. -/
namespace Go.Proofs.YtdmdjmliggjbjaaGreat
open Go.RowKit

/-- Digit number i to the base of 65536. -/
def dd (n i : Nat) : Int := ((n / 65536 ^ i % 65536 : Nat) : Int)
/-- A number of eight digits as the reference's struct. -/
abbrev Nm (n : Nat) (o : Bool) : Value := .agg #[.int .i64 (dd n 0), .int .i64 (dd n 1), .int .i64 (dd n 2), .int .i64 (dd n 3), .int .i64 (dd n 4), .int .i64 (dd n 5), .int .i64 (dd n 6), .int .i64 (dd n 7), .bool o]
theorem dd_bd (n i : Nat) : 0 ≤ dd n i ∧ dd n i < 65536 := by unfold dd; omega
theorem dd_lo (n : Nat) : dd n 0 = lo n % 65536 ∧ dd n 1 = lo n / 65536 % 65536 ∧ dd n 2 = lo n / 65536 / 65536 % 65536 ∧ dd n 3 = lo n / 65536 / 65536 / 65536 % 65536 := by
  unfold dd lo; simp only [Nat.reducePow]; omega
theorem dd_hi (n : Nat) : dd n 4 = hi n % 65536 ∧ dd n 5 = hi n / 65536 % 65536 ∧ dd n 6 = hi n / 65536 / 65536 % 65536 ∧ dd n 7 = hi n / 65536 / 65536 / 65536 % 65536 := by
  unfold dd hi; simp only [Nat.reducePow]; omega

set_option maxHeartbeats 1000000 in
theorem of_c (h l : Int) (h0 : 0 ≤ h) (h1 : h < 18446744073709551616) (l0 : 0 ≤ l) (l1 : l < 18446744073709551616) (w : World) :
    Calls Tryz.prog 74 #[.agg #[.int .u64 h, .int .u64 l]] w fun e w' =>
      e = .returned (.agg #[.int .i64 (l % 65536), .int .i64 (l / 65536 % 65536), .int .i64 (l / 65536 / 65536 % 65536), .int .i64 (l / 65536 / 65536 / 65536 % 65536), .int .i64 (h % 65536), .int .i64 (h / 65536 % 65536), .int .i64 (h / 65536 / 65536 % 65536), .int .i64 (h / 65536 / 65536 / 65536 % 65536), .bool false]) ∧ Gr w w' := by
  go_enter Tryz.func74, Tryz.ntmps74
  go_wp2
  go_rounds 5
  exact bodyPost_ret (v := .agg #[.int .i64 (l % 65536), .int .i64 (l / 65536 % 65536), .int .i64 (l / 65536 / 65536 % 65536), .int .i64 (l / 65536 / 65536 / 65536 % 65536), .int .i64 (h % 65536), .int .i64 (h / 65536 % 65536), .int .i64 (h / 65536 / 65536 % 65536), .int .i64 (h / 65536 / 65536 / 65536 % 65536), .bool false]) (by simp [results, Tryz.results74, go_sem]) rfl
    ⟨rfl, (((Gr.refl _).alloc _ _).alloc _ _).alloc _ _⟩
theorem of_any (n : Nat) (hn : n < 340282366920938463463374607431768211456) (w : World) :
    Calls Tryz.prog 74 #[Wd n] w fun e w' => e = .returned (Nm n false) ∧ Gr w w' := by
  obtain ⟨a0, a1, a2, a3⟩ := dd_lo n
  obtain ⟨b0, b1, b2, b3⟩ := dd_hi n
  rw [Nm, a0, a1, a2, a3, b0, b1, b2, b3]
  exact of_c (hi n) (lo n) (hi_bd hn).1 (hi_bd hn).2 (lo_bd n).1 (lo_bd n).2 w

/-- Block B holds the number n and the mark o. -/
structure NumAt (w : World) (B n : Nat) (o : Bool) : Prop where
  d : ∀ j, j < 8 → w.cell? ⟨B, j, none⟩ = some (.int .i64 (dd n j))
  o : w.cell? ⟨B, 8, none⟩ = some (.bool o)
  f : ∀ j, j < 9 → w.frozen? ⟨B, j, none⟩ = false
theorem NumAt.call {w w' : World} {B n : Nat} {o : Bool} (h : NumAt w B n o) (g : Gr w w') : NumAt w' B n o :=
  ⟨fun j hj => g.keeps (h.d j hj), g.keeps h.o, fun j hj => (g.froz _).trans (h.f j hj)⟩
theorem NumAt.far {w : World} {B n : Nat} {o : Bool} (h : NumAt w B n o) (b k : Nat) (hb : b ≠ B) (x : Value) : NumAt (w.setCell ⟨b, k, none⟩ x) B n o :=
  ⟨fun j hj => (World.cell?_setCell_far w _ _ x hb).trans (h.d j hj), (World.cell?_setCell_far w _ _ x hb).trans h.o, fun j hj => (World.frozen?_setCell _ _ _ _).trans (h.f j hj)⟩
theorem NumAt.setOver {w : World} {B n : Nat} {o : Bool} (h : NumAt w B n o) (o' : Bool) : NumAt (w.setCell ⟨B, 8, none⟩ (.bool o')) B n o' :=
  ⟨fun j hj => (World.cell?_setCell_other w _ _ _ (by intro e; injection e; omega)).trans (h.d j hj), World.cell?_setCell_same _ _ _ h.o, fun j hj => (World.frozen?_setCell _ _ _ _).trans (h.f j hj)⟩
theorem NumAt.setDigit {w : World} {B n m : Nat} {o : Bool} (h : NumAt w B n o) (i : Nat) (hi : i < 8) (x : Int) (hx : dd m i = x) (hm : ∀ j, j < 8 → j ≠ i → dd m j = dd n j) : NumAt (w.setCell ⟨B, i, none⟩ (.int .i64 x)) B m o := by
  refine ⟨fun j hj => ?_, (World.cell?_setCell_other w _ _ _ (by intro e; injection e; omega)).trans h.o, fun j hj => (World.frozen?_setCell _ _ _ _).trans (h.f j hj)⟩
  by_cases e : j = i
  · subst e; rw [hx]; exact World.cell?_setCell_same _ _ _ (h.d j hj)
  · rw [hm j hj e]; exact (World.cell?_setCell_other w _ _ _ (by intro e2; injection e2; omega)).trans (h.d j hj)
theorem NumAt.cells {w : World} {B n : Nat} {o : Bool} (h : NumAt w B n o) :
    w.cell? ⟨B, 0, none⟩ = some (.int .i64 (dd n 0)) ∧ w.cell? ⟨B, 1, none⟩ = some (.int .i64 (dd n 1)) ∧ w.cell? ⟨B, 2, none⟩ = some (.int .i64 (dd n 2)) ∧ w.cell? ⟨B, 3, none⟩ = some (.int .i64 (dd n 3)) ∧
    w.cell? ⟨B, 4, none⟩ = some (.int .i64 (dd n 4)) ∧ w.cell? ⟨B, 5, none⟩ = some (.int .i64 (dd n 5)) ∧ w.cell? ⟨B, 6, none⟩ = some (.int .i64 (dd n 6)) ∧ w.cell? ⟨B, 7, none⟩ = some (.int .i64 (dd n 7)) ∧ w.cell? ⟨B, 8, none⟩ = some (.bool o) :=
  ⟨h.d 0 (by omega), h.d 1 (by omega), h.d 2 (by omega), h.d 3 (by omega), h.d 4 (by omega), h.d 5 (by omega), h.d 6 (by omega), h.d 7 (by omega), h.o⟩
theorem NumAt.open9 {w : World} {B n : Nat} {o : Bool} (h : NumAt w B n o) :
    w.frozen? ⟨B, 0, none⟩ = false ∧ w.frozen? ⟨B, 1, none⟩ = false ∧ w.frozen? ⟨B, 2, none⟩ = false ∧ w.frozen? ⟨B, 3, none⟩ = false ∧ w.frozen? ⟨B, 4, none⟩ = false ∧ w.frozen? ⟨B, 5, none⟩ = false ∧ w.frozen? ⟨B, 6, none⟩ = false ∧ w.frozen? ⟨B, 7, none⟩ = false ∧ w.frozen? ⟨B, 8, none⟩ = false :=
  ⟨h.f 0 (by omega), h.f 1 (by omega), h.f 2 (by omega), h.f 3 (by omega), h.f 4 (by omega), h.f 5 (by omega), h.f 6 (by omega), h.f 7 (by omega), h.f 8 (by omega)⟩
/-- A new block that is made of a number. -/
theorem NumAt.new (w : World) (n : Nat) (o : Bool) (t : TypeId) : NumAt (w.alloc (.cells #[.int .i64 (dd n 0), .int .i64 (dd n 1), .int .i64 (dd n 2), .int .i64 (dd n 3), .int .i64 (dd n 4), .int .i64 (dd n 5), .int .i64 (dd n 6), .int .i64 (dd n 7), .bool o] t)) w.heap.size n o := by
  refine ⟨fun j hj => ?_, by simp [go_sem], fun j _ => by simp [go_sem]⟩
  rw [World.cell?_alloc_at _ _ _ _ rfl]
  have : j = 0 ∨ j = 1 ∨ j = 2 ∨ j = 3 ∨ j = 4 ∨ j = 5 ∨ j = 6 ∨ j = 7 := by omega
  rcases this with rfl | rfl | rfl | rfl | rfl | rfl | rfl | rfl <;> rfl
/-- A number that is stored over another one. -/
theorem NumAt.store {w : World} {B n : Nat} {o : Bool} (h : NumAt w B n o) (m : Nat) (p : Bool) :
    NumAt (((((((((w.setCell ⟨B, 0, none⟩ (.int .i64 (dd m 0))).setCell ⟨B, 1, none⟩ (.int .i64 (dd m 1))).setCell ⟨B, 2, none⟩ (.int .i64 (dd m 2))).setCell ⟨B, 3, none⟩ (.int .i64 (dd m 3))).setCell ⟨B, 4, none⟩ (.int .i64 (dd m 4))).setCell ⟨B, 5, none⟩ (.int .i64 (dd m 5))).setCell ⟨B, 6, none⟩ (.int .i64 (dd m 6))).setCell ⟨B, 7, none⟩ (.int .i64 (dd m 7))).setCell ⟨B, 8, none⟩ (.bool p)) B m p := by
  obtain ⟨c0, c1, c2, c3, c4, c5, c6, c7, c8⟩ := h.cells
  refine ⟨fun j hj => ?_, by simp [go_sem, c8], fun j hj => ?_⟩
  · have : j = 0 ∨ j = 1 ∨ j = 2 ∨ j = 3 ∨ j = 4 ∨ j = 5 ∨ j = 6 ∨ j = 7 := by omega
    rcases this with rfl | rfl | rfl | rfl | rfl | rfl | rfl | rfl <;> simp [go_sem, *]
  · simp only [World.frozen?_setCell]; exact h.f j hj

/-- Digit i of a number changed for x. -/
def setD (n i x : Nat) : Nat := n + x * 65536 ^ i - n / 65536 ^ i % 65536 * 65536 ^ i
theorem setD_spec (n i x : Nat) (hn : n < 340282366920938463463374607431768211456) (hi : i < 8) (hx : x < 65536) :
    dd (setD n i x) i = (x : Int) ∧ (∀ j, j < 8 → j ≠ i → dd (setD n i x) j = dd n j) ∧ setD n i x < 340282366920938463463374607431768211456 ∧ setD n i x + n / 65536 ^ i % 65536 * 65536 ^ i = n + x * 65536 ^ i := by
  have hc : i = 0 ∨ i = 1 ∨ i = 2 ∨ i = 3 ∨ i = 4 ∨ i = 5 ∨ i = 6 ∨ i = 7 := by omega
  rcases hc with rfl | rfl | rfl | rfl | rfl | rfl | rfl | rfl
  all_goals
    unfold dd setD
    simp only [Nat.reducePow]
    refine ⟨by omega, fun j hj hne => ?_, by omega, by omega⟩
    have hj2 : j = 0 ∨ j = 1 ∨ j = 2 ∨ j = 3 ∨ j = 4 ∨ j = 5 ∨ j = 6 ∨ j = 7 := by omega
    rcases hj2 with rfl | rfl | rfl | rfl | rfl | rfl | rfl | rfl
    all_goals first | (exfalso; omega) | (simp only [Nat.reducePow]; omega)

end Go.Proofs.YtdmdjmliggjbjaaGreat
