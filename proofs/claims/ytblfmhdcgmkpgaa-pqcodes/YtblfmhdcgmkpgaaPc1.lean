import Derived.Test.YtblfmhdcgmkpgaaPcBase
import Derived.Lib.Mul64
import Derived.Laws.Bits64b
import Derived.Deep.RegionHeld3
import Derived.Handy
import Derived.WalkMore
/- wide.Add, wide.Sub, wide.Cmp and the law's own lo, as contracts. -/
namespace Go.Proofs.Ytblfmhdcgmkpgaa
open Go.RowKit

set_option maxHeartbeats 400000 in
theorem addc_ok (ah al bh bl : Int) (a0 : 0 ≤ ah) (b0 : 0 ≤ al) (b1 : al < 18446744073709551616) (c0 : 0 ≤ bh) (d0 : 0 ≤ bl) (d1 : bl < 18446744073709551616)
    (hlt : (ah + bh + (al + bl) / 18446744073709551616) / 18446744073709551616 = 0) (w : World) :
    Calls Try.prog 42 #[.agg #[.int .u64 ah, .int .u64 al], .agg #[.int .u64 bh, .int .u64 bl]] w fun e w' =>
      e = .returned (.tuple #[.agg #[.int .u64 ((ah + bh + (al + bl) / 18446744073709551616) % 18446744073709551616), .int .u64 ((al + bl) % 18446744073709551616)], .int .i64 0]) ∧ Gr w w' := by
  have k0 : 0 ≤ (al + bl) / 18446744073709551616 := by omega
  have k1 : (al + bl) / 18446744073709551616 ≤ 1 := by omega
  go_enter Try.func42, Try.ntmps42
  go_wp2_with (first | simp only [add64_0 al bl b0 d0] | simp only [add64 ah bh _ a0 c0 k0 k1])
  exact bodyPost_ret (v := .tuple #[.agg #[.int .u64 ((ah + bh + (al + bl) / 18446744073709551616) % 18446744073709551616), .int .u64 ((al + bl) % 18446744073709551616)], .int .i64 0]) (by simp [results, Try.results42, go_sem]) rfl
    ⟨rfl, (((Gr.refl _).alloc _ _).alloc _ _).alloc _ _⟩



theorem add_ok (a b : Nat) (h : a + b < 340282366920938463463374607431768211456) (w : World) :
    Calls Try.prog 42 #[Wd a, Wd b] w fun e w' => e = .returned (.tuple #[Wd (a + b), .int .i64 0]) ∧ Gr w w' := by
  have e1 : (hi a + hi b + (lo a + lo b) / 18446744073709551616) % 18446744073709551616 = hi (a + b) := by unfold hi lo; omega
  have e2 : (lo a + lo b) % 18446744073709551616 = lo (a + b) := by unfold lo; omega
  have e3 : (hi a + hi b + (lo a + lo b) / 18446744073709551616) / 18446744073709551616 = 0 := by unfold hi lo; omega
  have := addc_ok (hi a) (lo a) (hi b) (lo b) (hi_nn a) (lo_bd a).1 (lo_bd a).2 (hi_nn b) (lo_bd b).1 (lo_bd b).2 e3 w
  rw [e1, e2] at this
  exact this











set_option maxHeartbeats 400000 in
theorem cmpc_eq (ah al : Int) (w : World) :
    Calls Try.prog 66 #[.agg #[.int .u64 ah, .int .u64 al], .agg #[.int .u64 ah, .int .u64 al]] w fun e w' => e = .returned (.int .i64 0) ∧ Gr w w' := by
  go_enter Try.func66, Try.ntmps66
  go_wp2
  go_ret
  exact ⟨rfl, ((Gr.refl _).alloc _ _).alloc _ _⟩

set_option maxHeartbeats 400000 in
theorem cmpc_hi (ah al bh bl : Int) (h : ah < bh) (w : World) :
    Calls Try.prog 66 #[.agg #[.int .u64 ah, .int .u64 al], .agg #[.int .u64 bh, .int .u64 bl]] w fun e w' => e = .returned (.int .i64 (-1)) ∧ Gr w w' := by
  have h1 : (ah == bh) = false := by rw [beq_eq_false_iff_ne]; omega
  go_enter Try.func66, Try.ntmps66
  go_wp2
  go_ret
  exact ⟨rfl, ((Gr.refl _).alloc _ _).alloc _ _⟩

set_option maxHeartbeats 400000 in
theorem cmpc_hi' (ah al bh bl : Int) (h : bh < ah) (w : World) :
    Calls Try.prog 66 #[.agg #[.int .u64 ah, .int .u64 al], .agg #[.int .u64 bh, .int .u64 bl]] w fun e w' => e = .returned (.int .i64 1) ∧ Gr w w' := by
  have h1 : (ah == bh) = false := by rw [beq_eq_false_iff_ne]; omega
  go_enter Try.func66, Try.ntmps66
  go_wp2
  go_ret
  exact ⟨rfl, ((Gr.refl _).alloc _ _).alloc _ _⟩

set_option maxHeartbeats 400000 in
theorem cmpc_lo (ah al bl : Int) (h : al < bl) (w : World) :
    Calls Try.prog 66 #[.agg #[.int .u64 ah, .int .u64 al], .agg #[.int .u64 ah, .int .u64 bl]] w fun e w' => e = .returned (.int .i64 (-1)) ∧ Gr w w' := by
  have h1 : (al == bl) = false := by rw [beq_eq_false_iff_ne]; omega
  go_enter Try.func66, Try.ntmps66
  go_wp2
  go_ret
  exact ⟨rfl, ((Gr.refl _).alloc _ _).alloc _ _⟩

set_option maxHeartbeats 400000 in
theorem cmpc_lo' (ah al bl : Int) (h : bl < al) (w : World) :
    Calls Try.prog 66 #[.agg #[.int .u64 ah, .int .u64 al], .agg #[.int .u64 ah, .int .u64 bl]] w fun e w' => e = .returned (.int .i64 1) ∧ Gr w w' := by
  have h1 : (al == bl) = false := by rw [beq_eq_false_iff_ne]; omega
  go_enter Try.func66, Try.ntmps66
  go_wp2
  go_ret
  exact ⟨rfl, ((Gr.refl _).alloc _ _).alloc _ _⟩

/-- -1, 0 or 1. -/
def cmp3 (a b : Nat) : Int := if a < b then -1 else if a = b then 0 else 1

theorem cmp_any (a b : Nat) (w : World) :
    Calls Try.prog 66 #[Wd a, Wd b] w fun e w' => e = .returned (.int .i64 (cmp3 a b)) ∧ Gr w w' := by
  by_cases h1 : hi a < hi b
  · have e : cmp3 a b = -1 := by unfold cmp3; rw [if_pos]; unfold hi at h1; omega
    rw [e]; exact cmpc_hi _ _ _ _ h1 w
  by_cases h2 : hi b < hi a
  · have e : cmp3 a b = 1 := by unfold cmp3; unfold hi at h1 h2; rw [if_neg (by omega), if_neg (by omega)]
    rw [e]; exact cmpc_hi' _ _ _ _ h2 w
  have h3 : hi b = hi a := by omega
  by_cases h4 : lo a < lo b
  · have e : cmp3 a b = -1 := by unfold cmp3; rw [if_pos]; unfold hi lo at *; omega
    rw [e, Wd, Wd, h3]; exact cmpc_lo _ _ _ h4 w
  by_cases h5 : lo b < lo a
  · have e : cmp3 a b = 1 := by unfold cmp3; unfold hi lo at *; rw [if_neg (by omega), if_neg (by omega)]
    rw [e, Wd, Wd, h3]; exact cmpc_lo' _ _ _ h5 w
  have h6 : lo b = lo a := by omega
  have e : cmp3 a b = 0 := by unfold cmp3; unfold hi lo at *; rw [if_neg (by omega), if_pos (by omega)]
  rw [e, Wd, Wd, h3, h6]; exact cmpc_eq _ _ w

end Go.Proofs.Ytblfmhdcgmkpgaa

/- math/bits.Mul64 and wide.Mul, as contracts. -/
namespace Go.Proofs.Ytblfmhdcgmkpgaa
open Go.RowKit

/-- The low half of a word. -/
theorem mask32 (a : Nat) (ha : a < 18446744073709551616) : bits .and .u64 (a : Int) 4294967295 = ((a % 4294967296 : Nat) : Int) :=
  (bits_and_u64_nat a 4294967295 ha (by omega)).trans (congrArg Int.ofNat (Nat.and_two_pow_sub_one_eq_mod a 32))
theorem addc (a b : Nat) : (a : Int) + (b : Int) = ((a + b : Nat) : Int) := (Int.natCast_add a b).symm
theorem wrapc (a : Nat) (ha : a < 18446744073709551616) : IntKind.u64.wrap (a : Int) = (a : Int) := by rw [IntKind.wrap_u64]; omega
theorem ret2u {k k' : IntKind} {a a' b b' : Int} (h : a = a') (h' : b = b') : Ending.returned (.tuple #[.int k a, .int k' b]) = .returned (.tuple #[.int k a', .int k' b']) := by rw [h, h']

set_option maxHeartbeats 1000000 in
/-- The walk over names: each product of halves, and each sum, is a number of its own, whose meaning is kept from the walk. -/
theorem mul64 (x y : Nat) (hx : x < 18446744073709551616) (hy : y < 18446744073709551616) (w : World) :
    Calls Try.prog 87 #[.int .u64 (x : Int), .int .u64 (y : Int)] w fun e w' => e = .returned (.tuple #[.int .u64 (hi (x * y)), .int .u64 (lo (x * y))]) ∧ w' = w := by
  obtain ⟨k1, k2, k3, k4⟩ := Lib.mul64_hi x y hx hy
  have ks := Lib.half_mul_le (a := x / 4294967296) (b := y / 4294967296) (by omega) (by omega)
  have kq := Lib.half_mul_le (a := x / 4294967296) (b := y % 4294967296) (by omega) (by omega)
  have kr := Lib.half_mul_le (a := x % 4294967296) (b := y / 4294967296) (by omega) (by omega)
  have mx := mask32 x hx
  have my := mask32 y hy
  have dx : (x : Int) / 4294967296 = ((x / 4294967296 : Nat) : Int) := by omega
  have dy : (y : Int) / 4294967296 = ((y / 4294967296 : Nat) : Int) := by omega
  have L : Hid (IntKind.u64.wrap ((x : Int) * (y : Int)) = lo (x * y)) := by
    unfold Hid lo; rw [← Int.natCast_mul, IntKind.wrap_u64]; omega
  generalize x % 4294967296 = x0 at *
  generalize x / 4294967296 = x1 at *
  generalize y % 4294967296 = y0 at *
  generalize y / 4294967296 = y1 at *
  have p1 : (x0 : Int) * (y0 : Int) = ((x0 * y0 : Nat) : Int) := (Int.natCast_mul _ _).symm
  have p2 : (x1 : Int) * (y0 : Int) = ((x1 * y0 : Nat) : Int) := (Int.natCast_mul _ _).symm
  have p3 : (x0 : Int) * (y1 : Int) = ((x0 * y1 : Nat) : Int) := (Int.natCast_mul _ _).symm
  have p4 : (x1 : Int) * (y1 : Int) = ((x1 * y1 : Nat) : Int) := (Int.natCast_mul _ _).symm
  generalize x0 * y0 = p at *
  generalize x1 * y0 = q at *
  generalize x0 * y1 = r at *
  generalize x1 * y1 = s at *
  have mt := mask32 (q + p / 4294967296) k2
  have et : (q : Int) + (p : Int) / 4294967296 = ((q + p / 4294967296 : Nat) : Int) := by omega
  generalize q + p / 4294967296 = t at *
  have K : Hid (s + t / 4294967296 + (t % 4294967296 + r) / 4294967296 = x * y / 18446744073709551616) := k4
  clear k4
  go_enter Try.func87, Try.ntmps87
  go_wp2
  go_ret2
  refine ⟨ret2u ?_ L.out, rfl⟩
  unfold hi
  rw [← K.out]
  omega

set_option maxHeartbeats 400000 in
theorem mul_any (x y : Nat) (hx : x < 18446744073709551616) (hy : y < 18446744073709551616) (w : World) :
    Calls Try.prog 80 #[.int .u64 (x : Int), .int .u64 (y : Int)] w fun e w' => e = .returned (Wd (x * y)) ∧ Gr w w' := by
  go_enter Try.func80, Try.ntmps80
  go_wp2_with (go_at_call 87; refine (mul64 x y hx hy _).mono ?_; rintro e w' ⟨rfl, rfl⟩)
  exact bodyPost_ret (v := Wd (x * y)) (by simp [results, Try.results80, go_sem]) rfl ⟨rfl, (Gr.refl _).alloc _ _⟩
theorem mul_int (x y : Int) (hx : 0 ≤ x) (hx' : x < 18446744073709551616) (hy : 0 ≤ y) (hy' : y < 18446744073709551616) (w : World) :
    Calls Try.prog 80 #[.int .u64 x, .int .u64 y] w fun e w' => e = .returned (Wd (x.toNat * y.toNat)) ∧ Gr w w' := by
  obtain ⟨x, rfl⟩ := Int.eq_ofNat_of_zero_le hx
  obtain ⟨y, rfl⟩ := Int.eq_ofNat_of_zero_le hy
  exact mul_any x y (by omega) (by omega) w
theorem mul_lt (x y : Nat) (hx : x < 18446744073709551616) (hy : y < 18446744073709551616) : x * y < 340282366920938463463374607431768211456 := by
  have : x * y ≤ 18446744073709551615 * 18446744073709551615 := Nat.mul_le_mul (by omega) (by omega)
  omega

end Go.Proofs.Ytblfmhdcgmkpgaa

/- wide.Sqrt, as a contract. -/
namespace Go.Proofs.Ytblfmhdcgmkpgaa
open Go.RowKit

/-- r is the root of a: the greatest number whose square is not above a. -/
def IsRoot (a r : Nat) : Prop := r * r ≤ a ∧ a < (r + 1) * (r + 1)

theorem sq_le {x y : Nat} (h : x ≤ y) : x * x ≤ y * y := Nat.mul_le_mul h h

end Go.Proofs.Ytblfmhdcgmkpgaa
