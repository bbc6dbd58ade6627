/- math/bits.Div64 by ten and wide.byTen, as contracts. -/
import Derived.Test.YtlckjohmllagoaaMul
import Derived.BigQuiet
import Derived.WalkSmall
import Derived.Handy
namespace Go.Proofs.Ytlckjohmllagoaa
open Go.RowKit

set_option maxHeartbeats 400000 in
set_option maxRecDepth 100000 in
theorem len64_10 (w : World) : Calls Try.prog 39 #[.int .u64 10] w fun e w' => e = .returned (.int .i64 4) ∧ w' = w := by
  go_enter Try.func39, Try.ntmps39
  go_wp2
  go_ret
  exact ⟨by kernel_rfl, rfl⟩

set_option maxHeartbeats 400000 in
theorem lz64_10 (w : World) : Calls Try.prog 38 #[.int .u64 10] w fun e w' => e = .returned (.int .i64 60) ∧ w' = w := by
  go_enter Try.func38, Try.ntmps38
  go_wp2_with (go_at_call 39; refine (len64_10 _).mono ?_; rintro e w' ⟨rfl, rfl⟩)
  go_ret
  exact ⟨rfl, rfl⟩


set_option maxHeartbeats 400000 in
theorem div64_small (l : Int) (h0 : 0 ≤ l) (h1 : l < 18446744073709551616) (w : World) :
    Calls Try.prog 37 #[.int .u64 0, .int .u64 l, .int .u64 10] w fun e w' => e = .returned (.tuple #[.int .u64 (l / 10), .int .u64 (l % 10)]) ∧ ∃ n, w' = w.drewN n := by
  go_enter Try.func37, Try.ntmps37
  go_wp2
  go_quiet (fail)
  go_wp2
  go_ret2
  exact ⟨rfl, _, rfl⟩

theorem ret2_int {k k' : IntKind} {a a' b b' : Int} (h : a = a') (h' : b = b') : Ending.returned (.tuple #[.int k a, .int k' b]) = .returned (.tuple #[.int k a', .int k' b']) := by rw [h, h']

/-- The words that the division by ten goes through. -/
theorem or60 (h l : Int) (h0 : 0 ≤ h) (h1 : h < 10) (l0 : 0 ≤ l) (l1 : l < 18446744073709551616) : bits .or .u64 (h * 1152921504606846976) (l / 16) = h * 1152921504606846976 + l / 16 := by
  obtain ⟨h, rfl⟩ := Int.eq_ofNat_of_zero_le h0
  obtain ⟨l, rfl⟩ := Int.eq_ofNat_of_zero_le l0
  have e1 : ((h : Int) * 1152921504606846976) = ((h * 1152921504606846976 : Nat) : Int) := by omega
  have e2 : ((l : Int) / 16) = ((l / 16 : Nat) : Int) := by omega
  rw [e1, e2, bits_or_u64_nat _ _ (by omega) (by omega)]
  have e3 := Nat.shiftLeft_add_eq_or_of_lt (b := l / 16) (i := 60) (by omega) h
  rw [Nat.shiftLeft_eq] at e3
  have e4 : (2 : Nat) ^ 60 = 1152921504606846976 := by decide
  rw [e4] at e3
  rw [← e3]; omega

set_option maxHeartbeats 1000000 in
theorem div64_big (h l : Int) (h0 : 1 ≤ h) (h1 : h < 10) (l0 : 0 ≤ l) (l1 : l < 18446744073709551616) (w : World) :
    Calls Try.prog 37 #[.int .u64 h, .int .u64 l, .int .u64 10] w fun e w' => e = .returned (.tuple #[.int .u64 ((h * 18446744073709551616 + l) / 10), .int .u64 ((h * 18446744073709551616 + l) % 10)]) ∧ ∃ n, w' = w.drewN n := by
  have g0 : (h == 0) = false := by rw [beq_eq_false_iff_ne]; omega
  have hU0 := or60 h l (by omega) h1 l0 l1
  have hz : bits .and .u64 11529215046068469760 4294967295 = 0 := by kernel_rfl
  generalize hU : h * 1152921504606846976 + l / 16 = U at hU0
  have HU : Hid (h * 1152921504606846976 + l / 16 = U) := hU
  have u0 : 0 ≤ U := by omega
  have u1 : U < 11529215046068469760 := by omega
  have q1 : U / 2684354560 < 4294967296 := by omega
  have hV0 : IntKind.u64.wrap (l * 1152921504606846976) = l % 16 * 1152921504606846976 := by rw [IntKind.wrap_u64]; omega
  have hV1 : bits .and .u64 (l % 16 * 1152921504606846976) 4294967295 = 0 := by
    obtain ⟨n, hn⟩ := Int.eq_ofNat_of_zero_le (show 0 ≤ l % 16 * 1152921504606846976 by omega)
    rw [hn, mask32 n (by omega)]; omega
  have v0 : 0 ≤ l % 16 * 1152921504606846976 := by omega
  have v1 : l % 16 * 1152921504606846976 < 18446744073709551616 := by omega
  generalize hV : l % 16 * 1152921504606846976 = V at hV0 hV1 v0 v1
  have HV : Hid (l % 16 * 1152921504606846976 = V) := hV
  have hV32 : V / 4294967296 < 4294967296 := by omega
  have hX0 : IntKind.u64.wrap (IntKind.u64.wrap (IntKind.u64.wrap (U * 4294967296) + V / 4294967296) - IntKind.u64.wrap (U / 2684354560 * 11529215046068469760)) = U % 2684354560 * 4294967296 + V / 4294967296 := by
    simp only [IntKind.wrap_u64]; omega
  generalize hX : U % 2684354560 * 4294967296 + V / 4294967296 = X at hX0
  have HX : Hid (U % 2684354560 * 4294967296 + V / 4294967296 = X) := hX
  have x0 : 0 ≤ X := by omega
  have x1 : X < 11529215046068469760 := by omega
  clear hU hV hX
  go_enter Try.func37, Try.ntmps37
  go_wp2_with (go_at_call 38; refine (lz64_10 _).mono ?_; rintro e w' ⟨rfl, rfl⟩)
  go_rounds 1
  go_rounds 1
  go_ret2
  refine ⟨ret2_int ?_ ?_, 0, rfl⟩
  · have a1 := HU.out; have a2 := HV.out; have a3 := HX.out; clear hU0 hz hV0 hV1 hX0 g0; omega
  · have a1 := HU.out; have a2 := HV.out; have a3 := HX.out; clear hU0 hz hV0 hV1 hX0 g0; simp only [IntKind.wrap_u64]; omega

theorem div64_any (h l : Int) (h0 : 0 ≤ h) (h1 : h < 10) (l0 : 0 ≤ l) (l1 : l < 18446744073709551616) (w : World) :
    Calls Try.prog 37 #[.int .u64 h, .int .u64 l, .int .u64 10] w fun e w' => e = .returned (.tuple #[.int .u64 ((h * 18446744073709551616 + l) / 10), .int .u64 ((h * 18446744073709551616 + l) % 10)]) ∧ ∃ n, w' = w.drewN n := by
  by_cases hz : h = 0
  · subst hz
    have := div64_small l l0 l1 w
    simpa using this
  · exact div64_big h l (by omega) h1 l0 l1 w

set_option maxHeartbeats 400000 in
theorem byTen_any (a : Nat) (ha : a < 340282366920938463463374607431768211456) (w : World) :
    Calls Try.prog 34 #[Wd a] w fun e w' => e = .returned (.tuple #[Wd (a / 10), .int .u8 ((a % 10 : Nat) : Int)]) ∧ Gr w w' := by
  have h0 := hi_bd ha
  have l0 := lo_bd a
  have e1 : hi a / 10 = hi (a / 10) := by unfold hi; omega
  have e2 : (hi a % 10 * 18446744073709551616 + lo a) / 10 = lo (a / 10) := by unfold hi lo; omega
  have e3 : (hi a % 10 * 18446744073709551616 + lo a) % 10 = ((a % 10 : Nat) : Int) := by unfold hi lo; omega
  have E1 : Hid (hi a / 10 = hi (a / 10)) := e1
  have E2 : Hid ((hi a % 10 * 18446744073709551616 + lo a) / 10 = lo (a / 10)) := e2
  have E3 : Hid ((hi a % 10 * 18446744073709551616 + lo a) % 10 = ((a % 10 : Nat) : Int)) := e3
  obtain ⟨h0, h1⟩ := h0
  obtain ⟨l0, l1⟩ := l0
  clear e1 e2 e3
  unfold Wd
  generalize hi a = ah at *
  generalize lo a = al at *
  go_enter Try.func34, Try.ntmps34
  go_wp2
  go_quiet (fail)
  go_wp2_with (go_at_call 37; refine (div64_any (ah % 10) al (by omega) (by omega) l0 l1 _).mono ?_; rintro e w' ⟨rfl, nd, rfl⟩)
  rw [E1.out, E2.out, E3.out]
  exact bodyPost_ret (v := .tuple #[Wd (a / 10), .int .u8 ((a % 10 : Nat) : Int)]) (by simp [results, Try.results34, go_sem]) rfl ⟨rfl, by repeat (first | exact Gr.refl _ | apply Gr.drewN | apply Gr.alloc | refine Gr.setCell ?_ (by simp) _)⟩

end Go.Proofs.Ytlckjohmllagoaa
