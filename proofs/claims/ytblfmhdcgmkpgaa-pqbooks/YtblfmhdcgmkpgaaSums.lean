/- wide.Add, wide.Sub, wide.Cmp and the law's own lo, as contracts. -/
import Derived.Test.YtblfmhdcgmkpgaaBase
namespace Go.Proofs.Ytblfmhdcgmkpgaa
open Go.RowKit

set_option maxHeartbeats 400000 in
theorem addc_ok (ah al bh bl : Int) (a0 : 0 ≤ ah) (b0 : 0 ≤ al) (b1 : al < 18446744073709551616) (c0 : 0 ≤ bh) (d0 : 0 ≤ bl) (d1 : bl < 18446744073709551616)
    (hlt : (ah + bh + (al + bl) / 18446744073709551616) / 18446744073709551616 = 0) (w : World) :
    Calls Try.prog 42 #[.agg #[.int .u64 ah, .int .u64 al], .agg #[.int .u64 bh, .int .u64 bl]] w fun e w' =>
      e = .returned (.tuple #[.agg #[.int .u64 ((ah + bh + (al + bl) / 18446744073709551616) % 18446744073709551616), .int .u64 ((al + bl) % 18446744073709551616)], .int .i64 0]) ∧ Gr w w' := by
  have k0 : 0 ≤ (al + bl) / 18446744073709551616 := by omega
  have k1 : (al + bl) / 18446744073709551616 ≤ 1 := by omega
  go_enter Try.func42, Try.ntmps42
  go_wp2_with (first | simp only [add64_0 al bl b0 d0] | simp only [add64 ah bh _ a0 c0 k0 k1])
  exact bodyPost_ret (v := .tuple #[.agg #[.int .u64 ((ah + bh + (al + bl) / 18446744073709551616) % 18446744073709551616), .int .u64 ((al + bl) % 18446744073709551616)], .int .i64 0]) (by simp [results, Try.results42, go_sem]) rfl
    ⟨rfl, (((Gr.refl _).alloc _ _).alloc _ _).alloc _ _⟩



theorem add_ok (a b : Nat) (h : a + b < 340282366920938463463374607431768211456) (w : World) :
    Calls Try.prog 42 #[Wd a, Wd b] w fun e w' => e = .returned (.tuple #[Wd (a + b), .int .i64 0]) ∧ Gr w w' := by
  have e1 : (hi a + hi b + (lo a + lo b) / 18446744073709551616) % 18446744073709551616 = hi (a + b) := by unfold hi lo; omega
  have e2 : (lo a + lo b) % 18446744073709551616 = lo (a + b) := by unfold lo; omega
  have e3 : (hi a + hi b + (lo a + lo b) / 18446744073709551616) / 18446744073709551616 = 0 := by unfold hi lo; omega
  have := addc_ok (hi a) (lo a) (hi b) (lo b) (hi_nn a) (lo_bd a).1 (lo_bd a).2 (hi_nn b) (lo_bd b).1 (lo_bd b).2 e3 w
  rw [e1, e2] at this
  exact this











set_option maxHeartbeats 400000 in
theorem cmpc_eq (ah al : Int) (w : World) :
    Calls Try.prog 66 #[.agg #[.int .u64 ah, .int .u64 al], .agg #[.int .u64 ah, .int .u64 al]] w fun e w' => e = .returned (.int .i64 0) ∧ Gr w w' := by
  go_enter Try.func66, Try.ntmps66
  go_wp2
  go_ret
  exact ⟨rfl, ((Gr.refl _).alloc _ _).alloc _ _⟩

set_option maxHeartbeats 400000 in
theorem cmpc_hi (ah al bh bl : Int) (h : ah < bh) (w : World) :
    Calls Try.prog 66 #[.agg #[.int .u64 ah, .int .u64 al], .agg #[.int .u64 bh, .int .u64 bl]] w fun e w' => e = .returned (.int .i64 (-1)) ∧ Gr w w' := by
  have h1 : (ah == bh) = false := by rw [beq_eq_false_iff_ne]; omega
  go_enter Try.func66, Try.ntmps66
  go_wp2
  go_ret
  exact ⟨rfl, ((Gr.refl _).alloc _ _).alloc _ _⟩

set_option maxHeartbeats 400000 in
theorem cmpc_hi' (ah al bh bl : Int) (h : bh < ah) (w : World) :
    Calls Try.prog 66 #[.agg #[.int .u64 ah, .int .u64 al], .agg #[.int .u64 bh, .int .u64 bl]] w fun e w' => e = .returned (.int .i64 1) ∧ Gr w w' := by
  have h1 : (ah == bh) = false := by rw [beq_eq_false_iff_ne]; omega
  go_enter Try.func66, Try.ntmps66
  go_wp2
  go_ret
  exact ⟨rfl, ((Gr.refl _).alloc _ _).alloc _ _⟩

set_option maxHeartbeats 400000 in
theorem cmpc_lo (ah al bl : Int) (h : al < bl) (w : World) :
    Calls Try.prog 66 #[.agg #[.int .u64 ah, .int .u64 al], .agg #[.int .u64 ah, .int .u64 bl]] w fun e w' => e = .returned (.int .i64 (-1)) ∧ Gr w w' := by
  have h1 : (al == bl) = false := by rw [beq_eq_false_iff_ne]; omega
  go_enter Try.func66, Try.ntmps66
  go_wp2
  go_ret
  exact ⟨rfl, ((Gr.refl _).alloc _ _).alloc _ _⟩

set_option maxHeartbeats 400000 in
theorem cmpc_lo' (ah al bl : Int) (h : bl < al) (w : World) :
    Calls Try.prog 66 #[.agg #[.int .u64 ah, .int .u64 al], .agg #[.int .u64 ah, .int .u64 bl]] w fun e w' => e = .returned (.int .i64 1) ∧ Gr w w' := by
  have h1 : (al == bl) = false := by rw [beq_eq_false_iff_ne]; omega
  go_enter Try.func66, Try.ntmps66
  go_wp2
  go_ret
  exact ⟨rfl, ((Gr.refl _).alloc _ _).alloc _ _⟩

/-- -1, 0 or 1. -/
def cmp3 (a b : Nat) : Int := if a < b then -1 else if a = b then 0 else 1

theorem cmp_any (a b : Nat) (w : World) :
    Calls Try.prog 66 #[Wd a, Wd b] w fun e w' => e = .returned (.int .i64 (cmp3 a b)) ∧ Gr w w' := by
  by_cases h1 : hi a < hi b
  · have e : cmp3 a b = -1 := by unfold cmp3; rw [if_pos]; unfold hi at h1; omega
    rw [e]; exact cmpc_hi _ _ _ _ h1 w
  by_cases h2 : hi b < hi a
  · have e : cmp3 a b = 1 := by unfold cmp3; unfold hi at h1 h2; rw [if_neg (by omega), if_neg (by omega)]
    rw [e]; exact cmpc_hi' _ _ _ _ h2 w
  have h3 : hi b = hi a := by omega
  by_cases h4 : lo a < lo b
  · have e : cmp3 a b = -1 := by unfold cmp3; rw [if_pos]; unfold hi lo at *; omega
    rw [e, Wd, Wd, h3]; exact cmpc_lo _ _ _ h4 w
  by_cases h5 : lo b < lo a
  · have e : cmp3 a b = 1 := by unfold cmp3; unfold hi lo at *; rw [if_neg (by omega), if_neg (by omega)]
    rw [e, Wd, Wd, h3]; exact cmpc_lo' _ _ _ h5 w
  have h6 : lo b = lo a := by omega
  have e : cmp3 a b = 0 := by unfold cmp3; unfold hi lo at *; rw [if_neg (by omega), if_pos (by omega)]
  rw [e, Wd, Wd, h3, h6]; exact cmpc_eq _ _ w

end Go.Proofs.Ytblfmhdcgmkpgaa
