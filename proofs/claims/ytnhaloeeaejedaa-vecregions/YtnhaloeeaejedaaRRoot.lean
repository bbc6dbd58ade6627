/- theodoliteref03.Root. -/
import Derived.Test.YtnhaloeeaejedaaRMul
import Derived.Test.YtnhaloeeaejedaaRLess
import Derived.Test.YtnhaloeeaejedaaBallB
namespace Go.Proofs.Ytnhaloeeaejedaa
open Go.RowKit

theorem rless_v (a b : Nat) (ha : a < 340282366920938463463374607431768211456) (hb : b < 340282366920938463463374607431768211456) (r : Bool) (h : decide (a < b) = r) (w : World) :
    Calls Try.prog 31 #[Wd a, Wd b] w fun e w' => e = .returned (.bool r) ∧ Gr w w' := by
  subst h; exact less_any a b ha hb w
set_option maxHeartbeats 2000000 in
theorem root_c (a : Nat) (ha : a < 340282366920938463463374607431768211456) (w : World) :
    Calls Try.prog 64 #[Wd a] w fun e w' => e = .returned (.int .u64 (rt a : Int)) ∧ Gr w w' := by
  go_enter Try.func64, Try.ntmps64
  go_wp2
  go_loopw [3, 4] (fun lv hv w' => ∃ x y : Nat, lv = .int .u64 (x : Int) ∧ hv = .int .u64 (y : Int) ∧ x ≤ y ∧ y < 18446744073709551616 ∧ Hid (x * x ≤ a ∧ a < (y + 1) * (y + 1)) ∧ Gr (w.alloc (.cells #[.int .u64 (hi a), .int .u64 (lo a)] 26)) w') (fun lv hv _ => (intOf hv - intOf lv).toNat)
  case atStart => exact ⟨0, 18446744073709551615, by simp, by simp, by omega, by omega, ⟨by omega, by omega⟩, Gr.refl _⟩
  case round =>
    obtain ⟨x, y, rfl, rfl, hxy, hy, X, hg⟩ := hrel
    obtain ⟨c0, c1, _, _⟩ := hg.var2
    by_cases hc : x < y
    · have hci : (x : Int) < (y : Int) := by omega
      obtain ⟨k, hk⟩ : ∃ k : Nat, k = x + (y - x) / 2 := ⟨_, rfl⟩
      obtain ⟨m, hm⟩ : ∃ m : Nat, m = k + 1 := ⟨_, rfl⟩
      have e1 : (x : Int) + ((y : Int) - (x : Int)) / 2 = (k : Int) := by omega
      have e2 : (k : Int) + 1 = (m : Int) := by omega
      have K : Hid (k = x + (y - x) / 2 ∧ m = k + 1 ∧ x < m ∧ m ≤ y) := ⟨hk, hm, by omega, by omega⟩
      have hm1 : m < 18446744073709551616 := by omega
      have hk1 : k < 18446744073709551616 := by omega
      have hmm := mul_lt m m hm1 hm1
      clear hk hm
      by_cases hlt : a < m * m
      · have cl := fun W => rless_v a (m * m) ha hmm true (decide_eq_true hlt) W
        have R : Hid (a < (m - 1 + 1) * (m - 1 + 1)) := by
          have := K.out.2.2.1
          unfold Hid; rw [Nat.sub_add_cancel (by omega)]; exact hlt
        clear hlt
        go_wp2
        go_region_held3 (fun w' => w'.cell? ⟨w.heap.size, 0, none⟩ = some (.int .u64 (hi a)) ∧ w'.cell? ⟨w.heap.size, 1, none⟩ = some (.int .u64 (lo a))) (first | (with_reducible exact call_keeps2 (by assumption) (by assumption)) | exact ⟨c0, c1⟩)
          (first
            | (go_at_call 65; refine (rmul_any m m hm1 hm1 _).mono ?_; rintro e w1 ⟨rfl, g1⟩)
            | (go_at_call 31; refine (cl _).mono ?_; rintro e w2 ⟨rfl, g2⟩))
        all_goals
          have hG := (hg.drew.trans g1).trans g2
          have hm0 : 1 ≤ m := by have := K.out; omega
          clear c0 c1 hg g1 g2
          go_wp2
          refine ⟨⟨x, m - 1, by go_num, ?_, ?_, by omega, ⟨X.out.1, R.out⟩, hG⟩, ?_⟩
          · rw [Int.natCast_sub hm0]; rfl
          · have := K.out; omega
          · have := K.out; simp [intOf]; omega
      · have cl := fun W => rless_v a (m * m) ha hmm false (decide_eq_false hlt) W
        have R : Hid (m * m ≤ a) := by unfold Hid; omega
        clear hlt
        go_wp2
        go_region_held3 (fun w' => w'.cell? ⟨w.heap.size, 0, none⟩ = some (.int .u64 (hi a)) ∧ w'.cell? ⟨w.heap.size, 1, none⟩ = some (.int .u64 (lo a))) (first | (with_reducible exact call_keeps2 (by assumption) (by assumption)) | exact ⟨c0, c1⟩)
          (first
            | (go_at_call 65; refine (rmul_any m m hm1 hm1 _).mono ?_; rintro e w1 ⟨rfl, g1⟩)
            | (go_at_call 31; refine (cl _).mono ?_; rintro e w2 ⟨rfl, g2⟩))
        all_goals
          have hG := (hg.drew.trans g1).trans g2
          clear c0 c1 hg g1 g2
          go_wp2
          refine ⟨⟨m, y, rfl, by go_num, ?_, hy, ⟨R.out, X.out.2⟩, hG⟩, ?_⟩
          · have := K.out; omega
          · have := K.out; simp [intOf]; omega
    · have hci : ¬ (x : Int) < (y : Int) := by omega
      have E : Hid (x = rt a) := by
        have h1 := X.out
        rw [show y = x by omega] at h1
        exact root_one h1
      go_wp2
      go_ret
      exact ⟨by rw [← E.out]; rfl, ((Gr.refl _).alloc _ _).trans hg⟩
end Go.Proofs.Ytnhaloeeaejedaa
