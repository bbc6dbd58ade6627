/- wide.Sqrt, as a contract. -/
import Derived.Test.YtbkjelbnbgcbbaaMul
import Derived.Deep.RegionHeld3
import Derived.Handy
import Derived.WalkMore
namespace Go.Proofs.Ytbkjelbnbgcbbaa
open Go.RowKit

/-- r is the root of a: the greatest number whose square is not above a. -/
def IsRoot (a r : Nat) : Prop := r * r ≤ a ∧ a < (r + 1) * (r + 1)

theorem sq_le {x y : Nat} (h : x ≤ y) : x * x ≤ y * y := Nat.mul_le_mul h h

set_option maxHeartbeats 1000000 in
theorem sqrt_any (a : Nat) (ha : a < 340282366920938463463374607431768211456) (w : World) :
    Calls Try.prog 53 #[Wd a] w fun e w' => ∃ r : Nat, e = .returned (.int .u64 (r : Int)) ∧ r < 18446744073709551616 ∧ IsRoot a r ∧ Gr w w' := by
  go_enter Try.func53, Try.ntmps53
  go_wp2
  go_step3
  go_wp2
  go_step3
  go_wp2
  go_loopw [3, 4] (fun lv hv w' => ∃ x y : Nat, lv = .int .u64 (x : Int) ∧ hv = .int .u64 (y : Int) ∧ x ≤ y ∧ y < 18446744073709551616 ∧ x * x ≤ a ∧ a < (y + 1) * (y + 1) ∧ Gr (w.alloc (.cells #[.int .u64 (hi a), .int .u64 (lo a)] 29)) w') (fun lv hv _ => (intOf hv - intOf lv).toNat)
  case atStart => exact ⟨0, 18446744073709551615, by simp, by simp, by omega, by omega, by omega, by omega, Gr.refl _⟩
  case round =>
    obtain ⟨x, y, rfl, rfl, hxy, hy, hx2, hy2, hg⟩ := hrel
    have hz : w.heap.size < wr.heap.size := by have := hg.size; simp at this; omega
    have c0 : wr.cell? ⟨w.heap.size, 0, none⟩ = some (.int .u64 (hi a)) := by rw [hg.cell _ _ (by simp)]; simp [go_sem]
    have c1 : wr.cell? ⟨w.heap.size, 1, none⟩ = some (.int .u64 (lo a)) := by rw [hg.cell _ _ (by simp)]; simp [go_sem]
    by_cases hc : x < y
    · obtain ⟨m, hm⟩ : ∃ m : Nat, m = y - (y - x) / 2 := ⟨_, rfl⟩
      have hm0 : ((y : Int) - ((y : Int) - (x : Int)) / 2) = (m : Int) := by omega
      have M : Hid (m = y - (y - x) / 2) := hm
      have hm1 : m < 18446744073709551616 := by omega
      clear hm
      go_wp2
      go_region_held3 (fun w' => w'.cell? ⟨w.heap.size, 0, none⟩ = some (.int .u64 (hi a)) ∧ w'.cell? ⟨w.heap.size, 1, none⟩ = some (.int .u64 (lo a))) (first | exact ⟨c0, c1⟩ | exact ⟨k0, k1⟩)
        (first
          | (go_at_call 50; refine (mul_any m m hm1 hm1 _).mono ?_; rintro e w1 ⟨rfl, hg1⟩; have k0 : w1.cell? ⟨w.heap.size, 0, none⟩ = some (.int .u64 (hi a)) := (hg1.cell _ _ hz).trans c0; have k1 : w1.cell? ⟨w.heap.size, 1, none⟩ = some (.int .u64 (lo a)) := (hg1.cell _ _ hz).trans c1)
          | (go_at_call 19; refine (cmp_any (m * m) a _).mono ?_; rintro e w2 ⟨rfl, hg2⟩; have k0 : w2.cell? ⟨w.heap.size, 0, none⟩ = some (.int .u64 (hi a)) := (hg2.cell _ _ (Nat.lt_of_lt_of_le hz hg1.size)).trans k0; have k1 : w2.cell? ⟨w.heap.size, 1, none⟩ = some (.int .u64 (lo a)) := (hg2.cell _ _ (Nat.lt_of_lt_of_le hz hg1.size)).trans k1))
      have hG : Gr (w.alloc (.cells #[.int .u64 (hi a), .int .u64 (lo a)] 29)) w2 := (hg.drew.trans hg1).trans hg2
      have hmx : x < m := by have := M.out; omega
      have hmy : m ≤ y := by have := M.out; omega
      clear c0 c1 hg hg1 hg2 hz
      by_cases h1 : m * m < a
      · have e1 : cmp3 (m * m) a = -1 := by unfold cmp3; rw [if_pos h1]
        go_wp2
        go_roundw
        case rel => exact ⟨m, y, rfl, rfl, hmy, hy, by omega, hy2, hG⟩
        case measure => simp [intOf]; omega
      by_cases h2 : m * m = a
      · have e1 : cmp3 (m * m) a = 0 := by unfold cmp3; rw [if_neg h1, if_pos h2]
        have H2 : Hid (m * m = a) := h2
        clear h2
        go_wp2
        simp only [Exit.noGoto_ret]
        go_ret
        have h3 := H2.out
        exact ⟨m, rfl, hm1, ⟨by omega, by rw [Nat.add_mul, Nat.mul_add]; omega⟩, ((Gr.refl _).alloc _ _).trans hG⟩
      · have e1 : cmp3 (m * m) a = 1 := by unfold cmp3; rw [if_neg h1, if_neg h2]
        have hlt : a < m * m := by omega
        have H2 : Hid (a < m * m) := hlt
        have hm0' : 1 ≤ m := by omega
        clear h2 h1 hlt
        go_wp2
        go_roundw
        case rel =>
          obtain ⟨k, rfl⟩ : ∃ k, m = k + 1 := ⟨m - 1, by omega⟩
          exact ⟨x, k, rfl, by simp, by omega, by omega, hx2, H2.out, hG⟩
        case measure => simp [intOf]; omega
    · go_wp2
      simp only [Exit.noGoto_ret]
      go_ret
      have hyx : y = x := by omega
      subst hyx
      exact ⟨y, rfl, hy, ⟨hx2, hy2⟩, ((Gr.refl _).alloc _ _).trans hg⟩

end Go.Proofs.Ytbkjelbnbgcbbaa
