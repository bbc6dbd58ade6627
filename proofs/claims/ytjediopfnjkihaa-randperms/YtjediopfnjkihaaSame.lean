/- Same, at two rows of the same numbers. -/
import Derived.Test.YtjediopfnjkihaaPerm
import Derived.Deep.RegionWith
namespace Go.Proofs.Ytjediopfnjkihaa
open Go.RowKit Go.Shelf

/-- A slice of n numbers f 0 .. f (n - 1). -/
def RdA (w : World) (v : Value) (n : Nat) (f : Nat → Int) : Prop := ∃ p cap, v = .slice p n cap ∧ (n = 0 ∨ ∃ g, p = some ⟨g, 0, none⟩ ∧ Arr w g n cap f)

theorem RdA.kept {w w' : World} {v : Value} {n : Nat} {f : Nat → Int} {r : Option Nat} (h : RdA w v n f) (hg : w.grownBy w' r) (hn : n = 0 ∨ ∀ k, v.ownBlock = some k → some k ≠ r) : RdA w' v n f := by
  obtain ⟨p, cap, rfl, h⟩ := h
  refine ⟨p, cap, rfl, ?_⟩
  rcases h with h | ⟨g, rfl, hA⟩
  · exact .inl h
  · rcases hn with hn | hn
    · exact .inl hn
    · exact .inr ⟨g, rfl, hA.kept hg (hn g rfl)⟩

set_option maxRecDepth 100000 in
set_option maxHeartbeats 4000000 in
theorem same_eq (u v : Value) (n : Nat) (f : Nat → Int) (w : World) (hu : RdA w u n f) (hv : RdA w v n f) (hn : n ≤ 65536) :
    Calls Try.prog 9 #[u, v] w fun e w' => e = .returned (.bool true) ∧ w.grownBy w' none := by
  obtain ⟨p, cp, rfl, hu⟩ := hu
  obtain ⟨q, cq, rfl, hv⟩ := hv
  go_enter Try.func9, Try.ntmps9
  go_wp2
  go_loopw [5] (fun iv wr => ∃ k : Nat, iv = .int .i64 k ∧ k ≤ n ∧ w.grownBy wr none) (fun iv _ => n - (intOf iv).toNat)
  case atStart => exact ⟨0, rfl, Nat.zero_le _, grownBy_refl _ _⟩
  case round =>
    obtain ⟨k, rfl, hk, hg⟩ := hrel
    by_cases hlt : k < n
    · have hlt' : (k : Int) < n := by omega
      obtain ⟨g, rfl, hA⟩ : ∃ g, p = some ⟨g, 0, none⟩ ∧ Arr w g n cp f := by
        rcases hu with h | h
        · omega
        · exact h
      obtain ⟨g', rfl, hB⟩ : ∃ g, q = some ⟨g, 0, none⟩ ∧ Arr w g n cq f := by
        rcases hv with h | h
        · omega
        · exact h
      have c1 := (hA.kept hg (by simp)).cell hlt
      have c2 := (hB.kept hg (by simp)).cell hlt
      clear hu hv hA hB
      generalize f k = x at *
      go_wp2
      go_quiet (fail)
      go_wp2
      go_roundw
      case rel => exact ⟨k + 1, by simp, by omega, hg.os, hg.tape, hg.output, hg.size, hg.block⟩
      case measure => simp [intOf]; omega
    · obtain rfl : k = n := by omega
      go_wp2
      go_ret
      exact ⟨rfl, hg⟩

end Go.Proofs.Ytjediopfnjkihaa
