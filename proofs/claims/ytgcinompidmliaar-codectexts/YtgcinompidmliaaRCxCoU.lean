/- law16's big; strings laid together. -/
import Derived.Test.YtgcinompidmliaaRCxCoZr
import Derived.Test.YtgcinompidmliaaRCxCoW
import Derived.Test.YtgcinompidmliaaRCxFVec
namespace Go.Proofs.YtgcinompidmliaaR
open Go.RowKit Go.Lib

set_option maxHeartbeats 1000000 in
theorem big16_c {w : World} {v : Value} {rs : List Rw} (h : RdW w v rs) (hlen : rs.length ≤ 4611686018427387904) (hrow : ∀ i, i < rs.length → rs[i]!.2.length ≤ 4611686018427387904) :
    Calls Try.prog 17 #[v] w fun e w' => (∃ b, e = .returned (.bool b) ∧ (b = false → rs.length ≤ 2000 ∧ coords rs ≤ 524288)) ∧ w = w' := by
  have c := vects_b h 524288 hlen (by omega) hrow
  obtain ⟨a, cap, rfl, _⟩ := h
  obtain ⟨n, hN⟩ : ∃ n, n = rs.length := ⟨_, rfl⟩
  have N : Hid (n = rs.length) := hN
  rw [← hN] at c hlen ⊢
  clear hN hrow
  by_cases hn : 2000 < n
  · have hi : (2000 : Int) < (n : Int) := by omega
    clear c
    go_enter Try.func17, Try.ntmps17
    go_wp2
    go_ret
    exact ⟨⟨true, rfl, fun h => by cases h⟩, rfl⟩
  · have hi : ¬ (2000 : Int) < (n : Int) := by omega
    go_enter Try.func17, Try.ntmps17
    go_wp2_with fail
    refine c.mono ?_
    rintro e w' ⟨⟨z, rfl, hz⟩, rfl⟩
    have B : Hid (z ≤ 524288 → n ≤ 2000 ∧ coords rs ≤ 524288) := fun h => ⟨by omega, by have := hz h; omega⟩
    clear hz
    go_wp2
    go_ret
    exact ⟨⟨decide (524288 < z), rfl, fun h => B.out (by simpa using h)⟩, rfl⟩
theorem sb_app (l m : List UInt8) : sb l ++ sb m = sb (l ++ m) := by
  apply ByteArray.ext
  simp [sb]
theorem sb_take (l : List UInt8) (n : Nat) : (sb l).extract 0 n = sb (l.take n) := by
  apply ByteArray.ext
  apply Array.ext'
  simp [sb, ByteArray.data_extract]
end Go.Proofs.YtgcinompidmliaaR
