/- The reference's Sum; codec's Sum and checkOf. -/
import Derived.Test.YtgndendohmbhlaaCoB
import Derived.Laws.BitsLemmas
namespace Go.Proofs.Ytgndendohmbhlaa
open Go.RowKit

theorem wrp32 (n : Int) (h₀ : 0 ≤ n) (h₁ : n < 2 ^ 32) : IntKind.u32.wrap n = n := by rw [IntKind.wrap_u32]; omega
theorem and_one (y : Int) (h0 : 0 ≤ y) (h1 : y < 4294967296) : bits .and .u32 y 1 = y % 2 := bits_mask .u32 32 (by decide) wrp32 1 (by decide) y h0 h1
theorem xor_comm (a b : Int) : bits .xor .u32 a b = bits .xor .u32 b a := by
  unfold bits; simp only [BitVec.xor_comm]
/-- P16.1: Sum. -/
def crc (l : List UInt8) : Int := bits .xor .u32 (ovl 4294967295 l) 4294967295
theorem rdb_one (W : World) (x : UInt8) {z : Int} (hz : z = (x.toNat : Int)) : RdB (W.alloc (.cells #[.int .u8 z] 5)) (.slice (some ⟨W.heap.size, 0, none⟩) 1 1) [x] := by
  refine ⟨_, _, rfl, Nat.le_refl _, fun i hi => ⟨W.heap.size, 0, rfl, ?_⟩⟩
  have : i = 0 := by simp at hi; omega
  subst this; subst hz
  simp [go_sem]
end Go.Proofs.Ytgndendohmbhlaa
