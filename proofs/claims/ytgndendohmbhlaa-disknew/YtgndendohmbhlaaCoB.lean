/- Bytes that are read; CRC-32, plainly; codec.overlaid and the reference's Sum. -/
import Derived.Test.YtgndendohmbhlaaInts
import Derived.Lib.ConvBytes
import Derived.Lib.AppendStr
import Derived.Laws.BytesArg
namespace Go.Proofs.Ytgndendohmbhlaa
open Go.RowKit

/-- The slice v reads as these bytes, and has room for itself. -/
def RdB (w : World) (v : Value) (l : List UInt8) : Prop := ∃ a cap, v = .slice a l.length cap ∧ l.length ≤ cap ∧ ∀ i, i < l.length → ∃ b o, a = some ⟨b, o, none⟩ ∧ w.cell? ⟨b, o + i, none⟩ = some (.int .u8 (l[i]!.toNat : Int))
theorem RdB.gb {w w' : World} {v : Value} {l : List UInt8} (h : RdB w v l) (g : Gb w w') : RdB w' v l := by
  obtain ⟨a, cap, e, hc, h⟩ := h
  refine ⟨a, cap, e, hc, fun i hi => ?_⟩
  obtain ⟨b, o, e1, e2⟩ := h i hi
  exact ⟨b, o, e1, gb_keeps g e2⟩
theorem rdb_nil (w : World) : RdB w (.slice none 0 0) [] := ⟨none, 0, rfl, Nat.le_refl _, fun _ hi => absurd hi (Nat.not_lt_zero _)⟩

/-- A number of 32 bits. -/
def U3 (z : Int) : Prop := 0 ≤ z ∧ z < 4294967296
theorem u3_wrap (z : Int) : U3 (IntKind.u32.wrap z) := by
  unfold U3
  rw [IntKind.wrap_u32]; exact ⟨Int.emod_nonneg _ (by decide), Int.emod_lt_of_pos _ (by decide)⟩
theorem u3_bits (o : BinOp) (x y : Int) : U3 (bits o .u32 x y) := by
  unfold bits; exact u3_wrap _
/-- P16.1: one bit, eight bits, a byte, all bytes. -/
def bit1 (c : Int) : Int := if bits .and .u32 c 1 = 1 then bits .xor .u32 (c / 2) 3988292384 else c / 2
def bitK (c : Int) : Nat → Int
  | 0 => c
  | k + 1 => bit1 (bitK c k)
def byt1 (c : Int) (x : UInt8) : Int := bitK (bits .xor .u32 c (x.toNat : Int)) 8
def ovl (c : Int) (l : List UInt8) : Int := l.foldl byt1 c
theorem u3_half {c : Int} (h : U3 c) : U3 (c / 2) := by unfold U3 at *; omega
theorem u3_bit1 {c : Int} (h : U3 c) : U3 (bit1 c) := by
  unfold bit1; split
  · exact u3_bits _ _ _
  · exact u3_half h
theorem u3_bitK {c : Int} (h : U3 c) : ∀ k, U3 (bitK c k)
  | 0 => h
  | k + 1 => u3_bit1 (u3_bitK h k)
theorem u3_byt1 (c : Int) (x : UInt8) : U3 (byt1 c x) := u3_bitK (u3_bits _ _ _) 8
theorem u3_ovl {c : Int} (h : U3 c) (l : List UInt8) : U3 (ovl c l) := by
  unfold ovl
  induction l generalizing c with
  | nil => exact h
  | cons x l ih => exact ih (u3_byt1 c x)
theorem ovl_take {c : Int} {l : List UInt8} {q : Nat} (hq : q < l.length) : ovl c (l.take (q + 1)) = byt1 (ovl c (l.take q)) l[q]! := by
  unfold ovl
  rw [List.take_succ_eq_append_getElem hq, List.foldl_append, getElem!_pos l q hq]; rfl

end Go.Proofs.Ytgndendohmbhlaa
