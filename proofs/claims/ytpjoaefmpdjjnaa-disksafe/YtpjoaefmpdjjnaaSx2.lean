import Derived.Test.YtpjoaefmpdjjnaaSx1
import Derived.Sort.Grow
import Derived.Deep.RegionWith
import Derived.BigQuiet
import Derived.Lib.ConvBytes
import Derived.Lib.AppendStr
import Derived.Laws.BytesArg
/- Lists of whole numbers that are read; vec.isDim, vec.Check and the reference's Check. -/
namespace Go.Proofs.Ytpjoaefmpdjjnaa
open Go.RowKit

/-- Nothing that was there has turned. -/
abbrev Gb (w w' : World) : Prop := Below w.heap.size w w'
theorem gb_trans {a b c : World} (h : Gb a b) (k : Gb b c) : Gb a c := h.trans (k.mono h.size)
theorem gb_alloc {a w : World} (h : Gb a w) (o : Obj) : Gb a (w.alloc o) := h.alloc h.size o
theorem gb_keeps {a b : World} (h : Gb a b) {p : Addr} {v : Value} (hc : a.cell? p = some v) : b.cell? p = some v :=
  (h.cell (World.block_lt_of_cell? a p hc)).trans hc
theorem gb_set {a w : World} (h : Gb a w) {p : Addr} (hp : a.heap.size ≤ p.block) (u : Value) : Gb a (w.setCell p u) := h.setCell hp u

/-- The slice v reads as these numbers. -/
def RdI (w : World) (v : Value) (l : List Int) : Prop := ∃ a cap, v = .slice a l.length cap ∧ ∀ i, i < l.length → ∃ b o, a = some ⟨b, o, none⟩ ∧ w.cell? ⟨b, o + i, none⟩ = some (.int .i64 l[i]!)
theorem RdI.gb {w w' : World} {v : Value} {l : List Int} (h : RdI w v l) (g : Gb w w') : RdI w' v l := by
  obtain ⟨a, cap, e, h⟩ := h
  refine ⟨a, cap, e, fun i hi => ?_⟩
  obtain ⟨b, o, e1, e2⟩ := h i hi
  exact ⟨b, o, e1, gb_keeps g e2⟩
theorem rdi_nil (w : World) : RdI w (.slice none 0 0) [] := ⟨none, 0, rfl, fun _ hi => absurd hi (Nat.not_lt_zero _)⟩

/-- A coordinate that may be; a list of such. -/
def inR (x : Int) : Bool := decide (-2147483647 ≤ x) && decide (x ≤ 2147483647)
theorem inR_iff (x : Int) : inR x = true ↔ -2147483647 ≤ x ∧ x ≤ 2147483647 := by simp [inR]
def allR (l : List Int) : Bool := l.all inR
theorem allR_get {l : List Int} (h : allR l = true) {i : Nat} (hi : i < l.length) : -2147483647 ≤ l[i]! ∧ l[i]! ≤ 2147483647 := by
  rw [← inR_iff, getElem!_pos l i hi]
  exact List.all_eq_true.1 h _ (List.getElem_mem hi)
theorem allR_take {l : List Int} {q : Nat} (hq : q < l.length) (h : allR (l.take q) = true) (hx : inR l[q]! = true) : allR (l.take (q + 1)) = true := by
  unfold allR at *
  rw [List.take_succ_eq_append_getElem hq, List.all_append, h, getElem!_pos l q hq] at *
  simpa using hx
theorem allR_no {l : List Int} {q : Nat} (hq : q < l.length) (hx : inR l[q]! = false) : allR l = false := by
  unfold allR
  rw [List.all_eq_false]
  refine ⟨l[q], List.getElem_mem hq, ?_⟩
  rw [getElem!_pos l q hq] at hx
  simp [hx]
def vErr (l : List Int) : Int := if allR l = true then 0 else 31
/-- What Check answers. -/
def chk (l : List Int) (dim : Int) : Int := if 1 ≤ dim ∧ dim ≤ 64 ∧ (l.length : Int) = dim then (vErr l) else 30

end Go.Proofs.Ytpjoaefmpdjjnaa

/- Bytes that are read; CRC-32, plainly; codec.overlaid and the reference's Sum. -/
namespace Go.Proofs.Ytpjoaefmpdjjnaa
open Go.RowKit

/-- The slice v reads as these bytes, and has room for itself. -/
def RdB (w : World) (v : Value) (l : List UInt8) : Prop := ∃ a cap, v = .slice a l.length cap ∧ l.length ≤ cap ∧ ∀ i, i < l.length → ∃ b o, a = some ⟨b, o, none⟩ ∧ w.cell? ⟨b, o + i, none⟩ = some (.int .u8 (l[i]!.toNat : Int))
theorem RdB.gb {w w' : World} {v : Value} {l : List UInt8} (h : RdB w v l) (g : Gb w w') : RdB w' v l := by
  obtain ⟨a, cap, e, hc, h⟩ := h
  refine ⟨a, cap, e, hc, fun i hi => ?_⟩
  obtain ⟨b, o, e1, e2⟩ := h i hi
  exact ⟨b, o, e1, gb_keeps g e2⟩
theorem rdb_nil (w : World) : RdB w (.slice none 0 0) [] := ⟨none, 0, rfl, Nat.le_refl _, fun _ hi => absurd hi (Nat.not_lt_zero _)⟩

/-- A number of 32 bits. -/
def U3 (z : Int) : Prop := 0 ≤ z ∧ z < 4294967296
theorem u3_wrap (z : Int) : U3 (IntKind.u32.wrap z) := by
  unfold U3
  rw [IntKind.wrap_u32]; exact ⟨Int.emod_nonneg _ (by decide), Int.emod_lt_of_pos _ (by decide)⟩
theorem u3_bits (o : BinOp) (x y : Int) : U3 (bits o .u32 x y) := by
  unfold bits; exact u3_wrap _
/-- P16.1: one bit, eight bits, a byte, all bytes. -/
def bit1 (c : Int) : Int := if bits .and .u32 c 1 = 1 then bits .xor .u32 (c / 2) 3988292384 else c / 2
def bitK (c : Int) : Nat → Int
  | 0 => c
  | k + 1 => bit1 (bitK c k)
def byt1 (c : Int) (x : UInt8) : Int := bitK (bits .xor .u32 c (x.toNat : Int)) 8
def ovl (c : Int) (l : List UInt8) : Int := l.foldl byt1 c
theorem u3_half {c : Int} (h : U3 c) : U3 (c / 2) := by unfold U3 at *; omega
theorem u3_bit1 {c : Int} (h : U3 c) : U3 (bit1 c) := by
  unfold bit1; split
  · exact u3_bits _ _ _
  · exact u3_half h
theorem u3_bitK {c : Int} (h : U3 c) : ∀ k, U3 (bitK c k)
  | 0 => h
  | k + 1 => u3_bit1 (u3_bitK h k)
theorem u3_byt1 (c : Int) (x : UInt8) : U3 (byt1 c x) := u3_bitK (u3_bits _ _ _) 8
theorem u3_ovl {c : Int} (h : U3 c) (l : List UInt8) : U3 (ovl c l) := by
  unfold ovl
  induction l generalizing c with
  | nil => exact h
  | cons x l ih => exact ih (u3_byt1 c x)
theorem ovl_take {c : Int} {l : List UInt8} {q : Nat} (hq : q < l.length) : ovl c (l.take (q + 1)) = byt1 (ovl c (l.take q)) l[q]! := by
  unfold ovl
  rw [List.take_succ_eq_append_getElem hq, List.foldl_append, getElem!_pos l q hq]; rfl

end Go.Proofs.Ytpjoaefmpdjjnaa
