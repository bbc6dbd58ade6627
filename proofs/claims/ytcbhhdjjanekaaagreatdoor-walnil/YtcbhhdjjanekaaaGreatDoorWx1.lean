import Derived.Test.YtcbhhdjjanekaaaGreatDoorWxBase
import Derived.Lib.Mul64
import Derived.Laws.Bits64b
import Derived.Deep.RegionHeld3
import Derived.Handy
import Derived.WalkMore
import Derived.Sort.Grow
import Derived.Deep.RegionWith
import Derived.BigQuiet
import Derived.Lib.ConvBytes
import Derived.Lib.AppendStr
import Derived.Laws.BytesArg
/- wide.Add, wide.Sub, wide.Cmp and the law's own lo, as contracts. -/
namespace Go.Proofs.YtcbhhdjjanekaaaGreatDoor
open Go.RowKit

/-- -1, 0 or 1. -/
def cmp3 (a b : Nat) : Int := if a < b then -1 else if a = b then 0 else 1

end Go.Proofs.YtcbhhdjjanekaaaGreatDoor

/- math/bits.Mul64 and wide.Mul, as contracts. -/
namespace Go.Proofs.YtcbhhdjjanekaaaGreatDoor
open Go.RowKit

/-- The low half of a word. -/
theorem mask32 (a : Nat) (ha : a < 18446744073709551616) : bits .and .u64 (a : Int) 4294967295 = ((a % 4294967296 : Nat) : Int) :=
  (bits_and_u64_nat a 4294967295 ha (by omega)).trans (congrArg Int.ofNat (Nat.and_two_pow_sub_one_eq_mod a 32))
theorem addc (a b : Nat) : (a : Int) + (b : Int) = ((a + b : Nat) : Int) := (Int.natCast_add a b).symm
theorem wrapc (a : Nat) (ha : a < 18446744073709551616) : IntKind.u64.wrap (a : Int) = (a : Int) := by rw [IntKind.wrap_u64]; omega
theorem ret2u {k k' : IntKind} {a a' b b' : Int} (h : a = a') (h' : b = b') : Ending.returned (.tuple #[.int k a, .int k' b]) = .returned (.tuple #[.int k a', .int k' b']) := by rw [h, h']

theorem mul_lt (x y : Nat) (hx : x < 18446744073709551616) (hy : y < 18446744073709551616) : x * y < 340282366920938463463374607431768211456 := by
  have : x * y ≤ 18446744073709551615 * 18446744073709551615 := Nat.mul_le_mul (by omega) (by omega)
  omega

end Go.Proofs.YtcbhhdjjanekaaaGreatDoor

/- wide.Sqrt, as a contract. -/
namespace Go.Proofs.YtcbhhdjjanekaaaGreatDoor
open Go.RowKit

/-- r is the root of a: the greatest number whose square is not above a. -/
def IsRoot (a r : Nat) : Prop := r * r ≤ a ∧ a < (r + 1) * (r + 1)

theorem sq_le {x y : Nat} (h : x ≤ y) : x * x ≤ y * y := Nat.mul_le_mul h h

end Go.Proofs.YtcbhhdjjanekaaaGreatDoor

/- Lists of whole numbers that are read; vec.isDim, vec.Check and the reference's Check. -/
namespace Go.Proofs.YtcbhhdjjanekaaaGreatDoor
open Go.RowKit

/-- Nothing that was there has turned. -/
abbrev Gb (w w' : World) : Prop := Below w.heap.size w w'
theorem gb_trans {a b c : World} (h : Gb a b) (k : Gb b c) : Gb a c := h.trans (k.mono h.size)
theorem gb_alloc {a w : World} (h : Gb a w) (o : Obj) : Gb a (w.alloc o) := h.alloc h.size o
theorem gb_keeps {a b : World} (h : Gb a b) {p : Addr} {v : Value} (hc : a.cell? p = some v) : b.cell? p = some v :=
  (h.cell (World.block_lt_of_cell? a p hc)).trans hc
theorem gb_set {a w : World} (h : Gb a w) {p : Addr} (hp : a.heap.size ≤ p.block) (u : Value) : Gb a (w.setCell p u) := h.setCell hp u

/-- The slice v reads as these numbers. -/
def RdI (w : World) (v : Value) (l : List Int) : Prop := ∃ a cap, v = .slice a l.length cap ∧ ∀ i, i < l.length → ∃ b o, a = some ⟨b, o, none⟩ ∧ w.cell? ⟨b, o + i, none⟩ = some (.int .i64 l[i]!)
theorem RdI.gb {w w' : World} {v : Value} {l : List Int} (h : RdI w v l) (g : Gb w w') : RdI w' v l := by
  obtain ⟨a, cap, e, h⟩ := h
  refine ⟨a, cap, e, fun i hi => ?_⟩
  obtain ⟨b, o, e1, e2⟩ := h i hi
  exact ⟨b, o, e1, gb_keeps g e2⟩
theorem rdi_nil (w : World) : RdI w (.slice none 0 0) [] := ⟨none, 0, rfl, fun _ hi => absurd hi (Nat.not_lt_zero _)⟩

/-- A coordinate that may be; a list of such. -/
def inR (x : Int) : Bool := decide (-2147483647 ≤ x) && decide (x ≤ 2147483647)
theorem inR_iff (x : Int) : inR x = true ↔ -2147483647 ≤ x ∧ x ≤ 2147483647 := by simp [inR]
def allR (l : List Int) : Bool := l.all inR
theorem allR_get {l : List Int} (h : allR l = true) {i : Nat} (hi : i < l.length) : -2147483647 ≤ l[i]! ∧ l[i]! ≤ 2147483647 := by
  rw [← inR_iff, getElem!_pos l i hi]
  exact List.all_eq_true.1 h _ (List.getElem_mem hi)
theorem allR_take {l : List Int} {q : Nat} (hq : q < l.length) (h : allR (l.take q) = true) (hx : inR l[q]! = true) : allR (l.take (q + 1)) = true := by
  unfold allR at *
  rw [List.take_succ_eq_append_getElem hq, List.all_append, h, getElem!_pos l q hq] at *
  simpa using hx
theorem allR_no {l : List Int} {q : Nat} (hq : q < l.length) (hx : inR l[q]! = false) : allR l = false := by
  unfold allR
  rw [List.all_eq_false]
  refine ⟨l[q], List.getElem_mem hq, ?_⟩
  rw [getElem!_pos l q hq] at hx
  simp [hx]
def vErr (l : List Int) : Int := if allR l = true then 0 else 31
/-- What Check answers. -/
def chk (l : List Int) (dim : Int) : Int := if 1 ≤ dim ∧ dim ≤ 64 ∧ (l.length : Int) = dim then (vErr l) else 30

end Go.Proofs.YtcbhhdjjanekaaaGreatDoor

/- Bytes that are read; CRC-32, plainly; codec.overlaid and the reference's Sum. -/
namespace Go.Proofs.YtcbhhdjjanekaaaGreatDoor
open Go.RowKit

/-- The slice v reads as these bytes, and has room for itself. -/
def RdB (w : World) (v : Value) (l : List UInt8) : Prop := ∃ a cap, v = .slice a l.length cap ∧ l.length ≤ cap ∧ ∀ i, i < l.length → ∃ b o, a = some ⟨b, o, none⟩ ∧ w.cell? ⟨b, o + i, none⟩ = some (.int .u8 (l[i]!.toNat : Int))
theorem RdB.gb {w w' : World} {v : Value} {l : List UInt8} (h : RdB w v l) (g : Gb w w') : RdB w' v l := by
  obtain ⟨a, cap, e, hc, h⟩ := h
  refine ⟨a, cap, e, hc, fun i hi => ?_⟩
  obtain ⟨b, o, e1, e2⟩ := h i hi
  exact ⟨b, o, e1, gb_keeps g e2⟩
theorem rdb_nil (w : World) : RdB w (.slice none 0 0) [] := ⟨none, 0, rfl, Nat.le_refl _, fun _ hi => absurd hi (Nat.not_lt_zero _)⟩

/-- A number of 32 bits. -/
def U3 (z : Int) : Prop := 0 ≤ z ∧ z < 4294967296
theorem u3_wrap (z : Int) : U3 (IntKind.u32.wrap z) := by
  unfold U3
  rw [IntKind.wrap_u32]; exact ⟨Int.emod_nonneg _ (by decide), Int.emod_lt_of_pos _ (by decide)⟩
theorem u3_bits (o : BinOp) (x y : Int) : U3 (bits o .u32 x y) := by
  unfold bits; exact u3_wrap _
/-- P16.1: one bit, eight bits, a byte, all bytes. -/
def bit1 (c : Int) : Int := if bits .and .u32 c 1 = 1 then bits .xor .u32 (c / 2) 3988292384 else c / 2
def bitK (c : Int) : Nat → Int
  | 0 => c
  | k + 1 => bit1 (bitK c k)
def byt1 (c : Int) (x : UInt8) : Int := bitK (bits .xor .u32 c (x.toNat : Int)) 8
def ovl (c : Int) (l : List UInt8) : Int := l.foldl byt1 c
theorem u3_half {c : Int} (h : U3 c) : U3 (c / 2) := by unfold U3 at *; omega
theorem u3_bit1 {c : Int} (h : U3 c) : U3 (bit1 c) := by
  unfold bit1; split
  · exact u3_bits _ _ _
  · exact u3_half h
theorem u3_bitK {c : Int} (h : U3 c) : ∀ k, U3 (bitK c k)
  | 0 => h
  | k + 1 => u3_bit1 (u3_bitK h k)
theorem u3_byt1 (c : Int) (x : UInt8) : U3 (byt1 c x) := u3_bitK (u3_bits _ _ _) 8
theorem u3_ovl {c : Int} (h : U3 c) (l : List UInt8) : U3 (ovl c l) := by
  unfold ovl
  induction l generalizing c with
  | nil => exact h
  | cons x l ih => exact ih (u3_byt1 c x)
theorem ovl_take {c : Int} {l : List UInt8} {q : Nat} (hq : q < l.length) : ovl c (l.take (q + 1)) = byt1 (ovl c (l.take q)) l[q]! := by
  unfold ovl
  rw [List.take_succ_eq_append_getElem hq, List.foldl_append, getElem!_pos l q hq]; rfl

set_option maxHeartbeats 1000000 in
theorem overlaid_c {w : World} {v : Value} {l : List UInt8} (h : RdB w v l) (hl : l.length ≤ 4611686018427387904) {c : Int} (hc : U3 c) :
    Calls Tryz.prog 84 #[.int .u32 c, v] w fun e w' => e = .returned (.int .u32 (ovl c l)) ∧ w = w' := by
  obtain ⟨a, cap, rfl, _, ha⟩ := h
  have A : Hid (∀ i, i < l.length → ∃ b o, a = some ⟨b, o, none⟩ ∧ w.cell? ⟨b, o + i, none⟩ = some (.int .u8 (l[i]!.toNat : Int))) := ha
  obtain ⟨n, hN⟩ : ∃ n, n = l.length := ⟨_, rfl⟩
  have N : Hid (n = l.length) := hN
  have C : Hid (U3 c) := hc
  rw [← hN] at hl ⊢
  clear ha hN hc
  go_enter Tryz.func84, Tryz.ntmps84
  go_wp2
  go_loopw [0, 10] (fun cv iv w' => ∃ q : Nat, iv = .int .i64 (q : Int) ∧ q ≤ n ∧ cv = .int .u32 (ovl c (l.take q)) ∧ w = w') (fun _ iv _ => n - (intOf iv).toNat)
  case atStart => exact ⟨0, rfl, Nat.zero_le _, rfl, rfl⟩
  case round =>
    obtain ⟨q, rfl, hq, rfl, rfl⟩ := hrel
    by_cases hqn : q < n
    · have hql : q < l.length := by have := N.out; omega
      obtain ⟨b, o, ea, hcell⟩ := A.out q hql
      have S : Hid (ovl c (l.take (q + 1)) = byt1 (ovl c (l.take q)) l[q]!) := ovl_take (c := c) hql
      have UC : U3 (ovl c (l.take q)) := u3_ovl C.out _
      have hx : 0 ≤ (l[q]!.toNat : Int) ∧ (l[q]!.toNat : Int) < 256 := ⟨by omega, by have := l[q]!.toNat_lt; omega⟩
      generalize hz : (l[q]!.toNat : Int) = z at *
      have Z : Hid ((l[q]!.toNat : Int) = z) := hz
      clear hz
      generalize ovl c (l.take q) = d at *
      have hqd : decide ((q : Int) < (n : Int)) = true := by simp; omega
      obtain ⟨u0, u1⟩ := UC
      obtain ⟨z0, z1⟩ := hx
      subst ea
      go_wp2
      go_loopw [0, 18] (fun cv iv w' => ∃ k : Nat, iv = .int .i64 (k : Int) ∧ k ≤ 8 ∧ cv = .int .u32 (bitK (bits .xor .u32 d z) k) ∧ w = w') (fun _ iv _ => 8 - (intOf iv).toNat)
      case atStart => exact ⟨0, rfl, Nat.zero_le _, rfl, rfl⟩
      case round =>
        obtain ⟨k, rfl, hk, rfl, rfl⟩ := hrel
        by_cases hk8 : k < 8
        · have UK : U3 (bitK (bits .xor .u32 d z) k) := u3_bitK (u3_bits _ _ _) k
          have SK : Hid (bitK (bits .xor .u32 d z) (k + 1) = bit1 (bitK (bits .xor .u32 d z) k)) := rfl
          generalize bitK (bits .xor .u32 d z) k = y at *
          obtain ⟨y0, y1⟩ := UK
          by_cases hb : bits .and .u32 y 1 = 1
          · have E1 : Hid (bit1 y = bits .xor .u32 (y / 2) 3988292384) := by unfold Hid bit1; rw [if_pos hb]
            have hb' : (bits .and .u32 y 1 == 1) = true := by rw [beq_iff_eq]; exact hb
            go_wp2
            go_roundw
            case rel => exact ⟨k + 1, by simp, hk8, by rw [SK.out, E1.out], by first | rfl | trivial⟩
            case measure => simp [intOf]; omega
          · have E1 : Hid (bit1 y = y / 2) := by unfold Hid bit1; rw [if_neg hb]
            have hb' : (bits .and .u32 y 1 == 1) = false := by rw [beq_eq_false_iff_ne]; exact hb
            go_wp2
            go_roundw
            case rel => exact ⟨k + 1, by simp, hk8, by rw [SK.out, E1.out], by first | rfl | trivial⟩
            case measure => simp [intOf]; omega
        · have e8 : k = 8 := by omega
          subst e8
          have E2 : Hid (bitK (bits .xor .u32 d z) 8 = ovl c (l.take (q + 1))) := by unfold Hid; rw [S.out]; unfold byt1; rw [Z.out]
          go_wp2
          go_roundw
          case rel => exact ⟨q + 1, by simp, hqn, by rw [E2.out], by first | rfl | trivial⟩
          case measure => simp [intOf]; omega
    · have hqi : ¬ (q : Int) < (n : Int) := by omega
      have R : Hid (ovl c (l.take q) = ovl c l) := by
        unfold Hid; rw [List.take_of_length_le (by have := N.out; omega)]
      go_wp2
      go_ret
      exact ⟨by rw [R.out]; rfl, by first | rfl | trivial⟩
end Go.Proofs.YtcbhhdjjanekaaaGreatDoor
