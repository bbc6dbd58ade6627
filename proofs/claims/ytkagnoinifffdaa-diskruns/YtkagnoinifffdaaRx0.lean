import Derived.Test.YtkagnoinifffdaaProg
import Derived.WalkKit
import Derived.WalkSpells
import Derived.WalkLawsBesides
import Derived.Laws.Externs
import Derived.RowKit3
import Derived.WalkSmall
import Derived.Deep.RegionHeld3
import Derived.Handy
import Derived.Lib.Mul64
import Derived.Laws.Bits64b
import Derived.WalkMore
import Derived.Sort.Grow
import Derived.Deep.RegionWith
import Derived.BigQuiet
import Derived.Lib.ConvBytes
import Derived.Lib.AppendStr
import Derived.Laws.BytesArg
import Derived.Laws.BitsLemmas
import Derived.Lib.EndianBits
/- Plain facts on words and on numbers of two words, and the relation that says what a call may do to memory. -/
namespace Go.Proofs.Ytkagnoinifffdaa
open Go.RowKit

/-- Nothing that was there has turned: new blocks, stores into those, draws. -/
structure Gr (w w' : World) : Prop where
  below : Below w.heap.size w w'
  froz : ∀ a, w'.frozen? a = w.frozen? a

theorem Gr.refl (w : World) : Gr w w := ⟨Below.refl _ _, fun _ => rfl⟩
theorem Gr.trans {a b c : World} (h : Gr a b) (k : Gr b c) : Gr a c :=
  ⟨h.below.trans (k.below.mono h.below.size), fun x => (k.froz x).trans (h.froz x)⟩
theorem Gr.alloc {a w : World} (h : Gr a w) (c : Array Value) (t : TypeId) : Gr a (w.alloc (.cells c t)) :=
  ⟨h.below.alloc h.below.size _, fun x => (frozen?_alloc_cells _ _ _ x).trans (h.froz x)⟩
theorem Gr.setCell {a w : World} (h : Gr a w) {p : Addr} (hp : a.heap.size ≤ p.block) (u : Value) : Gr a (w.setCell p u) :=
  ⟨h.below.setCell hp u, fun x => (World.frozen?_setCell _ _ _ _).trans (h.froz x)⟩
theorem Gr.drew {a w : World} (h : Gr a w) : Gr a w.drew := ⟨h.below.drew, h.froz⟩
theorem Gr.size {a b : World} (h : Gr a b) : a.heap.size ≤ b.heap.size := h.below.size
theorem Gr.cell {a b : World} (h : Gr a b) : ∀ k o, k < a.heap.size → b.cell? ⟨k, o, none⟩ = a.cell? ⟨k, o, none⟩ :=
  fun k o hk => h.below.cell (p := ⟨k, o, none⟩) hk

theorem Gr.drewN {a w : World} (h : Gr a w) (n : Nat) : Gr a (w.drewN n) := ⟨below_drewN h.below n, h.froz⟩
theorem Gr.rules {a b : World} (h : Gr a b) : (∀ k o, k < a.heap.size → b.cell? ⟨k, o, none⟩ = a.cell? ⟨k, o, none⟩) ∧ (∀ p, b.frozen? p = a.frozen? p) ∧ (∀ k, k < a.heap.size → k < b.heap.size) :=
  ⟨h.cell, h.froz, fun _ hk => Nat.lt_of_lt_of_le hk h.size⟩

/-- A cell that is there stays as it is. -/
theorem Gr.keeps {a b : World} (h : Gr a b) {p : Addr} {v : Value} (hc : a.cell? p = some v) : b.cell? p = some v :=
  (h.below.cell (World.block_lt_of_cell? a p hc)).trans hc
theorem alloc_keeps {a : World} {p : Addr} {v : Value} (hc : a.cell? p = some v) (o : Obj) : (a.alloc o).cell? p = some v :=
  (World.cell?_alloc_lt _ _ _ (World.block_lt_of_cell? a p hc)).trans hc
/-- Two cells that are there: behind a call, behind a new block, behind a store into a block that was made when they were there. -/
theorem call_keeps2 {W w' : World} {p q : Addr} {u v : Value} (h : Gr W w') (hs : W.cell? p = some u ∧ W.cell? q = some v) : w'.cell? p = some u ∧ w'.cell? q = some v := ⟨h.keeps hs.1, h.keeps hs.2⟩
theorem alloc_keeps2 {W : World} {p q : Addr} {u v : Value} {o : Obj} (hs : W.cell? p = some u ∧ W.cell? q = some v) : (W.alloc o).cell? p = some u ∧ (W.alloc o).cell? q = some v := ⟨alloc_keeps hs.1 o, alloc_keeps hs.2 o⟩
theorem set_keeps {W0 W : World} {p : Addr} {u : Value} {o : Nat} {x : Value} (h0 : W0.cell? p = some u) (h : W.cell? p = some u) : (W.setCell ⟨W0.heap.size, o, none⟩ x).cell? p = some u :=
  (World.cell?_setCell_far W _ p x (World.new_ne W0 p h0)).trans h
theorem set_keeps2 {W0 W : World} {p q : Addr} {u v : Value} {o : Nat} {x : Value} (h0 : W0.cell? p = some u ∧ W0.cell? q = some v) (h : W.cell? p = some u ∧ W.cell? q = some v) :
    (W.setCell ⟨W0.heap.size, o, none⟩ x).cell? p = some u ∧ (W.setCell ⟨W0.heap.size, o, none⟩ x).cell? q = some v := ⟨set_keeps h0.1 h.1, set_keeps h0.2 h.2⟩
theorem set_far2 {W : World} {p q : Addr} {u v : Value} {b o : Nat} {x : Value} (hp : b ≠ p.block) (hq : b ≠ q.block) (h : W.cell? p = some u ∧ W.cell? q = some v) :
    (W.setCell ⟨b, o, none⟩ x).cell? p = some u ∧ (W.setCell ⟨b, o, none⟩ x).cell? q = some v := ⟨(World.cell?_setCell_far W _ p x hp).trans h.1, (World.cell?_setCell_far W _ q x hq).trans h.2⟩
/-- A variable of two words, made last of all: still there, and open to stores, behind calls. -/
theorem Gr.var2 {w w' : World} {x y : Value} {t : TypeId} (h : Gr (w.alloc (.cells #[x, y] t)) w') :
    w'.cell? ⟨w.heap.size, 0, none⟩ = some x ∧ w'.cell? ⟨w.heap.size, 1, none⟩ = some y ∧ w'.frozen? ⟨w.heap.size, 0, none⟩ = false ∧ w'.frozen? ⟨w.heap.size, 1, none⟩ = false :=
  ⟨h.keeps (by simp [go_sem]), h.keeps (by simp [go_sem]), (h.froz _).trans (by simp [go_sem]), (h.froz _).trans (by simp [go_sem])⟩
theorem lt_two (n : Nat) : n < n + 1 + 1 := by omega
theorem lt_three (n : Nat) : n < n + 1 + 1 + 1 := by omega
theorem cell_lt {a : World} {p : Addr} {v : Value} (hc : a.cell? p = some v) : p.block < a.heap.size := World.block_lt_of_cell? a p hc

/-- The high and the low word of a number. -/
def hi (n : Nat) : Int := ((n / 18446744073709551616 : Nat) : Int)
def lo (n : Nat) : Int := ((n % 18446744073709551616 : Nat) : Int)
/-- A number of two words as the program's struct. -/
abbrev Wd (n : Nat) : Value := .agg #[.int .u64 (hi n), .int .u64 (lo n)]

theorem lo_bd (n : Nat) : 0 ≤ lo n ∧ lo n < 18446744073709551616 := by unfold lo; omega
theorem hi_nn (n : Nat) : 0 ≤ hi n := by unfold hi; omega
theorem hi_bd {n : Nat} (h : n < 340282366920938463463374607431768211456) : 0 ≤ hi n ∧ hi n < 18446744073709551616 := by unfold hi; omega
theorem hi_lo (h l : Int) (h0 : 0 ≤ h) (l0 : 0 ≤ l) (l1 : l < 18446744073709551616) : hi (h * 18446744073709551616 + l).toNat = h ∧ lo (h * 18446744073709551616 + l).toNat = l := by
  unfold hi lo; omega
theorem wd_lt (h l : Int) (h1 : h < 18446744073709551616) (l1 : l < 18446744073709551616) : (h * 18446744073709551616 + l).toNat < 340282366920938463463374607431768211456 := by omega

/-! math/bits.Add64, Sub64 at this program's numbers, over Int -/
theorem ret_bool {a b : Bool} (h : a = b) : Ending.returned (.bool a) = .returned (.bool b) := by rw [h]

theorem small_wd (d : Nat) (h : d < 18446744073709551616) : (Value.agg #[.int .u64 0, .int .u64 (d : Int)]) = Wd d := by
  have e1 : hi d = 0 := by unfold hi; omega
  have e2 : lo d = (d : Int) := by unfold lo; omega
  rw [Wd, e1, e2]

/-- Two parameters of two words each, behind calls. -/
theorem Gr.args2 {w w' : World} {x y u v : Value} {t s : TypeId} (h : Gr ((w.alloc (.cells #[x, y] t)).alloc (.cells #[u, v] s)) w') :
    w'.cell? ⟨w.heap.size, 0, none⟩ = some x ∧ w'.cell? ⟨w.heap.size, 1, none⟩ = some y ∧ w'.cell? ⟨w.heap.size + 1, 0, none⟩ = some u ∧ w'.cell? ⟨w.heap.size + 1, 1, none⟩ = some v :=
  ⟨h.keeps (by simp [go_sem]), h.keeps (by simp [go_sem]), h.keeps (by simp [go_sem]), h.keeps (by simp [go_sem])⟩

theorem call_keeps4 {W w' : World} {p q r s : Addr} {x y u v : Value} (h : Gr W w') (hs : W.cell? p = some x ∧ W.cell? q = some y ∧ W.cell? r = some u ∧ W.cell? s = some v) :
    w'.cell? p = some x ∧ w'.cell? q = some y ∧ w'.cell? r = some u ∧ w'.cell? s = some v := ⟨h.keeps hs.1, h.keeps hs.2.1, h.keeps hs.2.2.1, h.keeps hs.2.2.2⟩
end Go.Proofs.Ytkagnoinifffdaa

/- wide.Add, wide.Sub, wide.Cmp and the law's own lo, as contracts. -/
namespace Go.Proofs.Ytkagnoinifffdaa
open Go.RowKit

/-- -1, 0 or 1. -/
def cmp3 (a b : Nat) : Int := if a < b then -1 else if a = b then 0 else 1

end Go.Proofs.Ytkagnoinifffdaa

/- math/bits.Mul64 and wide.Mul, as contracts. -/
namespace Go.Proofs.Ytkagnoinifffdaa
open Go.RowKit

/-- The low half of a word. -/
theorem mask32 (a : Nat) (ha : a < 18446744073709551616) : bits .and .u64 (a : Int) 4294967295 = ((a % 4294967296 : Nat) : Int) :=
  (bits_and_u64_nat a 4294967295 ha (by omega)).trans (congrArg Int.ofNat (Nat.and_two_pow_sub_one_eq_mod a 32))
theorem addc (a b : Nat) : (a : Int) + (b : Int) = ((a + b : Nat) : Int) := (Int.natCast_add a b).symm
theorem wrapc (a : Nat) (ha : a < 18446744073709551616) : IntKind.u64.wrap (a : Int) = (a : Int) := by rw [IntKind.wrap_u64]; omega
theorem ret2u {k k' : IntKind} {a a' b b' : Int} (h : a = a') (h' : b = b') : Ending.returned (.tuple #[.int k a, .int k' b]) = .returned (.tuple #[.int k a', .int k' b']) := by rw [h, h']

theorem mul_lt (x y : Nat) (hx : x < 18446744073709551616) (hy : y < 18446744073709551616) : x * y < 340282366920938463463374607431768211456 := by
  have : x * y ≤ 18446744073709551615 * 18446744073709551615 := Nat.mul_le_mul (by omega) (by omega)
  omega

end Go.Proofs.Ytkagnoinifffdaa

/- wide.Sqrt, as a contract. -/
namespace Go.Proofs.Ytkagnoinifffdaa
open Go.RowKit

/-- r is the root of a: the greatest number whose square is not above a. -/
def IsRoot (a r : Nat) : Prop := r * r ≤ a ∧ a < (r + 1) * (r + 1)

theorem sq_le {x y : Nat} (h : x ≤ y) : x * x ≤ y * y := Nat.mul_le_mul h h

end Go.Proofs.Ytkagnoinifffdaa

/- Lists of whole numbers that are read; vec.isDim, vec.Check and the reference's Check. -/
namespace Go.Proofs.Ytkagnoinifffdaa
open Go.RowKit

/-- Nothing that was there has turned. -/
abbrev Gb (w w' : World) : Prop := Below w.heap.size w w'
theorem gb_trans {a b c : World} (h : Gb a b) (k : Gb b c) : Gb a c := h.trans (k.mono h.size)
theorem gb_alloc {a w : World} (h : Gb a w) (o : Obj) : Gb a (w.alloc o) := h.alloc h.size o
theorem gb_keeps {a b : World} (h : Gb a b) {p : Addr} {v : Value} (hc : a.cell? p = some v) : b.cell? p = some v :=
  (h.cell (World.block_lt_of_cell? a p hc)).trans hc
theorem gb_set {a w : World} (h : Gb a w) {p : Addr} (hp : a.heap.size ≤ p.block) (u : Value) : Gb a (w.setCell p u) := h.setCell hp u

/-- The slice v reads as these numbers. -/
def RdI (w : World) (v : Value) (l : List Int) : Prop := ∃ a cap, v = .slice a l.length cap ∧ ∀ i, i < l.length → ∃ b o, a = some ⟨b, o, none⟩ ∧ w.cell? ⟨b, o + i, none⟩ = some (.int .i64 l[i]!)
theorem RdI.gb {w w' : World} {v : Value} {l : List Int} (h : RdI w v l) (g : Gb w w') : RdI w' v l := by
  obtain ⟨a, cap, e, h⟩ := h
  refine ⟨a, cap, e, fun i hi => ?_⟩
  obtain ⟨b, o, e1, e2⟩ := h i hi
  exact ⟨b, o, e1, gb_keeps g e2⟩
theorem rdi_nil (w : World) : RdI w (.slice none 0 0) [] := ⟨none, 0, rfl, fun _ hi => absurd hi (Nat.not_lt_zero _)⟩

/-- A coordinate that may be; a list of such. -/
def inR (x : Int) : Bool := decide (-2147483647 ≤ x) && decide (x ≤ 2147483647)
theorem inR_iff (x : Int) : inR x = true ↔ -2147483647 ≤ x ∧ x ≤ 2147483647 := by simp [inR]
def allR (l : List Int) : Bool := l.all inR
theorem allR_get {l : List Int} (h : allR l = true) {i : Nat} (hi : i < l.length) : -2147483647 ≤ l[i]! ∧ l[i]! ≤ 2147483647 := by
  rw [← inR_iff, getElem!_pos l i hi]
  exact List.all_eq_true.1 h _ (List.getElem_mem hi)
theorem allR_take {l : List Int} {q : Nat} (hq : q < l.length) (h : allR (l.take q) = true) (hx : inR l[q]! = true) : allR (l.take (q + 1)) = true := by
  unfold allR at *
  rw [List.take_succ_eq_append_getElem hq, List.all_append, h, getElem!_pos l q hq] at *
  simpa using hx
theorem allR_no {l : List Int} {q : Nat} (hq : q < l.length) (hx : inR l[q]! = false) : allR l = false := by
  unfold allR
  rw [List.all_eq_false]
  refine ⟨l[q], List.getElem_mem hq, ?_⟩
  rw [getElem!_pos l q hq] at hx
  simp [hx]
def vErr (l : List Int) : Int := if allR l = true then 0 else 31
/-- What Check answers. -/
def chk (l : List Int) (dim : Int) : Int := if 1 ≤ dim ∧ dim ≤ 64 ∧ (l.length : Int) = dim then (vErr l) else 30

end Go.Proofs.Ytkagnoinifffdaa

/- Bytes that are read; CRC-32, plainly; codec.overlaid and the reference's Sum. -/
namespace Go.Proofs.Ytkagnoinifffdaa
open Go.RowKit

/-- The slice v reads as these bytes, and has room for itself. -/
def RdB (w : World) (v : Value) (l : List UInt8) : Prop := ∃ a cap, v = .slice a l.length cap ∧ l.length ≤ cap ∧ ∀ i, i < l.length → ∃ b o, a = some ⟨b, o, none⟩ ∧ w.cell? ⟨b, o + i, none⟩ = some (.int .u8 (l[i]!.toNat : Int))
theorem RdB.gb {w w' : World} {v : Value} {l : List UInt8} (h : RdB w v l) (g : Gb w w') : RdB w' v l := by
  obtain ⟨a, cap, e, hc, h⟩ := h
  refine ⟨a, cap, e, hc, fun i hi => ?_⟩
  obtain ⟨b, o, e1, e2⟩ := h i hi
  exact ⟨b, o, e1, gb_keeps g e2⟩
theorem rdb_nil (w : World) : RdB w (.slice none 0 0) [] := ⟨none, 0, rfl, Nat.le_refl _, fun _ hi => absurd hi (Nat.not_lt_zero _)⟩

/-- A number of 32 bits. -/
def U3 (z : Int) : Prop := 0 ≤ z ∧ z < 4294967296
theorem u3_wrap (z : Int) : U3 (IntKind.u32.wrap z) := by
  unfold U3
  rw [IntKind.wrap_u32]; exact ⟨Int.emod_nonneg _ (by decide), Int.emod_lt_of_pos _ (by decide)⟩
theorem u3_bits (o : BinOp) (x y : Int) : U3 (bits o .u32 x y) := by
  unfold bits; exact u3_wrap _
/-- P16.1: one bit, eight bits, a byte, all bytes. -/
def bit1 (c : Int) : Int := if bits .and .u32 c 1 = 1 then bits .xor .u32 (c / 2) 3988292384 else c / 2
def bitK (c : Int) : Nat → Int
  | 0 => c
  | k + 1 => bit1 (bitK c k)
def byt1 (c : Int) (x : UInt8) : Int := bitK (bits .xor .u32 c (x.toNat : Int)) 8
def ovl (c : Int) (l : List UInt8) : Int := l.foldl byt1 c
theorem u3_half {c : Int} (h : U3 c) : U3 (c / 2) := by unfold U3 at *; omega
theorem u3_bit1 {c : Int} (h : U3 c) : U3 (bit1 c) := by
  unfold bit1; split
  · exact u3_bits _ _ _
  · exact u3_half h
theorem u3_bitK {c : Int} (h : U3 c) : ∀ k, U3 (bitK c k)
  | 0 => h
  | k + 1 => u3_bit1 (u3_bitK h k)
theorem u3_byt1 (c : Int) (x : UInt8) : U3 (byt1 c x) := u3_bitK (u3_bits _ _ _) 8
theorem u3_ovl {c : Int} (h : U3 c) (l : List UInt8) : U3 (ovl c l) := by
  unfold ovl
  induction l generalizing c with
  | nil => exact h
  | cons x l ih => exact ih (u3_byt1 c x)
theorem ovl_take {c : Int} {l : List UInt8} {q : Nat} (hq : q < l.length) : ovl c (l.take (q + 1)) = byt1 (ovl c (l.take q)) l[q]! := by
  unfold ovl
  rw [List.take_succ_eq_append_getElem hq, List.foldl_append, getElem!_pos l q hq]; rfl

end Go.Proofs.Ytkagnoinifffdaa

/- The reference's Sum; codec's Sum and checkOf. -/
namespace Go.Proofs.Ytkagnoinifffdaa
open Go.RowKit

theorem wrp32 (n : Int) (h₀ : 0 ≤ n) (h₁ : n < 2 ^ 32) : IntKind.u32.wrap n = n := by rw [IntKind.wrap_u32]; omega
theorem and_one (y : Int) (h0 : 0 ≤ y) (h1 : y < 4294967296) : bits .and .u32 y 1 = y % 2 := bits_mask .u32 32 (by decide) wrp32 1 (by decide) y h0 h1
theorem xor_comm (a b : Int) : bits .xor .u32 a b = bits .xor .u32 b a := by
  unfold bits; simp only [BitVec.xor_comm]
/-- P16.1: Sum. -/
def crc (l : List UInt8) : Int := bits .xor .u32 (ovl 4294967295 l) 4294967295
theorem rdb_one (W : World) (x : UInt8) {z : Int} (hz : z = (x.toNat : Int)) : RdB (W.alloc (.cells #[.int .u8 z] 5)) (.slice (some ⟨W.heap.size, 0, none⟩) 1 1) [x] := by
  refine ⟨_, _, rfl, Nat.le_refl _, fun i hi => ⟨W.heap.size, 0, rfl, ?_⟩⟩
  have : i = 0 := by simp at hi; omega
  subst this; subst hz
  simp [go_sem]
end Go.Proofs.Ytkagnoinifffdaa

/- Numbers as bytes, the lowest first; codec.number. -/
namespace Go.Proofs.Ytkagnoinifffdaa
open Go.RowKit

theorem or_comm (a b : Int) : bits .or .u32 a b = bits .or .u32 b a := by
  unfold bits; simp only [BitVec.or_comm]
/-- The number of these bytes. -/
def leN : List UInt8 → Nat
  | [] => 0
  | x :: l => x.toNat + 256 * leN l
/-- So many bytes of a number. -/
def leB (n : Nat) : Nat → List UInt8
  | 0 => []
  | k + 1 => UInt8.ofNat n :: leB (n / 256) k
theorem leN_lt (l : List UInt8) : leN l < 256 ^ l.length := by
  induction l with
  | nil => simp [leN]
  | cons x l ih =>
    have := x.toNat_lt
    simp only [leN, List.length_cons, Nat.pow_succ]
    omega
theorem leN_append (l m : List UInt8) : leN (l ++ m) = leN l + 256 ^ l.length * leN m := by
  induction l with
  | nil => simp [leN]
  | cons x l ih =>
    simp only [leN, List.cons_append, List.length_cons, ih, Nat.pow_succ, Nat.mul_add]
    rw [Nat.add_assoc, Nat.mul_comm (256 ^ l.length) 256, Nat.mul_assoc]
theorem leN_take {l : List UInt8} {q : Nat} (hq : q < l.length) : leN (l.take (q + 1)) = leN (l.take q) + 256 ^ q * l[q]!.toNat := by
  rw [List.take_succ_eq_append_getElem hq, leN_append, List.length_take, Nat.min_eq_left (Nat.le_of_lt hq), getElem!_pos l q hq]
  simp [leN]
theorem leB_length (n k : Nat) : (leB n k).length = k := by
  induction k generalizing n with
  | zero => rfl
  | succ k ih => simp [leB, ih]
theorem leB_succ (n k : Nat) : leB n (k + 1) = leB n k ++ [UInt8.ofNat (n / 256 ^ k)] := by
  induction k generalizing n with
  | zero => simp [leB]
  | succ k ih =>
    rw [leB, ih, leB, List.cons_append, Nat.pow_succ, Nat.div_div_eq_div_mul, Nat.mul_comm]
theorem leN_leB (n k : Nat) : leN (leB n k) = n % 256 ^ k := by
  induction k generalizing n with
  | zero => simp [leB, leN, Nat.mod_one]
  | succ k ih =>
    simp only [leB, leN, ih]
    rw [show (UInt8.ofNat n).toNat = n % 256 by simp, Nat.pow_succ, Nat.mul_comm (256 ^ k) 256, Nat.mod_mul]
theorem leB_leN (l : List UInt8) : leB (leN l) l.length = l := by
  induction l with
  | nil => rfl
  | cons x l ih =>
    have := x.toNat_lt
    simp only [leN, List.length_cons, leB]
    rw [show (x.toNat + 256 * leN l) / 256 = leN l by omega, ih]
    congr 1
    apply UInt8.toNat_inj.1
    simp

end Go.Proofs.Ytkagnoinifffdaa
