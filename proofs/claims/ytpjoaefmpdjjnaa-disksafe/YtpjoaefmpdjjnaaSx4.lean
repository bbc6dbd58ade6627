import Derived.Test.YtpjoaefmpdjjnaaSx2
import Derived.Laws.BitsLemmas
import Derived.Lib.EndianBits
/- The reference's Sum; codec's Sum and checkOf. -/
namespace Go.Proofs.Ytpjoaefmpdjjnaa
open Go.RowKit

theorem wrp32 (n : Int) (h₀ : 0 ≤ n) (h₁ : n < 2 ^ 32) : IntKind.u32.wrap n = n := by rw [IntKind.wrap_u32]; omega
theorem and_one (y : Int) (h0 : 0 ≤ y) (h1 : y < 4294967296) : bits .and .u32 y 1 = y % 2 := bits_mask .u32 32 (by decide) wrp32 1 (by decide) y h0 h1
theorem xor_comm (a b : Int) : bits .xor .u32 a b = bits .xor .u32 b a := by
  unfold bits; simp only [BitVec.xor_comm]
/-- P16.1: Sum. -/
def crc (l : List UInt8) : Int := bits .xor .u32 (ovl 4294967295 l) 4294967295
theorem rdb_one (W : World) (x : UInt8) {z : Int} (hz : z = (x.toNat : Int)) : RdB (W.alloc (.cells #[.int .u8 z] 5)) (.slice (some ⟨W.heap.size, 0, none⟩) 1 1) [x] := by
  refine ⟨_, _, rfl, Nat.le_refl _, fun i hi => ⟨W.heap.size, 0, rfl, ?_⟩⟩
  have : i = 0 := by simp at hi; omega
  subst this; subst hz
  simp [go_sem]
end Go.Proofs.Ytpjoaefmpdjjnaa

/- Numbers as bytes, the lowest first; codec.number. -/
namespace Go.Proofs.Ytpjoaefmpdjjnaa
open Go.RowKit

theorem or_comm (a b : Int) : bits .or .u32 a b = bits .or .u32 b a := by
  unfold bits; simp only [BitVec.or_comm]
/-- The number of these bytes. -/
def leN : List UInt8 → Nat
  | [] => 0
  | x :: l => x.toNat + 256 * leN l
/-- So many bytes of a number. -/
def leB (n : Nat) : Nat → List UInt8
  | 0 => []
  | k + 1 => UInt8.ofNat n :: leB (n / 256) k
theorem leN_lt (l : List UInt8) : leN l < 256 ^ l.length := by
  induction l with
  | nil => simp [leN]
  | cons x l ih =>
    have := x.toNat_lt
    simp only [leN, List.length_cons, Nat.pow_succ]
    omega
theorem leN_append (l m : List UInt8) : leN (l ++ m) = leN l + 256 ^ l.length * leN m := by
  induction l with
  | nil => simp [leN]
  | cons x l ih =>
    simp only [leN, List.cons_append, List.length_cons, ih, Nat.pow_succ, Nat.mul_add]
    rw [Nat.add_assoc, Nat.mul_comm (256 ^ l.length) 256, Nat.mul_assoc]
theorem leN_take {l : List UInt8} {q : Nat} (hq : q < l.length) : leN (l.take (q + 1)) = leN (l.take q) + 256 ^ q * l[q]!.toNat := by
  rw [List.take_succ_eq_append_getElem hq, leN_append, List.length_take, Nat.min_eq_left (Nat.le_of_lt hq), getElem!_pos l q hq]
  simp [leN]
theorem leB_length (n k : Nat) : (leB n k).length = k := by
  induction k generalizing n with
  | zero => rfl
  | succ k ih => simp [leB, ih]
theorem leB_succ (n k : Nat) : leB n (k + 1) = leB n k ++ [UInt8.ofNat (n / 256 ^ k)] := by
  induction k generalizing n with
  | zero => simp [leB]
  | succ k ih =>
    rw [leB, ih, leB, List.cons_append, Nat.pow_succ, Nat.div_div_eq_div_mul, Nat.mul_comm]
theorem leN_leB (n k : Nat) : leN (leB n k) = n % 256 ^ k := by
  induction k generalizing n with
  | zero => simp [leB, leN, Nat.mod_one]
  | succ k ih =>
    simp only [leB, leN, ih]
    rw [show (UInt8.ofNat n).toNat = n % 256 by simp, Nat.pow_succ, Nat.mul_comm (256 ^ k) 256, Nat.mod_mul]
theorem leB_leN (l : List UInt8) : leB (leN l) l.length = l := by
  induction l with
  | nil => rfl
  | cons x l ih =>
    have := x.toNat_lt
    simp only [leN, List.length_cons, leB]
    rw [show (x.toNat + 256 * leN l) / 256 = leN l by omega, ih]
    congr 1
    apply UInt8.toNat_inj.1
    simp

end Go.Proofs.Ytpjoaefmpdjjnaa
