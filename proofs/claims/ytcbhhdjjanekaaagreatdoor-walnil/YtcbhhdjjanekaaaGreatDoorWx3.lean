import Derived.Test.YtcbhhdjjanekaaaGreatDoorWx1
import Derived.Laws.BitsLemmas
import Derived.Lib.EndianBits
/- The reference's Sum; codec's Sum and checkOf. -/
namespace Go.Proofs.YtcbhhdjjanekaaaGreatDoor
open Go.RowKit

theorem wrp32 (n : Int) (h₀ : 0 ≤ n) (h₁ : n < 2 ^ 32) : IntKind.u32.wrap n = n := by rw [IntKind.wrap_u32]; omega
theorem and_one (y : Int) (h0 : 0 ≤ y) (h1 : y < 4294967296) : bits .and .u32 y 1 = y % 2 := bits_mask .u32 32 (by decide) wrp32 1 (by decide) y h0 h1
theorem xor_comm (a b : Int) : bits .xor .u32 a b = bits .xor .u32 b a := by
  unfold bits; simp only [BitVec.xor_comm]
/-- P16.1: Sum. -/
def crc (l : List UInt8) : Int := bits .xor .u32 (ovl 4294967295 l) 4294967295
theorem rdb_one (W : World) (x : UInt8) {z : Int} (hz : z = (x.toNat : Int)) : RdB (W.alloc (.cells #[.int .u8 z] 5)) (.slice (some ⟨W.heap.size, 0, none⟩) 1 1) [x] := by
  refine ⟨_, _, rfl, Nat.le_refl _, fun i hi => ⟨W.heap.size, 0, rfl, ?_⟩⟩
  have : i = 0 := by simp at hi; omega
  subst this; subst hz
  simp [go_sem]
set_option maxHeartbeats 1000000 in
theorem checkOf_c {w : World} {v : Value} {l : List UInt8} (h : RdB w v l) (hl : l.length ≤ 4611686018427387904) {k : Int} (x : UInt8) (hk : k = (x.toNat : Int)) :
    Calls Tryz.prog 67 #[.int .u32 k, v] w fun e w' => e = .returned (.int .u32 (crc (x :: l))) ∧ Gb w w' := by
  have hx : k < 256 := by have := x.toNat_lt; omega
  have hx0 : 0 ≤ k := by omega
  have h1 := fun W => overlaid_c (rdb_one W x hk) (by simp) (c := 4294967295) ⟨by decide, by decide⟩
  have u1 := u3_ovl (c := 4294967295) ⟨by decide, by decide⟩ [x]
  have h2 := overlaid_c (h.gb (gb_alloc (Below.refl _ w) (.cells #[.int .u8 k] 5))) hl u1
  have D : Hid (ovl (ovl 4294967295 [x]) l = ovl 4294967295 (x :: l)) := rfl
  have u := u3_ovl u1 l
  generalize ovl (ovl 4294967295 [x]) l = d at *
  generalize ovl 4294967295 [x] = d1 at *
  obtain ⟨u0, u1⟩ := u
  clear hk
  go_enter Tryz.func67, Tryz.ntmps67
  go_wp2_with fail
  refine (h1 _).mono ?_
  rintro e w' ⟨rfl, rfl⟩
  go_wp2_with fail
  refine h2.mono ?_
  rintro e w' ⟨rfl, rfl⟩
  go_wp2
  go_ret
  refine ⟨?_, gb_alloc (Below.refl _ _) _⟩
  unfold crc
  rw [← D.out, xor_comm]
  rfl
end Go.Proofs.YtcbhhdjjanekaaaGreatDoor

/- Numbers as bytes, the lowest first; codec.number. -/
namespace Go.Proofs.YtcbhhdjjanekaaaGreatDoor
open Go.RowKit

theorem or_comm (a b : Int) : bits .or .u32 a b = bits .or .u32 b a := by
  unfold bits; simp only [BitVec.or_comm]
/-- The number of these bytes. -/
def leN : List UInt8 → Nat
  | [] => 0
  | x :: l => x.toNat + 256 * leN l
/-- So many bytes of a number. -/
def leB (n : Nat) : Nat → List UInt8
  | 0 => []
  | k + 1 => UInt8.ofNat n :: leB (n / 256) k
theorem leN_lt (l : List UInt8) : leN l < 256 ^ l.length := by
  induction l with
  | nil => simp [leN]
  | cons x l ih =>
    have := x.toNat_lt
    simp only [leN, List.length_cons, Nat.pow_succ]
    omega
theorem leN_append (l m : List UInt8) : leN (l ++ m) = leN l + 256 ^ l.length * leN m := by
  induction l with
  | nil => simp [leN]
  | cons x l ih =>
    simp only [leN, List.cons_append, List.length_cons, ih, Nat.pow_succ, Nat.mul_add]
    rw [Nat.add_assoc, Nat.mul_comm (256 ^ l.length) 256, Nat.mul_assoc]
theorem leN_take {l : List UInt8} {q : Nat} (hq : q < l.length) : leN (l.take (q + 1)) = leN (l.take q) + 256 ^ q * l[q]!.toNat := by
  rw [List.take_succ_eq_append_getElem hq, leN_append, List.length_take, Nat.min_eq_left (Nat.le_of_lt hq), getElem!_pos l q hq]
  simp [leN]
theorem leB_length (n k : Nat) : (leB n k).length = k := by
  induction k generalizing n with
  | zero => rfl
  | succ k ih => simp [leB, ih]
theorem leB_succ (n k : Nat) : leB n (k + 1) = leB n k ++ [UInt8.ofNat (n / 256 ^ k)] := by
  induction k generalizing n with
  | zero => simp [leB]
  | succ k ih =>
    rw [leB, ih, leB, List.cons_append, Nat.pow_succ, Nat.div_div_eq_div_mul, Nat.mul_comm]
theorem leN_leB (n k : Nat) : leN (leB n k) = n % 256 ^ k := by
  induction k generalizing n with
  | zero => simp [leB, leN, Nat.mod_one]
  | succ k ih =>
    simp only [leB, leN, ih]
    rw [show (UInt8.ofNat n).toNat = n % 256 by simp, Nat.pow_succ, Nat.mul_comm (256 ^ k) 256, Nat.mod_mul]
theorem leB_leN (l : List UInt8) : leB (leN l) l.length = l := by
  induction l with
  | nil => rfl
  | cons x l ih =>
    have := x.toNat_lt
    simp only [leN, List.length_cons, leB]
    rw [show (x.toNat + 256 * leN l) / 256 = leN l by omega, ih]
    congr 1
    apply UInt8.toNat_inj.1
    simp

set_option maxHeartbeats 1000000 in
theorem number_c {w : World} {v : Value} {l : List UInt8} (h : RdB w v l) (hl : l.length ≤ 4) :
    Calls Tryz.prog 96 #[v] w fun e w' => e = .returned (.int .u32 (leN l : Int)) ∧ w = w' := by
  obtain ⟨a, cap, rfl, _, ha⟩ := h
  have A : Hid (∀ i, i < l.length → ∃ b o, a = some ⟨b, o, none⟩ ∧ w.cell? ⟨b, o + i, none⟩ = some (.int .u8 (l[i]!.toNat : Int))) := ha
  obtain ⟨n, hN⟩ : ∃ n, n = l.length := ⟨_, rfl⟩
  have N : Hid (n = l.length) := hN
  rw [← hN] at hl ⊢
  clear ha hN
  go_enter Tryz.func96, Tryz.ntmps96
  go_wp2
  go_loopw [3, 8] (fun cv iv w' => ∃ q : Nat, iv = .int .i64 (q : Int) ∧ q ≤ n ∧ cv = .int .u32 (leN (l.take q) : Int) ∧ w = w') (fun _ iv _ => n - (intOf iv).toNat)
  case atStart => exact ⟨0, rfl, Nat.zero_le _, by simp [leN], rfl⟩
  case round =>
    obtain ⟨q, rfl, hq, rfl, rfl⟩ := hrel
    by_cases hqn : q < n
    · have hql : q < l.length := by have := N.out; omega
      obtain ⟨b, o, ea, hcell⟩ := A.out q hql
      have S : Hid (leN (l.take (q + 1)) = leN (l.take q) + 256 ^ q * l[q]!.toNat) := leN_take hql
      have UC : leN (l.take q) < 256 ^ q := by have := leN_lt (l.take q); rwa [List.length_take, Nat.min_eq_left (Nat.le_of_lt hql)] at this
      have hx : l[q]!.toNat < 256 := l[q]!.toNat_lt
      generalize l[q]!.toNat = z at *
      generalize hd : leN (l.take q) = d at *
      clear hd hql
      subst ea
      have hq4 : q = 0 ∨ q = 1 ∨ q = 2 ∨ q = 3 := by omega
      rcases hq4 with rfl | rfl | rfl | rfl
      · rw [Nat.add_zero] at hcell
        go_wp2
        go_roundw
        case rel =>
          refine ⟨1, by simp, hqn, ?_, by first | rfl | trivial⟩
          have d0 : d = 0 := by omega
          subst d0
          have e := u32_or8 (z : Int) 0 (by omega) (by omega) (by omega) (by omega) (by omega)
          rw [S.out, or_comm, show ((0 : Nat) : Int) = 0 from rfl, e]; simp
        case measure => simp only [intOf]; omega
      · go_wp2
        go_roundw
        case rel =>
          refine ⟨2, by simp, hqn, ?_, by first | rfl | trivial⟩
          have e := u32_or8 (d : Int) ((z : Int) * 256) (by omega) (by omega) (by omega) (by omega) (by omega)
          rw [S.out, e]; congr 1; rw [Int.natCast_add, Int.natCast_mul, Int.mul_comm]; rfl
        case measure => simp only [intOf]; omega
      · go_wp2
        go_roundw
        case rel =>
          refine ⟨3, by simp, hqn, ?_, by first | rfl | trivial⟩
          have e := u32_or16 (d : Int) ((z : Int) * 65536) (by omega) (by omega) (by omega) (by omega) (by omega)
          rw [S.out, e]; congr 1; rw [Int.natCast_add, Int.natCast_mul, Int.mul_comm]; rfl
        case measure => simp only [intOf]; omega
      · go_wp2
        go_roundw
        case rel =>
          refine ⟨4, by simp, hqn, ?_, by first | rfl | trivial⟩
          have e := u32_or24 (d : Int) ((z : Int) * 16777216) (by omega) (by omega) (by omega) (by omega) (by omega)
          rw [S.out, e]; congr 1; rw [Int.natCast_add, Int.natCast_mul, Int.mul_comm]; rfl
        case measure => simp only [intOf]; omega
    · have hqi : ¬ (q : Int) < (n : Int) := by omega
      have R : Hid (leN (l.take q) = leN l) := by
        unfold Hid; rw [List.take_of_length_le (by have := N.out; omega)]
      go_wp2
      go_ret
      exact ⟨by rw [R.out]; rfl, by first | rfl | trivial⟩
end Go.Proofs.YtcbhhdjjanekaaaGreatDoor
