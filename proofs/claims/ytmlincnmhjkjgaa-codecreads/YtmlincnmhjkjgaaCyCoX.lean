/- CRC-32 parts bytes; a record with another byte. -/
import Derived.Test.YtmlincnmhjkjgaaCyCoD
import Derived.Laws.BitsAllLaws
namespace Go.Proofs.Ytmlincnmhjkjgaa
open Go.RowKit Go.Lib

theorem xor_can {a b c : Nat} (h : a ^^^ c = b ^^^ c) : a = b := by
  have := congrArg (· ^^^ c) h
  simpa [Nat.xor_assoc, Nat.xor_self, Nat.xor_zero] using this
theorem bit1_nat {c : Nat} (hc : c < 4294967296) : bit1 (c : Int) = if c % 2 = 1 then ((c / 2 ^^^ 3988292384 : Nat) : Int) else ((c / 2 : Nat) : Int) := by
  unfold bit1
  rw [and_one (c : Int) (by omega) (by omega)]
  by_cases h : c % 2 = 1
  · rw [if_pos (by omega), if_pos h]
    have := u32_xor_nat (c / 2) 3988292384 (by omega) (by decide)
    rw [← this]; rfl
  · rw [if_neg (by omega), if_neg h]; rfl
theorem top_bit {y : Nat} (hy : y < 2147483648) : 2147483648 ≤ y ^^^ 3988292384 := by
  have h : (y ^^^ 3988292384).testBit 31 = true := by
    rw [Nat.testBit_xor, Nat.testBit_lt_two_pow (i := 31) (by simpa using hy)]
    decide
  exact Nat.ge_two_pow_of_testBit h
theorem bit1_inj {a b : Nat} (ha : a < 4294967296) (hb : b < 4294967296) (h : bit1 (a : Int) = bit1 (b : Int)) : a = b := by
  rw [bit1_nat ha, bit1_nat hb] at h
  have t1 := top_bit (y := a / 2) (by omega)
  have t2 := top_bit (y := b / 2) (by omega)
  split at h <;> split at h
  · have := xor_can (Int.ofNat.inj h)
    omega
  · have := Int.ofNat.inj h
    omega
  · have := Int.ofNat.inj h
    omega
  · have := Int.ofNat.inj h
    omega
theorem u3_nat {c : Int} (h : U3 c) : ∃ n : Nat, c = (n : Int) ∧ n < 4294967296 := ⟨c.toNat, by unfold U3 at h; omega, by unfold U3 at h; omega⟩
theorem bitK_inj {a b : Int} (ha : U3 a) (hb : U3 b) : ∀ k, bitK a k = bitK b k → a = b
  | 0, h => h
  | k + 1, h => by
    obtain ⟨m, e1, h1⟩ := u3_nat (u3_bitK ha k)
    obtain ⟨n, e2, h2⟩ := u3_nat (u3_bitK hb k)
    rw [bitK, bitK, e1, e2] at h
    have := bit1_inj h1 h2 h
    subst this
    exact bitK_inj ha hb k (e1.trans e2.symm)
theorem byt1_inj {a b : Int} (ha : U3 a) (hb : U3 b) {x : UInt8} (h : byt1 a x = byt1 b x) : a = b := by
  obtain ⟨m, rfl, h1⟩ := u3_nat ha
  obtain ⟨n, rfl, h2⟩ := u3_nat hb
  have e := bitK_inj (u3_bits _ _ _) (u3_bits _ _ _) 8 h
  have hx := x.toNat_lt
  rw [u32_xor_nat m x.toNat h1 (by omega), u32_xor_nat n x.toNat h2 (by omega)] at e
  rw [xor_can (Int.ofNat.inj e)]
theorem byt1_x {a : Int} (ha : U3 a) {x y : UInt8} (h : byt1 a x = byt1 a y) : x = y := by
  obtain ⟨m, rfl, h1⟩ := u3_nat ha
  have e := bitK_inj (u3_bits _ _ _) (u3_bits _ _ _) 8 h
  have hx := x.toNat_lt
  have hy := y.toNat_lt
  rw [u32_xor_nat m x.toNat h1 (by omega), u32_xor_nat m y.toNat h1 (by omega)] at e
  have e := Int.ofNat.inj e
  rw [Nat.xor_comm m, Nat.xor_comm m] at e
  exact UInt8.toNat_inj.1 (xor_can e)
theorem ovl_inj {a b : Int} (ha : U3 a) (hb : U3 b) (l : List UInt8) (h : ovl a l = ovl b l) : a = b := by
  induction l generalizing a b with
  | nil => exact h
  | cons x l ih => exact byt1_inj ha hb (ih (u3_byt1 a x) (u3_byt1 b x) h)
theorem xor_all {m : Nat} (h : m < 4294967296) : bits .xor .u32 (m : Int) 4294967295 = ((m ^^^ 4294967295 : Nat) : Int) := by
  have := u32_xor_nat m 4294967295 h (by decide)
  rw [← this]; rfl
theorem ovl_append (c : Int) (p q : List UInt8) : ovl c (p ++ q) = ovl (ovl c p) q := by unfold ovl; rw [List.foldl_append]
theorem ovl_byte {c : Int} (hc : U3 c) {p q : List UInt8} {x y : UInt8} (h : ovl c (p ++ x :: q) = ovl c (p ++ y :: q)) : x = y := by
  rw [ovl_append, ovl_append] at h
  exact byt1_x (u3_ovl hc p) (ovl_inj (u3_byt1 _ x) (u3_byt1 _ y) q h)
theorem xor_all_inj {a b : Int} (ha : U3 a) (hb : U3 b) (h : bits .xor .u32 a 4294967295 = bits .xor .u32 b 4294967295) : a = b := by
  obtain ⟨m, rfl, h1⟩ := u3_nat ha
  obtain ⟨n, rfl, h2⟩ := u3_nat hb
  rw [xor_all h1, xor_all h2] at h
  rw [xor_can (c := 4294967295) (Int.ofNat_inj.1 h)]
theorem crc_byte {p q : List UInt8} {x y : UInt8} (h : crc (p ++ x :: q) = crc (p ++ y :: q)) : x = y := by
  have u0 : U3 4294967295 := by unfold U3; decide
  exact ovl_byte u0 (xor_all_inj (u3_ovl u0 _) (u3_ovl u0 _) h)

theorem tk_app {A B : List UInt8} {n : Nat} (h : A.length = n) : tk n (A ++ B) = A := by
  unfold tk
  rw [List.length_append, show n - (A.length + B.length) = 0 by omega, ← h, List.take_left]
  simp
/-- A record's parts. -/
theorem dc_form (x : UInt8) {n : Nat} {C T B : List UInt8} (hC : C.length = 4) (hT : T.length = n) (hn : n ≤ 262144) :
    dcE (x :: (leB n 4 ++ (C ++ (T ++ B)))) = (if x = 0 then 160 else if crc (x :: T) = (leN C : Int) then 0 else 162) ∧ dcK (x :: (leB n 4 ++ (C ++ (T ++ B)))) = x.toNat ∧ dcN (x :: (leB n 4 ++ (C ++ (T ++ B)))) = n ∧ dcB (x :: (leB n 4 ++ (C ++ (T ++ B)))) = T := by
  have l4 := leB_length n 4
  have hK : dcK (x :: (leB n 4 ++ (C ++ (T ++ B)))) = x.toNat := by simp [dcK, tk, leN]
  have hN : dcN (x :: (leB n 4 ++ (C ++ (T ++ B)))) = n := by
    unfold dcN
    rw [List.drop_succ_cons, List.drop_zero, tk_app l4, leN_leB]
    omega
  have d5 : (x :: (leB n 4 ++ (C ++ (T ++ B)))).drop 5 = C ++ (T ++ B) := by
    rw [List.drop_succ_cons]; exact List.drop_left' l4
  have hCc : dcC (x :: (leB n 4 ++ (C ++ (T ++ B)))) = leN C := by
    unfold dcC
    rw [d5, tk_app hC]
  have d9 : (x :: (leB n 4 ++ (C ++ (T ++ B)))).drop 9 = T ++ B := by
    rw [show (9 : Nat) = 5 + 4 from rfl, ← List.drop_drop, d5]; exact List.drop_left' hC
  have hB : dcB (x :: (leB n 4 ++ (C ++ (T ++ B)))) = T := by
    unfold dcB
    rw [hN, d9, tk_app hT]
  refine ⟨?_, hK, hN, hB⟩
  have hl : (x :: (leB n 4 ++ (C ++ (T ++ B)))).length = 9 + n + B.length := by simp only [List.length_cons, List.length_append, l4, hC, hT]; omega
  unfold dcE
  rw [hK, hN, hCc, hB, hl, if_neg (show ¬ 9 + n + B.length < 9 by omega)]
  have e : UInt8.ofNat x.toNat = x := by simp
  rw [e, if_neg (show ¬ 262144 < n by omega), if_neg (show ¬ 9 + n + B.length < 9 + n by omega)]
  by_cases h0 : x = 0
  · subst h0; simp
  · have h1 : ¬ x.toNat = 0 := fun e => h0 (UInt8.toNat_inj.1 e)
    rw [if_neg h0, if_neg h1]
end Go.Proofs.Ytmlincnmhjkjgaa
