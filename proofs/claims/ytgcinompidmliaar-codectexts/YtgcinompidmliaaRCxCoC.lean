/- The reference's Sum; codec's Sum and checkOf. -/
import Derived.Test.YtgcinompidmliaaRCxCoB
import Derived.Laws.BitsLemmas
namespace Go.Proofs.YtgcinompidmliaaR
open Go.RowKit

theorem wrp32 (n : Int) (h₀ : 0 ≤ n) (h₁ : n < 2 ^ 32) : IntKind.u32.wrap n = n := by rw [IntKind.wrap_u32]; omega
theorem and_one (y : Int) (h0 : 0 ≤ y) (h1 : y < 4294967296) : bits .and .u32 y 1 = y % 2 := bits_mask .u32 32 (by decide) wrp32 1 (by decide) y h0 h1
theorem xor_comm (a b : Int) : bits .xor .u32 a b = bits .xor .u32 b a := by
  unfold bits; simp only [BitVec.xor_comm]
/-- P16.1: Sum. -/
def crc (l : List UInt8) : Int := bits .xor .u32 (ovl 4294967295 l) 4294967295
set_option maxHeartbeats 1000000 in
theorem rsum_c {w : World} {v : Value} {l : List UInt8} (h : RdB w v l) (hl : l.length ≤ 4611686018427387904) :
    Calls Try.prog 16 #[v] w fun e w' => e = .returned (.int .u32 (crc l)) ∧ w = w' := by
  obtain ⟨a, cap, rfl, _, ha⟩ := h
  have A : Hid (∀ i, i < l.length → ∃ b o, a = some ⟨b, o, none⟩ ∧ w.cell? ⟨b, o + i, none⟩ = some (.int .u8 (l[i]!.toNat : Int))) := ha
  obtain ⟨n, hN⟩ : ∃ n, n = l.length := ⟨_, rfl⟩
  have N : Hid (n = l.length) := hN
  have C : Hid (U3 4294967295) := by unfold Hid U3; decide
  rw [← hN] at hl ⊢
  clear ha hN
  go_enter Try.func16, Try.ntmps16
  go_wp2
  go_loopw [3, 4] (fun cv iv w' => ∃ q : Nat, iv = .int .i64 (q : Int) ∧ q ≤ n ∧ cv = .int .u32 (ovl 4294967295 (l.take q)) ∧ w = w') (fun _ iv _ => n - (intOf iv).toNat)
  case atStart => exact ⟨0, rfl, Nat.zero_le _, rfl, rfl⟩
  case round =>
    obtain ⟨q, rfl, hq, rfl, rfl⟩ := hrel
    by_cases hqn : q < n
    · have hql : q < l.length := by have := N.out; omega
      obtain ⟨b, o, ea, hcell⟩ := A.out q hql
      have S : Hid (ovl 4294967295 (l.take (q + 1)) = byt1 (ovl 4294967295 (l.take q)) l[q]!) := ovl_take (c := 4294967295) hql
      have UC : U3 (ovl 4294967295 (l.take q)) := u3_ovl C.out _
      have hx : 0 ≤ (l[q]!.toNat : Int) ∧ (l[q]!.toNat : Int) < 256 := ⟨by omega, by have := l[q]!.toNat_lt; omega⟩
      generalize hz : (l[q]!.toNat : Int) = z at *
      have Z : Hid ((l[q]!.toNat : Int) = z) := hz
      clear hz
      generalize ovl 4294967295 (l.take q) = d at *
      have hqd : decide ((q : Int) < (n : Int)) = true := by simp; omega
      obtain ⟨u0, u1⟩ := UC
      obtain ⟨z0, z1⟩ := hx
      subst ea
      go_wp2
      go_loopw [3, 5] (fun cv iv w' => ∃ k : Nat, iv = .int .i64 (k : Int) ∧ k ≤ 8 ∧ cv = .int .u32 (bitK (bits .xor .u32 d z) k) ∧ w = w') (fun _ iv _ => 8 - (intOf iv).toNat)
      case atStart => exact ⟨0, rfl, Nat.zero_le _, rfl, rfl⟩
      case round =>
        obtain ⟨k, rfl, hk, rfl, rfl⟩ := hrel
        by_cases hk8 : k < 8
        · have UK : U3 (bitK (bits .xor .u32 d z) k) := u3_bitK (u3_bits _ _ _) k
          have SK : Hid (bitK (bits .xor .u32 d z) (k + 1) = bit1 (bitK (bits .xor .u32 d z) k)) := rfl
          generalize bitK (bits .xor .u32 d z) k = y at *
          obtain ⟨y0, y1⟩ := UK
          have M2 := and_one y y0 y1
          by_cases hb : bits .and .u32 y 1 = 1
          · have E1 : Hid (bit1 y = bits .xor .u32 (y / 2) 3988292384) := by unfold Hid bit1; rw [if_pos hb]
            have hb' : (y % 2 == 1) = true := by rw [beq_iff_eq, ← M2]; exact hb
            clear hb M2
            go_wp2
            go_roundw
            case rel => exact ⟨k + 1, by simp, hk8, by rw [SK.out, E1.out], by first | rfl | trivial⟩
            case measure => simp [intOf]; omega
          · have E1 : Hid (bit1 y = y / 2) := by unfold Hid bit1; rw [if_neg hb]
            have hb' : (y % 2 == 1) = false := by rw [beq_eq_false_iff_ne, ← M2]; exact hb
            clear hb M2
            go_wp2
            go_roundw
            case rel => exact ⟨k + 1, by simp, hk8, by rw [SK.out, E1.out], by first | rfl | trivial⟩
            case measure => simp [intOf]; omega
        · have e8 : k = 8 := by omega
          subst e8
          have E2 : Hid (bitK (bits .xor .u32 d z) 8 = ovl 4294967295 (l.take (q + 1))) := by unfold Hid; rw [S.out]; unfold byt1; rw [Z.out]
          go_wp2
          go_roundw
          case rel => exact ⟨q + 1, by simp, hqn, by rw [E2.out], by first | rfl | trivial⟩
          case measure => simp [intOf]; omega
    · have hqi : ¬ (q : Int) < (n : Int) := by omega
      have R : Hid (ovl 4294967295 (l.take q) = ovl 4294967295 l) := by
        unfold Hid; rw [List.take_of_length_le (by have := N.out; omega)]
      go_wp2
      go_ret
      exact ⟨by rw [R.out]; rfl, by first | rfl | trivial⟩

set_option maxHeartbeats 1000000 in
theorem sum_c {w : World} {v : Value} {l : List UInt8} (h : RdB w v l) (hl : l.length ≤ 4611686018427387904) :
    Calls Try.prog 11 #[v] w fun e w' => e = .returned (.int .u32 (crc l)) ∧ w = w' := by
  have h1 := overlaid_c h hl (c := 4294967295) ⟨by decide, by decide⟩
  have u := u3_ovl (c := 4294967295) ⟨by decide, by decide⟩ l
  generalize hd : ovl 4294967295 l = d at *
  have D : Hid (ovl 4294967295 l = d) := hd
  clear hd
  obtain ⟨u0, u1⟩ := u
  go_enter Try.func11, Try.ntmps11
  go_wp2_with fail
  refine h1.mono ?_
  rintro e w' ⟨rfl, rfl⟩
  go_wp2
  go_ret
  refine ⟨?_, rfl⟩
  unfold crc
  rw [D.out, xor_comm]
  rfl
theorem rdb_one (W : World) (x : UInt8) {z : Int} (hz : z = (x.toNat : Int)) : RdB (W.alloc (.cells #[.int .u8 z] 5)) (.slice (some ⟨W.heap.size, 0, none⟩) 1 1) [x] := by
  refine ⟨_, _, rfl, Nat.le_refl _, fun i hi => ⟨W.heap.size, 0, rfl, ?_⟩⟩
  have : i = 0 := by simp at hi; omega
  subst this; subst hz
  simp [go_sem]
set_option maxHeartbeats 1000000 in
theorem checkOf_c {w : World} {v : Value} {l : List UInt8} (h : RdB w v l) (hl : l.length ≤ 4611686018427387904) {k : Int} (x : UInt8) (hk : k = (x.toNat : Int)) :
    Calls Try.prog 30 #[.int .u32 k, v] w fun e w' => e = .returned (.int .u32 (crc (x :: l))) ∧ Gb w w' := by
  have hx : k < 256 := by have := x.toNat_lt; omega
  have hx0 : 0 ≤ k := by omega
  have h1 := fun W => overlaid_c (rdb_one W x hk) (by simp) (c := 4294967295) ⟨by decide, by decide⟩
  have u1 := u3_ovl (c := 4294967295) ⟨by decide, by decide⟩ [x]
  have h2 := overlaid_c (h.gb (gb_alloc (Below.refl _ w) (.cells #[.int .u8 k] 5))) hl u1
  have D : Hid (ovl (ovl 4294967295 [x]) l = ovl 4294967295 (x :: l)) := rfl
  have u := u3_ovl u1 l
  generalize ovl (ovl 4294967295 [x]) l = d at *
  generalize ovl 4294967295 [x] = d1 at *
  obtain ⟨u0, u1⟩ := u
  clear hk
  go_enter Try.func30, Try.ntmps30
  go_wp2_with fail
  refine (h1 _).mono ?_
  rintro e w' ⟨rfl, rfl⟩
  go_wp2_with fail
  refine h2.mono ?_
  rintro e w' ⟨rfl, rfl⟩
  go_wp2
  go_ret
  refine ⟨?_, gb_alloc (Below.refl _ _) _⟩
  unfold crc
  rw [← D.out, xor_comm]
  rfl
end Go.Proofs.YtgcinompidmliaaR
