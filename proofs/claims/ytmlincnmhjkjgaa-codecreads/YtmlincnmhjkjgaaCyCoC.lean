/- The reference's Sum; codec's Sum and checkOf. -/
import Derived.Test.YtmlincnmhjkjgaaCyCoB
import Derived.Laws.BitsLemmas
namespace Go.Proofs.Ytmlincnmhjkjgaa
open Go.RowKit

theorem wrp32 (n : Int) (h₀ : 0 ≤ n) (h₁ : n < 2 ^ 32) : IntKind.u32.wrap n = n := by rw [IntKind.wrap_u32]; omega
theorem and_one (y : Int) (h0 : 0 ≤ y) (h1 : y < 4294967296) : bits .and .u32 y 1 = y % 2 := bits_mask .u32 32 (by decide) wrp32 1 (by decide) y h0 h1
theorem xor_comm (a b : Int) : bits .xor .u32 a b = bits .xor .u32 b a := by
  unfold bits; simp only [BitVec.xor_comm]
/-- P16.1: Sum. -/
def crc (l : List UInt8) : Int := bits .xor .u32 (ovl 4294967295 l) 4294967295
set_option maxHeartbeats 1000000 in
theorem sum_c {w : World} {v : Value} {l : List UInt8} (h : RdB w v l) (hl : l.length ≤ 4611686018427387904) :
    Calls Try.prog 25 #[v] w fun e w' => e = .returned (.int .u32 (crc l)) ∧ w = w' := by
  have h1 := overlaid_c h hl (c := 4294967295) ⟨by decide, by decide⟩
  have u := u3_ovl (c := 4294967295) ⟨by decide, by decide⟩ l
  generalize hd : ovl 4294967295 l = d at *
  have D : Hid (ovl 4294967295 l = d) := hd
  clear hd
  obtain ⟨u0, u1⟩ := u
  go_enter Try.func25, Try.ntmps25
  go_wp2_with fail
  refine h1.mono ?_
  rintro e w' ⟨rfl, rfl⟩
  go_wp2
  go_ret
  refine ⟨?_, rfl⟩
  unfold crc
  rw [D.out, xor_comm]
  rfl
theorem rdb_one (W : World) (x : UInt8) {z : Int} (hz : z = (x.toNat : Int)) : RdB (W.alloc (.cells #[.int .u8 z] 5)) (.slice (some ⟨W.heap.size, 0, none⟩) 1 1) [x] := by
  refine ⟨_, _, rfl, Nat.le_refl _, fun i hi => ⟨W.heap.size, 0, rfl, ?_⟩⟩
  have : i = 0 := by simp at hi; omega
  subst this; subst hz
  simp [go_sem]
set_option maxHeartbeats 1000000 in
theorem checkOf_c {w : World} {v : Value} {l : List UInt8} (h : RdB w v l) (hl : l.length ≤ 4611686018427387904) {k : Int} (x : UInt8) (hk : k = (x.toNat : Int)) :
    Calls Try.prog 35 #[.int .u32 k, v] w fun e w' => e = .returned (.int .u32 (crc (x :: l))) ∧ Gb w w' := by
  have hx : k < 256 := by have := x.toNat_lt; omega
  have hx0 : 0 ≤ k := by omega
  have h1 := fun W => overlaid_c (rdb_one W x hk) (by simp) (c := 4294967295) ⟨by decide, by decide⟩
  have u1 := u3_ovl (c := 4294967295) ⟨by decide, by decide⟩ [x]
  have h2 := overlaid_c (h.gb (gb_alloc (Below.refl _ w) (.cells #[.int .u8 k] 5))) hl u1
  have D : Hid (ovl (ovl 4294967295 [x]) l = ovl 4294967295 (x :: l)) := rfl
  have u := u3_ovl u1 l
  generalize ovl (ovl 4294967295 [x]) l = d at *
  generalize ovl 4294967295 [x] = d1 at *
  obtain ⟨u0, u1⟩ := u
  clear hk
  go_enter Try.func35, Try.ntmps35
  go_wp2_with fail
  refine (h1 _).mono ?_
  rintro e w' ⟨rfl, rfl⟩
  go_wp2_with fail
  refine h2.mono ?_
  rintro e w' ⟨rfl, rfl⟩
  go_wp2
  go_ret
  refine ⟨?_, gb_alloc (Below.refl _ _) _⟩
  unfold crc
  rw [← D.out, xor_comm]
  rfl
end Go.Proofs.Ytmlincnmhjkjgaa
