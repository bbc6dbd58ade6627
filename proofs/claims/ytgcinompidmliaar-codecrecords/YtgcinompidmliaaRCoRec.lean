/- The law CodecRecords. -/
import Derived.Test.YtgcinompidmliaaRCoS
import Derived.Test.YtgcinompidmliaaRCoW
namespace Go.Proofs.YtgcinompidmliaaR
open Go.RowKit Go.Lib

theorem dcV_shape (l : List UInt8) : ∃ (a : Int) (s : ByteArray) (n z : Int), dcV l = .tuple #[.int .i64 a, .string s, .int .i64 n, .int .i64 z] := by
  unfold dcV
  split
  · exact ⟨_, _, _, _, rfl⟩
  · exact ⟨_, _, _, _, rfl⟩
set_option maxHeartbeats 4000000 in
set_option maxRecDepth 100000 in
theorem records_law {w : World} {u : Value} {l : List UInt8} (k : Int) (t : List UInt8) (hu : RdB w u l) :
    Calls Try.prog 3 #[.int .i64 k, .string (sb t), u] w fun e w' => e = .returned (.bool true) ∧ Gb w w' := by
  have hsz := sb_size t
  have U : Hid (RdB w u l) := hu
  obtain ⟨a, cap, rfl, _⟩ := hu
  by_cases h1 : 524288 < t.length
  · clear U
    generalize sb t = s at *
    generalize l.length = n at *
    generalize t.length = m at *
    have h1' : (524288 : Int) < (m : Int) := by omega
    go_enter Try.func3, Try.ntmps3
    go_wp2
    go_ret
    exact ⟨rfl, Below.refl _ _⟩
  have h1' : ¬ (524288 : Int) < (t.length : Int) := by omega
  by_cases h2 : 524288 < l.length
  · clear U
    generalize sb t = s at *
    generalize l.length = n at *
    generalize t.length = m at *
    have h2' : (524288 : Int) < (n : Int) := by omega
    go_enter Try.func3, Try.ntmps3
    go_wp2
    go_ret
    exact ⟨rfl, Below.refl _ _⟩
  have h2' : ¬ (524288 : Int) < (l.length : Int) := by omega
  have cE := fun W => encode_c k t (by omega) W
  have cF := fun W => rencode_c k t (by omega) W
  unfold enP at cE cF
  obtain ⟨x0, s0, n0, z0, hD⟩ := dcV_shape l
  have DD : Hid (dcV l = .tuple #[.int .i64 x0, .string s0, .int .i64 n0, .int .i64 z0]) := hD
  have hln : Hid (l.length ≤ 524288) := by unfold Hid; omega
  have hU : U3 (crc l) := by unfold crc; exact u3_bits _ _ _
  have CR : Hid (crc l = crc l) := rfl
  have EL : Hid ((if enE k t.length = 0 then enT k.toNat t else []).length ≤ 4611686018427387904) := by
    unfold Hid; split
    · unfold enT; simp only [List.length_append, leB_length]; omega
    · simp
  generalize (if enE k t.length = 0 then enT k.toNat t else []) = X at *
  generalize enE k t.length = ee at *
  generalize sb t = s at *
  generalize hn : l.length = n at *
  have N : Hid (l.length = n) := hn
  generalize t.length = m at *
  clear hD hn
  go_enter Try.func3, Try.ntmps3
  go_wp2_with fail
  refine (cE _).mono ?_
  rintro e w1 ⟨v1, rfl, g1, o1⟩
  go_wp2_with fail
  refine (cF _).mono ?_
  rintro e w2 ⟨v2, rfl, g2, o2⟩
  have G2 := gb_trans g1 g2
  have U2 := U.out.gb G2
  have cL := lendB_c U2 (by have := hln.out; have := N.out; omega)
  rw [N.out] at cL
  go_wp2_with fail
  refine cL.mono ?_
  rintro e w3 ⟨rfl, L3, g3, s3⟩
  have R3 := L3.rd
  rw [N.out] at R3
  have cD := decode_c R3 (by have := hln.out; have := N.out; omega)
  rw [DD.out] at cD
  go_wp2_with fail
  refine cD.mono ?_
  rintro e w4 ⟨rfl, g4⟩
  have cS := sum_c (R3.gb g4) (by have := hln.out; have := N.out; omega)
  go_wp2_with fail
  refine cS.mono ?_
  rintro e w' ⟨rfl, rfl⟩
  have cB := backB_c (L3.gb g4) (U2.gb (gb_trans g3 g4)) (gb_trans g3 g4) (Nat.le_refl _) (by have := hln.out; have := N.out; omega)
  rw [N.out] at cB
  go_wp2_with fail
  refine cB.mono ?_
  rintro e w5 ⟨rfl, g5⟩
  have cR := rdecode_c (U2.gb g5) (by have := hln.out; have := N.out; omega)
  rw [DD.out] at cR
  go_wp2_with fail
  refine cR.mono ?_
  rintro e w6 ⟨rfl, g6⟩
  have g6' := gb_trans g5 g6
  go_wp2_with fail
  refine (awake_c _).mono ?_
  rintro e w7 ⟨rfl, g7⟩
  have g7' := gb_trans g6' g7
  have cY := bytes_same (o1.gb (gb_trans g2 g7')).rd (o2.gb g7').rd EL.out
  go_wp2_with fail
  refine cY.mono ?_
  rintro e w8 ⟨rfl, g8⟩
  have g8' := gb_trans g7' g8
  have cZ := rsum_c (U2.gb g8') (by have := hln.out; have := N.out; omega)
  go_wp2_with fail
  refine cZ.mono ?_
  rintro e w' ⟨rfl, rfl⟩
  go_wp2
  go_ret
  exact ⟨rfl, gb_trans G2 g8'⟩
end Go.Proofs.YtgcinompidmliaaR
