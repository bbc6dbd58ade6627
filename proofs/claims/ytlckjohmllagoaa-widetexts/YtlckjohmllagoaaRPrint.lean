/- The reference's Print, as a contract. -/
import Derived.Test.YtlckjohmllagoaaTenth
import Derived.Test.YtlckjohmllagoaaPrint
import Derived.ChangeKeysEq
namespace Go.Proofs.Ytlckjohmllagoaa
open Go.RowKit

def strLen : Value → Nat | .string s => s.size | _ => 0

theorem eq41 (d0 d1 d2 d3 d4 d5 d6 d7 : Int) (w : World) :
    (Op.equalIn 9999 41 (.agg #[.int .i64 d0, .int .i64 d1, .int .i64 d2, .int .i64 d3, .int .i64 d4, .int .i64 d5, .int .i64 d6, .int .i64 d7]) (.agg #[.int .i64 0, .int .i64 0, .int .i64 0, .int .i64 0, .int .i64 0, .int .i64 0, .int .i64 0, .int .i64 0])).run Try.prog w =
      .ok (d0 == 0 && (d1 == 0 && (d2 == 0 && (d3 == 0 && (d4 == 0 && (d5 == 0 && (d6 == 0 && d7 == 0))))))) w := by
  obtain ⟨i, hi⟩ := Option.isSome_iff_exists.1 (show (Try.prog.info? 3).isSome = true by kernel_rfl)
  have hc : Try.prog.cellsOf 3 = 1 := by kernel_rfl
  rw [run_equalIn_array w 9998 _ _ (show Try.prog.underlying 41 = some (.array 8 3) by kernel_rfl) hi, hc]
  have hr : List.range 8 = [0, 1, 2, 3, 4, 5, 6, 7] := by decide
  rw [hr]
  simp [Op.eqItems, part, isAgg, run_underlying Try.underlying3, run_equalIn_int w 9997 3 .i64 .i64 _ _ Try.underlying3]
  repeat' split
  all_goals simp [*]
theorem eq41_no (r : Nat) (hr : r < 340282366920938463463374607431768211456) (h : r ≠ 0) (w : World) :
    (Op.equalIn 9999 41 (.agg #[.int .i64 (dd r 0), .int .i64 (dd r 1), .int .i64 (dd r 2), .int .i64 (dd r 3), .int .i64 (dd r 4), .int .i64 (dd r 5), .int .i64 (dd r 6), .int .i64 (dd r 7)]) (.agg #[.int .i64 0, .int .i64 0, .int .i64 0, .int .i64 0, .int .i64 0, .int .i64 0, .int .i64 0, .int .i64 0])).run Try.prog w = .ok false w := by
  rw [eq41]
  congr 1
  simp only [Bool.and_eq_false_iff, beq_eq_false_iff_ne]
  unfold dd
  simp only [Nat.reducePow]
  omega
theorem eq41_yes (w : World) :
    (Op.equalIn 9999 41 (.agg #[.int .i64 (dd 0 0), .int .i64 (dd 0 1), .int .i64 (dd 0 2), .int .i64 (dd 0 3), .int .i64 (dd 0 4), .int .i64 (dd 0 5), .int .i64 (dd 0 6), .int .i64 (dd 0 7)]) (.agg #[.int .i64 0, .int .i64 0, .int .i64 0, .int .i64 0, .int .i64 0, .int .i64 0, .int .i64 0, .int .i64 0])).run Try.prog w = .ok true w := by
  rw [eq41]; rfl
theorem one_digit (d : Nat) (h : d < 10) (suf : List UInt8) :
    ((⟨#[48, 49, 50, 51, 52, 53, 54, 55, 56, 57]⟩ : ByteArray).extract d (d + 1) ++ (⟨suf.toArray⟩ : ByteArray)) = ⟨(UInt8.ofNat (48 + d) :: suf).toArray⟩ := by
  have hd : (⟨#[48, 49, 50, 51, 52, 53, 54, 55, 56, 57]⟩ : ByteArray).extract d (d + 1) = ⟨#[UInt8.ofNat (48 + d)]⟩ := by
    have : d = 0 ∨ d = 1 ∨ d = 2 ∨ d = 3 ∨ d = 4 ∨ d = 5 ∨ d = 6 ∨ d = 7 ∨ d = 8 ∨ d = 9 := by omega
    rcases this with rfl | rfl | rfl | rfl | rfl | rfl | rfl | rfl | rfl | rfl <;> rfl
  rw [hd]
  apply ByteArray.ext
  rw [ByteArray.data_append]
  simp

set_option maxHeartbeats 2000000 in
theorem rprint_any (a : Nat) (ha : a < 340282366920938463463374607431768211456) (w : World) :
    Calls Try.prog 21 #[Wd a] w fun e w' => e = .returned (.string ⟨(prt a).toArray⟩) ∧ Gr w w' := by
  go_enter Try.func21, Try.ntmps21
  go_wp2_with fail
  refine (of_any a ha _).mono ?_
  rintro e w1 ⟨rfl, g1⟩
  have hN0 := NumAt.new w1 a false 43
  have hG0 := ((((Gr.refl w).alloc _ _).trans g1).alloc #[.int .i64 (dd a 0), .int .i64 (dd a 1), .int .i64 (dd a 2), .int .i64 (dd a 3), .int .i64 (dd a 4), .int .i64 (dd a 5), .int .i64 (dd a 6), .int .i64 (dd a 7), .bool false] 43)
  have hz1 : w.heap.size < w1.heap.size := by have := g1.size; simp only [World.size_alloc] at this; omega
  clear g1
  go_wp2_with fail
  go_loopw [4] (fun sv w' => ∃ r : Nat, ∃ suf : List UInt8, sv = .string ⟨suf.toArray⟩ ∧ r < 340282366920938463463374607431768211456 ∧ suf.length ≤ 39 ∧ Hid ((suf = [] ∧ r = a) ∨ (suf ≠ [] ∧ prt a = dg 39 r ++ suf)) ∧ Gr w w' ∧ NumAt w' w1.heap.size r false) (fun sv _ => 40 - strLen sv)
  case atStart => exact ⟨a, [], rfl, ha, by simp, Or.inl ⟨rfl, rfl⟩, hG0, hN0⟩
  case round =>
    clear hN0 hG0
    obtain ⟨r, suf, rfl, hr, hlen, X, hG, hN⟩ := hrel
    obtain ⟨c0, c1, c2, c3, c4, c5, c6, c7, c8⟩ := hN.cells
    rcases X.out with ⟨rfl, rfl⟩ | ⟨hne, hp⟩
    · have E := one_digit (r % 10) (by omega) []
      have Y : Hid (prt r = dg 39 (r / 10) ++ [UInt8.ofNat (48 + r % 10)]) := prt_step r (Nat.lt_of_lt_of_le hr p39)
      have E' : Hid _ := E
      clear X E
      go_wp2_with fail
      refine (tenth_any r hr false _).mono ?_
      rintro e w2 ⟨rfl, g2⟩
      have hN2 := (hN.call g2).call ((Gr.refl _).alloc #[.int .i64 (dd (r / 10) 0), .int .i64 (dd (r / 10) 1), .int .i64 (dd (r / 10) 2), .int .i64 (dd (r / 10) 3), .int .i64 (dd (r / 10) 4), .int .i64 (dd (r / 10) 5), .int .i64 (dd (r / 10) 6), .int .i64 (dd (r / 10) 7), .bool false] 43)
      obtain ⟨d0, d1, d2, d3, d4, d5, d6, d7, d8⟩ := hN2.cells
      obtain ⟨f0, f1, f2, f3, f4, f5, f6, f7, f8⟩ := hN2.open9
      clear c0 c1 c2 c3 c4 c5 c6 c7 c8
      go_wp2
      refine ⟨⟨r / 10, [UInt8.ofNat (48 + r % 10)], congrArg Value.string E'.out, by omega, by simp, Or.inr ⟨by simp, Y.out⟩, ((hG.trans g2).alloc _ _).store9 (by omega) _ _ _ _ _ _ _ _ _, hN2.store (r / 10) false⟩, ?_⟩
      rw [E'.out]; show 40 - 1 < 40 - 0; omega
    · have hie : suf.isEmpty = false := by cases suf with
        | nil => exact absurd rfl hne
        | cons _ _ => rfl
      by_cases hr0 : r = 0
      · subst hr0
        have hE := eq41_yes wr
        have E : Hid (suf = prt a) := by rw [dg_zero] at hp; exact hp.symm
        clear X hp hne
        go_wp2
        go_ret
        exact ⟨by rw [← E.out]; rfl, hG⟩
      · have hE := eq41_no r hr hr0 wr
        have E := one_digit (r % 10) (by omega) suf
        have E' : Hid _ := E
        have hst := dg_step r (Nat.lt_of_lt_of_le hr p39) hr0
        have Y : Hid (prt a = dg 39 (r / 10) ++ (UInt8.ofNat (48 + r % 10) :: suf)) := by
          unfold Hid; rw [hp, hst, List.append_assoc]; rfl
        have hl : suf.length ≤ 38 := by
          have h1 : (prt a).length ≤ 39 := by
            have := prt_form a (Nat.lt_of_lt_of_le ha p39)
            unfold formB at this; simp at this; omega
          rw [hp, hst] at h1
          simp at h1; omega
        clear X hp hne E hst
        go_wp2_with fail
        refine (tenth_any r hr false _).mono ?_
        rintro e w2 ⟨rfl, g2⟩
        have hN2 := (hN.call g2).call ((Gr.refl _).alloc #[.int .i64 (dd (r / 10) 0), .int .i64 (dd (r / 10) 1), .int .i64 (dd (r / 10) 2), .int .i64 (dd (r / 10) 3), .int .i64 (dd (r / 10) 4), .int .i64 (dd (r / 10) 5), .int .i64 (dd (r / 10) 6), .int .i64 (dd (r / 10) 7), .bool false] 43)
        obtain ⟨d0, d1, d2, d3, d4, d5, d6, d7, d8⟩ := hN2.cells
        obtain ⟨f0, f1, f2, f3, f4, f5, f6, f7, f8⟩ := hN2.open9
        clear c0 c1 c2 c3 c4 c5 c6 c7 c8
        go_wp2
        refine ⟨⟨r / 10, UInt8.ofNat (48 + r % 10) :: suf, congrArg Value.string E'.out, by omega, by simp; omega, Or.inr ⟨by simp, Y.out⟩, ((hG.trans g2).alloc _ _).store9 (by omega) _ _ _ _ _ _ _ _ _, hN2.store (r / 10) false⟩, ?_⟩
        rw [E'.out]; show 40 - (UInt8.ofNat (48 + r % 10) :: suf).toArray.size < 40 - suf.toArray.size; simp; omega

end Go.Proofs.Ytlckjohmllagoaa
