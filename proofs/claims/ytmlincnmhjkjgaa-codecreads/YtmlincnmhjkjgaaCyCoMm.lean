/- GetRows: its walk. -/
import Derived.Test.YtmlincnmhjkjgaaCyCoM
namespace Go.Proofs.Ytmlincnmhjkjgaa
open Go.RowKit Go.Lib

theorem falses {sh : Bool} {a b : Nat} (h : sh = false) (hab : b ≤ a) : (sh || decide (a < b)) = false := by
  subst h; simp; omega
set_option maxHeartbeats 4000000 in
set_option maxRecDepth 100000 in
theorem getRows_c (l : List UInt8) (hl : l.length ≤ 4611686018427387904) (w : World) :
    Calls Try.prog 6 #[.string (sb l)] w fun e w' => grP l w w' e := by
  have hcv := conv_bytes w l
  have G1 := gb_bytes w 5 (sb l)
  have R1 := rdb_bytes w l
  generalize bytesWorld w 5 (sb l) = w1 at *
  generalize grownCap w l.length 0 5 = gc at *
  generalize sb l = s at *
  have t0 := taker_c R1
  have FF : Hid (Gb w w1) := G1
  clear G1 R1
  have HL : Hid (l.length ≤ 4611686018427387904) := hl
  obtain ⟨n, hN⟩ : ∃ n, n = l.length := ⟨_, rfl⟩
  have NN : Hid (n = l.length) := hN
  rw [← hN] at hcv t0
  clear hl hN
  have hDl : hD l < 256 := tk_lt 1 l
  have hCl : hC l < 65536 := tk_lt 2 _
  have DD : Hid (leN (tk 1 l) = hD l) := rfl
  have DC : Hid (leN (tk 2 (l.drop 1)) = hC l) := rfl
  go_enter Try.func6, Try.ntmps6
  go_wp2_with fail
  refine t0.mono ?_
  rintro e w2 ⟨bt, bs, rfl, T2⟩
  unfold TK LF
  go_wp2_with fail
  refine (take_c T2 1 (by decide) HL.out).mono ?_
  rintro e w3 ⟨v3, rfl, o3, T3, _⟩
  go_wp2_with fail
  refine (tkn_c o3 (by decide)).mono ?_
  rintro e w' ⟨rfl, rfl⟩
  rw [DD.out]
  generalize hd : hD l = d at *
  have KD : Hid (hD l = d) := hd
  go_wp2_with fail
  refine (take_c T3 2 (by decide) (by rw [List.length_drop]; have := HL.out; omega)).mono ?_
  rintro e w4 ⟨v4, rfl, o4, T4, _⟩
  go_wp2_with fail
  refine (tkn_c o4 (by decide)).mono ?_
  rintro e w' ⟨rfl, rfl⟩
  rw [DC.out]
  generalize hc : hC l = c at *
  have KC : Hid (hC l = c) := hc
  clear hd hc o3 o4 T3 T2
  have E3 : Hid ((l.drop 1).drop 2 = l.drop 3) := by unfold Hid; rw [List.drop_drop]
  have LFT : Hid ((if ((false || decide (l.length < 1)) || decide ((l.drop 1).length < 2)) = true then (-1 : Int) else (((l.drop 3).length : Nat) : Int)) = (if n < 3 then (-1 : Int) else ((n - 3 : Nat) : Int))) := by
    unfold Hid
    simp only [List.length_drop, Bool.false_or, ← Bool.decide_or, decide_eq_true_eq]
    rw [NN.out]
    by_cases h : l.length < 3
    · rw [if_pos (by omega), if_pos h]
    · rw [if_neg (by omega), if_neg h]
  rw [E3.out] at T4
  have hleft := left_c T4
  rw [LFT.out] at hleft
  obtain ⟨M, hM⟩ : ∃ M, M = c * (4 + 4 * d) := ⟨_, rfl⟩
  have hMb : M ≤ 67107840 := by
    rw [hM]
    exact Nat.le_trans (Nat.mul_le_mul (show c ≤ 65535 by omega) (show 4 + 4 * d ≤ 1024 by omega)) (by decide)
  have hMi : (c : Int) * (4 + (d : Int) * 4) = (M : Int) := by rw [hM, Int.natCast_mul, Int.natCast_add, Int.natCast_mul, Int.mul_comm (d : Int) 4]; rfl
  by_cases hn : n = 3 + M
  · have L0 : Hid ((if n < 3 then (-1 : Int) else ((n - 3 : Nat) : Int)) = (M : Int)) := by unfold Hid; rw [if_neg (by omega)]; omega
    rw [L0.out] at hleft
    have HN : Hid (n = 3 + M ∧ M = c * (4 + 4 * d)) := ⟨hn, hM⟩
    have hmk := run_make_two c (by omega) w4
    have S0 : Hid (((false || decide (l.length < 1)) || decide ((l.drop 1).length < 2)) = false) := falses (falses rfl (by have := NN.out; omega)) (by rw [List.length_drop]; have := NN.out; omega)
    rw [S0.out] at T4
    have I0 : Hid (Arr w4.heap.size c (rwI d (l.drop 3)) 0 (fun _ => (.int .i64 0, .slice none 0 0)) (w4.alloc (.cells (madeCells #[.int .i64 0, .slice none 0 0] (c * 2)) 50)) ∧ TkAt w1 bt bs ((l.drop 3).drop (0 * (4 + 4 * d))) false (w4.alloc (.cells (madeCells #[.int .i64 0, .slice none 0 0] (c * 2)) 50))) := by
      refine ⟨⟨ra_made w4 c, fun i hi => by omega⟩, ?_⟩
      rw [Nat.zero_mul, List.drop_zero]
      exact T4.later (gb_alloc (Below.refl _ _) _)
    have LT : Hid (bt < w4.heap.size ∧ bs < w4.heap.size) := ⟨T4.cells.2.2.1, T4.cells.2.2.2.1⟩
    have W1 : Hid (w1.heap.size ≤ w4.heap.size) := T4.gb.size
    clear hn hM S0
    go_wp2_with fail
    refine hleft.mono ?_
    rintro e w' ⟨rfl, rfl⟩
    generalize w4.alloc (.cells (madeCells #[.int .i64 0, .slice none 0 0] (c * 2)) 50) = wB at *
    clear T4 hleft
    go_wp2
    clear hmk
    generalize w4.heap.size = G at *
    have HD : Hid (d < 256) := hDl
    go_loopw [36] (fun iv W => ∃ q : Nat, iv = .int .i64 (q : Int) ∧ q ≤ c ∧ Hid (∃ f, Arr G c (rwI d (l.drop 3)) q f W ∧ TkAt w1 bt bs ((l.drop 3).drop (q * (4 + 4 * d))) false W)) (fun iv _ => c - (intOf iv).toNat)
    case atStart => exact ⟨0, rfl, Nat.zero_le _, _, I0.out⟩
    case round =>
      obtain ⟨q, rfl, hq, X⟩ := hrel
      by_cases hqc : q < c
      · have hqi : (q : Int) < (c : Int) := by omega
        obtain ⟨f, A0, T0⟩ := X.out
        have LEN : Hid (4 + 4 * d ≤ ((l.drop 3).drop (q * (4 + 4 * d))).length) := by
          unfold Hid
          rw [List.length_drop, List.length_drop, ← NN.out, HN.out.1, HN.out.2]
          have h1 : (q + 1) * (4 + 4 * d) ≤ c * (4 + 4 * d) := Nat.mul_le_mul_right _ hqc
          rw [Nat.add_mul, Nat.one_mul] at h1
          generalize 4 + 4 * d = K at h1 ⊢
          omega
        have RR : Hid (rwI d (l.drop 3) q = ((leN (tk 4 ((l.drop 3).drop (q * (4 + 4 * d)))) : Int), vecOf d (((l.drop 3).drop (q * (4 + 4 * d))).drop 4))) := rfl
        have NX : Hid ((((l.drop 3).drop (q * (4 + 4 * d))).drop 4).drop (4 * d) = (l.drop 3).drop ((q + 1) * (4 + 4 * d))) := by
          unfold Hid; rw [show (q + 1) * (4 + 4 * d) = q * (4 + 4 * d) + (4 + 4 * d) by rw [Nat.add_mul, Nat.one_mul]]; simp only [List.drop_drop]; congr 1; generalize q * (4 + 4 * d) = K; omega
        have SM : ((l.drop 3).drop (q * (4 + 4 * d))).length ≤ 4611686018427387904 := by simp only [List.length_drop]; have := HL.out; omega
        generalize (l.drop 3).drop (q * (4 + 4 * d)) = L at *
        have hid : leN (tk 4 L) < 4294967296 := tk_lt 4 L
        go_wp2_with fail
        refine (take_c T0 4 (by decide) SM).mono ?_
        rintro e w5 ⟨v5, rfl, o5, T5, K5⟩
        rw [falses rfl (by have := LEN.out; omega)] at T5
        have A5 := A0.kp LT.out.1 LT.out.2 K5
        have c5 := tkn_c o5 (by decide)
        clear o5 X A0 T0 K5
        generalize hm : leN (tk 4 L) = m at *
        have MM : Hid (leN (tk 4 L) = m) := hm
        clear hm
        obtain ⟨x0, x1⟩ := A5.1.cell hqc
        have fz := A5.1.frozen
        go_wp2_with fail
        refine c5.mono ?_
        rintro e w' ⟨rfl, rfl⟩
        have A6 := A5.setA hqc (.int .i64 (m : Int))
        have GB : Hid (w1.heap.size ≤ G) := W1.out
        have T6 := T5.set (p := ⟨G, q * 2, none⟩) GB.out (by have := LT.out.1; show bt ≠ G; omega) (by have := LT.out.2; show bs ≠ G; omega) (.int .i64 (m : Int))
        have SG : Hid (G < w5.heap.size) := A5.1.lt
        have vc := vector_c T6 d (by have := HD.out; omega) (by rw [List.length_drop]; omega)
        unfold TK at vc
        clear A5 T5
        go_wp2_with fail
        refine vc.mono ?_
        rintro e w7 ⟨v7, rfl, o7, T7, K7⟩
        rw [falses rfl (by rw [List.length_drop]; have := LEN.out; omega), NX.out] at T7
        have A7 := A6.kp LT.out.1 LT.out.2 K7
        obtain ⟨y0, y1⟩ := A7.1.cell hqc
        have fz7 := A7.1.frozen
        have o8 : Own w7 (G + 1) v7 (rwI d (l.drop 3) q).2 := by rw [RR.out]; exact o7.mono (by rw [World.size_setCell]; have := SG.out; omega)
        obtain ⟨a7, k7, e7, _⟩ := o8.rd
        have A8 := A7.setB hqc (by rw [if_pos rfl, RR.out]) o8
        have T8 := T7.set (p := ⟨G, q * 2 + 1, none⟩) GB.out (by have := LT.out.1; show bt ≠ G; omega) (by have := LT.out.2; show bs ≠ G; omega) v7
        generalize (rwI d (l.drop 3) q).2.length = nv at *
        subst e7
        clear A7 A6 o7 o8 T6 T7 K7 vc
        go_wp2
        exact ⟨⟨q + 1, by simp, hqc, _, A8, T8⟩, by simp [intOf]; omega⟩
      · have e : q = c := by omega
        subst e
        obtain ⟨f, A9, T9⟩ := X.out
        have RD := A9.rd
        have RR : Hid (hR l = rsO d q (l.drop 3)) := by unfold Hid hR; rw [KD.out, KC.out]
        rw [← RR.out] at RD
        have G9 : Hid (Gb w wr) := gb_trans FF.out T9.gb
        have hwf : WfR (hR l) := by rw [RR.out]; exact rsO_wf _ _ _ (by omega)
        have hrm : Rm (.slice (some ⟨G, 0, none⟩) q q) := by intro a b c h; cases h; exact Nat.le_refl _
        have hck := checkRows_c RD hrm hwf
        have hdo := fun W (g : Gb wr W) => dimOf_c (RD.gb g)
        clear X A9 T9
        by_cases hz : crE (hR l) = 0
        · rw [hz] at hck
          by_cases hdd : d = dimR (hR l)
          · have OK : Hid (HOk l) := ⟨by rw [KC.out, KD.out]; have := HN.out; have := NN.out; omega, hz, by rw [KD.out]; exact hdd⟩
            rw [← hdd] at hdo
            clear hz hdd
            go_wp2_with fail
            refine hck.mono ?_
            rintro e w9 ⟨rfl, g9⟩
            go_wp2_with fail
            refine (hdo _ g9).mono ?_
            rintro e w' ⟨rfl, rfl⟩
            go_wp2
            refine bodyPost_ret (v := .tuple #[.slice (some ⟨G, 0, none⟩) q q, .int .i64 0]) (by simp [results, Try.results6, go_sem]) rfl ?_
            unfold grP
            rw [if_pos OK.out]
            exact ⟨_, rfl, RD.gb g9, hrm, gb_trans G9.out g9⟩
          · have OK : Hid (¬ HOk l) := fun h => hdd (by have := h.2.2; rw [KD.out] at this; exact this)
            generalize dimR (hR l) = z at *
            have hz' : ((d : Int) != (z : Int)) = true := by rw [bne_iff_ne]; omega
            clear hz hdd
            go_wp2_with fail
            refine hck.mono ?_
            rintro e w9 ⟨rfl, g9⟩
            go_wp2_with fail
            refine (hdo _ g9).mono ?_
            rintro e w' ⟨rfl, rfl⟩
            go_wp2
            refine bodyPost_ret (v := .tuple #[.slice none 0 0, .int .i64 161]) (by simp [results, Try.results6, go_sem]) rfl ?_
            unfold grP
            rw [if_neg OK.out]
            exact ⟨rfl, gb_trans G9.out g9⟩
        · have OK : Hid (¬ HOk l) := fun h => hz h.2.1
          generalize crE (hR l) = z at *
          have hz' : (z != 0) = true := by rw [bne_iff_ne]; exact hz
          clear hz hdo
          go_wp2_with fail
          refine hck.mono ?_
          rintro e w9 ⟨rfl, g9⟩
          go_wp2
          refine bodyPost_ret (v := .tuple #[.slice none 0 0, .int .i64 161]) (by simp [results, Try.results6, go_sem]) rfl ?_
          unfold grP
          rw [if_neg OK.out]
          exact ⟨rfl, gb_trans G9.out g9⟩
  · have OK : Hid (¬ HOk l) := fun h => hn (by have := h.1; rw [KC.out, KD.out, ← hM] at this; have := NN.out; omega)
    have L0 : Hid ((if n < 3 then (-1 : Int) else ((n - 3 : Nat) : Int)) ≠ (M : Int)) := by unfold Hid; split <;> omega
    generalize (if n < 3 then (-1 : Int) else ((n - 3 : Nat) : Int)) = z at *
    have hz' : (z != (M : Int)) = true := by rw [bne_iff_ne]; exact L0.out
    have G4 : Hid (Gb w w4) := gb_trans FF.out T4.gb
    clear hM LFT L0
    go_wp2_with fail
    refine hleft.mono ?_
    rintro e w' ⟨rfl, rfl⟩
    go_wp2
    refine bodyPost_ret (v := .tuple #[.slice none 0 0, .int .i64 161]) (by simp [results, Try.results6, go_sem]) rfl ?_
    unfold grP
    rw [if_neg OK.out]
    exact ⟨rfl, G4.out⟩
end Go.Proofs.Ytmlincnmhjkjgaa
