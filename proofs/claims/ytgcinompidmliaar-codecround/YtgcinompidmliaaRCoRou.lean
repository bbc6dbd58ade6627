/- The law CodecRound. -/
import Derived.Test.YtgcinompidmliaaRCoU
import Derived.Test.YtgcinompidmliaaRFKr
import Derived.Deep.DeepCutAuto
namespace Go.Proofs.YtgcinompidmliaaR
open Go.RowKit Go.Lib

theorem getC_yes {l : List UInt8} (h : GOk l) (hl : l.length ≤ 4611686018427387904) (w : World) :
    Calls Try.prog 26 #[.string (sb l)] w fun e w' => ∃ v', e = .returned (.tuple #[Ch (gK l : Int) (gI l : Int) v', .int .i64 0]) ∧ Own w' w.heap.size v' (gV l) ∧ Gb w w' := by
  refine (getChange_c l hl w).mono fun e w' hh => ?_
  unfold gcP at hh
  rw [if_pos h] at hh
  exact hh
theorem getC_no {l : List UInt8} (h : ¬ GOk l) (hl : l.length ≤ 4611686018427387904) (w : World) :
    Calls Try.prog 26 #[.string (sb l)] w fun e w' => e = .returned (.tuple #[Ch 0 0 (.slice none 0 0), .int .i64 161]) ∧ Gb w w' := by
  refine (getChange_c l hl w).mono fun e w' hh => ?_
  unfold gcP at hh
  rw [if_neg h] at hh
  exact hh
theorem getR_yes {l : List UInt8} (h : HOk l) (hl : l.length ≤ 4611686018427387904) (w : World) :
    Calls Try.prog 28 #[.string (sb l)] w fun e w' => ∃ v', e = .returned (.tuple #[v', .int .i64 0]) ∧ RdW w' v' (hR l) ∧ Rm v' ∧ Gb w w' := by
  refine (getRows_c l hl w).mono fun e w' hh => ?_
  unfold grP at hh
  rw [if_pos h] at hh
  exact hh
theorem getR_no {l : List UInt8} (h : ¬ HOk l) (hl : l.length ≤ 4611686018427387904) (w : World) :
    Calls Try.prog 28 #[.string (sb l)] w fun e w' => e = .returned (.tuple #[.slice none 0 0, .int .i64 161]) ∧ Gb w w' := by
  refine (getRows_c l hl w).mono fun e w' hh => ?_
  unfold grP at hh
  rw [if_neg h] at hh
  exact hh
theorem getC_any (l : List UInt8) (hl : l.length ≤ 4611686018427387904) (w : World) :
    Calls Try.prog 26 #[.string (sb l)] w fun e w' => ∃ (k i : Int) (v' : Value) (ee : Int) (vs : List Int), e = .returned (.tuple #[Ch k i v', .int .i64 ee]) ∧ RdI w' v' vs ∧ (ee = 0 → chE k i vs = 0 ∧ chT k i vs = l) ∧ Gb w w' := by
  by_cases h : GOk l
  · refine (getC_yes h hl w).mono fun e w' ⟨v', h1, h2, h3⟩ => ?_
    exact ⟨_, _, v', 0, gV l, h1, h2.rd, fun _ => ⟨h.2, chT_gok h⟩, h3⟩
  · refine (getC_no h hl w).mono fun e w' ⟨h1, h3⟩ => ?_
    exact ⟨0, 0, .slice none 0 0, 161, [], h1, rdi_nil _, (fun e => by cases e), h3⟩
theorem getR_any (l : List UInt8) (hl : l.length ≤ 4611686018427387904) (w : World) :
    Calls Try.prog 28 #[.string (sb l)] w fun e w' => ∃ (v' : Value) (ee : Int) (rs : List Rw), e = .returned (.tuple #[v', .int .i64 ee]) ∧ RdW w' v' rs ∧ Rm v' ∧ WfR rs ∧ (ee = 0 → crE rs = 0 ∧ prT rs = l) ∧ Gb w w' := by
  by_cases h : HOk l
  · refine (getR_yes h hl w).mono fun e w' ⟨v', h1, h2, h3, h4⟩ => ?_
    exact ⟨v', 0, hR l, h1, h2, h3, rsO_wf _ _ _ (by have : hC l < 65536 := tk_lt 2 _; omega), fun _ => ⟨h.2.1, prT_hok h⟩, h4⟩
  · refine (getR_no h hl w).mono fun e w' ⟨h1, h3⟩ => ?_
    exact ⟨.slice none 0 0, 161, [], h1, ⟨none, 0, rfl, fun i hi => absurd hi (Nat.not_lt_zero _)⟩, fun a n c e => by cases e; exact Nat.le_refl _, ⟨by decide, fun i hi => absurd hi (Nat.not_lt_zero _)⟩, (fun e => by cases e), h3⟩
theorem str_one (W : World) (m : UInt8) : (convert 22 9 (.slice (some ⟨W.heap.size, 0, none⟩) 1 1)).run Try.prog (W.alloc (.cells #[.int .u8 (m.toNat : Int)] 5)) = .ok (.string (sb [m])) (W.alloc (.cells #[.int .u8 (m.toNat : Int)] 5)) := str_of (rdb_one W m rfl)
theorem chT_len {k id : Int} {v : List Int} (h : chE k id v = 0) : (chT k id v).length ≤ 300 := by
  obtain ⟨_, hh⟩ := chE_zero h
  unfold chT
  simp only [List.length_append, leB_length]
  rcases hh with ⟨rfl, _, _, l2⟩ | ⟨rfl, rfl⟩
  · rw [if_pos rfl, List.length_append, leB_length, coB_length]; omega
  · rw [if_neg (by decide)]; simp
set_option maxHeartbeats 8000000 in
set_option maxRecDepth 100000 in
theorem round_law {w : World} {u v : Value} {cv : List Int} {rs : List Rw} (k id : Int) (hu : RdI w u cv) (hv : RdW w v rs) (hrm : Rm v) (hwf : WfR rs) (hrow : ∀ i, i < rs.length → rs[i]!.2.length ≤ 4611686018427387904) (t : List UInt8) (m : UInt8) :
    Calls Try.prog 5 #[Ch k id u, v, .string (sb t), .int .u8 (m.toNat : Int)] w fun e w' => e = .returned (.bool true) ∧ Gb w w' := by
  have hsz := sb_size t
  have U : Hid (RdI w u cv) := hu
  have V : Hid (RdW w v rs ∧ Rm v ∧ WfR rs) := ⟨hv, hrm, hwf⟩
  have cB := fun W (g : Gb w W) => big16_c (hv.gb g) hwf.1 hrow
  have cP := fun W (g : Gb w W) => putChange_c k id (hu.gb g)
  obtain ⟨a, cap, rfl, _⟩ := hu
  obtain ⟨a2, cap2, rfl, _⟩ := hv
  obtain ⟨n, hN⟩ : ∃ n, n = cv.length := ⟨_, rfl⟩
  have N : Hid (n = cv.length) := hN
  obtain ⟨n2, hN2⟩ : ∃ n, n = rs.length := ⟨_, rfl⟩
  have N2 : Hid (n2 = rs.length) := hN2
  rw [← hN] at cP ⊢
  rw [← hN2] at cB ⊢
  clear hN hN2 hrm hwf hrow
  unfold Ch at cP ⊢
  by_cases h1 : (524288 : Int) < (n : Int)
  · clear cB cP U V
    generalize sb t = s at *
    go_enter Try.func5, Try.ntmps5
    go_wp2
    go_ret
    exact ⟨rfl, gb_alloc (Below.refl _ _) _⟩
  by_cases h2 : 524288 < t.length
  · clear cP U V
    generalize sb t = s at *
    generalize t.length = lt at *
    have h2' : (524288 : Int) < (lt : Int) := by omega
    go_enter Try.func5, Try.ntmps5
    go_wp2_with fail
    refine (cB _ (gb_alloc (Below.refl _ _) _)).mono ?_
    rintro e w' ⟨⟨b, rfl, _⟩, rfl⟩
    cases b
    · go_wp2
      go_ret
      exact ⟨rfl, gb_alloc (Below.refl _ _) _⟩
    · go_wp2
      go_ret
      exact ⟨rfl, gb_alloc (Below.refl _ _) _⟩
  have h2' : ¬ (524288 : Int) < (t.length : Int) := by omega
  have TL : Hid (t.length ≤ 524288) := by unfold Hid; omega
  go_enter Try.func5, Try.ntmps5
  go_wp2_with fail
  refine (cB _ (gb_alloc (Below.refl _ _) _)).mono ?_
  rintro e w' ⟨⟨b, rfl, hb⟩, rfl⟩
  cases b
  case true =>
    generalize sb t = s at *
    generalize t.length = lt at *
    go_wp2
    go_ret
    exact ⟨rfl, gb_alloc (Below.refl _ _) _⟩
  case false =>
    have BB : Hid (n2 ≤ 2000 ∧ coords rs ≤ 524288) := hb rfl
    clear hb h2
    have LT : Hid (t.length = t.length) := rfl
    have G0 : Gb w (w.alloc (.cells #[.int .i64 k, .int .i64 id, .slice a n cap] 37)) := gb_alloc (Below.refl _ _) _
    go_wp2_with fail
    refine (cP _ G0).mono ?_
    rintro e w1 ⟨rfl, g1⟩
    have X1 : Hid (Gb w w1 ∧ w1.cell? ⟨w.heap.size, 0, none⟩ = some (.int .i64 k) ∧ w1.cell? ⟨w.heap.size, 1, none⟩ = some (.int .i64 id) ∧ w1.cell? ⟨w.heap.size, 2, none⟩ = some (.slice a n cap)) :=
      ⟨gb_trans G0 g1, gb_keeps g1 (by simp [go_sem]), gb_keeps g1 (by simp [go_sem]), gb_keeps g1 (by simp [go_sem])⟩
    obtain ⟨S, ee, hS⟩ : ∃ S ee, pcV k id cv = .tuple #[.string S, .int .i64 ee] := ⟨_, _, rfl⟩
    have PS : Hid (S = sb (if chE k id cv = 0 then chT k id cv else []) ∧ ee = chE k id cv) := by
      unfold pcV at hS
      injection hS with hS
      have h1 := congrArg (fun a : Array Value => a.toList) hS
      simp at h1
      exact ⟨h1.1.symm, h1.2.symm⟩
    rw [hS]
    clear cP hS G0 g1
    go_upto_if 52 with (fail)
    go_cut [] (fun wx => Hid (Gb w wx))
    case first =>
      by_cases hz : chE k id cv = 0
      · have hee : ee = 0 := by rw [PS.out.2, hz]
        have hSS : S = sb (chT k id cv) := by rw [PS.out.1, if_pos hz]
        subst hee
        subst hSS
        obtain ⟨kn, jn, rfl, rfl, q1, q2, q3, q4, q5, q6, q7⟩ := chT_back hz
        have qm := gok_more q4 q5 (by rw [q1]; exact q6) m
        have ql := gok_less q4 q5 (by rw [q1]; exact q6)
        have hlen := chT_len hz
        have c0 := fun W => getC_yes q4 (by omega) W
        have c1 := fun W => getC_no qm (by rw [List.length_append, List.length_singleton]; omega) W
        have c2 := fun W => getC_no ql (by rw [List.length_take]; omega) W
        have hsT := sb_size (chT (kn : Int) (jn : Int) cv)
        rw [q1, q2, q3] at c0
        rw [← sb_app] at c1
        rw [← sb_take] at c2
        obtain ⟨p, hp⟩ : ∃ p, (chT (kn : Int) (jn : Int) cv).length = p + 1 := ⟨_, by rw [Nat.sub_add_cancel]; omega⟩
        rw [hp] at hsT c2
        rw [Nat.add_sub_cancel] at c2
        have hcl : Hid (cv.length ≤ 64) := by
          obtain ⟨_, hh⟩ := chE_zero hz
          rcases hh with ⟨_, _, _, l2⟩ | ⟨_, e⟩
          · exact l2
          · unfold Hid; rw [e]; exact Nat.zero_le _
        have so := fun W => str_one W m
        have hsm : (sb [m]).size = 1 := sb_size [m]
        have hadd : ∀ W, (binOp .add 9 (.string (sb (chT (kn : Int) (jn : Int) cv))) (.string (sb [m]))).run Try.prog W = .ok (.string (sb (chT (kn : Int) (jn : Int) cv) ++ sb [m])) W := fun W => by
          have h8 : ((sb (chT (kn : Int) (jn : Int) cv)).size : Int) ≤ 8388608 := by rw [hsT]; omega
          have h9 : ((sb [m]).size : Int) ≤ 8388608 := by rw [hsm]; decide
          simp [binOp, run_string_add, h8, h9]
        generalize sb (chT (kn : Int) (jn : Int) cv) = s0 at *
        generalize sb [m] = sm at *
        have hp300 : p ≤ 300 := by omega
        unfold Ch at c0 c1 c2
        clear hz PS qm ql q1 q2 q3 q4 q5 q6 q7 hlen hp
        have X := X1.out
        obtain ⟨x0, x1, x2, x3⟩ := X
        go_wp2_with fail
        refine (c0 _).mono ?_
        rintro e w2 ⟨v2, rfl, o2, g2⟩
        obtain ⟨a3, k3, e3, _⟩ := o2.rd
        rw [← N.out] at e3
        subst e3
        have G2 := gb_trans x0 g2
        have so2 := so (w2.alloc (.cells #[.int .i64 (kn : Int), .int .i64 (jn : Int), .slice a3 n k3] 37))
        simp only [World.size_alloc] at so2
        have B0 : Hid (∀ W, Gb (w2.alloc (.cells #[.int .i64 (kn : Int), .int .i64 (jn : Int), .slice a3 n k3] 37)) W → W.cell? ⟨w2.heap.size, 0, none⟩ = some (.int .i64 (kn : Int)) ∧ W.cell? ⟨w2.heap.size, 1, none⟩ = some (.int .i64 (jn : Int)) ∧ W.cell? ⟨w2.heap.size, 2, none⟩ = some (.slice a3 n k3)) :=
          fun W g => ⟨gb_keeps g (by simp [go_sem]), gb_keeps g (by simp [go_sem]), gb_keeps g (by simp [go_sem])⟩
        have Y1 := fun W (g : Gb w1 W) => (gb_keeps g x1)
        have Y2 := fun W (g : Gb w1 W) => (gb_keeps g x2)
        have Y3 := fun W (g : Gb w1 W) => (gb_keeps g x3)
        go_wp2_with fail
        refine (c1 _).mono ?_
        rintro e w3 ⟨rfl, g3⟩
        have G3 := gb_trans (gb_alloc (Below.refl _ w2) _) (gb_trans (gb_alloc (Below.refl _ _) _) g3)
        go_wp2_with fail
        refine (c2 _).mono ?_
        rintro e w4 ⟨rfl, g4⟩
        have g4' := gb_trans (gb_alloc (Below.refl _ w3) _) g4
        have H4 := gb_trans g3 g4'
        have H5 := gb_trans (gb_alloc (Below.refl _ _) _) H4
        have ci := fun W (g : Gb w2 W) => ints_v (o2.rd.gb g) (U.out.gb (gb_trans G2 g)) (by have := hcl.out; omega) true (by simp)
        rw [← N.out] at ci
        obtain ⟨y0, y1, y2⟩ := B0.out _ (gb_trans H5 (gb_alloc (Below.refl _ _) (.cells #[.int .i64 0, .int .i64 0, .slice none 0 0] 37)))
        have z1 := Y1 _ (gb_trans (gb_trans g2 (gb_trans (gb_alloc (Below.refl _ _) _) H5)) (gb_alloc (Below.refl _ _) (.cells #[.int .i64 0, .int .i64 0, .slice none 0 0] 37)))
        have z2 := Y2 _ (gb_trans (gb_trans g2 (gb_trans (gb_alloc (Below.refl _ _) _) H5)) (gb_alloc (Below.refl _ _) (.cells #[.int .i64 0, .int .i64 0, .slice none 0 0] 37)))
        have z3 := Y3 _ (gb_trans (gb_trans g2 (gb_trans (gb_alloc (Below.refl _ _) _) H5)) (gb_alloc (Below.refl _ _) (.cells #[.int .i64 0, .int .i64 0, .slice none 0 0] 37)))
        go_wp2_with fail
        refine (ci _ (gb_trans (gb_alloc (Below.refl _ _) _) (gb_trans H5 (gb_alloc (Below.refl _ _) _)))).mono ?_
        rintro e w5 ⟨rfl, g5⟩
        have G5 := gb_trans G2 (gb_trans (gb_trans (gb_alloc (Below.refl _ _) _) (gb_trans H5 (gb_alloc (Below.refl _ _) _))) g5.gb)
        go_wp2_with fail
        go_meet
        case rel => exact G5
      · have hee : ee ≠ 0 := by rw [PS.out.2]; exact hz
        have hee' : (ee == 0) = false := by rw [beq_eq_false_iff_ne]; exact hee
        clear hee
        go_wp2_with fail
        go_meet
        case rel => exact X1.out.1
    case rest =>
      clear X1 PS
      have cR := putRows_c (V.out.1.gb hcut.out) V.out.2.1 V.out.2.2
      rw [← N2.out] at cR
      obtain ⟨S2, e2, hS2⟩ : ∃ S ee, prV rs = .tuple #[.string S, .int .i64 ee] := ⟨_, _, rfl⟩
      have PS2 : Hid (S2 = sb (if crE rs = 0 then prT rs else []) ∧ e2 = crE rs) := by
        unfold prV at hS2
        injection hS2 with hS2
        have h1 := congrArg (fun a : Array Value => a.toList) hS2
        simp at h1
        exact ⟨h1.1.symm, h1.2.symm⟩
      rw [hS2] at cR
      clear hS2
      go_wp2_with fail
      refine cR.mono ?_
      rintro e w6 ⟨rfl, g6⟩
      have X6 : Hid (Gb w w6) := gb_trans hcut.out g6
      clear hcut g6
      go_upto_if 117 with (fail)
      go_cut [] (fun wx => Hid (Gb w wx))
      case first =>
        by_cases hz : crE rs = 0
        · have hee : e2 = 0 := by rw [PS2.out.2, hz]
          have hSS : S2 = sb (prT rs) := by rw [PS2.out.1, if_pos hz]
          subst hee
          subst hSS
          obtain ⟨q1, q2, q3⟩ := prT_back hz
          have qm := hok_more q2 q3 m
          have ql := hok_less q2
          have K := crE_zero.1 hz
          have hlen : (prT rs).length ≤ 140000 := by
            have e1 : (prT rs).length = 3 + (rwB rs).length := by rw [prT_form, List.length_append, List.length_append, leB_length, leB_length]; omega
            have e2 := rwB_len (rs := rs) (fun r hr => by have := rwT_mem K r hr; have := K.dim; omega)
            have := K.few
            omega
          have c0 := fun W => getR_yes q2 (by omega) W
          have c1 := fun W => getR_no qm (by rw [List.length_append, List.length_singleton]; omega) W
          have c2 := fun W => getR_no ql (by rw [List.length_take]; omega) W
          have hsT := sb_size (prT rs)
          rw [q1] at c0
          rw [← sb_app] at c1
          rw [← sb_take] at c2
          obtain ⟨p, hp⟩ : ∃ p, (prT rs).length = p + 1 := ⟨_, by rw [Nat.sub_add_cancel]; omega⟩
          rw [hp] at hsT c2
          rw [Nat.add_sub_cancel] at c2
          have so := fun W => str_one W m
          have hsm : (sb [m]).size = 1 := sb_size [m]
          have hadd : ∀ W, (binOp .add 9 (.string (sb (prT rs))) (.string (sb [m]))).run Try.prog W = .ok (.string (sb (prT rs) ++ sb [m])) W := fun W => by
            have h8 : ((sb (prT rs)).size : Int) ≤ 8388608 := by rw [hsT]; omega
            have h9 : ((sb [m]).size : Int) ≤ 8388608 := by rw [hsm]; decide
            simp [binOp, run_string_add, h8, h9]
          have RB : Hid (rs.length ≤ 512 ∧ ∀ r ∈ rs, r.2.length ≤ 64) := ⟨K.few, fun r hr => by have := rwT_mem K r hr; have := K.dim; omega⟩
          generalize sb (prT rs) = s0 at *
          generalize sb [m] = sm at *
          have hp3 : p ≤ 140000 := by omega
          clear hz PS2 qm ql q1 q2 q3 hlen hp K
          go_wp2_with fail
          refine (c0 _).mono ?_
          rintro e w7 ⟨v7, rfl, r7, m7, g7⟩
          obtain ⟨a7, k7, e7⟩ : ∃ a7 k7, v7 = .slice a7 rs.length k7 := by obtain ⟨x1, x2, x3, _⟩ := r7; exact ⟨x1, x2, x3⟩
          rw [← N2.out] at e7
          subst e7
          have so2 := so w7
          go_wp2_with fail
          refine (c1 _).mono ?_
          rintro e w8 ⟨rfl, g8⟩
          have H8 := gb_trans (gb_alloc (Below.refl _ w7) _) g8
          go_wp2_with fail
          refine (c2 _).mono ?_
          rintro e w9 ⟨rfl, g9⟩
          have H9 := gb_trans H8 g9
          have ck := krsame_c (r7.gb H9) (V.out.1.gb (gb_trans X6.out (gb_trans g7 H9))) (by have := RB.out.1; omega) (fun r hr => by have := RB.out.2 r hr; omega)
          rw [← N2.out] at ck
          have X9 := gb_trans X6.out (gb_trans g7 H9)
          go_wp2_with fail
          refine ck.mono ?_
          rintro e w10 ⟨rfl, g10⟩
          go_wp2_with fail
          go_meet
          case rel => exact gb_trans X9 g10
        · have hee : e2 ≠ 0 := by rw [PS2.out.2]; exact hz
          have hee' : (e2 == 0) = false := by rw [beq_eq_false_iff_ne]; exact hee
          clear hee
          go_wp2_with fail
          go_meet
          case rel => exact X6.out
      case rest =>
        clear X6 PS2
        have cC := getC_any t (by have := TL.out; omega) wc
        have XC := hcut
        clear hcut
        generalize hs : sb t = s at *
        have SST : Hid (sb t = s) := hs
        clear hs
        unfold Ch at cC
        go_wp2_with fail
        refine cC.mono ?_
        rintro e w7 ⟨k7, i7, v7, e7, vs7, rfl, r7, h7, g7⟩
        have H7 : Hid (e7 = 0 → chE k7 i7 vs7 = 0 ∧ chT k7 i7 vs7 = t) := h7
        have R7 : Hid (RdI w7 v7 vs7) := r7
        obtain ⟨a7, c7, rfl, _⟩ := r7
        have X7 : Hid (Gb w w7) := gb_trans XC.out g7
        clear h7 g7 cC
        go_upto_if 166 with (fail)
        go_cut [] (fun wx => Hid (Gb w wx))
        case first =>
          by_cases hz : e7 = 0
          · subst hz
            obtain ⟨z1, z2⟩ := H7.out rfl
            have G7 : Gb w7 (w7.alloc (.cells #[.int .i64 k7, .int .i64 i7, .slice a7 vs7.length c7] 37)) := gb_alloc (Below.refl _ _) _
            have cP := putChange_c k7 i7 (R7.out.gb G7)
            have hpv : pcV k7 i7 vs7 = .tuple #[.string s, .int .i64 0] := by unfold pcV; rw [z1, if_pos rfl, z2, SST.out]
            rw [hpv] at cP
            unfold Ch at cP
            clear z1 z2 hpv H7
            generalize vs7.length = n7 at *
            go_wp2_with fail
            refine cP.mono ?_
            rintro e w8 ⟨rfl, g8⟩
            have X8 := gb_trans X7.out (gb_trans G7 g8)
            go_wp2_with fail
            go_meet
            case rel => exact X8
          · have hee' : (e7 == 0) = false := by rw [beq_eq_false_iff_ne]; exact hz
            clear hz
            go_wp2_with fail
            go_meet
            case rel => exact gb_alloc X7.out _
        case rest =>
          clear X7 H7 R7
          have cC := getR_any t (by have := TL.out; omega) wc
          rw [SST.out] at cC
          have XC := hcut
          clear hcut
          go_wp2_with fail
          refine cC.mono ?_
          rintro e w8 ⟨v8, e8, rs8, rfl, r8, m8, f8, h8, g8⟩
          have H8 : Hid (e8 = 0 → crE rs8 = 0 ∧ prT rs8 = t) := h8
          have R8 : Hid (RdW w8 v8 rs8 ∧ Rm v8 ∧ WfR rs8) := ⟨r8, m8, f8⟩
          obtain ⟨a8, c8, rfl, _⟩ := r8
          have X8 : Hid (Gb w w8) := gb_trans XC.out g8
          clear h8 g8 cC m8 f8
          by_cases hz : e8 = 0
          · subst hz
            obtain ⟨z1, z2⟩ := H8.out rfl
            have cP := putRows_c R8.out.1 R8.out.2.1 R8.out.2.2
            have hpv : prV rs8 = .tuple #[.string s, .int .i64 0] := by unfold prV; rw [z1, if_pos rfl, z2, SST.out]
            rw [hpv] at cP
            clear z1 z2 hpv H8 R8
            generalize rs8.length = n8 at *
            go_wp2_with fail
            refine cP.mono ?_
            rintro e w9 ⟨rfl, g9⟩
            have X9 := gb_trans X8.out g9
            go_wp2_with fail
            refine (awake_c _).mono ?_
            rintro e w10 ⟨rfl, g10⟩
            go_wp2
            go_ret
            exact ⟨rfl, gb_trans X9 g10⟩
          · have hee' : (e8 == 0) = false := by rw [beq_eq_false_iff_ne]; exact hz
            clear hz H8 R8
            go_wp2_with fail
            refine (awake_c _).mono ?_
            rintro e w10 ⟨rfl, g10⟩
            go_wp2
            go_ret
            exact ⟨rfl, gb_trans X8.out g10⟩
end Go.Proofs.YtgcinompidmliaaR
