/- The reference's GetRows: its walk. -/
import Derived.Test.YtmlincnmhjkjgaaCyCoYr
namespace Go.Proofs.Ytmlincnmhjkjgaa
open Go.RowKit Go.Lib

theorem two_cellsG (w : World) (x y : Value) (t : TypeId) : ∀ j u, [x, y][j]? = some u → (w.alloc (.cells #[x, y] t)).cell? ((⟨w.heap.size, 0, none⟩ : Addr).add j) = some u := by
  intro j u hj
  match j with
  | 0 => simp at hj; subst hj; simp [go_sem]
  | 1 => simp at hj; subst hj; simp [go_sem]
  | j + 2 => simp at hj
theorem Try.infoR2 : (Try.prog.info? 50).map (fun i => (i.zero, i.size, i.bytes)) = some (some (.agg #[.int .i64 0, .slice none 0 0]), 2, 32) := by kernel_rfl
theorem app_R1 {W : World} {ops : Array Oper} {rest : List Oper} {o : Oper} {a : Act} {Q : Exit → Act → World → Prop} (hgd : o.guard = none) (s x : Operand)
    (ho : o.op = .call { callee := .builtin .append, args := #[s, x], argTypes := #[29, 29] }) (B : Nat) {v : Value} {n : Nat} {xs : List Value} (hs : a.eval s = v) (h : W.ownsRow B 50 2 v n xs) (hB : B ≤ W.heap.size) (hl : n ≤ 1000000) {b : Nat} {y z : Value} (hy : y.oneCell' = true) (hz : z.oneCell' = true) (hx : a.eval x = .slice (some ⟨b, 0, none⟩) 1 1) (hc : ∀ j u, [y, z][j]? = some u → W.cell? ((⟨b, 0, none⟩ : Addr).add j) = some u)
    (k : ∀ v' w', w'.ownsRow B 50 2 v' (n + 1) (xs ++ [y, z]) → W.grownBy w' v.ownBlock → wpList Try.prog ops Q rest (a.put o.dst v') w') : wpList Try.prog ops Q (o :: rest) a W := by
  obtain ⟨i0, hi0, hz0, hz1, hz2⟩ := info_parts Try.infoR2
  refine wpList_append_own_at W hgd s x 29 ho B 50 i0 (.agg #[.int .i64 0, .slice none 0 0]) 2 32 Try.underlying29 hi0 hz0 hz1 hz2 rfl (by decide) v n xs hs h ⟨b, 0, none⟩ 1 1 [y, z] hx rfl hc (by intro u hu; simp at hu; rcases hu with rfl | rfl <;> assumption) (by unfold maxLen; omega) (by omega) hB (fun v' w' a b _ _ => k v' w' a b)
theorem grP_no {l : List UInt8} {w w' : World} (h : ¬ HOk l) (g : Gb w w') : grP l w w' (.returned (.tuple #[.slice none 0 0, .int .i64 161])) := by
  unfold grP; rw [if_neg h]; exact ⟨rfl, g⟩
theorem grP_yes {l : List UInt8} {w w' : World} {v : Value} (h : HOk l) (r : RdW w' v (hR l)) (m : Rm v) (g : Gb w w') : grP l w w' (.returned (.tuple #[v, .int .i64 0])) := by
  unfold grP; rw [if_pos h]; exact ⟨v, rfl, r, m, g⟩
set_option maxHeartbeats 4000000 in
set_option maxRecDepth 100000 in
theorem rgetRows_c (l : List UInt8) (hl : l.length ≤ 1048576) (w : World) :
    Calls Try.prog 7 #[.string (sb l)] w fun e w' => grP l w w' e := by
  have hsz := sb_size l
  have SS : Hid (∃ S, S = sb l) := ⟨_, rfl⟩
  obtain ⟨S, hS⟩ := SS
  have SL : Hid (S.data.toList = l) := by unfold Hid; rw [hS]; rfl
  rw [← hS] at hsz ⊢
  clear hS
  obtain ⟨n, hN⟩ : ∃ n, n = l.length := ⟨_, rfl⟩
  have N : Hid (n = l.length) := hN
  rw [← hN] at hsz hl
  clear hN
  by_cases h3 : n < 3
  · have NO : Hid (¬ HOk l) := fun h => by have := h.1; have := N.out; omega
    have h3i : (n : Int) < 3 := by omega
    go_enter Try.func7, Try.ntmps7
    go_wp2
    exact bodyPost_ret (v := .tuple #[.slice none 0 0, .int .i64 161]) (by simp [results, Try.results7, go_sem]) rfl (grP_no NO.out (Below.refl _ _))
  have h3i : ¬ (n : Int) < 3 := by omega
  have h0s : 0 < S.size := by omega
  have hS0 : (S[0].toNat : Int) = (hD l : Int) := by
    have e1 : hD l = l[0]!.toNat := by
      unfold hD
      rw [tk_pre (by have := N.out; omega)]
      cases l with
      | nil => have := N.out; simp at this; omega
      | cons x r => simp [leN]
    have e2 : S[0] = l[0]! := by
      have e3 : S.data.toList[0]! = S[0] := by rw [getElem!_pos S.data.toList 0 (by simpa using h0s)]; rfl
      rw [← e3, SL.out]
    rw [e1, e2]
  have gC2 := get_c S 1 2 (by omega) (by decide) (by omega)
  have DC : Hid (leN (cut l 1 2) = hC l) := by unfold Hid hC; rw [cut_tk (by have := N.out; omega)]
  rw [SL.out, DC.out] at gC2
  have hDb : hD l < 256 := tk_lt 1 l
  have hCb : hC l < 65536 := tk_lt 2 _
  have HR : Hid (hR l = rsO (hD l) (hC l) (l.drop 3)) := rfl
  have HK : Hid (HOk l → n = 3 + hC l * (4 + 4 * hD l) ∧ hC l ≤ 512) := by
    intro h
    refine ⟨by rw [N.out]; exact h.1, ?_⟩
    have := (crE_zero.1 h.2.1).few
    rw [HR.out, rsO_length] at this
    exact this
  generalize hd : hD l = d at *
  generalize hc : hC l = c at *
  clear hd hc
  obtain ⟨M, hM⟩ : ∃ M, M = c * (4 + 4 * d) := ⟨_, rfl⟩
  have hMb : M ≤ 67107840 := by
    rw [hM]
    exact Nat.le_trans (Nat.mul_le_mul (show c ≤ 65535 by omega) (show 4 + 4 * d ≤ 1024 by omega)) (by decide)
  have hMi : (c : Int) * (4 + 4 * (d : Int)) = (M : Int) := by rw [hM, Int.natCast_mul, Int.natCast_add, Int.natCast_mul]; rfl
  by_cases hn : n = 3 + M
  · by_cases hc5 : c ≤ 512
    · have hne : ((n : Int) != 3 + (M : Int)) = false := by simp; omega
      have HM : Hid (M = c * (4 + 4 * d) ∧ n = 3 + M) := ⟨hM, hn⟩
      have hc5i : ¬ (512 : Int) < (c : Int) := by omega
      have OO : Hid (OwR w w.heap.size (rwI d (l.drop 3)) 0 (.slice none 0 0)) := ⟨[], World.ownsRow_nil _ _ _ _, fun i hi => absurd hi (Nat.not_lt_zero _)⟩
      have SZ : Hid (S.size = n) := hsz
      clear hn hM
      go_enter Try.func7, Try.ntmps7
      go_wp2_with fail
      refine (gC2 _).mono ?_
      rintro e w' ⟨rfl, rfl⟩
      go_wp2
      go_loopw [6, 7] (fun vv iv W => ∃ q : Nat, iv = .int .i64 (q : Int) ∧ q ≤ c ∧ Hid (OwR W w.heap.size (rwI d (l.drop 3)) q vv ∧ Gb w W)) (fun _ iv _ => c - (intOf iv).toNat)
      case atStart => exact ⟨0, rfl, Nat.zero_le _, OO.out, Below.refl _ _⟩
      case round =>
        clear OO
        obtain ⟨q, rfl, hq, X⟩ := hrel
        by_cases hqc : q < c
        · have hqi : (q : Int) < (c : Int) := by omega
          obtain ⟨P, hP⟩ : ∃ P, P = q * (4 + 4 * d) := ⟨_, rfl⟩
          have hPi : (q : Int) * (4 + 4 * (d : Int)) = (P : Int) := by rw [hP, Int.natCast_mul, Int.natCast_add, Int.natCast_mul]; rfl
          have hPM : P + (4 + 4 * d) ≤ M := by
            rw [hP, HM.out.1]
            have h1 := Nat.mul_le_mul_right (4 + 4 * d) hqc
            rw [Nat.succ_mul] at h1
            exact h1
          have LN := N.out
          have MN := HM.out.2
          have ZN := SZ.out
          have gg := get_c S (3 + P) 4 (by omega) (by decide) (by omega)
          have gc := coords_c S (3 + P + 4) d (by omega) (by omega) (by omega)
          have R1 : Hid ((leN (cut l (3 + P) 4) : Int) = (rwI d (l.drop 3) q).1) := by
            unfold Hid rwI rwO
            show ((leN (cut l (3 + P) 4) : Nat) : Int) = ((leN (tk 4 ((l.drop 3).drop (q * (4 + 4 * d)))) : Nat) : Int)
            rw [List.drop_drop, ← hP, cut_tk (by omega)]
          have R2 : Hid (vecOf d (l.drop (3 + P + 4)) = (rwI d (l.drop 3) q).2) := by
            unfold Hid rwI rwO
            show vecOf d (l.drop (3 + P + 4)) = vecOf d (((l.drop 3).drop (q * (4 + 4 * d))).drop 4)
            rw [← hP]; simp only [List.drop_drop]
          rw [SL.out, R1.out, show ((3 + P : Nat) : Int) = 3 + (P : Int) by omega] at gg
          rw [SL.out, R2.out, show ((3 + P + 4 : Nat) : Int) = 3 + (P : Int) + 4 by omega] at gc
          have hPb : (P : Int) ≤ 67107840 := by omega
          clear LN MN ZN hPM hP R1 R2
          obtain ⟨RR, hRR⟩ : ∃ RR, RR = rwI d (l.drop 3) q := ⟨_, rfl⟩
          have RH : Hid (RR = rwI d (l.drop 3) q) := hRR
          rw [← hRR] at gg gc
          clear hRR
          go_wp2_with fail
          refine (gg _).mono ?_
          rintro e w' ⟨rfl, rfl⟩
          go_wp2_with fail
          refine (gc _).mono ?_
          rintro e w5 ⟨v5, rfl, o5, g5⟩
          have G5 := gb_trans X.out.2 g5
          have o5 := o5.mono (b' := w.heap.size) X.out.2.size
          obtain ⟨av, cv, ev⟩ : ∃ a c, v5 = .slice a RR.2.length c := by obtain ⟨x1, x2, x3, _⟩ := o5.rd; exact ⟨x1, x2, x3⟩
          obtain ⟨xs, y1, y2⟩ := (X.out.1.gb g5).gb (gb_alloc (Below.refl _ w5) (.cells #[.int .i64 RR.1, .slice av RR.2.length cv] 50))
          have OX := o5.gb (gb_alloc (Below.refl _ w5) (.cells #[.int .i64 RR.1, .slice av RR.2.length cv] 50))
          have Y : Hid (∀ i, i < q → ∃ u, xs[i * 2]? = some (.int .i64 (rwI d (l.drop 3) i).1) ∧ xs[i * 2 + 1]? = some u ∧ Own (w5.alloc (.cells #[.int .i64 RR.1, .slice av RR.2.length cv] 50)) w.heap.size u (rwI d (l.drop 3) i).2) := y2
          have OXH : Hid (Own (w5.alloc (.cells #[.int .i64 RR.1, .slice av RR.2.length cv] 50)) w.heap.size v5 RR.2) := OX
          clear y2 OX o5 gg gc X
          subst ev
          generalize hrl : RR.2.length = rl at *
          clear hrl
          have SW := G5.size
          go_wp2_with (first
            | (at_builtin; refine app_R1 rfl _ _ rfl w.heap.size rfl y1 (by simp; omega) (by omega) rfl rfl rfl (two_cellsG _ _ _ _) ?_; intro v6 w6 o6 g6)
            | fail)
          have NX : OwR w6 w.heap.size (rwI d (l.drop 3)) (q + 1) v6 := OwR.next y1 Y.out (by rw [← RH.out]; exact OXH.out) (by rw [← RH.out]; exact o6) g6
          have GX : Gb w w6 := below_grown' (gb_alloc G5 _) g6 (fun i e => (World.ownsRow.lt y1 i e).1)
          exact ⟨⟨q + 1, by simp, hqc, NX, GX⟩, by simp [intOf]; omega⟩
        · have e : q = c := by omega
          subst e
          obtain ⟨rd, rm⟩ := X.out.1.rd
          rw [← HR.out] at rd
          have XG : Hid (Gb w wr) := X.out.2
          have RD : Hid (RdW wr _ (hR l) ∧ Rm _) := ⟨rd, rm⟩
          have lenR : (hR l).length ≤ 4611686018427387904 := by rw [HR.out, rsO_length]; omega
          have cP := rputRows_c rd lenR
          by_cases hok : HOk l
          · have OK : Hid (HOk l) := hok
            have hpv : prV (hR l) = .tuple #[.string S, .int .i64 0] := by
              unfold prV
              rw [hok.2.1, if_pos rfl, prT_hok hok]
              have : S = sb l := by
                apply ByteArray.ext
                apply Array.ext'
                exact SL.out
              rw [this]
            rw [hpv] at cP
            clear hpv hok X
            go_wp2_with fail
            refine cP.mono ?_
            rintro e w7 ⟨rfl, g7⟩
            go_wp2
            refine bodyPost_ret (v := .tuple #[_, .int .i64 0]) (by simp [results, Try.results7, go_sem]) rfl (grP_yes OK.out (RD.out.1.gb g7) RD.out.2 (gb_trans XG.out g7))
          · have NO : Hid (¬ HOk l) := hok
            obtain ⟨S2, e2, hpv⟩ := (⟨_, _, rfl⟩ : ∃ S e, prV (hR l) = .tuple #[.string S, .int .i64 e])
            have PS : Hid (S2 = sb (if crE (hR l) = 0 then prT (hR l) else []) ∧ e2 = crE (hR l)) := by
              unfold prV at hpv
              injection hpv with hpv
              have h1 := congrArg (fun a : Array Value => a.toList) hpv
              simp at h1
              exact ⟨h1.1.symm, h1.2.symm⟩
            rw [hpv] at cP
            clear hpv X
            by_cases hz : e2 = 0
            · have hne : (S2.toList == S.toList) = false := by
                rw [beq_eq_false_iff_ne]
                intro e
                have hz2 : crE (hR l) = 0 := by rw [← PS.out.2, hz]
                rw [ByteArray.toList_eq, ByteArray.toList_eq, SL.out, PS.out.1, if_pos hz2] at e
                have e : prT (hR l) = l := e
                have := (prT_back hz2).2.1
                rw [e] at this
                exact hok this
              subst hz
              clear hok
              go_wp2_with fail
              refine cP.mono ?_
              rintro e w7 ⟨rfl, g7⟩
              go_wp2
              exact bodyPost_ret (v := .tuple #[.slice none 0 0, .int .i64 161]) (by simp [results, Try.results7, go_sem]) rfl (grP_no NO.out (gb_trans XG.out g7))
            · have hz' : (e2 != 0) = true := by rw [bne_iff_ne]; exact hz
              clear hz hok
              go_wp2_with fail
              refine cP.mono ?_
              rintro e w7 ⟨rfl, g7⟩
              go_wp2
              exact bodyPost_ret (v := .tuple #[.slice none 0 0, .int .i64 161]) (by simp [results, Try.results7, go_sem]) rfl (grP_no NO.out (gb_trans XG.out g7))
    · have NO : Hid (¬ HOk l) := fun h => hc5 (HK.out h).2
      have hc5i : (512 : Int) < (c : Int) := by omega
      have hne : ((n : Int) != 3 + (M : Int)) = false := by simp; omega
      clear hn hM hc5
      go_enter Try.func7, Try.ntmps7
      go_wp2_with fail
      refine (gC2 _).mono ?_
      rintro e w' ⟨rfl, rfl⟩
      go_wp2
      exact bodyPost_ret (v := .tuple #[.slice none 0 0, .int .i64 161]) (by simp [results, Try.results7, go_sem]) rfl (grP_no NO.out (Below.refl _ _))
  · have NO : Hid (¬ HOk l) := fun h => hn (by rw [hM]; exact (HK.out h).1)
    have hne : ((n : Int) != 3 + (M : Int)) = true := by simp; omega
    clear hn hM
    go_enter Try.func7, Try.ntmps7
    go_wp2_with fail
    refine (gC2 _).mono ?_
    rintro e w' ⟨rfl, rfl⟩
    go_wp2
    exact bodyPost_ret (v := .tuple #[.slice none 0 0, .int .i64 161]) (by simp [results, Try.results7, go_sem]) rfl (grP_no NO.out (Below.refl _ _))
end Go.Proofs.Ytmlincnmhjkjgaa
