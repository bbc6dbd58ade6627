/- The reference's Estimate. -/
import Derived.Test.YtblfmhdcgmkpgaaPEst
import Derived.Test.YtblfmhdcgmkpgaaRAdd
import Derived.Test.YtblfmhdcgmkpgaaRAddNo
import Derived.BigQuiet
namespace Go.Proofs.Ytblfmhdcgmkpgaa
open Go.RowKit Go.Maps Go.Sort

theorem set_far {W : World} {p : Addr} {u : Value} {b o : Nat} {x : Value} (hp : b ≠ p.block) (h : W.cell? p = some u) : (W.setCell ⟨b, o, none⟩ x).cell? p = some u := (set_far2 hp hp ⟨h, h⟩).1
theorem At2.far2 {W : World} {b c s : Nat} (h : At2 W b s) (hn : c ≠ b) (x y : Value) : At2 ((W.setCell ⟨c, 0, none⟩ x).setCell ⟨c, 1, none⟩ y) b s :=
  ⟨set_far hn (set_far hn h.c0), set_far hn (set_far hn h.c1), by simpa [go_sem] using h.f0, by simpa [go_sem] using h.f1⟩
/-- Behind some sums of the reference. -/
structure ReS (w W : World) (sb n : Nat) : Prop where
  gb : Gb w W
  res : At2 W w.heap.size 0
  sum : At2 W sb n
  lt : w.heap.size < sb
theorem ReS.next {w W : World} {sb n : Nat} (h1 : Gb w W) (h2 : At2 W w.heap.size 0) (h3 : At2 W sb n) (h4 : w.heap.size < sb) (m : Nat) :
    ReS w ((W.setCell ⟨sb, 0, none⟩ (.int .u64 (hi m))).setCell ⟨sb, 1, none⟩ (.int .u64 (lo m))) sb m :=
  ⟨gb_set (gb_set h1 (Nat.le_of_lt h4) _) (Nat.le_of_lt h4) _, h2.far2 (Nat.ne_of_gt h4) _ _, At2.set h3 m, h4⟩

set_option maxHeartbeats 4000000 in
set_option maxRecDepth 100000 in
theorem rest_c {w : World} {tv cv : Value} {t : List (List Nat)} {code : List Int} (ht : RdT w tv t) (hc : RdI w cv code) (hlen : code.length ≤ 4611686018427387904) (hok : TabOk t) (v : Nat) (z : Int)
    (hv : (¬ Plc code (lensV t) ∧ v = 0 ∧ z = 101) ∨ (Plc code (lensV t) ∧ estTo t code code.length < 340282366920938463463374607431768211456 ∧ v = estTo t code code.length ∧ z = 0) ∨ (Plc code (lensV t) ∧ 340282366920938463463374607431768211456 ≤ estTo t code code.length ∧ v = 0 ∧ z = 10)) :
    Calls Try.prog 25 #[tv, cv] w fun e w' => e = .returned (.tuple #[Wd v, .int .i64 z]) ∧ Gb w w' := by
  have G0 : Gr w (w.alloc (.cells #[.int .u64 0, .int .u64 0] 51)) := (Gr.refl _).alloc _ _
  have HX : Hid (RdT w tv t ∧ RdI w cv code ∧ TabOk t) := ⟨ht, hc, hok⟩
  have HV : Hid ((¬ Plc code (lensV t) ∧ v = 0 ∧ z = 101) ∨ (Plc code (lensV t) ∧ estTo t code code.length < 340282366920938463463374607431768211456 ∧ v = estTo t code code.length ∧ z = 0) ∨ (Plc code (lensV t) ∧ 340282366920938463463374607431768211456 ≤ estTo t code code.length ∧ v = 0 ∧ z = 10)) := hv
  obtain ⟨ca, cc, rfl, _⟩ := hc
  obtain ⟨ta, tc, rfl, _⟩ := ht
  clear hv hok
  by_cases he : t.length = code.length
  · obtain ⟨n, hN⟩ : ∃ n, n = code.length := ⟨_, rfl⟩
    have N : Hid (n = code.length ∧ n = t.length) := ⟨hN, by omega⟩
    rw [he, ← hN] at HX
    rw [← hN] at hlen HV
    rw [he, ← hN]
    obtain ⟨W0, hW0⟩ : ∃ W0, W0 = w.alloc (.cells #[.int .u64 0, .int .u64 0] 51) := ⟨_, rfl⟩
    have S0 : Hid (Gb w W0 ∧ At2 W0 w.heap.size 0) := by unfold Hid; rw [hW0]; exact ⟨G0.gb, At2.new w 0 _⟩
    clear he hN G0
    go_enter Try.func25, Try.ntmps25
    go_wp2_with fail
    rw [← hW0]
    clear hW0
    go_loopw [6] (fun iv W => ∃ q : Nat, iv = .int .i64 (q : Int) ∧ q ≤ n ∧ Hid ((Gb w W ∧ At2 W w.heap.size 0) ∧ ∀ i, i < q → 0 ≤ code[i]! ∧ code[i]! < ((lensV t)[i]! : Int))) (fun iv _ => n - (intOf iv).toNat)
    case atStart => exact ⟨0, rfl, Nat.zero_le _, S0.out, fun i hi => absurd hi (Nat.not_lt_zero _)⟩
    case round =>
      clear S0
      obtain ⟨q, rfl, hq, X⟩ := hrel
      by_cases hqn : q < n
      · have hqi : (q : Int) < (n : Int) := by omega
        have hqc : q < code.length := by have := N.out; omega
        have hqt : q < t.length := by have := N.out; omega
        obtain ⟨_, _, e1, h1⟩ := HX.out.2.1
        obtain ⟨cb, co, ea, k1⟩ := h1 q hqc
        injection e1 with e11 e12 e13
        subst e11 ea
        obtain ⟨_, _, e2, h2⟩ := HX.out.1
        obtain ⟨tb, to, ut, eb, k2, k3⟩ := h2 q hqt
        injection e2 with e21 e22 e23
        subst e21 eb
        obtain ⟨pu, cu, eu, _⟩ := k3
        subst eu
        have gW := X.out.1.1
        have c1 := gb_keeps gW k1
        have c2 := gb_keeps gW k2
        have NX : Hid ((0 ≤ code[q]! ∧ code[q]! < (t[q]!.length : Int)) → ∀ i, i < q + 1 → 0 ≤ code[i]! ∧ code[i]! < ((lensV t)[i]! : Int)) := fun h i hi => by
          by_cases e : i = q
          · rw [e, lensV_get t hqt]; exact h
          · exact X.out.2 i (by omega)
        have NO : Hid (¬ (0 ≤ code[q]! ∧ code[q]! < (t[q]!.length : Int)) → v = 0 ∧ z = 101) := fun h => by
          have hn : ¬ Plc code (lensV t) := fun hp => h (by have := hp.2 q hqc; rwa [lensV_get t hqt] at this)
          rcases HV.out with h' | h' | h'
          · exact h'.2
          · exact absurd h'.1 hn
          · exact absurd h'.1 hn
        have GX : Hid (Gb w wr ∧ At2 wr w.heap.size 0) := X.out.1
        generalize code[q]! = y at *
        generalize t[q]!.length = z' at *
        clear h1 h2 e12 e13 e22 e23 X gW k1 k2
        by_cases hy : y < 0
        · have VZ : Hid (v = 0 ∧ z = 101) := NO.out (by omega)
          have hd : decide (y < 0) = true := by rw [decide_eq_true_eq]; exact hy
          clear NO NX
          go_wp2
          go_quiet (fail)
          have A : At2 wr w.heap.size 0 := GX.out.2
          have GF : Hid (Gb w (wr.drewN nq)) := gb_trans GX.out.1 (below_drewN (Below.refl _ _) _)
          obtain ⟨r1, r2, r3, r4⟩ := A
          clear c1 c2
          go_wp2
          exact bodyPost_ret (v := .tuple #[Wd 0, .int .i64 101]) (by simp [results, Try.results25, go_sem, hi, lo, r1, r2]) rfl ⟨by rw [VZ.out.1, VZ.out.2], by repeat (first | exact GF.out | refine gb_set ?_ (by simp) _)⟩
        · have hd : decide (y < 0) = false := by rw [decide_eq_false_iff_not]; exact hy
          by_cases hz : (z' : Int) ≤ y
          · have VZ : Hid (v = 0 ∧ z = 101) := NO.out (by omega)
            have hd2 : decide ((z' : Int) ≤ y) = true := by rw [decide_eq_true_eq]; exact hz
            clear NO NX
            go_wp2
            go_quiet (fail)
            have A : At2 wr w.heap.size 0 := GX.out.2
            have GF : Hid (Gb w (wr.drewN nq)) := gb_trans GX.out.1 (below_drewN (Below.refl _ _) _)
            obtain ⟨r1, r2, r3, r4⟩ := A
            clear c1 c2
            go_wp2
            exact bodyPost_ret (v := .tuple #[Wd 0, .int .i64 101]) (by simp [results, Try.results25, go_sem, hi, lo, r1, r2]) rfl ⟨by rw [VZ.out.1, VZ.out.2], by repeat (first | exact GF.out | refine gb_set ?_ (by simp) _)⟩
          · have hd2 : decide ((z' : Int) ≤ y) = false := by rw [decide_eq_false_iff_not]; exact hz
            have FF : Hid _ := NX.out (by omega)
            clear NO NX
            go_wp2
            go_quiet (fail)
            have XN : Hid (Gb w (wr.drewN nq) ∧ At2 (wr.drewN nq) w.heap.size 0) := ⟨gb_trans GX.out.1 (below_drewN (Below.refl _ _) _), At2.gr GX.out.2 ((Gr.refl wr).drewN nq)⟩
            clear c1 c2
            go_wp2
            go_roundw
            case rel => exact ⟨q + 1, by first | rfl | go_num | simp, hqn, XN.out, FF.out⟩
            case measure => simp [intOf]; omega
      · have hqi : ¬ (q : Int) < (n : Int) := by omega
        have PC : Hid (Plc code (lensV t)) := ⟨by rw [lensV_len]; have := N.out; omega, fun i hi => X.out.2 i (by have := N.out; omega)⟩
        have HV2 : Hid ((estTo t code n < 340282366920938463463374607431768211456 ∧ v = estTo t code n ∧ z = 0) ∨ (340282366920938463463374607431768211456 ≤ estTo t code n ∧ v = 0 ∧ z = 10)) := by
          rcases HV.out with h | h | h
          · exact absurd PC.out h.1
          · exact .inl h.2
          · exact .inr h.2
        obtain ⟨W1, hW1⟩ : ∃ W1, W1 = wr.alloc (.cells #[.int .u64 0, .int .u64 0] 51) := ⟨_, rfl⟩
        obtain ⟨sb, hsb⟩ : ∃ sb, sb = wr.heap.size := ⟨_, rfl⟩
        have S1 : Hid (ReS w W1 sb (estTo t code 0)) := by
          unfold Hid
          rw [hW1, hsb]
          exact ⟨gb_alloc X.out.1.1 _, X.out.1.2.gr ((Gr.refl _).alloc _ _), At2.new wr 0 _, cell_lt X.out.1.2.c0⟩
        have SZ : Hid (w.heap.size < sb ∧ sb < W1.heap.size) := by
          unfold Hid
          rw [hW1, hsb, World.size_alloc]
          exact ⟨cell_lt X.out.1.2.c0, Nat.lt_succ_self _⟩
        clear X HV
        go_wp2_with fail
        rw [← hW1, ← hsb]
        clear hW1 hsb
        clear hqi hq
        go_loopw [8] (fun iv W => ∃ q : Nat, iv = .int .i64 (q : Int) ∧ q ≤ n ∧ Hid (ReS w W sb (estTo t code q) ∧ estTo t code q < 340282366920938463463374607431768211456)) (fun iv _ => n - (intOf iv).toNat)
        case atStart => exact ⟨0, rfl, Nat.zero_le _, S1.out, by simp [estTo]⟩
        case round =>
          clear S1
          obtain ⟨q, rfl, hq, X⟩ := hrel
          by_cases hqn : q < n
          · have hqi : (q : Int) < (n : Int) := by omega
            have hqc : q < code.length := by have := N.out; omega
            have hqt : q < t.length := by have := N.out; omega
            obtain ⟨_, _, e1, h1⟩ := HX.out.2.1
            obtain ⟨cb, co, ea, k1⟩ := h1 q hqc
            injection e1 with e11 e12 e13
            subst e11 ea
            obtain ⟨_, _, e2, h2⟩ := HX.out.1
            obtain ⟨tb, to, ut, eb, k2, k3⟩ := h2 q hqt
            injection e2 with e21 e22 e23
            subst e21 eb
            have PL := PC.out.2 q hqc
            rw [lensV_get t hqt] at PL
            obtain ⟨pl, hpl⟩ : ∃ pl : Nat, code[q]! = (pl : Int) := ⟨code[q]!.toNat, by omega⟩
            rw [hpl] at PL k1
            have hpz : pl < t[q]!.length := by omega
            have EN : Hid (estTo t code (q + 1) = estTo t code q + t[q]![pl]! ∧ t[q]![pl]! < 340282366920938463463374607431768211456) := ⟨by rw [estTo, hpl, Int.toNat_natCast], HX.out.2.2 q hqt pl hpz⟩
            have EM : Hid (estTo t code (q + 1) ≤ estTo t code n) := estTo_mono t code (by omega)
            obtain ⟨pu, cu, eu, h3⟩ := k3
            subst eu
            obtain ⟨b3, o3, ea, k4, k5⟩ := h3 pl hpz
            subst ea
            have gW := X.out.1.gb
            have c1 := gb_keeps gW k1
            obtain ⟨x0, x1, _, _⟩ := X.out.1.sum
            have FS : wr.drew.cell? ⟨tb, to + q, none⟩ = some (.slice (some ⟨b3, o3, none⟩) t[q]!.length cu) ∧ wr.drew.cell? ⟨b3, o3 + pl * 2, none⟩ = some (.int .u64 (hi t[q]![pl]!)) ∧ wr.drew.cell? ⟨b3, o3 + pl * 2 + 1, none⟩ = some (.int .u64 (lo t[q]![pl]!)) ∧ wr.drew.cell? ⟨cb, co + q, none⟩ = some (.int .i64 (pl : Int)) ∧ wr.drew.cell? ⟨sb, 0, none⟩ = some (.int .u64 (hi (estTo t code q))) ∧ wr.drew.cell? ⟨sb, 1, none⟩ = some (.int .u64 (lo (estTo t code q))) := ⟨gb_keeps gW k2, gb_keeps gW k4, gb_keeps gW k5, c1, x0, x1⟩
            have hlt0 : tb < wr.heap.size := cell_lt (gb_keeps gW k2)
            have hlt1 : b3 < wr.heap.size := cell_lt (gb_keeps gW k4)
            have hlt2 : cb < wr.heap.size := cell_lt c1
            have hlt3 : sb < wr.heap.size := cell_lt x0
            have SB : Hid (w.heap.size < sb ∧ sb < wr.heap.size) := ⟨X.out.1.lt, hlt3⟩
            have A1 : Hid (At2 wr.drew sb (estTo t code q)) := ⟨X.out.1.sum.c0, X.out.1.sum.c1, X.out.1.sum.f0, X.out.1.sum.f1⟩
            have A0 : Hid (At2 wr.drew w.heap.size 0) := ⟨X.out.1.res.c0, X.out.1.res.c1, X.out.1.res.f0, X.out.1.res.f1⟩
            have GD : Hid (Gb w wr.drew) := gW.drew
            have LT : Hid (estTo t code q < 340282366920938463463374607431768211456) := X.out.2
            have hpi : (pl : Int) < ((t[q]!.length : Nat) : Int) := by omega
            generalize t[q]![pl]! = y at *
            generalize t[q]!.length = z' at *
            generalize estTo t code q = sq at *
            obtain ⟨sq1, hsq1⟩ : ∃ z, z = estTo t code (q + 1) := ⟨_, rfl⟩
            have SQ : Hid (sq1 = estTo t code (q + 1)) := hsq1
            rw [← hsq1] at EN EM
            clear hsq1
            clear h1 h2 h3 e12 e13 e22 e23 k1 k2 k4 k5 X gW PL hpl hpz hqc hqt
            by_cases ho : sq + y < 340282366920938463463374607431768211456
            · have ca := fun W => radd_ok sq y ho W
              go_wp2_with fail
              refine wp_region_held_drew (S := fun W => W.cell? ⟨tb, to + q, none⟩ = some (.slice (some ⟨b3, o3, none⟩) z' cu) ∧ W.cell? ⟨b3, o3 + pl * 2, none⟩ = some (.int .u64 (hi y)) ∧ W.cell? ⟨b3, o3 + pl * 2 + 1, none⟩ = some (.int .u64 (lo y)) ∧ W.cell? ⟨cb, co + q, none⟩ = some (.int .i64 (pl : Int)) ∧ W.cell? ⟨sb, 0, none⟩ = some (.int .u64 (hi sq)) ∧ W.cell? ⟨sb, 1, none⟩ = some (.int .u64 (lo sq))) (by kernel_rfl) (FS) (fun hHeld => ?_)
              refine wpAnyH_take (i := 0) (v := ?_) rfl (by kernel_rfl) (by kernel_rfl) (by kernel_rfl) (fun _ _ _ h => h) (Or.inl ⟨by rfl, ?_⟩) (by assumption) ?_
              rotate_left 1
              · (intro w hSw; (obtain ⟨s0, s1, s2, s3, s4, s5⟩ := hSw); go_simp; try with_reducible rfl)
              try simp only [Act.put, List.getElem_toArray, List.getElem_cons_zero, List.setIfInBounds_toArray, List.set_cons_zero, List.set_cons_succ]
              refine wpAnyH_take (i := 1) (v := ?_) rfl (by kernel_rfl) (by kernel_rfl) (by kernel_rfl) (fun _ _ _ h => h) (Or.inl ⟨by rfl, ?_⟩) (by assumption) ?_
              rotate_left 1
              · (intro w hSw; (obtain ⟨s0, s1, s2, s3, s4, s5⟩ := hSw); go_simp; try with_reducible rfl)
              try simp only [Act.put, List.getElem_toArray, List.getElem_cons_zero, List.getElem_cons_succ, List.setIfInBounds_toArray, List.set_cons_zero, List.set_cons_succ]
              refine wpAnyH_take (i := 2) (v := ?_) rfl (by kernel_rfl) (by kernel_rfl) (by kernel_rfl) (fun _ _ _ h => h) (Or.inl ⟨by rfl, ?_⟩) (by assumption) ?_
              rotate_left 1
              · (intro w hSw; (obtain ⟨s0, s1, s2, s3, s4, s5⟩ := hSw); go_simp; try with_reducible rfl)
              try simp only [Act.put, List.getElem_toArray, List.getElem_cons_zero, List.getElem_cons_succ, List.setIfInBounds_toArray, List.set_cons_zero, List.set_cons_succ]
              refine wpAnyH_take (i := 3) (v := ?_) rfl (by kernel_rfl) (by kernel_rfl) (by kernel_rfl) (fun _ _ _ h => h) (Or.inl ⟨by rfl, ?_⟩) (by assumption) ?_
              rotate_left 1
              · (intro w hSw; (obtain ⟨s0, s1, s2, s3, s4, s5⟩ := hSw); go_simp; try with_reducible rfl)
              try simp only [Act.put, List.getElem_toArray, List.getElem_cons_zero, List.getElem_cons_succ, List.setIfInBounds_toArray, List.set_cons_zero, List.set_cons_succ]
              refine wpAnyH_take (i := 4) (v := ?_) rfl (by kernel_rfl) (by kernel_rfl) (by kernel_rfl) (fun _ _ _ h => h) (Or.inl ⟨by rfl, ?_⟩) (by assumption) ?_
              rotate_left 1
              · (intro w hSw; (obtain ⟨s0, s1, s2, s3, s4, s5⟩ := hSw); go_simp; try with_reducible rfl)
              try simp only [Act.put, List.getElem_toArray, List.getElem_cons_zero, List.getElem_cons_succ, List.setIfInBounds_toArray, List.set_cons_zero, List.set_cons_succ]
              refine wpAnyH_take (i := 5) (v := ?_) rfl (by kernel_rfl) (by kernel_rfl) (by kernel_rfl) (fun _ _ _ h => h) (Or.inl ⟨by rfl, ?_⟩) (by assumption) ?_
              rotate_left 1
              · (intro w hSw; (obtain ⟨s0, s1, s2, s3, s4, s5⟩ := hSw); go_simp; try with_reducible rfl)
              try simp only [Act.put, List.getElem_toArray, List.getElem_cons_zero, List.getElem_cons_succ, List.setIfInBounds_toArray, List.set_cons_zero, List.set_cons_succ]
              refine wpAnyH_take (i := 6) (v := ?_) rfl (by kernel_rfl) (by kernel_rfl) (by kernel_rfl) (fun _ _ _ h => h) (Or.inl ⟨by rfl, ?_⟩) (by assumption) ?_
              rotate_left 1
              · (intro w hSw; (obtain ⟨s0, s1, s2, s3, s4, s5⟩ := hSw); go_simp; try with_reducible rfl)
              try simp only [Act.put, List.getElem_toArray, List.getElem_cons_zero, List.getElem_cons_succ, List.setIfInBounds_toArray, List.set_cons_zero, List.set_cons_succ]
              refine wpAnyH_take (i := 7) (v := ?_) rfl (by kernel_rfl) (by kernel_rfl) (by kernel_rfl) (fun _ _ _ h => h) (Or.inl ⟨by rfl, ?_⟩) (by assumption) ?_
              rotate_left 1
              · (intro w hSw; (obtain ⟨s0, s1, s2, s3, s4, s5⟩ := hSw); go_simp; try with_reducible rfl)
              try simp only [Act.put, List.getElem_toArray, List.getElem_cons_zero, List.getElem_cons_succ, List.setIfInBounds_toArray, List.set_cons_zero, List.set_cons_succ]
              refine wpAnyH_take (i := 8) (v := ?_) rfl (by kernel_rfl) (by kernel_rfl) (by kernel_rfl) (fun _ _ _ h => h) (Or.inl ⟨by rfl, ?_⟩) (by assumption) ?_
              rotate_left 1
              · (intro w hSw; (obtain ⟨s0, s1, s2, s3, s4, s5⟩ := hSw); go_simp; try with_reducible rfl)
              try simp only [Act.put, List.getElem_toArray, List.getElem_cons_zero, List.getElem_cons_succ, List.setIfInBounds_toArray, List.set_cons_zero, List.set_cons_succ]
              refine wpAnyH_take (i := 9) (v := ?_) rfl (by kernel_rfl) (by kernel_rfl) (by kernel_rfl) (fun _ _ _ h => h) (Or.inl ⟨by rfl, ?_⟩) (by assumption) ?_
              rotate_left 1
              · (intro w hSw; (obtain ⟨s0, s1, s2, s3, s4, s5⟩ := hSw); go_simp; try with_reducible rfl)
              try simp only [Act.put, List.getElem_toArray, List.getElem_cons_zero, List.getElem_cons_succ, List.setIfInBounds_toArray, List.set_cons_zero, List.set_cons_succ]
              refine wpAnyH_take (i := 10) (v := ?_) rfl (by kernel_rfl) (by kernel_rfl) (by kernel_rfl) (fun _ _ _ h => h) (Or.inl ⟨by rfl, ?_⟩) (by assumption) ?_
              rotate_left 1
              · (intro w hSw; (obtain ⟨s0, s1, s2, s3, s4, s5⟩ := hSw); go_simp; try with_reducible rfl)
              try simp only [Act.put, List.getElem_toArray, List.getElem_cons_zero, List.getElem_cons_succ, List.setIfInBounds_toArray, List.set_cons_zero, List.set_cons_succ]
              refine wpAnyH_ready (rs := [11, 15]) (by kernel_rfl) (by simp) ?_
              refine AllReadyH.cons rfl (fun K hK => ?_) (AllReadyH.cons rfl (fun K hK => ?_) AllReadyH.nil)
              · go_simp
                go_fit (ca wr.drew)
                rintro e w2 ⟨rfl, gk⟩
                refine hK.out _ _ (⟨gk.keeps hHeld.1, gk.keeps hHeld.2.1, gk.keeps hHeld.2.2.1, gk.keeps hHeld.2.2.2.1, gk.keeps hHeld.2.2.2.2.1, gk.keeps hHeld.2.2.2.2.2⟩) (fun hHeld => ?_)
                clear hK K
                try simp only [Act.put, List.getElem_toArray, List.getElem_cons_zero, List.getElem_cons_succ, List.setIfInBounds_toArray, List.set_cons_zero, List.set_cons_succ]
                refine wpAnyH_take (i := 12) (v := ?_) rfl (by kernel_rfl) (by kernel_rfl) (by kernel_rfl) (fun _ _ _ h => h) (Or.inl ⟨by rfl, ?_⟩) (by assumption) ?_
                rotate_left 1
                · (intro w hSw; (obtain ⟨s0, s1, s2, s3, s4, s5⟩ := hSw); go_simp; try with_reducible rfl)
                try simp only [Act.put, List.getElem_toArray, List.getElem_cons_zero, List.getElem_cons_succ, List.setIfInBounds_toArray, List.set_cons_zero, List.set_cons_succ]
                refine wpAnyH_take (i := 13) (v := ?_) rfl (by kernel_rfl) (by kernel_rfl) (by kernel_rfl) (fun _ _ _ h => h) (Or.inl ⟨by rfl, ?_⟩) (by assumption) ?_
                rotate_left 1
                · (intro w hSw; (obtain ⟨s0, s1, s2, s3, s4, s5⟩ := hSw); go_simp; try with_reducible rfl)
                try simp only [Act.put, List.getElem_toArray, List.getElem_cons_zero, List.getElem_cons_succ, List.setIfInBounds_toArray, List.set_cons_zero, List.set_cons_succ]
                refine wpAnyH_take (i := 14) (v := ?_) rfl (by kernel_rfl) (by kernel_rfl) (by kernel_rfl) (fun _ _ _ h => h) (Or.inl ⟨by rfl, ?_⟩) (by assumption) ?_
                rotate_left 1
                · (intro w hSw; (obtain ⟨s0, s1, s2, s3, s4, s5⟩ := hSw); go_simp; try with_reducible rfl)
                try simp only [Act.put, List.getElem_toArray, List.getElem_cons_zero, List.getElem_cons_succ, List.setIfInBounds_toArray, List.set_cons_zero, List.set_cons_succ]
                have HW := hHeld
                refine wpAnyH_ready (rs := [15]) (by kernel_rfl) (by simp) ?_
                refine AllReadyH.cons rfl (fun K hK => ?_) AllReadyH.nil
                go_simp
                refine hK.out _ _ (⟨alloc_keeps hHeld.1 _, alloc_keeps hHeld.2.1 _, alloc_keeps hHeld.2.2.1 _, alloc_keeps hHeld.2.2.2.1 _, alloc_keeps hHeld.2.2.2.2.1 _, alloc_keeps hHeld.2.2.2.2.2 _⟩) (fun hHeld => ?_)
                clear hK K
                try simp only [Act.put, List.getElem_toArray, List.getElem_cons_zero, List.getElem_cons_succ, List.setIfInBounds_toArray, List.set_cons_zero, List.set_cons_succ]
                refine wpAnyH_ready (rs := [16]) (by kernel_rfl) (by simp) ?_
                refine AllReadyH.cons rfl (fun K hK => ?_) AllReadyH.nil
                go_simp
                refine hK.out _ _ (⟨alloc_keeps HW.1 _, alloc_keeps HW.2.1 _, alloc_keeps HW.2.2.1 _, alloc_keeps HW.2.2.2.1 _, alloc_keeps HW.2.2.2.2.1 _, alloc_keeps HW.2.2.2.2.2 _⟩) (fun hHeld => ?_)
                clear hK K
                try simp only [Act.put, List.getElem_toArray, List.getElem_cons_zero, List.getElem_cons_succ, List.setIfInBounds_toArray, List.set_cons_zero, List.set_cons_succ]
                refine wpAnyH_take (i := 17) (v := ?_) rfl (by kernel_rfl) (by kernel_rfl) (by kernel_rfl) (fun _ _ _ h => h) (Or.inl ⟨by rfl, ?_⟩) (by assumption) ?_
                rotate_left 1
                · (intro w hSw; (obtain ⟨s0, s1, s2, s3, s4, s5⟩ := hSw); go_simp; try with_reducible rfl)
                try simp only [Act.put, List.getElem_toArray, List.getElem_cons_zero, List.getElem_cons_succ, List.setIfInBounds_toArray, List.set_cons_zero, List.set_cons_succ]
                refine wpAnyH_done (by kernel_rfl) ?_ _
                clear HW
                have hsb := SB.out
                have nsb : w2.heap.size ≠ sb := Nat.ne_of_gt (Nat.lt_of_lt_of_le hsb.2 gk.size)
                have nrs : w2.heap.size ≠ w.heap.size := Nat.ne_of_gt (Nat.lt_trans hsb.1 (Nat.lt_of_lt_of_le hsb.2 gk.size))
                have gA : Gr wr.drew (w2.alloc (.cells #[.int .u64 (hi (sq + y)), .int .u64 (lo (sq + y))] 51)) := gk.trans ((Gr.refl _).alloc _ _)
                have M : At2 (w2.alloc (.cells #[.int .u64 (hi (sq + y)), .int .u64 (lo (sq + y))] 51)) w2.heap.size (sq + y) := At2.new w2 (sq + y) _
                have A1' := A1.out.gr gA
                have A0' := A0.out.gr gA
                have GG : Hid (Gb w (w2.alloc (.cells #[.int .u64 (hi (sq + y)), .int .u64 (lo (sq + y))] 51))) := gb_trans GD.out gA.gb
                have SN : Hid _ := ReS.next GG.out A0' A1' hsb.1 (sq + y)
                obtain ⟨_, _, f0, f1⟩ := A1'
                obtain ⟨m0, m1, _, _⟩ := M
                clear hHeld gk FS x0 x1 c1 gA A0' GG
                go_wp2
                go_roundw
                case rel => exact ⟨q + 1, by first | rfl | go_num | simp, hqn, by rw [← SQ.out, EN.out.1]; exact ⟨SN.out, ho⟩⟩
                case measure => simp [intOf]; omega
              · go_simp
                refine hK.out _ _ (⟨alloc_keeps hHeld.1 _, alloc_keeps hHeld.2.1 _, alloc_keeps hHeld.2.2.1 _, alloc_keeps hHeld.2.2.2.1 _, alloc_keeps hHeld.2.2.2.2.1 _, alloc_keeps hHeld.2.2.2.2.2 _⟩) (fun hHeld => ?_)
                clear hK K
                try simp only [Act.put, List.getElem_toArray, List.getElem_cons_zero, List.getElem_cons_succ, List.setIfInBounds_toArray, List.set_cons_zero, List.set_cons_succ]
                refine wpAnyH_ready (rs := [11]) (by kernel_rfl) (by simp) ?_
                refine AllReadyH.cons rfl (fun K hK => ?_) AllReadyH.nil
                go_simp
                go_fit (ca _)
                rintro e w2 ⟨rfl, gk⟩
                refine hK.out _ _ (⟨gk.keeps hHeld.1, gk.keeps hHeld.2.1, gk.keeps hHeld.2.2.1, gk.keeps hHeld.2.2.2.1, gk.keeps hHeld.2.2.2.2.1, gk.keeps hHeld.2.2.2.2.2⟩) (fun hHeld => ?_)
                clear hK K
                try simp only [Act.put, List.getElem_toArray, List.getElem_cons_zero, List.getElem_cons_succ, List.setIfInBounds_toArray, List.set_cons_zero, List.set_cons_succ]
                refine wpAnyH_take (i := 12) (v := ?_) rfl (by kernel_rfl) (by kernel_rfl) (by kernel_rfl) (fun _ _ _ h => h) (Or.inl ⟨by rfl, ?_⟩) (by assumption) ?_
                rotate_left 1
                · (intro w hSw; (obtain ⟨s0, s1, s2, s3, s4, s5⟩ := hSw); go_simp; try with_reducible rfl)
                try simp only [Act.put, List.getElem_toArray, List.getElem_cons_zero, List.getElem_cons_succ, List.setIfInBounds_toArray, List.set_cons_zero, List.set_cons_succ]
                refine wpAnyH_take (i := 13) (v := ?_) rfl (by kernel_rfl) (by kernel_rfl) (by kernel_rfl) (fun _ _ _ h => h) (Or.inl ⟨by rfl, ?_⟩) (by assumption) ?_
                rotate_left 1
                · (intro w hSw; (obtain ⟨s0, s1, s2, s3, s4, s5⟩ := hSw); go_simp; try with_reducible rfl)
                try simp only [Act.put, List.getElem_toArray, List.getElem_cons_zero, List.getElem_cons_succ, List.setIfInBounds_toArray, List.set_cons_zero, List.set_cons_succ]
                refine wpAnyH_take (i := 14) (v := ?_) rfl (by kernel_rfl) (by kernel_rfl) (by kernel_rfl) (fun _ _ _ h => h) (Or.inl ⟨by rfl, ?_⟩) (by assumption) ?_
                rotate_left 1
                · (intro w hSw; (obtain ⟨s0, s1, s2, s3, s4, s5⟩ := hSw); go_simp; try with_reducible rfl)
                try simp only [Act.put, List.getElem_toArray, List.getElem_cons_zero, List.getElem_cons_succ, List.setIfInBounds_toArray, List.set_cons_zero, List.set_cons_succ]
                obtain ⟨n0, n1, n2, n3⟩ : At2 w2 wr.heap.size 0 := (At2.new wr.drew 0 _).gr gk
                refine wpAnyH_ready (rs := [16]) (by kernel_rfl) (by simp) ?_
                refine AllReadyH.cons rfl (fun K hK => ?_) AllReadyH.nil
                go_simp
                refine hK.out _ _ (⟨set_far (Nat.ne_of_gt (by assumption)) (set_far (Nat.ne_of_gt (by assumption)) hHeld.1), set_far (Nat.ne_of_gt (by assumption)) (set_far (Nat.ne_of_gt (by assumption)) hHeld.2.1), set_far (Nat.ne_of_gt (by assumption)) (set_far (Nat.ne_of_gt (by assumption)) hHeld.2.2.1), set_far (Nat.ne_of_gt (by assumption)) (set_far (Nat.ne_of_gt (by assumption)) hHeld.2.2.2.1), set_far (Nat.ne_of_gt (by assumption)) (set_far (Nat.ne_of_gt (by assumption)) hHeld.2.2.2.2.1), set_far (Nat.ne_of_gt (by assumption)) (set_far (Nat.ne_of_gt (by assumption)) hHeld.2.2.2.2.2)⟩) (fun hHeld => ?_)
                clear hK K
                try simp only [Act.put, List.getElem_toArray, List.getElem_cons_zero, List.getElem_cons_succ, List.setIfInBounds_toArray, List.set_cons_zero, List.set_cons_succ]
                refine wpAnyH_take (i := 17) (v := ?_) rfl (by kernel_rfl) (by kernel_rfl) (by kernel_rfl) (fun _ _ _ h => h) (Or.inl ⟨by rfl, ?_⟩) (by assumption) ?_
                rotate_left 1
                · (intro w hSw; (obtain ⟨s0, s1, s2, s3, s4, s5⟩ := hSw); go_simp; try with_reducible rfl)
                try simp only [Act.put, List.getElem_toArray, List.getElem_cons_zero, List.getElem_cons_succ, List.setIfInBounds_toArray, List.set_cons_zero, List.set_cons_succ]
                refine wpAnyH_done (by kernel_rfl) ?_ _
                have hsb := SB.out
                have nsb : wr.heap.size ≠ sb := Nat.ne_of_gt (hsb.2)
                have nrs : wr.heap.size ≠ w.heap.size := Nat.ne_of_gt (Nat.lt_trans hsb.1 (hsb.2))
                have gA : Gr wr.drew w2 := ((Gr.refl _).alloc _ _).trans gk
                have M : At2 ((w2.setCell ⟨wr.heap.size, 0, none⟩ (.int .u64 (hi (sq + y)))).setCell ⟨wr.heap.size, 1, none⟩ (.int .u64 (lo (sq + y)))) wr.heap.size (sq + y) := At2.set ((At2.new wr.drew 0 _).gr gk) (sq + y)
                have A1' := (A1.out.gr gA).far2 nsb (.int .u64 (hi (sq + y))) (.int .u64 (lo (sq + y)))
                have A0' := (A0.out.gr gA).far2 nrs (.int .u64 (hi (sq + y))) (.int .u64 (lo (sq + y)))
                have GG : Hid (Gb w ((w2.setCell ⟨wr.heap.size, 0, none⟩ (.int .u64 (hi (sq + y)))).setCell ⟨wr.heap.size, 1, none⟩ (.int .u64 (lo (sq + y))))) := gb_set (gb_set (gb_trans GD.out gA.gb) GD.out.size _) GD.out.size _
                have SN : Hid _ := ReS.next GG.out A0' A1' hsb.1 (sq + y)
                obtain ⟨_, _, f0, f1⟩ := A1'
                obtain ⟨m0, m1, _, _⟩ := M
                clear hHeld gk FS x0 x1 c1 gA A0' GG
                go_wp2
                go_roundw
                case rel => exact ⟨q + 1, by first | rfl | go_num | simp, hqn, by rw [← SQ.out, EN.out.1]; exact ⟨SN.out, ho⟩⟩
                case measure => simp [intOf]; omega
            · have ca := fun W => radd_no sq y LT.out EN.out.2 (by omega) W
              have VZ : Hid (v = 0 ∧ z = 10) := by
                rcases HV2.out with h | h
                · have := EN.out.1; have := EM.out; omega
                · exact h.2
              go_wp2_with fail
              refine wp_region_held_drew (S := fun W => W.cell? ⟨tb, to + q, none⟩ = some (.slice (some ⟨b3, o3, none⟩) z' cu) ∧ W.cell? ⟨b3, o3 + pl * 2, none⟩ = some (.int .u64 (hi y)) ∧ W.cell? ⟨b3, o3 + pl * 2 + 1, none⟩ = some (.int .u64 (lo y)) ∧ W.cell? ⟨cb, co + q, none⟩ = some (.int .i64 (pl : Int)) ∧ W.cell? ⟨sb, 0, none⟩ = some (.int .u64 (hi sq)) ∧ W.cell? ⟨sb, 1, none⟩ = some (.int .u64 (lo sq))) (by kernel_rfl) (FS) (fun hHeld => ?_)
              refine wpAnyH_take (i := 0) (v := ?_) rfl (by kernel_rfl) (by kernel_rfl) (by kernel_rfl) (fun _ _ _ h => h) (Or.inl ⟨by rfl, ?_⟩) (by assumption) ?_
              rotate_left 1
              · (intro w hSw; (obtain ⟨s0, s1, s2, s3, s4, s5⟩ := hSw); go_simp; try with_reducible rfl)
              try simp only [Act.put, List.getElem_toArray, List.getElem_cons_zero, List.setIfInBounds_toArray, List.set_cons_zero, List.set_cons_succ]
              refine wpAnyH_take (i := 1) (v := ?_) rfl (by kernel_rfl) (by kernel_rfl) (by kernel_rfl) (fun _ _ _ h => h) (Or.inl ⟨by rfl, ?_⟩) (by assumption) ?_
              rotate_left 1
              · (intro w hSw; (obtain ⟨s0, s1, s2, s3, s4, s5⟩ := hSw); go_simp; try with_reducible rfl)
              try simp only [Act.put, List.getElem_toArray, List.getElem_cons_zero, List.getElem_cons_succ, List.setIfInBounds_toArray, List.set_cons_zero, List.set_cons_succ]
              refine wpAnyH_take (i := 2) (v := ?_) rfl (by kernel_rfl) (by kernel_rfl) (by kernel_rfl) (fun _ _ _ h => h) (Or.inl ⟨by rfl, ?_⟩) (by assumption) ?_
              rotate_left 1
              · (intro w hSw; (obtain ⟨s0, s1, s2, s3, s4, s5⟩ := hSw); go_simp; try with_reducible rfl)
              try simp only [Act.put, List.getElem_toArray, List.getElem_cons_zero, List.getElem_cons_succ, List.setIfInBounds_toArray, List.set_cons_zero, List.set_cons_succ]
              refine wpAnyH_take (i := 3) (v := ?_) rfl (by kernel_rfl) (by kernel_rfl) (by kernel_rfl) (fun _ _ _ h => h) (Or.inl ⟨by rfl, ?_⟩) (by assumption) ?_
              rotate_left 1
              · (intro w hSw; (obtain ⟨s0, s1, s2, s3, s4, s5⟩ := hSw); go_simp; try with_reducible rfl)
              try simp only [Act.put, List.getElem_toArray, List.getElem_cons_zero, List.getElem_cons_succ, List.setIfInBounds_toArray, List.set_cons_zero, List.set_cons_succ]
              refine wpAnyH_take (i := 4) (v := ?_) rfl (by kernel_rfl) (by kernel_rfl) (by kernel_rfl) (fun _ _ _ h => h) (Or.inl ⟨by rfl, ?_⟩) (by assumption) ?_
              rotate_left 1
              · (intro w hSw; (obtain ⟨s0, s1, s2, s3, s4, s5⟩ := hSw); go_simp; try with_reducible rfl)
              try simp only [Act.put, List.getElem_toArray, List.getElem_cons_zero, List.getElem_cons_succ, List.setIfInBounds_toArray, List.set_cons_zero, List.set_cons_succ]
              refine wpAnyH_take (i := 5) (v := ?_) rfl (by kernel_rfl) (by kernel_rfl) (by kernel_rfl) (fun _ _ _ h => h) (Or.inl ⟨by rfl, ?_⟩) (by assumption) ?_
              rotate_left 1
              · (intro w hSw; (obtain ⟨s0, s1, s2, s3, s4, s5⟩ := hSw); go_simp; try with_reducible rfl)
              try simp only [Act.put, List.getElem_toArray, List.getElem_cons_zero, List.getElem_cons_succ, List.setIfInBounds_toArray, List.set_cons_zero, List.set_cons_succ]
              refine wpAnyH_take (i := 6) (v := ?_) rfl (by kernel_rfl) (by kernel_rfl) (by kernel_rfl) (fun _ _ _ h => h) (Or.inl ⟨by rfl, ?_⟩) (by assumption) ?_
              rotate_left 1
              · (intro w hSw; (obtain ⟨s0, s1, s2, s3, s4, s5⟩ := hSw); go_simp; try with_reducible rfl)
              try simp only [Act.put, List.getElem_toArray, List.getElem_cons_zero, List.getElem_cons_succ, List.setIfInBounds_toArray, List.set_cons_zero, List.set_cons_succ]
              refine wpAnyH_take (i := 7) (v := ?_) rfl (by kernel_rfl) (by kernel_rfl) (by kernel_rfl) (fun _ _ _ h => h) (Or.inl ⟨by rfl, ?_⟩) (by assumption) ?_
              rotate_left 1
              · (intro w hSw; (obtain ⟨s0, s1, s2, s3, s4, s5⟩ := hSw); go_simp; try with_reducible rfl)
              try simp only [Act.put, List.getElem_toArray, List.getElem_cons_zero, List.getElem_cons_succ, List.setIfInBounds_toArray, List.set_cons_zero, List.set_cons_succ]
              refine wpAnyH_take (i := 8) (v := ?_) rfl (by kernel_rfl) (by kernel_rfl) (by kernel_rfl) (fun _ _ _ h => h) (Or.inl ⟨by rfl, ?_⟩) (by assumption) ?_
              rotate_left 1
              · (intro w hSw; (obtain ⟨s0, s1, s2, s3, s4, s5⟩ := hSw); go_simp; try with_reducible rfl)
              try simp only [Act.put, List.getElem_toArray, List.getElem_cons_zero, List.getElem_cons_succ, List.setIfInBounds_toArray, List.set_cons_zero, List.set_cons_succ]
              refine wpAnyH_take (i := 9) (v := ?_) rfl (by kernel_rfl) (by kernel_rfl) (by kernel_rfl) (fun _ _ _ h => h) (Or.inl ⟨by rfl, ?_⟩) (by assumption) ?_
              rotate_left 1
              · (intro w hSw; (obtain ⟨s0, s1, s2, s3, s4, s5⟩ := hSw); go_simp; try with_reducible rfl)
              try simp only [Act.put, List.getElem_toArray, List.getElem_cons_zero, List.getElem_cons_succ, List.setIfInBounds_toArray, List.set_cons_zero, List.set_cons_succ]
              refine wpAnyH_take (i := 10) (v := ?_) rfl (by kernel_rfl) (by kernel_rfl) (by kernel_rfl) (fun _ _ _ h => h) (Or.inl ⟨by rfl, ?_⟩) (by assumption) ?_
              rotate_left 1
              · (intro w hSw; (obtain ⟨s0, s1, s2, s3, s4, s5⟩ := hSw); go_simp; try with_reducible rfl)
              try simp only [Act.put, List.getElem_toArray, List.getElem_cons_zero, List.getElem_cons_succ, List.setIfInBounds_toArray, List.set_cons_zero, List.set_cons_succ]
              refine wpAnyH_ready (rs := [11, 15]) (by kernel_rfl) (by simp) ?_
              refine AllReadyH.cons rfl (fun K hK => ?_) (AllReadyH.cons rfl (fun K hK => ?_) AllReadyH.nil)
              · go_simp
                go_fit (ca wr.drew)
                rintro e w2 ⟨rfl, gk⟩
                refine hK.out _ _ (⟨gk.keeps hHeld.1, gk.keeps hHeld.2.1, gk.keeps hHeld.2.2.1, gk.keeps hHeld.2.2.2.1, gk.keeps hHeld.2.2.2.2.1, gk.keeps hHeld.2.2.2.2.2⟩) (fun hHeld => ?_)
                clear hK K
                try simp only [Act.put, List.getElem_toArray, List.getElem_cons_zero, List.getElem_cons_succ, List.setIfInBounds_toArray, List.set_cons_zero, List.set_cons_succ]
                refine wpAnyH_take (i := 12) (v := ?_) rfl (by kernel_rfl) (by kernel_rfl) (by kernel_rfl) (fun _ _ _ h => h) (Or.inl ⟨by rfl, ?_⟩) (by assumption) ?_
                rotate_left 1
                · (intro w hSw; (obtain ⟨s0, s1, s2, s3, s4, s5⟩ := hSw); go_simp; try with_reducible rfl)
                try simp only [Act.put, List.getElem_toArray, List.getElem_cons_zero, List.getElem_cons_succ, List.setIfInBounds_toArray, List.set_cons_zero, List.set_cons_succ]
                refine wpAnyH_take (i := 13) (v := ?_) rfl (by kernel_rfl) (by kernel_rfl) (by kernel_rfl) (fun _ _ _ h => h) (Or.inl ⟨by rfl, ?_⟩) (by assumption) ?_
                rotate_left 1
                · (intro w hSw; (obtain ⟨s0, s1, s2, s3, s4, s5⟩ := hSw); go_simp; try with_reducible rfl)
                try simp only [Act.put, List.getElem_toArray, List.getElem_cons_zero, List.getElem_cons_succ, List.setIfInBounds_toArray, List.set_cons_zero, List.set_cons_succ]
                refine wpAnyH_take (i := 14) (v := ?_) rfl (by kernel_rfl) (by kernel_rfl) (by kernel_rfl) (fun _ _ _ h => h) (Or.inl ⟨by rfl, ?_⟩) (by assumption) ?_
                rotate_left 1
                · (intro w hSw; (obtain ⟨s0, s1, s2, s3, s4, s5⟩ := hSw); go_simp; try with_reducible rfl)
                try simp only [Act.put, List.getElem_toArray, List.getElem_cons_zero, List.getElem_cons_succ, List.setIfInBounds_toArray, List.set_cons_zero, List.set_cons_succ]
                have HW := hHeld
                refine wpAnyH_ready (rs := [15]) (by kernel_rfl) (by simp) ?_
                refine AllReadyH.cons rfl (fun K hK => ?_) AllReadyH.nil
                go_simp
                refine hK.out _ _ (⟨alloc_keeps hHeld.1 _, alloc_keeps hHeld.2.1 _, alloc_keeps hHeld.2.2.1 _, alloc_keeps hHeld.2.2.2.1 _, alloc_keeps hHeld.2.2.2.2.1 _, alloc_keeps hHeld.2.2.2.2.2 _⟩) (fun hHeld => ?_)
                clear hK K
                try simp only [Act.put, List.getElem_toArray, List.getElem_cons_zero, List.getElem_cons_succ, List.setIfInBounds_toArray, List.set_cons_zero, List.set_cons_succ]
                refine wpAnyH_ready (rs := [16]) (by kernel_rfl) (by simp) ?_
                refine AllReadyH.cons rfl (fun K hK => ?_) AllReadyH.nil
                go_simp
                refine hK.out _ _ (⟨alloc_keeps HW.1 _, alloc_keeps HW.2.1 _, alloc_keeps HW.2.2.1 _, alloc_keeps HW.2.2.2.1 _, alloc_keeps HW.2.2.2.2.1 _, alloc_keeps HW.2.2.2.2.2 _⟩) (fun hHeld => ?_)
                clear hK K
                try simp only [Act.put, List.getElem_toArray, List.getElem_cons_zero, List.getElem_cons_succ, List.setIfInBounds_toArray, List.set_cons_zero, List.set_cons_succ]
                refine wpAnyH_take (i := 17) (v := ?_) rfl (by kernel_rfl) (by kernel_rfl) (by kernel_rfl) (fun _ _ _ h => h) (Or.inl ⟨by rfl, ?_⟩) (by assumption) ?_
                rotate_left 1
                · (intro w hSw; (obtain ⟨s0, s1, s2, s3, s4, s5⟩ := hSw); go_simp; try with_reducible rfl)
                try simp only [Act.put, List.getElem_toArray, List.getElem_cons_zero, List.getElem_cons_succ, List.setIfInBounds_toArray, List.set_cons_zero, List.set_cons_succ]
                refine wpAnyH_done (by kernel_rfl) ?_ _
                clear HW
                have hsb := SB.out
                have nsb : w2.heap.size ≠ sb := Nat.ne_of_gt (Nat.lt_of_lt_of_le hsb.2 gk.size)
                have nrs : w2.heap.size ≠ w.heap.size := Nat.ne_of_gt (Nat.lt_trans hsb.1 (Nat.lt_of_lt_of_le hsb.2 gk.size))
                have gA : Gr wr.drew (w2.alloc (.cells #[.int .u64 0, .int .u64 0] 51)) := gk.trans ((Gr.refl _).alloc _ _)
                have M : At2 (w2.alloc (.cells #[.int .u64 0, .int .u64 0] 51)) w2.heap.size 0 := At2.new w2 0 _
                have A1' := A1.out.gr gA
                have A0' := A0.out.gr gA
                have GG : Hid (Gb w (w2.alloc (.cells #[.int .u64 0, .int .u64 0] 51))) := gb_trans GD.out gA.gb
                obtain ⟨r1, r2, f0, f1⟩ := A0'
                obtain ⟨q1, q2, q3, q4⟩ := A0.out.gr (gk)
                clear hHeld gk FS x0 x1 c1 gA M A1'
                go_wp2
                exact bodyPost_ret (v := .tuple #[Wd 0, .int .i64 10]) (by first | (simp [results, Try.results25, go_sem, hi, lo, r1, r2]; done) | (simp [results, Try.results25, go_sem, hi, lo, q1, q2, nrs, Ne.symm nrs]; done)) rfl ⟨by rw [VZ.out.1, VZ.out.2], by repeat (first | exact GG.out | refine gb_set ?_ (by simp) _)⟩
              · go_simp
                refine hK.out _ _ (⟨alloc_keeps hHeld.1 _, alloc_keeps hHeld.2.1 _, alloc_keeps hHeld.2.2.1 _, alloc_keeps hHeld.2.2.2.1 _, alloc_keeps hHeld.2.2.2.2.1 _, alloc_keeps hHeld.2.2.2.2.2 _⟩) (fun hHeld => ?_)
                clear hK K
                try simp only [Act.put, List.getElem_toArray, List.getElem_cons_zero, List.getElem_cons_succ, List.setIfInBounds_toArray, List.set_cons_zero, List.set_cons_succ]
                refine wpAnyH_ready (rs := [11]) (by kernel_rfl) (by simp) ?_
                refine AllReadyH.cons rfl (fun K hK => ?_) AllReadyH.nil
                go_simp
                go_fit (ca _)
                rintro e w2 ⟨rfl, gk⟩
                refine hK.out _ _ (⟨gk.keeps hHeld.1, gk.keeps hHeld.2.1, gk.keeps hHeld.2.2.1, gk.keeps hHeld.2.2.2.1, gk.keeps hHeld.2.2.2.2.1, gk.keeps hHeld.2.2.2.2.2⟩) (fun hHeld => ?_)
                clear hK K
                try simp only [Act.put, List.getElem_toArray, List.getElem_cons_zero, List.getElem_cons_succ, List.setIfInBounds_toArray, List.set_cons_zero, List.set_cons_succ]
                refine wpAnyH_take (i := 12) (v := ?_) rfl (by kernel_rfl) (by kernel_rfl) (by kernel_rfl) (fun _ _ _ h => h) (Or.inl ⟨by rfl, ?_⟩) (by assumption) ?_
                rotate_left 1
                · (intro w hSw; (obtain ⟨s0, s1, s2, s3, s4, s5⟩ := hSw); go_simp; try with_reducible rfl)
                try simp only [Act.put, List.getElem_toArray, List.getElem_cons_zero, List.getElem_cons_succ, List.setIfInBounds_toArray, List.set_cons_zero, List.set_cons_succ]
                refine wpAnyH_take (i := 13) (v := ?_) rfl (by kernel_rfl) (by kernel_rfl) (by kernel_rfl) (fun _ _ _ h => h) (Or.inl ⟨by rfl, ?_⟩) (by assumption) ?_
                rotate_left 1
                · (intro w hSw; (obtain ⟨s0, s1, s2, s3, s4, s5⟩ := hSw); go_simp; try with_reducible rfl)
                try simp only [Act.put, List.getElem_toArray, List.getElem_cons_zero, List.getElem_cons_succ, List.setIfInBounds_toArray, List.set_cons_zero, List.set_cons_succ]
                refine wpAnyH_take (i := 14) (v := ?_) rfl (by kernel_rfl) (by kernel_rfl) (by kernel_rfl) (fun _ _ _ h => h) (Or.inl ⟨by rfl, ?_⟩) (by assumption) ?_
                rotate_left 1
                · (intro w hSw; (obtain ⟨s0, s1, s2, s3, s4, s5⟩ := hSw); go_simp; try with_reducible rfl)
                try simp only [Act.put, List.getElem_toArray, List.getElem_cons_zero, List.getElem_cons_succ, List.setIfInBounds_toArray, List.set_cons_zero, List.set_cons_succ]
                obtain ⟨n0, n1, n2, n3⟩ : At2 w2 wr.heap.size 0 := (At2.new wr.drew 0 _).gr gk
                refine wpAnyH_ready (rs := [16]) (by kernel_rfl) (by simp) ?_
                refine AllReadyH.cons rfl (fun K hK => ?_) AllReadyH.nil
                go_simp
                refine hK.out _ _ (⟨set_far (Nat.ne_of_gt (by assumption)) (set_far (Nat.ne_of_gt (by assumption)) hHeld.1), set_far (Nat.ne_of_gt (by assumption)) (set_far (Nat.ne_of_gt (by assumption)) hHeld.2.1), set_far (Nat.ne_of_gt (by assumption)) (set_far (Nat.ne_of_gt (by assumption)) hHeld.2.2.1), set_far (Nat.ne_of_gt (by assumption)) (set_far (Nat.ne_of_gt (by assumption)) hHeld.2.2.2.1), set_far (Nat.ne_of_gt (by assumption)) (set_far (Nat.ne_of_gt (by assumption)) hHeld.2.2.2.2.1), set_far (Nat.ne_of_gt (by assumption)) (set_far (Nat.ne_of_gt (by assumption)) hHeld.2.2.2.2.2)⟩) (fun hHeld => ?_)
                clear hK K
                try simp only [Act.put, List.getElem_toArray, List.getElem_cons_zero, List.getElem_cons_succ, List.setIfInBounds_toArray, List.set_cons_zero, List.set_cons_succ]
                refine wpAnyH_take (i := 17) (v := ?_) rfl (by kernel_rfl) (by kernel_rfl) (by kernel_rfl) (fun _ _ _ h => h) (Or.inl ⟨by rfl, ?_⟩) (by assumption) ?_
                rotate_left 1
                · (intro w hSw; (obtain ⟨s0, s1, s2, s3, s4, s5⟩ := hSw); go_simp; try with_reducible rfl)
                try simp only [Act.put, List.getElem_toArray, List.getElem_cons_zero, List.getElem_cons_succ, List.setIfInBounds_toArray, List.set_cons_zero, List.set_cons_succ]
                refine wpAnyH_done (by kernel_rfl) ?_ _
                have hsb := SB.out
                have nsb : wr.heap.size ≠ sb := Nat.ne_of_gt (hsb.2)
                have nrs : wr.heap.size ≠ w.heap.size := Nat.ne_of_gt (Nat.lt_trans hsb.1 (hsb.2))
                have gA : Gr wr.drew w2 := ((Gr.refl _).alloc _ _).trans gk
                have M : At2 ((w2.setCell ⟨wr.heap.size, 0, none⟩ (.int .u64 0)).setCell ⟨wr.heap.size, 1, none⟩ (.int .u64 0)) wr.heap.size 0 := At2.set ((At2.new wr.drew 0 _).gr gk) 0
                have A1' := (A1.out.gr gA).far2 nsb (.int .u64 0) (.int .u64 0)
                have A0' := (A0.out.gr gA).far2 nrs (.int .u64 0) (.int .u64 0)
                have GG : Hid (Gb w ((w2.setCell ⟨wr.heap.size, 0, none⟩ (.int .u64 0)).setCell ⟨wr.heap.size, 1, none⟩ (.int .u64 0))) := gb_set (gb_set (gb_trans GD.out gA.gb) GD.out.size _) GD.out.size _
                obtain ⟨r1, r2, f0, f1⟩ := A0'
                obtain ⟨q1, q2, q3, q4⟩ := A0.out.gr (gA)
                clear hHeld gk FS x0 x1 c1 gA M A1'
                go_wp2
                exact bodyPost_ret (v := .tuple #[Wd 0, .int .i64 10]) (by first | (simp [results, Try.results25, go_sem, hi, lo, r1, r2]; done) | (simp [results, Try.results25, go_sem, hi, lo, q1, q2, nrs, Ne.symm nrs]; done)) rfl ⟨by rw [VZ.out.1, VZ.out.2], by repeat (first | exact GG.out | refine gb_set ?_ (by simp) _)⟩
          · have hqi : ¬ (q : Int) < (n : Int) := by omega
            have VZ : Hid (v = estTo t code q ∧ z = 0) := by
              have h := X.out.2
              rw [show q = n by omega] at h ⊢
              rcases HV2.out with h2 | h2
              · exact h2.2
              · omega
            generalize estTo t code q = sq at *
            obtain ⟨x0, x1, _, _⟩ := X.out.1.sum
            obtain ⟨r1, r2, r3, r4⟩ := X.out.1.res
            have GF : Hid (Gb w wr) := X.out.1.gb
            clear X
            go_wp2
            exact bodyPost_ret (v := .tuple #[Wd sq, .int .i64 0]) (by simp [results, Try.results25, go_sem, r1, r2]) rfl ⟨by rw [VZ.out.1, VZ.out.2], by repeat (first | exact GF.out | refine gb_set ?_ (by simp) _)⟩
  · have VZ : Hid (v = 0 ∧ z = 101) := by
      have hn : ¬ Plc code (lensV t) := fun hp => he (by rw [hp.1, lensV_len])
      rcases HV.out with h' | h' | h'
      · exact h'.2
      · exact absurd h'.1 hn
      · exact absurd h'.1 hn
    have hz : ¬ (t.length : Int) = (code.length : Int) := by omega
    have hz1 : ((t.length : Int) == (code.length : Int)) = false := by rw [beq_eq_false_iff_ne]; exact hz
    have hz2 : ((t.length : Int) != (code.length : Int)) = true := by rw [bne_iff_ne]; exact hz
    clear HX HV
    generalize code.length = n at *
    generalize t.length = n' at *
    clear he
    go_enter Try.func25, Try.ntmps25
    go_wp2
    exact bodyPost_ret (v := .tuple #[Wd 0, .int .i64 101]) (by simp [results, Try.results25, go_sem, hi, lo]) rfl ⟨by rw [VZ.out.1, VZ.out.2], by repeat (first | exact G0.gb | refine gb_set ?_ (by simp) _)⟩
end Go.Proofs.Ytblfmhdcgmkpgaa
