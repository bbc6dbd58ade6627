/- pq.Estimate. -/
import Derived.Test.YtblfmhdcgmkpgaaPTab2
namespace Go.Proofs.Ytblfmhdcgmkpgaa
open Go.RowKit Go.Maps Go.Sort

set_option maxHeartbeats 1000000 in
set_option maxRecDepth 100000 in
theorem arePw_c {w : World} {cv lv : Value} {code : List Int} {ns : List Nat} (hc : RdI w cv code) (hl : LsAt w lv ns) (hlen : code.length ≤ 4611686018427387904) :
    Calls Try.prog 41 #[cv, lv] w fun e w' => BoolOf (Plc code ns) w e w' := by
  have A : Hid (RdI w cv code) := hc
  have B : Hid (LsAt w lv ns) := hl
  obtain ⟨ca, cc, rfl, _⟩ := hc
  obtain ⟨la, lc, rfl, _⟩ := hl
  by_cases he : code.length = ns.length
  · obtain ⟨n, hN⟩ : ∃ n, n = code.length := ⟨_, rfl⟩
    have N : Hid (n = code.length ∧ n = ns.length) := ⟨hN, by rw [hN, he]⟩
    rw [← he, ← hN] at B
    rw [← hN] at A hlen
    rw [← he, ← hN]
    clear he hN
    go_enter Try.func41, Try.ntmps41
    go_wp2
    go_loopw [14] (fun iv w' => ∃ q : Nat, iv = .int .i64 (q : Int) ∧ q ≤ n ∧ w = w' ∧ Hid (∀ i, i < q → 0 ≤ code[i]! ∧ code[i]! < (ns[i]! : Int))) (fun iv _ => n - (intOf iv).toNat)
    case atStart => exact ⟨0, rfl, Nat.zero_le _, rfl, fun i hi => absurd hi (Nat.not_lt_zero _)⟩
    case round =>
      obtain ⟨q, rfl, hq, rfl, X⟩ := hrel
      by_cases hqn : q < n
      · have hqi : (q : Int) < (n : Int) := by omega
        obtain ⟨_, _, e1, h1⟩ := A.out
        obtain ⟨b, o, ea, k1⟩ := h1 q (by have := N.out; omega)
        injection e1 with e11 e12 e13
        subst e11 ea
        obtain ⟨_, _, e2, h2⟩ := B.out
        obtain ⟨b', o', pu, cu, eb, k2⟩ := h2 q (by have := N.out; omega)
        injection e2 with e21 e22 e23
        subst e21 eb
        have NX : Hid ((0 ≤ code[q]! ∧ code[q]! < (ns[q]! : Int)) → ∀ i, i < q + 1 → 0 ≤ code[i]! ∧ code[i]! < (ns[i]! : Int)) := fun h i hi => by
          by_cases e : i = q
          · rw [e]; exact h
          · exact X.out i (by omega)
        have NO : Hid (¬ (0 ≤ code[q]! ∧ code[q]! < (ns[q]! : Int)) → ¬ Plc code ns) := fun h hp => h (hp.2 q (by have := N.out; omega))
        generalize code[q]! = y at *
        generalize ns[q]! = z at *
        clear h1 h2 e12 e13 e22 e23 X
        by_cases hy : y < 0
        · have F : Hid (¬ Plc code ns) := NO.out (by omega)
          clear NO NX
          go_wp2
          go_ret
          exact BoolOf.no F.out
        · by_cases hz : (z : Int) ≤ y
          · have F : Hid (¬ Plc code ns) := NO.out (by omega)
            clear NO NX
            go_wp2
            go_ret
            exact BoolOf.no F.out
          · have F := NX.out (by omega)
            have FF : Hid _ := F
            clear NO NX F
            go_wp2
            go_roundw
            case rel => exact ⟨q + 1, by first | rfl | go_num | simp, hqn, by first | rfl | trivial, FF⟩
            case measure => simp [intOf]; omega
      · have hqi : ¬ (q : Int) < (n : Int) := by omega
        have E : Hid (Plc code ns) := ⟨by have := N.out; omega, fun i hi => X.out i (by have := N.out; omega)⟩
        clear X
        go_wp2
        go_ret
        exact BoolOf.yes E.out
  · have F : Hid (¬ Plc code ns) := fun h => he h.1
    have hz : ¬ (code.length : Int) = (ns.length : Int) := by omega
    have hz1 : ((code.length : Int) == (ns.length : Int)) = false := by rw [beq_eq_false_iff_ne]; exact hz
    have hz2 : ((code.length : Int) != (ns.length : Int)) = true := by rw [bne_iff_ne]; exact hz
    generalize code.length = n at *
    generalize ns.length = n' at *
    clear A B he
    go_enter Try.func41, Try.ntmps41
    go_wp2
    go_ret
    exact BoolOf.no F.out

set_option maxHeartbeats 400000 in
theorem addc_no (ah al bh bl : Int) (a0 : 0 ≤ ah) (b0 : 0 ≤ al) (b1 : al < 18446744073709551616) (c0 : 0 ≤ bh) (d0 : 0 ≤ bl) (d1 : bl < 18446744073709551616)
    (hlt : (ah + bh + (al + bl) / 18446744073709551616) / 18446744073709551616 = 1) (w : World) :
    Calls Try.prog 42 #[.agg #[.int .u64 ah, .int .u64 al], .agg #[.int .u64 bh, .int .u64 bl]] w fun e w' =>
      e = .returned (.tuple #[.agg #[.int .u64 0, .int .u64 0], .int .i64 10]) ∧ Gr w w' := by
  have k0 : 0 ≤ (al + bl) / 18446744073709551616 := by omega
  have k1 : (al + bl) / 18446744073709551616 ≤ 1 := by omega
  go_enter Try.func42, Try.ntmps42
  go_wp2_with (first | simp only [add64_0 al bl b0 d0] | simp only [add64 ah bh _ a0 c0 k0 k1])
  exact bodyPost_ret (v := .tuple #[.agg #[.int .u64 0, .int .u64 0], .int .i64 10]) (by simp [results, Try.results42, go_sem]) rfl
    ⟨rfl, (((Gr.refl _).alloc _ _).alloc _ _).alloc _ _⟩
theorem add_no (a b : Nat) (ha : a < 340282366920938463463374607431768211456) (hb : b < 340282366920938463463374607431768211456) (h : 340282366920938463463374607431768211456 ≤ a + b) (w : World) :
    Calls Try.prog 42 #[Wd a, Wd b] w fun e w' => e = .returned (.tuple #[Wd 0, .int .i64 10]) ∧ Gr w w' := by
  have e3 : (hi a + hi b + (lo a + lo b) / 18446744073709551616) / 18446744073709551616 = 1 := by unfold hi lo; omega
  exact addc_no (hi a) (lo a) (hi b) (lo b) (hi_nn a) (lo_bd a).1 (lo_bd a).2 (hi_nn b) (lo_bd b).1 (lo_bd b).2 e3 w

/-- No number of a table is too great. -/
def TabOk (t : List (List Nat)) : Prop := ∀ i, i < t.length → ∀ j, j < t[i]!.length → t[i]![j]! < 340282366920938463463374607431768211456
set_option maxHeartbeats 1000000 in
theorem est_no {w : World} {tv cv : Value} {t : List (List Nat)} {code : List Int} (ht : RdT w tv t) (hc : RdI w cv code) (hlen : code.length ≤ 4611686018427387904) (hz : ¬ Plc code (lensV t)) :
    Calls Try.prog 24 #[tv, cv] w fun e w' => e = .returned (.tuple #[Wd 0, .int .i64 101]) ∧ Gb w w' := by
  have G0 : Gr w (w.alloc (.cells #[.int .u64 0, .int .u64 0] 51)) := (Gr.refl _).alloc _ _
  have ck := arePw_c (hc.gb G0.gb) (ht.gb G0.gb).ls hlen
  obtain ⟨a, cap, rfl, _⟩ := hc
  obtain ⟨ba, bc, rfl, _⟩ := ht
  have HZ : Hid (¬ Plc code (lensV t)) := hz
  generalize code.length = n at *
  generalize t.length = n' at *
  clear hz
  go_enter Try.func24, Try.ntmps24
  go_wp2_with fail
  go_fit ck
  rintro e w' ⟨⟨b, rfl, hb⟩, e2⟩
  subst e2
  have eb : b = false := by
    cases b
    · rfl
    · exact absurd (hb.1 rfl) HZ.out
  subst eb
  clear ck hb
  go_wp2
  exact bodyPost_ret (v := .tuple #[Wd 0, .int .i64 101]) (by simp [results, Try.results24, go_sem, hi, lo]) rfl ⟨by rfl, by repeat (first | exact G0.gb | refine gb_set ?_ (by simp) _)⟩

/-- Behind q sums. -/
structure EsS (w W : World) (n : Nat) : Prop where
  gb : Gb w W
  res : At2 W w.heap.size 0
  sum : At2 W (w.heap.size + 1) n
set_option maxHeartbeats 4000000 in
set_option maxRecDepth 100000 in
theorem est_in {w : World} {tv cv : Value} {t : List (List Nat)} {code : List Int} (ht : RdT w tv t) (hc : RdI w cv code) (hlen : code.length ≤ 4611686018427387904) (hp : Plc code (lensV t)) (hok : TabOk t) (v : Nat) (z : Int)
    (hv : (estTo t code code.length < 340282366920938463463374607431768211456 ∧ v = estTo t code code.length ∧ z = 0) ∨ (340282366920938463463374607431768211456 ≤ estTo t code code.length ∧ v = 0 ∧ z = 10)) :
    Calls Try.prog 24 #[tv, cv] w fun e w' => e = .returned (.tuple #[Wd v, .int .i64 z]) ∧ Gb w w' := by
  have G0 : Gr w (w.alloc (.cells #[.int .u64 0, .int .u64 0] 51)) := (Gr.refl _).alloc _ _
  have ck := arePw_c (hc.gb G0.gb) (ht.gb G0.gb).ls hlen
  have HX : Hid (RdT w tv t ∧ RdI w cv code ∧ Plc code (lensV t) ∧ TabOk t) := ⟨ht, hc, hp, hok⟩
  have HV : Hid ((estTo t code code.length < 340282366920938463463374607431768211456 ∧ v = estTo t code code.length ∧ z = 0) ∨ (340282366920938463463374607431768211456 ≤ estTo t code code.length ∧ v = 0 ∧ z = 10)) := hv
  obtain ⟨ca, cc, rfl, _⟩ := hc
  obtain ⟨ta, tc, rfl, _⟩ := ht
  have hl2 : t.length = code.length := by rw [hp.1, lensV_len]
  obtain ⟨n, hN⟩ : ∃ n, n = code.length := ⟨_, rfl⟩
  have N : Hid (n = code.length ∧ n = t.length) := ⟨hN, by omega⟩
  rw [hl2, ← hN] at HX ck
  rw [← hN] at hlen HV
  rw [hl2, ← hN]
  clear hv hok hl2 hN hp
  obtain ⟨W0, hW0⟩ : ∃ W0, W0 = (w.alloc (.cells #[.int .u64 0, .int .u64 0] 51)).alloc (.cells #[.int .u64 0, .int .u64 0] 51) := ⟨_, rfl⟩
  have S0 : Hid (EsS w W0 (estTo t code 0)) := by
    unfold Hid
    rw [hW0]
    have a0 := At2.new w 0 51
    have a1 := At2.new (w.alloc (.cells #[.int .u64 0, .int .u64 0] 51)) 0 51
    rw [World.size_alloc] at a1
    exact ⟨(G0.alloc _ _).gb, a0.gr ((Gr.refl _).alloc _ _), a1⟩
  clear G0
  go_enter Try.func24, Try.ntmps24
  go_wp2_with fail
  go_fit ck
  rintro e w' ⟨⟨b, rfl, hb⟩, e2⟩
  subst e2
  have eb : b = true := hb.2 HX.out.2.2.1
  subst eb
  clear ck hb
  go_wp2_with fail
  rw [← hW0]
  clear hW0
  go_loopw [17] (fun iv W => ∃ q : Nat, iv = .int .i64 (q : Int) ∧ q ≤ n ∧ Hid (EsS w W (estTo t code q) ∧ estTo t code q < 340282366920938463463374607431768211456)) (fun iv _ => n - (intOf iv).toNat)
  case atStart => exact ⟨0, rfl, Nat.zero_le _, S0.out, by simp [estTo]⟩
  case round =>
    clear S0
    obtain ⟨q, rfl, hq, X⟩ := hrel
    by_cases hqn : q < n
    · have hqi : (q : Int) < (n : Int) := by omega
      have hqc : q < code.length := by have := N.out; omega
      have hqt : q < t.length := by have := N.out; omega
      obtain ⟨_, _, e1, h1⟩ := HX.out.2.1
      obtain ⟨cb, co, ea, k1⟩ := h1 q hqc
      injection e1 with e11 e12 e13
      subst e11 ea
      obtain ⟨_, _, e2, h2⟩ := HX.out.1
      obtain ⟨tb, to, ut, eb, k2, k3⟩ := h2 q hqt
      injection e2 with e21 e22 e23
      subst e21 eb
      have PL := HX.out.2.2.1.2 q hqc
      rw [lensV_get t hqt] at PL
      obtain ⟨pl, hpl⟩ : ∃ pl : Nat, code[q]! = (pl : Int) := ⟨code[q]!.toNat, by omega⟩
      rw [hpl] at PL k1
      have hpz : pl < t[q]!.length := by omega
      have EN : Hid (estTo t code (q + 1) = estTo t code q + t[q]![pl]! ∧ t[q]![pl]! < 340282366920938463463374607431768211456) := ⟨by rw [estTo, hpl, Int.toNat_natCast], HX.out.2.2.2 q hqt pl hpz⟩
      have EM : Hid (estTo t code (q + 1) ≤ estTo t code n) := estTo_mono t code (by omega)
      obtain ⟨pu, cu, eu, h3⟩ := k3
      subst eu
      obtain ⟨b3, o3, ea, k4, k5⟩ := h3 pl hpz
      subst ea
      have gW := X.out.1.gb
      have c1 := gb_keeps gW k1
      have FS : wr.drew.cell? ⟨tb, to + q, none⟩ = some (.slice (some ⟨b3, o3, none⟩) t[q]!.length cu) ∧ wr.drew.cell? ⟨b3, o3 + pl * 2, none⟩ = some (.int .u64 (hi t[q]![pl]!)) ∧ wr.drew.cell? ⟨b3, o3 + pl * 2 + 1, none⟩ = some (.int .u64 (lo t[q]![pl]!)) := ⟨gb_keeps gW k2, gb_keeps gW k4, gb_keeps gW k5⟩
      have nb0 : tb < w.heap.size := cell_lt k2
      have nb1 : b3 < w.heap.size := cell_lt k4
      have nb0 : ¬ tb = w.heap.size + 1 := by omega
      have nb1 : ¬ b3 = w.heap.size + 1 := by omega
      have A1 : Hid (At2 wr.drew (w.heap.size + 1) (estTo t code q)) := ⟨X.out.1.sum.c0, X.out.1.sum.c1, X.out.1.sum.f0, X.out.1.sum.f1⟩
      have A0 : Hid (At2 wr.drew w.heap.size 0) := ⟨X.out.1.res.c0, X.out.1.res.c1, X.out.1.res.f0, X.out.1.res.f1⟩
      have GD : Hid (Gb w wr.drew) := gW.drew
      have LT : Hid (estTo t code q < 340282366920938463463374607431768211456) := X.out.2
      have hpi : (pl : Int) < ((t[q]!.length : Nat) : Int) := by omega
      obtain ⟨x0, x1, _, _⟩ := X.out.1.sum
      generalize t[q]![pl]! = y at *
      generalize t[q]!.length = z' at *
      generalize estTo t code q = sq at *
      obtain ⟨sq1, hsq1⟩ : ∃ z, z = estTo t code (q + 1) := ⟨_, rfl⟩
      have SQ : Hid (sq1 = estTo t code (q + 1)) := hsq1
      rw [← hsq1] at EN EM
      clear hsq1
      clear h1 h2 h3 e12 e13 e22 e23 k1 k2 k4 k5 X gW PL hpl hpz hqc hqt
      by_cases ho : sq + y < 340282366920938463463374607431768211456
      · have ca := add_ok sq y ho wr.drew
        go_wp2_with fail
        refine wp_region_held_drew (S := fun W => W.cell? ⟨tb, to + q, none⟩ = some (.slice (some ⟨b3, o3, none⟩) z' cu) ∧ W.cell? ⟨b3, o3 + pl * 2, none⟩ = some (.int .u64 (hi y)) ∧ W.cell? ⟨b3, o3 + pl * 2 + 1, none⟩ = some (.int .u64 (lo y))) (by kernel_rfl) (FS) (fun hHeld => ?_)
        refine wpAnyH_take (i := 1) (v := ?_) rfl (by kernel_rfl) (by kernel_rfl) (by kernel_rfl) (fun _ _ _ h => h) (Or.inl ⟨by rfl, ?_⟩) (by assumption) ?_
        rotate_left 1
        · (intro w hSw; (obtain ⟨s0, s1, s2⟩ := hSw); go_simp; try with_reducible rfl)
        try simp only [Act.put, List.getElem_toArray, List.getElem_cons_zero, List.getElem_cons_succ, List.setIfInBounds_toArray, List.set_cons_zero, List.set_cons_succ]
        refine wpAnyH_take (i := 2) (v := ?_) rfl (by kernel_rfl) (by kernel_rfl) (by kernel_rfl) (fun _ _ _ h => h) (Or.inl ⟨by rfl, ?_⟩) (by assumption) ?_
        rotate_left 1
        · (intro w hSw; (obtain ⟨s0, s1, s2⟩ := hSw); go_simp; try with_reducible rfl)
        try simp only [Act.put, List.getElem_toArray, List.getElem_cons_zero, List.getElem_cons_succ, List.setIfInBounds_toArray, List.set_cons_zero, List.set_cons_succ]
        refine wpAnyH_take (i := 3) (v := ?_) rfl (by kernel_rfl) (by kernel_rfl) (by kernel_rfl) (fun _ _ _ h => h) (Or.inl ⟨by rfl, ?_⟩) (by assumption) ?_
        rotate_left 1
        · (intro w hSw; (obtain ⟨s0, s1, s2⟩ := hSw); go_simp; try with_reducible rfl)
        try simp only [Act.put, List.getElem_toArray, List.getElem_cons_zero, List.getElem_cons_succ, List.setIfInBounds_toArray, List.set_cons_zero, List.set_cons_succ]
        refine wpAnyH_take (i := 4) (v := ?_) rfl (by kernel_rfl) (by kernel_rfl) (by kernel_rfl) (fun _ _ _ h => h) (Or.inl ⟨by rfl, ?_⟩) (by assumption) ?_
        rotate_left 1
        · (intro w hSw; (obtain ⟨s0, s1, s2⟩ := hSw); go_simp; try with_reducible rfl)
        try simp only [Act.put, List.getElem_toArray, List.getElem_cons_zero, List.getElem_cons_succ, List.setIfInBounds_toArray, List.set_cons_zero, List.set_cons_succ]
        refine wpAnyH_take (i := 5) (v := ?_) rfl (by kernel_rfl) (by kernel_rfl) (by kernel_rfl) (fun _ _ _ h => h) (Or.inl ⟨by rfl, ?_⟩) (by assumption) ?_
        rotate_left 1
        · (intro w hSw; (obtain ⟨s0, s1, s2⟩ := hSw); go_simp; try with_reducible rfl)
        try simp only [Act.put, List.getElem_toArray, List.getElem_cons_zero, List.getElem_cons_succ, List.setIfInBounds_toArray, List.set_cons_zero, List.set_cons_succ]
        refine wpAnyH_take (i := 6) (v := ?_) rfl (by kernel_rfl) (by kernel_rfl) (by kernel_rfl) (fun _ _ _ h => h) (Or.inl ⟨by rfl, ?_⟩) (by assumption) ?_
        rotate_left 1
        · (intro w hSw; (obtain ⟨s0, s1, s2⟩ := hSw); go_simp; try with_reducible rfl)
        try simp only [Act.put, List.getElem_toArray, List.getElem_cons_zero, List.getElem_cons_succ, List.setIfInBounds_toArray, List.set_cons_zero, List.set_cons_succ]
        refine wpAnyH_take (i := 7) (v := ?_) rfl (by kernel_rfl) (by kernel_rfl) (by kernel_rfl) (fun _ _ _ h => h) (Or.inl ⟨by rfl, ?_⟩) (by assumption) ?_
        rotate_left 1
        · (intro w hSw; (obtain ⟨s0, s1, s2⟩ := hSw); go_simp; try with_reducible rfl)
        try simp only [Act.put, List.getElem_toArray, List.getElem_cons_zero, List.getElem_cons_succ, List.setIfInBounds_toArray, List.set_cons_zero, List.set_cons_succ]
        refine wpAnyH_ready (rs := [0]) (by kernel_rfl) (by simp) ?_
        refine AllReadyH.cons rfl (fun K hK => ?_) AllReadyH.nil
        go_simp
        refine hK.out _ _ (hHeld) (fun hHeld => ?_)
        clear hK K
        try simp only [Act.put, List.getElem_toArray, List.getElem_cons_zero, List.getElem_cons_succ, List.setIfInBounds_toArray, List.set_cons_zero, List.set_cons_succ]
        refine wpAnyH_ready (rs := [8]) (by kernel_rfl) (by simp) ?_
        refine AllReadyH.cons rfl (fun K hK => ?_) AllReadyH.nil
        go_simp
        go_fit ca
        rintro e w2 ⟨rfl, gk⟩
        have u2 := A1.out.gr gk
        obtain ⟨v0, v1, v2, v3⟩ := u2
        refine hK.out _ _ (⟨gk.keeps hHeld.1, gk.keeps hHeld.2.1, gk.keeps hHeld.2.2⟩) (fun hHeld => ?_)
        clear hK K
        try simp only [Act.put, List.getElem_toArray, List.getElem_cons_zero, List.getElem_cons_succ, List.setIfInBounds_toArray, List.set_cons_zero, List.set_cons_succ]
        refine wpAnyH_take (i := 9) (v := ?_) rfl (by kernel_rfl) (by kernel_rfl) (by kernel_rfl) (fun _ _ _ h => h) (Or.inl ⟨by rfl, ?_⟩) (by assumption) ?_
        rotate_left 1
        · (intro w hSw; (obtain ⟨s0, s1, s2⟩ := hSw); go_simp; try with_reducible rfl)
        try simp only [Act.put, List.getElem_toArray, List.getElem_cons_zero, List.getElem_cons_succ, List.setIfInBounds_toArray, List.set_cons_zero, List.set_cons_succ]
        refine wpAnyH_take (i := 10) (v := ?_) rfl (by kernel_rfl) (by kernel_rfl) (by kernel_rfl) (fun _ _ _ h => h) (Or.inl ⟨by rfl, ?_⟩) (by assumption) ?_
        rotate_left 1
        · (intro w hSw; (obtain ⟨s0, s1, s2⟩ := hSw); go_simp; try with_reducible rfl)
        try simp only [Act.put, List.getElem_toArray, List.getElem_cons_zero, List.getElem_cons_succ, List.setIfInBounds_toArray, List.set_cons_zero, List.set_cons_succ]
        refine wpAnyH_take (i := 11) (v := ?_) rfl (by kernel_rfl) (by kernel_rfl) (by kernel_rfl) (fun _ _ _ h => h) (Or.inl ⟨by rfl, ?_⟩) (by assumption) ?_
        rotate_left 1
        · (intro w hSw; (obtain ⟨s0, s1, s2⟩ := hSw); go_simp; try with_reducible rfl)
        try simp only [Act.put, List.getElem_toArray, List.getElem_cons_zero, List.getElem_cons_succ, List.setIfInBounds_toArray, List.set_cons_zero, List.set_cons_succ]
        refine wpAnyH_ready (rs := [12]) (by kernel_rfl) (by simp) ?_
        refine AllReadyH.cons rfl (fun K hK => ?_) AllReadyH.nil
        go_simp
        refine hK.out _ _ (⟨by simpa [go_sem, nb0, nb1] using hHeld.1, by simpa [go_sem, nb0, nb1] using hHeld.2.1, by simpa [go_sem, nb0, nb1] using hHeld.2.2⟩) (fun hHeld => ?_)
        clear hK K
        try simp only [Act.put, List.getElem_toArray, List.getElem_cons_zero, List.getElem_cons_succ, List.setIfInBounds_toArray, List.set_cons_zero, List.set_cons_succ]
        refine wpAnyH_take (i := 13) (v := ?_) rfl (by kernel_rfl) (by kernel_rfl) (by kernel_rfl) (fun _ _ _ h => h) (Or.inl ⟨by rfl, ?_⟩) (by assumption) ?_
        rotate_left 1
        · (intro w hSw; (obtain ⟨s0, s1, s2⟩ := hSw); go_simp; try with_reducible rfl)
        try simp only [Act.put, List.getElem_toArray, List.getElem_cons_zero, List.getElem_cons_succ, List.setIfInBounds_toArray, List.set_cons_zero, List.set_cons_succ]
        refine wpAnyH_done (by kernel_rfl) ?_ _
        have u3 := At2.set (At2.gr A1.out gk) (sq + y)
        have SN : Hid (EsS w ((w2.setCell ⟨w.heap.size + 1, 0, none⟩ (.int .u64 (hi (sq + y)))).setCell ⟨w.heap.size + 1, 1, none⟩ (.int .u64 (lo (sq + y)))) sq1 ∧ sq1 < 340282366920938463463374607431768211456) := by
          rw [EN.out.1]
          refine ⟨⟨gb_set (gb_set (gb_trans GD.out gk.gb) (by simp) _) (by simp) _, ?_, u3⟩, ho⟩
          have r0 := A0.out.gr gk
          exact ⟨by simpa [go_sem] using r0.c0, by simpa [go_sem] using r0.c1, by simpa [go_sem] using r0.f0, by simpa [go_sem] using r0.f1⟩
        clear u3 hHeld v0 v1 v2 v3 gk ca x0 x1 FS c1
        go_wp2
        go_roundw
        case rel => exact ⟨q + 1, by first | rfl | go_num | simp, hqn, by rw [← SQ.out]; exact SN⟩
        case measure => simp [intOf]; omega
      · have ca := add_no sq y LT.out EN.out.2 (by omega) wr.drew
        have VZ : Hid (v = 0 ∧ z = 10) := by
          rcases HV.out with h | h
          · have := EN.out.1; have := EM.out; omega
          · exact h.2
        go_wp2_with fail
        refine wp_region_held_drew (S := fun W => W.cell? ⟨tb, to + q, none⟩ = some (.slice (some ⟨b3, o3, none⟩) z' cu) ∧ W.cell? ⟨b3, o3 + pl * 2, none⟩ = some (.int .u64 (hi y)) ∧ W.cell? ⟨b3, o3 + pl * 2 + 1, none⟩ = some (.int .u64 (lo y))) (by kernel_rfl) (FS) (fun hHeld => ?_)
        refine wpAnyH_take (i := 1) (v := ?_) rfl (by kernel_rfl) (by kernel_rfl) (by kernel_rfl) (fun _ _ _ h => h) (Or.inl ⟨by rfl, ?_⟩) (by assumption) ?_
        rotate_left 1
        · (intro w hSw; (obtain ⟨s0, s1, s2⟩ := hSw); go_simp; try with_reducible rfl)
        try simp only [Act.put, List.getElem_toArray, List.getElem_cons_zero, List.getElem_cons_succ, List.setIfInBounds_toArray, List.set_cons_zero, List.set_cons_succ]
        refine wpAnyH_take (i := 2) (v := ?_) rfl (by kernel_rfl) (by kernel_rfl) (by kernel_rfl) (fun _ _ _ h => h) (Or.inl ⟨by rfl, ?_⟩) (by assumption) ?_
        rotate_left 1
        · (intro w hSw; (obtain ⟨s0, s1, s2⟩ := hSw); go_simp; try with_reducible rfl)
        try simp only [Act.put, List.getElem_toArray, List.getElem_cons_zero, List.getElem_cons_succ, List.setIfInBounds_toArray, List.set_cons_zero, List.set_cons_succ]
        refine wpAnyH_take (i := 3) (v := ?_) rfl (by kernel_rfl) (by kernel_rfl) (by kernel_rfl) (fun _ _ _ h => h) (Or.inl ⟨by rfl, ?_⟩) (by assumption) ?_
        rotate_left 1
        · (intro w hSw; (obtain ⟨s0, s1, s2⟩ := hSw); go_simp; try with_reducible rfl)
        try simp only [Act.put, List.getElem_toArray, List.getElem_cons_zero, List.getElem_cons_succ, List.setIfInBounds_toArray, List.set_cons_zero, List.set_cons_succ]
        refine wpAnyH_take (i := 4) (v := ?_) rfl (by kernel_rfl) (by kernel_rfl) (by kernel_rfl) (fun _ _ _ h => h) (Or.inl ⟨by rfl, ?_⟩) (by assumption) ?_
        rotate_left 1
        · (intro w hSw; (obtain ⟨s0, s1, s2⟩ := hSw); go_simp; try with_reducible rfl)
        try simp only [Act.put, List.getElem_toArray, List.getElem_cons_zero, List.getElem_cons_succ, List.setIfInBounds_toArray, List.set_cons_zero, List.set_cons_succ]
        refine wpAnyH_take (i := 5) (v := ?_) rfl (by kernel_rfl) (by kernel_rfl) (by kernel_rfl) (fun _ _ _ h => h) (Or.inl ⟨by rfl, ?_⟩) (by assumption) ?_
        rotate_left 1
        · (intro w hSw; (obtain ⟨s0, s1, s2⟩ := hSw); go_simp; try with_reducible rfl)
        try simp only [Act.put, List.getElem_toArray, List.getElem_cons_zero, List.getElem_cons_succ, List.setIfInBounds_toArray, List.set_cons_zero, List.set_cons_succ]
        refine wpAnyH_take (i := 6) (v := ?_) rfl (by kernel_rfl) (by kernel_rfl) (by kernel_rfl) (fun _ _ _ h => h) (Or.inl ⟨by rfl, ?_⟩) (by assumption) ?_
        rotate_left 1
        · (intro w hSw; (obtain ⟨s0, s1, s2⟩ := hSw); go_simp; try with_reducible rfl)
        try simp only [Act.put, List.getElem_toArray, List.getElem_cons_zero, List.getElem_cons_succ, List.setIfInBounds_toArray, List.set_cons_zero, List.set_cons_succ]
        refine wpAnyH_take (i := 7) (v := ?_) rfl (by kernel_rfl) (by kernel_rfl) (by kernel_rfl) (fun _ _ _ h => h) (Or.inl ⟨by rfl, ?_⟩) (by assumption) ?_
        rotate_left 1
        · (intro w hSw; (obtain ⟨s0, s1, s2⟩ := hSw); go_simp; try with_reducible rfl)
        try simp only [Act.put, List.getElem_toArray, List.getElem_cons_zero, List.getElem_cons_succ, List.setIfInBounds_toArray, List.set_cons_zero, List.set_cons_succ]
        refine wpAnyH_ready (rs := [0]) (by kernel_rfl) (by simp) ?_
        refine AllReadyH.cons rfl (fun K hK => ?_) AllReadyH.nil
        go_simp
        refine hK.out _ _ (hHeld) (fun hHeld => ?_)
        clear hK K
        try simp only [Act.put, List.getElem_toArray, List.getElem_cons_zero, List.getElem_cons_succ, List.setIfInBounds_toArray, List.set_cons_zero, List.set_cons_succ]
        refine wpAnyH_ready (rs := [8]) (by kernel_rfl) (by simp) ?_
        refine AllReadyH.cons rfl (fun K hK => ?_) AllReadyH.nil
        go_simp
        go_fit ca
        rintro e w2 ⟨rfl, gk⟩
        have u2 := A1.out.gr gk
        obtain ⟨v0, v1, v2, v3⟩ := u2
        refine hK.out _ _ (⟨gk.keeps hHeld.1, gk.keeps hHeld.2.1, gk.keeps hHeld.2.2⟩) (fun hHeld => ?_)
        clear hK K
        try simp only [Act.put, List.getElem_toArray, List.getElem_cons_zero, List.getElem_cons_succ, List.setIfInBounds_toArray, List.set_cons_zero, List.set_cons_succ]
        refine wpAnyH_take (i := 9) (v := ?_) rfl (by kernel_rfl) (by kernel_rfl) (by kernel_rfl) (fun _ _ _ h => h) (Or.inl ⟨by rfl, ?_⟩) (by assumption) ?_
        rotate_left 1
        · (intro w hSw; (obtain ⟨s0, s1, s2⟩ := hSw); go_simp; try with_reducible rfl)
        try simp only [Act.put, List.getElem_toArray, List.getElem_cons_zero, List.getElem_cons_succ, List.setIfInBounds_toArray, List.set_cons_zero, List.set_cons_succ]
        refine wpAnyH_take (i := 10) (v := ?_) rfl (by kernel_rfl) (by kernel_rfl) (by kernel_rfl) (fun _ _ _ h => h) (Or.inl ⟨by rfl, ?_⟩) (by assumption) ?_
        rotate_left 1
        · (intro w hSw; (obtain ⟨s0, s1, s2⟩ := hSw); go_simp; try with_reducible rfl)
        try simp only [Act.put, List.getElem_toArray, List.getElem_cons_zero, List.getElem_cons_succ, List.setIfInBounds_toArray, List.set_cons_zero, List.set_cons_succ]
        refine wpAnyH_take (i := 11) (v := ?_) rfl (by kernel_rfl) (by kernel_rfl) (by kernel_rfl) (fun _ _ _ h => h) (Or.inl ⟨by rfl, ?_⟩) (by assumption) ?_
        rotate_left 1
        · (intro w hSw; (obtain ⟨s0, s1, s2⟩ := hSw); go_simp; try with_reducible rfl)
        try simp only [Act.put, List.getElem_toArray, List.getElem_cons_zero, List.getElem_cons_succ, List.setIfInBounds_toArray, List.set_cons_zero, List.set_cons_succ]
        refine wpAnyH_ready (rs := [12]) (by kernel_rfl) (by simp) ?_
        refine AllReadyH.cons rfl (fun K hK => ?_) AllReadyH.nil
        go_simp
        refine hK.out _ _ (⟨by simpa [go_sem, nb0, nb1] using hHeld.1, by simpa [go_sem, nb0, nb1] using hHeld.2.1, by simpa [go_sem, nb0, nb1] using hHeld.2.2⟩) (fun hHeld => ?_)
        clear hK K
        try simp only [Act.put, List.getElem_toArray, List.getElem_cons_zero, List.getElem_cons_succ, List.setIfInBounds_toArray, List.set_cons_zero, List.set_cons_succ]
        refine wpAnyH_take (i := 13) (v := ?_) rfl (by kernel_rfl) (by kernel_rfl) (by kernel_rfl) (fun _ _ _ h => h) (Or.inl ⟨by rfl, ?_⟩) (by assumption) ?_
        rotate_left 1
        · (intro w hSw; (obtain ⟨s0, s1, s2⟩ := hSw); go_simp; try with_reducible rfl)
        try simp only [Act.put, List.getElem_toArray, List.getElem_cons_zero, List.getElem_cons_succ, List.setIfInBounds_toArray, List.set_cons_zero, List.set_cons_succ]
        refine wpAnyH_done (by kernel_rfl) ?_ _
        have r0 := A0.out.gr gk
        obtain ⟨r1, r2, r3, r4⟩ := r0
        have GF : Hid (Gb w w2) := gb_trans GD.out gk.gb
        clear hHeld gk ca x0 x1 FS c1
        go_wp2
        exact bodyPost_ret (v := .tuple #[Wd 0, .int .i64 10]) (by simp [results, Try.results24, go_sem, hi, lo, r1, r2]) rfl ⟨by rw [VZ.out.1, VZ.out.2], by repeat (first | exact GF.out | refine gb_set ?_ (by simp) _)⟩
    · have hqi : ¬ (q : Int) < (n : Int) := by omega
      have VZ : Hid (v = estTo t code q ∧ z = 0) := by
        have h := X.out.2
        rw [show q = n by omega] at h ⊢
        rcases HV.out with h2 | h2
        · exact h2.2
        · omega
      generalize estTo t code q = sq at *
      obtain ⟨x0, x1, _, _⟩ := X.out.1.sum
      obtain ⟨r1, r2, r3, r4⟩ := X.out.1.res
      have GF : Hid (Gb w wr) := X.out.1.gb
      clear X
      go_wp2
      exact bodyPost_ret (v := .tuple #[Wd sq, .int .i64 0]) (by simp [results, Try.results24, go_sem, r1, r2]) rfl ⟨by rw [VZ.out.1, VZ.out.2], by repeat (first | exact GF.out | refine gb_set ?_ (by simp) _)⟩
end Go.Proofs.Ytblfmhdcgmkpgaa
