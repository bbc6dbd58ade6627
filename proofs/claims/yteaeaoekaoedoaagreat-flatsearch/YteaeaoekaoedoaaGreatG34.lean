import Derived.Test.YteaeaoekaoedoaaGreatFRefH
import Derived.Test.YteaeaoekaoedoaaGreatRRows
import Derived.Test.YteaeaoekaoedoaaGreatFAwake
/- The reference's Check, Asked, Range. -/
namespace Go.Proofs.YteaeaoekaoedoaaGreat
open Go.RowKit Go.Sort Go.Maps

set_option maxHeartbeats 1000000 in
theorem rflat_c {w : World} {v : Value} {rs : List Rw} (hv : RdW w v rs) (hlen : rs.length ≤ 4611686018427387904) (d : Int) :
    Calls Tryz.prog 16 #[v, .int .i64 d] w fun e w' => e = .returned (.int .i64 (flatE rs d)) ∧ Gr w w' := by
  have c := rrows_c hv d hlen
  obtain ⟨a, cap, rfl, _⟩ := hv
  unfold flatE
  generalize rs.length = n at *
  generalize idsE rs d = z at *
  by_cases h1 : d < 1
  · rw [if_neg (by omega)]
    go_enter Tryz.func16, Tryz.ntmps16
    go_wp2
    go_ret
    exact ⟨rfl, Gr.refl _⟩
  · by_cases h2 : 64 < d
    · rw [if_neg (by omega)]
      go_enter Tryz.func16, Tryz.ntmps16
      go_wp2
      go_ret
      exact ⟨rfl, Gr.refl _⟩
    · rw [if_pos (by omega)]
      go_enter Tryz.func16, Tryz.ntmps16
      go_wp2_with (go_at_call 37; refine c.mono ?_; rintro e w' ⟨rfl, g⟩)
      go_ret
      exact ⟨rfl, g⟩
set_option maxHeartbeats 1000000 in
theorem rask_c {w : World} {v u : Value} {rs : List Rw} {q : List Int} (hv : RdW w v rs) (hu : RdI w u q) (hlen : rs.length ≤ 4611686018427387904) :
    Calls Tryz.prog 21 #[v, u] w fun e w' => e = .returned (.int .i64 (askE rs q)) ∧ Gr w w' := by
  have c1 := rcheck_c hu (q.length : Int)
  have c2 := rflat_c hv hlen (q.length : Int)
  obtain ⟨a, cap, rfl, _⟩ := hv
  obtain ⟨au, cu, rfl, _⟩ := hu
  unfold askE
  generalize flatE rs (q.length : Int) = z2 at *
  by_cases h : chk q (q.length : Int) = 0
  · rw [if_pos h]
    rw [h] at c1
    clear h
    generalize rs.length = n at *
    generalize q.length = m at *
    go_enter Tryz.func21, Tryz.ntmps21
    go_wp2_with fail
    refine c1.mono ?_
    rintro e w' ⟨rfl, e2⟩
    subst e2
    go_wp2_with fail
    refine c2.mono ?_
    rintro e w' ⟨rfl, g⟩
    go_wp2
    go_ret
    exact ⟨rfl, g⟩
  · rw [if_neg h]
    have h' : (chk q (q.length : Int) == 0) = false := by rw [beq_eq_false_iff_ne]; exact h
    generalize chk q (q.length : Int) = z1 at *
    generalize rs.length = n at *
    generalize q.length = m at *
    go_enter Tryz.func21, Tryz.ntmps21
    go_wp2_with fail
    refine c1.mono ?_
    rintro e w' ⟨rfl, e2⟩
    subst e2
    go_wp2
    go_ret
    exact ⟨rfl, Gr.refl _⟩

/-- Those within a radius stand first. -/
theorem filter_pre {p : Tk.Ht → Bool} (hp : ∀ y z, Tk.hlt z y = false → p z = true → p y = true) : ∀ (L : List Tk.Ht) (k : Nat), Tk.Srtd L → k ≤ L.length → (∀ t, t < k → p L[t]! = true) → (k < L.length → p L[k]! = false) → L.filter p = L.take k
  | [], k, _, _, _, _ => by simp
  | y :: L, 0, hS, _, _, h2 => by
    have hy := h2 (by simp)
    simp only [List.getElem!_cons_zero] at hy
    rw [List.take_zero, List.filter_eq_nil_iff]
    intro z hz
    rcases List.mem_cons.1 hz with rfl | hz
    · rw [hy]; simp
    · intro hpz
      have := (List.pairwise_cons.1 hS).1 z hz
      rw [hp y z this hpz] at hy
      cases hy
  | y :: L, k + 1, hS, hk, h1, h2 => by
    have hy := h1 0 (by omega)
    simp only [List.getElem!_cons_zero] at hy
    rw [List.filter_cons_of_pos hy, List.take_succ_cons, filter_pre hp L k (List.pairwise_cons.1 hS).2 (by simpa using hk) (fun t ht => by have := h1 (t + 1) (by omega); simpa using this) (fun hk' => by have := h2 (by simpa using hk'); simpa using this)]
theorem srt_filter (p : Tk.Ht → Bool) (H : List Tk.Ht) : Tk.srt (H.filter p) = (Tk.srt H).filter p :=
  Tk.srt_of_perm ((Tk.srt_srtd H).sublist List.filter_sublist) ((Tk.srt_perm H).symm.filter p)
end Go.Proofs.YteaeaoekaoedoaaGreat

/- The reference's Range. -/
namespace Go.Proofs.YteaeaoekaoedoaaGreat
open Go.RowKit Go.Sort Go.Maps

theorem inRad_wd (R d : Nat) (i : Int) : inRad (hi R) (lo R) (i, hi d, lo d) = !decide (R < d) := by
  unfold inRad Tk.cw
  dsimp only
  by_cases h : R < d
  · rw [decide_eq_true h, Bool.not_true, decide_eq_false_iff_not]
    unfold hi lo
    split
    · omega
    · split <;> omega
  · rw [decide_eq_false h, Bool.not_false, decide_eq_true_eq]
    unfold hi lo
    split
    · omega
    · split
      · omega
      · exfalso; omega
theorem inRad_down (rh rl : Int) (y z : Tk.Ht) (h : Tk.hlt z y = false) (hz : inRad rh rl z = true) : inRad rh rl y = true := by
  rw [Tk.hlt_f] at h
  unfold inRad Tk.cw at *
  rw [decide_eq_true_eq] at *
  unfold Tk.Ht.hi Tk.Ht.lo Tk.Ht.id at h
  split at hz
  · split
    · omega
    · split <;> omega
  · split at hz
    · split
      · omega
      · split <;> omega
    · omega
theorem near_take {R : Nat} {q : List Int} {rs : List Rw} {k : Nat} (hk : k ≤ (Tk.srt (hitsOf q rs)).length) (h1 : ∀ t, t < k → inRad (hi R) (lo R) (Tk.srt (hitsOf q rs))[t]! = true) (h2 : k < (Tk.srt (hitsOf q rs)).length → inRad (hi R) (lo R) (Tk.srt (hitsOf q rs))[k]! = false) :
    Tk.srt (nearL (hi R) (lo R) q rs) = (Tk.srt (hitsOf q rs)).take k := by
  unfold nearL
  rw [srt_filter, filter_pre (inRad_down _ _) _ k (Tk.srt_srtd _) hk h1 h2]
theorem four_gr {w0 W w' : World} {p0 p1 q0 q1 : Addr} {v0 v1 u0 u1 : Value} (g : Gr W w') (h : Gb w0 W ∧ W.cell? p0 = some v0 ∧ W.cell? p1 = some v1 ∧ W.cell? q0 = some u0 ∧ W.cell? q1 = some u1) :
    Gb w0 w' ∧ w'.cell? p0 = some v0 ∧ w'.cell? p1 = some v1 ∧ w'.cell? q0 = some u0 ∧ w'.cell? q1 = some u1 :=
  ⟨gb_trans h.1 g.gb, g.keeps h.2.1, g.keeps h.2.2.1, g.keeps h.2.2.2.1, g.keeps h.2.2.2.2⟩

set_option maxRecDepth 100000 in
set_option maxHeartbeats 2000000 in
theorem rrange_ok {w : World} {v u : Value} {rs : List Rw} {q : List Int} {R : Nat} (hR : R < 340282366920938463463374607431768211456) (hv : RdW w v rs) (hu : RdI w u q) (hask : askE rs q = 0) :
    Calls Tryz.prog 19 #[v, u, .agg #[.int .u64 (hi R), .int .u64 (lo R)]] w fun e w' => ∃ v', e = .returned (.tuple #[v', .int .i64 0]) ∧ Tk.Rd w' v' (Tk.srt (nearL (hi R) (lo R) q rs)) ∧ Gb w w' := by
  have hfew := (askE_zero.1 hask).2.few
  have G0 : Gb w (w.alloc (.cells #[.int .u64 (hi R), .int .u64 (lo R)] 39)) := gb_alloc (Below.refl _ _) _
  have r0 : (w.alloc (.cells #[.int .u64 (hi R), .int .u64 (lo R)] 39)).cell? ⟨w.heap.size, 0, none⟩ = some (.int .u64 (hi R)) := by simp [go_sem]
  have r1 : (w.alloc (.cells #[.int .u64 (hi R), .int .u64 (lo R)] 39)).cell? ⟨w.heap.size, 1, none⟩ = some (.int .u64 (lo R)) := by simp [go_sem]
  have ca := rask_c (hv.gb G0) (hu.gb G0) (by omega)
  rw [hask] at ca
  have ch := fun W (g : Gb w W) => rhits_c (hv.gb g) (hu.gb g) hask
  have ML : Hid (∀ y ∈ Tk.srt (hitsOf q rs), ∃ (i : Int) (d : Nat), y = (i, hi d, lo d) ∧ d < 340282366920938463463374607431768211456) := fun y hy => by
    obtain ⟨r, hr, e⟩ := hit_of_mem hy
    obtain ⟨h1, h2⟩ := askE_zero.1 hask
    have h3 := chk_ok h1
    have h4 := chk_ok (h2.row r hr).2
    exact ⟨r.1, dst q r.2, e, dst_lt h3.2.2.2 h4.2.2.2 (by omega) h3.2.1⟩
  have NT : Hid (∀ k, k ≤ (Tk.srt (hitsOf q rs)).length → (∀ t, t < k → inRad (hi R) (lo R) (Tk.srt (hitsOf q rs))[t]! = true) → (k < (Tk.srt (hitsOf q rs)).length → inRad (hi R) (lo R) (Tk.srt (hitsOf q rs))[k]! = false) → Tk.srt (nearL (hi R) (lo R) q rs) = (Tk.srt (hitsOf q rs)).take k) := fun k a b c => near_take a b c
  have hLn : (Tk.srt (hitsOf q rs)).length ≤ 512 := by rw [Tk.srt_len, hitsOf_len]; exact hfew
  generalize Tk.srt (nearL (hi R) (lo R) q rs) = A at *
  generalize Tk.srt (hitsOf q rs) = L at *
  have HR : Hid (R < 340282366920938463463374607431768211456) := hR
  obtain ⟨av, cv, rfl, _⟩ := hv
  obtain ⟨au, cu, rfl, _⟩ := hu
  generalize rs.length = n at *
  generalize q.length = m at *
  clear hfew hask hR
  go_enter Tryz.func19, Tryz.ntmps19
  go_wp2_with fail
  refine ca.mono ?_
  rintro e w1 ⟨rfl, g1⟩
  have G1 := gb_trans G0 g1.gb
  have r0 := g1.keeps r0
  have r1 := g1.keeps r1
  clear ca
  go_wp2_with fail
  refine (ch w1 G1).mono ?_
  rintro e w2 ⟨vl, rfl, o2, g2, _⟩
  have r0 := gb_keeps g2 r0
  have r1 := gb_keeps g2 r1
  have G2 : Hid (Gb w w2) := gb_trans G1 g2
  clear ch g1 g2 G0 G1
  by_cases hl0 : 0 < L.length
  · obtain ⟨g, cap, rfl, hcap, lies⟩ := own_sl o2 hl0
    have LI : Hid (Tk.Lies w2 g 0 L) := lies
    obtain ⟨N, hN⟩ : ∃ N, N = L.length := ⟨_, rfl⟩
    have NH : Hid (N = L.length) := hN
    rw [← hN] at hcap hl0 hLn ⊢
    clear o2 lies hN
    go_wp2
    go_loopw [10] (fun iv W => ∃ k : Nat, iv = .int .i64 (k : Int) ∧ k ≤ N ∧ Gb w2 W ∧ Hid (∀ t, t < k → inRad (hi R) (lo R) L[t]! = true)) (fun iv _ => N - (intOf iv).toNat)
    case atStart => exact ⟨0, rfl, Nat.zero_le _, Below.refl _ _, fun t ht => absurd ht (Nat.not_lt_zero _)⟩
    case round =>
      obtain ⟨k, rfl, hk, gW, X⟩ := hrel
      have s0 := gb_keeps gW r0
      have s1 := gb_keeps gW r1
      have hkc : k ≤ cap := by omega
      have hkci : (k : Int) ≤ (cap : Int) := by omega
      have GWH : Hid (Gb w2 wr) := gW
      by_cases hkn : k < N
      · have hki : (k : Int) < (N : Int) := by omega
        have hkd : decide (k < N) = true := decide_eq_true hkn
        obtain ⟨_, y1, y2⟩ := LI.out k (by have := NH.out; omega)
        rw [Nat.zero_add] at y1 y2
        have y1 := gb_keeps gW y1
        have y2 := gb_keeps gW y2
        obtain ⟨iy, dy, ey, hdy⟩ := ML.out L[k]! (by rw [getElem!_pos L k (by have := NH.out; omega)]; exact List.getElem_mem _)
        have cl := fun W => less_any R dy HR.out hdy W
        have hin : Hid (inRad (hi R) (lo R) L[k]! = !decide (R < dy)) := by unfold Hid; rw [ey]; exact inRad_wd R dy iy
        have RDT : Hid (∀ W', Gb w2 W' → decide (R < dy) = true → Tk.Rd W' (.slice (some ⟨g, 0, none⟩) k cap) A) := fun W' gW' ht => by
          rw [NT.out k (by have := NH.out; omega) X.out (fun _ => by rw [hin.out, ht]; rfl)]
          have h1 := rd_take (cap := cap) LI.out NH.out.symm (Nat.le_of_lt hkn)
          exact h1.gr gW'
        rw [ey] at y1 y2
        unfold Tk.Ht.hi at y1
        unfold Tk.Ht.lo at y2
        dsimp only at y1 y2
        have dr : Gb wr wr.drew := (Below.refl _ _).drew
        clear ey gW
        cases ht : decide (R < dy) with
        | true =>
          have RDT' : Hid (∀ W', Gb w2 W' → Tk.Rd W' (.slice (some ⟨g, 0, none⟩) k cap) A) := fun W' gW' => RDT.out W' gW' ht
          simp only [ht] at cl
          clear RDT hin ht X
          go_wp2
          go_region_held3 (fun w' => Gb wr w' ∧ w'.cell? ⟨w.heap.size, 0, none⟩ = some (.int .u64 (hi R)) ∧ w'.cell? ⟨w.heap.size, 1, none⟩ = some (.int .u64 (lo R)) ∧ w'.cell? ⟨g, k * 3 + 1, none⟩ = some (.int .u64 (hi dy)) ∧ w'.cell? ⟨g, k * 3 + 2, none⟩ = some (.int .u64 (lo dy)))
            (first | (with_reducible exact four_gr (by assumption) (by assumption)) | exact ⟨dr, s0, s1, y1, y2⟩)
            (first | (go_at_call 43; refine (cl _).mono ?_; rintro e w6 ⟨rfl, g6⟩))
          all_goals
            have G6 : Gb w2 w6 := gb_trans GWH.out (gb_trans dr g6.gb)
            have R6 := RDT'.out w6 G6
            clear cl g6 RDT'
            go_wp2
            go_ret2
            exact ⟨_, rfl, R6, gb_trans G2.out G6⟩
        | false =>
          have X2 : Hid (∀ t, t < k + 1 → inRad (hi R) (lo R) L[t]! = true) := fun t ht' => by
            by_cases e : t = k
            · rw [e, hin.out, ht]; rfl
            · exact X.out t (by omega)
          simp only [ht] at cl
          clear RDT hin ht X
          go_wp2
          go_region_held3 (fun w' => Gb wr w' ∧ w'.cell? ⟨w.heap.size, 0, none⟩ = some (.int .u64 (hi R)) ∧ w'.cell? ⟨w.heap.size, 1, none⟩ = some (.int .u64 (lo R)) ∧ w'.cell? ⟨g, k * 3 + 1, none⟩ = some (.int .u64 (hi dy)) ∧ w'.cell? ⟨g, k * 3 + 2, none⟩ = some (.int .u64 (lo dy)))
            (first | (with_reducible exact four_gr (by assumption) (by assumption)) | exact ⟨dr, s0, s1, y1, y2⟩)
            (first | (go_at_call 43; refine (cl _).mono ?_; rintro e w6 ⟨rfl, g6⟩))
          all_goals
            have G6 : Gb w2 w6 := gb_trans GWH.out (gb_trans dr g6.gb)
            clear cl g6
            go_wp2
            exact ⟨⟨k + 1, by go_num, hkn, G6, X2⟩, by simp [intOf]; omega⟩
      · have hkN : k = N := by omega
        subst hkN
        have RDT' : Hid (∀ W', Gb w2 W' → Tk.Rd W' (.slice (some ⟨g, 0, none⟩) k cap) A) := fun W' gW' => by
          rw [NT.out k (by have := NH.out; omega) X.out (fun h => by have := NH.out; omega)]
          exact (rd_take (cap := cap) LI.out NH.out.symm (Nat.le_refl _)).gr gW'
        clear X gW hkn
        go_wp2
        go_quiet (fail)
        have G6 : Gb w2 (wr.drewN nq) := gb_trans GWH.out (below_drewN (Below.refl _ _) _)
        have R6 := RDT'.out _ G6
        clear RDT'
        go_wp2
        go_ret2
        exact ⟨_, rfl, R6, gb_trans G2.out G6⟩
  · have hL : L = [] := List.eq_nil_of_length_eq_zero (by omega)
    subst hL
    have hA : A = [] := by have := NT.out 0 (Nat.zero_le _) (fun t ht => absurd ht (Nat.not_lt_zero _)) (fun h => absurd h (by simp)); simpa using this
    subst hA
    obtain ⟨xa, xc, exv⟩ : ∃ xa xc, vl = .slice xa 0 xc := own_fm o2 rfl
    subst exv
    have hRD : ∀ W, Tk.Rd W (.slice xa 0 xc) [] := fun W => by
      rcases o2.2 with ⟨e, _⟩ | ⟨g, cap, cur, e, _⟩
      · rw [e]; exact .inl ⟨rfl, rfl⟩
      · rw [e]; exact .inr (.inl ⟨_, _, rfl, rfl⟩)
    have RD : Hid (∀ W, Tk.Rd W (.slice xa 0 xc) []) := hRD
    clear o2 hRD NT ML hl0 hLn
    go_wp2
    go_loopw [10] (fun iv W => iv = .int .i64 0 ∧ w2 = W) (fun _ _ => 0)
    case atStart => exact ⟨rfl, rfl⟩
    case round =>
      obtain ⟨rfl, rfl⟩ := hrel
      go_wp2
      go_quiet (fail)
      have G6 : Gb w2 (w2.drewN nq) := below_drewN (Below.refl _ _) _
      go_wp2
      go_ret2
      exact ⟨_, rfl, RD.out _, gb_trans G2.out G6⟩
set_option maxHeartbeats 1000000 in
theorem rrange_no {w : World} {v u : Value} {rs : List Rw} {q : List Int} (rh rl : Int) (hv : RdW w v rs) (hu : RdI w u q) (hlen : rs.length ≤ 4611686018427387904) (hz : askE rs q ≠ 0) :
    Calls Tryz.prog 19 #[v, u, .agg #[.int .u64 rh, .int .u64 rl]] w fun e w' => e = .returned (.tuple #[.slice none 0 0, .int .i64 (askE rs q)]) ∧ Gb w w' := by
  have G0 : Gb w (w.alloc (.cells #[.int .u64 rh, .int .u64 rl] 39)) := gb_alloc (Below.refl _ _) _
  have ca := rask_c (hv.gb G0) (hu.gb G0) hlen
  have hz' : (askE rs q == 0) = false := by rw [beq_eq_false_iff_ne]; exact hz
  obtain ⟨av, cv, rfl, _⟩ := hv
  obtain ⟨au, cu, rfl, _⟩ := hu
  generalize rs.length = n at *
  generalize q.length = m at *
  generalize askE rs q = z at *
  go_enter Tryz.func19, Tryz.ntmps19
  go_wp2_with fail
  refine ca.mono ?_
  rintro e w1 ⟨rfl, g1⟩
  go_wp2
  go_ret2
  exact ⟨rfl, gb_trans G0 g1.gb⟩
end Go.Proofs.YteaeaoekaoedoaaGreat
