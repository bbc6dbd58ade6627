/- VecRegions: the walk. -/
import Derived.Test.YtnhaloeeaejedaaBig
import Derived.Test.YtnhaloeeaejedaaRBound
namespace Go.Proofs.Ytnhaloeeaejedaa
open Go.RowKit Go.Sort Go.Maps

set_option maxHeartbeats 16000000 in
set_option maxRecDepth 100000 in
theorem regions_in {w : World} {v u : Value} {r : Reg} {a : List Int} (hv : RdR w v r) (hu : RdI w u a) (hb : bg r = false) (la : a.length ≤ 65536) (hR : r.R < 340282366920938463463374607431768211456) (d : Int) :
    Calls Try.prog 4 #[v, u, .int .i64 d] w fun e w' => e = .returned (.bool true) ∧ Gb w w' := by
  have hlens : r.L.length ≤ 65536 ∧ r.H.length ≤ 65536 ∧ r.I.length ≤ 65536 := by unfold bg at hb; simp at hb; omega
  have hlen : r.I.length ≤ 4611686018427387904 := by omega
  have HV : Hid (RdR w v r) := hv
  obtain ⟨vl, vh, vi, rfl, hL, hH, hI⟩ := hv
  have G0 : Gr w (w.alloc (rc r vl vh vi)) := (Gr.refl _).alloc _ _
  have RA : Hid (RegAt (w.alloc (rc r vl vh vi)) w.heap.size r vl vh vi) := RegAt.new w r vl vh vi
  have C16 := big_c (HV.out.gb G0.gb)
  rw [hb] at C16
  have CL := fun W' (g : Gb w W') => lend_c (hL.gb g) hlens.1
  have CH := fun W' (g : Gb w W') => lend_c (hH.gb g) hlens.2.1
  have CI := fun W' (g : Gb w W') => lend_c (hI.gb g) hlens.2.2
  have C17 := fun V b gx gy gz (s : St w V r vl vh vi b gx gy gz) => checkRegion_c s.rd hlen d
  have C18 := fun V b gx gy gz (s : St w V r vl vh vi b gx gy gz) => inside_c s.rd (hu.gb s.gb) hlen
  have C19 := fun V b gx gy gz (s : St w V r vl vh vi b gx gy gz) => bound_c s.rd (hu.gb s.gb) hlen hR
  have CX := fun V gx (l : Lent V w.heap.size gx r.L) (g : Gb w V) => back_c l (hL.gb g) hlens.1
  have CY := fun V gx (l : Lent V w.heap.size gx r.H) (g : Gb w V) => back_c l (hH.gb g) hlens.2.1
  have CZ := fun V gx (l : Lent V w.heap.size gx r.I) (g : Gb w V) => back_c l (hI.gb g) hlens.2.2
  have C20 := fun V (g : Gb w V) => rinside_c (HV.out.gb g) (hu.gb g) hlen hR
  have C21 := fun V (g : Gb w V) => rbound_c (HV.out.gb g) (hu.gb g) hlen hR
  have C22 := fun V (g : Gb w V) => rckR_c (HV.out.gb g) hlen d
  obtain ⟨pl, cl, rfl, _⟩ := hL
  obtain ⟨ph, ch, rfl, _⟩ := hH
  obtain ⟨pi, ci, rfl, _⟩ := hI
  obtain ⟨pa, ca, rfl, _⟩ := hu
  generalize ckR r d = KK at *
  generalize insV r a = iv at *
  generalize ckB r a = eb at *
  generalize bndV r a = D at *
  clear hb hlen hR HV
  obtain ⟨S, L, H, R, I⟩ := r
  dsimp only [lv] at *
  obtain ⟨nl, hnl⟩ : ∃ n, L.length = n := ⟨_, rfl⟩
  obtain ⟨nh, hnh⟩ : ∃ n, H.length = n := ⟨_, rfl⟩
  obtain ⟨ni, hni⟩ : ∃ n, I.length = n := ⟨_, rfl⟩
  generalize hna : a.length = na at *
  simp only [hnl, hnh, hni] at CL CH CI C17 C18 C19 CX CY CZ C20 C21 C22 hlens C16 G0 RA ⊢
  have k2 : ¬ (65536 : Int) < na := by omega
  go_enter Try.func4, Try.ntmps4
  go_wp2_with fail
  refine C16.mono ?_
  rintro e w1 ⟨rfl, g1⟩
  have GB : Gb w w1.drew := (G0.trans g1).drew.gb
  have hR0 := RA.out.gb g1.drew.gb
  have sz : w.heap.size + 1 ≤ w1.drew.heap.size := by have := g1.size; simpa using this
  clear C16 G0 RA g1
  go_wp2
  refine wp_region_held_drew (S := fun w' => RegAt w' w.heap.size ⟨S, L, H, R, I⟩ (.slice pl nl cl) (.slice ph nh ch) (.slice pi ni ci)) (by kernel_rfl) hR0 (fun hHeld => ?_)
  clear hR0
  generalize w1.drew = w2 at *
  refine wpAnyH_take (i := 0) (v := ?_) rfl (by kernel_rfl) (by kernel_rfl) (by kernel_rfl) (fun _ _ _ h => h) (Or.inl ⟨by rfl, ?_⟩) (by assumption) ?_
  rotate_left 1
  · (intro w' hSw; obtain ⟨p0, p1, p2, p3, p4, p5⟩ := hSw; dsimp only at p0 p1 p2 p3 p4 p5; go_simp; try with_reducible rfl)
  try simp only [Act.put, List.setIfInBounds_toArray]
  refine wpAnyH_take (i := 1) (v := ?_) rfl (by kernel_rfl) (by kernel_rfl) (by kernel_rfl) (fun _ _ _ h => h) (Or.inl ⟨by rfl, ?_⟩) (by assumption) ?_
  rotate_left 1
  · (intro w' hSw; obtain ⟨p0, p1, p2, p3, p4, p5⟩ := hSw; dsimp only at p0 p1 p2 p3 p4 p5; go_simp; try with_reducible rfl)
  try simp only [Act.put]
  refine wpAnyH_take (i := 2) (v := ?_) rfl (by kernel_rfl) (by kernel_rfl) (by kernel_rfl) (fun _ _ _ h => h) (Or.inl ⟨by rfl, ?_⟩) (by assumption) ?_
  rotate_left 1
  · (intro w' hSw; obtain ⟨p0, p1, p2, p3, p4, p5⟩ := hSw; dsimp only at p0 p1 p2 p3 p4 p5; go_simp; try with_reducible rfl)
  try simp only [Act.put]
  refine wpAnyH_take (i := 3) (v := ?_) rfl (by kernel_rfl) (by kernel_rfl) (by kernel_rfl) (fun _ _ _ h => h) (Or.inl ⟨by rfl, ?_⟩) (by assumption) ?_
  rotate_left 1
  · (intro w' hSw; obtain ⟨p0, p1, p2, p3, p4, p5⟩ := hSw; dsimp only at p0 p1 p2 p3 p4 p5; go_simp; try with_reducible rfl)
  try simp only [Act.put]
  refine wpAnyH_take (i := 5) (v := ?_) rfl (by kernel_rfl) (by kernel_rfl) (by kernel_rfl) (fun _ _ _ h => h) (Or.inl ⟨by rfl, ?_⟩) (by assumption) ?_
  rotate_left 1
  · (intro w' hSw; obtain ⟨p0, p1, p2, p3, p4, p5⟩ := hSw; dsimp only at p0 p1 p2 p3 p4 p5; go_simp; try with_reducible rfl)
  try simp only [Act.put]
  refine wpAnyH_take (i := 6) (v := ?_) rfl (by kernel_rfl) (by kernel_rfl) (by kernel_rfl) (fun _ _ _ h => h) (Or.inl ⟨by rfl, ?_⟩) (by assumption) ?_
  rotate_left 1
  · (intro w' hSw; obtain ⟨p0, p1, p2, p3, p4, p5⟩ := hSw; dsimp only at p0 p1 p2 p3 p4 p5; go_simp; try with_reducible rfl)
  try simp only [Act.put]
  refine wpAnyH_take (i := 8) (v := ?_) rfl (by kernel_rfl) (by kernel_rfl) (by kernel_rfl) (fun _ _ _ h => h) (Or.inl ⟨by rfl, ?_⟩) (by assumption) ?_
  rotate_left 1
  · (intro w' hSw; obtain ⟨p0, p1, p2, p3, p4, p5⟩ := hSw; dsimp only at p0 p1 p2 p3 p4 p5; go_simp; try with_reducible rfl)
  try simp only [Act.put]
  refine wpAnyH_take (i := 9) (v := ?_) rfl (by kernel_rfl) (by kernel_rfl) (by kernel_rfl) (fun _ _ _ h => h) (Or.inl ⟨by rfl, ?_⟩) (by assumption) ?_
  rotate_left 1
  · (intro w' hSw; obtain ⟨p0, p1, p2, p3, p4, p5⟩ := hSw; dsimp only at p0 p1 p2 p3 p4 p5; go_simp; try with_reducible rfl)
  try simp only [Act.put]
  refine wpAnyH_take (i := 10) (v := ?_) rfl (by kernel_rfl) (by kernel_rfl) (by kernel_rfl) (fun _ _ _ h => h) (Or.inl ⟨by rfl, ?_⟩) (by assumption) ?_
  rotate_left 1
  · (intro w' hSw; obtain ⟨p0, p1, p2, p3, p4, p5⟩ := hSw; dsimp only at p0 p1 p2 p3 p4 p5; go_simp; try with_reducible rfl)
  try simp only [Act.put]
  refine wpAnyH_take (i := 11) (v := ?_) rfl (by kernel_rfl) (by kernel_rfl) (by kernel_rfl) (fun _ _ _ h => h) (Or.inl ⟨by rfl, ?_⟩) (by assumption) ?_
  rotate_left 1
  · (intro w' hSw; obtain ⟨p0, p1, p2, p3, p4, p5⟩ := hSw; dsimp only at p0 p1 p2 p3 p4 p5; go_simp; try with_reducible rfl)
  try simp only [Act.put]
  refine wpAnyH_ready (rs := [4, 14]) (by kernel_rfl) (by simp) ?_
  refine AllReadyH.cons rfl (fun K hK => ?_) (AllReadyH.cons rfl (fun K hK => ?_) (AllReadyH.nil))
  · go_simp
    go_at_call 9
    refine (CL _ GB).mono ?_
    rintro e v1 ⟨gx, rfl, LX, k1⟩
    have u4 := LX.1
    have l4 := LX.lt
    have s4 := k1.size
    refine hK.out _ _ (hHeld.gb k1) (fun hHeld => ?_)
    clear hK K
    try simp only [Act.put, List.setIfInBounds_toArray, List.set_cons_zero, List.set_cons_succ]
    replace GB := gb_trans GB k1
    clear k1
    refine wpAnyH_ready (rs := [7, 14]) (by kernel_rfl) (by simp) ?_
    refine AllReadyH.cons rfl (fun K hK => ?_) (AllReadyH.cons rfl (fun K hK => ?_) (AllReadyH.nil))
    · go_simp
      go_at_call 9
      refine (CH _ GB).mono ?_
      rintro e v2 ⟨gy, rfl, LY, k2⟩
      have u7 := LY.1
      have l7 := LY.lt
      have s7 := k2.size
      refine hK.out _ _ (hHeld.gb k2) (fun hHeld => ?_)
      clear hK K
      try simp only [Act.put, List.setIfInBounds_toArray, List.set_cons_zero, List.set_cons_succ]
      replace GB := gb_trans GB k2
      replace LX := LX.gb k2
      clear k2
      refine wpAnyH_ready (rs := [12, 14]) (by kernel_rfl) (by simp) ?_
      refine AllReadyH.cons rfl (fun K hK => ?_) (AllReadyH.cons rfl (fun K hK => ?_) (AllReadyH.nil))
      · go_simp
        go_at_call 9
        refine (CI _ GB).mono ?_
        rintro e v3 ⟨gz, rfl, LZ, k3⟩
        have u12 := LZ.1
        have l12 := LZ.lt
        have s12 := k3.size
        refine hK.out _ _ (hHeld.gb k3) (fun hHeld => ?_)
        clear hK K
        try simp only [Act.put, List.setIfInBounds_toArray, List.set_cons_zero, List.set_cons_succ]
        replace GB := gb_trans GB k3
        replace LX := LX.gb k3
        replace LY := LY.gb k3
        clear k3
        refine wpAnyH_take (i := 13) (v := ?_) rfl (by kernel_rfl) (by kernel_rfl) (by kernel_rfl) (fun _ _ _ h => h) (Or.inl ⟨by rfl, ?_⟩) (by assumption) ?_
        rotate_left 1
        · (intro w' hSw; obtain ⟨p0, p1, p2, p3, p4, p5⟩ := hSw; dsimp only at p0 p1 p2 p3 p4 p5; go_simp; try with_reducible rfl)
        try simp only [Act.put, List.setIfInBounds_toArray]
        refine wpAnyH_ready (rs := [14]) (by kernel_rfl) (by simp) ?_
        refine AllReadyH.cons rfl (fun K hK => ?_) (AllReadyH.nil)
        go_simp
        have k4 : Gb v3 (v3.alloc (.cells #[.int .i64 0, .slice none 0 0, .slice none 0 0, .int .u64 0, .int .u64 0, .slice none 0 0] 36)) := gb_alloc (Below.refl _ _) _
        have HB : (v3.alloc (.cells #[.int .i64 0, .slice none 0 0, .slice none 0 0, .int .u64 0, .int .u64 0, .slice none 0 0] 36)).heap[v3.heap.size]? = some (.cells #[.int .i64 0, .slice none 0 0, .slice none 0 0, .int .u64 0, .int .u64 0, .slice none 0 0] 36) := by show (v3.heap.push _)[v3.heap.size]? = _; simp
        have hbl : v3.heap.size < (v3.alloc (.cells #[.int .i64 0, .slice none 0 0, .slice none 0 0, .int .u64 0, .int .u64 0, .slice none 0 0] 36)).heap.size := by simp
        have sA : (v3.alloc (.cells #[.int .i64 0, .slice none 0 0, .slice none 0 0, .int .u64 0, .int .u64 0, .slice none 0 0] 36)).heap.size = v3.heap.size + 1 := by simp
        refine hK.out _ _ (hHeld.gb k4) (fun hHeld => ?_)
        clear hK K
        try simp only [Act.put, List.setIfInBounds_toArray, List.set_cons_zero, List.set_cons_succ]
        replace GB := gb_trans GB k4
        replace LX := LX.gb k4
        replace LY := LY.gb k4
        replace LZ := LZ.gb k4
        clear k4
        generalize v3.alloc (.cells #[.int .i64 0, .slice none 0 0, .slice none 0 0, .int .u64 0, .int .u64 0, .slice none 0 0] 36) = v4 at GB HB hbl sA hHeld LX LY LZ ⊢
        generalize hb7 : v3.heap.size = b7 at *
        have ST := st_put (r := ⟨S, L, H, R, I⟩) (w := w) hHeld HB ⟨by omega, LX.2⟩ ⟨by omega, LY.2⟩ ⟨by omega, LZ.2⟩ (by omega) (by omega) (by omega) (by omega) (by omega) (by omega) (by omega) (by omega) (by omega) (by omega) GB (by omega)
        dsimp only [set6, lv] at ST
        have f0 : v4.cell? ⟨b7, 0, none⟩ = some (.int .i64 0) := by simp [World.cell?, HB]
        have z0 : v4.frozen? ⟨b7, 0, none⟩ = false := by simp [World.frozen?, HB]
        have f1 : v4.cell? ⟨b7, 1, none⟩ = some (.slice none 0 0) := by simp [World.cell?, HB]
        have z1 : v4.frozen? ⟨b7, 1, none⟩ = false := by simp [World.frozen?, HB]
        have f2 : v4.cell? ⟨b7, 2, none⟩ = some (.slice none 0 0) := by simp [World.cell?, HB]
        have z2 : v4.frozen? ⟨b7, 2, none⟩ = false := by simp [World.frozen?, HB]
        have f3 : v4.cell? ⟨b7, 3, none⟩ = some (.int .u64 0) := by simp [World.cell?, HB]
        have z3 : v4.frozen? ⟨b7, 3, none⟩ = false := by simp [World.frozen?, HB]
        have f4 : v4.cell? ⟨b7, 4, none⟩ = some (.int .u64 0) := by simp [World.cell?, HB]
        have z4 : v4.frozen? ⟨b7, 4, none⟩ = false := by simp [World.frozen?, HB]
        have f5 : v4.cell? ⟨b7, 5, none⟩ = some (.slice none 0 0) := by simp [World.cell?, HB]
        have z5 : v4.frozen? ⟨b7, 5, none⟩ = false := by simp [World.frozen?, HB]
        clear HB LX LY LZ hbl
        refine wpAnyH_ready (rs := [15]) (by kernel_rfl) (by simp) ?_
        refine AllReadyH.cons rfl (fun K hK => ?_) (AllReadyH.nil)
        go_simp
        simp only [hnl, hnh, hni] at ST
        refine hK.out _ _ ST.own (fun hHeld => ?_)
        clear hK K
        try simp only [Act.put, List.setIfInBounds_toArray, List.set_cons_zero, List.set_cons_succ]
        refine wpAnyH_done (by kernel_rfl) ?_ _
        clear hHeld GB f0 z0 f1 z1 f2 z2 f3 z3 f4 z4 f5 z5
        generalize ((((((v4.setCell ⟨b7, 0, none⟩ (.int .i64 S)).setCell ⟨b7, 1, none⟩ (.slice (some ⟨gx, 0, none⟩) nl (nl + 1))).setCell ⟨b7, 2, none⟩ (.slice (some ⟨gy, 0, none⟩) nh (nh + 1))).setCell ⟨b7, 3, none⟩ (.int .u64 (hi R))).setCell ⟨b7, 4, none⟩ (.int .u64 (lo R))).setCell ⟨b7, 5, none⟩ (.slice (some ⟨gz, 0, none⟩) ni (ni + 1))) = V at ST ⊢
        have SS : Hid (St w V ⟨S, L, H, R, I⟩ (.slice pl nl cl) (.slice ph nh ch) (.slice pi ni ci) b7 gx gy gz) := ST
        obtain ⟨c0, c1, c2, c3, c4, c5⟩ := SS.out.cpy
        dsimp only [lv] at c0 c1 c2 c3 c4 c5
        rw [hnl] at c1; rw [hnh] at c2; rw [hni] at c5
        go_wp2_with fail
        refine (C17 _ _ _ _ _ SS.out).mono ?_
        rintro e x1 ⟨rfl, m1⟩
        have S1 : Hid (St w x1 ⟨S, L, H, R, I⟩ (.slice pl nl cl) (.slice ph nh ch) (.slice pi ni ci) b7 gx gy gz) := SS.out.more m1.gb
        clear SS ST c0 c1 c2 c3 c4 c5 m1 C17
        obtain ⟨c0, c1, c2, c3, c4, c5⟩ := S1.out.cpy
        dsimp only [lv] at c0 c1 c2 c3 c4 c5
        rw [hnl] at c1; rw [hnh] at c2; rw [hni] at c5
        go_wp2_with fail
        refine (C18 _ _ _ _ _ S1.out).mono ?_
        rintro e x2 ⟨rfl, m2⟩
        have S2 : Hid (St w x2 ⟨S, L, H, R, I⟩ (.slice pl nl cl) (.slice ph nh ch) (.slice pi ni ci) b7 gx gy gz) := S1.out.more m2.gb
        clear S1 c0 c1 c2 c3 c4 c5 m2 C18
        obtain ⟨c0, c1, c2, c3, c4, c5⟩ := S2.out.cpy
        dsimp only [lv] at c0 c1 c2 c3 c4 c5
        rw [hnl] at c1; rw [hnh] at c2; rw [hni] at c5
        go_wp2_with fail
        refine (C19 _ _ _ _ _ S2.out).mono ?_
        rintro e x3 ⟨rfl, m3⟩
        have S3 : Hid (St w (x3.alloc (.cells #[.int .u64 (hi D), .int .u64 (lo D)] 26)) ⟨S, L, H, R, I⟩ (.slice pl nl cl) (.slice ph nh ch) (.slice pi ni ci) b7 gx gy gz ∧ At2 (x3.alloc (.cells #[.int .u64 (hi D), .int .u64 (lo D)] 26)) x3.heap.size D ∧ x3.heap.size ≠ gx ∧ x3.heap.size ≠ gy ∧ x3.heap.size ≠ gz) := by
          have h := S2.out.more m3.gb
          have a1 := h.lx.lt
          have a2 := h.ly.lt
          have a3 := h.lz.lt
          exact ⟨h.more (gb_alloc (Below.refl _ _) _), At2.new x3 D 26, by omega, by omega, by omega⟩
        clear S2 c0 c1 c2 c3 c4 c5 m3 C19
        obtain ⟨c0, c1, c2, c3, c4, c5⟩ := S3.out.1.cpy
        dsimp only [lv] at c0 c1 c2 c3 c4 c5
        rw [hnl] at c1; rw [hnh] at c2; rw [hni] at c5
        obtain ⟨o0, o1, o2, o3, o4, o5⟩ := S3.out.1.own
        dsimp only at o0 o1 o2 o3 o4 o5
        go_wp2_with fail
        refine (CX _ _ S3.out.1.lx S3.out.1.gb).mono ?_
        rintro e x5 ⟨rfl, n5⟩
        have S5 : Hid (RegAt x5 w.heap.size ⟨S, L, H, R, I⟩ (.slice pl nl cl) (.slice ph nh ch) (.slice pi ni ci) ∧ RegAt x5 b7 ⟨S, L, H, R, I⟩ (lv gx L) (lv gy H) (lv gz I) ∧ Lent x5 w.heap.size gy H ∧ Lent x5 w.heap.size gz I ∧ Gb w x5 ∧ At2 x5 x3.heap.size D) := by
          obtain ⟨h, hA, e1, e2, e3⟩ := S3.out
          exact ⟨h.own.block (n5.block _ h.own.lt (by simpa using h.o1)), h.cpy.block (n5.block _ h.cpy.lt (by simpa using h.m1)), h.ly.far n5 (Ne.symm h.n1), h.lz.far n5 (Ne.symm h.n2), gb_grown h.gb n5 h.lx.1, grown_at2 n5 hA e1⟩
        clear c0 c1 c2 c3 c4 c5 o0 o1 o2 o3 o4 o5 n5 CX
        obtain ⟨c0, c1, c2, c3, c4, c5⟩ := S5.out.2.1
        dsimp only [lv] at c0 c1 c2 c3 c4 c5
        rw [hnl] at c1; rw [hnh] at c2; rw [hni] at c5
        obtain ⟨o0, o1, o2, o3, o4, o5⟩ := S5.out.1
        dsimp only at o0 o1 o2 o3 o4 o5
        go_wp2_with fail
        refine (CY _ _ S5.out.2.2.1 S5.out.2.2.2.2.1).mono ?_
        rintro e x6 ⟨rfl, n6⟩
        have S6 : Hid (RegAt x6 w.heap.size ⟨S, L, H, R, I⟩ (.slice pl nl cl) (.slice ph nh ch) (.slice pi ni ci) ∧ RegAt x6 b7 ⟨S, L, H, R, I⟩ (lv gx L) (lv gy H) (lv gz I) ∧ Lent x6 w.heap.size gz I ∧ Gb w x6 ∧ At2 x6 x3.heap.size D) := by
          obtain ⟨h, _, e1, e2, e3⟩ := S3.out
          obtain ⟨q1, q2, q3, q4, q5, q6⟩ := S5.out
          exact ⟨q1.block (n6.block _ q1.lt (by simpa using h.o2)), q2.block (n6.block _ q2.lt (by simpa using h.m2)), q4.far n6 (Ne.symm h.n3), gb_grown q5 n6 q3.1, grown_at2 n6 q6 e2⟩
        clear c0 c1 c2 c3 c4 c5 o0 o1 o2 o3 o4 o5 n6 CY S5
        obtain ⟨c0, c1, c2, c3, c4, c5⟩ := S6.out.2.1
        dsimp only [lv] at c0 c1 c2 c3 c4 c5
        rw [hnl] at c1; rw [hnh] at c2; rw [hni] at c5
        obtain ⟨o0, o1, o2, o3, o4, o5⟩ := S6.out.1
        dsimp only at o0 o1 o2 o3 o4 o5
        go_wp2_with fail
        refine (CZ _ _ S6.out.2.2.1 S6.out.2.2.2.1).mono ?_
        rintro e x7 ⟨rfl, n7⟩
        have S7 : Hid (RegAt x7 w.heap.size ⟨S, L, H, R, I⟩ (.slice pl nl cl) (.slice ph nh ch) (.slice pi ni ci) ∧ Gb w x7 ∧ At2 x7 x3.heap.size D) := by
          obtain ⟨h, _, e1, e2, e3⟩ := S3.out
          obtain ⟨q1, q2, q3, q4, q5⟩ := S6.out
          exact ⟨q1.block (n7.block _ q1.lt (by simpa using h.o3)), gb_grown q4 n7 q3.1, grown_at2 n7 q5 e3⟩
        clear c0 c1 c2 c3 c4 c5 o0 o1 o2 o3 o4 o5 n7 CZ S6 S3
        obtain ⟨o0, o1, o2, o3, o4, o5⟩ := S7.out.1
        dsimp only at o0 o1 o2 o3 o4 o5
        go_wp2_with fail
        refine (C20 _ S7.out.2.1).mono ?_
        rintro e x8 ⟨rfl, m8⟩
        have S8 : Hid (RegAt x8 w.heap.size ⟨S, L, H, R, I⟩ (.slice pl nl cl) (.slice ph nh ch) (.slice pi ni ci) ∧ Gb w x8 ∧ At2 x8 x3.heap.size D) := ⟨S7.out.1.gb m8.gb, gb_trans S7.out.2.1 m8.gb, S7.out.2.2.gb m8.gb⟩
        clear o0 o1 o2 o3 o4 o5 m8 C20 S7
        obtain ⟨o0, o1, o2, o3, o4, o5⟩ := S8.out.1
        dsimp only at o0 o1 o2 o3 o4 o5
        go_wp2_with fail
        refine (C21 _ S8.out.2.1).mono ?_
        rintro e x9 ⟨rfl, m9⟩
        have S9 : Hid (RegAt (x9.alloc (.cells #[.int .u64 (hi D), .int .u64 (lo D)] 26)) w.heap.size ⟨S, L, H, R, I⟩ (.slice pl nl cl) (.slice ph nh ch) (.slice pi ni ci) ∧ Gb w (x9.alloc (.cells #[.int .u64 (hi D), .int .u64 (lo D)] 26)) ∧ At2 (x9.alloc (.cells #[.int .u64 (hi D), .int .u64 (lo D)] 26)) x3.heap.size D ∧ At2 (x9.alloc (.cells #[.int .u64 (hi D), .int .u64 (lo D)] 26)) x9.heap.size D) := by
          have k := gb_alloc m9.gb (.cells #[.int .u64 (hi D), .int .u64 (lo D)] 26)
          exact ⟨S8.out.1.gb k, gb_trans S8.out.2.1 k, S8.out.2.2.gb k, At2.new x9 D 26⟩
        clear o0 o1 o2 o3 o4 o5 m9 C21 S8
        go_wp2_with fail
        refine (awake_any _).mono ?_
        rintro e x11 ⟨rfl, m11⟩
        have T1 : Hid (RegAt x11 w.heap.size ⟨S, L, H, R, I⟩ (.slice pl nl cl) (.slice ph nh ch) (.slice pi ni ci) ∧ Gb w x11 ∧ At2 x11 x3.heap.size D ∧ At2 x11 x9.heap.size D) := ⟨S9.out.1.gb m11, gb_trans S9.out.2.1 m11, S9.out.2.2.1.gb m11, S9.out.2.2.2.gb m11⟩
        clear m11 S9
        obtain ⟨o0, o1, o2, o3, o4, o5⟩ := T1.out.1
        dsimp only at o0 o1 o2 o3 o4 o5
        go_wp2_with fail
        refine (C22 _ T1.out.2.1).mono ?_
        rintro e x12 ⟨rfl, m12⟩
        have G12 := gb_trans T1.out.2.1 m12.gb
        obtain ⟨s0, s1, _, _⟩ := T1.out.2.2.1.gb m12.gb
        obtain ⟨t0, t1, _, _⟩ := T1.out.2.2.2.gb m12.gb
        have heq := fun W => wd_same (hi D) (lo D) W
        clear T1 m12 C22 o0 o1 o2 o3 o4 o5
        go_wp2
        go_ret
        exact ⟨by simp, G12⟩
      · go_simp
        have k5 : Gb v2 (v2.alloc (.cells #[.int .i64 0, .slice none 0 0, .slice none 0 0, .int .u64 0, .int .u64 0, .slice none 0 0] 36)) := gb_alloc (Below.refl _ _) _
        have HB : (v2.alloc (.cells #[.int .i64 0, .slice none 0 0, .slice none 0 0, .int .u64 0, .int .u64 0, .slice none 0 0] 36)).heap[v2.heap.size]? = some (.cells #[.int .i64 0, .slice none 0 0, .slice none 0 0, .int .u64 0, .int .u64 0, .slice none 0 0] 36) := by show (v2.heap.push _)[v2.heap.size]? = _; simp
        have hbl : v2.heap.size < (v2.alloc (.cells #[.int .i64 0, .slice none 0 0, .slice none 0 0, .int .u64 0, .int .u64 0, .slice none 0 0] 36)).heap.size := by simp
        have sA : (v2.alloc (.cells #[.int .i64 0, .slice none 0 0, .slice none 0 0, .int .u64 0, .int .u64 0, .slice none 0 0] 36)).heap.size = v2.heap.size + 1 := by simp
        refine hK.out _ _ (hHeld.gb k5) (fun hHeld => ?_)
        clear hK K
        try simp only [Act.put, List.setIfInBounds_toArray, List.set_cons_zero, List.set_cons_succ]
        replace GB := gb_trans GB k5
        replace LX := LX.gb k5
        replace LY := LY.gb k5
        clear k5
        generalize v2.alloc (.cells #[.int .i64 0, .slice none 0 0, .slice none 0 0, .int .u64 0, .int .u64 0, .slice none 0 0] 36) = v5 at GB HB hbl sA hHeld LX LY ⊢
        generalize hb7 : v2.heap.size = b7 at *
        refine wpAnyH_ready (rs := [12]) (by kernel_rfl) (by simp) ?_
        refine AllReadyH.cons rfl (fun K hK => ?_) (AllReadyH.nil)
        go_simp
        go_at_call 9
        refine (CI _ GB).mono ?_
        rintro e v6 ⟨gz, rfl, LZ, k6⟩
        have u12 := LZ.1
        have l12 := LZ.lt
        have s12 := k6.size
        refine hK.out _ _ (hHeld.gb k6) (fun hHeld => ?_)
        clear hK K
        try simp only [Act.put, List.setIfInBounds_toArray, List.set_cons_zero, List.set_cons_succ]
        replace GB := gb_trans GB k6
        replace LX := LX.gb k6
        replace LY := LY.gb k6
        replace HB := (k6.block _ hbl).trans HB
        replace hbl := Nat.lt_of_lt_of_le hbl k6.size
        clear k6
        refine wpAnyH_take (i := 13) (v := ?_) rfl (by kernel_rfl) (by kernel_rfl) (by kernel_rfl) (fun _ _ _ h => h) (Or.inl ⟨by rfl, ?_⟩) (by assumption) ?_
        rotate_left 1
        · (intro w' hSw; obtain ⟨p0, p1, p2, p3, p4, p5⟩ := hSw; dsimp only at p0 p1 p2 p3 p4 p5; go_simp; try with_reducible rfl)
        try simp only [Act.put, List.setIfInBounds_toArray]
        have ST := st_put (r := ⟨S, L, H, R, I⟩) (w := w) hHeld HB ⟨by omega, LX.2⟩ ⟨by omega, LY.2⟩ ⟨by omega, LZ.2⟩ (by omega) (by omega) (by omega) (by omega) (by omega) (by omega) (by omega) (by omega) (by omega) (by omega) GB (by omega)
        dsimp only [set6, lv] at ST
        have f0 : v6.cell? ⟨b7, 0, none⟩ = some (.int .i64 0) := by simp [World.cell?, HB]
        have z0 : v6.frozen? ⟨b7, 0, none⟩ = false := by simp [World.frozen?, HB]
        have f1 : v6.cell? ⟨b7, 1, none⟩ = some (.slice none 0 0) := by simp [World.cell?, HB]
        have z1 : v6.frozen? ⟨b7, 1, none⟩ = false := by simp [World.frozen?, HB]
        have f2 : v6.cell? ⟨b7, 2, none⟩ = some (.slice none 0 0) := by simp [World.cell?, HB]
        have z2 : v6.frozen? ⟨b7, 2, none⟩ = false := by simp [World.frozen?, HB]
        have f3 : v6.cell? ⟨b7, 3, none⟩ = some (.int .u64 0) := by simp [World.cell?, HB]
        have z3 : v6.frozen? ⟨b7, 3, none⟩ = false := by simp [World.frozen?, HB]
        have f4 : v6.cell? ⟨b7, 4, none⟩ = some (.int .u64 0) := by simp [World.cell?, HB]
        have z4 : v6.frozen? ⟨b7, 4, none⟩ = false := by simp [World.frozen?, HB]
        have f5 : v6.cell? ⟨b7, 5, none⟩ = some (.slice none 0 0) := by simp [World.cell?, HB]
        have z5 : v6.frozen? ⟨b7, 5, none⟩ = false := by simp [World.frozen?, HB]
        clear HB LX LY LZ hbl
        refine wpAnyH_ready (rs := [15]) (by kernel_rfl) (by simp) ?_
        refine AllReadyH.cons rfl (fun K hK => ?_) (AllReadyH.nil)
        go_simp
        simp only [hnl, hnh, hni] at ST
        refine hK.out _ _ ST.own (fun hHeld => ?_)
        clear hK K
        try simp only [Act.put, List.setIfInBounds_toArray, List.set_cons_zero, List.set_cons_succ]
        refine wpAnyH_done (by kernel_rfl) ?_ _
        clear hHeld GB f0 z0 f1 z1 f2 z2 f3 z3 f4 z4 f5 z5
        generalize ((((((v6.setCell ⟨b7, 0, none⟩ (.int .i64 S)).setCell ⟨b7, 1, none⟩ (.slice (some ⟨gx, 0, none⟩) nl (nl + 1))).setCell ⟨b7, 2, none⟩ (.slice (some ⟨gy, 0, none⟩) nh (nh + 1))).setCell ⟨b7, 3, none⟩ (.int .u64 (hi R))).setCell ⟨b7, 4, none⟩ (.int .u64 (lo R))).setCell ⟨b7, 5, none⟩ (.slice (some ⟨gz, 0, none⟩) ni (ni + 1))) = V at ST ⊢
        have SS : Hid (St w V ⟨S, L, H, R, I⟩ (.slice pl nl cl) (.slice ph nh ch) (.slice pi ni ci) b7 gx gy gz) := ST
        obtain ⟨c0, c1, c2, c3, c4, c5⟩ := SS.out.cpy
        dsimp only [lv] at c0 c1 c2 c3 c4 c5
        rw [hnl] at c1; rw [hnh] at c2; rw [hni] at c5
        go_wp2_with fail
        refine (C17 _ _ _ _ _ SS.out).mono ?_
        rintro e x1 ⟨rfl, m1⟩
        have S1 : Hid (St w x1 ⟨S, L, H, R, I⟩ (.slice pl nl cl) (.slice ph nh ch) (.slice pi ni ci) b7 gx gy gz) := SS.out.more m1.gb
        clear SS ST c0 c1 c2 c3 c4 c5 m1 C17
        obtain ⟨c0, c1, c2, c3, c4, c5⟩ := S1.out.cpy
        dsimp only [lv] at c0 c1 c2 c3 c4 c5
        rw [hnl] at c1; rw [hnh] at c2; rw [hni] at c5
        go_wp2_with fail
        refine (C18 _ _ _ _ _ S1.out).mono ?_
        rintro e x2 ⟨rfl, m2⟩
        have S2 : Hid (St w x2 ⟨S, L, H, R, I⟩ (.slice pl nl cl) (.slice ph nh ch) (.slice pi ni ci) b7 gx gy gz) := S1.out.more m2.gb
        clear S1 c0 c1 c2 c3 c4 c5 m2 C18
        obtain ⟨c0, c1, c2, c3, c4, c5⟩ := S2.out.cpy
        dsimp only [lv] at c0 c1 c2 c3 c4 c5
        rw [hnl] at c1; rw [hnh] at c2; rw [hni] at c5
        go_wp2_with fail
        refine (C19 _ _ _ _ _ S2.out).mono ?_
        rintro e x3 ⟨rfl, m3⟩
        have S3 : Hid (St w (x3.alloc (.cells #[.int .u64 (hi D), .int .u64 (lo D)] 26)) ⟨S, L, H, R, I⟩ (.slice pl nl cl) (.slice ph nh ch) (.slice pi ni ci) b7 gx gy gz ∧ At2 (x3.alloc (.cells #[.int .u64 (hi D), .int .u64 (lo D)] 26)) x3.heap.size D ∧ x3.heap.size ≠ gx ∧ x3.heap.size ≠ gy ∧ x3.heap.size ≠ gz) := by
          have h := S2.out.more m3.gb
          have a1 := h.lx.lt
          have a2 := h.ly.lt
          have a3 := h.lz.lt
          exact ⟨h.more (gb_alloc (Below.refl _ _) _), At2.new x3 D 26, by omega, by omega, by omega⟩
        clear S2 c0 c1 c2 c3 c4 c5 m3 C19
        obtain ⟨c0, c1, c2, c3, c4, c5⟩ := S3.out.1.cpy
        dsimp only [lv] at c0 c1 c2 c3 c4 c5
        rw [hnl] at c1; rw [hnh] at c2; rw [hni] at c5
        obtain ⟨o0, o1, o2, o3, o4, o5⟩ := S3.out.1.own
        dsimp only at o0 o1 o2 o3 o4 o5
        go_wp2_with fail
        refine (CX _ _ S3.out.1.lx S3.out.1.gb).mono ?_
        rintro e x5 ⟨rfl, n5⟩
        have S5 : Hid (RegAt x5 w.heap.size ⟨S, L, H, R, I⟩ (.slice pl nl cl) (.slice ph nh ch) (.slice pi ni ci) ∧ RegAt x5 b7 ⟨S, L, H, R, I⟩ (lv gx L) (lv gy H) (lv gz I) ∧ Lent x5 w.heap.size gy H ∧ Lent x5 w.heap.size gz I ∧ Gb w x5 ∧ At2 x5 x3.heap.size D) := by
          obtain ⟨h, hA, e1, e2, e3⟩ := S3.out
          exact ⟨h.own.block (n5.block _ h.own.lt (by simpa using h.o1)), h.cpy.block (n5.block _ h.cpy.lt (by simpa using h.m1)), h.ly.far n5 (Ne.symm h.n1), h.lz.far n5 (Ne.symm h.n2), gb_grown h.gb n5 h.lx.1, grown_at2 n5 hA e1⟩
        clear c0 c1 c2 c3 c4 c5 o0 o1 o2 o3 o4 o5 n5 CX
        obtain ⟨c0, c1, c2, c3, c4, c5⟩ := S5.out.2.1
        dsimp only [lv] at c0 c1 c2 c3 c4 c5
        rw [hnl] at c1; rw [hnh] at c2; rw [hni] at c5
        obtain ⟨o0, o1, o2, o3, o4, o5⟩ := S5.out.1
        dsimp only at o0 o1 o2 o3 o4 o5
        go_wp2_with fail
        refine (CY _ _ S5.out.2.2.1 S5.out.2.2.2.2.1).mono ?_
        rintro e x6 ⟨rfl, n6⟩
        have S6 : Hid (RegAt x6 w.heap.size ⟨S, L, H, R, I⟩ (.slice pl nl cl) (.slice ph nh ch) (.slice pi ni ci) ∧ RegAt x6 b7 ⟨S, L, H, R, I⟩ (lv gx L) (lv gy H) (lv gz I) ∧ Lent x6 w.heap.size gz I ∧ Gb w x6 ∧ At2 x6 x3.heap.size D) := by
          obtain ⟨h, _, e1, e2, e3⟩ := S3.out
          obtain ⟨q1, q2, q3, q4, q5, q6⟩ := S5.out
          exact ⟨q1.block (n6.block _ q1.lt (by simpa using h.o2)), q2.block (n6.block _ q2.lt (by simpa using h.m2)), q4.far n6 (Ne.symm h.n3), gb_grown q5 n6 q3.1, grown_at2 n6 q6 e2⟩
        clear c0 c1 c2 c3 c4 c5 o0 o1 o2 o3 o4 o5 n6 CY S5
        obtain ⟨c0, c1, c2, c3, c4, c5⟩ := S6.out.2.1
        dsimp only [lv] at c0 c1 c2 c3 c4 c5
        rw [hnl] at c1; rw [hnh] at c2; rw [hni] at c5
        obtain ⟨o0, o1, o2, o3, o4, o5⟩ := S6.out.1
        dsimp only at o0 o1 o2 o3 o4 o5
        go_wp2_with fail
        refine (CZ _ _ S6.out.2.2.1 S6.out.2.2.2.1).mono ?_
        rintro e x7 ⟨rfl, n7⟩
        have S7 : Hid (RegAt x7 w.heap.size ⟨S, L, H, R, I⟩ (.slice pl nl cl) (.slice ph nh ch) (.slice pi ni ci) ∧ Gb w x7 ∧ At2 x7 x3.heap.size D) := by
          obtain ⟨h, _, e1, e2, e3⟩ := S3.out
          obtain ⟨q1, q2, q3, q4, q5⟩ := S6.out
          exact ⟨q1.block (n7.block _ q1.lt (by simpa using h.o3)), gb_grown q4 n7 q3.1, grown_at2 n7 q5 e3⟩
        clear c0 c1 c2 c3 c4 c5 o0 o1 o2 o3 o4 o5 n7 CZ S6 S3
        obtain ⟨o0, o1, o2, o3, o4, o5⟩ := S7.out.1
        dsimp only at o0 o1 o2 o3 o4 o5
        go_wp2_with fail
        refine (C20 _ S7.out.2.1).mono ?_
        rintro e x8 ⟨rfl, m8⟩
        have S8 : Hid (RegAt x8 w.heap.size ⟨S, L, H, R, I⟩ (.slice pl nl cl) (.slice ph nh ch) (.slice pi ni ci) ∧ Gb w x8 ∧ At2 x8 x3.heap.size D) := ⟨S7.out.1.gb m8.gb, gb_trans S7.out.2.1 m8.gb, S7.out.2.2.gb m8.gb⟩
        clear o0 o1 o2 o3 o4 o5 m8 C20 S7
        obtain ⟨o0, o1, o2, o3, o4, o5⟩ := S8.out.1
        dsimp only at o0 o1 o2 o3 o4 o5
        go_wp2_with fail
        refine (C21 _ S8.out.2.1).mono ?_
        rintro e x9 ⟨rfl, m9⟩
        have S9 : Hid (RegAt (x9.alloc (.cells #[.int .u64 (hi D), .int .u64 (lo D)] 26)) w.heap.size ⟨S, L, H, R, I⟩ (.slice pl nl cl) (.slice ph nh ch) (.slice pi ni ci) ∧ Gb w (x9.alloc (.cells #[.int .u64 (hi D), .int .u64 (lo D)] 26)) ∧ At2 (x9.alloc (.cells #[.int .u64 (hi D), .int .u64 (lo D)] 26)) x3.heap.size D ∧ At2 (x9.alloc (.cells #[.int .u64 (hi D), .int .u64 (lo D)] 26)) x9.heap.size D) := by
          have k := gb_alloc m9.gb (.cells #[.int .u64 (hi D), .int .u64 (lo D)] 26)
          exact ⟨S8.out.1.gb k, gb_trans S8.out.2.1 k, S8.out.2.2.gb k, At2.new x9 D 26⟩
        clear o0 o1 o2 o3 o4 o5 m9 C21 S8
        go_wp2_with fail
        refine (awake_any _).mono ?_
        rintro e x11 ⟨rfl, m11⟩
        have T1 : Hid (RegAt x11 w.heap.size ⟨S, L, H, R, I⟩ (.slice pl nl cl) (.slice ph nh ch) (.slice pi ni ci) ∧ Gb w x11 ∧ At2 x11 x3.heap.size D ∧ At2 x11 x9.heap.size D) := ⟨S9.out.1.gb m11, gb_trans S9.out.2.1 m11, S9.out.2.2.1.gb m11, S9.out.2.2.2.gb m11⟩
        clear m11 S9
        obtain ⟨o0, o1, o2, o3, o4, o5⟩ := T1.out.1
        dsimp only at o0 o1 o2 o3 o4 o5
        go_wp2_with fail
        refine (C22 _ T1.out.2.1).mono ?_
        rintro e x12 ⟨rfl, m12⟩
        have G12 := gb_trans T1.out.2.1 m12.gb
        obtain ⟨s0, s1, _, _⟩ := T1.out.2.2.1.gb m12.gb
        obtain ⟨t0, t1, _, _⟩ := T1.out.2.2.2.gb m12.gb
        have heq := fun W => wd_same (hi D) (lo D) W
        clear T1 m12 C22 o0 o1 o2 o3 o4 o5
        go_wp2
        go_ret
        exact ⟨by simp, G12⟩
    · go_simp
      have k7 : Gb v1 (v1.alloc (.cells #[.int .i64 0, .slice none 0 0, .slice none 0 0, .int .u64 0, .int .u64 0, .slice none 0 0] 36)) := gb_alloc (Below.refl _ _) _
      have HB : (v1.alloc (.cells #[.int .i64 0, .slice none 0 0, .slice none 0 0, .int .u64 0, .int .u64 0, .slice none 0 0] 36)).heap[v1.heap.size]? = some (.cells #[.int .i64 0, .slice none 0 0, .slice none 0 0, .int .u64 0, .int .u64 0, .slice none 0 0] 36) := by show (v1.heap.push _)[v1.heap.size]? = _; simp
      have hbl : v1.heap.size < (v1.alloc (.cells #[.int .i64 0, .slice none 0 0, .slice none 0 0, .int .u64 0, .int .u64 0, .slice none 0 0] 36)).heap.size := by simp
      have sA : (v1.alloc (.cells #[.int .i64 0, .slice none 0 0, .slice none 0 0, .int .u64 0, .int .u64 0, .slice none 0 0] 36)).heap.size = v1.heap.size + 1 := by simp
      refine hK.out _ _ (hHeld.gb k7) (fun hHeld => ?_)
      clear hK K
      try simp only [Act.put, List.setIfInBounds_toArray, List.set_cons_zero, List.set_cons_succ]
      replace GB := gb_trans GB k7
      replace LX := LX.gb k7
      clear k7
      generalize v1.alloc (.cells #[.int .i64 0, .slice none 0 0, .slice none 0 0, .int .u64 0, .int .u64 0, .slice none 0 0] 36) = v7 at GB HB hbl sA hHeld LX ⊢
      generalize hb7 : v1.heap.size = b7 at *
      refine wpAnyH_ready (rs := [7]) (by kernel_rfl) (by simp) ?_
      refine AllReadyH.cons rfl (fun K hK => ?_) (AllReadyH.nil)
      go_simp
      go_at_call 9
      refine (CH _ GB).mono ?_
      rintro e v8 ⟨gy, rfl, LY, k8⟩
      have u7 := LY.1
      have l7 := LY.lt
      have s7 := k8.size
      refine hK.out _ _ (hHeld.gb k8) (fun hHeld => ?_)
      clear hK K
      try simp only [Act.put, List.setIfInBounds_toArray, List.set_cons_zero, List.set_cons_succ]
      replace GB := gb_trans GB k8
      replace LX := LX.gb k8
      replace HB := (k8.block _ hbl).trans HB
      replace hbl := Nat.lt_of_lt_of_le hbl k8.size
      clear k8
      refine wpAnyH_ready (rs := [12]) (by kernel_rfl) (by simp) ?_
      refine AllReadyH.cons rfl (fun K hK => ?_) (AllReadyH.nil)
      go_simp
      go_at_call 9
      refine (CI _ GB).mono ?_
      rintro e v9 ⟨gz, rfl, LZ, k9⟩
      have u12 := LZ.1
      have l12 := LZ.lt
      have s12 := k9.size
      refine hK.out _ _ (hHeld.gb k9) (fun hHeld => ?_)
      clear hK K
      try simp only [Act.put, List.setIfInBounds_toArray, List.set_cons_zero, List.set_cons_succ]
      replace GB := gb_trans GB k9
      replace LX := LX.gb k9
      replace LY := LY.gb k9
      replace HB := (k9.block _ hbl).trans HB
      replace hbl := Nat.lt_of_lt_of_le hbl k9.size
      clear k9
      refine wpAnyH_take (i := 13) (v := ?_) rfl (by kernel_rfl) (by kernel_rfl) (by kernel_rfl) (fun _ _ _ h => h) (Or.inl ⟨by rfl, ?_⟩) (by assumption) ?_
      rotate_left 1
      · (intro w' hSw; obtain ⟨p0, p1, p2, p3, p4, p5⟩ := hSw; dsimp only at p0 p1 p2 p3 p4 p5; go_simp; try with_reducible rfl)
      try simp only [Act.put, List.setIfInBounds_toArray]
      have ST := st_put (r := ⟨S, L, H, R, I⟩) (w := w) hHeld HB ⟨by omega, LX.2⟩ ⟨by omega, LY.2⟩ ⟨by omega, LZ.2⟩ (by omega) (by omega) (by omega) (by omega) (by omega) (by omega) (by omega) (by omega) (by omega) (by omega) GB (by omega)
      dsimp only [set6, lv] at ST
      have f0 : v9.cell? ⟨b7, 0, none⟩ = some (.int .i64 0) := by simp [World.cell?, HB]
      have z0 : v9.frozen? ⟨b7, 0, none⟩ = false := by simp [World.frozen?, HB]
      have f1 : v9.cell? ⟨b7, 1, none⟩ = some (.slice none 0 0) := by simp [World.cell?, HB]
      have z1 : v9.frozen? ⟨b7, 1, none⟩ = false := by simp [World.frozen?, HB]
      have f2 : v9.cell? ⟨b7, 2, none⟩ = some (.slice none 0 0) := by simp [World.cell?, HB]
      have z2 : v9.frozen? ⟨b7, 2, none⟩ = false := by simp [World.frozen?, HB]
      have f3 : v9.cell? ⟨b7, 3, none⟩ = some (.int .u64 0) := by simp [World.cell?, HB]
      have z3 : v9.frozen? ⟨b7, 3, none⟩ = false := by simp [World.frozen?, HB]
      have f4 : v9.cell? ⟨b7, 4, none⟩ = some (.int .u64 0) := by simp [World.cell?, HB]
      have z4 : v9.frozen? ⟨b7, 4, none⟩ = false := by simp [World.frozen?, HB]
      have f5 : v9.cell? ⟨b7, 5, none⟩ = some (.slice none 0 0) := by simp [World.cell?, HB]
      have z5 : v9.frozen? ⟨b7, 5, none⟩ = false := by simp [World.frozen?, HB]
      clear HB LX LY LZ hbl
      refine wpAnyH_ready (rs := [15]) (by kernel_rfl) (by simp) ?_
      refine AllReadyH.cons rfl (fun K hK => ?_) (AllReadyH.nil)
      go_simp
      simp only [hnl, hnh, hni] at ST
      refine hK.out _ _ ST.own (fun hHeld => ?_)
      clear hK K
      try simp only [Act.put, List.setIfInBounds_toArray, List.set_cons_zero, List.set_cons_succ]
      refine wpAnyH_done (by kernel_rfl) ?_ _
      clear hHeld GB f0 z0 f1 z1 f2 z2 f3 z3 f4 z4 f5 z5
      generalize ((((((v9.setCell ⟨b7, 0, none⟩ (.int .i64 S)).setCell ⟨b7, 1, none⟩ (.slice (some ⟨gx, 0, none⟩) nl (nl + 1))).setCell ⟨b7, 2, none⟩ (.slice (some ⟨gy, 0, none⟩) nh (nh + 1))).setCell ⟨b7, 3, none⟩ (.int .u64 (hi R))).setCell ⟨b7, 4, none⟩ (.int .u64 (lo R))).setCell ⟨b7, 5, none⟩ (.slice (some ⟨gz, 0, none⟩) ni (ni + 1))) = V at ST ⊢
      have SS : Hid (St w V ⟨S, L, H, R, I⟩ (.slice pl nl cl) (.slice ph nh ch) (.slice pi ni ci) b7 gx gy gz) := ST
      obtain ⟨c0, c1, c2, c3, c4, c5⟩ := SS.out.cpy
      dsimp only [lv] at c0 c1 c2 c3 c4 c5
      rw [hnl] at c1; rw [hnh] at c2; rw [hni] at c5
      go_wp2_with fail
      refine (C17 _ _ _ _ _ SS.out).mono ?_
      rintro e x1 ⟨rfl, m1⟩
      have S1 : Hid (St w x1 ⟨S, L, H, R, I⟩ (.slice pl nl cl) (.slice ph nh ch) (.slice pi ni ci) b7 gx gy gz) := SS.out.more m1.gb
      clear SS ST c0 c1 c2 c3 c4 c5 m1 C17
      obtain ⟨c0, c1, c2, c3, c4, c5⟩ := S1.out.cpy
      dsimp only [lv] at c0 c1 c2 c3 c4 c5
      rw [hnl] at c1; rw [hnh] at c2; rw [hni] at c5
      go_wp2_with fail
      refine (C18 _ _ _ _ _ S1.out).mono ?_
      rintro e x2 ⟨rfl, m2⟩
      have S2 : Hid (St w x2 ⟨S, L, H, R, I⟩ (.slice pl nl cl) (.slice ph nh ch) (.slice pi ni ci) b7 gx gy gz) := S1.out.more m2.gb
      clear S1 c0 c1 c2 c3 c4 c5 m2 C18
      obtain ⟨c0, c1, c2, c3, c4, c5⟩ := S2.out.cpy
      dsimp only [lv] at c0 c1 c2 c3 c4 c5
      rw [hnl] at c1; rw [hnh] at c2; rw [hni] at c5
      go_wp2_with fail
      refine (C19 _ _ _ _ _ S2.out).mono ?_
      rintro e x3 ⟨rfl, m3⟩
      have S3 : Hid (St w (x3.alloc (.cells #[.int .u64 (hi D), .int .u64 (lo D)] 26)) ⟨S, L, H, R, I⟩ (.slice pl nl cl) (.slice ph nh ch) (.slice pi ni ci) b7 gx gy gz ∧ At2 (x3.alloc (.cells #[.int .u64 (hi D), .int .u64 (lo D)] 26)) x3.heap.size D ∧ x3.heap.size ≠ gx ∧ x3.heap.size ≠ gy ∧ x3.heap.size ≠ gz) := by
        have h := S2.out.more m3.gb
        have a1 := h.lx.lt
        have a2 := h.ly.lt
        have a3 := h.lz.lt
        exact ⟨h.more (gb_alloc (Below.refl _ _) _), At2.new x3 D 26, by omega, by omega, by omega⟩
      clear S2 c0 c1 c2 c3 c4 c5 m3 C19
      obtain ⟨c0, c1, c2, c3, c4, c5⟩ := S3.out.1.cpy
      dsimp only [lv] at c0 c1 c2 c3 c4 c5
      rw [hnl] at c1; rw [hnh] at c2; rw [hni] at c5
      obtain ⟨o0, o1, o2, o3, o4, o5⟩ := S3.out.1.own
      dsimp only at o0 o1 o2 o3 o4 o5
      go_wp2_with fail
      refine (CX _ _ S3.out.1.lx S3.out.1.gb).mono ?_
      rintro e x5 ⟨rfl, n5⟩
      have S5 : Hid (RegAt x5 w.heap.size ⟨S, L, H, R, I⟩ (.slice pl nl cl) (.slice ph nh ch) (.slice pi ni ci) ∧ RegAt x5 b7 ⟨S, L, H, R, I⟩ (lv gx L) (lv gy H) (lv gz I) ∧ Lent x5 w.heap.size gy H ∧ Lent x5 w.heap.size gz I ∧ Gb w x5 ∧ At2 x5 x3.heap.size D) := by
        obtain ⟨h, hA, e1, e2, e3⟩ := S3.out
        exact ⟨h.own.block (n5.block _ h.own.lt (by simpa using h.o1)), h.cpy.block (n5.block _ h.cpy.lt (by simpa using h.m1)), h.ly.far n5 (Ne.symm h.n1), h.lz.far n5 (Ne.symm h.n2), gb_grown h.gb n5 h.lx.1, grown_at2 n5 hA e1⟩
      clear c0 c1 c2 c3 c4 c5 o0 o1 o2 o3 o4 o5 n5 CX
      obtain ⟨c0, c1, c2, c3, c4, c5⟩ := S5.out.2.1
      dsimp only [lv] at c0 c1 c2 c3 c4 c5
      rw [hnl] at c1; rw [hnh] at c2; rw [hni] at c5
      obtain ⟨o0, o1, o2, o3, o4, o5⟩ := S5.out.1
      dsimp only at o0 o1 o2 o3 o4 o5
      go_wp2_with fail
      refine (CY _ _ S5.out.2.2.1 S5.out.2.2.2.2.1).mono ?_
      rintro e x6 ⟨rfl, n6⟩
      have S6 : Hid (RegAt x6 w.heap.size ⟨S, L, H, R, I⟩ (.slice pl nl cl) (.slice ph nh ch) (.slice pi ni ci) ∧ RegAt x6 b7 ⟨S, L, H, R, I⟩ (lv gx L) (lv gy H) (lv gz I) ∧ Lent x6 w.heap.size gz I ∧ Gb w x6 ∧ At2 x6 x3.heap.size D) := by
        obtain ⟨h, _, e1, e2, e3⟩ := S3.out
        obtain ⟨q1, q2, q3, q4, q5, q6⟩ := S5.out
        exact ⟨q1.block (n6.block _ q1.lt (by simpa using h.o2)), q2.block (n6.block _ q2.lt (by simpa using h.m2)), q4.far n6 (Ne.symm h.n3), gb_grown q5 n6 q3.1, grown_at2 n6 q6 e2⟩
      clear c0 c1 c2 c3 c4 c5 o0 o1 o2 o3 o4 o5 n6 CY S5
      obtain ⟨c0, c1, c2, c3, c4, c5⟩ := S6.out.2.1
      dsimp only [lv] at c0 c1 c2 c3 c4 c5
      rw [hnl] at c1; rw [hnh] at c2; rw [hni] at c5
      obtain ⟨o0, o1, o2, o3, o4, o5⟩ := S6.out.1
      dsimp only at o0 o1 o2 o3 o4 o5
      go_wp2_with fail
      refine (CZ _ _ S6.out.2.2.1 S6.out.2.2.2.1).mono ?_
      rintro e x7 ⟨rfl, n7⟩
      have S7 : Hid (RegAt x7 w.heap.size ⟨S, L, H, R, I⟩ (.slice pl nl cl) (.slice ph nh ch) (.slice pi ni ci) ∧ Gb w x7 ∧ At2 x7 x3.heap.size D) := by
        obtain ⟨h, _, e1, e2, e3⟩ := S3.out
        obtain ⟨q1, q2, q3, q4, q5⟩ := S6.out
        exact ⟨q1.block (n7.block _ q1.lt (by simpa using h.o3)), gb_grown q4 n7 q3.1, grown_at2 n7 q5 e3⟩
      clear c0 c1 c2 c3 c4 c5 o0 o1 o2 o3 o4 o5 n7 CZ S6 S3
      obtain ⟨o0, o1, o2, o3, o4, o5⟩ := S7.out.1
      dsimp only at o0 o1 o2 o3 o4 o5
      go_wp2_with fail
      refine (C20 _ S7.out.2.1).mono ?_
      rintro e x8 ⟨rfl, m8⟩
      have S8 : Hid (RegAt x8 w.heap.size ⟨S, L, H, R, I⟩ (.slice pl nl cl) (.slice ph nh ch) (.slice pi ni ci) ∧ Gb w x8 ∧ At2 x8 x3.heap.size D) := ⟨S7.out.1.gb m8.gb, gb_trans S7.out.2.1 m8.gb, S7.out.2.2.gb m8.gb⟩
      clear o0 o1 o2 o3 o4 o5 m8 C20 S7
      obtain ⟨o0, o1, o2, o3, o4, o5⟩ := S8.out.1
      dsimp only at o0 o1 o2 o3 o4 o5
      go_wp2_with fail
      refine (C21 _ S8.out.2.1).mono ?_
      rintro e x9 ⟨rfl, m9⟩
      have S9 : Hid (RegAt (x9.alloc (.cells #[.int .u64 (hi D), .int .u64 (lo D)] 26)) w.heap.size ⟨S, L, H, R, I⟩ (.slice pl nl cl) (.slice ph nh ch) (.slice pi ni ci) ∧ Gb w (x9.alloc (.cells #[.int .u64 (hi D), .int .u64 (lo D)] 26)) ∧ At2 (x9.alloc (.cells #[.int .u64 (hi D), .int .u64 (lo D)] 26)) x3.heap.size D ∧ At2 (x9.alloc (.cells #[.int .u64 (hi D), .int .u64 (lo D)] 26)) x9.heap.size D) := by
        have k := gb_alloc m9.gb (.cells #[.int .u64 (hi D), .int .u64 (lo D)] 26)
        exact ⟨S8.out.1.gb k, gb_trans S8.out.2.1 k, S8.out.2.2.gb k, At2.new x9 D 26⟩
      clear o0 o1 o2 o3 o4 o5 m9 C21 S8
      go_wp2_with fail
      refine (awake_any _).mono ?_
      rintro e x11 ⟨rfl, m11⟩
      have T1 : Hid (RegAt x11 w.heap.size ⟨S, L, H, R, I⟩ (.slice pl nl cl) (.slice ph nh ch) (.slice pi ni ci) ∧ Gb w x11 ∧ At2 x11 x3.heap.size D ∧ At2 x11 x9.heap.size D) := ⟨S9.out.1.gb m11, gb_trans S9.out.2.1 m11, S9.out.2.2.1.gb m11, S9.out.2.2.2.gb m11⟩
      clear m11 S9
      obtain ⟨o0, o1, o2, o3, o4, o5⟩ := T1.out.1
      dsimp only at o0 o1 o2 o3 o4 o5
      go_wp2_with fail
      refine (C22 _ T1.out.2.1).mono ?_
      rintro e x12 ⟨rfl, m12⟩
      have G12 := gb_trans T1.out.2.1 m12.gb
      obtain ⟨s0, s1, _, _⟩ := T1.out.2.2.1.gb m12.gb
      obtain ⟨t0, t1, _, _⟩ := T1.out.2.2.2.gb m12.gb
      have heq := fun W => wd_same (hi D) (lo D) W
      clear T1 m12 C22 o0 o1 o2 o3 o4 o5
      go_wp2
      go_ret
      exact ⟨by simp, G12⟩
  · go_simp
    have k10 : Gb w2 (w2.alloc (.cells #[.int .i64 0, .slice none 0 0, .slice none 0 0, .int .u64 0, .int .u64 0, .slice none 0 0] 36)) := gb_alloc (Below.refl _ _) _
    have HB : (w2.alloc (.cells #[.int .i64 0, .slice none 0 0, .slice none 0 0, .int .u64 0, .int .u64 0, .slice none 0 0] 36)).heap[w2.heap.size]? = some (.cells #[.int .i64 0, .slice none 0 0, .slice none 0 0, .int .u64 0, .int .u64 0, .slice none 0 0] 36) := by show (w2.heap.push _)[w2.heap.size]? = _; simp
    have hbl : w2.heap.size < (w2.alloc (.cells #[.int .i64 0, .slice none 0 0, .slice none 0 0, .int .u64 0, .int .u64 0, .slice none 0 0] 36)).heap.size := by simp
    have sA : (w2.alloc (.cells #[.int .i64 0, .slice none 0 0, .slice none 0 0, .int .u64 0, .int .u64 0, .slice none 0 0] 36)).heap.size = w2.heap.size + 1 := by simp
    refine hK.out _ _ (hHeld.gb k10) (fun hHeld => ?_)
    clear hK K
    try simp only [Act.put, List.setIfInBounds_toArray, List.set_cons_zero, List.set_cons_succ]
    replace GB := gb_trans GB k10
    clear k10
    generalize w2.alloc (.cells #[.int .i64 0, .slice none 0 0, .slice none 0 0, .int .u64 0, .int .u64 0, .slice none 0 0] 36) = v10 at GB HB hbl sA hHeld  ⊢
    generalize hb7 : w2.heap.size = b7 at *
    refine wpAnyH_ready (rs := [4]) (by kernel_rfl) (by simp) ?_
    refine AllReadyH.cons rfl (fun K hK => ?_) (AllReadyH.nil)
    go_simp
    go_at_call 9
    refine (CL _ GB).mono ?_
    rintro e v11 ⟨gx, rfl, LX, k11⟩
    have u4 := LX.1
    have l4 := LX.lt
    have s4 := k11.size
    refine hK.out _ _ (hHeld.gb k11) (fun hHeld => ?_)
    clear hK K
    try simp only [Act.put, List.setIfInBounds_toArray, List.set_cons_zero, List.set_cons_succ]
    replace GB := gb_trans GB k11
    replace HB := (k11.block _ hbl).trans HB
    replace hbl := Nat.lt_of_lt_of_le hbl k11.size
    clear k11
    refine wpAnyH_ready (rs := [7]) (by kernel_rfl) (by simp) ?_
    refine AllReadyH.cons rfl (fun K hK => ?_) (AllReadyH.nil)
    go_simp
    go_at_call 9
    refine (CH _ GB).mono ?_
    rintro e v12 ⟨gy, rfl, LY, k12⟩
    have u7 := LY.1
    have l7 := LY.lt
    have s7 := k12.size
    refine hK.out _ _ (hHeld.gb k12) (fun hHeld => ?_)
    clear hK K
    try simp only [Act.put, List.setIfInBounds_toArray, List.set_cons_zero, List.set_cons_succ]
    replace GB := gb_trans GB k12
    replace LX := LX.gb k12
    replace HB := (k12.block _ hbl).trans HB
    replace hbl := Nat.lt_of_lt_of_le hbl k12.size
    clear k12
    refine wpAnyH_ready (rs := [12]) (by kernel_rfl) (by simp) ?_
    refine AllReadyH.cons rfl (fun K hK => ?_) (AllReadyH.nil)
    go_simp
    go_at_call 9
    refine (CI _ GB).mono ?_
    rintro e v13 ⟨gz, rfl, LZ, k13⟩
    have u12 := LZ.1
    have l12 := LZ.lt
    have s12 := k13.size
    refine hK.out _ _ (hHeld.gb k13) (fun hHeld => ?_)
    clear hK K
    try simp only [Act.put, List.setIfInBounds_toArray, List.set_cons_zero, List.set_cons_succ]
    replace GB := gb_trans GB k13
    replace LX := LX.gb k13
    replace LY := LY.gb k13
    replace HB := (k13.block _ hbl).trans HB
    replace hbl := Nat.lt_of_lt_of_le hbl k13.size
    clear k13
    refine wpAnyH_take (i := 13) (v := ?_) rfl (by kernel_rfl) (by kernel_rfl) (by kernel_rfl) (fun _ _ _ h => h) (Or.inl ⟨by rfl, ?_⟩) (by assumption) ?_
    rotate_left 1
    · (intro w' hSw; obtain ⟨p0, p1, p2, p3, p4, p5⟩ := hSw; dsimp only at p0 p1 p2 p3 p4 p5; go_simp; try with_reducible rfl)
    try simp only [Act.put, List.setIfInBounds_toArray]
    have ST := st_put (r := ⟨S, L, H, R, I⟩) (w := w) hHeld HB ⟨by omega, LX.2⟩ ⟨by omega, LY.2⟩ ⟨by omega, LZ.2⟩ (by omega) (by omega) (by omega) (by omega) (by omega) (by omega) (by omega) (by omega) (by omega) (by omega) GB (by omega)
    dsimp only [set6, lv] at ST
    have f0 : v13.cell? ⟨b7, 0, none⟩ = some (.int .i64 0) := by simp [World.cell?, HB]
    have z0 : v13.frozen? ⟨b7, 0, none⟩ = false := by simp [World.frozen?, HB]
    have f1 : v13.cell? ⟨b7, 1, none⟩ = some (.slice none 0 0) := by simp [World.cell?, HB]
    have z1 : v13.frozen? ⟨b7, 1, none⟩ = false := by simp [World.frozen?, HB]
    have f2 : v13.cell? ⟨b7, 2, none⟩ = some (.slice none 0 0) := by simp [World.cell?, HB]
    have z2 : v13.frozen? ⟨b7, 2, none⟩ = false := by simp [World.frozen?, HB]
    have f3 : v13.cell? ⟨b7, 3, none⟩ = some (.int .u64 0) := by simp [World.cell?, HB]
    have z3 : v13.frozen? ⟨b7, 3, none⟩ = false := by simp [World.frozen?, HB]
    have f4 : v13.cell? ⟨b7, 4, none⟩ = some (.int .u64 0) := by simp [World.cell?, HB]
    have z4 : v13.frozen? ⟨b7, 4, none⟩ = false := by simp [World.frozen?, HB]
    have f5 : v13.cell? ⟨b7, 5, none⟩ = some (.slice none 0 0) := by simp [World.cell?, HB]
    have z5 : v13.frozen? ⟨b7, 5, none⟩ = false := by simp [World.frozen?, HB]
    clear HB LX LY LZ hbl
    refine wpAnyH_ready (rs := [15]) (by kernel_rfl) (by simp) ?_
    refine AllReadyH.cons rfl (fun K hK => ?_) (AllReadyH.nil)
    go_simp
    simp only [hnl, hnh, hni] at ST
    refine hK.out _ _ ST.own (fun hHeld => ?_)
    clear hK K
    try simp only [Act.put, List.setIfInBounds_toArray, List.set_cons_zero, List.set_cons_succ]
    refine wpAnyH_done (by kernel_rfl) ?_ _
    clear hHeld GB f0 z0 f1 z1 f2 z2 f3 z3 f4 z4 f5 z5
    generalize ((((((v13.setCell ⟨b7, 0, none⟩ (.int .i64 S)).setCell ⟨b7, 1, none⟩ (.slice (some ⟨gx, 0, none⟩) nl (nl + 1))).setCell ⟨b7, 2, none⟩ (.slice (some ⟨gy, 0, none⟩) nh (nh + 1))).setCell ⟨b7, 3, none⟩ (.int .u64 (hi R))).setCell ⟨b7, 4, none⟩ (.int .u64 (lo R))).setCell ⟨b7, 5, none⟩ (.slice (some ⟨gz, 0, none⟩) ni (ni + 1))) = V at ST ⊢
    have SS : Hid (St w V ⟨S, L, H, R, I⟩ (.slice pl nl cl) (.slice ph nh ch) (.slice pi ni ci) b7 gx gy gz) := ST
    obtain ⟨c0, c1, c2, c3, c4, c5⟩ := SS.out.cpy
    dsimp only [lv] at c0 c1 c2 c3 c4 c5
    rw [hnl] at c1; rw [hnh] at c2; rw [hni] at c5
    go_wp2_with fail
    refine (C17 _ _ _ _ _ SS.out).mono ?_
    rintro e x1 ⟨rfl, m1⟩
    have S1 : Hid (St w x1 ⟨S, L, H, R, I⟩ (.slice pl nl cl) (.slice ph nh ch) (.slice pi ni ci) b7 gx gy gz) := SS.out.more m1.gb
    clear SS ST c0 c1 c2 c3 c4 c5 m1 C17
    obtain ⟨c0, c1, c2, c3, c4, c5⟩ := S1.out.cpy
    dsimp only [lv] at c0 c1 c2 c3 c4 c5
    rw [hnl] at c1; rw [hnh] at c2; rw [hni] at c5
    go_wp2_with fail
    refine (C18 _ _ _ _ _ S1.out).mono ?_
    rintro e x2 ⟨rfl, m2⟩
    have S2 : Hid (St w x2 ⟨S, L, H, R, I⟩ (.slice pl nl cl) (.slice ph nh ch) (.slice pi ni ci) b7 gx gy gz) := S1.out.more m2.gb
    clear S1 c0 c1 c2 c3 c4 c5 m2 C18
    obtain ⟨c0, c1, c2, c3, c4, c5⟩ := S2.out.cpy
    dsimp only [lv] at c0 c1 c2 c3 c4 c5
    rw [hnl] at c1; rw [hnh] at c2; rw [hni] at c5
    go_wp2_with fail
    refine (C19 _ _ _ _ _ S2.out).mono ?_
    rintro e x3 ⟨rfl, m3⟩
    have S3 : Hid (St w (x3.alloc (.cells #[.int .u64 (hi D), .int .u64 (lo D)] 26)) ⟨S, L, H, R, I⟩ (.slice pl nl cl) (.slice ph nh ch) (.slice pi ni ci) b7 gx gy gz ∧ At2 (x3.alloc (.cells #[.int .u64 (hi D), .int .u64 (lo D)] 26)) x3.heap.size D ∧ x3.heap.size ≠ gx ∧ x3.heap.size ≠ gy ∧ x3.heap.size ≠ gz) := by
      have h := S2.out.more m3.gb
      have a1 := h.lx.lt
      have a2 := h.ly.lt
      have a3 := h.lz.lt
      exact ⟨h.more (gb_alloc (Below.refl _ _) _), At2.new x3 D 26, by omega, by omega, by omega⟩
    clear S2 c0 c1 c2 c3 c4 c5 m3 C19
    obtain ⟨c0, c1, c2, c3, c4, c5⟩ := S3.out.1.cpy
    dsimp only [lv] at c0 c1 c2 c3 c4 c5
    rw [hnl] at c1; rw [hnh] at c2; rw [hni] at c5
    obtain ⟨o0, o1, o2, o3, o4, o5⟩ := S3.out.1.own
    dsimp only at o0 o1 o2 o3 o4 o5
    go_wp2_with fail
    refine (CX _ _ S3.out.1.lx S3.out.1.gb).mono ?_
    rintro e x5 ⟨rfl, n5⟩
    have S5 : Hid (RegAt x5 w.heap.size ⟨S, L, H, R, I⟩ (.slice pl nl cl) (.slice ph nh ch) (.slice pi ni ci) ∧ RegAt x5 b7 ⟨S, L, H, R, I⟩ (lv gx L) (lv gy H) (lv gz I) ∧ Lent x5 w.heap.size gy H ∧ Lent x5 w.heap.size gz I ∧ Gb w x5 ∧ At2 x5 x3.heap.size D) := by
      obtain ⟨h, hA, e1, e2, e3⟩ := S3.out
      exact ⟨h.own.block (n5.block _ h.own.lt (by simpa using h.o1)), h.cpy.block (n5.block _ h.cpy.lt (by simpa using h.m1)), h.ly.far n5 (Ne.symm h.n1), h.lz.far n5 (Ne.symm h.n2), gb_grown h.gb n5 h.lx.1, grown_at2 n5 hA e1⟩
    clear c0 c1 c2 c3 c4 c5 o0 o1 o2 o3 o4 o5 n5 CX
    obtain ⟨c0, c1, c2, c3, c4, c5⟩ := S5.out.2.1
    dsimp only [lv] at c0 c1 c2 c3 c4 c5
    rw [hnl] at c1; rw [hnh] at c2; rw [hni] at c5
    obtain ⟨o0, o1, o2, o3, o4, o5⟩ := S5.out.1
    dsimp only at o0 o1 o2 o3 o4 o5
    go_wp2_with fail
    refine (CY _ _ S5.out.2.2.1 S5.out.2.2.2.2.1).mono ?_
    rintro e x6 ⟨rfl, n6⟩
    have S6 : Hid (RegAt x6 w.heap.size ⟨S, L, H, R, I⟩ (.slice pl nl cl) (.slice ph nh ch) (.slice pi ni ci) ∧ RegAt x6 b7 ⟨S, L, H, R, I⟩ (lv gx L) (lv gy H) (lv gz I) ∧ Lent x6 w.heap.size gz I ∧ Gb w x6 ∧ At2 x6 x3.heap.size D) := by
      obtain ⟨h, _, e1, e2, e3⟩ := S3.out
      obtain ⟨q1, q2, q3, q4, q5, q6⟩ := S5.out
      exact ⟨q1.block (n6.block _ q1.lt (by simpa using h.o2)), q2.block (n6.block _ q2.lt (by simpa using h.m2)), q4.far n6 (Ne.symm h.n3), gb_grown q5 n6 q3.1, grown_at2 n6 q6 e2⟩
    clear c0 c1 c2 c3 c4 c5 o0 o1 o2 o3 o4 o5 n6 CY S5
    obtain ⟨c0, c1, c2, c3, c4, c5⟩ := S6.out.2.1
    dsimp only [lv] at c0 c1 c2 c3 c4 c5
    rw [hnl] at c1; rw [hnh] at c2; rw [hni] at c5
    obtain ⟨o0, o1, o2, o3, o4, o5⟩ := S6.out.1
    dsimp only at o0 o1 o2 o3 o4 o5
    go_wp2_with fail
    refine (CZ _ _ S6.out.2.2.1 S6.out.2.2.2.1).mono ?_
    rintro e x7 ⟨rfl, n7⟩
    have S7 : Hid (RegAt x7 w.heap.size ⟨S, L, H, R, I⟩ (.slice pl nl cl) (.slice ph nh ch) (.slice pi ni ci) ∧ Gb w x7 ∧ At2 x7 x3.heap.size D) := by
      obtain ⟨h, _, e1, e2, e3⟩ := S3.out
      obtain ⟨q1, q2, q3, q4, q5⟩ := S6.out
      exact ⟨q1.block (n7.block _ q1.lt (by simpa using h.o3)), gb_grown q4 n7 q3.1, grown_at2 n7 q5 e3⟩
    clear c0 c1 c2 c3 c4 c5 o0 o1 o2 o3 o4 o5 n7 CZ S6 S3
    obtain ⟨o0, o1, o2, o3, o4, o5⟩ := S7.out.1
    dsimp only at o0 o1 o2 o3 o4 o5
    go_wp2_with fail
    refine (C20 _ S7.out.2.1).mono ?_
    rintro e x8 ⟨rfl, m8⟩
    have S8 : Hid (RegAt x8 w.heap.size ⟨S, L, H, R, I⟩ (.slice pl nl cl) (.slice ph nh ch) (.slice pi ni ci) ∧ Gb w x8 ∧ At2 x8 x3.heap.size D) := ⟨S7.out.1.gb m8.gb, gb_trans S7.out.2.1 m8.gb, S7.out.2.2.gb m8.gb⟩
    clear o0 o1 o2 o3 o4 o5 m8 C20 S7
    obtain ⟨o0, o1, o2, o3, o4, o5⟩ := S8.out.1
    dsimp only at o0 o1 o2 o3 o4 o5
    go_wp2_with fail
    refine (C21 _ S8.out.2.1).mono ?_
    rintro e x9 ⟨rfl, m9⟩
    have S9 : Hid (RegAt (x9.alloc (.cells #[.int .u64 (hi D), .int .u64 (lo D)] 26)) w.heap.size ⟨S, L, H, R, I⟩ (.slice pl nl cl) (.slice ph nh ch) (.slice pi ni ci) ∧ Gb w (x9.alloc (.cells #[.int .u64 (hi D), .int .u64 (lo D)] 26)) ∧ At2 (x9.alloc (.cells #[.int .u64 (hi D), .int .u64 (lo D)] 26)) x3.heap.size D ∧ At2 (x9.alloc (.cells #[.int .u64 (hi D), .int .u64 (lo D)] 26)) x9.heap.size D) := by
      have k := gb_alloc m9.gb (.cells #[.int .u64 (hi D), .int .u64 (lo D)] 26)
      exact ⟨S8.out.1.gb k, gb_trans S8.out.2.1 k, S8.out.2.2.gb k, At2.new x9 D 26⟩
    clear o0 o1 o2 o3 o4 o5 m9 C21 S8
    go_wp2_with fail
    refine (awake_any _).mono ?_
    rintro e x11 ⟨rfl, m11⟩
    have T1 : Hid (RegAt x11 w.heap.size ⟨S, L, H, R, I⟩ (.slice pl nl cl) (.slice ph nh ch) (.slice pi ni ci) ∧ Gb w x11 ∧ At2 x11 x3.heap.size D ∧ At2 x11 x9.heap.size D) := ⟨S9.out.1.gb m11, gb_trans S9.out.2.1 m11, S9.out.2.2.1.gb m11, S9.out.2.2.2.gb m11⟩
    clear m11 S9
    obtain ⟨o0, o1, o2, o3, o4, o5⟩ := T1.out.1
    dsimp only at o0 o1 o2 o3 o4 o5
    go_wp2_with fail
    refine (C22 _ T1.out.2.1).mono ?_
    rintro e x12 ⟨rfl, m12⟩
    have G12 := gb_trans T1.out.2.1 m12.gb
    obtain ⟨s0, s1, _, _⟩ := T1.out.2.2.1.gb m12.gb
    obtain ⟨t0, t1, _, _⟩ := T1.out.2.2.2.gb m12.gb
    have heq := fun W => wd_same (hi D) (lo D) W
    clear T1 m12 C22 o0 o1 o2 o3 o4 o5
    go_wp2
    go_ret
    exact ⟨by simp, G12⟩

end Go.Proofs.Ytnhaloeeaejedaa
