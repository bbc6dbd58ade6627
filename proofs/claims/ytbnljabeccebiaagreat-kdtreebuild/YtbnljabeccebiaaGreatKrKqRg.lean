/- (*kdtree.part).region. -/
import Derived.Test.YtbnljabeccebiaaGreatKrKqId
namespace Go.Proofs.YtbnljabeccebiaaGreat
open Go.RowKit Go.Sort

/-- A region that came out: its lists in memory of their own. -/
def RegO (W : World) (L H I : List Int) (e : Ending) (W' : World) : Prop := ∃ v1 v2 v3, e = .returned (.agg #[.int .i64 2, v1, v2, .int .u64 0, .int .u64 0, v3]) ∧ Gb W W' ∧ Own W' W.heap.size v1 L ∧ Own W' W.heap.size v2 H ∧ Own W' W.heap.size v3 I
theorem form_own {w : World} {B : Nat} {v : Value} {l : List Int} (h : Own w B v l) : ∃ a n c, v = .slice a n c := by
  obtain ⟨a, c, e, _⟩ := h.rd
  exact ⟨a, _, c, e⟩
set_option maxHeartbeats 4000000 in
set_option maxRecDepth 100000 in
theorem region_c {w0 W : World} {T : Nat → Pt} {N pb d : Nat} {p : Pt} (hp : MP w0 W T N pb p) (ok : OkP T d N p) (g0 : Gb w0 W) (hl : (rowsP T N p).length ≤ 512) :
    Calls Tryz.prog 75 #[.pointer (some ⟨pb, 0, none⟩)] W fun e W' => RegO W p.L p.H (srt (idsOf (rowsP T N p))) e W' := by
  obtain ⟨l1, l2, l3, l4, _⟩ := (okP_box ok).lens
  have hp0 := hp
  obtain ⟨vl, vh, vr, hblk, rl, rh, _⟩ := hp
  have gA : Gb W (W.alloc (.cells #[.int .i64 0, .slice none 0 0, .slice none 0 0, .int .u64 0, .int .u64 0, .slice none 0 0] 101)).drew := (gb_alloc (Below.refl _ _) _).drew
  have CL : Hid (∀ W', Gb (W.alloc (.cells #[.int .i64 0, .slice none 0 0, .slice none 0 0, .int .u64 0, .int .u64 0, .slice none 0 0] 101)).drew W' → Calls Tryz.prog 50 #[vl] W' fun e w' => ∃ v', e = .returned v' ∧ Own w' W'.heap.size v' p.L ∧ Gb W' w') := fun W' g => clone_c (rl.gb (gb_trans g0 (gb_trans gA g))) (by omega) (by omega)
  have CH : Hid (∀ W', Gb (W.alloc (.cells #[.int .i64 0, .slice none 0 0, .slice none 0 0, .int .u64 0, .int .u64 0, .slice none 0 0] 101)).drew W' → Calls Tryz.prog 50 #[vh] W' fun e w' => ∃ v', e = .returned v' ∧ Own w' W'.heap.size v' p.H ∧ Gb W' w') := fun W' g => clone_c (rh.gb (gb_trans g0 (gb_trans gA g))) (by omega) (by omega)
  have CI : Hid (∀ W', Gb (W.alloc (.cells #[.int .i64 0, .slice none 0 0, .slice none 0 0, .int .u64 0, .int .u64 0, .slice none 0 0] 101)).drew W' → Calls Tryz.prog 112 #[.pointer (some ⟨pb, 0, none⟩)] W' fun e w' => ∃ v', e = .returned v' ∧ Own w' W'.heap.size v' (srt (idsOf (rowsP T N p))) ∧ Gb W' w') := fun W' g => ids_c (hp0.gb (gb_trans gA g)) ok (gb_trans g0 (gb_trans gA g)) hl
  have c1 := gb_keeps gA (cell_cur (i := 1) hblk rfl)
  have c2 := gb_keeps gA (cell_cur (i := 2) hblk rfl)
  have pbl := (Array.getElem?_eq_some_iff.1 hblk).1
  have FIN : Hid (∀ w3 v1 v2 v3, Gb (W.alloc (.cells #[.int .i64 0, .slice none 0 0, .slice none 0 0, .int .u64 0, .int .u64 0, .slice none 0 0] 101)).drew w3 → Own w3 (W.alloc (.cells #[.int .i64 0, .slice none 0 0, .slice none 0 0, .int .u64 0, .int .u64 0, .slice none 0 0] 101)).drew.heap.size v1 p.L → Own w3 (W.alloc (.cells #[.int .i64 0, .slice none 0 0, .slice none 0 0, .int .u64 0, .int .u64 0, .slice none 0 0] 101)).drew.heap.size v2 p.H → Own w3 (W.alloc (.cells #[.int .i64 0, .slice none 0 0, .slice none 0 0, .int .u64 0, .int .u64 0, .slice none 0 0] 101)).drew.heap.size v3 (srt (idsOf (rowsP T N p))) →
      Hid (RegO W p.L p.H (srt (idsOf (rowsP T N p))) (.returned (.agg #[.int .i64 2, v1, v2, .int .u64 0, .int .u64 0, v3])) ((((((w3.setCell ⟨W.heap.size, 0, none⟩ (.int .i64 2)).setCell ⟨W.heap.size, 1, none⟩ v1).setCell ⟨W.heap.size, 2, none⟩ v2).setCell ⟨W.heap.size, 3, none⟩ (.int .u64 0)).setCell ⟨W.heap.size, 4, none⟩ (.int .u64 0)).setCell ⟨W.heap.size, 5, none⟩ v3)) ∧ (w3.cell? ⟨pb, 1, none⟩ = some vl → w3.cell? ⟨pb, 2, none⟩ = some vh → (fun W => W.cell? ⟨pb, 1, none⟩ = some vl ∧ W.cell? ⟨pb, 2, none⟩ = some vh) ((((((w3.setCell ⟨W.heap.size, 0, none⟩ (.int .i64 2)).setCell ⟨W.heap.size, 1, none⟩ v1).setCell ⟨W.heap.size, 2, none⟩ v2).setCell ⟨W.heap.size, 3, none⟩ (.int .u64 0)).setCell ⟨W.heap.size, 4, none⟩ (.int .u64 0)).setCell ⟨W.heap.size, 5, none⟩ v3)) ∧
      (∃ y, w3.cell? ⟨W.heap.size, 0, none⟩ = some y) ∧ (∃ y, w3.cell? ⟨W.heap.size, 1, none⟩ = some y) ∧ (∃ y, w3.cell? ⟨W.heap.size, 2, none⟩ = some y) ∧ (∃ y, w3.cell? ⟨W.heap.size, 3, none⟩ = some y) ∧ (∃ y, w3.cell? ⟨W.heap.size, 4, none⟩ = some y) ∧ (∃ y, w3.cell? ⟨W.heap.size, 5, none⟩ = some y) ∧
      w3.frozen? ⟨W.heap.size, 0, none⟩ = false ∧ w3.frozen? ⟨W.heap.size, 1, none⟩ = false ∧ w3.frozen? ⟨W.heap.size, 2, none⟩ = false ∧ w3.frozen? ⟨W.heap.size, 3, none⟩ = false ∧ w3.frozen? ⟨W.heap.size, 4, none⟩ = false ∧ w3.frozen? ⟨W.heap.size, 5, none⟩ = false) := by
    intro w3 v1 v2 v3 g o1 o2 o3
    have hb : w3.heap[W.heap.size]? = some (.cells #[.int .i64 0, .slice none 0 0, .slice none 0 0, .int .u64 0, .int .u64 0, .slice none 0 0] 101 (0, 0)) := by
      rw [g.block W.heap.size (by simp [World.size_alloc])]
      exact heap_new W _
    have k0 : Tk.Kp (fun b => b = W.heap.size) w3 ((((((w3.setCell ⟨W.heap.size, 0, none⟩ (.int .i64 2)).setCell ⟨W.heap.size, 1, none⟩ v1).setCell ⟨W.heap.size, 2, none⟩ v2).setCell ⟨W.heap.size, 3, none⟩ (.int .u64 0)).setCell ⟨W.heap.size, 4, none⟩ (.int .u64 0)).setCell ⟨W.heap.size, 5, none⟩ v3) := (((((((Tk.Kp.refl (fun b => b = W.heap.size) w3).setCell (.inl rfl) _).setCell (.inl rfl) _).setCell (.inl rfl) _).setCell (.inl rfl) _).setCell (.inl rfl) _).setCell (.inl rfl) _)
    have ob : ∀ {v : Value} {l : List Int}, Own w3 (W.alloc (.cells #[.int .i64 0, .slice none 0 0, .slice none 0 0, .int .u64 0, .int .u64 0, .slice none 0 0] 101)).drew.heap.size v l → Own ((((((w3.setCell ⟨W.heap.size, 0, none⟩ (.int .i64 2)).setCell ⟨W.heap.size, 1, none⟩ v1).setCell ⟨W.heap.size, 2, none⟩ v2).setCell ⟨W.heap.size, 3, none⟩ (.int .u64 0)).setCell ⟨W.heap.size, 4, none⟩ (.int .u64 0)).setCell ⟨W.heap.size, 5, none⟩ v3) W.heap.size v l := fun ho => by
      refine own_kpI (ho.mono (by simp [World.size_alloc])) k0 (fun b e e2 => ?_)
      have := (ho.lt b e).1
      simp [World.size_alloc] at this
      omega
    refine ⟨⟨v1, v2, v3, rfl, ?_, ob o1, ob o2, ob o3⟩, fun a b => ⟨k0.cell a (by intro e; dsimp only at e; omega), k0.cell b (by intro e; dsimp only at e; omega)⟩, ⟨_, cell_cur hb rfl⟩, ⟨_, cell_cur hb rfl⟩, ⟨_, cell_cur hb rfl⟩, ⟨_, cell_cur hb rfl⟩, ⟨_, cell_cur hb rfl⟩, ⟨_, cell_cur hb rfl⟩, by simp [World.frozen?, hb], by simp [World.frozen?, hb], by simp [World.frozen?, hb], by simp [World.frozen?, hb], by simp [World.frozen?, hb], by simp [World.frozen?, hb]⟩
    exact (gb_trans gA g).trans (k0.gr (by have := (gb_trans gA g).size; omega) (fun b e => by rw [e]; exact Nat.le_refl _))
  obtain ⟨al, cl, el, _⟩ := rl
  obtain ⟨ah, ch, eh, _⟩ := rh
  subst el eh
  generalize p.L.length = nl at *
  generalize p.H.length = nh at *
  have FS : (fun W => W.cell? ⟨pb, 1, none⟩ = some (.slice al nl cl) ∧ W.cell? ⟨pb, 2, none⟩ = some (.slice ah nh ch)) (W.alloc (.cells #[.int .i64 0, .slice none 0 0, .slice none 0 0, .int .u64 0, .int .u64 0, .slice none 0 0] 101)).drew := ⟨c1, c2⟩
  clear hp0 hblk gA c1 c2 pbl l1 l2 l3 l4 ok g0 hl
  go_enter Tryz.func75, Tryz.ntmps75
  go_wp2_with fail
  refine wp_region_held_drew (S := fun W => W.cell? ⟨pb, 1, none⟩ = some (.slice al nl cl) ∧ W.cell? ⟨pb, 2, none⟩ = some (.slice ah nh ch)) (by kernel_rfl) (FS) (fun hHeld => ?_)
  refine wpAnyH_take (i := 0) (v := ?_) rfl (by kernel_rfl) (by kernel_rfl) (by kernel_rfl) (fun _ _ _ h => h) (Or.inl ⟨by rfl, ?_⟩) (by assumption) ?_
  rotate_left 1
  · (intro w hSw; (obtain ⟨s0, s1⟩ := hSw); go_simp; try with_reducible rfl)
  try simp only [Act.put, List.getElem_toArray, List.getElem_cons_zero, List.setIfInBounds_toArray, List.set_cons_zero, List.set_cons_succ]
  refine wpAnyH_take (i := 1) (v := ?_) rfl (by kernel_rfl) (by kernel_rfl) (by kernel_rfl) (fun _ _ _ h => h) (Or.inl ⟨by rfl, ?_⟩) (by assumption) ?_
  rotate_left 1
  · (intro w hSw; (obtain ⟨s0, s1⟩ := hSw); go_simp; try with_reducible rfl)
  try simp only [Act.put, List.getElem_toArray, List.getElem_cons_zero, List.getElem_cons_succ, List.setIfInBounds_toArray, List.set_cons_zero, List.set_cons_succ]
  refine wpAnyH_take (i := 2) (v := ?_) rfl (by kernel_rfl) (by kernel_rfl) (by kernel_rfl) (fun _ _ _ h => h) (Or.inl ⟨by rfl, ?_⟩) (by assumption) ?_
  rotate_left 1
  · (intro w hSw; (obtain ⟨s0, s1⟩ := hSw); go_simp; try with_reducible rfl)
  try simp only [Act.put, List.getElem_toArray, List.getElem_cons_zero, List.getElem_cons_succ, List.setIfInBounds_toArray, List.set_cons_zero, List.set_cons_succ]
  refine wpAnyH_take (i := 3) (v := ?_) rfl (by kernel_rfl) (by kernel_rfl) (by kernel_rfl) (fun _ _ _ h => h) (Or.inl ⟨by rfl, ?_⟩) (by assumption) ?_
  rotate_left 1
  · (intro w hSw; (obtain ⟨s0, s1⟩ := hSw); go_simp; try with_reducible rfl)
  try simp only [Act.put, List.getElem_toArray, List.getElem_cons_zero, List.getElem_cons_succ, List.setIfInBounds_toArray, List.set_cons_zero, List.set_cons_succ]
  refine wpAnyH_take (i := 4) (v := ?_) rfl (by kernel_rfl) (by kernel_rfl) (by kernel_rfl) (fun _ _ _ h => h) (Or.inl ⟨by rfl, ?_⟩) (by assumption) ?_
  rotate_left 1
  · (intro w hSw; (obtain ⟨s0, s1⟩ := hSw); go_simp; try with_reducible rfl)
  try simp only [Act.put, List.getElem_toArray, List.getElem_cons_zero, List.getElem_cons_succ, List.setIfInBounds_toArray, List.set_cons_zero, List.set_cons_succ]
  refine wpAnyH_take (i := 6) (v := ?_) rfl (by kernel_rfl) (by kernel_rfl) (by kernel_rfl) (fun _ _ _ h => h) (Or.inl ⟨by rfl, ?_⟩) (by assumption) ?_
  rotate_left 1
  · (intro w hSw; (obtain ⟨s0, s1⟩ := hSw); go_simp; try with_reducible rfl)
  try simp only [Act.put, List.getElem_toArray, List.getElem_cons_zero, List.getElem_cons_succ, List.setIfInBounds_toArray, List.set_cons_zero, List.set_cons_succ]
  refine wpAnyH_take (i := 7) (v := ?_) rfl (by kernel_rfl) (by kernel_rfl) (by kernel_rfl) (fun _ _ _ h => h) (Or.inl ⟨by rfl, ?_⟩) (by assumption) ?_
  rotate_left 1
  · (intro w hSw; (obtain ⟨s0, s1⟩ := hSw); go_simp; try with_reducible rfl)
  try simp only [Act.put, List.getElem_toArray, List.getElem_cons_zero, List.getElem_cons_succ, List.setIfInBounds_toArray, List.set_cons_zero, List.set_cons_succ]
  refine wpAnyH_take (i := 8) (v := ?_) rfl (by kernel_rfl) (by kernel_rfl) (by kernel_rfl) (fun _ _ _ h => h) (Or.inl ⟨by rfl, ?_⟩) (by assumption) ?_
  rotate_left 1
  · (intro w hSw; (obtain ⟨s0, s1⟩ := hSw); go_simp; try with_reducible rfl)
  try simp only [Act.put, List.getElem_toArray, List.getElem_cons_zero, List.getElem_cons_succ, List.setIfInBounds_toArray, List.set_cons_zero, List.set_cons_succ]
  refine wpAnyH_take (i := 9) (v := ?_) rfl (by kernel_rfl) (by kernel_rfl) (by kernel_rfl) (fun _ _ _ h => h) (Or.inl ⟨by rfl, ?_⟩) (by assumption) ?_
  rotate_left 1
  · (intro w hSw; (obtain ⟨s0, s1⟩ := hSw); go_simp; try with_reducible rfl)
  try simp only [Act.put, List.getElem_toArray, List.getElem_cons_zero, List.getElem_cons_succ, List.setIfInBounds_toArray, List.set_cons_zero, List.set_cons_succ]
  refine wpAnyH_take (i := 10) (v := ?_) rfl (by kernel_rfl) (by kernel_rfl) (by kernel_rfl) (fun _ _ _ h => h) (Or.inl ⟨by rfl, ?_⟩) (by assumption) ?_
  rotate_left 1
  · (intro w hSw; (obtain ⟨s0, s1⟩ := hSw); go_simp; try with_reducible rfl)
  try simp only [Act.put, List.getElem_toArray, List.getElem_cons_zero, List.getElem_cons_succ, List.setIfInBounds_toArray, List.set_cons_zero, List.set_cons_succ]
  refine wpAnyH_take (i := 12) (v := ?_) rfl (by kernel_rfl) (by kernel_rfl) (by kernel_rfl) (fun _ _ _ h => h) (Or.inl ⟨by rfl, ?_⟩) (by assumption) ?_
  rotate_left 1
  · (intro w hSw; (obtain ⟨s0, s1⟩ := hSw); go_simp; try with_reducible rfl)
  try simp only [Act.put, List.getElem_toArray, List.getElem_cons_zero, List.getElem_cons_succ, List.setIfInBounds_toArray, List.set_cons_zero, List.set_cons_succ]
  refine wpAnyH_ready (rs := [5]) (by kernel_rfl) (by simp) ?_
  refine AllReadyH.cons rfl (fun K hK => ?_) AllReadyH.nil
  · go_simp
    go_fit (CL.out _ (Below.refl _ _))
    rintro e w1 ⟨v1, rfl, o1, g1⟩
    obtain ⟨a1, n1, c1, rfl⟩ := form_own o1
    refine hK.out _ _ ⟨gb_keeps g1 hHeld.1, gb_keeps g1 hHeld.2⟩ (fun hHeld => ?_)
    clear hK K
    try simp only [Act.put, List.getElem_toArray, List.getElem_cons_zero, List.getElem_cons_succ, List.setIfInBounds_toArray, List.set_cons_zero, List.set_cons_succ]
    refine wpAnyH_ready (rs := [11]) (by kernel_rfl) (by simp) ?_
    refine AllReadyH.cons rfl (fun K hK => ?_) AllReadyH.nil
    · go_simp
      go_fit (CH.out _ (g1))
      rintro e w2 ⟨v2, rfl, o2, g2⟩
      obtain ⟨a2, n2, c2, rfl⟩ := form_own o2
      refine hK.out _ _ ⟨gb_keeps g2 hHeld.1, gb_keeps g2 hHeld.2⟩ (fun hHeld => ?_)
      clear hK K
      try simp only [Act.put, List.getElem_toArray, List.getElem_cons_zero, List.getElem_cons_succ, List.setIfInBounds_toArray, List.set_cons_zero, List.set_cons_succ]
      refine wpAnyH_ready (rs := [13]) (by kernel_rfl) (by simp) ?_
      refine AllReadyH.cons rfl (fun K hK => ?_) AllReadyH.nil
      · go_simp
        go_fit (CI.out _ (gb_trans g1 g2))
        rintro e w3 ⟨v3, rfl, o3, g3⟩
        obtain ⟨a3, n3, c3, rfl⟩ := form_own o3
        refine hK.out _ _ ⟨gb_keeps g3 hHeld.1, gb_keeps g3 hHeld.2⟩ (fun hHeld => ?_)
        clear hK K
        try simp only [Act.put, List.getElem_toArray, List.getElem_cons_zero, List.getElem_cons_succ, List.setIfInBounds_toArray, List.set_cons_zero, List.set_cons_succ]
        refine wpAnyH_take (i := 14) (v := ?_) rfl (by kernel_rfl) (by kernel_rfl) (by kernel_rfl) (fun _ _ _ h => h) (Or.inl ⟨by rfl, ?_⟩) (by assumption) ?_
        rotate_left 1
        · (intro w hSw; (obtain ⟨s0, s1⟩ := hSw); go_simp; try with_reducible rfl)
        try simp only [Act.put, List.getElem_toArray, List.getElem_cons_zero, List.getElem_cons_succ, List.setIfInBounds_toArray, List.set_cons_zero, List.set_cons_succ]
        obtain ⟨FF, K15, ⟨y0, z0⟩, ⟨y1, z1⟩, ⟨y2, z2⟩, ⟨y3, z3⟩, ⟨y4, z4⟩, ⟨y5, z5⟩, f0, f1, f2, f3, f4, f5⟩ := FIN.out w3 _ _ _ (gb_trans (gb_trans g1 g2) g3) (((o1.gb g2).gb g3).mono (Nat.le_refl _)) ((o2.gb g3).mono (g1.size)) (o3.mono (Nat.le_trans g1.size g2.size))
        clear o1 o2 o3 g1 g2 g3 FIN CL CH CI
        refine wpAnyH_ready (rs := [15]) (by kernel_rfl) (by simp) ?_
        refine AllReadyH.cons rfl (fun K hK => ?_) AllReadyH.nil
        go_simp
        refine hK.out _ _ (K15 hHeld.1 hHeld.2) (fun hHeld => ?_)
        clear hK K
        try simp only [Act.put, List.getElem_toArray, List.getElem_cons_zero, List.getElem_cons_succ, List.setIfInBounds_toArray, List.set_cons_zero, List.set_cons_succ]
        refine wpAnyH_done (by kernel_rfl) ?_ _
        clear hHeld K15
        go_wp2
        refine bodyPost_ret (v := .agg #[.int .i64 2, .slice a1 n1 c1, .slice a2 n2 c2, .int .u64 0, .int .u64 0, .slice a3 n3 c3]) (by simp [results, Tryz.results75, go_sem, z0, z1, z2, z3, z4, z5]) rfl ?_
        exact FF.out
end Go.Proofs.YtbnljabeccebiaaGreat
