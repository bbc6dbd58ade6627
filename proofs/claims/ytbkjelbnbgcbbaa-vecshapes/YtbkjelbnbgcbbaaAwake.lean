/- The document's examples: awake is true. -/
import Derived.Test.YtbkjelbnbgcbbaaKeep
namespace Go.Proofs.Ytbkjelbnbgcbbaa
open Go.RowKit Go.Sort

theorem aw1 : distE [-2147483647] [2147483647] = 0 ∧ distV [-2147483647] [2147483647] = 18446744056529682436 := by decide
theorem aw2 : ckB ⟨2, [0, 0], [4, 4], 0, []⟩ [4, 0] = 0 ∧ insV ⟨2, [0, 0], [4, 4], 0, []⟩ [4, 0] = true := by decide
theorem aw3 : ckB ⟨2, [0, 0], [4, 4], 0, []⟩ [7, 8] = 0 ∧ bndV ⟨2, [0, 0], [4, 4], 0, []⟩ [7, 8] = 25 := by decide
theorem aw4 : ckB ⟨3, [0, 0], [], 5, []⟩ [6, 8] = 0 ∧ bndV ⟨3, [0, 0], [], 5, []⟩ [6, 8] = 49 := by decide
theorem aw5s : srt [9, 4] = [4, 9] := by simp [srt, List.mergeSort, List.MergeSort.Internal.splitInTwo]
theorem aw5 : boxE [(9, [1, 5]), (4, [3, 2])] 2 = 0 ∧ boxL [(9, [1, 5]), (4, [3, 2])] 2 = [1, 2] ∧ boxH [(9, [1, 5]), (4, [3, 2])] 2 = [3, 5] := by decide
theorem aw6 : chk [1, 2] 3 = 30 := by decide

abbrev two (x y : Int) : Obj := .cells #[.int .i64 x, .int .i64 y] 3
theorem aw_same (a b : Int) (W : World) : (binOp .eql 29 (.agg #[.int .u64 a, .int .u64 b]) (.agg #[.int .u64 a, .int .u64 b])).run Try.prog W = .ok (.bool true) W := by
  rw [wd_run]; simp
theorem aw_dist (W : World) : Calls Try.prog 26 #[.slice (some ⟨W.heap.size, 0, none⟩) 1 1, .slice (some ⟨W.heap.size + 1, 0, none⟩) 1 1] ((W.alloc (.cells #[.int .i64 (-2147483647)] 3)).alloc (.cells #[.int .i64 2147483647] 3)) fun e w' =>
    e = .returned (.tuple #[.agg #[.int .u64 0, .int .u64 18446744056529682436], .int .i64 0]) ∧ Gb W w' := by
  have h1 := (rdi_one W (-2147483647)).gb (gb_alloc (Below.refl _ _) (.cells #[.int .i64 2147483647] 3))
  have h2 := rdi_one (W.alloc (.cells #[.int .i64 (-2147483647)] 3)) 2147483647
  rw [World.size_alloc] at h2
  have := dist_c h1 h2
  rw [aw1.1, aw1.2] at this
  refine this.mono ?_
  rintro e w' ⟨rfl, g⟩
  exact ⟨rfl, gb_trans (gb_alloc (gb_alloc (Below.refl _ _) _) _) g.gb⟩
theorem aw_mkbox (W : World) : Calls Try.prog 28 #[.slice (some ⟨W.heap.size, 0, none⟩) 2 2, .slice (some ⟨W.heap.size + 1, 0, none⟩) 2 2] ((W.alloc (two 0 0)).alloc (two 4 4)) fun e w' =>
    e = .returned (.agg #[.int .i64 2, .slice (some ⟨W.heap.size, 0, none⟩) 2 2, .slice (some ⟨W.heap.size + 1, 0, none⟩) 2 2, .int .u64 0, .int .u64 0, .slice none 0 0]) ∧ Gb W w' ∧
      RdR w' (.agg #[.int .i64 2, .slice (some ⟨W.heap.size, 0, none⟩) 2 2, .slice (some ⟨W.heap.size + 1, 0, none⟩) 2 2, .int .u64 0, .int .u64 0, .slice none 0 0]) ⟨2, [0, 0], [4, 4], 0, []⟩ := by
  have h1 := (rdi_two W 0 0).gb (gb_alloc (Below.refl _ _) (two 4 4))
  have h2 := rdi_two (W.alloc (two 0 0)) 4 4
  rw [World.size_alloc] at h2
  refine (mkbox_c h1 h2).mono ?_
  rintro e w' ⟨rfl, g⟩
  exact ⟨rfl, gb_trans (gb_alloc (gb_alloc (Below.refl _ _) _) _) g.gb, _, _, _, rfl, h1.gb g.gb, h2.gb g.gb, rdi_nil _⟩
theorem aw_mkball (W : World) : Calls Try.prog 30 #[.slice (some ⟨W.heap.size, 0, none⟩) 2 2, .int .u64 5] (W.alloc (two 0 0)) fun e w' =>
    e = .returned (.agg #[.int .i64 3, .slice (some ⟨W.heap.size, 0, none⟩) 2 2, .slice none 0 0, .int .u64 0, .int .u64 5, .slice none 0 0]) ∧ Gb W w' ∧
      RdR w' (.agg #[.int .i64 3, .slice (some ⟨W.heap.size, 0, none⟩) 2 2, .slice none 0 0, .int .u64 0, .int .u64 5, .slice none 0 0]) ⟨3, [0, 0], [], 5, []⟩ := by
  have h1 := rdi_two W 0 0
  refine (mkball_c h1 5 (by omega)).mono ?_
  rintro e w' ⟨rfl, g⟩
  exact ⟨rfl, gb_trans (gb_alloc (Below.refl _ _) _) g.gb, _, _, _, rfl, h1.gb g.gb, rdi_nil _, rdi_nil _⟩
theorem aw_in {W : World} {v : Value} (h : RdR W v ⟨2, [0, 0], [4, 4], 0, []⟩) : Calls Try.prog 27 #[v, .slice (some ⟨W.heap.size, 0, none⟩) 2 2] (W.alloc (two 4 0)) fun e w' =>
    e = .returned (.tuple #[.bool true, .int .i64 0]) ∧ Gb W w' := by
  have g0 : Gb W (W.alloc (two 4 0)) := gb_alloc (Below.refl _ _) _
  have := inside_c (h.gb g0) (rdi_two W 4 0) (by simp)
  rw [aw2.1, aw2.2] at this
  refine this.mono ?_
  rintro e w' ⟨rfl, g⟩
  exact ⟨rfl, gb_trans g0 g.gb⟩
theorem aw_b1 {W : World} {v : Value} (h : RdR W v ⟨2, [0, 0], [4, 4], 0, []⟩) : Calls Try.prog 29 #[v, .slice (some ⟨W.heap.size, 0, none⟩) 2 2] (W.alloc (two 7 8)) fun e w' =>
    e = .returned (.tuple #[.agg #[.int .u64 0, .int .u64 25], .int .i64 0]) ∧ Gb W w' := by
  have g0 : Gb W (W.alloc (two 7 8)) := gb_alloc (Below.refl _ _) _
  have := bound_c (h.gb g0) (rdi_two W 7 8) (by simp) (by simp)
  rw [aw3.1, aw3.2] at this
  refine this.mono ?_
  rintro e w' ⟨rfl, g⟩
  exact ⟨rfl, gb_trans g0 g.gb⟩
theorem aw_b2 {W : World} {v : Value} (h : RdR W v ⟨3, [0, 0], [], 5, []⟩) : Calls Try.prog 29 #[v, .slice (some ⟨W.heap.size, 0, none⟩) 2 2] (W.alloc (two 6 8)) fun e w' =>
    e = .returned (.tuple #[.agg #[.int .u64 0, .int .u64 49], .int .i64 0]) ∧ Gb W w' := by
  have g0 : Gb W (W.alloc (two 6 8)) := gb_alloc (Below.refl _ _) _
  have := bound_c (h.gb g0) (rdi_two W 6 8) (by simp) (by simp)
  rw [aw4.1, aw4.2] at this
  refine this.mono ?_
  rintro e w' ⟨rfl, g⟩
  exact ⟨rfl, gb_trans g0 g.gb⟩
theorem aw_box (W : World) : Calls Try.prog 6 #[.slice (some ⟨W.heap.size + 1 + 1, 0, none⟩) 2 2, .int .i64 2] (((W.alloc (two 1 5)).alloc (two 3 2)).alloc (.cells #[.int .i64 9, .slice (some ⟨W.heap.size, 0, none⟩) 2 2, .int .i64 4, .slice (some ⟨W.heap.size + 1, 0, none⟩) 2 2] 41)) fun e w' =>
    ∃ pl cl ph ch pi ci, e = .returned (.tuple #[.agg #[.int .i64 2, .slice pl 2 cl, .slice ph 2 ch, .int .u64 0, .int .u64 0, .slice pi 2 ci], .int .i64 0]) ∧ Gb W w' ∧ RdI w' (.slice pl 2 cl) [1, 2] ∧ RdI w' (.slice pi 2 ci) [4, 9] := by
  have g1 : Gb W ((W.alloc (two 1 5)).alloc (two 3 2)) := gb_alloc (gb_alloc (Below.refl _ _) _) _
  have h1 := (rdi_two W 1 5).gb (gb_alloc (Below.refl _ _) (two 3 2))
  have h2 := rdi_two (W.alloc (two 1 5)) 3 2
  rw [World.size_alloc] at h2
  have g2 : Gb ((W.alloc (two 1 5)).alloc (two 3 2)) (((W.alloc (two 1 5)).alloc (two 3 2)).alloc (.cells #[.int .i64 9, .slice (some ⟨W.heap.size, 0, none⟩) 2 2, .int .i64 4, .slice (some ⟨W.heap.size + 1, 0, none⟩) 2 2] 41)) := gb_alloc (Below.refl _ _) _
  have hw : RdW (((W.alloc (two 1 5)).alloc (two 3 2)).alloc (.cells #[.int .i64 9, .slice (some ⟨W.heap.size, 0, none⟩) 2 2, .int .i64 4, .slice (some ⟨W.heap.size + 1, 0, none⟩) 2 2] 41)) (.slice (some ⟨W.heap.size + 1 + 1, 0, none⟩) 2 2) [(9, [1, 5]), (4, [3, 2])] := by
    refine ⟨_, 2, rfl, fun i hi => ?_⟩
    have : i = 0 ∨ i = 1 := by simp at hi; omega
    rcases this with rfl | rfl
    · exact ⟨W.heap.size + 1 + 1, 0, _, rfl, by simp [go_sem], by simp [go_sem], h1.gb g2⟩
    · exact ⟨W.heap.size + 1 + 1, 0, _, rfl, by simp [go_sem], by simp [go_sem], h2.gb g2⟩
  have := box_c hw 2 (by simp) (by intro i hi; have : i = 0 ∨ i = 1 := by { simp at hi; omega }; rcases this with rfl | rfl <;> decide)
  refine this.mono ?_
  rintro e w' ⟨vl, vh, vi, rfl, g, o1, o2, o3, _⟩
  have er : boxR [(9, [1, 5]), (4, [3, 2])] 2 = ⟨2, [1, 2], [3, 5], 0, [4, 9]⟩ := by
    unfold boxR
    rw [if_pos aw5.1, show (2 : Int).toNat = 2 from rfl, aw5.2.1, aw5.2.2, show idsOf [(9, [1, 5]), (4, [3, 2])] = [9, 4] from rfl, aw5s]
  rw [er] at o1 o2 o3 ⊢
  rw [aw5.1]
  obtain ⟨pl, cl, rfl, k1⟩ := o1.rd
  obtain ⟨ph, ch, rfl, k2⟩ := o2.rd
  obtain ⟨pi, ci, rfl, k3⟩ := o3.rd
  exact ⟨pl, cl, ph, ch, pi, ci, rfl, gb_trans (gb_trans g1 g2) g, ⟨_, _, rfl, k1⟩, ⟨_, _, rfl, k3⟩⟩

theorem aw_gb2 {W w' : World} {p0 p1 : Addr} {v0 v1 : Value} (g : Gb W w') (h : W.cell? p0 = some v0 ∧ W.cell? p1 = some v1) : w'.cell? p0 = some v0 ∧ w'.cell? p1 = some v1 := ⟨gb_keeps g h.1, gb_keeps g h.2⟩
/-- What the last statement of awake reads. -/
structure AwSt (w W : World) (bb bc br : Nat) (vl vi : Value) : Prop where
  b0 : W.cell? ⟨bb, 0, none⟩ = some (.int .u64 0)
  b1 : W.cell? ⟨bb, 1, none⟩ = some (.int .u64 25)
  c0 : W.cell? ⟨bc, 0, none⟩ = some (.int .u64 0)
  c1 : W.cell? ⟨bc, 1, none⟩ = some (.int .u64 49)
  r1 : W.cell? ⟨br, 1, none⟩ = some vl
  r5 : W.cell? ⟨br, 5, none⟩ = some vi
  gb : Gb w W
theorem aw_gb {w0 W w' : World} {p0 p1 p2 p3 p4 p5 : Addr} {v0 v1 v2 v3 v4 v5 : Value} (g : Gb W w')
    (h : Gb w0 W ∧ W.cell? p0 = some v0 ∧ W.cell? p1 = some v1 ∧ W.cell? p2 = some v2 ∧ W.cell? p3 = some v3 ∧ W.cell? p4 = some v4 ∧ W.cell? p5 = some v5) :
    Gb w0 w' ∧ w'.cell? p0 = some v0 ∧ w'.cell? p1 = some v1 ∧ w'.cell? p2 = some v2 ∧ w'.cell? p3 = some v3 ∧ w'.cell? p4 = some v4 ∧ w'.cell? p5 = some v5 := by
  obtain ⟨a, b0, b1, b2, b3, b4, b5⟩ := h
  exact ⟨gb_trans a g, gb_keeps g b0, gb_keeps g b1, gb_keeps g b2, gb_keeps g b3, gb_keeps g b4, gb_keeps g b5⟩
theorem aw_alloc {w0 W : World} {o : Obj} {p0 p1 p2 p3 p4 p5 : Addr} {v0 v1 v2 v3 v4 v5 : Value}
    (h : Gb w0 W ∧ W.cell? p0 = some v0 ∧ W.cell? p1 = some v1 ∧ W.cell? p2 = some v2 ∧ W.cell? p3 = some v3 ∧ W.cell? p4 = some v4 ∧ W.cell? p5 = some v5) :
    Gb w0 (W.alloc o) ∧ (W.alloc o).cell? p0 = some v0 ∧ (W.alloc o).cell? p1 = some v1 ∧ (W.alloc o).cell? p2 = some v2 ∧ (W.alloc o).cell? p3 = some v3 ∧ (W.alloc o).cell? p4 = some v4 ∧ (W.alloc o).cell? p5 = some v5 :=
  aw_gb (gb_alloc (Below.refl _ _) _) h
theorem loc_gb (n : Int) (w : World) : Calls Try.prog 31 #[.int .u64 n] w fun e w' => e = .returned (.agg #[.int .u64 0, .int .u64 n]) ∧ Gb w w' := (loc n w).mono fun _ _ h => ⟨h.1, h.2.gb⟩
theorem aw_i1 {w0 W : World} {v : Value} (h : RdI w0 v [1, 2]) (g : Gb w0 (W.alloc (.cells #[.int .i64 1, .int .i64 2] 3))) :
    Calls Try.prog 32 #[v, .slice (some ⟨W.heap.size, 0, none⟩) 2 2] (W.alloc (.cells #[.int .i64 1, .int .i64 2] 3)) fun e w' => e = .returned (.bool true) ∧ Gb (W.alloc (.cells #[.int .i64 1, .int .i64 2] 3)) w' :=
  (ints_v (h.gb g) (rdi_two W 1 2) (by simp) true (by decide)).mono fun _ _ h => ⟨h.1, h.2.gb⟩
theorem aw_i2 {w0 W : World} {v : Value} (h : RdI w0 v [4, 9]) (g : Gb w0 (W.alloc (.cells #[.int .i64 4, .int .i64 9] 3))) :
    Calls Try.prog 32 #[v, .slice (some ⟨W.heap.size, 0, none⟩) 2 2] (W.alloc (.cells #[.int .i64 4, .int .i64 9] 3)) fun e w' => e = .returned (.bool true) ∧ Gb (W.alloc (.cells #[.int .i64 4, .int .i64 9] 3)) w' :=
  (ints_v (h.gb g) (rdi_two W 4 9) (by simp) true (by decide)).mono fun _ _ h => ⟨h.1, h.2.gb⟩
theorem aw_chk (W : World) : Calls Try.prog 17 #[.slice (some ⟨W.heap.size, 0, none⟩) 2 2, .int .i64 3] (W.alloc (.cells #[.int .i64 1, .int .i64 2] 3)) fun e w' => e = .returned (.int .i64 30) ∧ Gb (W.alloc (.cells #[.int .i64 1, .int .i64 2] 3)) w' :=
  (check_v (rdi_two W 1 2) 3 30 aw6).mono fun _ _ h => ⟨h.1, by rw [← h.2]; exact Below.refl _ _⟩

set_option maxHeartbeats 4000000 in
set_option maxRecDepth 100000 in
theorem awake_any (w : World) : Calls Try.prog 11 #[] w fun e w' => e = .returned (.bool true) ∧ Gb w w' := by
  go_enter Try.func11, Try.ntmps11
  go_wp2_with fail
  refine (aw_dist w).mono ?_
  rintro e w1 ⟨rfl, g1⟩
  have D0 : Hid ((w1.alloc (.cells #[.int .u64 0, .int .u64 18446744056529682436] 29)).cell? ⟨w1.heap.size, 0, none⟩ = some (.int .u64 0) ∧ (w1.alloc (.cells #[.int .u64 0, .int .u64 18446744056529682436] 29)).cell? ⟨w1.heap.size, 1, none⟩ = some (.int .u64 18446744056529682436) ∧ Gb w (w1.alloc (.cells #[.int .u64 0, .int .u64 18446744056529682436] 29))) := ⟨by simp [go_sem], by simp [go_sem], gb_alloc g1 _⟩
  clear g1
  go_wp2_with fail
  have cc := aw_mkbox (w1.alloc (.cells #[.int .u64 0, .int .u64 18446744056529682436] 29))
  simp only [World.size_alloc] at cc
  refine cc.mono ?_
  rintro e w2 ⟨rfl, g2, h2⟩
  clear cc
  go_wp2_with fail
  refine (aw_in h2).mono ?_
  rintro e w3 ⟨rfl, g3⟩
  have D1 : Hid (w3.cell? ⟨w1.heap.size, 0, none⟩ = some (.int .u64 0) ∧ w3.cell? ⟨w1.heap.size, 1, none⟩ = some (.int .u64 18446744056529682436) ∧ Gb w w3) := by
    obtain ⟨a, b, c⟩ := D0.out
    have g := gb_trans g2 g3
    exact ⟨gb_keeps g a, gb_keeps g b, gb_trans c g⟩
  clear g2 g3 h2 D0
  go_wp2_with fail
  refine (aw_mkbox _).mono ?_
  rintro e w4 ⟨rfl, g2, h2⟩
  go_wp2_with fail
  refine (aw_b1 h2).mono ?_
  rintro e w5 ⟨rfl, g3⟩
  have D2 : Hid (w5.cell? ⟨w1.heap.size, 0, none⟩ = some (.int .u64 0) ∧ w5.cell? ⟨w1.heap.size, 1, none⟩ = some (.int .u64 18446744056529682436) ∧ Gb w w5) := by
    obtain ⟨a, b, c⟩ := D1.out
    have g := gb_trans g2 g3
    exact ⟨gb_keeps g a, gb_keeps g b, gb_trans c g⟩
  clear g2 g3 h2 D1
  go_wp2_with fail
  have cc := aw_mkball (w5.alloc (.cells #[.int .u64 0, .int .u64 25] 29))
  simp only [World.size_alloc] at cc
  refine cc.mono ?_
  rintro e w6 ⟨rfl, g2, h2⟩
  clear cc
  go_wp2_with fail
  refine (aw_b2 h2).mono ?_
  rintro e w7 ⟨rfl, g3⟩
  have D3 : Hid (w7.cell? ⟨w1.heap.size, 0, none⟩ = some (.int .u64 0) ∧ w7.cell? ⟨w1.heap.size, 1, none⟩ = some (.int .u64 18446744056529682436) ∧ w7.cell? ⟨w5.heap.size, 0, none⟩ = some (.int .u64 0) ∧ w7.cell? ⟨w5.heap.size, 1, none⟩ = some (.int .u64 25) ∧ Gb w w7) := by
    obtain ⟨a, b, c⟩ := D2.out
    have g := gb_trans g2 g3
    have g0 : Gb w5 (w5.alloc (.cells #[.int .u64 0, .int .u64 25] 29)) := gb_alloc (Below.refl _ _) _
    exact ⟨gb_keeps (gb_trans g0 g) a, gb_keeps (gb_trans g0 g) b, gb_keeps g (by simp [go_sem]), gb_keeps g (by simp [go_sem]), gb_trans c (gb_trans g0 g)⟩
  clear g2 g3 h2 D2
  go_wp2_with fail
  have cc := aw_box (w7.alloc (.cells #[.int .u64 0, .int .u64 49] 29))
  simp only [World.size_alloc] at cc
  refine cc.mono ?_
  clear cc
  rintro e w8 ⟨pl, cl, ph, ch, pi, ci, rfl, g2, hl, hi'⟩
  have g0 : Gb w8 (w8.alloc (.cells #[.int .i64 2, .slice pl 2 cl, .slice ph 2 ch, .int .u64 0, .int .u64 0, .slice pi 2 ci] 31)) := gb_alloc (Below.refl _ _) _
  have D4 : Hid ((w8.alloc (.cells #[.int .i64 2, .slice pl 2 cl, .slice ph 2 ch, .int .u64 0, .int .u64 0, .slice pi 2 ci] 31)).cell? ⟨w1.heap.size, 0, none⟩ = some (.int .u64 0) ∧ (w8.alloc (.cells #[.int .i64 2, .slice pl 2 cl, .slice ph 2 ch, .int .u64 0, .int .u64 0, .slice pi 2 ci] 31)).cell? ⟨w1.heap.size, 1, none⟩ = some (.int .u64 18446744056529682436) ∧ AwSt w (w8.alloc (.cells #[.int .i64 2, .slice pl 2 cl, .slice ph 2 ch, .int .u64 0, .int .u64 0, .slice pi 2 ci] 31)) w5.heap.size w7.heap.size w8.heap.size (.slice pl 2 cl) (.slice pi 2 ci)) := by
    obtain ⟨a, b, c, d, f⟩ := D3.out
    have g7 : Gb w7 (w7.alloc (.cells #[.int .u64 0, .int .u64 49] 29)) := gb_alloc (Below.refl _ _) _
    have g := gb_trans g2 g0
    have gg := gb_trans g7 g
    exact ⟨gb_keeps gg a, gb_keeps gg b, gb_keeps gg c, gb_keeps gg d, gb_keeps g (by simp [go_sem]), gb_keeps g (by simp [go_sem]), by simp [go_sem], by simp [go_sem], gb_trans f gg⟩
  have RL : Hid (RdI (w8.alloc (.cells #[.int .i64 2, .slice pl 2 cl, .slice ph 2 ch, .int .u64 0, .int .u64 0, .slice pi 2 ci] 31)) (.slice pl 2 cl) [1, 2] ∧ RdI (w8.alloc (.cells #[.int .i64 2, .slice pl 2 cl, .slice ph 2 ch, .int .u64 0, .int .u64 0, .slice pi 2 ci] 31)) (.slice pi 2 ci) [4, 9]) := ⟨hl.gb g0, hi'.gb g0⟩
  clear D3 g2 hl hi' g0
  obtain ⟨a0, a1, AS⟩ := D4.out
  have ha := aw_same 0 18446744056529682436
  go_wp2_with fail
  generalize (w8.alloc (.cells #[.int .i64 2, .slice pl 2 cl, .slice ph 2 ch, .int .u64 0, .int .u64 0, .slice pi 2 ci] 31)) = w9 at *
  go_region_held3 (fun w' => w'.cell? ⟨w1.heap.size, 0, none⟩ = some (.int .u64 0) ∧ w'.cell? ⟨w1.heap.size, 1, none⟩ = some (.int .u64 18446744056529682436)) (first | (with_reducible exact aw_gb2 (by assumption) (by assumption)) | exact ⟨a0, a1⟩)
    (first
      | (go_at_call 31; refine (loc_gb _ _).mono ?_; rintro e u1 ⟨rfl, k1⟩))
  all_goals
    have G9 : Gb w9 u1 := gb_trans (Below.refl _ _).drew k1
    obtain ⟨b0, b1, c0, c1, r1, r5, gw⟩ := AS
    have GW : Hid (Gb w w9) := gw
    have b0 := gb_keeps G9 b0
    have b1 := gb_keeps G9 b1
    have c0 := gb_keeps G9 c0
    have c1 := gb_keeps G9 c1
    have r1 := gb_keeps G9 r1
    have r5 := gb_keeps G9 r5
    have R1 := RL.out.1.gb G9
    have R2 := RL.out.2.gb G9
    have hb := aw_same 0 25
    have hc := aw_same 0 49
    have dr : Gb u1 u1.drew := (Below.refl _ _).drew
    clear a0 a1 ha k1 gw D4
    go_wp2_with fail
    go_region_held3 (fun w' => Gb u1 w' ∧ w'.cell? ⟨w5.heap.size, 0, none⟩ = some (.int .u64 0) ∧ w'.cell? ⟨w5.heap.size, 1, none⟩ = some (.int .u64 25) ∧ w'.cell? ⟨w7.heap.size, 0, none⟩ = some (.int .u64 0) ∧ w'.cell? ⟨w7.heap.size, 1, none⟩ = some (.int .u64 49) ∧ w'.cell? ⟨w8.heap.size, 1, none⟩ = some (.slice pl 2 cl) ∧ w'.cell? ⟨w8.heap.size, 5, none⟩ = some (.slice pi 2 ci)) (first | (with_reducible exact aw_gb (by assumption) (by assumption)) | (with_reducible assumption) | (with_reducible exact aw_alloc (by assumption)) | exact ⟨dr, b0, b1, c0, c1, r1, r5⟩)
      (first
        | (go_at_call 31; refine (loc_gb _ _).mono ?_; rintro e u2 ⟨rfl, k2⟩)
        | (go_at_call 32; with_reducible refine (aw_i1 R1 (And.left (by assumption))).mono ?_; rintro e u2 ⟨rfl, k2⟩)
        | (go_at_call 32; with_reducible refine (aw_i2 R2 (And.left (by assumption))).mono ?_; rintro e u2 ⟨rfl, k2⟩)
        | (go_at_call 17; refine (aw_chk _).mono ?_; rintro e u2 ⟨rfl, k2⟩))
    all_goals
      go_wp2
      go_ret
      exact ⟨rfl, gb_trans GW.out (gb_trans G9 (And.left (by assumption)))⟩
end Go.Proofs.Ytbkjelbnbgcbbaa
