/- The law's examples. -/
import Derived.Test.YthgbhlbanepahaaKTrain
import Derived.Test.YthgbhlbanepahaaKCost
import Derived.Test.YthgbhlbanepahaaKeep
import Derived.Test.YthgbhlbanepahaaWdEq
namespace Go.Proofs.Ythgbhlbanepahaa
open Go.RowKit Go.Maps

theorem tr2 : trainE [[-3], [0]] 1 1 = 0 := by decide
theorem tv2 : trainV [[-3], [0]] 1 1 5 = [[-2]] := by kernel_rfl
theorem tr0 : trainE [] 1 1 = 60 := by decide
theorem ne2 : nearE [[0], [10]] [6] = 0 := by decide
theorem np2 : nearP [[0], [10]] [6] = (1, 16) := by decide
theorem ce3 : costE [[0], [10]] [[1], [11], [4]] = 0 := by decide
theorem ct3 : costTo [[0], [10]] [[1], [11], [4]] 3 = 18 := by decide
theorem wd16 : Wd 16 = .agg #[.int .u64 0, .int .u64 16] := (small_wd 16 (by decide)).symm
theorem wd18 : Wd 18 = .agg #[.int .u64 0, .int .u64 18] := (small_wd 18 (by decide)).symm

theorem rdv_two (W : World) (x y : Int) : RdV (((W.alloc (.cells #[.int .i64 x] 3)).alloc (.cells #[.int .i64 y] 3)).alloc (.cells #[.slice (some ⟨W.heap.size, 0, none⟩) 1 1, .slice (some ⟨W.heap.size + 1, 0, none⟩) 1 1] 30))
    (.slice (some ⟨W.heap.size + 1 + 1, 0, none⟩) 2 2) [[x], [y]] := by
  have r0 := ((rdi_one W x).gb (gb_alloc (Below.refl _ _) (.cells #[.int .i64 y] 3))).gb (gb_alloc (Below.refl _ _) (.cells #[.slice (some ⟨W.heap.size, 0, none⟩) 1 1, .slice (some ⟨W.heap.size + 1, 0, none⟩) 1 1] 30))
  have r1 := (rdi_one (W.alloc (.cells #[.int .i64 x] 3)) y).gb (gb_alloc (Below.refl _ _) (.cells #[.slice (some ⟨W.heap.size, 0, none⟩) 1 1, .slice (some ⟨W.heap.size + 1, 0, none⟩) 1 1] 30))
  rw [World.size_alloc] at r1
  refine ⟨_, 2, rfl, fun i hi => ?_⟩
  simp only [List.length_cons, List.length_nil] at hi
  rcases i with _ | _ | i
  · exact ⟨_, _, _, rfl, by simp [go_sem], r0⟩
  · exact ⟨_, _, _, rfl, by simp [go_sem], r1⟩
  · omega
theorem rdv_three (W : World) (x y z : Int) : RdV ((((W.alloc (.cells #[.int .i64 x] 3)).alloc (.cells #[.int .i64 y] 3)).alloc (.cells #[.int .i64 z] 3)).alloc (.cells #[.slice (some ⟨W.heap.size, 0, none⟩) 1 1, .slice (some ⟨W.heap.size + 1, 0, none⟩) 1 1, .slice (some ⟨W.heap.size + 1 + 1, 0, none⟩) 1 1] 30))
    (.slice (some ⟨W.heap.size + 1 + 1 + 1, 0, none⟩) 3 3) [[x], [y], [z]] := by
  have g := fun V => gb_alloc (Below.refl _ V) (.cells #[.slice (some ⟨W.heap.size, 0, none⟩) 1 1, .slice (some ⟨W.heap.size + 1, 0, none⟩) 1 1, .slice (some ⟨W.heap.size + 1 + 1, 0, none⟩) 1 1] 30)
  have r0 := (((rdi_one W x).gb (gb_alloc (Below.refl _ _) (.cells #[.int .i64 y] 3))).gb (gb_alloc (Below.refl _ _) (.cells #[.int .i64 z] 3))).gb (g _)
  have r1 := ((rdi_one (W.alloc (.cells #[.int .i64 x] 3)) y).gb (gb_alloc (Below.refl _ _) (.cells #[.int .i64 z] 3))).gb (g _)
  have r2 := (rdi_one ((W.alloc (.cells #[.int .i64 x] 3)).alloc (.cells #[.int .i64 y] 3)) z).gb (g _)
  rw [World.size_alloc] at r1
  rw [World.size_alloc, World.size_alloc] at r2
  refine ⟨_, 3, rfl, fun i hi => ?_⟩
  simp only [List.length_cons, List.length_nil] at hi
  rcases i with _ | _ | _ | i
  · exact ⟨_, _, _, rfl, by simp [go_sem], r0⟩
  · exact ⟨_, _, _, rfl, by simp [go_sem], r1⟩
  · exact ⟨_, _, _, rfl, by simp [go_sem], r2⟩
  · omega
theorem outC_rd {w w' : World} {v : Value} {k d : Nat} {cs : Vs} (h : OutC w w' v k d cs) (hk : cs.length = k) (hd : ∀ i, i < k → cs[i]!.length = d) : RdV w' v cs := by
  obtain ⟨cb, gs, cp, rfl, h⟩ := h
  exact h.rd hk hd

set_option maxRecDepth 100000 in
set_option maxHeartbeats 4000000 in
theorem awake_c (w : World) : Calls Try.prog 10 #[] w fun e w' => e = .returned (.bool true) ∧ Gb w w' := by
  have c1 := train_ok_c (rdv_two w (-3) 0) (k := 1) (r := 1) 5 (by decide) tr2
  rw [show ((1 : Int).toNat) = 1 from rfl, tv2] at c1
  go_enter Try.func10, Try.ntmps10
  go_wp2_with fail
  refine c1.mono ?_
  rintro e w1 ⟨v, rfl, oC, g1⟩
  have r1 := outC_rd oC rfl (fun i hi => by have : i = 0 := by omega
                                            subst this; rfl)
  have G1 : Gb w w1 := gb_trans (gb_alloc (gb_alloc (gb_alloc (Below.refl _ _) _) _) _) g1
  obtain ⟨cb, gs, cp, rfl, _⟩ := oC
  obtain ⟨b1, o1, u1, ea, k1, k2⟩ := cen_at r1 (i := 0) (by decide)
  cases ea
  have c2 := train_no_c (rdv_nil w1) 1 1 5 (by rw [tr0]; decide)
  rw [tr0] at c2
  clear c1 r1 g1
  go_wp2_with fail
  refine c2.mono ?_
  rintro e w2 ⟨rfl, e2⟩
  subst e2
  clear c2
  have gA : Gb w1 (((w1.alloc (.cells #[.int .i64 0] 3)).alloc (.cells #[.int .i64 10] 3)).alloc (.cells #[.slice (some ⟨w1.heap.size, 0, none⟩) 1 1, .slice (some ⟨w1.heap.size + 1, 0, none⟩) 1 1] 30)) := gb_alloc (gb_alloc (gb_alloc (Below.refl _ _) _) _) _
  have c3 := near_c ((rdv_two w1 0 10).gb (gb_alloc (Below.refl _ _) (.cells #[.int .i64 6] 3))) (rdi_one _ 6)
  rw [World.size_alloc, World.size_alloc, World.size_alloc, ne2, np2, if_pos rfl, if_pos rfl, wd16] at c3
  go_wp2_with fail
  refine c3.mono ?_
  rintro e w3 ⟨rfl, g3⟩
  have G3 : Gb w1 w3 := gb_trans (gb_trans gA (gb_alloc (Below.refl _ _) _)) g3.gb
  clear c3 gA g3
  have s0 : (w3.alloc (.cells #[.int .u64 0, .int .u64 16] 45)).cell? ⟨w3.heap.size, 0, none⟩ = some (.int .u64 0) := by simp [go_sem]
  have s1 : (w3.alloc (.cells #[.int .u64 0, .int .u64 16] 45)).cell? ⟨w3.heap.size, 1, none⟩ = some (.int .u64 16) := by simp [go_sem]
  have G4 : Gb w1 (w3.alloc (.cells #[.int .u64 0, .int .u64 16] 45)) := gb_alloc G3 _
  have rA := rdv_two (w3.alloc (.cells #[.int .u64 0, .int .u64 16] 45)) 0 10
  have rB := rdv_three ((((w3.alloc (.cells #[.int .u64 0, .int .u64 16] 45)).alloc (.cells #[.int .i64 0] 3)).alloc (.cells #[.int .i64 10] 3)).alloc (.cells #[.slice (some ⟨(w3.alloc (.cells #[.int .u64 0, .int .u64 16] 45)).heap.size, 0, none⟩) 1 1, .slice (some ⟨(w3.alloc (.cells #[.int .u64 0, .int .u64 16] 45)).heap.size + 1, 0, none⟩) 1 1] 30)) 1 11 4
  have c4 := cost_c (rA.gb (gb_alloc (gb_alloc (gb_alloc (gb_alloc (Below.refl _ _) _) _) _) _)) rB
  rw [ce3, if_pos rfl, show (List.length [[(1 : Int)], [11], [4]]) = 3 from rfl, ct3, wd18] at c4
  simp only [World.size_alloc] at c4
  clear rA rB
  go_wp2_with fail
  refine c4.mono ?_
  rintro e w5 ⟨rfl, g5⟩
  have G5 : Gb (w3.alloc (.cells #[.int .u64 0, .int .u64 16] 45)) w5 := gb_trans (gb_alloc (gb_alloc (gb_alloc (gb_alloc (gb_alloc (gb_alloc (gb_alloc (Below.refl _ _) _) _) _) _) _) _) _) g5.gb
  clear c4 g5
  have s0 := gb_keeps (gb_alloc G5 (.cells #[.int .u64 0, .int .u64 18] 45)) s0
  have s1 := gb_keeps (gb_alloc G5 (.cells #[.int .u64 0, .int .u64 18] 45)) s1
  have G6 : Gb w1 (w5.alloc (.cells #[.int .u64 0, .int .u64 18] 45)) := gb_trans G4 (gb_alloc G5 _)
  have t0 : (w5.alloc (.cells #[.int .u64 0, .int .u64 18] 45)).cell? ⟨w5.heap.size, 0, none⟩ = some (.int .u64 0) := by simp [go_sem]
  have t1 : (w5.alloc (.cells #[.int .u64 0, .int .u64 18] 45)).cell? ⟨w5.heap.size, 1, none⟩ = some (.int .u64 18) := by simp [go_sem]
  have k1 := gb_keeps G6 k1
  have k2 := k2.gb G6
  have GE : Hid (Gb w (w5.alloc (.cells #[.int .u64 0, .int .u64 18] 45))) := gb_trans G1 G6
  have ha := wd_same 0 16
  have hb := wd_same 0 18
  clear G1 G3 G4 G5 G6
  have ci := ints_c (k2.gb (gb_alloc (Below.refl _ _) (.cells #[.int .i64 (-2)] 3))) (rdi_one (w5.alloc (.cells #[.int .u64 0, .int .u64 18] 45)) (-2)) (by decide)
  rw [World.size_alloc] at ci
  obtain ⟨pu, cu, rfl, _⟩ := k2
  simp only [Nat.add_zero] at k1
  go_wp2_with (go_at_call 22; refine ci.mono ?_; rintro e w7 ⟨rfl, g7⟩; have s0 := g7.keeps (alloc_keeps s0 _); have s1 := g7.keeps (alloc_keeps s1 _); have t0 := g7.keeps (alloc_keeps t0 _); have t1 := g7.keeps (alloc_keeps t1 _))
  go_ret
  exact ⟨rfl, gb_trans GE.out (gb_trans (gb_alloc (Below.refl _ _) _) g7.gb)⟩
end Go.Proofs.Ythgbhlbanepahaa
