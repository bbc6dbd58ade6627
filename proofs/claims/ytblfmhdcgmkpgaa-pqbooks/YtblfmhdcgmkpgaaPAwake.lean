/- The law's examples. -/
import Derived.Test.YtblfmhdcgmkpgaaPEst
import Derived.Test.YtblfmhdcgmkpgaaKeep
import Derived.Test.YtblfmhdcgmkpgaaWdEq
namespace Go.Proofs.Ytblfmhdcgmkpgaa
open Go.RowKit Go.Maps

def exL : Vs := [[0, 0], [10, 10]]
def exB : List Vs := [[[0], [10]], [[10], [0]]]
theorem rounds_fix {l D : Vs} (h : roundV l D = D) : ∀ r, roundsV l D r = D
  | 0 => rfl
  | r + 1 => by rw [roundsV, rounds_fix h r, h]
theorem ex_d0 : drawnV [[0], [10]] 2 (seedAt 3 0) = [[0], [10]] := by kernel_rfl
theorem ex_d1 : drawnV [[0], [10]] 2 (seedAt 3 1) = [[10], [0]] := by kernel_rfl
theorem ex_r0 : roundV [[0], [10]] [[0], [10]] = [[0], [10]] := by kernel_rfl
theorem ex_r1 : roundV [[0], [10]] [[10], [0]] = [[10], [0]] := by kernel_rfl
theorem exB_is : booksV exL 2 2 20 3 = exB := by
  have e0 : bookV exL 2 2 20 3 0 = [[0], [10]] := by
    unfold bookV trainV
    rw [show cutV exL 2 0 = [[0], [10]] from by kernel_rfl, ex_d0]
    exact rounds_fix ex_r0 20
  have e1 : bookV exL 2 2 20 3 1 = [[10], [0]] := by
    unfold bookV trainV
    rw [show cutV exL 2 1 = [[0], [10]] from by kernel_rfl, ex_d1]
    exact rounds_fix ex_r1 20
  show [bookV exL 2 2 20 3 0, bookV exL 2 2 20 3 1] = exB
  rw [e0, e1]; rfl
theorem exT : TrOk exL 2 1 2 20 := ⟨by decide, by decide, by decide, by decide, by decide, by decide, by decide, by decide, by decide, vecsE_zero.1 (by decide)⟩
theorem exBks : Bks exB 2 1 2 := by have := exT.bks 3; rwa [exB_is] at this
theorem ex_enc : encV exB [1, 9] = [0, 0] := by kernel_rfl
theorem ex_dec : decV exB [0, 0] = [0, 10] := by kernel_rfl
theorem ex_tab : tabV exB [1, 9] = [[1, 81], [1, 81]] := by kernel_rfl
theorem ex_plc : Plc [0, 0] (lensV exB) := by have := encV_places exBks [1, 9]; rwa [ex_enc] at this
theorem ex_plt : Plc [0, 0] (lensV [[1, 81], [1, 81]]) := ex_plc
theorem ex_tok : TabOk [[1, 81], [1, 81]] := by
  intro i hi j hj
  simp only [List.length_cons, List.length_nil] at hi
  rcases i with _ | _ | i
  · rcases j with _ | _ | j
    · decide
    · decide
    · simp at hj; omega
  · rcases j with _ | _ | j
    · decide
    · decide
    · simp at hj; omega
  · omega
theorem wd2 : Wd 2 = .agg #[.int .u64 0, .int .u64 2] := (small_wd 2 (by decide)).symm
theorem rdj_two (W : World) (x y : Int) : RdJ (W.alloc (.cells #[.int .i64 x, .int .i64 y] 3)) (.slice (some ⟨W.heap.size, 0, none⟩) 2 2) [x, y] := by
  refine ⟨⟨_, 2, rfl, fun i hi => ?_⟩, fun a n c e => by cases e; exact Nat.le_refl _⟩
  simp only [List.length_cons, List.length_nil] at hi
  rcases i with _ | _ | i
  · exact ⟨_, _, rfl, by simp [go_sem]⟩
  · exact ⟨_, _, rfl, by simp [go_sem]⟩
  · omega
theorem rdvj_ex (W : World) : RdVJ (((W.alloc (.cells #[.int .i64 0, .int .i64 0] 3)).alloc (.cells #[.int .i64 10, .int .i64 10] 3)).alloc (.cells #[.slice (some ⟨W.heap.size, 0, none⟩) 2 2, .slice (some ⟨W.heap.size + 1, 0, none⟩) 2 2] 40))
    (.slice (some ⟨W.heap.size + 1 + 1, 0, none⟩) 2 2) exL := by
  have r0 := ((rdj_two W 0 0).gb (gb_alloc (Below.refl _ _) (.cells #[.int .i64 10, .int .i64 10] 3))).gb (gb_alloc (Below.refl _ _) (.cells #[.slice (some ⟨W.heap.size, 0, none⟩) 2 2, .slice (some ⟨W.heap.size + 1, 0, none⟩) 2 2] 40))
  have r1 := (rdj_two (W.alloc (.cells #[.int .i64 0, .int .i64 0] 3)) 10 10).gb (gb_alloc (Below.refl _ _) (.cells #[.slice (some ⟨W.heap.size, 0, none⟩) 2 2, .slice (some ⟨W.heap.size + 1, 0, none⟩) 2 2] 40))
  rw [World.size_alloc] at r1
  refine ⟨_, 2, rfl, fun i hi => ?_⟩
  simp only [exL, List.length_cons, List.length_nil] at hi
  rcases i with _ | _ | i
  · exact ⟨_, _, _, rfl, by simp [go_sem], r0⟩
  · exact ⟨_, _, _, rfl, by simp [go_sem], r1⟩
  · omega

set_option maxRecDepth 100000 in
set_option maxHeartbeats 2000000 in
theorem awake_c (w : World) : Calls Try.prog 12 #[] w fun e w' => e = .returned (.bool true) ∧ Gb w w' := by
  have c1 := ptrain_ok (rdvj_ex w) exT 3 (by decide)
  rw [exB_is] at c1
  go_enter Try.func12, Try.ntmps12
  go_wp2_with fail
  go_fit c1
  rintro e w1 ⟨p, rfl, C1, g1⟩
  have G1 : Hid (Gb w w1) := gb_trans (gb_alloc (gb_alloc (gb_alloc (Below.refl _ _) _) _) _) g1
  have CC : Hid (CodAt w1 p (2 * 1) exB) := C1
  have c2 := ptrain_no (rdvj_ex w1).rd 2 3 2 20 3 (by decide)
  rw [show pqE exL 2 3 2 20 = 100 from by decide] at c2
  clear c1 C1 g1
  go_wp2_with fail
  go_fit c2
  rintro e w2 ⟨rfl, e2⟩
  have G2 : Hid (Gb w1 w2) := by unfold Hid; rw [← e2]; exact gb_alloc (gb_alloc (gb_alloc (Below.refl _ _) _) _) _
  clear c2 e2
  have c3 := encode_ok ((CC.out.gb G2.out).gb (gb_alloc (Below.refl _ _) (.cells #[.int .i64 1, .int .i64 9] 3))) exBks (rdj_two w2 1 9) (by decide)
  rw [ex_enc] at c3
  go_wp2_with fail
  go_fit c3
  rintro e w3 ⟨u3, rfl, o3, g3⟩
  have G3 : Hid (Gb w2 w3) := gb_trans (gb_alloc (Below.refl _ _) _) g3
  have R3 : Hid (RdI w3 u3 [0, 0]) := o3.rd
  have c4 := decode_ok (CC.out.gb (gb_trans G2.out G3.out)) exBks o3.rd ex_plc
  rw [ex_dec] at c4
  obtain ⟨a3, k3, e3, _⟩ := o3.rd
  subst e3
  clear c3 o3 g3
  go_wp2_with fail
  go_fit c4
  rintro e w4 ⟨u4, rfl, o4, g4⟩
  have G4 : Hid (Gb w3 w4) := g4
  have R4 : Hid (RdI w4 u4 [0, 10]) := o4.rd
  obtain ⟨a4, k4, e4, _⟩ := o4.rd
  subst e4
  clear c4 o4 g4
  have c5 := table_ok ((CC.out.gb (gb_trans G2.out (gb_trans G3.out G4.out))).gb (gb_alloc (Below.refl _ _) (.cells #[.int .i64 1, .int .i64 9] 3))) exBks (rdj_two w4 1 9) (by decide)
  rw [ex_tab] at c5
  go_wp2_with fail
  go_fit c5
  rintro e w5 ⟨u5, rfl, o5, g5⟩
  have G5 : Hid (Gb w4 w5) := gb_trans (gb_alloc (Below.refl _ _) _) g5
  have c6 := est_in o5.rd (R3.out.gb (gb_trans G4.out G5.out)) (by decide) ex_plt ex_tok 2 0 (.inl ⟨by decide, by decide, rfl⟩)
  rw [wd2] at c6
  obtain ⟨a5, k5, e5, _⟩ := o5.rd
  subst e5
  clear c5 o5 g5
  go_wp2_with fail
  go_fit c6
  rintro e w6 ⟨rfl, g6⟩
  have G6 : Hid (Gb w4 w6) := gb_trans G5.out g6
  have GE : Hid (Gb w w6) := gb_trans G1.out (gb_trans G2.out (gb_trans G3.out (gb_trans G4.out G6.out)))
  have s0 : (w6.alloc (.cells #[.int .u64 0, .int .u64 2] 51)).cell? ⟨w6.heap.size, 0, none⟩ = some (.int .u64 0) := by simp [go_sem]
  have s1 : (w6.alloc (.cells #[.int .u64 0, .int .u64 2] 51)).cell? ⟨w6.heap.size, 1, none⟩ = some (.int .u64 2) := by simp [go_sem]
  have ha := wd_same 0 2
  have ci := ints_c (R4.out.gb (gb_trans G6.out (gb_alloc (gb_alloc (Below.refl _ _) (.cells #[.int .u64 0, .int .u64 2] 51)) (.cells #[.int .i64 0, .int .i64 10] 3)))) (rdj_two (w6.alloc (.cells #[.int .u64 0, .int .u64 2] 51)) 0 10).1 (by decide)
  rw [World.size_alloc] at ci
  clear c6 g6
  go_wp2_with (go_at_call 22; refine ci.mono ?_; rintro e w7 ⟨rfl, g7⟩; have s0 := g7.keeps (alloc_keeps s0 _); have s1 := g7.keeps (alloc_keeps s1 _))
  go_ret
  exact ⟨rfl, gb_trans GE.out (gb_trans (gb_alloc (gb_alloc (Below.refl _ _) _) _) g7.gb)⟩
end Go.Proofs.Ytblfmhdcgmkpgaa
