/- law08's big: what it tells of what is not too much; wrong. -/
import Derived.Test.YtepjbdklljlecaaGreatVb44
import Derived.Test.YtepjbdklljlecaaGreatVb47
import Derived.Test.YtepjbdklljlecaaGreatVb23
import Derived.Test.YtepjbdklljlecaaGreatVb24
import Derived.Test.YtepjbdklljlecaaGreatVb48
namespace Go.Proofs.YtepjbdklljlecaaGreat
open Go.RowKit Go.Sort

/-- What is not too much. -/
structure Fit (rs : List Rw) (ops : List Opv) : Prop where
  rows : rs.length ≤ 2000
  row : ∀ i, i < rs.length → rs[i]!.2.length ≤ 32768
  few : ops.length ≤ 2000
  op : ∀ i, i < ops.length → ops[i]!.2.1.2.length ≤ 32768 ∧ ops[i]!.2.2.length ≤ 32768
/-- What big tells. -/
def BigF (w : World) (rs : List Rw) (ops : List Opv) (e : Ending) (w' : World) : Prop := ∃ b, e = .returned (.bool b) ∧ Gb w w' ∧ (b = false → Fit rs ops)
theorem bsum64 {z x1 x2 : Nat} (h : z + x1 + x2 < 9223372036854775808) : wrap64 (wrap64 ((z : Int) + (x1 : Int)) + (x2 : Int)) = ((z + x1 + x2 : Nat) : Int) := by
  unfold wrap64
  omega
set_option maxHeartbeats 2000000 in
set_option maxRecDepth 100000 in
theorem kbig_f {w : World} {v u : Value} {rs : List Rw} {ops : List Opv} (hv : RdW w v rs) (hlen : rs.length ≤ 4611686018427387904) (hrow : ∀ i, i < rs.length → rs[i]!.2.length ≤ 4611686018427387904) (hu : RdO w u ops) (hop : ∀ i, i < ops.length → ops[i]!.2.1.2.length ≤ 1152921504606846976 ∧ ops[i]!.2.2.length ≤ 1152921504606846976) :
    Calls Tryz.prog 9 #[v, u] w fun e w' => BigF w rs ops e w' := by
  have c := vects_b hv 32768 hlen (by omega) hrow
  obtain ⟨av, cv, rfl, _⟩ := hv
  have O : Hid (RdO w u ops) := hu
  have OP : Hid (∀ i, i < ops.length → ops[i]!.2.1.2.length ≤ 1152921504606846976 ∧ ops[i]!.2.2.length ≤ 1152921504606846976) := hop
  obtain ⟨au, cu, rfl, _⟩ := hu
  obtain ⟨n, hN⟩ : ∃ n, n = ops.length := ⟨_, rfl⟩
  have N : Hid (n = ops.length) := hN
  obtain ⟨m, hM⟩ : ∃ m, m = rs.length := ⟨_, rfl⟩
  have M : Hid (m = rs.length) := hM
  rw [← hN] at O ⊢
  rw [← hM]
  simp only [← hM] at c
  clear hN hM hlen hrow hop
  go_enter Tryz.func9, Tryz.ntmps9
  by_cases h1 : 2000 < (n : Int)
  · go_wp2
    go_ret
    exact ⟨true, rfl, Below.refl _ _, fun e => by cases e⟩
  by_cases h2 : 2000 < (m : Int)
  · go_wp2
    go_ret
    exact ⟨true, rfl, Below.refl _ _, fun e => by cases e⟩
  go_wp2_with fail
  refine c.mono ?_
  rintro e w' ⟨⟨z, rfl, hz0⟩, e2⟩
  subst e2
  clear c
  by_cases h3 : 32768 < z
  · go_wp2
    go_ret
    exact ⟨true, rfl, Below.refl _ _, fun e => by cases e⟩
  have VB : Hid (m + coords rs ≤ 32768) := hz0 (by omega)
  clear hz0
  go_wp2
  go_loopw [5, 6] (fun zv iv w' => ∃ (q z : Nat), zv = .int .i64 (z : Int) ∧ iv = .int .i64 (q : Int) ∧ q ≤ n ∧ z ≤ 2305843009213726720 ∧ Hid (Gb w w' ∧ ∀ i, i < q → ops[i]!.2.1.2.length + ops[i]!.2.2.length ≤ z)) (fun _ iv _ => n - (intOf iv).toNat)
  case atStart => exact ⟨0, 0, rfl, rfl, Nat.zero_le _, Nat.zero_le _, Below.refl _ _, fun i hi => absurd hi (Nat.not_lt_zero _)⟩
  case round =>
    obtain ⟨q, z, rfl, rfl, hq, hzz, G⟩ := hrel
    by_cases hqn : q < n
    · have hqi : (q : Int) < (n : Int) := by omega
      by_cases hz : z ≤ 32768
      · rename_i w'
        have hzi : (z : Int) ≤ 32768 := by omega
        obtain ⟨a, cap, ea, hO⟩ := (RdO.gb O.out G.out.1)
        obtain ⟨hp1, hp2⟩ : ops[q]!.2.1.2.length ≤ 1152921504606846976 ∧ ops[q]!.2.2.length ≤ 1152921504606846976 := OP.out q (by have := N.out; omega)
        have KP : Hid (∀ i, i < q + 1 → ops[i]!.2.1.2.length + ops[i]!.2.2.length ≤ z + ops[q]!.2.1.2.length + ops[q]!.2.2.length) := by
          intro i hi
          by_cases e : i = q
          · subst e; omega
          · have := G.out.2 i (by omega); omega
        obtain ⟨b, o, rv, qv, e0, ⟨c0, c1, c2, c3, c4, c5, c6⟩, ⟨a1, k1, e1, _⟩, ⟨a2, k2, e2, _⟩⟩ := hO q (by have := N.out; omega)
        injection ea with ea1 ea2 ea3
        subst ea1 ea3 e0 e1 e2
        generalize ops[q]!.2.1.2.length = x1 at *
        generalize ops[q]!.2.2.length = x2 at *
        have HB : Hid (z + x1 + x2 < 9223372036854775808) := by unfold Hid; omega
        have HC : Hid (z + x1 + x2 ≤ 2305843009213726720) := by unfold Hid; omega
        clear ea2 hO c0 c1 c2 c3 c4 hp1 hp2
        go_wp2
        go_quiet (fail)
        go_wp2
        go_roundw
        case rel => exact ⟨q + 1, z + x1 + x2, by rw [bsum64 HB.out], by first | rfl | go_num | simp, hqn, HC.out, gb_trans G.out.1 (gw_drewN (Tk.Gw.refl _) _).gr, KP.out⟩
        case measure => simp [intOf]; omega
      · have hzi : ¬ (z : Int) ≤ 32768 := by omega
        have hzj : (32768 : Int) < (z : Int) := by omega
        go_wp2
        go_ret
        exact ⟨true, rfl, G.out.1, fun e => by cases e⟩
    · have hqi : ¬ (q : Int) < (n : Int) := by omega
      by_cases hz : 32768 < z
      · have hzj : (32768 : Int) < (z : Int) := by omega
        go_wp2
        go_ret
        exact ⟨true, rfl, G.out.1, fun e => by cases e⟩
      · have hzj : ¬ (32768 : Int) < (z : Int) := by omega
        have FT : Hid (Fit rs ops) := by
          have hm := M.out
          have hn := N.out
          have hv := VB.out
          refine ⟨by omega, fun i hi => ?_, by omega, fun i hi => ?_⟩
          · have := coords_row hi; omega
          · have := G.out.2 i (by omega); omega
        go_wp2
        go_ret
        exact ⟨false, rfl, G.out.1, fun _ => FT.out⟩
theorem kright_c (A B S : Int) (w : World) : Calls Tryz.prog 30 #[.agg #[.int .i64 A, .int .i64 B, .int .u64 S]] w fun e w' => e = .returned (.bool (decide (1 ≤ A ∧ A ≤ 64))) ∧ Gb w w' := by
  have g : Gb w (w.alloc (.cells #[.int .i64 A, .int .i64 B, .int .u64 S] 25)) := gb_alloc (Below.refl _ _) _
  by_cases h1 : 1 ≤ A
  · by_cases h2 : A ≤ 64
    · rw [decide_eq_true ⟨h1, h2⟩]
      go_enter Tryz.func30, Tryz.ntmps30
      go_wp2
      go_ret
      exact ⟨rfl, g⟩
    · rw [decide_eq_false (fun h => h2 h.2)]
      have h2' : 64 < A := by omega
      go_enter Tryz.func30, Tryz.ntmps30
      go_wp2
      go_ret
      exact ⟨rfl, g⟩
  · rw [decide_eq_false (fun h => h1 h.1)]
    have h1' : A < 1 := by omega
    go_enter Tryz.func30, Tryz.ntmps30
    go_wp2
    go_ret
    exact ⟨rfl, g⟩
set_option maxHeartbeats 1000000 in
theorem kwrong_c {w : World} {v : Value} {rs : List Rw} (hv : RdW w v rs) (hlen : rs.length ≤ 4611686018427387904) (d A B S : Int) :
    Calls Tryz.prog 10 #[v, .int .i64 d, .agg #[.int .i64 A, .int .i64 B, .int .u64 S]] w fun e w' => e = .returned (.int .i64 (bldE rs d A)) ∧ Gb w w' := by
  have gA : Gb w (w.alloc (.cells #[.int .i64 A, .int .i64 B, .int .u64 S] 25)) := gb_alloc (Below.refl _ _) _
  obtain ⟨w1, hw1⟩ : ∃ w1, w1 = w.alloc (.cells #[.int .i64 A, .int .i64 B, .int .u64 S] 25) := ⟨_, rfl⟩
  rw [← hw1] at gA
  have d0 : w1.cell? ⟨w.heap.size, 0, none⟩ = some (.int .i64 A) := by rw [hw1]; simp [go_sem]
  have d1 : w1.cell? ⟨w.heap.size, 1, none⟩ = some (.int .i64 B) := by rw [hw1]; simp [go_sem]
  have d2 : w1.cell? ⟨w.heap.size, 2, none⟩ = some (.int .u64 S) := by rw [hw1]; simp [go_sem]
  have cF := rflat_c (hv.gb gA) hlen d
  have cR := fun W => kright_c A B S W
  have E1 : Hid (flatE rs d ≠ 0 → bldE rs d A = flatE rs d) := fun h => by unfold bldE; rw [if_neg h]
  have E2 : Hid (flatE rs d = 0 → (1 ≤ A ∧ A ≤ 64) → bldE rs d A = 0) := fun h h2 => by unfold bldE; rw [if_pos h, if_pos h2]
  have E3 : Hid (flatE rs d = 0 → ¬ (1 ≤ A ∧ A ≤ 64) → bldE rs d A = 1) := fun h h2 => by unfold bldE; rw [if_pos h, if_neg h2]
  obtain ⟨av, cv, ev, _⟩ := hv
  subst ev
  generalize bldE rs d A = be at *
  generalize flatE rs d = z at *
  generalize rs.length = n at *
  clear hlen
  go_enter Tryz.func10, Tryz.ntmps10
  go_wp2_with fail
  rw [← hw1]
  clear hw1
  refine cF.mono ?_
  rintro e w2 ⟨rfl, g2'⟩
  have g2 := g2'.gb
  have d0 := gb_keeps g2 d0
  have d1 := gb_keeps g2 d1
  have d2 := gb_keeps g2 d2
  have G2 := gb_trans gA g2
  clear cF
  by_cases hz : z = 0
  · subst hz
    have cR := cR w2
    go_wp2_with fail
    refine cR.mono ?_
    rintro e w3 ⟨rfl, g3⟩
    have G3 := gb_trans G2 g3
    clear cR d0 d1 d2
    by_cases h2 : 1 ≤ A ∧ A ≤ 64
    · have R : Hid (be = 0) := E2.out (by first | rfl | trivial) h2
      rw [decide_eq_true h2]
      clear h2
      go_wp2
      go_ret
      exact ⟨by rw [R.out]; rfl, G3⟩
    · have R : Hid (be = 1) := E3.out (by first | rfl | trivial) h2
      rw [decide_eq_false h2]
      clear h2
      go_wp2
      go_ret
      exact ⟨by rw [R.out]; rfl, G3⟩
  · have hzb : (z == 0) = false := by rw [beq_eq_false_iff_ne]; exact hz
    have R : Hid (be = z) := E1.out hz
    clear cR d0 d1 d2
    go_wp2
    go_ret
    exact ⟨by rw [R.out]; rfl, G2⟩
end Go.Proofs.YtepjbdklljlecaaGreat
