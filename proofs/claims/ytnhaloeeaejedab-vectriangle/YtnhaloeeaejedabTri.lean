/- VecTriangle: the walk. -/
import Derived.Test.YtnhaloeeaejedabAwake
import Derived.Test.YtnhaloeeaejedabMath
import Derived.Test.YtnhaloeeaejedabRRoot
namespace Go.Proofs.Ytnhaloeeaejedab
open Go.RowKit Go.Sort

theorem distV_sm (a b : List Int) : distV a b < 1180591620717411303424 := by
  unfold distV; split
  · rename_i h
    obtain ⟨_, _, h3, h4, h5, h6, h7⟩ := distE_ok h
    have := dstN_le h6 h7 h3 a.length (Nat.le_refl _)
    have h2 : dst a b = dstN a b a.length := rfl
    omega
  · omega
theorem rt_sm {a : Nat} (h : a < 1180591620717411303424) : rt a < 34359738368 := by
  apply Nat.lt_of_not_le; intro hc
  have := sq_le hc
  have := (rt_is a).1; omega
theorem root_gb (a : Nat) (ha : a < 340282366920938463463374607431768211456) (w : World) :
    Calls Try.prog 8 #[Wd a] w fun e w' => e = .returned (.int .u64 (rt a : Int)) ∧ Gb w w' := (root_c a ha w).mono fun _ _ h => ⟨h.1, h.2.gb⟩
theorem six_gb {w0 W w' : World} {p0 p1 p2 p3 p4 p5 : Addr} {v0 v1 v2 v3 v4 v5 : Value} (g : Gb W w')
    (h : Gb w0 W ∧ W.cell? p0 = some v0 ∧ W.cell? p1 = some v1 ∧ W.cell? p2 = some v2 ∧ W.cell? p3 = some v3 ∧ W.cell? p4 = some v4 ∧ W.cell? p5 = some v5) :
    Gb w0 w' ∧ w'.cell? p0 = some v0 ∧ w'.cell? p1 = some v1 ∧ w'.cell? p2 = some v2 ∧ w'.cell? p3 = some v3 ∧ w'.cell? p4 = some v4 ∧ w'.cell? p5 = some v5 := aw_gb g h
theorem at2_gb {w w' : World} {b s : Nat} (h : At2 w b s) (g : Gb w w') : w'.cell? ⟨b, 0, none⟩ = some (.int .u64 (hi s)) ∧ w'.cell? ⟨b, 1, none⟩ = some (.int .u64 (lo s)) := ⟨gb_keeps g h.c0, gb_keeps g h.c1⟩

set_option maxHeartbeats 4000000 in
set_option maxRecDepth 100000 in
theorem tri_in {w : World} {u v x : Value} {a b c : List Int} (hu : RdI w u a) (hv : RdI w v b) (hx : RdI w x c) (la : a.length ≤ 65536) (lb : b.length ≤ 65536) (lc : c.length ≤ 65536) :
    Calls Try.prog 4 #[u, v, x] w fun e w' => e = .returned (.bool true) ∧ Gb w w' := by
  have C1 := dist_c hu hv
  have C2 := fun W' (g : Gb w W') => dist_c (hv.gb g) (hx.gb g)
  have C3 := fun W' (g : Gb w W') => dist_c (hu.gb g) (hx.gb g)
  have KEY : Hid (distE a b = 0 → distE b c = 0 → distE a c = 0 → rt (distV a c) ≤ rt (distV a b) + rt (distV b c) + 1) := by
    intro h1 h2 h3
    obtain ⟨_, _, e, _⟩ := distE_ok h1
    unfold distV
    rw [if_pos h1, if_pos h2, if_pos h3]
    exact root_tri e
  have s1 := rt_sm (distV_sm a b)
  have s2 := rt_sm (distV_sm b c)
  have s3 := rt_sm (distV_sm a c)
  have R1 := fun W => root_gb (distV a b) (by have := distV_sm a b; omega) W
  have R2 := fun W => root_gb (distV b c) (by have := distV_sm b c; omega) W
  have R3 := fun W => root_gb (distV a c) (by have := distV_sm a c; omega) W
  obtain ⟨pa, ca, rfl, _⟩ := hu
  obtain ⟨pb, cb, rfl, _⟩ := hv
  obtain ⟨pc, cc, rfl, _⟩ := hx
  have k1 : ¬ (a.length : Int) > 65536 := by omega
  have k2 : ¬ (b.length : Int) > 65536 := by omega
  have k3 : ¬ (c.length : Int) > 65536 := by omega
  generalize distE a b = E1 at *
  generalize distE b c = E2 at *
  generalize distE a c = E3 at *
  generalize distV a b = V1 at *
  generalize distV b c = V2 at *
  generalize distV a c = V3 at *
  generalize rt V1 = r1 at *
  generalize rt V2 = r2 at *
  generalize rt V3 = r3 at *
  generalize a.length = na at *
  generalize b.length = nb at *
  generalize c.length = nc at *
  clear la lb lc
  go_enter Try.func4, Try.ntmps4
  go_wp2_with fail
  refine C1.mono ?_
  rintro e w1 ⟨rfl, g1⟩
  have G1 : Gb w (w1.alloc (.cells #[.int .u64 (hi V1), .int .u64 (lo V1)] 25)) := gb_alloc g1.gb _
  have A1 : Hid (At2 (w1.alloc (.cells #[.int .u64 (hi V1), .int .u64 (lo V1)] 25)) w1.heap.size V1) := At2.new w1 V1 25
  go_wp2_with fail
  refine (C2 _ G1).mono ?_
  rintro e w2 ⟨rfl, g2⟩
  have G2 : Gb w (w2.alloc (.cells #[.int .u64 (hi V2), .int .u64 (lo V2)] 25)) := gb_alloc (gb_trans G1 g2.gb) _
  have A2 : Hid (At2 (w2.alloc (.cells #[.int .u64 (hi V2), .int .u64 (lo V2)] 25)) w2.heap.size V2 ∧ At2 (w2.alloc (.cells #[.int .u64 (hi V2), .int .u64 (lo V2)] 25)) w1.heap.size V1) := ⟨At2.new w2 V2 25, (A1.out.gr g2).gr ((Gr.refl _).alloc _ _)⟩
  clear A1 g1 g2
  go_wp2_with fail
  refine (C3 _ G2).mono ?_
  rintro e w3 ⟨rfl, g3⟩
  have G3 : Gb w (w3.alloc (.cells #[.int .u64 (hi V3), .int .u64 (lo V3)] 25)) := gb_alloc (gb_trans G2 g3.gb) _
  have A3 : Hid (At2 (w3.alloc (.cells #[.int .u64 (hi V3), .int .u64 (lo V3)] 25)) w3.heap.size V3 ∧ At2 (w3.alloc (.cells #[.int .u64 (hi V3), .int .u64 (lo V3)] 25)) w2.heap.size V2 ∧ At2 (w3.alloc (.cells #[.int .u64 (hi V3), .int .u64 (lo V3)] 25)) w1.heap.size V1) := ⟨At2.new w3 V3 25, (A2.out.1.gr g3).gr ((Gr.refl _).alloc _ _), (A2.out.2.gr g3).gr ((Gr.refl _).alloc _ _)⟩
  clear A2 g3 C1 C2 C3 G1 G2
  by_cases z1 : E1 = 0
  · subst z1
    by_cases z2 : E2 = 0
    · subst z2
      by_cases z3 : E3 = 0
      · subst z3
        have hle : r3 ≤ r1 + r2 + 1 := KEY.out rfl rfl rfl
        obtain ⟨t, ht⟩ : ∃ t : Nat, t = r1 + r2 := ⟨_, rfl⟩
        have q1 : IntKind.u64.wrap ((r1 : Int) + (r2 : Int)) = (t : Int) := by rw [IntKind.wrap_u64]; omega
        obtain ⟨t1, ht1⟩ : ∃ t1 : Nat, t1 = t + 1 := ⟨_, rfl⟩
        have q2 : IntKind.u64.wrap ((t : Int) + 1) = (t1 : Int) := by rw [IntKind.wrap_u64]; omega
        have q3 : decide ((r3 : Int) ≤ (t1 : Int)) = true := by simp; omega
        clear hle ht ht1 KEY
        go_wp2_with fail
        generalize w3.alloc (.cells #[.int .u64 (hi V3), .int .u64 (lo V3)] 25) = w4 at *
        have d0 : Gb w4 w4.drew := (Below.refl _ _).drew
        obtain ⟨a0, a1⟩ := at2_gb A3.out.1 d0
        obtain ⟨b0, b1⟩ := at2_gb A3.out.2.1 d0
        obtain ⟨c0, c1⟩ := at2_gb A3.out.2.2 d0
        go_region_held3 (fun w' => Gb w4 w' ∧ w'.cell? ⟨w3.heap.size, 0, none⟩ = some (.int .u64 (hi V3)) ∧ w'.cell? ⟨w3.heap.size, 1, none⟩ = some (.int .u64 (lo V3)) ∧ w'.cell? ⟨w2.heap.size, 0, none⟩ = some (.int .u64 (hi V2)) ∧ w'.cell? ⟨w2.heap.size, 1, none⟩ = some (.int .u64 (lo V2)) ∧ w'.cell? ⟨w1.heap.size, 0, none⟩ = some (.int .u64 (hi V1)) ∧ w'.cell? ⟨w1.heap.size, 1, none⟩ = some (.int .u64 (lo V1))) (first | (with_reducible exact six_gb (by assumption) (by assumption)) | exact ⟨d0, a0, a1, b0, b1, c0, c1⟩)
          (first
            | (go_at_call 6; refine (awake_any _).mono ?_; rintro e u1 ⟨rfl, j1⟩)
            | (go_at_call_of 8 (hi V3); refine (R3 _).mono ?_; rintro e u2 ⟨rfl, j2⟩)
            | (go_at_call_of 8 (hi V2); refine (R2 _).mono ?_; rintro e u3 ⟨rfl, j3⟩)
            | (go_at_call_of 8 (hi V1); refine (R1 _).mono ?_; rintro e u4 ⟨rfl, j4⟩))
        all_goals
          go_wp2
          go_ret
          exact ⟨by simpa using q3, gb_trans G3 (And.left (by assumption))⟩
      · have z3' : (E3 == 0) = false := by rw [beq_eq_false_iff_ne]; exact z3
        clear KEY R1 R2 R3
        go_wp2_with fail
        all_goals
          refine (awake_any _).mono ?_
          rintro e w5 ⟨rfl, g5⟩
          go_wp2
          go_ret
          exact ⟨rfl, gb_trans G3 g5⟩
    · have z2' : (E2 == 0) = false := by rw [beq_eq_false_iff_ne]; exact z2
      clear KEY R1 R2 R3
      go_wp2_with fail
      all_goals
        refine (awake_any _).mono ?_
        rintro e w5 ⟨rfl, g5⟩
        go_wp2
        go_ret
        exact ⟨rfl, gb_trans G3 g5⟩
  · have z1' : (E1 == 0) = false := by rw [beq_eq_false_iff_ne]; exact z1
    clear KEY R1 R2 R3
    go_wp2_with fail
    all_goals
      refine (awake_any _).mono ?_
      rintro e w5 ⟨rfl, g5⟩
      go_wp2
      go_ret
      exact ⟨rfl, gb_trans G3 g5⟩
set_option maxHeartbeats 2000000 in
theorem tri_any {w : World} {u v x : Value} {a b c : List Int} (hu : RdI w u a) (hv : RdI w v b) (hx : RdI w x c) :
    Calls Try.prog 4 #[u, v, x] w fun e w' => e = .returned (.bool true) ∧ Gb w w' := by
  by_cases h : 65536 < a.length ∨ 65536 < b.length ∨ 65536 < c.length
  · obtain ⟨pa, ca, rfl, _⟩ := hu
    obtain ⟨pb, cb, rfl, _⟩ := hv
    obtain ⟨pc, cc, rfl, _⟩ := hx
    generalize a.length = na at *
    generalize b.length = nb at *
    generalize c.length = nc at *
    by_cases h1 : 65536 < na
    · have k1 : (na : Int) > 65536 := by omega
      go_enter Try.func4, Try.ntmps4
      go_wp2
      go_ret
      exact ⟨rfl, Below.refl _ _⟩
    by_cases h2 : 65536 < nb
    · have k1 : ¬ (na : Int) > 65536 := by omega
      have k2 : (nb : Int) > 65536 := by omega
      go_enter Try.func4, Try.ntmps4
      go_wp2
      go_ret
      exact ⟨rfl, Below.refl _ _⟩
    · have k1 : ¬ (na : Int) > 65536 := by omega
      have k2 : ¬ (nb : Int) > 65536 := by omega
      have k3 : (nc : Int) > 65536 := by omega
      go_enter Try.func4, Try.ntmps4
      go_wp2
      go_ret
      exact ⟨rfl, Below.refl _ _⟩
  · exact tri_in hu hv hx (by omega) (by omega) (by omega)
end Go.Proofs.Ytnhaloeeaejedab
