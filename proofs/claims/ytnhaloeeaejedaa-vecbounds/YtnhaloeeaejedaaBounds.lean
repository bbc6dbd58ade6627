/- VecBounds: the walk. -/
import Derived.Test.YtnhaloeeaejedaaAwake
import Derived.Test.YtnhaloeeaejedaaMath
import Derived.Test.YtnhaloeeaejedaaRLess
namespace Go.Proofs.Ytnhaloeeaejedaa
open Go.RowKit Go.Sort

theorem len_gt {n : Nat} (h : 65536 < n) : decide ((n : Int) > 65536) = true := by simp; omega
/-- More than is looked at? -/
def bigB (r : Reg) : Bool := decide (65536 < r.L.length) || decide (65536 < r.H.length) || decide (65536 < r.I.length)
set_option maxHeartbeats 1000000 in
theorem big_c {w : World} {v : Value} {r : Reg} (h : RdR w v r) : Calls Try.prog 16 #[v] w fun e w' => e = .returned (.bool (bigB r)) ∧ Gr w w' := by
  obtain ⟨vl, vh, vi, rfl, ⟨pl, cl, rfl, _⟩, ⟨ph, ch, rfl, _⟩, ⟨pi, ci, rfl, _⟩⟩ := h
  obtain ⟨S, L, H, R, I⟩ := r
  have E : Hid (bigB ⟨S, L, H, R, I⟩ = (decide (65536 < L.length) || decide (65536 < H.length) || decide (65536 < I.length))) := rfl
  generalize bigB ⟨S, L, H, R, I⟩ = res at *
  dsimp only at *
  generalize L.length = nl at *
  generalize H.length = nh at *
  generalize I.length = ni at *
  by_cases h1 : 65536 < nl
  · have e : res = true := by have := E.out; rw [this]; simp [h1]
    subst e
    have k : ((nl : Int) > 65536) := by omega
    clear E
    go_enter Try.func16, Try.ntmps16
    go_wp2
    go_ret
    exact ⟨rfl, (Gr.refl _).alloc _ _⟩
  by_cases h2 : 65536 < nh
  · have e : res = true := by have := E.out; rw [this]; simp [h2]
    subst e
    have k : ¬ ((nl : Int) > 65536) := by omega
    have k2 : ((nh : Int) > 65536) := by omega
    clear E
    go_enter Try.func16, Try.ntmps16
    go_wp2
    go_ret
    exact ⟨rfl, (Gr.refl _).alloc _ _⟩
  by_cases h3 : 65536 < ni
  · have e : res = true := by have := E.out; rw [this]; simp [h3]
    subst e
    have k : ¬ ((nl : Int) > 65536) := by omega
    have k2 : ¬ ((nh : Int) > 65536) := by omega
    have k3 : ((ni : Int) > 65536) := by omega
    clear E
    go_enter Try.func16, Try.ntmps16
    go_wp2
    go_ret
    exact ⟨rfl, (Gr.refl _).alloc _ _⟩
  · have e : res = false := by have := E.out; rw [this]; simp [h1, h2, h3]
    subst e
    have k : ¬ ((nl : Int) > 65536) := by omega
    have k2 : ¬ ((nh : Int) > 65536) := by omega
    have k3 : ¬ ((ni : Int) > 65536) := by omega
    clear E
    go_enter Try.func16, Try.ntmps16
    go_wp2
    go_ret
    exact ⟨rfl, (Gr.refl _).alloc _ _⟩
theorem big_v {w : World} {v : Value} {r : Reg} (h : RdR w v r) (b : Bool) (hb : bigB r = b) : Calls Try.prog 16 #[v] w fun e w' => e = .returned (.bool b) ∧ Gr w w' := by
  subst hb; exact big_c h
theorem less_v (a b : Nat) (ha : a < 340282366920938463463374607431768211456) (hb : b < 340282366920938463463374607431768211456) (r : Bool) (h : decide (a < b) = r) (w : World) :
    Calls Try.prog 31 #[Wd a, Wd b] w fun e w' => e = .returned (.bool r) ∧ Gr w w' := by
  subst h; exact less_any a b ha hb w
theorem rt_le {a b : Nat} (h : a ≤ b) : rt a ≤ rt b := by
  apply Nat.le_of_not_lt; intro hc
  have := sq_le (show rt b + 1 ≤ rt a by omega)
  have := (rt_is a).1; have := (rt_is b).2; omega
theorem ballV_lt {a R : Nat} (ha : a < 340282366920938463463374607431768211456) : ballV a R < 340282366920938463463374607431768211456 := by
  unfold ballV; split
  · omega
  · have h1 : rt a - rup R ≤ rt a := Nat.sub_le _ _
    have := Nat.mul_le_mul h1 h1
    have := (rt_is a).1; omega
theorem bndV_lt (r : Reg) (q : List Int) : bndV r q < 340282366920938463463374607431768211456 := by
  unfold bndV; split
  · rename_i h
    unfold bdV; split
    · rename_i s
      obtain ⟨k1, k2, k3, k4, k5, k6, k7⟩ := box_ok h s
      exact bx_lt k4 k5 k6 k1 k2 k3
    · split
      · rename_i s
        obtain ⟨k1, k2, k3, k4⟩ := ball_ok h s
        exact ballV_lt (dst_lt k3 k4 k1 k2)
      · omega
  · omega
theorem distV_lt (a b : List Int) : distV a b < 340282366920938463463374607431768211456 := by
  unfold distV; split
  · rename_i h
    obtain ⟨_, _, h3, h4, h5, h6, h7⟩ := distE_ok h
    exact dst_lt h6 h7 h3 h5
  · omega

set_option maxHeartbeats 4000000 in
set_option maxRecDepth 100000 in
theorem bounds_any {w : World} {x u v : Value} {r : Reg} {a q : List Int} (hx : RdR w x r) (hu : RdI w u a) (hv : RdI w v q) (hR : r.R < 340282366920938463463374607431768211456) :
    Calls Try.prog 6 #[x, u, v] w fun e w' => e = .returned (.bool true) ∧ Gb w w' := by
  have HX : Hid (RdR w x r) := hx
  obtain ⟨vl, vh, vi, rfl, hL, hH, hI⟩ := hx
  have G0 : Gb w (w.alloc (rc r vl vh vi)) := gb_alloc (Below.refl _ _) _
  have RA : Hid (RegAt (w.alloc (rc r vl vh vi)) w.heap.size r vl vh vi) := RegAt.new w r vl vh vi
  have CB := fun b hb => big_v (HX.out.gb G0) b hb
  have HU : Hid (RdI w u a ∧ RdI w v q) := ⟨hu, hv⟩
  obtain ⟨pa, ca, rfl, _⟩ := hu
  obtain ⟨pq, cq, rfl, _⟩ := hv
  by_cases hb : bigB r = true
  · have c1 := CB _ hb
    clear CB HX hL hH hI hb hR HU
    obtain ⟨S, L, H, R, I⟩ := r
    generalize a.length = na at *
    generalize q.length = nq at *
    go_enter Try.func6, Try.ntmps6
    go_wp2_with fail
    refine c1.mono ?_
    rintro e w1 ⟨rfl, g1⟩
    go_wp2
    go_ret
    exact ⟨rfl, gb_trans G0 g1.gb⟩
  · have c1 := CB false (by simpa using hb)
    have hlen : r.I.length ≤ 4611686018427387904 := by unfold bigB at hb; simp at hb; omega
    have C18 := fun W' (g : Gb w W') => inside_c (HX.out.gb g) (HU.out.1.gb g) hlen
    have C19 := fun W' (g : Gb w W') => bound_c (HX.out.gb g) (HU.out.2.gb g) hlen hR
    have C10 := fun W' (g : Gb w W') => dist_c (HU.out.1.gb g) (HU.out.2.gb g)
    have KEY : Hid (ckB r a = 0 → ckB r q = 0 → distE a q = 0 → insV r a = true → decide (distV a q < bndV r q) = false) := by
      intro h1 h2 h3 h4
      have e1 : bndV r q = bdV r q := by unfold bndV; rw [if_pos h2]
      have e2 : distV a q = dst a q := by unfold distV; rw [if_pos h3]
      have := bound_le h1 h2 (by unfold insV at h4; simp [h1] at h4; exact h4)
      rw [decide_eq_false]; omega
    have C31 := less_v (distV a q) (bndV r q) (distV_lt _ _) (bndV_lt _ _)
    clear CB HX hL hH hI hb hR HU hlen
    by_cases h1 : 65536 < a.length
    · have k1 : ((a.length : Int) > 65536) := by omega
      clear C18 C19 C10 KEY C31
      obtain ⟨S, L, H, R, I⟩ := r
      generalize a.length = na at *
      generalize q.length = nq at *
      go_enter Try.func6, Try.ntmps6
      go_wp2_with fail
      refine c1.mono ?_
      rintro e w1 ⟨rfl, g1⟩
      go_wp2
      go_ret
      exact ⟨rfl, gb_trans G0 g1.gb⟩
    by_cases h2 : 65536 < q.length
    · have k1 : ¬ ((a.length : Int) > 65536) := by omega
      have k2 : ((q.length : Int) > 65536) := by omega
      clear C18 C19 C10 KEY C31
      obtain ⟨S, L, H, R, I⟩ := r
      generalize a.length = na at *
      generalize q.length = nq at *
      go_enter Try.func6, Try.ntmps6
      go_wp2_with fail
      refine c1.mono ?_
      rintro e w1 ⟨rfl, g1⟩
      go_wp2
      go_ret
      exact ⟨rfl, gb_trans G0 g1.gb⟩
    have k1 : ¬ ((a.length : Int) > 65536) := by omega
    have k2 : ¬ ((q.length : Int) > 65536) := by omega
    generalize insV r a = iv at *
    generalize ckB r a = e1 at *
    generalize bndV r q = bv at *
    generalize ckB r q = e2 at *
    generalize distV a q = dv at *
    generalize distE a q = e3 at *
    obtain ⟨S, L, H, R, I⟩ := r
    generalize a.length = na at *
    generalize q.length = nq at *
    clear h1 h2
    go_enter Try.func6, Try.ntmps6
    go_wp2_with fail
    refine c1.mono ?_
    rintro e w1 ⟨rfl, g1⟩
    have G1 := gb_trans G0 g1.gb
    obtain ⟨q0, q1, q2, q3, q4, q5⟩ := RA.out.gb g1.gb
    dsimp only at q0 q1 q2 q3 q4 q5
    go_wp2_with fail
    refine (C18 _ G1).mono ?_
    rintro e w2 ⟨rfl, g2⟩
    have G2 := gb_trans G1 g2.gb
    have q0 := gb_keeps g2.gb q0
    have q1 := gb_keeps g2.gb q1
    have q2 := gb_keeps g2.gb q2
    have q3 := gb_keeps g2.gb q3
    have q4 := gb_keeps g2.gb q4
    have q5 := gb_keeps g2.gb q5
    go_wp2_with fail
    refine (C19 _ G2).mono ?_
    rintro e w3 ⟨rfl, g3⟩
    have G3 : Gb w (w3.alloc (.cells #[.int .u64 (hi bv), .int .u64 (lo bv)] 26)) := gb_alloc (gb_trans G2 g3.gb) _
    have B0 : Hid (At2 (w3.alloc (.cells #[.int .u64 (hi bv), .int .u64 (lo bv)] 26)) w3.heap.size bv) := At2.new w3 bv 26
    clear q0 q1 q2 q3 q4 q5
    go_wp2_with fail
    refine (C10 _ G3).mono ?_
    rintro e w4 ⟨rfl, g4⟩
    have G4 : Gb w (w4.alloc (.cells #[.int .u64 (hi dv), .int .u64 (lo dv)] 26)) := gb_alloc (gb_trans G3 g4.gb) _
    have B1 : Hid (At2 (w4.alloc (.cells #[.int .u64 (hi dv), .int .u64 (lo dv)] 26)) w3.heap.size bv) := (B0.out.gr g4).gr ((Gr.refl _).alloc _ _)
    have D1 : Hid (At2 (w4.alloc (.cells #[.int .u64 (hi dv), .int .u64 (lo dv)] 26)) w4.heap.size dv) := At2.new w4 dv 26
    clear C18 C19 C10 c1 B0
    by_cases z1 : e1 = 0
    · subst z1
      by_cases z2 : e2 = 0
      · subst z2
        by_cases z3 : e3 = 0
        · subst z3
          cases iv with
          | true =>
            have c31 := fun W => C31 false (KEY.out rfl rfl rfl rfl) W
            go_wp2_with fail
            refine (awake_any _).mono ?_
            rintro e w5 ⟨rfl, g5⟩
            have b0 := gb_keeps g5 B1.out.c0
            have b1 := gb_keeps g5 B1.out.c1
            have d0 := gb_keeps g5 D1.out.c0
            have d1 := gb_keeps g5 D1.out.c1
            go_wp2_with fail
            refine (c31 _).mono ?_
            rintro e w6 ⟨rfl, g6⟩
            go_wp2
            go_ret
            exact ⟨rfl, gb_trans G4 (gb_trans g5 g6.gb)⟩
          | false =>
            clear C31 KEY
            go_wp2_with fail
            refine (awake_any _).mono ?_
            rintro e w5 ⟨rfl, g5⟩
            go_wp2
            go_ret
            exact ⟨rfl, gb_trans G4 g5⟩
        · have z3' : (e3 == 0) = false := by rw [beq_eq_false_iff_ne]; exact z3
          clear C31 KEY
          go_wp2_with fail
          all_goals
            refine (awake_any _).mono ?_
            rintro e w5 ⟨rfl, g5⟩
            go_wp2
            go_ret
            exact ⟨rfl, gb_trans G4 g5⟩
      · have z2' : (e2 == 0) = false := by rw [beq_eq_false_iff_ne]; exact z2
        clear C31 KEY
        go_wp2_with fail
        all_goals
          refine (awake_any _).mono ?_
          rintro e w5 ⟨rfl, g5⟩
          go_wp2
          go_ret
          exact ⟨rfl, gb_trans G4 g5⟩
    · have z1' : (e1 == 0) = false := by rw [beq_eq_false_iff_ne]; exact z1
      clear C31 KEY
      go_wp2_with fail
      all_goals
        refine (awake_any _).mono ?_
        rintro e w5 ⟨rfl, g5⟩
        go_wp2
        go_ret
        exact ⟨rfl, gb_trans G4 g5⟩
end Go.Proofs.Ytnhaloeeaejedaa
