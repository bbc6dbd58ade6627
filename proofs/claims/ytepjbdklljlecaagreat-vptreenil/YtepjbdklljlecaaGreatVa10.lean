import Derived.Test.YtepjbdklljlecaaGreatVa7
import Derived.Test.YtepjbdklljlecaaGreatVa3
import Derived.Laws.AppendOwnNone
import Derived.Test.YtepjbdklljlecaaGreatVa6
/- Plain facts on distances: both ways the same, nought just of a list and itself, the way round by a third one. -/
namespace Go.Proofs.YtepjbdklljlecaaGreat

theorem gap_abs (x y : Int) : gap x x y = (x - y).natAbs := by unfold gap; split <;> (try split) <;> omega
theorem gap_comm (x y : Int) : gap x x y = gap y y x := by rw [gap_abs, gap_abs]; omega
theorem sumN_ext {f g : Nat → Nat} {n : Nat} (h : ∀ i, i < n → f i = g i) : sumN f n = sumN g n := by
  induction n with
  | zero => rfl
  | succ n ih => simp only [sumN]; rw [ih (fun i hi => h i (by omega)), h n (by omega)]
theorem sumN_mono {f g : Nat → Nat} {n : Nat} (h : ∀ i, i < n → f i ≤ g i) : sumN f n ≤ sumN g n := by
  induction n with
  | zero => exact Nat.le_refl _
  | succ n ih =>
    have := ih (fun i hi => h i (by omega))
    have := h n (by omega)
    simp only [sumN]; omega
theorem sumN_zero {f : Nat → Nat} {n : Nat} (h : sumN f n = 0) {i : Nat} (hi : i < n) : f i = 0 := by
  induction n with
  | zero => omega
  | succ n ih =>
    simp only [sumN] at h
    by_cases e : i = n
    · subst e; omega
    · exact ih (by omega) (by omega)
theorem sumN_mul (f : Nat → Nat) (c n : Nat) : sumN (fun i => c * f i) n = c * sumN f n := by
  induction n with
  | zero => rfl
  | succ n ih => simp only [sumN]; rw [ih, Nat.mul_add]
theorem sumN_add (f g : Nat → Nat) (n : Nat) : sumN (fun i => f i + g i) n = sumN f n + sumN g n := by
  induction n with
  | zero => rfl
  | succ n ih => simp only [sumN]; rw [ih]; omega
theorem dst_comm {a b : List Int} (h : a.length = b.length) : dst a b = dst b a := by
  unfold dst; rw [h]
  exact sumN_ext (fun i _ => by rw [gap_comm])
/-- One coordinate of the way round. -/
theorem tri_one (x y z : Int) (t u : Nat) : t * u * (gap x x z * gap x x z) ≤ u * (t + u) * (gap x x y * gap x x y) + t * (t + u) * (gap y y z * gap y y z) := by
  rw [gap_abs, gap_abs, gap_abs]
  have e1 : ((x - z).natAbs : Int) * ((x - z).natAbs : Int) = (x - z) * (x - z) := by rw [Int.natAbs_mul_self' (x - z)]
  have e2 : ((x - y).natAbs : Int) * ((x - y).natAbs : Int) = (x - y) * (x - y) := by rw [Int.natAbs_mul_self' (x - y)]
  have e3 : ((y - z).natAbs : Int) * ((y - z).natAbs : Int) = (y - z) * (y - z) := by rw [Int.natAbs_mul_self' (y - z)]
  apply Int.ofNat_le.1
  simp only [Int.natCast_mul, Int.natCast_add]
  rw [e1, e2, e3]
  have h : 0 ≤ ((u : Int) * (x - y) - (t : Int) * (y - z)) * ((u : Int) * (x - y) - (t : Int) * (y - z)) := by
    rcases Int.le_total 0 ((u : Int) * (x - y) - (t : Int) * (y - z)) with h | h
    · exact Int.mul_nonneg h h
    · exact Int.mul_nonneg_of_nonpos_of_nonpos h h
  have h2 : (t : Int) * u * ((x - z) * (x - z)) + ((u : Int) * (x - y) - (t : Int) * (y - z)) * ((u : Int) * (x - y) - (t : Int) * (y - z)) = (u : Int) * (t + u) * ((x - y) * (x - y)) + (t : Int) * (t + u) * ((y - z) * (y - z)) := by
    grind
  omega
theorem tri_sum (a b c : List Int) (hab : a.length = b.length) (t u : Nat) : t * u * dst a c ≤ u * (t + u) * dst a b + t * (t + u) * dst b c := by
  unfold dst
  rw [← hab, ← sumN_mul, ← sumN_mul, ← sumN_mul, ← sumN_add]
  exact sumN_mono (fun i _ => tri_one _ _ _ t u)
/-- If a and b are nearer than t, b and c nearer than u, then a and c are nearer than both. -/
theorem tri_lt {a b c : List Int} (hab : a.length = b.length) {t u : Nat} (h1 : dst a b ≤ t * t) (h2 : dst b c < u * u) : dst a c < (t + u) * (t + u) := by
  by_cases ht : t = 0
  · subst ht
    have hA : dst a b = 0 := by omega
    have h := tri_sum a b c hab 1 (dst b c + 1)
    rw [hA] at h
    apply Nat.lt_of_le_of_lt _ (show dst b c < (0 + u) * (0 + u) by simpa using h2)
    apply Nat.le_of_not_lt
    intro hc
    have h3 : (dst b c + 1) * (dst b c + 1) ≤ (dst b c + 1) * dst a c := Nat.mul_le_mul_left _ hc
    simp only [Nat.one_mul, Nat.mul_zero, Nat.zero_add] at h
    have h4 : (dst b c + 1) * (dst b c + 1) ≤ (1 + (dst b c + 1)) * dst b c := Nat.le_trans h3 h
    rw [Nat.add_mul 1, Nat.mul_add] at h4
    omega
  · have hu : u ≠ 0 := by rintro rfl; simp at h2
    have h := tri_sum a b c hab t u
    have k1 : u * (t + u) * dst a b ≤ u * (t + u) * (t * t) := Nat.mul_le_mul_left _ h1
    have k2 : t * (t + u) * dst b c < t * (t + u) * (u * u) := Nat.mul_lt_mul_of_pos_left h2 (Nat.mul_pos (by omega) (by omega))
    have k3 : u * (t + u) * (t * t) + t * (t + u) * (u * u) = t * u * ((t + u) * (t + u)) := by grind
    exact Nat.lt_of_mul_lt_mul_left (a := t * u) (by omega)
/-- A ball's bound. -/
theorem ball_bound {l v q : List Int} (hlv : l.length = v.length) {R : Nat} (h : dst l v ≤ R) : ballV (dst l q) R ≤ dst v q := by
  unfold ballV
  split
  · exact Nat.zero_le _
  · rename_i h0
    apply Nat.le_of_not_lt
    intro hc
    have hR : R ≤ rup R * rup R := by
      unfold rup; split
      · rename_i e; omega
      · have := (rt_is R).2; omega
    have hu : rup R < rt (dst l q) := by
      apply Nat.lt_of_not_le; intro hle
      rw [Nat.sub_eq_zero_of_le hle] at hc; simp at hc
    have := tri_lt (c := q) hlv (t := rup R) (u := rt (dst l q) - rup R) (by omega) hc
    rw [Nat.add_sub_cancel' (by omega)] at this
    have := (rt_is (dst l q)).1
    omega
theorem gap_out {l h x y : Int} (h1 : gap l h x = 0) : gap l h y ≤ gap x x y := by
  unfold gap at *; split at h1 <;> (try split at h1) <;> split <;> (try split) <;> (try split) <;> (try split) <;> omega
/-- THE BOUND: whatever lies in a region is at least as far away. -/
theorem bound_le {r : Reg} {v q : List Int} (h1 : ckB r v = 0) (h2 : ckB r q = 0) (hin : inV r v = true) : bdV r q ≤ dst v q := by
  unfold bdV
  unfold inV at hin
  split
  · rename_i s
    rw [if_pos s] at hin
    obtain ⟨a1, a2, a3, a4, a5, a6, a7⟩ := box_ok h1 s
    obtain ⟨b1, b2, b3, b4, b5, b6, b7⟩ := box_ok h2 s
    have h0 : bx r.L r.H v = 0 := by simpa using hin
    have e : v.length = q.length := by omega
    unfold bx bxN at h0 ⊢
    unfold dst
    rw [e] at h0 ⊢
    refine sumN_mono (fun i hi => ?_)
    have h3 := sumN_zero h0 hi
    have h4 : gap r.L[i]! r.H[i]! v[i]! = 0 := by
      rcases Nat.mul_eq_zero.1 h3 with h | h <;> exact h
    exact Nat.mul_le_mul (gap_out h4) (gap_out h4)
  · rename_i s
    rw [if_neg s] at hin
    split
    · rename_i s3
      rw [if_pos s3] at hin
      obtain ⟨a1, _⟩ := ball_ok h1 s3
      exact ball_bound a1 (by simpa using hin)
    · exact Nat.zero_le _
end Go.Proofs.YtepjbdklljlecaaGreat

/- vec.Ball. -/
namespace Go.Proofs.YtepjbdklljlecaaGreat
open Go.RowKit Go.Sort Go.Maps

/-- The greatest distance of the first k rows. -/
def radN (c : List Int) (rs : List Rw) : Nat → Nat
  | 0 => 0
  | k + 1 => if radN c rs k < dst c rs[k]!.2 then dst c rs[k]!.2 else radN c rs k
def ballE (c : List Int) (rs : List Rw) : Int := if chk c c.length = 0 then idsE rs c.length else chk c c.length
def ballR (c : List Int) (rs : List Rw) : Reg := if ballE c rs = 0 then ⟨3, c, [], radN c rs rs.length, srt (idsOf rs)⟩ else ⟨0, [], [], 0, []⟩
theorem ballE_ok {c : List Int} {rs : List Rw} (h : ballE c rs = 0) : chk c c.length = 0 ∧ idsE rs c.length = 0 := by
  unfold ballE at h; split at h
  · rename_i h1; exact ⟨h1, h⟩
  · rename_i h1; exact absurd h h1
theorem cmp3_gt (a b : Nat) : decide (cmp3 a b > 0) = decide (b < a) := by
  unfold cmp3
  by_cases h : a < b
  · rw [if_pos h, decide_eq_false (by omega), decide_eq_false (by omega)]
  · rw [if_neg h]
    by_cases h2 : a = b
    · rw [if_pos h2, decide_eq_false (by omega), decide_eq_false (by omega)]
    · rw [if_neg h2, decide_eq_true (by omega), decide_eq_true (by omega)]

set_option maxHeartbeats 4000000 in
set_option maxRecDepth 100000 in
theorem ball_no {w : World} {u v : Value} {c : List Int} {rs : List Rw} (hu : RdI w u c) (h : RdW w v rs) (hlen : rs.length ≤ 4611686018427387904) (hwf : ∀ i, i < rs.length → (Lit.int .i64 rs[i]!.1).wf = true) (hne : ballE c rs ≠ 0) :
    Calls Tryz.prog 133 #[u, v] w fun e w' => ∃ vl vh vi, e = .returned (.tuple #[rv (ballR c rs) vl vh vi, .int .i64 (ballE c rs)]) ∧ OutR w w' (ballR c rs) vl vh vi := by
  have ER : ballR c rs = ⟨0, [], [], 0, []⟩ := by unfold ballR; rw [if_neg hne]
  rw [ER]
  have E : Hid (ballE c rs = if chk c c.length = 0 then idsE rs c.length else chk c c.length) := rfl
  have G0 : Gb w (w.alloc z36) := gb_alloc (Below.refl _ _) _
  have C50 := idsOf_c (h.gb G0) (c.length : Int) hlen hwf
  have C11 := fun r hr => check_v (hu.gb G0) (c.length : Int) r hr
  obtain ⟨a, cap, rfl, _⟩ := h
  obtain ⟨pc, cc, rfl, _⟩ := hu
  have hne' : (ballE c rs == 0) = false := by rw [beq_eq_false_iff_ne]; exact hne
  have HNE : Hid (ballE c rs ≠ 0) := hne
  generalize ballE c rs = be at *
  by_cases h0 : chk c c.length = 0
  · rw [if_pos h0] at E
    have c11 := C11 _ h0
    rw [← E.out] at C50
    generalize rs.length = n at *
    generalize c.length = m at *
    clear E h0 C11 hwf hlen hne ER
    go_enter Tryz.func133, Tryz.ntmps133
    go_wp2_with fail
    refine c11.mono ?_
    rintro e w' ⟨rfl, e2⟩
    subst e2
    go_wp2_with fail
    refine C50.mono ?_
    rintro e w1 ⟨v', rfl, g1, _, k2⟩
    have e2 := k2 HNE.out
    subst e2
    clear k2
    obtain ⟨⟨q0, q1, q2, q3, q4, q5⟩, qf⟩ := reg0 g1
    have f0 := qf 0 (by omega)
    have f1 := qf 1 (by omega)
    have f2 := qf 2 (by omega)
    have f3 := qf 3 (by omega)
    have f4 := qf 4 (by omega)
    have f5 := qf 5 (by omega)
    clear qf
    have hB : w.heap.size ≤ w.heap.size := Nat.le_refl _
    have GG := gb_trans G0 g1
    go_wp2
    exact bodyPost_ret (v := .tuple #[.agg #[.int .i64 0, .slice none 0 0, .slice none 0 0, .int .u64 0, .int .u64 0, .slice none 0 0], .int .i64 be]) (by simp [results, Tryz.results133, go_sem, q0, q1, q2, q3, q4, q5]) rfl ⟨.slice none 0 0, .slice none 0 0, .slice none 0 0, rfl, outR_nil (gb_set (gb_set (gb_set (gb_set (gb_set (gb_set GG hB _) hB _) hB _) hB _) hB _) hB _)⟩
  · rw [if_neg h0] at E
    have c11 := C11 be E.out.symm
    generalize rs.length = n at *
    generalize c.length = m at *
    clear E h0 C11 hwf hlen hne ER C50
    go_enter Tryz.func133, Tryz.ntmps133
    go_wp2_with fail
    refine c11.mono ?_
    rintro e w' ⟨rfl, e2⟩
    subst e2
    go_wp2
    exact bodyPost_ret (v := .tuple #[.agg #[.int .i64 0, .slice none 0 0, .slice none 0 0, .int .u64 0, .int .u64 0, .slice none 0 0], .int .i64 be]) (by simp [results, Tryz.results133, go_sem]) rfl ⟨.slice none 0 0, .slice none 0 0, .slice none 0 0, rfl, outR_nil G0⟩

set_option maxHeartbeats 4000000 in
set_option maxRecDepth 100000 in
theorem ball_yes {w : World} {u v : Value} {c : List Int} {rs : List Rw} (hu : RdI w u c) (h : RdW w v rs) (hlen : rs.length ≤ 4611686018427387904) (hwf : ∀ i, i < rs.length → (Lit.int .i64 rs[i]!.1).wf = true) (hok : ballE c rs = 0) :
    Calls Tryz.prog 133 #[u, v] w fun e w' => ∃ vl vh vi, e = .returned (.tuple #[rv (ballR c rs) vl vh vi, .int .i64 (ballE c rs)]) ∧ OutR w w' (ballR c rs) vl vh vi := by
  have ER : ballR c rs = ⟨3, c, [], radN c rs rs.length, srt (idsOf rs)⟩ := by unfold ballR; rw [if_pos hok]
  rw [ER, hok]
  obtain ⟨ce, ie⟩ := ballE_ok hok
  obtain ⟨r2, rok⟩ := idsE_ok ie
  obtain ⟨c1, c2, _, c4⟩ := chk_ok ce
  have G0 : Gb w (w.alloc z36) := gb_alloc (Below.refl _ _) _
  have C50 := idsOf_c (h.gb G0) (c.length : Int) hlen hwf
  rw [ie] at C50
  have C11 := check_v (hu.gb G0) (c.length : Int) 0 ce
  have VL : Hid (∀ i, i < rs.length → rs[i]!.2.length = c.length ∧ allR rs[i]!.2 = true) := by
    intro i hi
    have := chk_ok (rok i hi).1
    exact ⟨by omega, this.2.2.2⟩
  have C33 : Hid (∀ i, i < rs.length → ∀ W' uv, Gb w W' → RdI W' uv rs[i]!.2 → Calls Tryz.prog 149 #[u, uv] W' fun e w' => e = .returned (Wd (dst c rs[i]!.2)) ∧ Gr W' w') := by
    intro i hi W' uv g hr
    exact distance_c (hu.gb g) hr (VL.out i hi).1.symm c2 c4 (VL.out i hi).2
  have CL : Hid (∀ W', Gb w W' → Calls Tryz.prog 50 #[u] W' fun e w' => ∃ v', e = .returned v' ∧ Own w' W'.heap.size v' c ∧ Gb W' w') := fun W' g => clone_c (hu.gb g) (by omega) c1
  obtain ⟨pc, cc, rfl, _⟩ := hu
  obtain ⟨a, cap, rfl, ha⟩ := h
  have A : Hid (∀ i, i < rs.length → ∃ b o u, a = some ⟨b, o, none⟩ ∧ w.cell? ⟨b, o + i * 2, none⟩ = some (.int .i64 rs[i]!.1) ∧ w.cell? ⟨b, o + i * 2 + 1, none⟩ = some u ∧ RdI w u rs[i]!.2) := ha
  obtain ⟨n, hN⟩ : ∃ n, n = rs.length := ⟨_, rfl⟩
  have N : Hid (n = rs.length) := hN
  rw [← hN] at C50 r2 ⊢
  have L0 : Hid (1 ≤ c.length) := c1
  obtain ⟨m, hm⟩ : ∃ m, m = c.length := ⟨_, rfl⟩
  have M : Hid (m = c.length) := hm
  rw [← hm] at C50 C11 ⊢
  simp only [← hm] at C33 CL
  clear hlen hwf hok ER rok ha hN ie ce c1 c2 c4 hm
  go_enter Tryz.func133, Tryz.ntmps133
  go_wp2_with fail
  refine C11.mono ?_
  rintro e w' ⟨rfl, e2⟩
  subst e2
  go_wp2_with fail
  refine C50.mono ?_
  rintro e w1 ⟨vi, rfl, g1, k1, _⟩
  have OI : Hid (Own w1 (w.alloc z36).heap.size vi (srt (idsOf rs)) ∧ Gb (w.alloc z36) w1) := ⟨k1 trivial, g1⟩
  obtain ⟨pi, ci, ei, _⟩ := (k1 trivial).rd
  subst ei
  generalize (srt (idsOf rs)).length = ni at *
  have GW : Gb w w1 := gb_trans G0 g1
  have S0 : Hid (At2 (w1.alloc (.cells #[.int .u64 0, .int .u64 0] 66)) w1.heap.size 0 ∧ Gb w1 (w1.alloc (.cells #[.int .u64 0, .int .u64 0] 66))) := ⟨At2.new w1 0 66, gb_alloc (Below.refl _ _) _⟩
  clear C50 C11 k1
  go_wp2
  go_loopw [34] (fun iv w' => ∃ k s : Nat, iv = .int .i64 (k : Int) ∧ k ≤ n ∧ Hid (s = radN c rs k) ∧ Hid (At2 w' w1.heap.size s ∧ Gb w1 w')) (fun iv _ => n - (intOf iv).toNat)
  case atStart => exact ⟨0, 0, rfl, Nat.zero_le _, rfl, S0.out⟩
  case round =>
    clear S0
    obtain ⟨k, s, rfl, hk, X, Y⟩ := hrel
    by_cases hkn : k < n
    · have hki : (k : Int) < (n : Int) := by omega
      have hkl : k < rs.length := by have := N.out; omega
      obtain ⟨b, o, uk, ea, y0, y1, y2⟩ := A.out k hkl
      subst ea
      have GY := gb_trans GW Y.out.2
      have y0 := gb_keeps GY y0
      have y1 := gb_keeps GY y1
      have y2 := y2.gb GY
      have C := fun W' (g : Gb w W') (hr : RdI W' uk rs[k]!.2) => C33.out k hkl W' uk g hr
      have RX : Hid (radN c rs (k + 1) = if radN c rs k < dst c rs[k]!.2 then dst c rs[k]!.2 else radN c rs k) := rfl
      have Y2 : Hid (RdI wr uk rs[k]!.2) := y2
      obtain ⟨pk, ck, ek, _⟩ := y2
      subst ek
      generalize rs[k]!.1 = idk at *
      generalize dst c rs[k]!.2 = dk at *
      generalize rs[k]!.2.length = nk at *
      clear hkl
      have GA : Gb w (wr.alloc (.cells #[.int .i64 idk, .slice pk nk ck] 43)) := gb_alloc GY _
      go_wp2_with fail
      refine (C _ GA (Y2.out.gb (gb_alloc (Below.refl _ _) _))).mono ?_
      rintro e w2 ⟨rfl, g2⟩
      have GB : Hid (At2 (w2.alloc (.cells #[.int .u64 (hi dk), .int .u64 (lo dk)] 66)) w2.heap.size dk ∧ At2 (w2.alloc (.cells #[.int .u64 (hi dk), .int .u64 (lo dk)] 66)) w1.heap.size s ∧ Gb w1 (w2.alloc (.cells #[.int .u64 (hi dk), .int .u64 (lo dk)] 66)) ∧ w1.heap.size < w2.heap.size) := by
        obtain ⟨p1, p2⟩ := Y.out
        have g3 : Gr wr w2 := ((Gr.refl _).alloc _ _).trans g2
        have p3 := p1.gr g3
        refine ⟨At2.new w2 dk 66, p3.gr ((Gr.refl _).alloc _ _), gb_alloc (gb_trans p2 g3.gb) _, ?_⟩
        exact World.block_lt_of_cell? w2 _ p3.c0
      clear C y0 y1 Y2 GA GY g2 Y
      have d0 := GB.out.1.c0
      have d1 := GB.out.1.c1
      have s0 := GB.out.2.1.c0
      have s1 := GB.out.2.1.c1
      go_wp2_with fail
      refine (cmp_any dk s _).mono ?_
      rintro e w3 ⟨rfl, g3⟩
      have GC : Hid (At2 w3 w2.heap.size dk ∧ At2 w3 w1.heap.size s ∧ Gb w1 w3 ∧ w1.heap.size < w2.heap.size) := ⟨GB.out.1.gr g3, GB.out.2.1.gr g3, gb_trans GB.out.2.2.1 g3.gb, GB.out.2.2.2⟩
      clear d0 d1 s0 s1 GB g3
      by_cases hlt : s < dk
      · have hc : cmp3 dk s > 0 := by
          have := cmp3_gt dk s
          rw [decide_eq_true hlt] at this
          exact of_decide_eq_true this
        have R : Hid (dk = radN c rs (k + 1)) := by
          have h1 := RX.out
          rw [← X.out, if_pos hlt] at h1; exact h1.symm
        generalize cmp3 dk s = cv at *
        obtain ⟨d0, d1, _, _⟩ := GC.out.1
        obtain ⟨s0, s1, s2, s3⟩ := GC.out.2.1
        go_wp2
        refine ⟨⟨k + 1, dk, by go_num, hkn, R, GC.out.2.1.set dk, gb_set (gb_set GC.out.2.2.1 (Nat.le_refl _) _) (Nat.le_refl _) _⟩, by simp [intOf]; omega⟩
      · have hc : ¬ cmp3 dk s > 0 := by
          have := cmp3_gt dk s
          rw [decide_eq_false hlt] at this
          exact of_decide_eq_false this
        have R : Hid (s = radN c rs (k + 1)) := by
          have h1 := RX.out
          rw [← X.out, if_neg hlt] at h1; exact h1.symm
        generalize cmp3 dk s = cv at *
        go_wp2
        refine ⟨⟨k + 1, s, by go_num, hkn, R, GC.out.2.1, GC.out.2.2.1⟩, by simp [intOf]; omega⟩
    · have hki : ¬ (k : Int) < (n : Int) := by omega
      have E : Hid (s = radN c rs rs.length) := by
        have h1 := X.out
        rw [show k = rs.length by have := N.out; omega] at h1; exact h1
      obtain ⟨s0, s1, _, _⟩ := Y.out.1
      have dr : Gb wr wr.drew := (Below.refl _ _).drew
      have GY : Gb w wr.drew := gb_trans (gb_trans GW Y.out.2) dr
      have CLX := CL.out _ GY
      have RG := reg0 (gb_trans OI.out.2 Y.out.2)
      obtain ⟨⟨q0, q1, q2, q3, q4, q5⟩, qf⟩ := RG
      have f0 := qf 0 (by omega)
      have f1 := qf 1 (by omega)
      have f2 := qf 2 (by omega)
      have f3 := qf 3 (by omega)
      have f4 := qf 4 (by omega)
      have f5 := qf 5 (by omega)
      clear qf
      have z1 : w.heap.size + 1 ≤ w1.heap.size := by have := OI.out.2.size; rwa [World.size_alloc] at this
      have z2 := Y.out.2.size
      have PRE : Hid (∀ W vl, Own W wr.drew.heap.size vl c → Gb wr.drew W → OutR w W ⟨3, c, [], s, srt (idsOf rs)⟩ vl (.slice none 0 0) (.slice pi ni ci) ∧ vl.ownBlock ≠ some w.heap.size ∧ (Value.slice pi ni ci).ownBlock ≠ some w.heap.size) := by
        intro W vl ho hg
        have gw := gb_trans (gb_trans Y.out.2 dr) hg
        have o3 := OI.out.1.gb gw
        refine ⟨⟨gb_trans GW gw, ho.mono (by rw [World.size_drew]; omega), own_nil _ _, o3.mono (by rw [World.size_alloc]; omega), ?_⟩, ?_, ?_⟩
        · intro g hgv
          refine ⟨by simp [Value.ownBlock], fun e => ?_⟩
          have h1 := (World.ownsRow.lt OI.out.1 g e).2
          have h2 := (World.ownsRow.lt ho g hgv).1
          rw [World.size_drew] at h2; omega
        · intro e
          have := (World.ownsRow.lt ho _ e).1
          rw [World.size_drew] at this; omega
        · intro e
          have := (World.ownsRow.lt OI.out.1 _ e).1
          rw [World.size_alloc] at this; omega
      have hs1 : w1.heap.size ≠ w.heap.size := by omega
      clear Y X A C33 CL VL
      go_wp2_with fail
      go_region_with (go_at_call 50; refine CLX.mono ?_; rintro e w2 ⟨vl, rfl, ho, hg⟩; have P2 := PRE.out _ _ ho hg; obtain ⟨pl, cl2, el, _⟩ := ho.rd; subst el; have s0 := gb_keeps hg s0; have s1 := gb_keeps hg s1; have f0 := (gb_froz hg q0).trans f0; have f1 := (gb_froz hg q1).trans f1; have f2 := (gb_froz hg q2).trans f2; have f3 := (gb_froz hg q3).trans f3; have f4 := (gb_froz hg q4).trans f4; have f5 := (gb_froz hg q5).trans f5; have q0 := gb_keeps hg q0; have q1 := gb_keeps hg q1; have q2 := gb_keeps hg q2; have q3 := gb_keeps hg q3; have q4 := gb_keeps hg q4; have q5 := gb_keeps hg q5)
      all_goals
        clear s0 s1 CLX PRE
        go_wp2
        refine bodyPost_ret (v := .tuple #[rv ⟨3, c, [], s, srt (idsOf rs)⟩ (.slice pl c.length cl2) (.slice none 0 0) (.slice pi ni ci), .int .i64 0]) (by simp [results, Tryz.results133, go_sem, q0, q1, q2, q3, q4, q5]) rfl ⟨_, _, _, by rw [N.out, ← E.out], ?_⟩
        rw [N.out, ← E.out]
        have b0 : (Value.slice none 0 0).ownBlock ≠ some w.heap.size := by simp [Value.ownBlock]
        exact (((((P2.1.set P2.2.1 b0 P2.2.2 _ _).set P2.2.1 b0 P2.2.2 _ _).set P2.2.1 b0 P2.2.2 _ _).set P2.2.1 b0 P2.2.2 _ _).set P2.2.1 b0 P2.2.2 _ _).set P2.2.1 b0 P2.2.2 _ _
theorem ball_c {w : World} {u v : Value} {c : List Int} {rs : List Rw} (hu : RdI w u c) (h : RdW w v rs) (hlen : rs.length ≤ 4611686018427387904) (hwf : ∀ i, i < rs.length → (Lit.int .i64 rs[i]!.1).wf = true) :
    Calls Tryz.prog 133 #[u, v] w fun e w' => ∃ vl vh vi, e = .returned (.tuple #[rv (ballR c rs) vl vh vi, .int .i64 (ballE c rs)]) ∧ OutR w w' (ballR c rs) vl vh vi := by
  by_cases hok : ballE c rs = 0
  · exact ball_yes hu h hlen hwf hok
  · exact ball_no hu h hlen hwf hok
end Go.Proofs.YtepjbdklljlecaaGreat

/- Rows in a list of the call's own. -/
namespace Go.Proofs.YtepjbdklljlecaaGreat
open Go.RowKit Go.Sort Go.Maps

theorem Tryz.infoW : (Tryz.prog.info? 43).map (fun i => (i.zero, i.size, i.bytes)) = some (some (.agg #[.int .i64 0, .slice none 0 0]), 2, 32) := by kernel_rfl
theorem info_partsW : ∃ i0, Tryz.prog.info? 43 = some i0 ∧ i0.zero = some (.agg #[.int .i64 0, .slice none 0 0]) ∧ i0.size = 2 ∧ i0.bytes = 32 := by
  obtain ⟨i, hi, hzz⟩ := Option.map_eq_some_iff.1 Tryz.infoW
  simp only [Prod.mk.injEq] at hzz
  exact ⟨i, hi, hzz.1, hzz.2.1, hzz.2.2⟩
/-- The cells xs are these rows'; their vectors are read in w. -/
def CellsW (w : World) (xs : List Value) (rs : List Rw) : Prop := ∀ i, i < rs.length → xs[i * 2]? = some (.int .i64 rs[i]!.1) ∧ ∃ u, xs[i * 2 + 1]? = some u ∧ RdI w u rs[i]!.2
theorem CellsW.gb {w w' : World} {xs : List Value} {rs : List Rw} (h : CellsW w xs rs) (g : Gb w w') : CellsW w' xs rs := fun i hi => by
  obtain ⟨h1, u, h2, h3⟩ := h i hi
  exact ⟨h1, u, h2, h3.gb g⟩
/-- The call owns, in blocks from B on, a slice v of these rows, whose vectors are read in w. -/
def OwnW (w W : World) (B : Nat) (v : Value) (rs : List Rw) : Prop := ∃ xs, W.ownsRow B 43 2 v rs.length xs ∧ CellsW w xs rs
theorem OwnW.kept {w W W' : World} {B : Nat} {v : Value} {rs : List Rw} {row : Option Nat} (h : OwnW w W B v rs) (hg : W.grownBy W' row) (hne : v.ownBlock = none ∨ v.ownBlock ≠ row) : OwnW w W' B v rs := by
  obtain ⟨xs, h1, h2⟩ := h
  exact ⟨xs, h1.kept hg hne, h2⟩
theorem OwnW.gb {w W W' : World} {B : Nat} {v : Value} {rs : List Rw} (h : OwnW w W B v rs) (g : Gb W W') : OwnW w W' B v rs :=
  h.kept (row := none) ⟨g.os, g.tape, g.output, g.size, fun k hk _ => g.block k hk⟩ (by cases hv : v.ownBlock <;> simp)
theorem OwnW.rdw {w W : World} {B : Nat} {v : Value} {rs : List Rw} (h : OwnW w W B v rs) (g : Gb w W) : RdW W v rs := by
  obtain ⟨xs, h, hx⟩ := h
  rcases h.2 with ⟨rfl, h0⟩ | ⟨b, cap, cur, rfl, _⟩
  · have : rs = [] := List.eq_nil_of_length_eq_zero h0
    subst this
    exact ⟨none, 0, rfl, fun i hi => absurd hi (Nat.not_lt_zero _)⟩
  · refine ⟨_, cap, rfl, fun i hi => ?_⟩
    obtain ⟨h1, u, h2, h3⟩ := hx i hi
    have c1 := World.ownsRow.cells h (g := b) rfl (i * 2) _ h1
    have c2 := World.ownsRow.cells h (g := b) rfl (i * 2 + 1) _ h2
    rw [Addr.add_lit] at c1 c2
    exact ⟨b, 0, u, rfl, c1, by rw [Nat.add_assoc]; exact c2, h3.gb g⟩
theorem OwnW.form {w W : World} {B : Nat} {v : Value} {rs : List Rw} (h : OwnW w W B v rs) : ∃ a cap, v = .slice a rs.length cap := by
  obtain ⟨xs, h, _⟩ := h
  rcases h.2 with ⟨rfl, h0⟩ | ⟨b, cap, cur, rfl, _⟩
  · exact ⟨none, 0, by rw [h0]⟩
  · exact ⟨_, cap, rfl⟩
theorem two_cells (w : World) (x y : Value) (t : TypeId) : ∀ j u, [x, y][j]? = some u → (w.alloc (.cells #[x, y] t)).cell? ((⟨w.heap.size, 0, none⟩ : Addr).add j) = some u := by
  intro j u hj
  rw [Addr.add_lit]
  rcases j with _ | _ | j <;> simp at hj
  · subst hj; simp [go_sem]
  · subst hj; simp [go_sem]
end Go.Proofs.YtepjbdklljlecaaGreat

/- A loop over the draws of a source: the statement, where the function that is ranged over writes one cell ahead of each round; and that function. -/
namespace Go.Proofs.YtepjbdklljlecaaGreat.Rn
open Go.RowKit Go.Shelf
attribute [local go_sem] Oper.semAt_some

/-- How a round's body may be left: on, or by a return. -/
def leftBy (I : Nat → World → Prop) (Ir : Nat → World → Prop) (k : Nat) (W : World) : Exit → Act → World → Prop
  | .normal, _, W' => KeepsOthers W W' ∧ I k W'
  | .ret, _, W' => KeepsOthers W W' ∧ Ir k W'
  | _, _, _ => False

/-- The contract of what is ranged over: N rounds at most, ahead of the k-th the cell b is put. -/
def Gives (n : Nat) (P : Program) (gf : Nat) (lb : Array Value) (N b : Nat) (put arg : Nat → Value) (I : Nat → World → Prop) : Prop :=
  ∀ (l : Nat) (J J1 Jx : Nat → World → Prop) (W : World), (∀ k W, J k W → I k W) →
    (∀ k W, k < N → J k W → J1 k (W.setCell ⟨b, 0, none⟩ (put k))) →
    (∀ k W, k < N → J1 k W → YieldAt Fence.wide (n - 1) P l #[arg k] W fun e W' =>
      (e = .returned (.bool true) ∧ J (k + 1) W') ∨ (e = .returned (.bool false) ∧ Jx (k + 1) W')) →
    J 0 W →
    CallsIn Fence.wide n P gf (#[.func (.yield l) #[] #[]] ++ lb) W fun e W' => (∃ v, e = .returned v) ∧ (J N W' ∨ ∃ k, k < N ∧ Jx (k + 1) W')

theorem range_c {n : Nat} {P : Program} {g : Operand} {ps : Array Tmp} {assign body : Code} {Q : Exit → Act → World → Prop} {a : Act} {w : World}
    {gf : Nat} {lb : Array Value} (hg : a.eval g = .func (.func gf) #[] lb) (eg : ∀ args w, (callFunc gf args).run P w = .ok (.enter gf args) w)
    (hps : ps.size = 1) (N b : Nat) (put arg : Nat → Value) (I I1 Ir : Nat → World → Prop)
    (hI : OwnFrom w.heap.size I) (hI1 : OwnFrom w.heap.size I1) (hIr : OwnFrom w.heap.size Ir) (h0 : I 0 w)
    (hst : ∀ k W, k < N → I k W → I1 k (W.setCell ⟨b, 0, none⟩ (put k)))
    (hit : Gives (n - 1) P gf lb N b put arg I) (a₁ : Nat → Act)
    (hassign : ∀ (l k : Nat) (W : World) (K : Act → World → Prop), K (a₁ k) W →
      assign.wpIn (Fence.wide.inRound l) (n - 1 - 1) P (Exit.then K (fun _ _ _ => False)) { tmps := (ps.zip #[arg k]).foldl (fun t (p, v) => t.setIfInBounds p v) a.tmps, defers := [] } W)
    (hbody : ∀ (l k : Nat) (W : World), k < N → I1 k W → body.wpIn (Fence.wide.inRound l) (n - 1 - 1) P (leftBy I Ir (k + 1) W) (a₁ k) W)
    (hdone : ∀ (D : Nat) (W : World), w.heap.size ≤ D → I N W → W.heap[D]? = some (.deferred (some [])) → Q .normal { a with defers := { target := .collected D, args := #[] } :: a.defers } W)
    (hstop : ∀ (D k : Nat) (W : World), w.heap.size ≤ D → k < N → Ir (k + 1) W → W.heap[D]? = some (.deferred (some [])) → Code.ret.wpIn Fence.wide n P Q { a with defers := { target := .collected D, args := #[] } :: a.defers } W) :
    (Code.rangeFunc g ps assign body).wpIn Fence.wide n P Q a w := by
  refine wpIn_rangeFunc fun fn hfn => ?_
  -- the record of the loop, in its states
  obtain ⟨rc, hrc⟩ : ∃ rc : LoopState → Option Code → Loop, rc = fun s p => { state := s, pending := p, fn := fn, tmps := a.tmps, params := ps, assign := assign, body := body, defers := w.heap.size } := ⟨_, rfl⟩
  obtain ⟨V, hV⟩ : ∃ V, (w.alloc (.deferred (some []))).alloc (.loop (rc .ready none)) = V := ⟨_, rfl⟩
  have hlV : V.heap[w.heap.size + 1]? = some (.loop (rc .ready none)) := by
    rw [← hV]; have := World.alloc_heap_new (w.alloc (.deferred (some []))) (.loop (rc .ready none)); rwa [World.size_alloc] at this
  have hdV : V.heap[w.heap.size]? = some (.deferred (some [])) := by
    rw [← hV]; exact (Below.heap_alloc _ _ _ (by simp)).trans (World.alloc_heap_new w _)
  have hIV : I 0 V := by rw [← hV]; exact hI.alloc _ (hI.alloc _ h0)
  refine ⟨w.heap.size + 1, [{ target := .collected w.heap.size, args := #[] }], V, { target := .fn (.func gf) lb, args := #[.func (.yield (w.heap.size + 1)) #[] #[]] }, V, gf,
    #[.func (.yield (w.heap.size + 1)) #[] #[]] ++ lb, V, ?_, ?_, fun _ _ => trivial, ?_, fun h => by simp [Fence.wide] at h, ?_⟩
  · rw [← hV, hrc]; exact run_enterLoop_outer _ _ _ _ _
  · simp only [resolve, hg]
    simp [go_sem]
  · simp [invoke, go_sem, eg]
  refine (hit (w.heap.size + 1)
    (fun k W => I k W ∧ W.heap[w.heap.size + 1]? = some (.loop (rc .ready none)) ∧ W.heap[w.heap.size]? = some (.deferred (some [])))
    (fun k W => I1 k W ∧ W.heap[w.heap.size + 1]? = some (.loop (rc .ready none)) ∧ W.heap[w.heap.size]? = some (.deferred (some [])))
    (fun k W => Ir k W ∧ W.heap[w.heap.size + 1]? = some (.loop (rc .done (some .ret))) ∧ W.heap[w.heap.size]? = some (.deferred (some [])))
    V (fun _ _ h => h.1) (fun k W hk h => ⟨hst k W hk h.1, (KeepsOthers.setCell W _ _).same _ _ h.2.1 rfl, (KeepsOthers.setCell W _ _).same _ _ h.2.2 rfl⟩) ?_ ⟨hIV, hlV, hdV⟩).mono ?_
  · -- one round
    rintro k W hk ⟨hi, hl, hd⟩
    have hlt : w.heap.size + 1 < W.heap.size := (Array.getElem?_eq_some_iff.1 hl).1
    have hy := run_yield (P := P) (args := #[arg k]) hl (by rw [hrc]; simp [hps])
    rw [hrc] at hy
    refine ⟨fn, _, assign, body, hy, roundIn_of_wpIn hfn (hassign _ k W _ ⟨_, run_beginRound hl (by rw [hrc]), ?_⟩)⟩
    obtain ⟨W2, hW2⟩ : ∃ W2, W.putObj (w.heap.size + 1) (.loop { rc .ready none with state := .busy }) = W2 := ⟨_, rfl⟩
    rw [hW2]
    have hl2 : W2.heap[w.heap.size + 1]? = some (.loop { rc .ready none with state := .busy }) := by rw [← hW2]; exact World.putObj_heap_same hlt
    have hd2 : W2.heap[w.heap.size]? = some (.deferred (some [])) := by rw [← hW2]; exact (World.putObj_heap_other (by omega)).trans hd
    have hi2 : I1 k W2 := by rw [← hW2]; exact hI1.putObj _ hi (by omega) hl rfl
    refine wpIn_mono (hbody _ k W2 hk hi2) ?_
    have fin : ∀ (j : Option Code) (W3 : World), KeepsOthers W2 W3 →
        (Instr.endRound (w.heap.size + 1) j).run P W3 = .ok (.bool j.isNone) (W3.putObj (w.heap.size + 1) (.loop (rc (if j.isNone then .ready else .done) j))) ∧
        W3.heap[w.heap.size + 1]? = some (.loop { rc .ready none with state := .busy }) ∧
        (W3.putObj (w.heap.size + 1) (.loop (rc (if j.isNone then .ready else .done) j))).heap[w.heap.size + 1]? = some (.loop (rc (if j.isNone then .ready else .done) j)) ∧
        (W3.putObj (w.heap.size + 1) (.loop (rc (if j.isNone then .ready else .done) j))).heap[w.heap.size]? = some (.deferred (some [])) := fun j W3 hk3 => by
      have hl3 := hk3.same _ _ hl2 rfl
      have := run_endRound (P := P) j hl3
      rw [hrc] at this ⊢
      exact ⟨this, by rw [hrc] at hl3; exact hl3, World.putObj_heap_same (Array.getElem?_eq_some_iff.1 hl3).1, (World.putObj_heap_other (by omega)).trans (hk3.same _ _ hd2 rfl)⟩
    rintro e a3 W3 hp
    cases e with
    | normal =>
      obtain ⟨hk3, hi3⟩ := hp
      obtain ⟨hr, hl3, hl4, hd4⟩ := fin none W3 hk3
      exact ⟨_, _, hr, .inl ⟨rfl, hI.putObj _ hi3 (by omega) hl3 rfl, hl4, hd4⟩⟩
    | ret =>
      obtain ⟨hk3, hi3⟩ := hp
      obtain ⟨hr, hl3, hl4, hd4⟩ := fin (some .ret) W3 hk3
      exact ⟨_, _, hr, .inr ⟨rfl, hIr.putObj _ hi3 (by omega) hl3 rfl, hl4, hd4⟩⟩
    | exit id => exact hp.elim
    | goto t => exact hp.elim
    | panic ch => exact hp.elim
    | outgrown => exact hp.elim
  · -- behind it
    rintro e W2 ⟨⟨v, rfl⟩, ⟨hi, hl, hd⟩ | ⟨k, hk, hi, hl, hd⟩⟩
    · exact ⟨none, _, by have := run_endLoop (P := P) hl (by rw [hrc]; simp); rw [hrc] at this; exact this, hdone _ _ (Nat.le_refl _) (hI.putObj _ hi (by omega) hl rfl) ((World.putObj_heap_other (by omega)).trans hd)⟩
    · exact ⟨some .ret, _, by have := run_endLoop (P := P) hl (by rw [hrc]; simp); rw [hrc] at this; exact this, hstop _ k _ (Nat.le_refl _) hk (hIr.putObj _ hi (by omega) hl rfl) ((World.putObj_heap_other (by omega)).trans hd)⟩

end Go.Proofs.YtepjbdklljlecaaGreat.Rn

/- theodolitekeep.Vectors: it tells some number. -/
namespace Go.Proofs.YtepjbdklljlecaaGreat
open Go.RowKit Go.Sort
set_option maxHeartbeats 2000000 in
set_option maxRecDepth 100000 in
theorem vects_c {w : World} {v : Value} {rs : List Rw} (h : RdW w v rs) (most : Int) (hlen : rs.length ≤ 9223372036854775807) :
    Calls Tryz.prog 28 #[v, .int .i64 most] w fun e w' => (∃ z : Int, e = .returned (.int .i64 z)) ∧ w = w' := by
  obtain ⟨a, cap, rfl, ha⟩ := h
  have A : Hid (∀ i, i < rs.length → ∃ b o u, a = some ⟨b, o, none⟩ ∧ w.cell? ⟨b, o + i * 2, none⟩ = some (.int .i64 rs[i]!.1) ∧ w.cell? ⟨b, o + i * 2 + 1, none⟩ = some u ∧ RdI w u rs[i]!.2) := ha
  obtain ⟨n, hN⟩ : ∃ n, n = rs.length := ⟨_, rfl⟩
  have N : Hid (n = rs.length) := hN
  rw [← hN] at hlen ⊢
  clear ha hN
  go_enter Tryz.func28, Tryz.ntmps28
  go_wp2
  go_loopw [5, 6] (fun zv iv w' => ∃ (q : Nat) (z : Int), zv = .int .i64 z ∧ iv = .int .i64 (q : Int) ∧ q ≤ n ∧ w = w') (fun _ iv _ => n - (intOf iv).toNat)
  case atStart => exact ⟨0, n, rfl, rfl, Nat.zero_le _, rfl⟩
  case round =>
    obtain ⟨q, z, rfl, rfl, hq, rfl⟩ := hrel
    by_cases hqn : q < n
    · have hqi : (q : Int) < (n : Int) := by omega
      by_cases hz : z ≤ most
      · have hql : q < rs.length := by have := N.out; omega
        obtain ⟨b, o, u, ea, hc, hd, hr⟩ := A.out q hql
        obtain ⟨pu, cu, eu, _⟩ := hr
        subst ea; subst eu
        generalize rs[q]!.2.length = k at *
        generalize rs[q]!.1 = x at *
        clear hql
        go_wp2
        go_roundw
        case rel => exact ⟨q + 1, _, rfl, by simp, hqn, by first | rfl | trivial⟩
        case measure => simp [intOf]; omega
      · go_wp2
        go_ret
        exact ⟨⟨_, rfl⟩, by first | rfl | trivial⟩
    · have hqi : ¬ (q : Int) < (n : Int) := by omega
      go_wp2
      go_ret
      exact ⟨⟨_, rfl⟩, by first | rfl | trivial⟩
end Go.Proofs.YtepjbdklljlecaaGreat
