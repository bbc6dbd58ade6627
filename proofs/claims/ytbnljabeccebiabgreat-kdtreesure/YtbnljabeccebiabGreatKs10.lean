import Derived.Test.YtbnljabeccebiabGreatKsReg
import Derived.Test.YtbnljabeccebiabGreatKs9
import Derived.Test.YtbnljabeccebiabGreatKs3
import Derived.Laws.AppendOwnNone
/- Roots; vec.ballBound. -/
namespace Go.Proofs.YtbnljabeccebiabGreat
open Go.RowKit

/-- The greatest number up to n whose square is not above a. -/
def rtTo (a : Nat) : Nat → Nat
  | 0 => 0
  | n + 1 => if (n + 1) * (n + 1) ≤ a then n + 1 else rtTo a n
def rt (a : Nat) : Nat := rtTo a a
theorem rtTo_is (a : Nat) : ∀ n, a < (n + 1) * (n + 1) → IsRoot a (rtTo a n)
  | 0, h => ⟨Nat.zero_le _, by simpa [rtTo] using h⟩
  | n + 1, h => by
    unfold rtTo
    split
    · rename_i h1; exact ⟨h1, h⟩
    · rename_i h1; exact rtTo_is a n (by omega)
theorem rt_is (a : Nat) : IsRoot a (rt a) := rtTo_is a a (by
  have : (a + 1) * 1 ≤ (a + 1) * (a + 1) := Nat.mul_le_mul_left _ (by omega)
  omega)
theorem root_le {a r s : Nat} (h1 : IsRoot a r) (h2 : IsRoot a s) : s ≤ r := by
  apply Nat.le_of_not_lt; intro hc
  have := sq_le (show r + 1 ≤ s by omega)
  have := h1.2; have := h2.1; omega
theorem root_one {a r : Nat} (h : IsRoot a r) : r = rt a := Nat.le_antisymm (root_le (rt_is a) h) (root_le h (rt_is a))
theorem rt_lt {a : Nat} (ha : a < 340282366920938463463374607431768211456) : rt a < 18446744073709551616 := by
  apply Nat.lt_of_not_le; intro hc
  have := sq_le hc
  have := (rt_is a).1; omega
theorem sqrt_c (a : Nat) (ha : a < 340282366920938463463374607431768211456) (w : World) :
    Calls Tryz.prog 120 #[Wd a] w fun e w' => e = .returned (.int .u64 (rt a : Int)) ∧ Gr w w' := by
  refine (sqrt_any a ha w).mono ?_
  rintro e w' ⟨r, rfl, _, hr, g⟩
  rw [root_one hr]; exact ⟨rfl, g⟩

/-- The least number whose square is not below R. -/
def rup (R : Nat) : Nat := if rt R * rt R = R then rt R else rt R + 1
/-- The bound of a ball: a the distance from its centre. -/
def ballV (a R : Nat) : Nat := if rt a ≤ rt R then 0 else (rt a - rup R) * (rt a - rup R)

theorem wd_ne (a b : Nat) (r : Bool) (h : (!decide (a = b)) = r) (W : World) : (binOp .neq 58 (.agg #[.int .u64 (hi a), .int .u64 (lo a)]) (.agg #[.int .u64 (hi b), .int .u64 (lo b)])).run Tryz.prog W = .ok (.bool r) W := by
  subst h
  have h1 := wd_eq a b W
  rw [run_eql_struct] at h1
  rw [run_neq_struct]
  revert h1
  generalize (Op.equalIn 10000 58 (Wd a) (Wd b)).run Tryz.prog W = x
  intro h1
  cases x with
  | ok v w' =>
    simp only [Result.andThen] at h1 ⊢
    injection h1 with h2 h3
    injection h2 with h4
    rw [h3, h4]
  | _ => simp [Result.andThen] at h1

set_option maxHeartbeats 4000000 in
set_option maxRecDepth 100000 in
theorem ballBound_c {w : World} {v u : Value} {r : Reg} {a : List Int} (hv : RdR w v r) (hu : RdI w u a) (hl : r.L.length = a.length) (hn : r.L.length ≤ 64) (rl : allR r.L = true) (ra : allR a = true) (hR : r.R < 340282366920938463463374607431768211456) :
    Calls Tryz.prog 80 #[v, u] w fun e w' => e = .returned (Wd (ballV (dst r.L a) r.R)) ∧ Gr w w' := by
  have HV : Hid (RdR w v r) := hv
  obtain ⟨vl, vh, vi, rfl, hL, hH, hI⟩ := hv
  have RA : Hid (RegAt (w.alloc (rc r vl vh vi)) w.heap.size r vl vh vi) := RegAt.new w r vl vh vi
  have G00 : Gr w (w.alloc (rc r vl vh vi)) := (Gr.refl _).alloc _ _
  have G0 : Gr w ((w.alloc (rc r vl vh vi)).alloc (.cells #[.int .u64 0, .int .u64 0] 58)) := G00.alloc _ _
  have c1 := distance_c (hL.gb G0.gb) (hu.gb G0.gb) hl hn rl ra
  have c2 := fun W => sqrt_c (dst r.L a) (dst_lt rl ra hl hn) W
  have c3 := fun W => sqrt_c r.R hR W
  have l1 := rt_lt (dst_lt rl ra hl hn)
  have l2 := rt_lt hR
  have l3 := (rt_is (dst r.L a)).1
  have l4 := dst_lt rl ra hl hn
  clear hH hI HV hl hn rl ra
  obtain ⟨S, L, H, R, I⟩ := r
  dsimp only at *
  obtain ⟨pl, cl, rfl, _⟩ := hL
  obtain ⟨pa, ca, rfl, _⟩ := hu
  generalize L.length = nl at *
  generalize a.length = na at *
  have E : Hid (ballV (dst L a) R = if rt (dst L a) ≤ rt R then 0 else (rt (dst L a) - rup R) * (rt (dst L a) - rup R)) := rfl
  generalize ballV (dst L a) R = res at *
  generalize dst L a = D at *
  have E2 : Hid (rup R = if rt R * rt R = R then rt R else rt R + 1) := rfl
  generalize rt D = s at *
  generalize rup R = t' at *
  generalize rt R = t at *
  clear l3 l4
  have W0 : Hid (Gr (w.alloc (.cells #[.int .i64 S, .slice pl nl cl, vh, .int .u64 (hi R), .int .u64 (lo R), vi] 78)) ((w.alloc (.cells #[.int .i64 S, .slice pl nl cl, vh, .int .u64 (hi R), .int .u64 (lo R), vi] 78)).alloc (.cells #[.int .u64 0, .int .u64 0] 58))) := (Gr.refl _).alloc _ _
  go_enter Tryz.func80, Tryz.ntmps80
  go_wp2_with fail
  refine c1.mono ?_
  rintro e w1 ⟨rfl, g1⟩
  go_wp2_with fail
  refine (c2 _).mono ?_
  rintro e w2 ⟨rfl, g2⟩
  have g2 := g1.trans g2
  obtain ⟨_, _, _, q3, q4, _⟩ := RA.out.gb (W0.out.trans g2).gb
  dsimp only at q3 q4
  go_wp2_with fail
  refine (c3 _).mono ?_
  rintro e w3 ⟨rfl, g3⟩
  have G3 := g2.trans g3
  have VV := G3.var2
  simp only [World.size_alloc] at VV
  obtain ⟨v0, v1, v2, v3⟩ := VV
  clear c1 c2 c3 g1 g2 g3 q3 q4
  by_cases hst : s ≤ t
  · rw [if_pos hst] at E
    have e := E.out
    subst e
    have hst' : (s : Int) ≤ (t : Int) := by omega
    clear E E2 hst
    go_wp2
    exact bodyPost_ret (v := Wd 0) (by simp [results, Tryz.results80, go_sem, v0, v1, hi, lo]) rfl ⟨rfl, by repeat (first | exact G0.trans G3 | refine Gr.setCell ?_ (by simp) _)⟩
  · rw [if_neg hst] at E
    have hst' : ¬ (s : Int) ≤ (t : Int) := by omega
    obtain ⟨_, _, _, q3, q4, _⟩ := RA.out.gb (W0.out.trans G3).gb
    dsimp only at q3 q4
    have cm := fun W => mul_any t t l2 l2 W
    have reg : ∀ r' : Bool, (!decide (t * t = R)) = r' → Hid ((!decide (t * t = R)) = r') := fun _ h => h
    by_cases ht : t * t = R
    · have hne := fun W => wd_ne (t * t) R false (by simp [ht]) W
      rw [if_pos ht] at E2
      have e := E2.out
      subst e
      have cs := fun W => mul_int ((s : Int) - (t' : Int)) ((s : Int) - (t' : Int)) (by omega) (by omega) (by omega) (by omega) W
      have E3 : Hid (((s : Int) - (t' : Int)).toNat * ((s : Int) - (t' : Int)).toNat = res) := by unfold Hid; rw [E.out]; congr 1 <;> omega
      rw [E3.out] at cs
      have b1 : 0 ≤ (s : Int) - (t' : Int) := by omega
      have b2 : (s : Int) - (t' : Int) < 18446744073709551616 := by omega
      clear E E2 E3 hst ht reg
      go_wp2
      go_region_held3 (fun w' => w'.cell? ⟨w.heap.size, 3, none⟩ = some (.int .u64 (hi R)) ∧ w'.cell? ⟨w.heap.size, 4, none⟩ = some (.int .u64 (lo R))) (first | (with_reducible exact call_keeps2 (by assumption) (by assumption)) | exact ⟨q3, q4⟩)
        (first
          | (go_at_call 122; refine (cm _).mono ?_; rintro e w4 ⟨rfl, g4⟩))
      all_goals
        have G4 := G3.drew.trans g4
        go_wp2_with fail
        refine (cs _).mono ?_
        rintro e w5 ⟨rfl, g5⟩
        have G5 := G4.trans g5
        have VV := G5.var2
        simp only [World.size_alloc] at VV
        obtain ⟨u0, u1, u2, u3⟩ := VV
        go_wp2
        exact bodyPost_ret (v := Wd res) (by simp [results, Tryz.results80, go_sem, u0, u1]) rfl ⟨rfl, by repeat (first | exact G0.trans G5 | refine Gr.setCell ?_ (by simp) _)⟩
    · have hne := fun W => wd_ne (t * t) R true (by simp [ht]) W
      rw [if_neg ht] at E2
      have e := E2.out
      have T1 : Hid ((t : Int) + 1 = (t' : Int)) := by unfold Hid; omega
      have cs := fun W => mul_int ((s : Int) - (t' : Int)) ((s : Int) - (t' : Int)) (by omega) (by omega) (by omega) (by omega) W
      have E3 : Hid (((s : Int) - (t' : Int)).toNat * ((s : Int) - (t' : Int)).toNat = res) := by unfold Hid; rw [E.out]; congr 1 <;> omega
      rw [E3.out] at cs
      have BB : Hid (0 ≤ (s : Int) - (t' : Int) ∧ (s : Int) - (t' : Int) < 18446744073709551616) := ⟨by omega, by omega⟩
      clear e
      clear E E2 E3 hst ht reg
      go_wp2
      go_region_held3 (fun w' => w'.cell? ⟨w.heap.size, 3, none⟩ = some (.int .u64 (hi R)) ∧ w'.cell? ⟨w.heap.size, 4, none⟩ = some (.int .u64 (lo R))) (first | (with_reducible exact call_keeps2 (by assumption) (by assumption)) | exact ⟨q3, q4⟩)
        (first
          | (go_at_call 122; refine (cm _).mono ?_; rintro e w4 ⟨rfl, g4⟩))
      all_goals
        have G4 := G3.drew.trans g4
        have T2 := T1.out
        obtain ⟨b1, b2⟩ := BB.out
        go_wp2_with fail
        refine (cs _).mono ?_
        rintro e w5 ⟨rfl, g5⟩
        have G5 := G4.trans g5
        have VV := G5.var2
        simp only [World.size_alloc] at VV
        obtain ⟨u0, u1, u2, u3⟩ := VV
        go_wp2
        exact bodyPost_ret (v := Wd res) (by simp [results, Tryz.results80, go_sem, u0, u1]) rfl ⟨rfl, by repeat (first | exact G0.trans G5 | refine Gr.setCell ?_ (by simp) _)⟩
end Go.Proofs.YtbnljabeccebiabGreat

/- vec.Inside and vec.Bound. -/
namespace Go.Proofs.YtbnljabeccebiabGreat
open Go.RowKit

/-- Does a vector lie in a region? Both may be. -/
def inV (r : Reg) (a : List Int) : Bool := if r.S = 2 then decide (bx r.L r.H a = 0) else if r.S = 3 then decide (dst r.L a ≤ r.R) else true
/-- How near it may be. -/
def bdV (r : Reg) (a : List Int) : Nat := if r.S = 2 then bx r.L r.H a else if r.S = 3 then ballV (dst r.L a) r.R else 0
theorem ckB_ok {r : Reg} {a : List Int} (h : ckB r a = 0) : ckR r a.length = 0 ∧ chk a a.length = 0 := by
  unfold ckB at h; split at h
  · rename_i h1; exact ⟨h1, h⟩
  · rename_i h1; exact absurd h h1
theorem ckR_ok {r : Reg} {d : Int} (h : ckR r d = 0) : (r.S = 2 → cornE r.L r.H d = 0) ∧ (r.S = 3 → chk r.L d = 0) ∧ uses r = true ∧ rise r.I = true := by
  unfold ckR at h; split at h
  · split at h
    · rename_i h2
      refine ⟨fun e => ?_, fun e => ?_, h2⟩
      · rw [if_pos e] at h; exact h
      · rw [if_neg (by omega), if_pos e] at h; exact h
    · cases h
  · cases h
theorem cornE_ok {l h : List Int} {d : Int} (k : cornE l h d = 0) : chk l d = 0 ∧ chk h d = 0 ∧ below l h l.length = true := by
  unfold cornE at k; split at k
  · rename_i h1
    split at k
    · rename_i h2
      split at k
      · rename_i h3; exact ⟨h1, h2, h3⟩
      · cases k
    · rename_i h2; exact absurd k h2
  · rename_i h1; exact absurd k h1
/-- What a box and a vector that may be are. -/
theorem box_ok {r : Reg} {a : List Int} (h : ckB r a = 0) (s : r.S = 2) : r.L.length = a.length ∧ r.H.length = a.length ∧ a.length ≤ 64 ∧ allR r.L = true ∧ allR r.H = true ∧ allR a = true ∧ below r.L r.H a.length = true := by
  obtain ⟨h1, h2⟩ := ckB_ok h
  obtain ⟨h3, h4, h5⟩ := cornE_ok ((ckR_ok h1).1 s)
  obtain ⟨a1, a2, a3, a4⟩ := chk_ok h3
  obtain ⟨b1, b2, b3, b4⟩ := chk_ok h4
  obtain ⟨c1, c2, c3, c4⟩ := chk_ok h2
  have e1 : r.L.length = a.length := by omega
  rw [e1] at h5
  exact ⟨e1, by omega, c2, a4, b4, c4, h5⟩
theorem ball_ok {r : Reg} {a : List Int} (h : ckB r a = 0) (s : r.S = 3) : r.L.length = a.length ∧ r.L.length ≤ 64 ∧ allR r.L = true ∧ allR a = true := by
  obtain ⟨h1, h2⟩ := ckB_ok h
  obtain ⟨a1, a2, a3, a4⟩ := chk_ok ((ckR_ok h1).2.1 s)
  obtain ⟨c1, c2, c3, c4⟩ := chk_ok h2
  exact ⟨by omega, a2, a4, c4⟩
theorem cmp3_le (a b : Nat) : decide (cmp3 a b ≤ 0) = decide (a ≤ b) := by
  unfold cmp3
  by_cases h : a < b
  · rw [if_pos h, decide_eq_true (by omega), decide_eq_true (by omega)]
  · rw [if_neg h]
    by_cases h2 : a = b
    · rw [if_pos h2, decide_eq_true (by omega), decide_eq_true (by omega)]
    · rw [if_neg h2, decide_eq_false (by omega), decide_eq_false (by omega)]
theorem three_call {W w' : World} {p0 p1 p2 : Addr} {v0 v1 v2 : Value} (g : Gr W w') (h : W.cell? p0 = some v0 ∧ W.cell? p1 = some v1 ∧ W.cell? p2 = some v2) :
    w'.cell? p0 = some v0 ∧ w'.cell? p1 = some v1 ∧ w'.cell? p2 = some v2 := ⟨g.keeps h.1, g.keeps h.2.1, g.keeps h.2.2⟩

/-- What Inside answers. -/
def insV (r : Reg) (a : List Int) : Bool := decide (ckB r a = 0) && inV r a
/-- What Bound answers. -/
def bndV (r : Reg) (a : List Int) : Nat := if ckB r a = 0 then bdV r a else 0
set_option maxHeartbeats 4000000 in
set_option maxRecDepth 100000 in
theorem bound_c {w : World} {v u : Value} {r : Reg} {a : List Int} (hv : RdR w v r) (hu : RdI w u a) (hlen : r.I.length ≤ 4611686018427387904) (hR : r.R < 340282366920938463463374607431768211456) :
    Calls Tryz.prog 39 #[v, u] w fun e w' => e = .returned (.tuple #[Wd (bndV r a), .int .i64 (ckB r a)]) ∧ Gr w w' := by
  have HV : Hid (RdR w v r) := hv
  obtain ⟨vl, vh, vi, rfl, hL, hH, hI⟩ := hv
  have RA : Hid (RegAt (w.alloc (rc r vl vh vi)) w.heap.size r vl vh vi) := RegAt.new w r vl vh vi
  have G00 : Gr w (w.alloc (rc r vl vh vi)) := (Gr.refl _).alloc _ _
  have G01 : Gr (w.alloc (rc r vl vh vi)) ((w.alloc (rc r vl vh vi)).alloc (.cells #[.int .u64 0, .int .u64 0] 58)) := (Gr.refl _).alloc _ _
  have G0 := G00.trans G01
  have C1 := fun x hx => checkBoth_v (HV.out.gb G0.gb) (hu.gb G0.gb) hlen x hx
  by_cases h0 : ckB r a = 0
  · have c1 := C1 _ h0
    have E : Hid (bndV r a = bdV r a) := by unfold Hid bndV; rw [if_pos h0]
    rw [E.out, h0]
    clear C1 E
    have E : Hid (bdV r a = if r.S = 2 then bx r.L r.H a else if r.S = 3 then ballV (dst r.L a) r.R else 0) := rfl
    generalize bdV r a = res at *
    by_cases s2 : r.S = 2
    · obtain ⟨k1, k2, k3, k4, k5, k6, k7⟩ := box_ok h0 s2
      rw [if_pos s2] at E
      have c2 := fun W' (g : Gr ((w.alloc (rc r vl vh vi)).alloc (.cells #[.int .u64 0, .int .u64 0] 58)) W') => boxBound_c (HV.out.gb (G0.trans g).gb) (hu.gb (G0.trans g).gb) k1 k2 k3 k4 k5 k6
      rw [← E.out] at c2
      obtain ⟨pa, ca, rfl, _⟩ := hu
      clear HV hL hH hI h0 k1 k2 k3 k4 k5 k6 k7 hlen hR E
      obtain ⟨S, L, H, R, I⟩ := r
      dsimp only at *
      subst s2
      generalize a.length = na at *
      go_enter Tryz.func39, Tryz.ntmps39
      go_wp2_with fail
      refine c1.mono ?_
      rintro e w1 ⟨rfl, g1⟩
      obtain ⟨q0, q1, q2, q3, q4, q5⟩ := RA.out.gb (G01.trans g1).gb
      dsimp only at q0 q1 q2 q3 q4 q5
      go_wp2_with fail
      refine (c2 _ g1).mono ?_
      rintro e w2 ⟨rfl, g2⟩
      have G2 := g1.trans g2
      have VV := G2.var2
      simp only [World.size_alloc] at VV
      obtain ⟨v0, v1, v2, v3⟩ := VV
      go_wp2
      exact bodyPost_ret (v := .tuple #[Wd res, .int .i64 0]) (by simp [results, Tryz.results39, go_sem, v0, v1]) rfl ⟨rfl, by repeat (first | exact G0.trans G2 | refine Gr.setCell ?_ (by simp) _)⟩
    · have s2' : (r.S == 2) = false := by rw [beq_eq_false_iff_ne]; exact s2
      rw [if_neg s2] at E
      by_cases s3 : r.S = 3
      · obtain ⟨k1, k2, k3, k4⟩ := ball_ok h0 s3
        rw [if_pos s3] at E
        have c2 := fun W' (g : Gr ((w.alloc (rc r vl vh vi)).alloc (.cells #[.int .u64 0, .int .u64 0] 58)) W') => ballBound_c (HV.out.gb (G0.trans g).gb) (hu.gb (G0.trans g).gb) k1 k2 k3 k4 hR
        rw [← E.out] at c2
        obtain ⟨pa, ca, rfl, _⟩ := hu
        clear HV hL hH hI h0 k1 k2 k3 k4 hlen hR E s2 s2'
        obtain ⟨S, L, H, R, I⟩ := r
        dsimp only at *
        subst s3
        generalize a.length = na at *
        go_enter Tryz.func39, Tryz.ntmps39
        go_wp2_with fail
        refine c1.mono ?_
        rintro e w1 ⟨rfl, g1⟩
        obtain ⟨q0, q1, q2, q3, q4, q5⟩ := RA.out.gb (G01.trans g1).gb
        dsimp only at q0 q1 q2 q3 q4 q5
        go_wp2_with fail
        refine (c2 _ g1).mono ?_
        rintro e w2 ⟨rfl, g2⟩
        have G2 := g1.trans g2
        have VV := G2.var2
        simp only [World.size_alloc] at VV
        obtain ⟨v0, v1, v2, v3⟩ := VV
        go_wp2
        exact bodyPost_ret (v := .tuple #[Wd res, .int .i64 0]) (by simp [results, Tryz.results39, go_sem, v0, v1]) rfl ⟨rfl, by repeat (first | exact G0.trans G2 | refine Gr.setCell ?_ (by simp) _)⟩
      · have s3' : (r.S == 3) = false := by rw [beq_eq_false_iff_ne]; exact s3
        rw [if_neg s3] at E
        have e := E.out
        subst e
        obtain ⟨pa, ca, rfl, _⟩ := hu
        clear HV hL hH hI h0 hlen hR E s2 s3
        obtain ⟨S, L, H, R, I⟩ := r
        dsimp only at *
        generalize a.length = na at *
        go_enter Tryz.func39, Tryz.ntmps39
        go_wp2_with fail
        refine c1.mono ?_
        rintro e w1 ⟨rfl, g1⟩
        obtain ⟨q0, q1, q2, q3, q4, q5⟩ := RA.out.gb (G01.trans g1).gb
        dsimp only at q0 q1 q2 q3 q4 q5
        have VV := g1.var2
        simp only [World.size_alloc] at VV
        obtain ⟨v0, v1, v2, v3⟩ := VV
        go_wp2
        exact bodyPost_ret (v := .tuple #[Wd 0, .int .i64 0]) (by simp [results, Tryz.results39, go_sem, v0, v1, hi, lo]) rfl ⟨rfl, by repeat (first | exact G0.trans g1 | refine Gr.setCell ?_ (by simp) _)⟩
  · have c1 := C1 _ rfl
    have E : bndV r a = 0 := by unfold bndV; rw [if_neg h0]
    have h1 : (ckB r a == 0) = false := by rw [beq_eq_false_iff_ne]; exact h0
    rw [E]
    obtain ⟨pa, ca, rfl, _⟩ := hu
    clear C1 E HV hL hH hI hlen hR h0
    generalize ckB r a = res at *
    obtain ⟨S, L, H, R, I⟩ := r
    generalize a.length = na at *
    go_enter Tryz.func39, Tryz.ntmps39
    go_wp2_with fail
    refine c1.mono ?_
    rintro e w1 ⟨rfl, g1⟩
    have VV := g1.var2
    simp only [World.size_alloc] at VV
    obtain ⟨v0, v1, v2, v3⟩ := VV
    go_wp2
    exact bodyPost_ret (v := .tuple #[Wd 0, .int .i64 res]) (by simp [results, Tryz.results39, go_sem, v0, v1, hi, lo]) rfl ⟨rfl, by repeat (first | exact G0.trans g1 | refine Gr.setCell ?_ (by simp) _)⟩
end Go.Proofs.YtbnljabeccebiabGreat

/- The reference's With: a rising list with one more. -/
namespace Go.Proofs.YtbnljabeccebiabGreat
open Go.RowKit Go.Sort Go.Maps

def SrtI (l : List Int) : Prop := l.Pairwise fun x y => x ≤ y
theorem srt_perm (l : List Int) : (srt l).Perm l := List.mergeSort_perm l _
theorem srt_srtI (l : List Int) : SrtI (srt l) := by
  have h := List.pairwise_mergeSort (le := fun x y : Int => decide (x ≤ y)) (fun a b c h1 h2 => by
    simp only [decide_eq_true_eq] at *; omega) (fun a b => by
    by_cases h : a ≤ b
    · simp [h]
    · have : b ≤ a := by omega
      simp [this]) l
  exact h.imp (fun h => by simpa using h)
theorem srtI_unique : ∀ (l l' : List Int), SrtI l → SrtI l' → l.Perm l' → l = l'
  | [], l', _, _, p => (List.Perm.nil_eq p)
  | a :: r, [], _, _, p => absurd p.length_eq (by simp)
  | a :: r, b :: r', h, h', p => by
    have hb : b ∈ a :: r := p.symm.subset List.mem_cons_self
    have ha : a ∈ b :: r' := p.subset List.mem_cons_self
    have e : a = b := by
      rcases List.mem_cons.1 hb with e | hb
      · exact e.symm
      rcases List.mem_cons.1 ha with e | ha
      · exact e
      have h1 := List.rel_of_pairwise_cons h hb
      have h2 := List.rel_of_pairwise_cons h' ha
      omega
    subst e
    rw [srtI_unique r r' (List.Pairwise.of_cons h) (List.Pairwise.of_cons h') (List.Perm.cons_inv p)]
def insI (x : Int) : List Int → List Int
  | [] => [x]
  | y :: r => if y < x then y :: insI x r else x :: y :: r
theorem insI_perm (x : Int) : ∀ l, (insI x l).Perm (x :: l)
  | [] => List.Perm.refl _
  | y :: r => by
    unfold insI
    split
    · exact ((insI_perm x r).cons y).trans (List.Perm.swap x y r)
    · exact List.Perm.refl _
theorem insI_len (x : Int) (l : List Int) : (insI x l).length = l.length + 1 := by rw [(insI_perm x l).length_eq]; rfl
theorem insI_srtI (x : Int) : ∀ l, SrtI l → SrtI (insI x l)
  | [], _ => List.pairwise_singleton _ _
  | y :: r, h => by
    unfold insI
    split
    · rename_i hx
      refine List.Pairwise.cons ?_ (insI_srtI x r (List.Pairwise.of_cons h))
      intro z hz
      rcases List.mem_cons.1 ((insI_perm x r).subset hz) with rfl | hz
      · omega
      · exact List.rel_of_pairwise_cons h hz
    · rename_i hx
      refine List.Pairwise.cons ?_ h
      intro z hz
      rcases List.mem_cons.1 hz with rfl | hz
      · omega
      · have := List.rel_of_pairwise_cons h hz; omega
theorem srt_snocI (l : List Int) (x : Int) : srt (l ++ [x]) = insI x (srt l) := by
  refine srtI_unique _ _ (srt_srtI _) (insI_srtI x _ (srt_srtI l)) ?_
  refine (srt_perm _).trans (List.Perm.trans ?_ (insI_perm x _).symm)
  exact (List.perm_append_singleton x l).trans ((srt_perm l).symm.cons x)
theorem insI_at (x : Int) : ∀ (l : List Int) (q : Nat), (∀ i, i < q → l[i]! < x) → q ≤ l.length → (q < l.length → ¬ l[q]! < x) → insI x l = l.take q ++ [x] ++ l.drop q
  | [], q, _, hq, _ => by
    obtain rfl : q = 0 := by simpa using hq
    rfl
  | y :: r, 0, _, _, h => by
    have := h (by simp)
    simp only [List.getElem!_cons_zero] at this
    unfold insI
    rw [if_neg this]; rfl
  | y :: r, q + 1, h1, h2, h3 => by
    have h0 := h1 0 (by omega)
    simp only [List.getElem!_cons_zero] at h0
    unfold insI
    rw [if_pos h0, insI_at x r q (fun i hi => by have := h1 (i + 1) (by omega); simpa using this) (by simpa using h2) (fun hq => by have := h3 (by simpa using hq); simpa using this)]
    rfl
theorem news_take {w : World} {g cap : Nat} {l : List Int} (h : RdI w (.slice (some ⟨g, 0, none⟩) l.length cap) l) (q : Nat) : ∀ j u, ((l.take q).map (Value.int .i64))[j]? = some u → w.cell? ((⟨g, 0, none⟩ : Addr).add j) = some u := by
  intro j u hj
  rw [List.getElem?_map] at hj
  obtain ⟨y, hy, rfl⟩ := Option.map_eq_some_iff.1 hj
  obtain ⟨hjl, hy⟩ := List.getElem?_eq_some_iff.1 hy
  obtain ⟨a', c', e, ha⟩ := h
  cases e
  have hj' : j < l.length := by rw [List.length_take] at hjl; omega
  obtain ⟨b', o', e, hc⟩ := ha j hj'
  cases e
  rw [Addr.add_lit, hc, getElem!_pos l j hj', ← hy]; simp
theorem news_drop {w : World} {g cap : Nat} {l : List Int} (h : RdI w (.slice (some ⟨g, 0, none⟩) l.length cap) l) (q : Nat) : ∀ j u, ((l.drop q).map (Value.int .i64))[j]? = some u → w.cell? ((⟨g, q, none⟩ : Addr).add j) = some u := by
  intro j u hj
  rw [List.getElem?_map] at hj
  obtain ⟨y, hy, rfl⟩ := Option.map_eq_some_iff.1 hj
  obtain ⟨hjl, hy⟩ := List.getElem?_eq_some_iff.1 hy
  obtain ⟨a', c', e, ha⟩ := h
  cases e
  have hj' : q + j < l.length := by rw [List.length_drop] at hjl; omega
  obtain ⟨b', o', e, hc⟩ := ha (q + j) hj'
  cases e
  rw [Nat.zero_add] at hc
  rw [Addr.add_lit, hc, getElem!_pos l (q + j) hj', ← hy]; simp

theorem rwith_gb {w W w1 w2 : World} {o : Obj} {v1 : Value} {n : Nat} {xs : List Value} (G : Gb w W) (h1 : W.grownBy w1 (Value.ownBlock (.slice none 0 0))) (ho : w1.ownsRow w.heap.size 3 1 v1 n xs) (h2 : (w1.alloc o).grownBy w2 v1.ownBlock) : Gb w w2 := by
  have g1 : Gb w w1 := below_grown G h1 (fun k e => by cases e) G.size
  exact below_grown (gb_alloc g1 o) h2 (fun k e => (ho.lt k e).1) (gb_alloc g1 o).size
theorem rwith_fin {w w2 w3 : World} {v2 v3 : Value} {n m q : Nat} {xs : List Value} {x : Int} {l : List Int} (G : Gb w w2) (h3 : w3.ownsRow w.heap.size 3 1 v3 (n + m) ([] ++ (l.take q).map (Value.int .i64) ++ [.int .i64 x] ++ (l.drop q).map (Value.int .i64)))
    (h2 : w2.ownsRow w.heap.size 3 1 v2 n xs) (hg : w2.grownBy w3 v2.ownBlock) (hi : insI x l = l.take q ++ [x] ++ l.drop q) (hs : n + m = l.length + 1) : Own w3 w.heap.size v3 (insI x l) ∧ Gb w w3 := by
  refine ⟨?_, below_grown G hg (fun k e => (h2.lt k e).1) G.size⟩
  unfold Own
  rw [insI_len, ← hs, hi]
  simpa using h3

end Go.Proofs.YtbnljabeccebiabGreat

/- Plain facts on distances: both ways the same, nought just of a list and itself, the way round by a third one. -/
namespace Go.Proofs.YtbnljabeccebiabGreat

theorem gap_abs (x y : Int) : gap x x y = (x - y).natAbs := by unfold gap; split <;> (try split) <;> omega
theorem gap_comm (x y : Int) : gap x x y = gap y y x := by rw [gap_abs, gap_abs]; omega
theorem gap_move (x y n : Int) : gap (x + n) (x + n) (y + n) = gap x x y := by rw [gap_abs, gap_abs]; omega
theorem gap_two (x y : Int) : gap (2 * x) (2 * x) (2 * y) = 2 * gap x x y := by rw [gap_abs, gap_abs]; omega
theorem sumN_ext {f g : Nat → Nat} {n : Nat} (h : ∀ i, i < n → f i = g i) : sumN f n = sumN g n := by
  induction n with
  | zero => rfl
  | succ n ih => simp only [sumN]; rw [ih (fun i hi => h i (by omega)), h n (by omega)]
theorem sumN_mono {f g : Nat → Nat} {n : Nat} (h : ∀ i, i < n → f i ≤ g i) : sumN f n ≤ sumN g n := by
  induction n with
  | zero => exact Nat.le_refl _
  | succ n ih =>
    have := ih (fun i hi => h i (by omega))
    have := h n (by omega)
    simp only [sumN]; omega
theorem sumN_zero {f : Nat → Nat} {n : Nat} (h : sumN f n = 0) {i : Nat} (hi : i < n) : f i = 0 := by
  induction n with
  | zero => omega
  | succ n ih =>
    simp only [sumN] at h
    by_cases e : i = n
    · subst e; omega
    · exact ih (by omega) (by omega)
theorem sumN_mul (f : Nat → Nat) (c n : Nat) : sumN (fun i => c * f i) n = c * sumN f n := by
  induction n with
  | zero => rfl
  | succ n ih => simp only [sumN]; rw [ih, Nat.mul_add]
theorem sumN_add (f g : Nat → Nat) (n : Nat) : sumN (fun i => f i + g i) n = sumN f n + sumN g n := by
  induction n with
  | zero => rfl
  | succ n ih => simp only [sumN]; rw [ih]; omega
theorem dst_comm {a b : List Int} (h : a.length = b.length) : dst a b = dst b a := by
  unfold dst; rw [h]
  exact sumN_ext (fun i _ => by rw [gap_comm])
theorem dst_zero {a b : List Int} (h : a.length = b.length) : dst a b = 0 ↔ a = b := by
  constructor
  · intro h0
    apply List.ext_getElem h
    intro i h1 h2
    have h3 := sumN_zero h0 h1
    have h4 : gap a[i]! a[i]! b[i]! = 0 := by
      rcases Nat.mul_eq_zero.1 h3 with h | h <;> exact h
    rw [gap_abs, getElem!_pos a i h1, getElem!_pos b i h2] at h4
    omega
  · rintro rfl
    unfold dst
    have : sumN (fun i => gap a[i]! a[i]! a[i]! * gap a[i]! a[i]! a[i]!) a.length = sumN (fun _ => 0) a.length := sumN_ext (fun i _ => by rw [gap_abs]; simp)
    rw [this]
    have h2 := sumN_le (fun _ => 0) 0 a.length (fun _ _ => Nat.le_refl _)
    omega
/-- One coordinate of the way round. -/
theorem tri_one (x y z : Int) (t u : Nat) : t * u * (gap x x z * gap x x z) ≤ u * (t + u) * (gap x x y * gap x x y) + t * (t + u) * (gap y y z * gap y y z) := by
  rw [gap_abs, gap_abs, gap_abs]
  have e1 : ((x - z).natAbs : Int) * ((x - z).natAbs : Int) = (x - z) * (x - z) := by rw [Int.natAbs_mul_self' (x - z)]
  have e2 : ((x - y).natAbs : Int) * ((x - y).natAbs : Int) = (x - y) * (x - y) := by rw [Int.natAbs_mul_self' (x - y)]
  have e3 : ((y - z).natAbs : Int) * ((y - z).natAbs : Int) = (y - z) * (y - z) := by rw [Int.natAbs_mul_self' (y - z)]
  apply Int.ofNat_le.1
  simp only [Int.natCast_mul, Int.natCast_add]
  rw [e1, e2, e3]
  have h : 0 ≤ ((u : Int) * (x - y) - (t : Int) * (y - z)) * ((u : Int) * (x - y) - (t : Int) * (y - z)) := by
    rcases Int.le_total 0 ((u : Int) * (x - y) - (t : Int) * (y - z)) with h | h
    · exact Int.mul_nonneg h h
    · exact Int.mul_nonneg_of_nonpos_of_nonpos h h
  have h2 : (t : Int) * u * ((x - z) * (x - z)) + ((u : Int) * (x - y) - (t : Int) * (y - z)) * ((u : Int) * (x - y) - (t : Int) * (y - z)) = (u : Int) * (t + u) * ((x - y) * (x - y)) + (t : Int) * (t + u) * ((y - z) * (y - z)) := by
    grind
  omega
theorem tri_sum (a b c : List Int) (hab : a.length = b.length) (t u : Nat) : t * u * dst a c ≤ u * (t + u) * dst a b + t * (t + u) * dst b c := by
  unfold dst
  rw [← hab, ← sumN_mul, ← sumN_mul, ← sumN_mul, ← sumN_add]
  exact sumN_mono (fun i _ => tri_one _ _ _ t u)
/-- If a and b are nearer than t, b and c nearer than u, then a and c are nearer than both. -/
theorem tri_lt {a b c : List Int} (hab : a.length = b.length) {t u : Nat} (h1 : dst a b ≤ t * t) (h2 : dst b c < u * u) : dst a c < (t + u) * (t + u) := by
  by_cases ht : t = 0
  · subst ht
    have hA : dst a b = 0 := by omega
    have h := tri_sum a b c hab 1 (dst b c + 1)
    rw [hA] at h
    apply Nat.lt_of_le_of_lt _ (show dst b c < (0 + u) * (0 + u) by simpa using h2)
    apply Nat.le_of_not_lt
    intro hc
    have h3 : (dst b c + 1) * (dst b c + 1) ≤ (dst b c + 1) * dst a c := Nat.mul_le_mul_left _ hc
    simp only [Nat.one_mul, Nat.mul_zero, Nat.zero_add] at h
    have h4 : (dst b c + 1) * (dst b c + 1) ≤ (1 + (dst b c + 1)) * dst b c := Nat.le_trans h3 h
    rw [Nat.add_mul 1, Nat.mul_add] at h4
    omega
  · have hu : u ≠ 0 := by rintro rfl; simp at h2
    have h := tri_sum a b c hab t u
    have k1 : u * (t + u) * dst a b ≤ u * (t + u) * (t * t) := Nat.mul_le_mul_left _ h1
    have k2 : t * (t + u) * dst b c < t * (t + u) * (u * u) := Nat.mul_lt_mul_of_pos_left h2 (Nat.mul_pos (by omega) (by omega))
    have k3 : u * (t + u) * (t * t) + t * (t + u) * (u * u) = t * u * ((t + u) * (t + u)) := by grind
    exact Nat.lt_of_mul_lt_mul_left (a := t * u) (by omega)
/-- A ball's bound. -/
theorem ball_bound {l v q : List Int} (hlv : l.length = v.length) {R : Nat} (h : dst l v ≤ R) : ballV (dst l q) R ≤ dst v q := by
  unfold ballV
  split
  · exact Nat.zero_le _
  · rename_i h0
    apply Nat.le_of_not_lt
    intro hc
    have hR : R ≤ rup R * rup R := by
      unfold rup; split
      · rename_i e; omega
      · have := (rt_is R).2; omega
    have hu : rup R < rt (dst l q) := by
      apply Nat.lt_of_not_le; intro hle
      rw [Nat.sub_eq_zero_of_le hle] at hc; simp at hc
    have := tri_lt (c := q) hlv (t := rup R) (u := rt (dst l q) - rup R) (by omega) hc
    rw [Nat.add_sub_cancel' (by omega)] at this
    have := (rt_is (dst l q)).1
    omega
theorem gap_out {l h x y : Int} (h1 : gap l h x = 0) : gap l h y ≤ gap x x y := by
  unfold gap at *; split at h1 <;> (try split at h1) <;> split <;> (try split) <;> (try split) <;> (try split) <;> omega
/-- THE BOUND: whatever lies in a region is at least as far away. -/
theorem bound_le {r : Reg} {v q : List Int} (h1 : ckB r v = 0) (h2 : ckB r q = 0) (hin : inV r v = true) : bdV r q ≤ dst v q := by
  unfold bdV
  unfold inV at hin
  split
  · rename_i s
    rw [if_pos s] at hin
    obtain ⟨a1, a2, a3, a4, a5, a6, a7⟩ := box_ok h1 s
    obtain ⟨b1, b2, b3, b4, b5, b6, b7⟩ := box_ok h2 s
    have h0 : bx r.L r.H v = 0 := by simpa using hin
    have e : v.length = q.length := by omega
    unfold bx bxN at h0 ⊢
    unfold dst
    rw [e] at h0 ⊢
    refine sumN_mono (fun i hi => ?_)
    have h3 := sumN_zero h0 hi
    have h4 : gap r.L[i]! r.H[i]! v[i]! = 0 := by
      rcases Nat.mul_eq_zero.1 h3 with h | h <;> exact h
    exact Nat.mul_le_mul (gap_out h4) (gap_out h4)
  · rename_i s
    rw [if_neg s] at hin
    split
    · rename_i s3
      rw [if_pos s3] at hin
      obtain ⟨a1, _⟩ := ball_ok h1 s3
      exact ball_bound a1 (by simpa using hin)
    · exact Nat.zero_le _
/-- The way round by a third vector, in roots. -/
theorem root_tri {a b c : List Int} (hab : a.length = b.length) : rt (dst a c) ≤ rt (dst a b) + rt (dst b c) + 1 := by
  apply Nat.le_of_not_lt; intro hc
  have h1 := (rt_is (dst a b)).2
  have h2 := (rt_is (dst b c)).2
  have h3 := (rt_is (dst a c)).1
  have h4 := tri_lt (c := c) hab (Nat.le_of_lt h1) h2
  have h5 := sq_le (show rt (dst a b) + 1 + (rt (dst b c) + 1) ≤ rt (dst a c) by omega)
  omega
end Go.Proofs.YtbnljabeccebiabGreat
