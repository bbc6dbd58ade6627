import Derived.Test.YtbnljabeccebiaaGreatKrReg
import Derived.Test.YtbnljabeccebiaaGreatKr8
import Derived.Test.YtbnljabeccebiaaGreatKrBoxB
import Derived.Test.YtbnljabeccebiaaGreatKr3
import Derived.Laws.AppendOwnNone
/- Roots; vec.ballBound. -/
namespace Go.Proofs.YtbnljabeccebiaaGreat
open Go.RowKit

/-- The greatest number up to n whose square is not above a. -/
def rtTo (a : Nat) : Nat → Nat
  | 0 => 0
  | n + 1 => if (n + 1) * (n + 1) ≤ a then n + 1 else rtTo a n
def rt (a : Nat) : Nat := rtTo a a
theorem rtTo_is (a : Nat) : ∀ n, a < (n + 1) * (n + 1) → IsRoot a (rtTo a n)
  | 0, h => ⟨Nat.zero_le _, by simpa [rtTo] using h⟩
  | n + 1, h => by
    unfold rtTo
    split
    · rename_i h1; exact ⟨h1, h⟩
    · rename_i h1; exact rtTo_is a n (by omega)
theorem rt_is (a : Nat) : IsRoot a (rt a) := rtTo_is a a (by
  have : (a + 1) * 1 ≤ (a + 1) * (a + 1) := Nat.mul_le_mul_left _ (by omega)
  omega)
theorem root_le {a r s : Nat} (h1 : IsRoot a r) (h2 : IsRoot a s) : s ≤ r := by
  apply Nat.le_of_not_lt; intro hc
  have := sq_le (show r + 1 ≤ s by omega)
  have := h1.2; have := h2.1; omega
theorem root_one {a r : Nat} (h : IsRoot a r) : r = rt a := Nat.le_antisymm (root_le (rt_is a) h) (root_le h (rt_is a))
theorem rt_lt {a : Nat} (ha : a < 340282366920938463463374607431768211456) : rt a < 18446744073709551616 := by
  apply Nat.lt_of_not_le; intro hc
  have := sq_le hc
  have := (rt_is a).1; omega
theorem sqrt_c (a : Nat) (ha : a < 340282366920938463463374607431768211456) (w : World) :
    Calls Tryz.prog 148 #[Wd a] w fun e w' => e = .returned (.int .u64 (rt a : Int)) ∧ Gr w w' := by
  refine (sqrt_any a ha w).mono ?_
  rintro e w' ⟨r, rfl, _, hr, g⟩
  rw [root_one hr]; exact ⟨rfl, g⟩

/-- The least number whose square is not below R. -/
def rup (R : Nat) : Nat := if rt R * rt R = R then rt R else rt R + 1
/-- The bound of a ball: a the distance from its centre. -/
def ballV (a R : Nat) : Nat := if rt a ≤ rt R then 0 else (rt a - rup R) * (rt a - rup R)

theorem wd_ne (a b : Nat) (r : Bool) (h : (!decide (a = b)) = r) (W : World) : (binOp .neq 66 (.agg #[.int .u64 (hi a), .int .u64 (lo a)]) (.agg #[.int .u64 (hi b), .int .u64 (lo b)])).run Tryz.prog W = .ok (.bool r) W := by
  subst h
  have h1 := wd_eq a b W
  rw [run_eql_struct] at h1
  rw [run_neq_struct]
  revert h1
  generalize (Op.equalIn 10000 66 (Wd a) (Wd b)).run Tryz.prog W = x
  intro h1
  cases x with
  | ok v w' =>
    simp only [Result.andThen] at h1 ⊢
    injection h1 with h2 h3
    injection h2 with h4
    rw [h3, h4]
  | _ => simp [Result.andThen] at h1

set_option maxHeartbeats 4000000 in
set_option maxRecDepth 100000 in
theorem ballBound_c {w : World} {v u : Value} {r : Reg} {a : List Int} (hv : RdR w v r) (hu : RdI w u a) (hl : r.L.length = a.length) (hn : r.L.length ≤ 64) (rl : allR r.L = true) (ra : allR a = true) (hR : r.R < 340282366920938463463374607431768211456) :
    Calls Tryz.prog 102 #[v, u] w fun e w' => e = .returned (Wd (ballV (dst r.L a) r.R)) ∧ Gr w w' := by
  have HV : Hid (RdR w v r) := hv
  obtain ⟨vl, vh, vi, rfl, hL, hH, hI⟩ := hv
  have RA : Hid (RegAt (w.alloc (rc r vl vh vi)) w.heap.size r vl vh vi) := RegAt.new w r vl vh vi
  have G00 : Gr w (w.alloc (rc r vl vh vi)) := (Gr.refl _).alloc _ _
  have G0 : Gr w ((w.alloc (rc r vl vh vi)).alloc (.cells #[.int .u64 0, .int .u64 0] 66)) := G00.alloc _ _
  have c1 := distance_c (hL.gb G0.gb) (hu.gb G0.gb) hl hn rl ra
  have c2 := fun W => sqrt_c (dst r.L a) (dst_lt rl ra hl hn) W
  have c3 := fun W => sqrt_c r.R hR W
  have l1 := rt_lt (dst_lt rl ra hl hn)
  have l2 := rt_lt hR
  have l3 := (rt_is (dst r.L a)).1
  have l4 := dst_lt rl ra hl hn
  clear hH hI HV hl hn rl ra
  obtain ⟨S, L, H, R, I⟩ := r
  dsimp only at *
  obtain ⟨pl, cl, rfl, _⟩ := hL
  obtain ⟨pa, ca, rfl, _⟩ := hu
  generalize L.length = nl at *
  generalize a.length = na at *
  have E : Hid (ballV (dst L a) R = if rt (dst L a) ≤ rt R then 0 else (rt (dst L a) - rup R) * (rt (dst L a) - rup R)) := rfl
  generalize ballV (dst L a) R = res at *
  generalize dst L a = D at *
  have E2 : Hid (rup R = if rt R * rt R = R then rt R else rt R + 1) := rfl
  generalize rt D = s at *
  generalize rup R = t' at *
  generalize rt R = t at *
  clear l3 l4
  have W0 : Hid (Gr (w.alloc (.cells #[.int .i64 S, .slice pl nl cl, vh, .int .u64 (hi R), .int .u64 (lo R), vi] 101)) ((w.alloc (.cells #[.int .i64 S, .slice pl nl cl, vh, .int .u64 (hi R), .int .u64 (lo R), vi] 101)).alloc (.cells #[.int .u64 0, .int .u64 0] 66))) := (Gr.refl _).alloc _ _
  go_enter Tryz.func102, Tryz.ntmps102
  go_wp2_with fail
  refine c1.mono ?_
  rintro e w1 ⟨rfl, g1⟩
  go_wp2_with fail
  refine (c2 _).mono ?_
  rintro e w2 ⟨rfl, g2⟩
  have g2 := g1.trans g2
  obtain ⟨_, _, _, q3, q4, _⟩ := RA.out.gb (W0.out.trans g2).gb
  dsimp only at q3 q4
  go_wp2_with fail
  refine (c3 _).mono ?_
  rintro e w3 ⟨rfl, g3⟩
  have G3 := g2.trans g3
  have VV := G3.var2
  simp only [World.size_alloc] at VV
  obtain ⟨v0, v1, v2, v3⟩ := VV
  clear c1 c2 c3 g1 g2 g3 q3 q4
  by_cases hst : s ≤ t
  · rw [if_pos hst] at E
    have e := E.out
    subst e
    have hst' : (s : Int) ≤ (t : Int) := by omega
    clear E E2 hst
    go_wp2
    exact bodyPost_ret (v := Wd 0) (by simp [results, Tryz.results102, go_sem, v0, v1, hi, lo]) rfl ⟨rfl, by repeat (first | exact G0.trans G3 | refine Gr.setCell ?_ (by simp) _)⟩
  · rw [if_neg hst] at E
    have hst' : ¬ (s : Int) ≤ (t : Int) := by omega
    obtain ⟨_, _, _, q3, q4, _⟩ := RA.out.gb (W0.out.trans G3).gb
    dsimp only at q3 q4
    have cm := fun W => mul_any t t l2 l2 W
    have reg : ∀ r' : Bool, (!decide (t * t = R)) = r' → Hid ((!decide (t * t = R)) = r') := fun _ h => h
    by_cases ht : t * t = R
    · have hne := fun W => wd_ne (t * t) R false (by simp [ht]) W
      rw [if_pos ht] at E2
      have e := E2.out
      subst e
      have cs := fun W => mul_int ((s : Int) - (t' : Int)) ((s : Int) - (t' : Int)) (by omega) (by omega) (by omega) (by omega) W
      have E3 : Hid (((s : Int) - (t' : Int)).toNat * ((s : Int) - (t' : Int)).toNat = res) := by unfold Hid; rw [E.out]; congr 1 <;> omega
      rw [E3.out] at cs
      have b1 : 0 ≤ (s : Int) - (t' : Int) := by omega
      have b2 : (s : Int) - (t' : Int) < 18446744073709551616 := by omega
      clear E E2 E3 hst ht reg
      go_wp2
      go_region_held3 (fun w' => w'.cell? ⟨w.heap.size, 3, none⟩ = some (.int .u64 (hi R)) ∧ w'.cell? ⟨w.heap.size, 4, none⟩ = some (.int .u64 (lo R))) (first | (with_reducible exact call_keeps2 (by assumption) (by assumption)) | exact ⟨q3, q4⟩)
        (first
          | (go_at_call 150; refine (cm _).mono ?_; rintro e w4 ⟨rfl, g4⟩))
      all_goals
        have G4 := G3.drew.trans g4
        go_wp2_with fail
        refine (cs _).mono ?_
        rintro e w5 ⟨rfl, g5⟩
        have G5 := G4.trans g5
        have VV := G5.var2
        simp only [World.size_alloc] at VV
        obtain ⟨u0, u1, u2, u3⟩ := VV
        go_wp2
        exact bodyPost_ret (v := Wd res) (by simp [results, Tryz.results102, go_sem, u0, u1]) rfl ⟨rfl, by repeat (first | exact G0.trans G5 | refine Gr.setCell ?_ (by simp) _)⟩
    · have hne := fun W => wd_ne (t * t) R true (by simp [ht]) W
      rw [if_neg ht] at E2
      have e := E2.out
      have T1 : Hid ((t : Int) + 1 = (t' : Int)) := by unfold Hid; omega
      have cs := fun W => mul_int ((s : Int) - (t' : Int)) ((s : Int) - (t' : Int)) (by omega) (by omega) (by omega) (by omega) W
      have E3 : Hid (((s : Int) - (t' : Int)).toNat * ((s : Int) - (t' : Int)).toNat = res) := by unfold Hid; rw [E.out]; congr 1 <;> omega
      rw [E3.out] at cs
      have BB : Hid (0 ≤ (s : Int) - (t' : Int) ∧ (s : Int) - (t' : Int) < 18446744073709551616) := ⟨by omega, by omega⟩
      clear e
      clear E E2 E3 hst ht reg
      go_wp2
      go_region_held3 (fun w' => w'.cell? ⟨w.heap.size, 3, none⟩ = some (.int .u64 (hi R)) ∧ w'.cell? ⟨w.heap.size, 4, none⟩ = some (.int .u64 (lo R))) (first | (with_reducible exact call_keeps2 (by assumption) (by assumption)) | exact ⟨q3, q4⟩)
        (first
          | (go_at_call 150; refine (cm _).mono ?_; rintro e w4 ⟨rfl, g4⟩))
      all_goals
        have G4 := G3.drew.trans g4
        have T2 := T1.out
        obtain ⟨b1, b2⟩ := BB.out
        go_wp2_with fail
        refine (cs _).mono ?_
        rintro e w5 ⟨rfl, g5⟩
        have G5 := G4.trans g5
        have VV := G5.var2
        simp only [World.size_alloc] at VV
        obtain ⟨u0, u1, u2, u3⟩ := VV
        go_wp2
        exact bodyPost_ret (v := Wd res) (by simp [results, Tryz.results102, go_sem, u0, u1]) rfl ⟨rfl, by repeat (first | exact G0.trans G5 | refine Gr.setCell ?_ (by simp) _)⟩
end Go.Proofs.YtbnljabeccebiaaGreat

/- vec.Inside and vec.Bound. -/
namespace Go.Proofs.YtbnljabeccebiaaGreat
open Go.RowKit

/-- Does a vector lie in a region? Both may be. -/
def inV (r : Reg) (a : List Int) : Bool := if r.S = 2 then decide (bx r.L r.H a = 0) else if r.S = 3 then decide (dst r.L a ≤ r.R) else true
/-- How near it may be. -/
def bdV (r : Reg) (a : List Int) : Nat := if r.S = 2 then bx r.L r.H a else if r.S = 3 then ballV (dst r.L a) r.R else 0
theorem ckB_ok {r : Reg} {a : List Int} (h : ckB r a = 0) : ckR r a.length = 0 ∧ chk a a.length = 0 := by
  unfold ckB at h; split at h
  · rename_i h1; exact ⟨h1, h⟩
  · rename_i h1; exact absurd h h1
theorem ckR_ok {r : Reg} {d : Int} (h : ckR r d = 0) : (r.S = 2 → cornE r.L r.H d = 0) ∧ (r.S = 3 → chk r.L d = 0) ∧ uses r = true ∧ rise r.I = true := by
  unfold ckR at h; split at h
  · split at h
    · rename_i h2
      refine ⟨fun e => ?_, fun e => ?_, h2⟩
      · rw [if_pos e] at h; exact h
      · rw [if_neg (by omega), if_pos e] at h; exact h
    · cases h
  · cases h
theorem cornE_ok {l h : List Int} {d : Int} (k : cornE l h d = 0) : chk l d = 0 ∧ chk h d = 0 ∧ below l h l.length = true := by
  unfold cornE at k; split at k
  · rename_i h1
    split at k
    · rename_i h2
      split at k
      · rename_i h3; exact ⟨h1, h2, h3⟩
      · cases k
    · rename_i h2; exact absurd k h2
  · rename_i h1; exact absurd k h1
/-- What a box and a vector that may be are. -/
theorem box_ok {r : Reg} {a : List Int} (h : ckB r a = 0) (s : r.S = 2) : r.L.length = a.length ∧ r.H.length = a.length ∧ a.length ≤ 64 ∧ allR r.L = true ∧ allR r.H = true ∧ allR a = true ∧ below r.L r.H a.length = true := by
  obtain ⟨h1, h2⟩ := ckB_ok h
  obtain ⟨h3, h4, h5⟩ := cornE_ok ((ckR_ok h1).1 s)
  obtain ⟨a1, a2, a3, a4⟩ := chk_ok h3
  obtain ⟨b1, b2, b3, b4⟩ := chk_ok h4
  obtain ⟨c1, c2, c3, c4⟩ := chk_ok h2
  have e1 : r.L.length = a.length := by omega
  rw [e1] at h5
  exact ⟨e1, by omega, c2, a4, b4, c4, h5⟩
theorem ball_ok {r : Reg} {a : List Int} (h : ckB r a = 0) (s : r.S = 3) : r.L.length = a.length ∧ r.L.length ≤ 64 ∧ allR r.L = true ∧ allR a = true := by
  obtain ⟨h1, h2⟩ := ckB_ok h
  obtain ⟨a1, a2, a3, a4⟩ := chk_ok ((ckR_ok h1).2.1 s)
  obtain ⟨c1, c2, c3, c4⟩ := chk_ok h2
  exact ⟨by omega, a2, a4, c4⟩
/-- What Inside answers. -/
def insV (r : Reg) (a : List Int) : Bool := decide (ckB r a = 0) && inV r a
/-- What Bound answers. -/
def bndV (r : Reg) (a : List Int) : Nat := if ckB r a = 0 then bdV r a else 0
set_option maxHeartbeats 4000000 in
set_option maxRecDepth 100000 in
theorem bound_c {w : World} {v u : Value} {r : Reg} {a : List Int} (hv : RdR w v r) (hu : RdI w u a) (hlen : r.I.length ≤ 4611686018427387904) (hR : r.R < 340282366920938463463374607431768211456) :
    Calls Tryz.prog 66 #[v, u] w fun e w' => e = .returned (.tuple #[Wd (bndV r a), .int .i64 (ckB r a)]) ∧ Gr w w' := by
  have HV : Hid (RdR w v r) := hv
  obtain ⟨vl, vh, vi, rfl, hL, hH, hI⟩ := hv
  have RA : Hid (RegAt (w.alloc (rc r vl vh vi)) w.heap.size r vl vh vi) := RegAt.new w r vl vh vi
  have G00 : Gr w (w.alloc (rc r vl vh vi)) := (Gr.refl _).alloc _ _
  have G01 : Gr (w.alloc (rc r vl vh vi)) ((w.alloc (rc r vl vh vi)).alloc (.cells #[.int .u64 0, .int .u64 0] 66)) := (Gr.refl _).alloc _ _
  have G0 := G00.trans G01
  have C1 := fun x hx => checkBoth_v (HV.out.gb G0.gb) (hu.gb G0.gb) hlen x hx
  by_cases h0 : ckB r a = 0
  · have c1 := C1 _ h0
    have E : Hid (bndV r a = bdV r a) := by unfold Hid bndV; rw [if_pos h0]
    rw [E.out, h0]
    clear C1 E
    have E : Hid (bdV r a = if r.S = 2 then bx r.L r.H a else if r.S = 3 then ballV (dst r.L a) r.R else 0) := rfl
    generalize bdV r a = res at *
    by_cases s2 : r.S = 2
    · obtain ⟨k1, k2, k3, k4, k5, k6, k7⟩ := box_ok h0 s2
      rw [if_pos s2] at E
      have c2 := fun W' (g : Gr ((w.alloc (rc r vl vh vi)).alloc (.cells #[.int .u64 0, .int .u64 0] 66)) W') => boxBound_c (HV.out.gb (G0.trans g).gb) (hu.gb (G0.trans g).gb) k1 k2 k3 k4 k5 k6
      rw [← E.out] at c2
      obtain ⟨pa, ca, rfl, _⟩ := hu
      clear HV hL hH hI h0 k1 k2 k3 k4 k5 k6 k7 hlen hR E
      obtain ⟨S, L, H, R, I⟩ := r
      dsimp only at *
      subst s2
      generalize a.length = na at *
      go_enter Tryz.func66, Tryz.ntmps66
      go_wp2_with fail
      refine c1.mono ?_
      rintro e w1 ⟨rfl, g1⟩
      obtain ⟨q0, q1, q2, q3, q4, q5⟩ := RA.out.gb (G01.trans g1).gb
      dsimp only at q0 q1 q2 q3 q4 q5
      go_wp2_with fail
      refine (c2 _ g1).mono ?_
      rintro e w2 ⟨rfl, g2⟩
      have G2 := g1.trans g2
      have VV := G2.var2
      simp only [World.size_alloc] at VV
      obtain ⟨v0, v1, v2, v3⟩ := VV
      go_wp2
      exact bodyPost_ret (v := .tuple #[Wd res, .int .i64 0]) (by simp [results, Tryz.results66, go_sem, v0, v1]) rfl ⟨rfl, by repeat (first | exact G0.trans G2 | refine Gr.setCell ?_ (by simp) _)⟩
    · have s2' : (r.S == 2) = false := by rw [beq_eq_false_iff_ne]; exact s2
      rw [if_neg s2] at E
      by_cases s3 : r.S = 3
      · obtain ⟨k1, k2, k3, k4⟩ := ball_ok h0 s3
        rw [if_pos s3] at E
        have c2 := fun W' (g : Gr ((w.alloc (rc r vl vh vi)).alloc (.cells #[.int .u64 0, .int .u64 0] 66)) W') => ballBound_c (HV.out.gb (G0.trans g).gb) (hu.gb (G0.trans g).gb) k1 k2 k3 k4 hR
        rw [← E.out] at c2
        obtain ⟨pa, ca, rfl, _⟩ := hu
        clear HV hL hH hI h0 k1 k2 k3 k4 hlen hR E s2 s2'
        obtain ⟨S, L, H, R, I⟩ := r
        dsimp only at *
        subst s3
        generalize a.length = na at *
        go_enter Tryz.func66, Tryz.ntmps66
        go_wp2_with fail
        refine c1.mono ?_
        rintro e w1 ⟨rfl, g1⟩
        obtain ⟨q0, q1, q2, q3, q4, q5⟩ := RA.out.gb (G01.trans g1).gb
        dsimp only at q0 q1 q2 q3 q4 q5
        go_wp2_with fail
        refine (c2 _ g1).mono ?_
        rintro e w2 ⟨rfl, g2⟩
        have G2 := g1.trans g2
        have VV := G2.var2
        simp only [World.size_alloc] at VV
        obtain ⟨v0, v1, v2, v3⟩ := VV
        go_wp2
        exact bodyPost_ret (v := .tuple #[Wd res, .int .i64 0]) (by simp [results, Tryz.results66, go_sem, v0, v1]) rfl ⟨rfl, by repeat (first | exact G0.trans G2 | refine Gr.setCell ?_ (by simp) _)⟩
      · have s3' : (r.S == 3) = false := by rw [beq_eq_false_iff_ne]; exact s3
        rw [if_neg s3] at E
        have e := E.out
        subst e
        obtain ⟨pa, ca, rfl, _⟩ := hu
        clear HV hL hH hI h0 hlen hR E s2 s3
        obtain ⟨S, L, H, R, I⟩ := r
        dsimp only at *
        generalize a.length = na at *
        go_enter Tryz.func66, Tryz.ntmps66
        go_wp2_with fail
        refine c1.mono ?_
        rintro e w1 ⟨rfl, g1⟩
        obtain ⟨q0, q1, q2, q3, q4, q5⟩ := RA.out.gb (G01.trans g1).gb
        dsimp only at q0 q1 q2 q3 q4 q5
        have VV := g1.var2
        simp only [World.size_alloc] at VV
        obtain ⟨v0, v1, v2, v3⟩ := VV
        go_wp2
        exact bodyPost_ret (v := .tuple #[Wd 0, .int .i64 0]) (by simp [results, Tryz.results66, go_sem, v0, v1, hi, lo]) rfl ⟨rfl, by repeat (first | exact G0.trans g1 | refine Gr.setCell ?_ (by simp) _)⟩
  · have c1 := C1 _ rfl
    have E : bndV r a = 0 := by unfold bndV; rw [if_neg h0]
    have h1 : (ckB r a == 0) = false := by rw [beq_eq_false_iff_ne]; exact h0
    rw [E]
    obtain ⟨pa, ca, rfl, _⟩ := hu
    clear C1 E HV hL hH hI hlen hR h0
    generalize ckB r a = res at *
    obtain ⟨S, L, H, R, I⟩ := r
    generalize a.length = na at *
    go_enter Tryz.func66, Tryz.ntmps66
    go_wp2_with fail
    refine c1.mono ?_
    rintro e w1 ⟨rfl, g1⟩
    have VV := g1.var2
    simp only [World.size_alloc] at VV
    obtain ⟨v0, v1, v2, v3⟩ := VV
    go_wp2
    exact bodyPost_ret (v := .tuple #[Wd 0, .int .i64 res]) (by simp [results, Tryz.results66, go_sem, v0, v1, hi, lo]) rfl ⟨rfl, by repeat (first | exact G0.trans g1 | refine Gr.setCell ?_ (by simp) _)⟩
end Go.Proofs.YtbnljabeccebiaaGreat

/- The reference's With: a rising list with one more. -/
namespace Go.Proofs.YtbnljabeccebiaaGreat
open Go.RowKit Go.Sort Go.Maps

def SrtI (l : List Int) : Prop := l.Pairwise fun x y => x ≤ y
theorem srt_perm (l : List Int) : (srt l).Perm l := List.mergeSort_perm l _
theorem srt_srtI (l : List Int) : SrtI (srt l) := by
  have h := List.pairwise_mergeSort (le := fun x y : Int => decide (x ≤ y)) (fun a b c h1 h2 => by
    simp only [decide_eq_true_eq] at *; omega) (fun a b => by
    by_cases h : a ≤ b
    · simp [h]
    · have : b ≤ a := by omega
      simp [this]) l
  exact h.imp (fun h => by simpa using h)
theorem srtI_unique : ∀ (l l' : List Int), SrtI l → SrtI l' → l.Perm l' → l = l'
  | [], l', _, _, p => (List.Perm.nil_eq p)
  | a :: r, [], _, _, p => absurd p.length_eq (by simp)
  | a :: r, b :: r', h, h', p => by
    have hb : b ∈ a :: r := p.symm.subset List.mem_cons_self
    have ha : a ∈ b :: r' := p.subset List.mem_cons_self
    have e : a = b := by
      rcases List.mem_cons.1 hb with e | hb
      · exact e.symm
      rcases List.mem_cons.1 ha with e | ha
      · exact e
      have h1 := List.rel_of_pairwise_cons h hb
      have h2 := List.rel_of_pairwise_cons h' ha
      omega
    subst e
    rw [srtI_unique r r' (List.Pairwise.of_cons h) (List.Pairwise.of_cons h') (List.Perm.cons_inv p)]
def insI (x : Int) : List Int → List Int
  | [] => [x]
  | y :: r => if y < x then y :: insI x r else x :: y :: r
theorem insI_perm (x : Int) : ∀ l, (insI x l).Perm (x :: l)
  | [] => List.Perm.refl _
  | y :: r => by
    unfold insI
    split
    · exact ((insI_perm x r).cons y).trans (List.Perm.swap x y r)
    · exact List.Perm.refl _
theorem insI_len (x : Int) (l : List Int) : (insI x l).length = l.length + 1 := by rw [(insI_perm x l).length_eq]; rfl
theorem insI_srtI (x : Int) : ∀ l, SrtI l → SrtI (insI x l)
  | [], _ => List.pairwise_singleton _ _
  | y :: r, h => by
    unfold insI
    split
    · rename_i hx
      refine List.Pairwise.cons ?_ (insI_srtI x r (List.Pairwise.of_cons h))
      intro z hz
      rcases List.mem_cons.1 ((insI_perm x r).subset hz) with rfl | hz
      · omega
      · exact List.rel_of_pairwise_cons h hz
    · rename_i hx
      refine List.Pairwise.cons ?_ h
      intro z hz
      rcases List.mem_cons.1 hz with rfl | hz
      · omega
      · have := List.rel_of_pairwise_cons h hz; omega
theorem srt_snocI (l : List Int) (x : Int) : srt (l ++ [x]) = insI x (srt l) := by
  refine srtI_unique _ _ (srt_srtI _) (insI_srtI x _ (srt_srtI l)) ?_
  refine (srt_perm _).trans (List.Perm.trans ?_ (insI_perm x _).symm)
  exact (List.perm_append_singleton x l).trans ((srt_perm l).symm.cons x)
theorem insI_at (x : Int) : ∀ (l : List Int) (q : Nat), (∀ i, i < q → l[i]! < x) → q ≤ l.length → (q < l.length → ¬ l[q]! < x) → insI x l = l.take q ++ [x] ++ l.drop q
  | [], q, _, hq, _ => by
    obtain rfl : q = 0 := by simpa using hq
    rfl
  | y :: r, 0, _, _, h => by
    have := h (by simp)
    simp only [List.getElem!_cons_zero] at this
    unfold insI
    rw [if_neg this]; rfl
  | y :: r, q + 1, h1, h2, h3 => by
    have h0 := h1 0 (by omega)
    simp only [List.getElem!_cons_zero] at h0
    unfold insI
    rw [if_pos h0, insI_at x r q (fun i hi => by have := h1 (i + 1) (by omega); simpa using this) (by simpa using h2) (fun hq => by have := h3 (by simpa using hq); simpa using this)]
    rfl
theorem news_take {w : World} {g cap : Nat} {l : List Int} (h : RdI w (.slice (some ⟨g, 0, none⟩) l.length cap) l) (q : Nat) : ∀ j u, ((l.take q).map (Value.int .i64))[j]? = some u → w.cell? ((⟨g, 0, none⟩ : Addr).add j) = some u := by
  intro j u hj
  rw [List.getElem?_map] at hj
  obtain ⟨y, hy, rfl⟩ := Option.map_eq_some_iff.1 hj
  obtain ⟨hjl, hy⟩ := List.getElem?_eq_some_iff.1 hy
  obtain ⟨a', c', e, ha⟩ := h
  cases e
  have hj' : j < l.length := by rw [List.length_take] at hjl; omega
  obtain ⟨b', o', e, hc⟩ := ha j hj'
  cases e
  rw [Addr.add_lit, hc, getElem!_pos l j hj', ← hy]; simp
theorem news_drop {w : World} {g cap : Nat} {l : List Int} (h : RdI w (.slice (some ⟨g, 0, none⟩) l.length cap) l) (q : Nat) : ∀ j u, ((l.drop q).map (Value.int .i64))[j]? = some u → w.cell? ((⟨g, q, none⟩ : Addr).add j) = some u := by
  intro j u hj
  rw [List.getElem?_map] at hj
  obtain ⟨y, hy, rfl⟩ := Option.map_eq_some_iff.1 hj
  obtain ⟨hjl, hy⟩ := List.getElem?_eq_some_iff.1 hy
  obtain ⟨a', c', e, ha⟩ := h
  cases e
  have hj' : q + j < l.length := by rw [List.length_drop] at hjl; omega
  obtain ⟨b', o', e, hc⟩ := ha (q + j) hj'
  cases e
  rw [Nat.zero_add] at hc
  rw [Addr.add_lit, hc, getElem!_pos l (q + j) hj', ← hy]; simp

theorem rwith_gb {w W w1 w2 : World} {o : Obj} {v1 : Value} {n : Nat} {xs : List Value} (G : Gb w W) (h1 : W.grownBy w1 (Value.ownBlock (.slice none 0 0))) (ho : w1.ownsRow w.heap.size 3 1 v1 n xs) (h2 : (w1.alloc o).grownBy w2 v1.ownBlock) : Gb w w2 := by
  have g1 : Gb w w1 := below_grown G h1 (fun k e => by cases e) G.size
  exact below_grown (gb_alloc g1 o) h2 (fun k e => (ho.lt k e).1) (gb_alloc g1 o).size
theorem rwith_fin {w w2 w3 : World} {v2 v3 : Value} {n m q : Nat} {xs : List Value} {x : Int} {l : List Int} (G : Gb w w2) (h3 : w3.ownsRow w.heap.size 3 1 v3 (n + m) ([] ++ (l.take q).map (Value.int .i64) ++ [.int .i64 x] ++ (l.drop q).map (Value.int .i64)))
    (h2 : w2.ownsRow w.heap.size 3 1 v2 n xs) (hg : w2.grownBy w3 v2.ownBlock) (hi : insI x l = l.take q ++ [x] ++ l.drop q) (hs : n + m = l.length + 1) : Own w3 w.heap.size v3 (insI x l) ∧ Gb w w3 := by
  refine ⟨?_, below_grown G hg (fun k e => (h2.lt k e).1) G.size⟩
  unfold Own
  rw [insI_len, ← hs, hi]
  simpa using h3

set_option maxHeartbeats 4000000 in
set_option maxRecDepth 100000 in
theorem rwith_c {w : World} {B : Nat} {v : Value} {l : List Int} (h : Own w B v l) (hn : l.length ≤ 4000) (x : Int) :
    Calls Tryz.prog 137 #[v, .int .i64 x] w fun e w' => ∃ v', e = .returned v' ∧ Own w' w.heap.size v' (insI x l) ∧ Gb w w' := by
  obtain ⟨i0, hi, hz0, hz1, hz2⟩ := info_parts Tryz.info3
  have II : Hid (Tryz.prog.info? 3 = some i0 ∧ i0.zero = some (.int .i64 0) ∧ i0.size = 1 ∧ i0.bytes = 8) := ⟨hi, hz0, hz1, hz2⟩
  clear hi hz0 hz1 hz2
  rcases h.2 with ⟨rfl, h0⟩ | ⟨g, cap, cur, rfl, _, _, hnc, _⟩
  · have D : Hid (l = []) := List.eq_nil_of_length_eq_zero h0
    clear h h0 hn
    go_enter Tryz.func137, Tryz.ntmps137
    go_wp2
    refine wp_loop_rounds 1 ?_
    rw [rounds_succ]
    go_wp2_with (first
      | (at_builtin; refine wpList_append_own _ rfl _ _ 41 rfl w.heap.size 3 i0 (.int .i64 0) 1 8 Tryz.underlying41 II.out.1 II.out.2.1 II.out.2.2.1 II.out.2.2.2 rfl (by decide) (.slice none 0 0) 0 [] rfl (World.ownsRow_nil _ _ _ _) ⟨w.heap.size, 0, none⟩ 1 1 [.int .i64 x] rfl rfl (cell_one_new _ _ _) (by simp [Value.oneCell']) (by decide) (by omega) (by rw [World.size_alloc]; omega) ?_; intro v1 w1 ho1 hg1 _)
      | (at_builtin; refine wpList_append_own_none rfl _ _ 41 rfl w.heap.size 3 i0 1 Tryz.underlying41 II.out.1 v1 _ _ rfl ho1 rfl ?_))
    go_ret
    refine ⟨v1, rfl, ?_, ?_⟩
    · rw [D.out]; exact ho1
    · exact below_grown (gb_alloc (Below.refl _ _) _) hg1 (fun k e => by cases e) (by simp)
  · have LL : Hid (RdI w (.slice (some ⟨g, 0, none⟩) l.length cap) l) := h.rd
    obtain ⟨n, hN⟩ : ∃ n, n = l.length := ⟨_, rfl⟩
    have N : Hid (n = l.length) := hN
    have CC : n ≤ cap := by rw [hN]; exact hnc
    rw [← hN] at hn ⊢
    clear h hN hnc
    go_enter Tryz.func137, Tryz.ntmps137
    go_wp2
    go_loopw [5] (fun iv w' => ∃ q : Nat, iv = .int .i64 (q : Int) ∧ q ≤ n ∧ Hid ((∀ i, i < q → l[i]! < x) ∧ Gb w w')) (fun iv _ => n - (intOf iv).toNat)
    case atStart => exact ⟨0, rfl, Nat.zero_le _, ⟨fun i hi => absurd hi (Nat.not_lt_zero _), Below.refl _ _⟩⟩
    case round =>
      obtain ⟨q, rfl, hq, X⟩ := hrel
      by_cases hqn : q < n
      · have hqi : (q : Int) < (n : Int) := by omega
        obtain ⟨_, _, e, hc⟩ := LL.out
        cases e
        obtain ⟨_, _, e, hc⟩ := hc q (by have := N.out; omega)
        cases e
        rw [Nat.zero_add] at hc
        replace hc := gb_keeps X.out.2 hc
        by_cases hlt : l[q]! < x
        · have R : Hid (∀ i, i < q + 1 → l[i]! < x) := fun i hi => by
            by_cases e : i = q
            · rw [e]; exact hlt
            · exact X.out.1 i (by omega)
          generalize l[q]! = y at *
          go_wp2
          go_roundw
          case rel => exact ⟨q + 1, by simp, hqn, R.out, X.out.2⟩
          case measure => simp [intOf]; omega
        · have IA : Hid (insI x l = l.take q ++ [x] ++ l.drop q) := insI_at x _ q X.out.1 (by have := N.out; omega) (fun _ => hlt)
          generalize l[q]! = y at *
          have GW : Hid (Gb w wr) := X.out.2
          have hqc : q ≤ cap := by omega
          have hq0 : (0 : Int) ≤ (q : Int) := by omega
          have hq1 : (q : Int) ≤ (cap : Int) := by omega
          have hq2 : (q : Int) ≤ (n : Int) := by omega
          have hq3 : (n : Int) ≤ (cap : Int) := by omega
          clear X
          go_wp2_with (first
            | (at_builtin; refine wpList_append_own _ rfl _ _ 41 rfl w.heap.size 3 i0 (.int .i64 0) 1 8 Tryz.underlying41 II.out.1 II.out.2.1 II.out.2.2.1 II.out.2.2.2 rfl (by decide) (.slice none 0 0) 0 [] rfl (World.ownsRow_nil _ _ _ _) ⟨g, 0, none⟩ q cap ((l.take q).map (Value.int .i64)) rfl (by rw [List.length_map, List.length_take]; have := N.out; omega) (news_take (LL.out.gb GW.out) q) (ints_oneCell .i64 _) (by simp only [maxLen]; omega) (by omega) GW.out.size ?_; intro v1 w1 ho1 hg1 _)
            | (at_builtin; refine wpList_append_own _ rfl _ _ 41 rfl w.heap.size 3 i0 (.int .i64 0) 1 8 Tryz.underlying41 II.out.1 II.out.2.1 II.out.2.2.1 II.out.2.2.2 rfl (by decide) v1 (0 + q) ([] ++ (l.take q).map (Value.int .i64)) rfl (ho1.alloc _) ⟨w1.heap.size, 0, none⟩ 1 1 [.int .i64 x] rfl rfl (cell_one_new _ _ _) (by simp [Value.oneCell']) (by simp only [maxLen]; omega) (by omega) (by have h1 := GW.out.size; have h2 := hg1.size; simp <;> omega) ?_; intro v2 w2 ho2 hg2 _)
            | (at_builtin; refine wpList_append_own _ rfl _ _ 41 rfl w.heap.size 3 i0 (.int .i64 0) 1 8 Tryz.underlying41 II.out.1 II.out.2.1 II.out.2.2.1 II.out.2.2.2 rfl (by decide) v2 (0 + q + 1) ([] ++ (l.take q).map (Value.int .i64) ++ [.int .i64 x]) rfl ho2 ⟨g, q, none⟩ (n - q) (cap - q) ((l.drop q).map (Value.int .i64)) rfl (by rw [List.length_map, List.length_drop]; have := N.out; omega) (news_drop (LL.out.gb (rwith_gb GW.out hg1 ho1 hg2)) q) (ints_oneCell .i64 _) (by simp only [maxLen]; omega) (by omega) (rwith_gb GW.out hg1 ho1 hg2).size ?_; intro v3 w3 ho3 hg3 _)
            | go_in)
          go_ret
          exact ⟨v3, rfl, rwith_fin (rwith_gb GW.out hg1 ho1 hg2) ho3 ho2 hg3 IA.out (by have := N.out; omega)⟩
      · have hqi : ¬ (q : Int) < (n : Int) := by omega
        have IA : Hid (insI x l = l.take q ++ [x] ++ l.drop q) := insI_at x _ q X.out.1 (by have := N.out; omega) (fun h => by have := N.out; omega)
        by_cases hcap : q < cap
        · have hcap' : (q : Int) < (cap : Int) := by omega
          have GW : Hid (Gb w wr) := X.out.2
          have hqc : q ≤ cap := by omega
          have hq0 : (0 : Int) ≤ (q : Int) := by omega
          have hq1 : (q : Int) ≤ (cap : Int) := by omega
          have hq2 : (q : Int) ≤ (n : Int) := by omega
          have hq3 : (n : Int) ≤ (cap : Int) := by omega
          clear X
          go_wp2_with (first
            | (at_builtin; refine wpList_append_own _ rfl _ _ 41 rfl w.heap.size 3 i0 (.int .i64 0) 1 8 Tryz.underlying41 II.out.1 II.out.2.1 II.out.2.2.1 II.out.2.2.2 rfl (by decide) (.slice none 0 0) 0 [] rfl (World.ownsRow_nil _ _ _ _) ⟨g, 0, none⟩ q cap ((l.take q).map (Value.int .i64)) rfl (by rw [List.length_map, List.length_take]; have := N.out; omega) (news_take (LL.out.gb GW.out) q) (ints_oneCell .i64 _) (by simp only [maxLen]; omega) (by omega) GW.out.size ?_; intro v1 w1 ho1 hg1 _)
            | (at_builtin; refine wpList_append_own _ rfl _ _ 41 rfl w.heap.size 3 i0 (.int .i64 0) 1 8 Tryz.underlying41 II.out.1 II.out.2.1 II.out.2.2.1 II.out.2.2.2 rfl (by decide) v1 (0 + q) ([] ++ (l.take q).map (Value.int .i64)) rfl (ho1.alloc _) ⟨w1.heap.size, 0, none⟩ 1 1 [.int .i64 x] rfl rfl (cell_one_new _ _ _) (by simp [Value.oneCell']) (by simp only [maxLen]; omega) (by omega) (by have h1 := GW.out.size; have h2 := hg1.size; simp <;> omega) ?_; intro v2 w2 ho2 hg2 _)
            | (at_builtin; refine wpList_append_own _ rfl _ _ 41 rfl w.heap.size 3 i0 (.int .i64 0) 1 8 Tryz.underlying41 II.out.1 II.out.2.1 II.out.2.2.1 II.out.2.2.2 rfl (by decide) v2 (0 + q + 1) ([] ++ (l.take q).map (Value.int .i64) ++ [.int .i64 x]) rfl ho2 ⟨g, q, none⟩ (n - q) (cap - q) ((l.drop q).map (Value.int .i64)) rfl (by rw [List.length_map, List.length_drop]; have := N.out; omega) (news_drop (LL.out.gb (rwith_gb GW.out hg1 ho1 hg2)) q) (ints_oneCell .i64 _) (by simp only [maxLen]; omega) (by omega) (rwith_gb GW.out hg1 ho1 hg2).size ?_; intro v3 w3 ho3 hg3 _)
            | go_in)
          go_ret
          exact ⟨v3, rfl, rwith_fin (rwith_gb GW.out hg1 ho1 hg2) ho3 ho2 hg3 IA.out (by have := N.out; omega)⟩
        · have hce : q = cap := by omega
          have DR : Hid ((l.drop q).map (Value.int .i64) = []) := by
            have := N.out
            unfold Hid
            rw [List.drop_of_length_le (by omega)]; rfl
          have hne' : q = n := by omega
          subst hce
          subst hne'
          clear hcap
          have GW : Hid (Gb w wr) := X.out.2
          have hqc : q ≤ q := by omega
          have hq0 : (0 : Int) ≤ (q : Int) := by omega
          have hq1 : (q : Int) ≤ (q : Int) := by omega
          have hq2 : (q : Int) ≤ (q : Int) := by omega
          have hq3 : (q : Int) ≤ (q : Int) := by omega
          clear X
          go_wp2_with (first
            | (at_builtin; refine wpList_append_own _ rfl _ _ 41 rfl w.heap.size 3 i0 (.int .i64 0) 1 8 Tryz.underlying41 II.out.1 II.out.2.1 II.out.2.2.1 II.out.2.2.2 rfl (by decide) (.slice none 0 0) 0 [] rfl (World.ownsRow_nil _ _ _ _) ⟨g, 0, none⟩ q q ((l.take q).map (Value.int .i64)) rfl (by rw [List.length_map, List.length_take]; have := N.out; omega) (news_take (LL.out.gb GW.out) q) (ints_oneCell .i64 _) (by simp only [maxLen]; omega) (by omega) GW.out.size ?_; intro v1 w1 ho1 hg1 _)
            | (at_builtin; refine wpList_append_own _ rfl _ _ 41 rfl w.heap.size 3 i0 (.int .i64 0) 1 8 Tryz.underlying41 II.out.1 II.out.2.1 II.out.2.2.1 II.out.2.2.2 rfl (by decide) v1 (0 + q) ([] ++ (l.take q).map (Value.int .i64)) rfl (ho1.alloc _) ⟨w1.heap.size, 0, none⟩ 1 1 [.int .i64 x] rfl rfl (cell_one_new _ _ _) (by simp [Value.oneCell']) (by simp only [maxLen]; omega) (by omega) (by have h1 := GW.out.size; have h2 := hg1.size; simp <;> omega) ?_; intro v2 w2 ho2 hg2 _)
            | (at_builtin; refine wpList_append_own _ rfl _ _ 41 rfl w.heap.size 3 i0 (.int .i64 0) 1 8 Tryz.underlying41 II.out.1 II.out.2.1 II.out.2.2.1 II.out.2.2.2 rfl (by decide) v2 (0 + q + 1) ([] ++ (l.take q).map (Value.int .i64) ++ [.int .i64 x]) rfl ho2 _ 0 _ [] rfl (by simp) (by simp) (by simp) (by simp only [maxLen]; omega) (by omega) (rwith_gb GW.out hg1 ho1 hg2).size ?_; intro v3 w3 ho3 hg3 _)
            | go_in)
          go_ret
          exact ⟨v3, rfl, rwith_fin (rwith_gb GW.out hg1 ho1 hg2) (by rw [DR.out]; exact ho3) ho2 hg3 IA.out (by have := N.out; omega)⟩
end Go.Proofs.YtbnljabeccebiaaGreat
