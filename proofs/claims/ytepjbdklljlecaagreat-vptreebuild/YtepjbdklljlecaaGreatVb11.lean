import Derived.Test.YtepjbdklljlecaaGreatVb3
/- vec.CheckRegion and vec.checkBoth. -/
namespace Go.Proofs.YtepjbdklljlecaaGreat
open Go.RowKit

/-- What CheckRegion answers. -/
def ckR (r : Reg) (d : Int) : Int :=
  if 1 ≤ d ∧ d ≤ 64 then (if uses r = true ∧ rise r.I = true then (if r.S = 2 then cornE r.L r.H d else if r.S = 3 then chk r.L d else 0) else 32) else 30

set_option maxHeartbeats 4000000 in
set_option maxRecDepth 100000 in
theorem checkRegion_c {w : World} {v : Value} {r : Reg} (h : RdR w v r) (hlen : r.I.length ≤ 4611686018427387904) (d : Int) :
    Calls Tryz.prog 145 #[v, .int .i64 d] w fun e w' => e = .returned (.int .i64 (ckR r d)) ∧ Gr w w' := by
  have HR : Hid (RdR w v r) := h
  obtain ⟨vl, vh, vi, rfl, hL, hH, hI⟩ := h
  have G0 : Gr w (w.alloc (rc r vl vh vi)) := (Gr.refl _).alloc _ _
  have RA : Hid (RegAt (w.alloc (rc r vl vh vi)) w.heap.size r vl vh vi) := RegAt.new w r vl vh vi
  have CU := fun b hb => uses_v (HR.out.gb G0.gb) b hb
  have CI := fun W' (g : Gr (w.alloc (rc r vl vh vi)) W') b hb => idsRise_v (hI.gb (G0.trans g).gb) hlen b hb
  have CC := fun W' (g : Gr (w.alloc (rc r vl vh vi)) W') e he => corners_v (hL.gb (G0.trans g).gb) (hH.gb (G0.trans g).gb) d e he
  have CK := fun W' (g : Gr (w.alloc (rc r vl vh vi)) W') e he => check_v (hL.gb (G0.trans g).gb) d e he
  have E : Hid (ckR r d = if 1 ≤ d ∧ d ≤ 64 then (if uses r = true ∧ rise r.I = true then (if r.S = 2 then cornE r.L r.H d else if r.S = 3 then chk r.L d else 0) else 32) else 30) := rfl
  obtain ⟨pl, cl, rfl, _⟩ := hL
  obtain ⟨ph, ch, rfl, _⟩ := hH
  obtain ⟨pi, ci, rfl, _⟩ := hI
  generalize ckR r d = res at *
  by_cases hd : (decide (1 ≤ d) && decide (d ≤ 64)) = true
  · have hd' : 1 ≤ d ∧ d ≤ 64 := by simpa using hd
    have c1 := fun W => isDim_v d true hd W
    rw [if_pos hd'] at E
    by_cases hu : uses r = true
    · have c2 := CU _ hu
      by_cases hi' : rise r.I = true
      · rw [if_pos ⟨hu, hi'⟩] at E
        have c3 := fun W' g => CI W' g true hi'
        clear CU hd hd' hu CI hi' HR hlen
        by_cases s2 : r.S = 2
        · rw [if_pos s2] at E
          have c4 := fun W' g => CC W' g res E.out.symm
          clear CC CK E
          obtain ⟨S, L, H, R, I⟩ := r
          dsimp only at *
          subst s2
          generalize L.length = nl at *
          generalize H.length = nh at *
          generalize I.length = ni at *
          go_enter Tryz.func145, Tryz.ntmps145
          go_wp2_with fail
          refine (c1 _).mono ?_
          rintro e w' ⟨rfl, e2⟩
          subst e2
          go_wp2_with fail
          refine c2.mono ?_
          rintro e w1 ⟨rfl, g1⟩
          obtain ⟨q0, q1, q2, q3, q4, q5⟩ := RA.out.gb g1.gb
          go_wp2_with fail
          refine (c3 _ g1).mono ?_
          rintro e w' ⟨rfl, e2⟩
          subst e2
          go_wp2_with fail
          refine (c4 _ g1).mono ?_
          rintro e w' ⟨rfl, e2⟩
          subst e2
          go_wp2
          go_ret
          exact ⟨rfl, G0.trans g1⟩

        · rw [if_neg s2] at E
          have s2' : (r.S == 2) = false := by rw [beq_eq_false_iff_ne]; exact s2
          by_cases s3 : r.S = 3
          · rw [if_pos s3] at E
            have c4 := fun W' g => CK W' g res E.out.symm
            clear CC CK E s2 s2'
            obtain ⟨S, L, H, R, I⟩ := r
            dsimp only at *
            subst s3
            generalize L.length = nl at *
            generalize H.length = nh at *
            generalize I.length = ni at *
            go_enter Tryz.func145, Tryz.ntmps145
            go_wp2_with fail
            refine (c1 _).mono ?_
            rintro e w' ⟨rfl, e2⟩
            subst e2
            go_wp2_with fail
            refine c2.mono ?_
            rintro e w1 ⟨rfl, g1⟩
            obtain ⟨q0, q1, q2, q3, q4, q5⟩ := RA.out.gb g1.gb
            go_wp2_with fail
            refine (c3 _ g1).mono ?_
            rintro e w' ⟨rfl, e2⟩
            subst e2
            go_wp2_with fail
            refine (c4 _ g1).mono ?_
            rintro e w' ⟨rfl, e2⟩
            subst e2
            go_wp2
            go_ret
            exact ⟨rfl, G0.trans g1⟩

          · rw [if_neg s3] at E
            have s3' : (r.S == 3) = false := by rw [beq_eq_false_iff_ne]; exact s3
            have e := E.out
            subst e
            clear CC CK E s2 s3
            obtain ⟨S, L, H, R, I⟩ := r
            dsimp only at *
            generalize L.length = nl at *
            generalize H.length = nh at *
            generalize I.length = ni at *
            go_enter Tryz.func145, Tryz.ntmps145
            go_wp2_with fail
            refine (c1 _).mono ?_
            rintro e w' ⟨rfl, e2⟩
            subst e2
            go_wp2_with fail
            refine c2.mono ?_
            rintro e w1 ⟨rfl, g1⟩
            obtain ⟨q0, q1, q2, q3, q4, q5⟩ := RA.out.gb g1.gb
            go_wp2_with fail
            refine (c3 _ g1).mono ?_
            rintro e w' ⟨rfl, e2⟩
            subst e2
            go_wp2
            go_ret
            exact ⟨rfl, G0.trans g1⟩

      · rw [if_neg (fun h => hi' h.2)] at E
        have c3 := fun W' g => CI W' g false (by simpa using hi')
        have e := E.out
        subst e
        clear CU hd hd' hu CI hi' HR hlen CC CK E
        obtain ⟨S, L, H, R, I⟩ := r
        dsimp only at *
        generalize L.length = nl at *
        generalize H.length = nh at *
        generalize I.length = ni at *
        go_enter Tryz.func145, Tryz.ntmps145
        go_wp2_with fail
        refine (c1 _).mono ?_
        rintro e w' ⟨rfl, e2⟩
        subst e2
        go_wp2_with fail
        refine c2.mono ?_
        rintro e w1 ⟨rfl, g1⟩
        obtain ⟨q0, q1, q2, q3, q4, q5⟩ := RA.out.gb g1.gb
        go_wp2_with fail
        refine (c3 _ g1).mono ?_
        rintro e w' ⟨rfl, e2⟩
        subst e2
        go_wp2
        go_ret
        exact ⟨rfl, G0.trans g1⟩

    · rw [if_neg (fun h => hu h.1)] at E
      have c2 := CU false (by simpa using hu)
      have e := E.out
      subst e
      clear CU hd hd' hu CI HR hlen CC CK E
      obtain ⟨S, L, H, R, I⟩ := r
      dsimp only at *
      generalize L.length = nl at *
      generalize H.length = nh at *
      generalize I.length = ni at *
      go_enter Tryz.func145, Tryz.ntmps145
      go_wp2_with fail
      refine (c1 _).mono ?_
      rintro e w' ⟨rfl, e2⟩
      subst e2
      go_wp2_with fail
      refine c2.mono ?_
      rintro e w1 ⟨rfl, g1⟩
      obtain ⟨q0, q1, q2, q3, q4, q5⟩ := RA.out.gb g1.gb
      go_wp2
      go_ret
      exact ⟨rfl, G0.trans g1⟩

  · have hd' : ¬ (1 ≤ d ∧ d ≤ 64) := by simpa using hd
    have c1 := fun W => isDim_v d false (by simpa using hd) W
    rw [if_neg hd'] at E
    have e := E.out
    subst e
    clear CU CI CC CK HR hd hd' E RA
    go_enter Tryz.func145, Tryz.ntmps145
    go_wp2_with (go_at_call 66; refine (c1 _).mono ?_; rintro e w' ⟨rfl, e2⟩; subst e2)
    go_ret
    exact ⟨rfl, G0⟩
theorem checkRegion_v {w : World} {v : Value} {r : Reg} (h : RdR w v r) (hlen : r.I.length ≤ 4611686018427387904) (d x : Int) (hx : ckR r d = x) :
    Calls Tryz.prog 145 #[v, .int .i64 d] w fun e w' => e = .returned (.int .i64 x) ∧ Gr w w' := by
  subst hx; exact checkRegion_c h hlen d

/-- What checkBoth answers. -/
def ckB (r : Reg) (a : List Int) : Int := if ckR r a.length = 0 then chk a a.length else ckR r a.length

set_option maxHeartbeats 4000000 in
theorem checkBoth_c {w : World} {v u : Value} {r : Reg} {a : List Int} (h : RdR w v r) (hu : RdI w u a) (hlen : r.I.length ≤ 4611686018427387904) :
    Calls Tryz.prog 99 #[v, u] w fun e w' => e = .returned (.int .i64 (ckB r a)) ∧ Gr w w' := by
  have HR : Hid (RdR w v r) := h
  obtain ⟨vl, vh, vi, rfl, hL, hH, hI⟩ := h
  have G0 : Gr w (w.alloc (rc r vl vh vi)) := (Gr.refl _).alloc _ _
  have C1 := fun x hx => checkRegion_v (HR.out.gb G0.gb) hlen (a.length : Int) x hx
  have C2 := fun W' (g : Gr (w.alloc (rc r vl vh vi)) W') x hx => check_v (hu.gb (G0.trans g).gb) (a.length : Int) x hx
  have E : Hid (ckB r a = if ckR r a.length = 0 then chk a a.length else ckR r a.length) := rfl
  obtain ⟨pa, ca, rfl, _⟩ := hu
  generalize ckB r a = res at *
  by_cases h1 : ckR r a.length = 0
  · rw [if_pos h1] at E
    have c1 := C1 _ h1
    have c2 := fun W' g => C2 W' g res E.out.symm
    clear C1 C2 E h1 HR hlen hL hH hI
    obtain ⟨S, L, H, R, I⟩ := r
    generalize a.length = n at *
    go_enter Tryz.func99, Tryz.ntmps99
    go_wp2_with fail
    refine c1.mono ?_
    rintro e w1 ⟨rfl, g1⟩
    go_wp2_with fail
    refine (c2 _ g1).mono ?_
    rintro e w' ⟨rfl, e2⟩
    subst e2
    go_wp2
    go_ret
    exact ⟨rfl, G0.trans g1⟩
  · rw [if_neg h1] at E
    have e := E.out
    have h1' : (res == 0) = false := by rw [beq_eq_false_iff_ne, e]; exact h1
    have c1 := C1 _ e.symm
    clear C1 C2 E h1 HR hlen hL hH hI e
    obtain ⟨S, L, H, R, I⟩ := r
    generalize a.length = n at *
    go_enter Tryz.func99, Tryz.ntmps99
    go_wp2_with fail
    refine c1.mono ?_
    rintro e w1 ⟨rfl, g1⟩
    go_wp2
    go_ret
    exact ⟨rfl, G0.trans g1⟩
theorem checkBoth_v {w : World} {v u : Value} {r : Reg} {a : List Int} (h : RdR w v r) (hu : RdI w u a) (hlen : r.I.length ≤ 4611686018427387904) (x : Int) (hx : ckB r a = x) :
    Calls Tryz.prog 99 #[v, u] w fun e w' => e = .returned (.int .i64 x) ∧ Gr w w' := by
  subst hx; exact checkBoth_c h hu hlen
end Go.Proofs.YtepjbdklljlecaaGreat

/- Roots; vec.ballBound. -/
namespace Go.Proofs.YtepjbdklljlecaaGreat
open Go.RowKit

/-- The greatest number up to n whose square is not above a. -/
def rtTo (a : Nat) : Nat → Nat
  | 0 => 0
  | n + 1 => if (n + 1) * (n + 1) ≤ a then n + 1 else rtTo a n
def rt (a : Nat) : Nat := rtTo a a
theorem rtTo_is (a : Nat) : ∀ n, a < (n + 1) * (n + 1) → IsRoot a (rtTo a n)
  | 0, h => ⟨Nat.zero_le _, by simpa [rtTo] using h⟩
  | n + 1, h => by
    unfold rtTo
    split
    · rename_i h1; exact ⟨h1, h⟩
    · rename_i h1; exact rtTo_is a n (by omega)
theorem rt_is (a : Nat) : IsRoot a (rt a) := rtTo_is a a (by
  have : (a + 1) * 1 ≤ (a + 1) * (a + 1) := Nat.mul_le_mul_left _ (by omega)
  omega)
theorem root_le {a r s : Nat} (h1 : IsRoot a r) (h2 : IsRoot a s) : s ≤ r := by
  apply Nat.le_of_not_lt; intro hc
  have := sq_le (show r + 1 ≤ s by omega)
  have := h1.2; have := h2.1; omega
theorem root_one {a r : Nat} (h : IsRoot a r) : r = rt a := Nat.le_antisymm (root_le (rt_is a) h) (root_le h (rt_is a))
theorem rt_lt {a : Nat} (ha : a < 340282366920938463463374607431768211456) : rt a < 18446744073709551616 := by
  apply Nat.lt_of_not_le; intro hc
  have := sq_le hc
  have := (rt_is a).1; omega
theorem sqrt_c (a : Nat) (ha : a < 340282366920938463463374607431768211456) (w : World) :
    Calls Tryz.prog 148 #[Wd a] w fun e w' => e = .returned (.int .u64 (rt a : Int)) ∧ Gr w w' := by
  refine (sqrt_any a ha w).mono ?_
  rintro e w' ⟨r, rfl, _, hr, g⟩
  rw [root_one hr]; exact ⟨rfl, g⟩

/-- The least number whose square is not below R. -/
def rup (R : Nat) : Nat := if rt R * rt R = R then rt R else rt R + 1
/-- The bound of a ball: a the distance from its centre. -/
def ballV (a R : Nat) : Nat := if rt a ≤ rt R then 0 else (rt a - rup R) * (rt a - rup R)

theorem wd_ne (a b : Nat) (r : Bool) (h : (!decide (a = b)) = r) (W : World) : (binOp .neq 66 (.agg #[.int .u64 (hi a), .int .u64 (lo a)]) (.agg #[.int .u64 (hi b), .int .u64 (lo b)])).run Tryz.prog W = .ok (.bool r) W := by
  subst h
  have h1 := wd_eq a b W
  rw [run_eql_struct] at h1
  rw [run_neq_struct]
  revert h1
  generalize (Op.equalIn 10000 66 (Wd a) (Wd b)).run Tryz.prog W = x
  intro h1
  cases x with
  | ok v w' =>
    simp only [Result.andThen] at h1 ⊢
    injection h1 with h2 h3
    injection h2 with h4
    rw [h3, h4]
  | _ => simp [Result.andThen] at h1

set_option maxHeartbeats 4000000 in
set_option maxRecDepth 100000 in
theorem ballBound_c {w : World} {v u : Value} {r : Reg} {a : List Int} (hv : RdR w v r) (hu : RdI w u a) (hl : r.L.length = a.length) (hn : r.L.length ≤ 64) (rl : allR r.L = true) (ra : allR a = true) (hR : r.R < 340282366920938463463374607431768211456) :
    Calls Tryz.prog 101 #[v, u] w fun e w' => e = .returned (Wd (ballV (dst r.L a) r.R)) ∧ Gr w w' := by
  have HV : Hid (RdR w v r) := hv
  obtain ⟨vl, vh, vi, rfl, hL, hH, hI⟩ := hv
  have RA : Hid (RegAt (w.alloc (rc r vl vh vi)) w.heap.size r vl vh vi) := RegAt.new w r vl vh vi
  have G00 : Gr w (w.alloc (rc r vl vh vi)) := (Gr.refl _).alloc _ _
  have G0 : Gr w ((w.alloc (rc r vl vh vi)).alloc (.cells #[.int .u64 0, .int .u64 0] 66)) := G00.alloc _ _
  have c1 := distance_c (hL.gb G0.gb) (hu.gb G0.gb) hl hn rl ra
  have c2 := fun W => sqrt_c (dst r.L a) (dst_lt rl ra hl hn) W
  have c3 := fun W => sqrt_c r.R hR W
  have l1 := rt_lt (dst_lt rl ra hl hn)
  have l2 := rt_lt hR
  have l3 := (rt_is (dst r.L a)).1
  have l4 := dst_lt rl ra hl hn
  clear hH hI HV hl hn rl ra
  obtain ⟨S, L, H, R, I⟩ := r
  dsimp only at *
  obtain ⟨pl, cl, rfl, _⟩ := hL
  obtain ⟨pa, ca, rfl, _⟩ := hu
  generalize L.length = nl at *
  generalize a.length = na at *
  have E : Hid (ballV (dst L a) R = if rt (dst L a) ≤ rt R then 0 else (rt (dst L a) - rup R) * (rt (dst L a) - rup R)) := rfl
  generalize ballV (dst L a) R = res at *
  generalize dst L a = D at *
  have E2 : Hid (rup R = if rt R * rt R = R then rt R else rt R + 1) := rfl
  generalize rt D = s at *
  generalize rup R = t' at *
  generalize rt R = t at *
  clear l3 l4
  have W0 : Hid (Gr (w.alloc (.cells #[.int .i64 S, .slice pl nl cl, vh, .int .u64 (hi R), .int .u64 (lo R), vi] 102)) ((w.alloc (.cells #[.int .i64 S, .slice pl nl cl, vh, .int .u64 (hi R), .int .u64 (lo R), vi] 102)).alloc (.cells #[.int .u64 0, .int .u64 0] 66))) := (Gr.refl _).alloc _ _
  go_enter Tryz.func101, Tryz.ntmps101
  go_wp2_with fail
  refine c1.mono ?_
  rintro e w1 ⟨rfl, g1⟩
  go_wp2_with fail
  refine (c2 _).mono ?_
  rintro e w2 ⟨rfl, g2⟩
  have g2 := g1.trans g2
  obtain ⟨_, _, _, q3, q4, _⟩ := RA.out.gb (W0.out.trans g2).gb
  dsimp only at q3 q4
  go_wp2_with fail
  refine (c3 _).mono ?_
  rintro e w3 ⟨rfl, g3⟩
  have G3 := g2.trans g3
  have VV := G3.var2
  simp only [World.size_alloc] at VV
  obtain ⟨v0, v1, v2, v3⟩ := VV
  clear c1 c2 c3 g1 g2 g3 q3 q4
  by_cases hst : s ≤ t
  · rw [if_pos hst] at E
    have e := E.out
    subst e
    have hst' : (s : Int) ≤ (t : Int) := by omega
    clear E E2 hst
    go_wp2
    exact bodyPost_ret (v := Wd 0) (by simp [results, Tryz.results101, go_sem, v0, v1, hi, lo]) rfl ⟨rfl, by repeat (first | exact G0.trans G3 | refine Gr.setCell ?_ (by simp) _)⟩
  · rw [if_neg hst] at E
    have hst' : ¬ (s : Int) ≤ (t : Int) := by omega
    obtain ⟨_, _, _, q3, q4, _⟩ := RA.out.gb (W0.out.trans G3).gb
    dsimp only at q3 q4
    have cm := fun W => mul_any t t l2 l2 W
    have reg : ∀ r' : Bool, (!decide (t * t = R)) = r' → Hid ((!decide (t * t = R)) = r') := fun _ h => h
    by_cases ht : t * t = R
    · have hne := fun W => wd_ne (t * t) R false (by simp [ht]) W
      rw [if_pos ht] at E2
      have e := E2.out
      subst e
      have cs := fun W => mul_int ((s : Int) - (t' : Int)) ((s : Int) - (t' : Int)) (by omega) (by omega) (by omega) (by omega) W
      have E3 : Hid (((s : Int) - (t' : Int)).toNat * ((s : Int) - (t' : Int)).toNat = res) := by unfold Hid; rw [E.out]; congr 1 <;> omega
      rw [E3.out] at cs
      have b1 : 0 ≤ (s : Int) - (t' : Int) := by omega
      have b2 : (s : Int) - (t' : Int) < 18446744073709551616 := by omega
      clear E E2 E3 hst ht reg
      go_wp2
      go_region_held3 (fun w' => w'.cell? ⟨w.heap.size, 3, none⟩ = some (.int .u64 (hi R)) ∧ w'.cell? ⟨w.heap.size, 4, none⟩ = some (.int .u64 (lo R))) (first | (with_reducible exact call_keeps2 (by assumption) (by assumption)) | exact ⟨q3, q4⟩)
        (first
          | (go_at_call 150; refine (cm _).mono ?_; rintro e w4 ⟨rfl, g4⟩))
      all_goals
        have G4 := G3.drew.trans g4
        go_wp2_with fail
        refine (cs _).mono ?_
        rintro e w5 ⟨rfl, g5⟩
        have G5 := G4.trans g5
        have VV := G5.var2
        simp only [World.size_alloc] at VV
        obtain ⟨u0, u1, u2, u3⟩ := VV
        go_wp2
        exact bodyPost_ret (v := Wd res) (by simp [results, Tryz.results101, go_sem, u0, u1]) rfl ⟨rfl, by repeat (first | exact G0.trans G5 | refine Gr.setCell ?_ (by simp) _)⟩
    · have hne := fun W => wd_ne (t * t) R true (by simp [ht]) W
      rw [if_neg ht] at E2
      have e := E2.out
      have T1 : Hid ((t : Int) + 1 = (t' : Int)) := by unfold Hid; omega
      have cs := fun W => mul_int ((s : Int) - (t' : Int)) ((s : Int) - (t' : Int)) (by omega) (by omega) (by omega) (by omega) W
      have E3 : Hid (((s : Int) - (t' : Int)).toNat * ((s : Int) - (t' : Int)).toNat = res) := by unfold Hid; rw [E.out]; congr 1 <;> omega
      rw [E3.out] at cs
      have BB : Hid (0 ≤ (s : Int) - (t' : Int) ∧ (s : Int) - (t' : Int) < 18446744073709551616) := ⟨by omega, by omega⟩
      clear e
      clear E E2 E3 hst ht reg
      go_wp2
      go_region_held3 (fun w' => w'.cell? ⟨w.heap.size, 3, none⟩ = some (.int .u64 (hi R)) ∧ w'.cell? ⟨w.heap.size, 4, none⟩ = some (.int .u64 (lo R))) (first | (with_reducible exact call_keeps2 (by assumption) (by assumption)) | exact ⟨q3, q4⟩)
        (first
          | (go_at_call 150; refine (cm _).mono ?_; rintro e w4 ⟨rfl, g4⟩))
      all_goals
        have G4 := G3.drew.trans g4
        have T2 := T1.out
        obtain ⟨b1, b2⟩ := BB.out
        go_wp2_with fail
        refine (cs _).mono ?_
        rintro e w5 ⟨rfl, g5⟩
        have G5 := G4.trans g5
        have VV := G5.var2
        simp only [World.size_alloc] at VV
        obtain ⟨u0, u1, u2, u3⟩ := VV
        go_wp2
        exact bodyPost_ret (v := Wd res) (by simp [results, Tryz.results101, go_sem, u0, u1]) rfl ⟨rfl, by repeat (first | exact G0.trans G5 | refine Gr.setCell ?_ (by simp) _)⟩
end Go.Proofs.YtepjbdklljlecaaGreat
