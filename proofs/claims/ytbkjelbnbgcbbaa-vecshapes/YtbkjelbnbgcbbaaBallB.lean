/- Roots; vec.ballBound. -/
import Derived.Test.YtbkjelbnbgcbbaaReg
namespace Go.Proofs.Ytbkjelbnbgcbbaa
open Go.RowKit

/-- The greatest number up to n whose square is not above a. -/
def rtTo (a : Nat) : Nat → Nat
  | 0 => 0
  | n + 1 => if (n + 1) * (n + 1) ≤ a then n + 1 else rtTo a n
def rt (a : Nat) : Nat := rtTo a a
theorem rtTo_is (a : Nat) : ∀ n, a < (n + 1) * (n + 1) → IsRoot a (rtTo a n)
  | 0, h => ⟨Nat.zero_le _, by simpa [rtTo] using h⟩
  | n + 1, h => by
    unfold rtTo
    split
    · rename_i h1; exact ⟨h1, h⟩
    · rename_i h1; exact rtTo_is a n (by omega)
theorem rt_is (a : Nat) : IsRoot a (rt a) := rtTo_is a a (by
  have : (a + 1) * 1 ≤ (a + 1) * (a + 1) := Nat.mul_le_mul_left _ (by omega)
  omega)
theorem root_le {a r s : Nat} (h1 : IsRoot a r) (h2 : IsRoot a s) : s ≤ r := by
  apply Nat.le_of_not_lt; intro hc
  have := sq_le (show r + 1 ≤ s by omega)
  have := h1.2; have := h2.1; omega
theorem root_one {a r : Nat} (h : IsRoot a r) : r = rt a := Nat.le_antisymm (root_le (rt_is a) h) (root_le h (rt_is a))
theorem rt_lt {a : Nat} (ha : a < 340282366920938463463374607431768211456) : rt a < 18446744073709551616 := by
  apply Nat.lt_of_not_le; intro hc
  have := sq_le hc
  have := (rt_is a).1; omega
theorem sqrt_c (a : Nat) (ha : a < 340282366920938463463374607431768211456) (w : World) :
    Calls Try.prog 53 #[Wd a] w fun e w' => e = .returned (.int .u64 (rt a : Int)) ∧ Gr w w' := by
  refine (sqrt_any a ha w).mono ?_
  rintro e w' ⟨r, rfl, _, hr, g⟩
  rw [root_one hr]; exact ⟨rfl, g⟩

/-- The least number whose square is not below R. -/
def rup (R : Nat) : Nat := if rt R * rt R = R then rt R else rt R + 1
/-- The bound of a ball: a the distance from its centre. -/
def ballV (a R : Nat) : Nat := if rt a ≤ rt R then 0 else (rt a - rup R) * (rt a - rup R)

theorem wd_ne (a b : Nat) (r : Bool) (h : (!decide (a = b)) = r) (W : World) : (binOp .neq 29 (.agg #[.int .u64 (hi a), .int .u64 (lo a)]) (.agg #[.int .u64 (hi b), .int .u64 (lo b)])).run Try.prog W = .ok (.bool r) W := by
  subst h
  have h1 := wd_eq a b W
  rw [run_eql_struct] at h1
  rw [run_neq_struct]
  revert h1
  generalize (Op.equalIn 10000 29 (Wd a) (Wd b)).run Try.prog W = x
  intro h1
  cases x with
  | ok v w' =>
    simp only [Result.andThen] at h1 ⊢
    injection h1 with h2 h3
    injection h2 with h4
    rw [h3, h4]
  | _ => simp [Result.andThen] at h1

set_option maxHeartbeats 4000000 in
set_option maxRecDepth 100000 in
theorem ballBound_c {w : World} {v u : Value} {r : Reg} {a : List Int} (hv : RdR w v r) (hu : RdI w u a) (hl : r.L.length = a.length) (hn : r.L.length ≤ 64) (rl : allR r.L = true) (ra : allR a = true) (hR : r.R < 340282366920938463463374607431768211456) :
    Calls Try.prog 46 #[v, u] w fun e w' => e = .returned (Wd (ballV (dst r.L a) r.R)) ∧ Gr w w' := by
  have HV : Hid (RdR w v r) := hv
  obtain ⟨vl, vh, vi, rfl, hL, hH, hI⟩ := hv
  have RA : Hid (RegAt (w.alloc (rc r vl vh vi)) w.heap.size r vl vh vi) := RegAt.new w r vl vh vi
  have G00 : Gr w (w.alloc (rc r vl vh vi)) := (Gr.refl _).alloc _ _
  have G0 : Gr w ((w.alloc (rc r vl vh vi)).alloc (.cells #[.int .u64 0, .int .u64 0] 29)) := G00.alloc _ _
  have c1 := distance_c (hL.gb G0.gb) (hu.gb G0.gb) hl hn rl ra
  have c2 := fun W => sqrt_c (dst r.L a) (dst_lt rl ra hl hn) W
  have c3 := fun W => sqrt_c r.R hR W
  have l1 := rt_lt (dst_lt rl ra hl hn)
  have l2 := rt_lt hR
  have l3 := (rt_is (dst r.L a)).1
  have l4 := dst_lt rl ra hl hn
  clear hH hI HV hl hn rl ra
  obtain ⟨S, L, H, R, I⟩ := r
  dsimp only at *
  obtain ⟨pl, cl, rfl, _⟩ := hL
  obtain ⟨pa, ca, rfl, _⟩ := hu
  generalize L.length = nl at *
  generalize a.length = na at *
  have E : Hid (ballV (dst L a) R = if rt (dst L a) ≤ rt R then 0 else (rt (dst L a) - rup R) * (rt (dst L a) - rup R)) := rfl
  generalize ballV (dst L a) R = res at *
  generalize dst L a = D at *
  have E2 : Hid (rup R = if rt R * rt R = R then rt R else rt R + 1) := rfl
  generalize rt D = s at *
  generalize rup R = t' at *
  generalize rt R = t at *
  clear l3 l4
  have W0 : Hid (Gr (w.alloc (.cells #[.int .i64 S, .slice pl nl cl, vh, .int .u64 (hi R), .int .u64 (lo R), vi] 31)) ((w.alloc (.cells #[.int .i64 S, .slice pl nl cl, vh, .int .u64 (hi R), .int .u64 (lo R), vi] 31)).alloc (.cells #[.int .u64 0, .int .u64 0] 29))) := (Gr.refl _).alloc _ _
  go_enter Try.func46, Try.ntmps46
  go_wp2_with fail
  refine c1.mono ?_
  rintro e w1 ⟨rfl, g1⟩
  go_wp2_with fail
  refine (c2 _).mono ?_
  rintro e w2 ⟨rfl, g2⟩
  have g2 := g1.trans g2
  obtain ⟨_, _, _, q3, q4, _⟩ := RA.out.gb (W0.out.trans g2).gb
  dsimp only at q3 q4
  go_wp2_with fail
  refine (c3 _).mono ?_
  rintro e w3 ⟨rfl, g3⟩
  have G3 := g2.trans g3
  have VV := G3.var2
  simp only [World.size_alloc] at VV
  obtain ⟨v0, v1, v2, v3⟩ := VV
  clear c1 c2 c3 g1 g2 g3 q3 q4
  by_cases hst : s ≤ t
  · rw [if_pos hst] at E
    have e := E.out
    subst e
    have hst' : (s : Int) ≤ (t : Int) := by omega
    clear E E2 hst
    go_wp2
    exact bodyPost_ret (v := Wd 0) (by simp [results, Try.results46, go_sem, v0, v1, hi, lo]) rfl ⟨rfl, by repeat (first | exact G0.trans G3 | refine Gr.setCell ?_ (by simp) _)⟩
  · rw [if_neg hst] at E
    have hst' : ¬ (s : Int) ≤ (t : Int) := by omega
    obtain ⟨_, _, _, q3, q4, _⟩ := RA.out.gb (W0.out.trans G3).gb
    dsimp only at q3 q4
    have cm := fun W => mul_any t t l2 l2 W
    have reg : ∀ r' : Bool, (!decide (t * t = R)) = r' → Hid ((!decide (t * t = R)) = r') := fun _ h => h
    by_cases ht : t * t = R
    · have hne := fun W => wd_ne (t * t) R false (by simp [ht]) W
      rw [if_pos ht] at E2
      have e := E2.out
      subst e
      have cs := fun W => mul_int ((s : Int) - (t' : Int)) ((s : Int) - (t' : Int)) (by omega) (by omega) (by omega) (by omega) W
      have E3 : Hid (((s : Int) - (t' : Int)).toNat * ((s : Int) - (t' : Int)).toNat = res) := by unfold Hid; rw [E.out]; congr 1 <;> omega
      rw [E3.out] at cs
      have b1 : 0 ≤ (s : Int) - (t' : Int) := by omega
      have b2 : (s : Int) - (t' : Int) < 18446744073709551616 := by omega
      clear E E2 E3 hst ht reg
      go_wp2
      go_region_held3 (fun w' => w'.cell? ⟨w.heap.size, 3, none⟩ = some (.int .u64 (hi R)) ∧ w'.cell? ⟨w.heap.size, 4, none⟩ = some (.int .u64 (lo R))) (first | (with_reducible exact call_keeps2 (by assumption) (by assumption)) | exact ⟨q3, q4⟩)
        (first
          | (go_at_call 50; refine (cm _).mono ?_; rintro e w4 ⟨rfl, g4⟩))
      all_goals
        have G4 := G3.drew.trans g4
        go_wp2_with fail
        refine (cs _).mono ?_
        rintro e w5 ⟨rfl, g5⟩
        have G5 := G4.trans g5
        have VV := G5.var2
        simp only [World.size_alloc] at VV
        obtain ⟨u0, u1, u2, u3⟩ := VV
        go_wp2
        exact bodyPost_ret (v := Wd res) (by simp [results, Try.results46, go_sem, u0, u1]) rfl ⟨rfl, by repeat (first | exact G0.trans G5 | refine Gr.setCell ?_ (by simp) _)⟩
    · have hne := fun W => wd_ne (t * t) R true (by simp [ht]) W
      rw [if_neg ht] at E2
      have e := E2.out
      have T1 : Hid ((t : Int) + 1 = (t' : Int)) := by unfold Hid; omega
      have cs := fun W => mul_int ((s : Int) - (t' : Int)) ((s : Int) - (t' : Int)) (by omega) (by omega) (by omega) (by omega) W
      have E3 : Hid (((s : Int) - (t' : Int)).toNat * ((s : Int) - (t' : Int)).toNat = res) := by unfold Hid; rw [E.out]; congr 1 <;> omega
      rw [E3.out] at cs
      have BB : Hid (0 ≤ (s : Int) - (t' : Int) ∧ (s : Int) - (t' : Int) < 18446744073709551616) := ⟨by omega, by omega⟩
      clear e
      clear E E2 E3 hst ht reg
      go_wp2
      go_region_held3 (fun w' => w'.cell? ⟨w.heap.size, 3, none⟩ = some (.int .u64 (hi R)) ∧ w'.cell? ⟨w.heap.size, 4, none⟩ = some (.int .u64 (lo R))) (first | (with_reducible exact call_keeps2 (by assumption) (by assumption)) | exact ⟨q3, q4⟩)
        (first
          | (go_at_call 50; refine (cm _).mono ?_; rintro e w4 ⟨rfl, g4⟩))
      all_goals
        have G4 := G3.drew.trans g4
        have T2 := T1.out
        obtain ⟨b1, b2⟩ := BB.out
        go_wp2_with fail
        refine (cs _).mono ?_
        rintro e w5 ⟨rfl, g5⟩
        have G5 := G4.trans g5
        have VV := G5.var2
        simp only [World.size_alloc] at VV
        obtain ⟨u0, u1, u2, u3⟩ := VV
        go_wp2
        exact bodyPost_ret (v := Wd res) (by simp [results, Try.results46, go_sem, u0, u1]) rfl ⟨rfl, by repeat (first | exact G0.trans G5 | refine Gr.setCell ?_ (by simp) _)⟩
end Go.Proofs.Ytbkjelbnbgcbbaa
