import Derived.Test.YtdmdjmliggjbjaaGreatCt4
import Derived.Deep.RegionHeld3
import Derived.Test.YtdmdjmliggjbjaaGreatCtReg
/- theodoliteref03: Check, Square, Sum, Far, Dist, as contracts. -/
namespace Go.Proofs.YtdmdjmliggjbjaaGreat
open Go.RowKit

set_option maxHeartbeats 1000000 in
theorem rcheck_no {w : World} {v : Value} {l : List Int} (h : RdI w v l) (d : Int) (hn : ¬ (1 ≤ d ∧ d ≤ 64 ∧ (l.length : Int) = d)) :
    Calls Tryz.prog 100 #[v, .int .i64 d] w fun e w' => e = .returned (.int .i64 30) ∧ w = w' := by
  obtain ⟨a, cap, rfl, ha⟩ := h
  clear ha
  generalize l.length = n at *
  by_cases h1 : d < 1
  · clear hn
    go_enter Tryz.func100, Tryz.ntmps100
    go_wp2
    go_ret
    exact ⟨rfl, rfl⟩
  by_cases h2 : d > 64
  · clear hn
    go_enter Tryz.func100, Tryz.ntmps100
    go_wp2
    go_ret
    exact ⟨rfl, rfl⟩
  · have h3 : ((n : Int) == d) = false := by rw [beq_eq_false_iff_ne]; omega
    have h4 : ¬ (n : Int) = d := by omega
    clear hn
    go_enter Tryz.func100, Tryz.ntmps100
    go_wp2
    go_ret
    exact ⟨rfl, rfl⟩

set_option maxHeartbeats 2000000 in
set_option maxRecDepth 100000 in
theorem rcheck_in {w : World} {v : Value} {l : List Int} (h : RdI w v l) (hn : 1 ≤ l.length ∧ l.length ≤ 64) :
    Calls Tryz.prog 100 #[v, .int .i64 (l.length : Int)] w fun e w' => e = .returned (.int .i64 (vErr l)) ∧ w = w' := by
  obtain ⟨a, cap, rfl, ha⟩ := h
  have A : Hid (∀ i, i < l.length → ∃ b o, a = some ⟨b, o, none⟩ ∧ w.cell? ⟨b, o + i, none⟩ = some (.int .i64 l[i]!)) := ha
  obtain ⟨n, hN⟩ : ∃ n, n = l.length := ⟨_, rfl⟩
  have N : Hid (n = l.length) := hN
  rw [← hN] at hn ⊢
  obtain ⟨hn1, hn2⟩ := hn
  have hn3 : ¬ (n : Int) < 1 := by omega
  have hn4 : ¬ (n : Int) > 64 := by omega
  clear ha hN
  go_enter Tryz.func100, Tryz.ntmps100
  go_wp2
  go_loopw [5] (fun iv w' => ∃ q : Nat, iv = .int .i64 (q : Int) ∧ q ≤ n ∧ w = w' ∧ Hid (allR (l.take q) = true)) (fun iv _ => n - (intOf iv).toNat)
  case atStart => exact ⟨0, rfl, Nat.zero_le _, rfl, by simp [Hid, allR]⟩
  case round =>
    obtain ⟨q, rfl, hq, rfl, X⟩ := hrel
    by_cases hqn : q < n
    · have hqi : (q : Int) < (n : Int) := by omega
      obtain ⟨b, o, ea, hc⟩ := A.out q (by have := N.out; omega)
      subst ea
      obtain ⟨x, hx⟩ : ∃ x, x = l[q]! := ⟨_, rfl⟩
      rw [← hx] at hc
      have XX : Hid (x = l[q]! ∧ q < l.length) := ⟨hx, by have := N.out; omega⟩
      clear hx
      by_cases h1 : x < -2147483647
      · have R : Hid (vErr l = 31) := by unfold Hid vErr; rw [allR_no XX.out.2 (by rw [← XX.out.1, ← Bool.not_eq_true, inR_iff]; omega)]; rfl
        go_wp2
        go_ret
        exact ⟨by rw [R.out]; rfl, by first | rfl | trivial⟩
      by_cases h2 : x > 2147483647
      · have R : Hid (vErr l = 31) := by unfold Hid vErr; rw [allR_no XX.out.2 (by rw [← XX.out.1, ← Bool.not_eq_true, inR_iff]; omega)]; rfl
        go_wp2
        go_ret
        exact ⟨by rw [R.out]; rfl, by first | rfl | trivial⟩
      · have R : Hid (allR (l.take (q + 1)) = true) := allR_take XX.out.2 X.out (by rw [← XX.out.1, inR_iff]; omega)
        go_wp2
        go_roundw
        case rel => exact ⟨q + 1, by simp, hqn, by first | rfl | trivial, R⟩
        case measure => simp [intOf]; omega
    · have hqi : ¬ (q : Int) < (n : Int) := by omega
      have R : Hid (vErr l = 0) := by
        have := X.out
        rw [List.take_of_length_le (by have := N.out; omega)] at this
        unfold Hid vErr; rw [this]; rfl
      go_wp2
      go_ret
      exact ⟨by rw [R.out]; rfl, by first | rfl | trivial⟩
theorem rcheck_c {w : World} {v : Value} {l : List Int} (h : RdI w v l) (d : Int) :
    Calls Tryz.prog 100 #[v, .int .i64 d] w fun e w' => e = .returned (.int .i64 (chk l d)) ∧ w = w' := by
  unfold chk
  by_cases hn : 1 ≤ d ∧ d ≤ 64 ∧ (l.length : Int) = d
  · rw [if_pos hn]
    obtain ⟨h1, h2, rfl⟩ := hn
    exact rcheck_in h (by omega)
  · rw [if_neg hn]
    exact rcheck_no h d hn
theorem rcheck_v {w : World} {v : Value} {l : List Int} (h : RdI w v l) (d r : Int) (hr : chk l d = r) :
    Calls Tryz.prog 100 #[v, .int .i64 d] w fun e w' => e = .returned (.int .i64 r) ∧ w = w' := by
  subst hr; exact rcheck_c h d

set_option maxHeartbeats 1000000 in
theorem square_nn (k : Nat) (hk : k ≤ 4294967294) (w : World) : Calls Tryz.prog 76 #[.int .i64 (k : Int)] w fun e w' => e = .returned (Wd (k * k)) ∧ Gr w w' := by
  have hp := sq_small k hk
  have e1 : hi (k * k) = 0 := by unfold hi; omega
  have e2 : lo (k * k) = ((k * k : Nat) : Int) := by unfold lo; omega
  have p : (k : Int) * (k : Int) = ((k * k : Nat) : Int) := (Int.natCast_mul _ _).symm
  unfold Wd
  rw [e1, e2]
  clear e1 e2
  generalize k * k = kk at *
  have h0 : ¬ (k : Int) < 0 := by omega
  go_enter Tryz.func76, Tryz.ntmps76
  go_wp2
  exact bodyPost_ret (v := .agg #[.int .u64 0, .int .u64 (kk : Int)]) (by simp [results, Tryz.results76, go_sem]) rfl ⟨rfl, (Gr.refl _).alloc _ _⟩
set_option maxHeartbeats 1000000 in
theorem square_ng (k : Nat) (hk : k ≤ 4294967294) (h1 : 1 ≤ k) (w : World) : Calls Tryz.prog 76 #[.int .i64 (-(k : Int))] w fun e w' => e = .returned (Wd (k * k)) ∧ Gr w w' := by
  have hp := sq_small k hk
  have e1 : hi (k * k) = 0 := by unfold hi; omega
  have e2 : lo (k * k) = ((k * k : Nat) : Int) := by unfold lo; omega
  have p : (k : Int) * (k : Int) = ((k * k : Nat) : Int) := (Int.natCast_mul _ _).symm
  unfold Wd
  rw [e1, e2]
  clear e1 e2
  generalize k * k = kk at *
  have h0 : -(k : Int) < 0 := by omega
  have h2 : - -(k : Int) = (k : Int) := by omega
  go_enter Tryz.func76, Tryz.ntmps76
  go_wp2
  exact bodyPost_ret (v := .agg #[.int .u64 0, .int .u64 (kk : Int)]) (by simp [results, Tryz.results76, go_sem]) rfl ⟨rfl, (Gr.refl _).alloc _ _⟩
theorem square_c (n : Int) (k : Nat) (h : n.natAbs = k) (hk : k ≤ 4294967294) (w : World) : Calls Tryz.prog 76 #[.int .i64 n] w fun e w' => e = .returned (Wd (k * k)) ∧ Gr w w' := by
  by_cases h0 : 0 ≤ n
  · obtain rfl : n = (k : Int) := by omega
    exact square_nn k hk w
  · obtain rfl : n = -(k : Int) := by omega
    exact square_ng k hk (by omega) w

set_option maxHeartbeats 1000000 in
theorem rsum_no (a0 a1 b0 b1 : Int) (h0 : 0 ≤ a0) (h1 : 0 ≤ a1) (h2 : 0 ≤ b0) (h3 : 0 ≤ b1) (h4 : a0 + b0 < 18446744073709551616) (h5 : a1 + b1 < 18446744073709551616) (w : World) :
    Calls Tryz.prog 75 #[.agg #[.int .u64 a0, .int .u64 a1], .agg #[.int .u64 b0, .int .u64 b1]] w fun e w' => e = .returned (.agg #[.int .u64 (a0 + b0), .int .u64 (a1 + b1)]) ∧ Gr w w' := by
  have k : ¬ (a1 + b1 < a1) := by omega
  go_enter Tryz.func75, Tryz.ntmps75
  go_wp2
  exact bodyPost_ret (v := .agg #[.int .u64 (a0 + b0), .int .u64 (a1 + b1)]) (by simp [results, Tryz.results75, go_sem]) rfl ⟨rfl, by repeat (first | exact Gr.refl _ | refine Gr.alloc ?_ _ _ | refine Gr.setCell ?_ (by simp) _)⟩
set_option maxHeartbeats 1000000 in
theorem rsum_yes (a0 a1 b0 b1 : Int) (h0 : 0 ≤ a0) (h1 : 0 ≤ a1) (h2 : 0 ≤ b0) (h3 : 0 ≤ b1) (a1' : a1 < 18446744073709551616) (b1' : b1 < 18446744073709551616) (h4 : a0 + b0 + 1 < 18446744073709551616) (h5 : 18446744073709551616 ≤ a1 + b1) (w : World) :
    Calls Tryz.prog 75 #[.agg #[.int .u64 a0, .int .u64 a1], .agg #[.int .u64 b0, .int .u64 b1]] w fun e w' => e = .returned (.agg #[.int .u64 (a0 + b0 + 1), .int .u64 (a1 + b1 - 18446744073709551616)]) ∧ Gr w w' := by
  obtain ⟨r, hr⟩ : ∃ r, r = a1 + b1 - 18446744073709551616 := ⟨_, rfl⟩
  have hw : IntKind.u64.wrap (a1 + b1) = r := by rw [IntKind.wrap_u64]; omega
  have k : r < a1 := by omega
  have k0 : 0 ≤ r := by omega
  obtain ⟨s, hs⟩ : ∃ s, s = a0 + b0 := ⟨_, rfl⟩
  have hw2 : IntKind.u64.wrap (a0 + b0) = s := by rw [IntKind.wrap_u64]; omega
  have s0 : 0 ≤ s := by omega
  have s1 : s + 1 < 18446744073709551616 := by omega
  rw [← hr, ← hs]
  clear hr hs h4 h5 h0 h2
  go_enter Tryz.func75, Tryz.ntmps75
  go_wp2
  exact bodyPost_ret (v := .agg #[.int .u64 (s + 1), .int .u64 r]) (by simp [results, Tryz.results75, go_sem]) rfl ⟨rfl, by repeat (first | exact Gr.refl _ | refine Gr.alloc ?_ _ _ | refine Gr.setCell ?_ (by simp) _)⟩
theorem rsum_c (s t : Nat) (h : s + t < 340282366920938463463374607431768211456) (w : World) : Calls Tryz.prog 75 #[Wd s, Wd t] w fun e w' => e = .returned (Wd (s + t)) ∧ Gr w w' := by
  have hb := hi_bd h
  by_cases hc : lo s + lo t < 18446744073709551616
  · have e1 : hi s + hi t = hi (s + t) := by unfold hi lo at *; omega
    have e2 : lo s + lo t = lo (s + t) := by unfold lo at *; omega
    have := rsum_no (hi s) (lo s) (hi t) (lo t) (hi_nn s) (lo_bd s).1 (hi_nn t) (lo_bd t).1 (by omega) hc w
    rw [e1, e2] at this; exact this
  · have e1 : hi s + hi t + 1 = hi (s + t) := by unfold hi lo at *; omega
    have e2 : lo s + lo t - 18446744073709551616 = lo (s + t) := by unfold lo at *; omega
    have := rsum_yes (hi s) (lo s) (hi t) (lo t) (hi_nn s) (lo_bd s).1 (hi_nn t) (lo_bd t).1 (lo_bd s).2 (lo_bd t).2 (by omega) (by omega) w
    rw [e1, e2] at this; exact this
end Go.Proofs.YtdmdjmliggjbjaaGreat

/- Roots; vec.ballBound. -/
namespace Go.Proofs.YtdmdjmliggjbjaaGreat
open Go.RowKit

/-- The greatest number up to n whose square is not above a. -/
def rtTo (a : Nat) : Nat → Nat
  | 0 => 0
  | n + 1 => if (n + 1) * (n + 1) ≤ a then n + 1 else rtTo a n
def rt (a : Nat) : Nat := rtTo a a
theorem rtTo_is (a : Nat) : ∀ n, a < (n + 1) * (n + 1) → IsRoot a (rtTo a n)
  | 0, h => ⟨Nat.zero_le _, by simpa [rtTo] using h⟩
  | n + 1, h => by
    unfold rtTo
    split
    · rename_i h1; exact ⟨h1, h⟩
    · rename_i h1; exact rtTo_is a n (by omega)
theorem rt_is (a : Nat) : IsRoot a (rt a) := rtTo_is a a (by
  have : (a + 1) * 1 ≤ (a + 1) * (a + 1) := Nat.mul_le_mul_left _ (by omega)
  omega)
theorem root_le {a r s : Nat} (h1 : IsRoot a r) (h2 : IsRoot a s) : s ≤ r := by
  apply Nat.le_of_not_lt; intro hc
  have := sq_le (show r + 1 ≤ s by omega)
  have := h1.2; have := h2.1; omega
theorem root_one {a r : Nat} (h : IsRoot a r) : r = rt a := Nat.le_antisymm (root_le (rt_is a) h) (root_le h (rt_is a))
theorem rt_lt {a : Nat} (ha : a < 340282366920938463463374607431768211456) : rt a < 18446744073709551616 := by
  apply Nat.lt_of_not_le; intro hc
  have := sq_le hc
  have := (rt_is a).1; omega
theorem sqrt_c (a : Nat) (ha : a < 340282366920938463463374607431768211456) (w : World) :
    Calls Tryz.prog 117 #[Wd a] w fun e w' => e = .returned (.int .u64 (rt a : Int)) ∧ Gr w w' := by
  refine (sqrt_any a ha w).mono ?_
  rintro e w' ⟨r, rfl, _, hr, g⟩
  rw [root_one hr]; exact ⟨rfl, g⟩

/-- The least number whose square is not below R. -/
def rup (R : Nat) : Nat := if rt R * rt R = R then rt R else rt R + 1
/-- The bound of a ball: a the distance from its centre. -/
def ballV (a R : Nat) : Nat := if rt a ≤ rt R then 0 else (rt a - rup R) * (rt a - rup R)

theorem wd_ne (a b : Nat) (r : Bool) (h : (!decide (a = b)) = r) (W : World) : (binOp .neq 41 (.agg #[.int .u64 (hi a), .int .u64 (lo a)]) (.agg #[.int .u64 (hi b), .int .u64 (lo b)])).run Tryz.prog W = .ok (.bool r) W := by
  subst h
  have h1 := wd_eq a b W
  rw [run_eql_struct] at h1
  rw [run_neq_struct]
  revert h1
  generalize (Op.equalIn 10000 41 (Wd a) (Wd b)).run Tryz.prog W = x
  intro h1
  cases x with
  | ok v w' =>
    simp only [Result.andThen] at h1 ⊢
    injection h1 with h2 h3
    injection h2 with h4
    rw [h3, h4]
  | _ => simp [Result.andThen] at h1

set_option maxHeartbeats 4000000 in
set_option maxRecDepth 100000 in
theorem ballBound_c {w : World} {v u : Value} {r : Reg} {a : List Int} (hv : RdR w v r) (hu : RdI w u a) (hl : r.L.length = a.length) (hn : r.L.length ≤ 64) (rl : allR r.L = true) (ra : allR a = true) (hR : r.R < 340282366920938463463374607431768211456) :
    Calls Tryz.prog 99 #[v, u] w fun e w' => e = .returned (Wd (ballV (dst r.L a) r.R)) ∧ Gr w w' := by
  have HV : Hid (RdR w v r) := hv
  obtain ⟨vl, vh, vi, rfl, hL, hH, hI⟩ := hv
  have RA : Hid (RegAt (w.alloc (rc r vl vh vi)) w.heap.size r vl vh vi) := RegAt.new w r vl vh vi
  have G00 : Gr w (w.alloc (rc r vl vh vi)) := (Gr.refl _).alloc _ _
  have G0 : Gr w ((w.alloc (rc r vl vh vi)).alloc (.cells #[.int .u64 0, .int .u64 0] 41)) := G00.alloc _ _
  have c1 := distance_c (hL.gb G0.gb) (hu.gb G0.gb) hl hn rl ra
  have c2 := fun W => sqrt_c (dst r.L a) (dst_lt rl ra hl hn) W
  have c3 := fun W => sqrt_c r.R hR W
  have l1 := rt_lt (dst_lt rl ra hl hn)
  have l2 := rt_lt hR
  have l3 := (rt_is (dst r.L a)).1
  have l4 := dst_lt rl ra hl hn
  clear hH hI HV hl hn rl ra
  obtain ⟨S, L, H, R, I⟩ := r
  dsimp only at *
  obtain ⟨pl, cl, rfl, _⟩ := hL
  obtain ⟨pa, ca, rfl, _⟩ := hu
  generalize L.length = nl at *
  generalize a.length = na at *
  have E : Hid (ballV (dst L a) R = if rt (dst L a) ≤ rt R then 0 else (rt (dst L a) - rup R) * (rt (dst L a) - rup R)) := rfl
  generalize ballV (dst L a) R = res at *
  generalize dst L a = D at *
  have E2 : Hid (rup R = if rt R * rt R = R then rt R else rt R + 1) := rfl
  generalize rt D = s at *
  generalize rup R = t' at *
  generalize rt R = t at *
  clear l3 l4
  have W0 : Hid (Gr (w.alloc (.cells #[.int .i64 S, .slice pl nl cl, vh, .int .u64 (hi R), .int .u64 (lo R), vi] 48)) ((w.alloc (.cells #[.int .i64 S, .slice pl nl cl, vh, .int .u64 (hi R), .int .u64 (lo R), vi] 48)).alloc (.cells #[.int .u64 0, .int .u64 0] 41))) := (Gr.refl _).alloc _ _
  go_enter Tryz.func99, Tryz.ntmps99
  go_wp2_with fail
  refine c1.mono ?_
  rintro e w1 ⟨rfl, g1⟩
  go_wp2_with fail
  refine (c2 _).mono ?_
  rintro e w2 ⟨rfl, g2⟩
  have g2 := g1.trans g2
  obtain ⟨_, _, _, q3, q4, _⟩ := RA.out.gb (W0.out.trans g2).gb
  dsimp only at q3 q4
  go_wp2_with fail
  refine (c3 _).mono ?_
  rintro e w3 ⟨rfl, g3⟩
  have G3 := g2.trans g3
  have VV := G3.var2
  simp only [World.size_alloc] at VV
  obtain ⟨v0, v1, v2, v3⟩ := VV
  clear c1 c2 c3 g1 g2 g3 q3 q4
  by_cases hst : s ≤ t
  · rw [if_pos hst] at E
    have e := E.out
    subst e
    have hst' : (s : Int) ≤ (t : Int) := by omega
    clear E E2 hst
    go_wp2
    exact bodyPost_ret (v := Wd 0) (by simp [results, Tryz.results99, go_sem, v0, v1, hi, lo]) rfl ⟨rfl, by repeat (first | exact G0.trans G3 | refine Gr.setCell ?_ (by simp) _)⟩
  · rw [if_neg hst] at E
    have hst' : ¬ (s : Int) ≤ (t : Int) := by omega
    obtain ⟨_, _, _, q3, q4, _⟩ := RA.out.gb (W0.out.trans G3).gb
    dsimp only at q3 q4
    have cm := fun W => mul_any t t l2 l2 W
    have reg : ∀ r' : Bool, (!decide (t * t = R)) = r' → Hid ((!decide (t * t = R)) = r') := fun _ h => h
    by_cases ht : t * t = R
    · have hne := fun W => wd_ne (t * t) R false (by simp [ht]) W
      rw [if_pos ht] at E2
      have e := E2.out
      subst e
      have cs := fun W => mul_int ((s : Int) - (t' : Int)) ((s : Int) - (t' : Int)) (by omega) (by omega) (by omega) (by omega) W
      have E3 : Hid (((s : Int) - (t' : Int)).toNat * ((s : Int) - (t' : Int)).toNat = res) := by unfold Hid; rw [E.out]; congr 1 <;> omega
      rw [E3.out] at cs
      have b1 : 0 ≤ (s : Int) - (t' : Int) := by omega
      have b2 : (s : Int) - (t' : Int) < 18446744073709551616 := by omega
      clear E E2 E3 hst ht reg
      go_wp2
      go_region_held3 (fun w' => w'.cell? ⟨w.heap.size, 3, none⟩ = some (.int .u64 (hi R)) ∧ w'.cell? ⟨w.heap.size, 4, none⟩ = some (.int .u64 (lo R))) (first | (with_reducible exact call_keeps2 (by assumption) (by assumption)) | exact ⟨q3, q4⟩)
        (first
          | (go_at_call 118; refine (cm _).mono ?_; rintro e w4 ⟨rfl, g4⟩))
      all_goals
        have G4 := G3.drew.trans g4
        go_wp2_with fail
        refine (cs _).mono ?_
        rintro e w5 ⟨rfl, g5⟩
        have G5 := G4.trans g5
        have VV := G5.var2
        simp only [World.size_alloc] at VV
        obtain ⟨u0, u1, u2, u3⟩ := VV
        go_wp2
        exact bodyPost_ret (v := Wd res) (by simp [results, Tryz.results99, go_sem, u0, u1]) rfl ⟨rfl, by repeat (first | exact G0.trans G5 | refine Gr.setCell ?_ (by simp) _)⟩
    · have hne := fun W => wd_ne (t * t) R true (by simp [ht]) W
      rw [if_neg ht] at E2
      have e := E2.out
      have T1 : Hid ((t : Int) + 1 = (t' : Int)) := by unfold Hid; omega
      have cs := fun W => mul_int ((s : Int) - (t' : Int)) ((s : Int) - (t' : Int)) (by omega) (by omega) (by omega) (by omega) W
      have E3 : Hid (((s : Int) - (t' : Int)).toNat * ((s : Int) - (t' : Int)).toNat = res) := by unfold Hid; rw [E.out]; congr 1 <;> omega
      rw [E3.out] at cs
      have BB : Hid (0 ≤ (s : Int) - (t' : Int) ∧ (s : Int) - (t' : Int) < 18446744073709551616) := ⟨by omega, by omega⟩
      clear e
      clear E E2 E3 hst ht reg
      go_wp2
      go_region_held3 (fun w' => w'.cell? ⟨w.heap.size, 3, none⟩ = some (.int .u64 (hi R)) ∧ w'.cell? ⟨w.heap.size, 4, none⟩ = some (.int .u64 (lo R))) (first | (with_reducible exact call_keeps2 (by assumption) (by assumption)) | exact ⟨q3, q4⟩)
        (first
          | (go_at_call 118; refine (cm _).mono ?_; rintro e w4 ⟨rfl, g4⟩))
      all_goals
        have G4 := G3.drew.trans g4
        have T2 := T1.out
        obtain ⟨b1, b2⟩ := BB.out
        go_wp2_with fail
        refine (cs _).mono ?_
        rintro e w5 ⟨rfl, g5⟩
        have G5 := G4.trans g5
        have VV := G5.var2
        simp only [World.size_alloc] at VV
        obtain ⟨u0, u1, u2, u3⟩ := VV
        go_wp2
        exact bodyPost_ret (v := Wd res) (by simp [results, Tryz.results99, go_sem, u0, u1]) rfl ⟨rfl, by repeat (first | exact G0.trans G5 | refine Gr.setCell ?_ (by simp) _)⟩
end Go.Proofs.YtdmdjmliggjbjaaGreat
