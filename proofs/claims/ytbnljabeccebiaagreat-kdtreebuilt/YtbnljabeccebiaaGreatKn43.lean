import Derived.Test.YtbnljabeccebiaaGreatKn3
import Derived.Test.YtbnljabeccebiaaGreatKn42
import Derived.BigQuiet
import Derived.Test.YtbnljabeccebiaaGreatKn1
import Derived.Deep.RegionHeld3
import Derived.Test.YtbnljabeccebiaaGreatKn9
import Derived.Test.YtbnljabeccebiaaGreatKn10
import Derived.Test.YtbnljabeccebiaaGreatKn11
/- theodolitekeep.Vectors: it tells some number. -/
namespace Go.Proofs.YtbnljabeccebiaaGreat
open Go.RowKit Go.Sort
set_option maxHeartbeats 2000000 in
set_option maxRecDepth 100000 in
theorem vects_c {w : World} {v : Value} {rs : List Rw} (h : RdW w v rs) (most : Int) (hlen : rs.length ≤ 9223372036854775807) :
    Calls Tryz.prog 28 #[v, .int .i64 most] w fun e w' => (∃ z : Int, e = .returned (.int .i64 z)) ∧ w = w' := by
  obtain ⟨a, cap, rfl, ha⟩ := h
  have A : Hid (∀ i, i < rs.length → ∃ b o u, a = some ⟨b, o, none⟩ ∧ w.cell? ⟨b, o + i * 2, none⟩ = some (.int .i64 rs[i]!.1) ∧ w.cell? ⟨b, o + i * 2 + 1, none⟩ = some u ∧ RdI w u rs[i]!.2) := ha
  obtain ⟨n, hN⟩ : ∃ n, n = rs.length := ⟨_, rfl⟩
  have N : Hid (n = rs.length) := hN
  rw [← hN] at hlen ⊢
  clear ha hN
  go_enter Tryz.func28, Tryz.ntmps28
  go_wp2
  go_loopw [5, 6] (fun zv iv w' => ∃ (q : Nat) (z : Int), zv = .int .i64 z ∧ iv = .int .i64 (q : Int) ∧ q ≤ n ∧ w = w') (fun _ iv _ => n - (intOf iv).toNat)
  case atStart => exact ⟨0, n, rfl, rfl, Nat.zero_le _, rfl⟩
  case round =>
    obtain ⟨q, z, rfl, rfl, hq, rfl⟩ := hrel
    by_cases hqn : q < n
    · have hqi : (q : Int) < (n : Int) := by omega
      by_cases hz : z ≤ most
      · have hql : q < rs.length := by have := N.out; omega
        obtain ⟨b, o, u, ea, hc, hd, hr⟩ := A.out q hql
        obtain ⟨pu, cu, eu, _⟩ := hr
        subst ea; subst eu
        generalize rs[q]!.2.length = k at *
        generalize rs[q]!.1 = x at *
        clear hql
        go_wp2
        go_roundw
        case rel => exact ⟨q + 1, _, rfl, by simp, hqn, by first | rfl | trivial⟩
        case measure => simp [intOf]; omega
      · go_wp2
        go_ret
        exact ⟨⟨_, rfl⟩, by first | rfl | trivial⟩
    · have hqi : ¬ (q : Int) < (n : Int) := by omega
      go_wp2
      go_ret
      exact ⟨⟨_, rfl⟩, by first | rfl | trivial⟩
end Go.Proofs.YtbnljabeccebiaaGreat

/- The law's calls, read; its big. -/
namespace Go.Proofs.YtbnljabeccebiaaGreat
open Go.RowKit Go.Sort

/-- A call: its kind, id, k and budget, its row, its vector. -/
abbrev Opv : Type := (Int × Int × Int × Int) × Rw × List Int
/-- A slice reads as these calls. -/
def RdO (w : World) (u : Value) (ops : List Opv) : Prop := ∃ a cap, u = .slice a ops.length cap ∧ ∀ i, i < ops.length → ∃ b o rv qv, a = some ⟨b, o, none⟩ ∧
  (w.cell? ⟨b, o + i * 7, none⟩ = some (.int .i64 ops[i]!.1.1) ∧ w.cell? ⟨b, o + i * 7 + 1, none⟩ = some (.int .i64 ops[i]!.1.2.1) ∧ w.cell? ⟨b, o + i * 7 + 2, none⟩ = some (.int .i64 ops[i]!.1.2.2.1) ∧
  w.cell? ⟨b, o + i * 7 + 3, none⟩ = some (.int .i64 ops[i]!.1.2.2.2) ∧ w.cell? ⟨b, o + i * 7 + 4, none⟩ = some (.int .i64 ops[i]!.2.1.1) ∧ w.cell? ⟨b, o + i * 7 + 5, none⟩ = some rv ∧ w.cell? ⟨b, o + i * 7 + 6, none⟩ = some qv) ∧
  RdI w rv ops[i]!.2.1.2 ∧ RdI w qv ops[i]!.2.2
theorem RdO.gb {w w' : World} {v : Value} {l : List Opv} (h : RdO w v l) (g : Gb w w') : RdO w' v l := by
  obtain ⟨a, cap, e, h⟩ := h
  refine ⟨a, cap, e, fun i hi' => ?_⟩
  obtain ⟨b, o, rv, qv, e0, ⟨c0, c1, c2, c3, c4, c5, c6⟩, r1, r2⟩ := h i hi'
  exact ⟨b, o, rv, qv, e0, ⟨gb_keeps g c0, gb_keeps g c1, gb_keeps g c2, gb_keeps g c3, gb_keeps g c4, gb_keeps g c5, gb_keeps g c6⟩, r1.gb g, r2.gb g⟩
theorem rdw_nil (w : World) : RdW w (.slice none 0 0) [] := ⟨none, 0, rfl, fun _i hi => absurd hi (Nat.not_lt_zero _)⟩
theorem rdo_nil (w : World) : RdO w (.slice none 0 0) [] := ⟨none, 0, rfl, fun _i hi => absurd hi (Nat.not_lt_zero _)⟩
/-- What big tells: one or the other. -/
def BigO (w : World) (e : Ending) (w' : World) : Prop := ∃ b, e = .returned (.bool b) ∧ Gb w w'
set_option maxHeartbeats 2000000 in
set_option maxRecDepth 100000 in
theorem kbig_c {w : World} {v u : Value} {rs : List Rw} {ops : List Opv} (hv : RdW w v rs) (hlen : rs.length ≤ 9223372036854775807) (hu : RdO w u ops) :
    Calls Tryz.prog 9 #[v, u] w fun e w' => BigO w e w' := by
  have c := vects_c hv 32768 hlen
  obtain ⟨av, cv, rfl, _⟩ := hv
  have O : Hid (RdO w u ops) := hu
  obtain ⟨au, cu, rfl, _⟩ := hu
  obtain ⟨n, hN⟩ : ∃ n, n = ops.length := ⟨_, rfl⟩
  have N : Hid (n = ops.length) := hN
  rw [← hN] at O ⊢
  clear hN
  generalize rs.length = m at *
  go_enter Tryz.func9, Tryz.ntmps9
  by_cases h1 : 2000 < (n : Int)
  · go_wp2
    go_ret
    exact ⟨_, rfl, Below.refl _ _⟩
  by_cases h2 : 2000 < (m : Int)
  · go_wp2
    go_ret
    exact ⟨_, rfl, Below.refl _ _⟩
  go_wp2_with fail
  refine c.mono ?_
  rintro e w' ⟨⟨z, rfl⟩, e2⟩
  subst e2
  clear c
  by_cases h3 : 32768 < z
  · go_wp2
    go_ret
    exact ⟨_, rfl, Below.refl _ _⟩
  go_wp2
  go_loopw [5, 6] (fun zv iv w' => ∃ (q : Nat) (z : Int), zv = .int .i64 z ∧ iv = .int .i64 (q : Int) ∧ q ≤ n ∧ Hid (Gb w w')) (fun _ iv _ => n - (intOf iv).toNat)
  case atStart => exact ⟨0, 0, rfl, rfl, Nat.zero_le _, Below.refl _ _⟩
  case round =>
    obtain ⟨q, z, rfl, rfl, hq, G⟩ := hrel
    by_cases hqn : q < n
    · have hqi : (q : Int) < (n : Int) := by omega
      by_cases hz : z ≤ 32768
      · rename_i w'
        obtain ⟨a, cap, ea, hO⟩ := (RdO.gb O.out G.out)
        obtain ⟨b, o, rv, qv, e0, ⟨c0, c1, c2, c3, c4, c5, c6⟩, ⟨a1, k1, e1, _⟩, ⟨a2, k2, e2, _⟩⟩ := hO q (by have := N.out; omega)
        injection ea with ea1 ea2 ea3
        subst ea1 ea3 e0 e1 e2
        generalize ops[q]!.2.1.2.length = x1 at *
        generalize ops[q]!.2.2.length = x2 at *
        clear ea2 hO c0 c1 c2 c3 c4
        go_wp2
        go_quiet (fail)
        go_wp2
        go_roundw
        case rel => exact ⟨q + 1, _, rfl, by simp, hqn, gb_trans G.out (gw_drewN (Tk.Gw.refl _) _).gr⟩
        case measure => simp [intOf]; omega
      · go_wp2
        go_ret
        exact ⟨_, rfl, G.out⟩
    · have hqi : ¬ (q : Int) < (n : Int) := by omega
      go_wp2
      go_ret
      exact ⟨_, rfl, G.out⟩
end Go.Proofs.YtbnljabeccebiaaGreat

/- The reference's find. -/
namespace Go.Proofs.YtbnljabeccebiaaGreat
open Go.RowKit Go.Sort

/-- Where the row of an id stands: nowhere, or there. -/
def Fnd (rs : List Rw) (x z : Int) : Prop := (z = -1 ∧ ∀ i, i < rs.length → rs[i]!.1 ≠ x) ∨ ∃ i : Nat, z = (i : Int) ∧ i < rs.length ∧ rs[i]!.1 = x
set_option maxRecDepth 100000 in
set_option maxHeartbeats 1000000 in
theorem rfind_c {w : World} {v : Value} {rs : List Rw} (h : RdW w v rs) (hlen : rs.length ≤ 4611686018427387904) (x : Int) :
    Calls Tryz.prog 61 #[v, .int .i64 x] w fun e w' => (∃ z : Int, e = .returned (.int .i64 z) ∧ Fnd rs x z) ∧ w = w' := by
  obtain ⟨a, cap, rfl, ha⟩ := h
  have A : Hid (∀ i, i < rs.length → ∃ b o u, a = some ⟨b, o, none⟩ ∧ w.cell? ⟨b, o + i * 2, none⟩ = some (.int .i64 rs[i]!.1) ∧ w.cell? ⟨b, o + i * 2 + 1, none⟩ = some u ∧ RdI w u rs[i]!.2) := ha
  obtain ⟨n, hN⟩ : ∃ n, n = rs.length := ⟨_, rfl⟩
  have N : Hid (n = rs.length) := hN
  rw [← hN] at hlen ⊢
  clear ha hN
  go_enter Tryz.func61, Tryz.ntmps61
  go_wp2
  go_loopw [5] (fun iv w' => ∃ q : Nat, iv = .int .i64 (q : Int) ∧ q ≤ n ∧ Hid (∀ i, i < q → rs[i]!.1 ≠ x) ∧ w = w') (fun iv _ => n - (intOf iv).toNat)
  case atStart => exact ⟨0, rfl, Nat.zero_le _, fun i hi => absurd hi (Nat.not_lt_zero _), rfl⟩
  case round =>
    obtain ⟨q, rfl, hq, X, rfl⟩ := hrel
    by_cases hqn : q < n
    · have hqi : (q : Int) < (n : Int) := by omega
      have hql : q < rs.length := by have := N.out; omega
      obtain ⟨b, o, u, ea, hc, _, _⟩ := A.out q hql
      subst ea
      by_cases hx : rs[q]!.1 = x
      · have F : Hid (Fnd rs x (q : Int)) := .inr ⟨q, rfl, hql, hx⟩
        rw [hx] at hc
        clear hql X hx
        go_wp2
        go_ret
        exact ⟨⟨_, rfl, F.out⟩, by first | rfl | trivial⟩
      · have R : Hid (∀ i, i < q + 1 → rs[i]!.1 ≠ x) := fun i hi => by
          by_cases e : i = q
          · rw [e]; exact hx
          · exact X.out i (by omega)
        have hx' : (rs[q]!.1 == x) = false := by rw [beq_eq_false_iff_ne]; exact hx
        generalize rs[q]!.1 = y at hc hx hx'
        clear hql X
        go_wp2
        go_roundw
        case rel => exact ⟨q + 1, by simp, hqn, R, by first | rfl | trivial⟩
        case measure => simp [intOf]; omega
    · have hqi : ¬ (q : Int) < (n : Int) := by omega
      have F : Hid (Fnd rs x (-1)) := .inl ⟨rfl, fun i hi => X.out i (by have := N.out; omega)⟩
      clear X
      go_wp2
      go_ret
      exact ⟨⟨_, rfl, F.out⟩, by first | rfl | trivial⟩
end Go.Proofs.YtbnljabeccebiaaGreat

/- theodoliteref03: Check, Square, Sum, Far, Dist, as contracts. -/
namespace Go.Proofs.YtbnljabeccebiaaGreat
open Go.RowKit

set_option maxHeartbeats 1000000 in
theorem rcheck_no {w : World} {v : Value} {l : List Int} (h : RdI w v l) (d : Int) (hn : ¬ (1 ≤ d ∧ d ≤ 64 ∧ (l.length : Int) = d)) :
    Calls Tryz.prog 60 #[v, .int .i64 d] w fun e w' => e = .returned (.int .i64 30) ∧ w = w' := by
  obtain ⟨a, cap, rfl, ha⟩ := h
  clear ha
  generalize l.length = n at *
  by_cases h1 : d < 1
  · clear hn
    go_enter Tryz.func60, Tryz.ntmps60
    go_wp2
    go_ret
    exact ⟨rfl, rfl⟩
  by_cases h2 : d > 64
  · clear hn
    go_enter Tryz.func60, Tryz.ntmps60
    go_wp2
    go_ret
    exact ⟨rfl, rfl⟩
  · have h3 : ((n : Int) == d) = false := by rw [beq_eq_false_iff_ne]; omega
    have h4 : ¬ (n : Int) = d := by omega
    clear hn
    go_enter Tryz.func60, Tryz.ntmps60
    go_wp2
    go_ret
    exact ⟨rfl, rfl⟩

set_option maxHeartbeats 2000000 in
set_option maxRecDepth 100000 in
theorem rcheck_in {w : World} {v : Value} {l : List Int} (h : RdI w v l) (hn : 1 ≤ l.length ∧ l.length ≤ 64) :
    Calls Tryz.prog 60 #[v, .int .i64 (l.length : Int)] w fun e w' => e = .returned (.int .i64 (vErr l)) ∧ w = w' := by
  obtain ⟨a, cap, rfl, ha⟩ := h
  have A : Hid (∀ i, i < l.length → ∃ b o, a = some ⟨b, o, none⟩ ∧ w.cell? ⟨b, o + i, none⟩ = some (.int .i64 l[i]!)) := ha
  obtain ⟨n, hN⟩ : ∃ n, n = l.length := ⟨_, rfl⟩
  have N : Hid (n = l.length) := hN
  rw [← hN] at hn ⊢
  obtain ⟨hn1, hn2⟩ := hn
  have hn3 : ¬ (n : Int) < 1 := by omega
  have hn4 : ¬ (n : Int) > 64 := by omega
  clear ha hN
  go_enter Tryz.func60, Tryz.ntmps60
  go_wp2
  go_loopw [5] (fun iv w' => ∃ q : Nat, iv = .int .i64 (q : Int) ∧ q ≤ n ∧ w = w' ∧ Hid (allR (l.take q) = true)) (fun iv _ => n - (intOf iv).toNat)
  case atStart => exact ⟨0, rfl, Nat.zero_le _, rfl, by simp [Hid, allR]⟩
  case round =>
    obtain ⟨q, rfl, hq, rfl, X⟩ := hrel
    by_cases hqn : q < n
    · have hqi : (q : Int) < (n : Int) := by omega
      obtain ⟨b, o, ea, hc⟩ := A.out q (by have := N.out; omega)
      subst ea
      obtain ⟨x, hx⟩ : ∃ x, x = l[q]! := ⟨_, rfl⟩
      rw [← hx] at hc
      have XX : Hid (x = l[q]! ∧ q < l.length) := ⟨hx, by have := N.out; omega⟩
      clear hx
      by_cases h1 : x < -2147483647
      · have R : Hid (vErr l = 31) := by unfold Hid vErr; rw [allR_no XX.out.2 (by rw [← XX.out.1, ← Bool.not_eq_true, inR_iff]; omega)]; rfl
        go_wp2
        go_ret
        exact ⟨by rw [R.out]; rfl, by first | rfl | trivial⟩
      by_cases h2 : x > 2147483647
      · have R : Hid (vErr l = 31) := by unfold Hid vErr; rw [allR_no XX.out.2 (by rw [← XX.out.1, ← Bool.not_eq_true, inR_iff]; omega)]; rfl
        go_wp2
        go_ret
        exact ⟨by rw [R.out]; rfl, by first | rfl | trivial⟩
      · have R : Hid (allR (l.take (q + 1)) = true) := allR_take XX.out.2 X.out (by rw [← XX.out.1, inR_iff]; omega)
        go_wp2
        go_roundw
        case rel => exact ⟨q + 1, by simp, hqn, by first | rfl | trivial, R⟩
        case measure => simp [intOf]; omega
    · have hqi : ¬ (q : Int) < (n : Int) := by omega
      have R : Hid (vErr l = 0) := by
        have := X.out
        rw [List.take_of_length_le (by have := N.out; omega)] at this
        unfold Hid vErr; rw [this]; rfl
      go_wp2
      go_ret
      exact ⟨by rw [R.out]; rfl, by first | rfl | trivial⟩
theorem rcheck_c {w : World} {v : Value} {l : List Int} (h : RdI w v l) (d : Int) :
    Calls Tryz.prog 60 #[v, .int .i64 d] w fun e w' => e = .returned (.int .i64 (chk l d)) ∧ w = w' := by
  unfold chk
  by_cases hn : 1 ≤ d ∧ d ≤ 64 ∧ (l.length : Int) = d
  · rw [if_pos hn]
    obtain ⟨h1, h2, rfl⟩ := hn
    exact rcheck_in h (by omega)
  · rw [if_neg hn]
    exact rcheck_no h d hn
theorem rcheck_v {w : World} {v : Value} {l : List Int} (h : RdI w v l) (d r : Int) (hr : chk l d = r) :
    Calls Tryz.prog 60 #[v, .int .i64 d] w fun e w' => e = .returned (.int .i64 r) ∧ w = w' := by
  subst hr; exact rcheck_c h d

set_option maxHeartbeats 1000000 in
theorem square_nn (k : Nat) (hk : k ≤ 4294967294) (w : World) : Calls Tryz.prog 180 #[.int .i64 (k : Int)] w fun e w' => e = .returned (Wd (k * k)) ∧ Gr w w' := by
  have hp := sq_small k hk
  have e1 : hi (k * k) = 0 := by unfold hi; omega
  have e2 : lo (k * k) = ((k * k : Nat) : Int) := by unfold lo; omega
  have p : (k : Int) * (k : Int) = ((k * k : Nat) : Int) := (Int.natCast_mul _ _).symm
  unfold Wd
  rw [e1, e2]
  clear e1 e2
  generalize k * k = kk at *
  have h0 : ¬ (k : Int) < 0 := by omega
  go_enter Tryz.func180, Tryz.ntmps180
  go_wp2
  exact bodyPost_ret (v := .agg #[.int .u64 0, .int .u64 (kk : Int)]) (by simp [results, Tryz.results180, go_sem]) rfl ⟨rfl, (Gr.refl _).alloc _ _⟩
set_option maxHeartbeats 1000000 in
theorem square_ng (k : Nat) (hk : k ≤ 4294967294) (h1 : 1 ≤ k) (w : World) : Calls Tryz.prog 180 #[.int .i64 (-(k : Int))] w fun e w' => e = .returned (Wd (k * k)) ∧ Gr w w' := by
  have hp := sq_small k hk
  have e1 : hi (k * k) = 0 := by unfold hi; omega
  have e2 : lo (k * k) = ((k * k : Nat) : Int) := by unfold lo; omega
  have p : (k : Int) * (k : Int) = ((k * k : Nat) : Int) := (Int.natCast_mul _ _).symm
  unfold Wd
  rw [e1, e2]
  clear e1 e2
  generalize k * k = kk at *
  have h0 : -(k : Int) < 0 := by omega
  have h2 : - -(k : Int) = (k : Int) := by omega
  go_enter Tryz.func180, Tryz.ntmps180
  go_wp2
  exact bodyPost_ret (v := .agg #[.int .u64 0, .int .u64 (kk : Int)]) (by simp [results, Tryz.results180, go_sem]) rfl ⟨rfl, (Gr.refl _).alloc _ _⟩
theorem square_c (n : Int) (k : Nat) (h : n.natAbs = k) (hk : k ≤ 4294967294) (w : World) : Calls Tryz.prog 180 #[.int .i64 n] w fun e w' => e = .returned (Wd (k * k)) ∧ Gr w w' := by
  by_cases h0 : 0 ≤ n
  · obtain rfl : n = (k : Int) := by omega
    exact square_nn k hk w
  · obtain rfl : n = -(k : Int) := by omega
    exact square_ng k hk (by omega) w

set_option maxHeartbeats 1000000 in
theorem rsum_no (a0 a1 b0 b1 : Int) (h0 : 0 ≤ a0) (h1 : 0 ≤ a1) (h2 : 0 ≤ b0) (h3 : 0 ≤ b1) (h4 : a0 + b0 < 18446744073709551616) (h5 : a1 + b1 < 18446744073709551616) (w : World) :
    Calls Tryz.prog 179 #[.agg #[.int .u64 a0, .int .u64 a1], .agg #[.int .u64 b0, .int .u64 b1]] w fun e w' => e = .returned (.agg #[.int .u64 (a0 + b0), .int .u64 (a1 + b1)]) ∧ Gr w w' := by
  have k : ¬ (a1 + b1 < a1) := by omega
  go_enter Tryz.func179, Tryz.ntmps179
  go_wp2
  exact bodyPost_ret (v := .agg #[.int .u64 (a0 + b0), .int .u64 (a1 + b1)]) (by simp [results, Tryz.results179, go_sem]) rfl ⟨rfl, by repeat (first | exact Gr.refl _ | refine Gr.alloc ?_ _ _ | refine Gr.setCell ?_ (by simp) _)⟩
set_option maxHeartbeats 1000000 in
theorem rsum_yes (a0 a1 b0 b1 : Int) (h0 : 0 ≤ a0) (h1 : 0 ≤ a1) (h2 : 0 ≤ b0) (h3 : 0 ≤ b1) (a1' : a1 < 18446744073709551616) (b1' : b1 < 18446744073709551616) (h4 : a0 + b0 + 1 < 18446744073709551616) (h5 : 18446744073709551616 ≤ a1 + b1) (w : World) :
    Calls Tryz.prog 179 #[.agg #[.int .u64 a0, .int .u64 a1], .agg #[.int .u64 b0, .int .u64 b1]] w fun e w' => e = .returned (.agg #[.int .u64 (a0 + b0 + 1), .int .u64 (a1 + b1 - 18446744073709551616)]) ∧ Gr w w' := by
  obtain ⟨r, hr⟩ : ∃ r, r = a1 + b1 - 18446744073709551616 := ⟨_, rfl⟩
  have hw : IntKind.u64.wrap (a1 + b1) = r := by rw [IntKind.wrap_u64]; omega
  have k : r < a1 := by omega
  have k0 : 0 ≤ r := by omega
  obtain ⟨s, hs⟩ : ∃ s, s = a0 + b0 := ⟨_, rfl⟩
  have hw2 : IntKind.u64.wrap (a0 + b0) = s := by rw [IntKind.wrap_u64]; omega
  have s0 : 0 ≤ s := by omega
  have s1 : s + 1 < 18446744073709551616 := by omega
  rw [← hr, ← hs]
  clear hr hs h4 h5 h0 h2
  go_enter Tryz.func179, Tryz.ntmps179
  go_wp2
  exact bodyPost_ret (v := .agg #[.int .u64 (s + 1), .int .u64 r]) (by simp [results, Tryz.results179, go_sem]) rfl ⟨rfl, by repeat (first | exact Gr.refl _ | refine Gr.alloc ?_ _ _ | refine Gr.setCell ?_ (by simp) _)⟩
theorem rsum_c (s t : Nat) (h : s + t < 340282366920938463463374607431768211456) (w : World) : Calls Tryz.prog 179 #[Wd s, Wd t] w fun e w' => e = .returned (Wd (s + t)) ∧ Gr w w' := by
  have hb := hi_bd h
  by_cases hc : lo s + lo t < 18446744073709551616
  · have e1 : hi s + hi t = hi (s + t) := by unfold hi lo at *; omega
    have e2 : lo s + lo t = lo (s + t) := by unfold lo at *; omega
    have := rsum_no (hi s) (lo s) (hi t) (lo t) (hi_nn s) (lo_bd s).1 (hi_nn t) (lo_bd t).1 (by omega) hc w
    rw [e1, e2] at this; exact this
  · have e1 : hi s + hi t + 1 = hi (s + t) := by unfold hi lo at *; omega
    have e2 : lo s + lo t - 18446744073709551616 = lo (s + t) := by unfold lo at *; omega
    have := rsum_yes (hi s) (lo s) (hi t) (lo t) (hi_nn s) (lo_bd s).1 (hi_nn t) (lo_bd t).1 (lo_bd s).2 (lo_bd t).2 (by omega) (by omega) w
    rw [e1, e2] at this; exact this
end Go.Proofs.YtbnljabeccebiaaGreat

/- The reference's Id, ids and form. -/
namespace Go.Proofs.YtbnljabeccebiaaGreat
open Go.RowKit

theorem rid_c (x : Int) (w : World) : Calls Tryz.prog 59 #[.int .i64 x] w fun e w' => e = .returned (.bool (okId x)) ∧ w = w' := by
  by_cases h : 1 ≤ x
  · by_cases h2 : x ≤ 1000000000
    · have E : Hid (okId x = true) := (okId_iff x).2 ⟨h, h2⟩
      go_enter Tryz.func59, Tryz.ntmps59
      go_wp2
      go_ret
      exact ⟨by rw [E.out]; rfl, rfl⟩
    · have E : Hid (okId x = false) := by unfold Hid; rw [← Bool.not_eq_true, okId_iff]; omega
      go_enter Tryz.func59, Tryz.ntmps59
      go_wp2
      go_ret
      exact ⟨by rw [E.out]; rfl, rfl⟩
  · have E : Hid (okId x = false) := by unfold Hid; rw [← Bool.not_eq_true, okId_iff]; omega
    go_enter Tryz.func59, Tryz.ntmps59
    go_wp2
    go_ret
    exact ⟨by rw [E.out]; rfl, rfl⟩
theorem rid_v (x : Int) (b : Bool) (h : okId x = b) (w : World) : Calls Tryz.prog 59 #[.int .i64 x] w fun e w' => e = .returned (.bool b) ∧ w = w' := by
  subst h; exact rid_c x w

set_option maxHeartbeats 2000000 in
theorem form_c {w : World} {v : Value} {r : Reg} (h : RdR w v r) :
    Calls Tryz.prog 203 #[v] w fun e w' => e = .returned (.bool (uses r)) ∧ Gr w w' := by
  obtain ⟨vl, vh, vi, rfl, ⟨pl, cl, rfl, _⟩, ⟨ph, ch, rfl, _⟩, h3⟩ := h
  clear h3
  have E : Hid (uses r = if r.S = 1 then decide (r.L.length = 0) && decide (r.H.length = 0) && decide (r.R = 0) else if r.S = 2 then decide (r.R = 0) else if r.S = 3 then decide (r.H.length = 0) else false) := rfl
  generalize uses r = res at *
  obtain ⟨S, L, H, R, I⟩ := r
  dsimp only at *
  generalize L.length = nl at *
  generalize H.length = nh at *
  by_cases s1 : S = 1
  · subst s1
    rw [if_pos rfl] at E
    by_cases k1 : nl = 0
    · subst k1
      by_cases k2 : nh = 0
      · subst k2
        have hz := fun W => wd_eq0 R res (by have := E.out; simpa using this.symm) W
        go_enter Tryz.func203, Tryz.ntmps203
        go_wp2
        go_ret
        exact ⟨rfl, ((Gr.refl _).alloc _ _).alloc _ _⟩
      · have e : res = false := by have := E.out; rw [this]; simp [k2]
        subst e
        have k2' : ((nh : Int) == 0) = false := by rw [beq_eq_false_iff_ne]; omega
        clear k2 E
        go_enter Tryz.func203, Tryz.ntmps203
        go_wp2
        go_ret
        exact ⟨rfl, ((Gr.refl _).alloc _ _).alloc _ _⟩
    · have e : res = false := by have := E.out; rw [this]; simp [k1]
      subst e
      have k2' : ((nl : Int) == 0) = false := by rw [beq_eq_false_iff_ne]; omega
      clear k1 E
      go_enter Tryz.func203, Tryz.ntmps203
      go_wp2
      go_ret
      exact ⟨rfl, ((Gr.refl _).alloc _ _).alloc _ _⟩
  · have s1' : (S == 1) = false := by rw [beq_eq_false_iff_ne]; exact s1
    by_cases s2 : S = 2
    · subst s2
      have hz := fun W => wd_eq0 R res (by have := E.out; simpa using this.symm) W
      clear E s1
      go_enter Tryz.func203, Tryz.ntmps203
      go_wp2
      go_ret
      exact ⟨rfl, ((Gr.refl _).alloc _ _).alloc _ _⟩
    · have s2' : (S == 2) = false := by rw [beq_eq_false_iff_ne]; exact s2
      by_cases s3 : S = 3
      · subst s3
        have e : Hid (res = ((nh : Int) == 0)) := by
          have := E.out
          unfold Hid
          rw [this]
          by_cases k : nh = 0
          · simp [k]
          · have : ((nh : Int) == 0) = false := by rw [beq_eq_false_iff_ne]; omega
            rw [this]; simp [k]
        clear E s1 s2
        go_enter Tryz.func203, Tryz.ntmps203
        go_wp2
        go_ret
        exact ⟨by rw [e.out]; rfl, ((Gr.refl _).alloc _ _).alloc _ _⟩
      · have s3' : (S == 3) = false := by rw [beq_eq_false_iff_ne]; exact s3
        have e : res = false := by have := E.out; rw [this, if_neg s1, if_neg s2, if_neg s3]
        subst e
        clear E s1 s2 s3
        go_enter Tryz.func203, Tryz.ntmps203
        go_wp2
        go_ret
        exact ⟨rfl, ((Gr.refl _).alloc _ _).alloc _ _⟩
theorem form_v {w : World} {v : Value} {r : Reg} (h : RdR w v r) (b : Bool) (hb : uses r = b) :
    Calls Tryz.prog 203 #[v] w fun e w' => e = .returned (.bool b) ∧ Gr w w' := by
  subst hb; exact form_c h

end Go.Proofs.YtbnljabeccebiaaGreat

/- theodolitekeep.Ints; the law's own box and ball. -/
namespace Go.Proofs.YtbnljabeccebiaaGreat
open Go.RowKit Go.Sort

theorem take_snoc {l : List Int} {q : Nat} (h : q < l.length) : l.take (q + 1) = l.take q ++ [l[q]!] := by
  rw [List.take_succ_eq_append_getElem h, getElem!_pos l q h]

set_option maxHeartbeats 2000000 in
set_option maxRecDepth 100000 in
theorem ints_c {w : World} {u v : Value} {l m : List Int} (hu : RdI w u l) (hv : RdI w v m) (hlen : l.length ≤ 4611686018427387904) :
    Calls Tryz.prog 51 #[u, v] w fun e w' => e = .returned (.bool (decide (l = m))) ∧ Gr w w' := by
  obtain ⟨a, ca, rfl, ha⟩ := hu
  obtain ⟨b, cb, rfl, hb⟩ := hv
  by_cases hlm : l.length = m.length
  · have A : Hid (∀ i, i < l.length → ∃ b o, a = some ⟨b, o, none⟩ ∧ w.cell? ⟨b, o + i, none⟩ = some (.int .i64 l[i]!)) := ha
    have B : Hid (∀ i, i < m.length → ∃ b' o, b = some ⟨b', o, none⟩ ∧ w.cell? ⟨b', o + i, none⟩ = some (.int .i64 m[i]!)) := hb
    have L : Hid (l.length = m.length) := hlm
    rw [← hlm]
    obtain ⟨n, hN⟩ : ∃ n, n = l.length := ⟨_, rfl⟩
    have N : Hid (n = l.length) := hN
    rw [← hN] at hlen ⊢
    clear ha hb hlm hN
    go_enter Tryz.func51, Tryz.ntmps51
    go_wp2
    go_loopw [5] (fun iv w' => ∃ q : Nat, iv = .int .i64 (q : Int) ∧ q ≤ n ∧ Hid (l.take q = m.take q ∧ Gr w w')) (fun iv _ => n - (intOf iv).toNat)
    case atStart => exact ⟨0, rfl, Nat.zero_le _, ⟨by simp, Gr.refl _⟩⟩
    case round =>
      obtain ⟨q, rfl, hq, X⟩ := hrel
      by_cases hqn : q < n
      · have hql : q < l.length := by have := N.out; omega
        have hqm : q < m.length := by have := L.out; omega
        obtain ⟨b1, o1, ea, h1⟩ := A.out q hql
        obtain ⟨b2, o2, eb, h2⟩ := B.out q hqm
        subst ea; subst eb
        have h1 := X.out.2.keeps h1
        have h2 := X.out.2.keeps h2
        by_cases hxy : l[q]! = m[q]!
        · have R : Hid (l.take (q + 1) = m.take (q + 1)) := by unfold Hid; rw [take_snoc hql, take_snoc hqm, X.out.1, hxy]
          rw [hxy] at h1
          generalize m[q]! = x at *
          clear hxy hql hqm
          go_wp2
          go_quiet (fail)
          go_wp2
          go_roundw
          case rel => exact ⟨q + 1, by simp, hqn, R.out, X.out.2.drewN _⟩
          case measure => simp [intOf]; omega
        · have R : Hid (decide (l = m) = false) := decide_eq_false (fun e => hxy (by rw [e]))
          have hne : (l[q]! == m[q]!) = false := by rw [beq_eq_false_iff_ne]; exact hxy
          generalize l[q]! = x at *
          generalize m[q]! = y at *
          clear hxy hql hqm
          go_wp2
          go_quiet (fail)
          go_wp2
          go_ret
          exact ⟨by rw [R.out]; rfl, X.out.2.drewN _⟩
      · have R : Hid (decide (l = m) = true) := by
          have e := X.out.1
          have h1 := N.out
          have h2 := L.out
          rw [List.take_of_length_le (by omega), List.take_of_length_le (by omega)] at e
          exact decide_eq_true e
        go_wp2
        go_ret
        exact ⟨by rw [R.out]; rfl, X.out.2⟩
  · have R : Hid (decide (l = m) = false) := decide_eq_false (fun e => hlm (by rw [e]))
    have hne : ((l.length : Int) == (m.length : Int)) = false := by rw [beq_eq_false_iff_ne]; omega
    generalize l.length = n1 at *
    generalize m.length = n2 at *
    clear ha hb hlm
    go_enter Tryz.func51, Tryz.ntmps51
    go_wp2
    go_ret
    exact ⟨by rw [R.out]; rfl, Gr.refl _⟩
theorem ints_v {w : World} {u v : Value} {l m : List Int} (hu : RdI w u l) (hv : RdI w v m) (hlen : l.length ≤ 4611686018427387904) (r : Bool) (hr : decide (l = m) = r) :
    Calls Tryz.prog 51 #[u, v] w fun e w' => e = .returned (.bool r) ∧ Gr w w' := by
  subst hr; exact ints_c hu hv hlen

theorem rdi_two (W : World) (x y : Int) : RdI (W.alloc (.cells #[.int .i64 x, .int .i64 y] 3)) (.slice (some ⟨W.heap.size, 0, none⟩) 2 2) [x, y] := by
  refine ⟨_, 2, rfl, fun i hi => ⟨W.heap.size, 0, rfl, ?_⟩⟩
  have : i = 0 ∨ i = 1 := by simp at hi; omega
  rcases this with rfl | rfl <;> simp [go_sem]
theorem rdi_one (W : World) (x : Int) : RdI (W.alloc (.cells #[.int .i64 x] 3)) (.slice (some ⟨W.heap.size, 0, none⟩) 1 1) [x] := by
  refine ⟨_, 1, rfl, fun i hi => ⟨W.heap.size, 0, rfl, ?_⟩⟩
  have : i = 0 := by simp at hi; omega
  subst this; simp [go_sem]
end Go.Proofs.YtbnljabeccebiaaGreat

/- The reference's ids. -/
namespace Go.Proofs.YtbnljabeccebiaaGreat
open Go.RowKit

theorem rid_q (x : Int) (b : Bool) (h : okId x = b) (w : World) : Calls Tryz.prog 59 #[.int .i64 x] w fun e w' => e = .returned (.bool b) ∧ ∃ n, w' = w.drewN n :=
  (rid_v x b h w).mono fun _ _ ⟨h1, h2⟩ => ⟨h1, 0, h2.symm⟩

set_option maxHeartbeats 4000000 in
set_option maxRecDepth 100000 in
theorem rids_c {w : World} {v : Value} {l : List Int} (h : RdI w v l) (hlen : l.length ≤ 4611686018427387904) :
    Calls Tryz.prog 204 #[v] w fun e w' => e = .returned (.bool (rise l)) ∧ Gr w w' := by
  obtain ⟨a, cap, rfl, ha⟩ := h
  have A : Hid (∀ i, i < l.length → ∃ b o, a = some ⟨b, o, none⟩ ∧ w.cell? ⟨b, o + i, none⟩ = some (.int .i64 l[i]!)) := ha
  obtain ⟨n, hN⟩ : ∃ n, n = l.length := ⟨_, rfl⟩
  have N : Hid (n = l.length) := hN
  rw [← hN] at hlen ⊢
  clear ha hN
  go_enter Tryz.func204, Tryz.ntmps204
  go_wp2
  go_loopw [3] (fun iv w' => ∃ q : Nat, iv = .int .i64 (q : Int) ∧ q ≤ n ∧ Gr w w' ∧ Hid (riseTo l q = true)) (fun iv _ => n - (intOf iv).toNat)
  case atStart => exact ⟨0, rfl, Nat.zero_le _, Gr.refl _, rfl⟩
  case round =>
    obtain ⟨q, rfl, hq, G, X⟩ := hrel
    by_cases hqn : q < n
    · have hqi : (q : Int) < (n : Int) := by omega
      have hql : q < l.length := by have := N.out; omega
      obtain ⟨b, o, ea, hc⟩ := A.out q hql
      replace hc := G.keeps hc
      by_cases hid : okId l[q]! = true
      · have c := fun W => rid_q l[q]! true hid W
        by_cases h0 : q = 0
        · have R : Hid (riseTo l (q + 1) = true) := by unfold Hid; simp only [riseTo, okAt]; rw [X.out, hid, h0]; rfl
          subst ea
          have h0' : decide (0 < q) = false := by rw [decide_eq_false_iff_not]; omega
          generalize l[q]! = x at *
          clear X hid hql h0
          go_wp2
          go_quiet (first | (go_at_call 59; exact Calls.quiet_of (c _)))
          go_wp2
          go_roundw
          case rel => exact ⟨q + 1, by simp, hqn, G.drewN _, R⟩
          case measure => simp [intOf]; omega
        · obtain ⟨p, hp⟩ : ∃ p, q = p + 1 := ⟨q - 1, by omega⟩
          obtain ⟨b', o', ea', hc'⟩ := A.out p (by omega)
          rw [ea] at ea'
          cases ea'
          replace hc' := G.keeps hc'
          have hpi : (q : Int) - 1 = (p : Int) := by omega
          have hpn : (p : Int) < (n : Int) := by omega
          have hp0 : decide (0 < q) = true := by rw [decide_eq_true_eq]; omega
          have hqp : q - 1 = p := by omega
          by_cases hlt : l[p]! < l[q]!
          · have R : Hid (riseTo l (q + 1) = true) := by
              have x1 := X.out
              unfold Hid
              rw [riseTo, x1, okAt, hid, hqp, decide_eq_true hlt]; simp
            have hlt' : decide (l[q]! ≤ l[p]!) = false := by rw [decide_eq_false_iff_not]; omega
            subst ea
            generalize l[q]! = x at *
            generalize l[p]! = y at *
            clear X hid hql h0 hlt hqp hp
            go_wp2
            go_quiet (first | (go_at_call 59; exact Calls.quiet_of (c _)))
            go_wp2
            go_roundw
            case rel => exact ⟨q + 1, by simp, hqn, G.drewN _, R⟩
            case measure => simp [intOf]; omega
          · have R : Hid (rise l = false) := rise_no hql (by rw [okAt, hid, hqp, decide_eq_false hlt]; simp; omega)
            have hlt' : decide (l[q]! ≤ l[p]!) = true := by rw [decide_eq_true_eq]; omega
            subst ea
            generalize l[q]! = x at *
            generalize l[p]! = y at *
            clear X hid hql h0 hlt hqp hp
            go_wp2
            go_quiet (first | (go_at_call 59; exact Calls.quiet_of (c _)))
            go_wp2
            go_ret
            exact ⟨by rw [R.out]; rfl, G.drewN _⟩
      · have c := fun W => rid_q l[q]! false (by simpa using hid) W
        have R : Hid (rise l = false) := rise_no hql (by rw [okAt, show okId l[q]! = false by simpa using hid]; rfl)
        subst ea
        generalize l[q]! = x at *
        clear X hid hql
        go_wp2
        go_quiet (first | (go_at_call 59; exact Calls.quiet_of (c _)))
        go_wp2
        go_ret
        exact ⟨by rw [R.out]; rfl, G.drewN _⟩
    · have hqi : ¬ (q : Int) < (n : Int) := by omega
      have R : Hid (rise l = true) := by
        have h1 := X.out
        have h2 : q = l.length := by have := N.out; omega
        rw [h2] at h1; exact h1
      go_wp2
      go_ret
      exact ⟨by rw [R.out]; rfl, G⟩

end Go.Proofs.YtbnljabeccebiaaGreat
