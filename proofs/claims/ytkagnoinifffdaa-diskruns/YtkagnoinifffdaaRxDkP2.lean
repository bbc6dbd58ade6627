/- large; play. -/
import Derived.Test.YtkagnoinifffdaaRx21
namespace Go.Proofs.Ytkagnoinifffdaa
open Go.RowKit Go.Lib Go.Maps

variable {w w0 W W' : World} {b b' : Nat} {q q' q2 : Dq} {F G : Nat → Prop}
/-- One entry of a script, its parts written out. -/
theorem RdS.at_ {v : Value} {ops : List OpP} (h : RdS w v ops) : ∃ a cap, v = .slice a ops.length cap ∧ ∀ i, i < ops.length → ∃ g o ya yb ca cb, a = some ⟨g, o, none⟩ ∧
    (w.cell? ⟨g, o + i * 6, none⟩ = some (.int .i64 ops[i]!.1) ∧ w.cell? ⟨g, o + i * 6 + 1, none⟩ = some (.string (sb ops[i]!.2.1)) ∧ w.cell? ⟨g, o + i * 6 + 2, none⟩ = some (.string (sb ops[i]!.2.2.1)) ∧ w.cell? ⟨g, o + i * 6 + 3, none⟩ = some (.slice ya ops[i]!.2.2.2.1.length yb) ∧ w.cell? ⟨g, o + i * 6 + 4, none⟩ = some (.int .i64 ops[i]!.2.2.2.2.1) ∧ w.cell? ⟨g, o + i * 6 + 5, none⟩ = some (.slice ca ops[i]!.2.2.2.2.2.length cb)) := by
  obtain ⟨a, cap, e, h⟩ := h
  refine ⟨a, cap, e, fun i hi => ?_⟩
  obtain ⟨g, o, vb, vc, e, c, ⟨⟨ya, yb, rfl, _⟩, _⟩, ⟨ca, cb, rfl, _⟩⟩ := h i hi
  exact ⟨g, o, ya, yb, ca, cb, e, c⟩
def LgF (ops : List OpP) (k : Nat) : Prop := ops.length ≤ 1000 ∧ ∀ i, i < k → OpS ops[i]!
def LgO (ops : List OpP) (n : Nat) (w : World) (e : Ending) (w' : World) : Prop := ∃ bl, e = .returned (.bool bl) ∧ (bl = false → LgF ops n) ∧ Gb w w'
theorem lgo_t {ops : List OpP} {n : Nat} {e : Ending} (g : Gb w W) (h : e = .returned (.bool true)) : LgO ops n w e W := ⟨true, h, fun h => (by cases h), g⟩
set_option maxHeartbeats 4000000 in
set_option maxRecDepth 100000 in
theorem large_c {v : Value} {ops : List OpP} (h : RdS w v ops) : Calls Try.prog 12 #[v] w fun e w' => LgO ops ops.length w e w' := by
  have HH : Hid (RdS w v ops) := h
  obtain ⟨a, cap, rfl, ha⟩ := h.at_
  have A : Hid (∀ i, i < ops.length → ∃ g o ya yb ca cb, a = some ⟨g, o, none⟩ ∧
    (w.cell? ⟨g, o + i * 6, none⟩ = some (.int .i64 ops[i]!.1) ∧ w.cell? ⟨g, o + i * 6 + 1, none⟩ = some (.string (sb ops[i]!.2.1)) ∧ w.cell? ⟨g, o + i * 6 + 2, none⟩ = some (.string (sb ops[i]!.2.2.1)) ∧ w.cell? ⟨g, o + i * 6 + 3, none⟩ = some (.slice ya ops[i]!.2.2.2.1.length yb) ∧ w.cell? ⟨g, o + i * 6 + 4, none⟩ = some (.int .i64 ops[i]!.2.2.2.2.1) ∧ w.cell? ⟨g, o + i * 6 + 5, none⟩ = some (.slice ca ops[i]!.2.2.2.2.2.length cb))) := ha
  obtain ⟨n, hN⟩ : ∃ n, n = ops.length := ⟨_, rfl⟩
  have N : Hid (n = ops.length) := hN
  rw [← hN]
  clear ha hN h
  by_cases hbig : (1000 : Int) < (n : Int)
  · clear A N HH
    go_enter Try.func12, Try.ntmps12
    go_wp2
    go_ret
    exact lgo_t (Below.refl _ _) rfl
  go_enter Try.func12, Try.ntmps12
  go_wp2
  go_loopw [3] (fun iv wr => ∃ k : Nat, iv = .int .i64 (k : Int) ∧ k ≤ n ∧ Hid (Gb w wr ∧ LgF ops k)) (fun iv _ => n - (intOf iv).toNat)
  case atStart => exact ⟨0, rfl, Nat.zero_le _, Below.refl _ _, by have := N.out; omega, fun i hi => absurd hi (Nat.not_lt_zero _)⟩
  case round =>
    obtain ⟨k, rfl, hk, X⟩ := hrel
    by_cases hkn : k < n
    · have hki : (k : Int) < (n : Int) := by omega
      have hko : k < ops.length := by have := N.out; omega
      obtain ⟨g, o, ya, yb, ca, cb, rfl, c0, c1, c2, c3, c4, c5⟩ := A.out k hko
      have c0 := gb_keeps X.out.1 c0
      have c1 := gb_keeps X.out.1 c1
      have c2 := gb_keeps X.out.1 c2
      have c3 := gb_keeps X.out.1 c3
      have c4 := gb_keeps X.out.1 c4
      have c5 := gb_keeps X.out.1 c5
      have Y : Hid (OpS ops[k]! → LgF ops (k + 1)) := fun h => ⟨X.out.2.1, fun i hi => by
        by_cases e : i = k
        · rw [e]; exact h
        · exact X.out.2.2 i (by omega)⟩
      have z1 := sb_size ops[k]!.2.1
      have z2 := sb_size ops[k]!.2.2.1
      have G1 : Hid (∀ c, Gb w (wr.alloc c)) := fun c => gb_alloc X.out.1 c
      have hgw := cell_lt c0
      have Z : Hid (ops[k]!.2.2.2.1.length ≤ 65536 → (sb ops[k]!.2.1).size ≤ 65536 → (sb ops[k]!.2.2.1).size ≤ 65536 → LgF ops (k + 1)) := fun h1 h2 h3 => Y.out ⟨by omega, by omega, h1⟩
      generalize sb ops[k]!.2.1 = s1 at *
      generalize sb ops[k]!.2.2.1 = s2 at *
      generalize ops[k]!.2.2.2.1.length = lb at *
      generalize ops[k]!.2.2.2.2.2.length = lc at *
      generalize ops[k]!.1 = kd at *
      generalize ops[k]!.2.2.2.2.1 = nn at *
      clear X Y z1 z2
      by_cases t1 : (65536 : Int) < (lb : Int)
      · go_wp2
        go_ret
        exact lgo_t (G1.out _) rfl
      by_cases t2 : (1000 : Int) < (lc : Int)
      · go_wp2
        go_ret
        exact lgo_t (G1.out _) rfl
      by_cases t3 : (65536 : Int) < (s1.size : Int)
      · go_wp2
        go_ret
        exact lgo_t (G1.out _) rfl
      by_cases t4 : (65536 : Int) < (s2.size : Int)
      · go_wp2
        go_ret
        exact lgo_t (G1.out _) rfl
      have ZZ : Hid (LgF ops (k + 1)) := Z.out (by omega) (by omega) (by omega)
      go_wp2
      go_roundw
      case rel => exact ⟨k + 1, by simp, hkn, G1.out _, ZZ.out⟩
      case measure => simp [intOf]; omega
    · have e : k = n := by omega
      subst e
      have Y : Hid (∀ e, e = .returned (.bool false) → LgO ops k w e wr) := fun e he => ⟨false, he, fun _ => X.out.2, X.out.1⟩
      have hki : ¬ (k : Int) < (k : Int) := by omega
      clear X
      go_wp2
      go_ret
      exact Y.out _ rfl
/-- play. -/
theorem SkS.form {v : Value} {ops : List OpP} (h : SkS F w v ops) {i : Nat} (hi : i < ops.length) : ∃ g o ya yb ca cb, (∃ cap, v = .slice (some ⟨g, o, none⟩) ops.length cap) ∧ ∀ X, Kf F w X →
    (X.cell? ⟨g, o + i * 6, none⟩ = some (.int .i64 ops[i]!.1) ∧ X.cell? ⟨g, o + i * 6 + 1, none⟩ = some (.string (sb ops[i]!.2.1)) ∧ X.cell? ⟨g, o + i * 6 + 2, none⟩ = some (.string (sb ops[i]!.2.2.1)) ∧ X.cell? ⟨g, o + i * 6 + 3, none⟩ = some (.slice ya ops[i]!.2.2.2.1.length yb) ∧ X.cell? ⟨g, o + i * 6 + 4, none⟩ = some (.int .i64 ops[i]!.2.2.2.2.1) ∧ X.cell? ⟨g, o + i * 6 + 5, none⟩ = some (.slice ca ops[i]!.2.2.2.2.2.length cb)) ∧
    RdY X (.slice ya ops[i]!.2.2.2.1.length yb) ops[i]!.2.2.2.1 ∧ RdI X (.slice ca ops[i]!.2.2.2.2.2.length cb) ops[i]!.2.2.2.2.2 := by
  obtain ⟨a, cap, e, h⟩ := h
  obtain ⟨g, o, vb, vc, e2, h5⟩ := h i hi
  obtain ⟨_, ⟨⟨ya, yb, e3, _⟩, _⟩, ⟨ca, cb, e4, _⟩⟩ := h5 w (Kf.refl _ _)
  subst e2
  subst e3
  subst e4
  exact ⟨g, o, ya, yb, ca, cb, ⟨cap, e⟩, h5⟩
set_option maxHeartbeats 4000000 in
set_option maxRecDepth 100000 in
theorem play_c (h : DkAt w b q F) (ok : q.Ok) {v : Value} {ops : List OpP} (hs : SkS F w v ops) (hr : ∀ i, i < ops.length → OpR ops[i]!) (hS : ∀ i, i < ops.length → OpS ops[i]!) (hl : ops.length ≤ 1000) (hst : q.st + ops.length < 100000) :
    Calls Try.prog 16 #[.pointer (some ⟨b, 0, none⟩), v] w fun e w' => e = .returned (.tuple #[]) ∧ DkOut w w' b (ops.foldl Dq.play1 q) F := by
  have ST : Hid (DkOut w w b (plT q ops 0) F) := DkOut.self h
  have OK : Hid (∀ i, (plT q ops i).Ok) := fun i => plT_ok ok hr i
  have SS : Hid (∀ i, i ≤ ops.length → (plT q ops i).st < 100000) := fun i hi => by have := plT_st q ops i; omega
  have EN : Hid (plT q ops ops.length = ops.foldl Dq.play1 q) := plT_all q ops
  have HS : Hid (SkS F w v ops) := hs
  have RS : Hid (∀ i, i < ops.length → OpR ops[i]! ∧ OpS ops[i]!) := fun i hi => ⟨hr i hi, hS i hi⟩
  obtain ⟨a, cap, rfl, _⟩ := hs
  obtain ⟨n, hN⟩ : ∃ n, n = ops.length := ⟨_, rfl⟩
  have N : Hid (n = ops.length) := hN
  rw [← hN]
  have hn : n ≤ 1000 := by omega
  generalize ops.foldl Dq.play1 q = qe at *
  clear hN h ok hr hS hl hst
  go_enter Try.func16, Try.ntmps16
  go_wp2
  go_loopw [4] (fun iv wr => ∃ k : Nat, iv = .int .i64 (k : Int) ∧ k ≤ n ∧ Hid (DkOut w wr b (plT q ops k) F)) (fun iv _ => n - (intOf iv).toNat)
  case atStart => exact ⟨0, rfl, Nat.zero_le _, ST.out⟩
  case round =>
    clear ST
    obtain ⟨k, rfl, hk, X⟩ := hrel
    by_cases hkn : k < n
    · have hki : (k : Int) < (n : Int) := by omega
      have hko : k < ops.length := by have := N.out; omega
      obtain ⟨g, o, ya, yb, ca, cb, ⟨cap', e⟩, hc⟩ := HS.out.form hko
      injection e with e1 e2 e3
      subst e1
      subst e3
      clear e2
      obtain ⟨⟨c0, c1, c2, c3, c4, c5⟩, _⟩ := hc wr X.out.2
      have PR := play_round X.out (OK.out k) (SS.out k (by omega)) hko (RS.out k hko).1 (RS.out k hko).2 (fun X k => (hc X k).2) (.cells #[.int .i64 ops[k]!.1, .string (sb ops[k]!.2.1), .string (sb ops[k]!.2.2.1), .slice ya ops[k]!.2.2.2.1.length yb, .int .i64 ops[k]!.2.2.2.2.1, .slice ca ops[k]!.2.2.2.2.2.length cb] 36)
      have hgw := cell_lt c0
      clear hc X OK SS HS RS EN
      generalize sb ops[k]!.2.1 = s1 at *
      generalize sb ops[k]!.2.2.1 = s2 at *
      generalize ops[k]!.2.2.2.1.length = lb at *
      generalize ops[k]!.2.2.2.2.2.length = lc at *
      generalize ops[k]!.1 = kd at *
      generalize ops[k]!.2.2.2.2.1 = nn at *
      obtain ⟨p1, p2, p3, p4, p5, p6, p8, p9, p0⟩ := PR
      by_cases k1 : kd = 1
      · subst k1
        have pp := p1 rfl
        clear p1 p2 p3 p4 p5 p6 p8 p9 p0
        go_wp2_with fail
        refine pp.mono ?_
        rintro e w1 ⟨⟨n1, rfl⟩, R⟩
        go_wp2
        go_roundw
        case rel => exact ⟨k + 1, by simp, hkn, R.out⟩
        case measure => simp [intOf]; omega
      have j1 : (kd == 1) = false := by rw [beq_eq_false_iff_ne]; exact k1
      by_cases k2 : kd = 2
      · subst k2
        have pp := p2 rfl
        clear p1 p2 p3 p4 p5 p6 p8 p9 p0
        go_wp2_with fail
        refine pp.mono ?_
        rintro e w1 ⟨⟨n1, rfl⟩, R⟩
        go_wp2
        go_roundw
        case rel => exact ⟨k + 1, by simp, hkn, R.out⟩
        case measure => simp [intOf]; omega
      have j2 : (kd == 2) = false := by rw [beq_eq_false_iff_ne]; exact k2
      by_cases k3 : kd = 3
      · subst k3
        have pp := p3 rfl
        clear p1 p2 p3 p4 p5 p6 p8 p9 p0
        go_wp2_with fail
        refine pp.mono ?_
        rintro e w1 ⟨⟨n1, rfl⟩, R⟩
        go_wp2
        go_roundw
        case rel => exact ⟨k + 1, by simp, hkn, R.out⟩
        case measure => simp [intOf]; omega
      have j3 : (kd == 3) = false := by rw [beq_eq_false_iff_ne]; exact k3
      by_cases k4 : kd = 4
      · subst k4
        have pp := p4 rfl
        clear p1 p2 p3 p4 p5 p6 p8 p9 p0
        go_wp2_with fail
        refine pp.mono ?_
        rintro e w1 ⟨⟨n1, rfl⟩, R⟩
        go_wp2
        go_roundw
        case rel => exact ⟨k + 1, by simp, hkn, R.out⟩
        case measure => simp [intOf]; omega
      have j4 : (kd == 4) = false := by rw [beq_eq_false_iff_ne]; exact k4
      by_cases k5 : kd = 5
      · subst k5
        have pp := p5 rfl
        clear p1 p2 p3 p4 p5 p6 p8 p9 p0
        go_wp2_with fail
        refine pp.mono ?_
        rintro e w1 ⟨⟨n1, rfl⟩, R⟩
        go_wp2
        go_roundw
        case rel => exact ⟨k + 1, by simp, hkn, R.out⟩
        case measure => simp [intOf]; omega
      have j5 : (kd == 5) = false := by rw [beq_eq_false_iff_ne]; exact k5
      by_cases k6 : kd = 6
      · subst k6
        have pp := p6 rfl
        clear p1 p2 p3 p4 p5 p6 p8 p9 p0
        go_wp2_with fail
        refine pp.mono ?_
        rintro e w1 ⟨⟨n1, rfl⟩, R⟩
        go_wp2
        go_roundw
        case rel => exact ⟨k + 1, by simp, hkn, R.out⟩
        case measure => simp [intOf]; omega
      have j6 : (kd == 6) = false := by rw [beq_eq_false_iff_ne]; exact k6
      by_cases k8 : kd = 8
      · subst k8
        have pp := p8 rfl
        clear p1 p2 p3 p4 p5 p6 p8 p9 p0
        go_wp2_with fail
        refine pp.mono ?_
        rintro e w1 ⟨⟨n1, rfl⟩, R⟩
        go_wp2
        go_roundw
        case rel => exact ⟨k + 1, by simp, hkn, R.out⟩
        case measure => simp [intOf]; omega
      have j8 : (kd == 8) = false := by rw [beq_eq_false_iff_ne]; exact k8
      by_cases k9 : kd = 9
      · subst k9
        have pp := p9 rfl
        clear p1 p2 p3 p4 p5 p6 p8 p9 p0
        go_wp2_with fail
        refine pp.mono ?_
        rintro e w1 ⟨⟨n1, rfl⟩, R⟩
        go_wp2
        go_roundw
        case rel => exact ⟨k + 1, by simp, hkn, R.out⟩
        case measure => simp [intOf]; omega
      have j9 : (kd == 9) = false := by rw [beq_eq_false_iff_ne]; exact k9
      have R := p0 (by omega)
      clear p1 p2 p3 p4 p5 p6 p8 p9 p0 k1 k2 k3 k4 k5 k6 k8 k9
      go_wp2
      go_roundw
      case rel => exact ⟨k + 1, by simp, hkn, R.out⟩
      case measure => simp [intOf]; omega
    · have e : k = n := by omega
      subst e
      have Y : Hid (DkOut w wr b qe F) := by unfold Hid; rw [← EN.out, ← N.out]; exact X.out
      have hki : ¬ (k : Int) < (k : Int) := by omega
      clear X
      go_wp2
      go_end0
      exact ⟨rfl, Y.out⟩
end Go.Proofs.Ytkagnoinifffdaa
