/- VecHolds: the walk where both answer a region. -/
import Derived.Test.YtnhaloeeaejedaaHolds
namespace Go.Proofs.Ytnhaloeeaejedaa
open Go.RowKit Go.Sort Go.Maps

theorem seven_gb {W w' : World} {p0 p1 p2 p3 p4 p5 p6 : Addr} {v0 v1 v2 v3 v4 v5 v6 : Value} (g : Gb W w')
    (h : W.cell? p0 = some v0 ∧ W.cell? p1 = some v1 ∧ W.cell? p2 = some v2 ∧ W.cell? p3 = some v3 ∧ W.cell? p4 = some v4 ∧ W.cell? p5 = some v5 ∧ W.cell? p6 = some v6) :
    w'.cell? p0 = some v0 ∧ w'.cell? p1 = some v1 ∧ w'.cell? p2 = some v2 ∧ w'.cell? p3 = some v3 ∧ w'.cell? p4 = some v4 ∧ w'.cell? p5 = some v5 ∧ w'.cell? p6 = some v6 :=
  ⟨gb_keeps g h.1, gb_keeps g h.2.1, gb_keeps g h.2.2.1, gb_keeps g h.2.2.2.1, gb_keeps g h.2.2.2.2.1, gb_keeps g h.2.2.2.2.2.1, gb_keeps g h.2.2.2.2.2.2⟩
abbrev rA (vl vh vi : Value) : Value := .agg #[.int .i64 2, vl, vh, .int .u64 0, .int .u64 0, vi]
abbrev rB (R : Nat) (vl vh vi : Value) : Value := .agg #[.int .i64 3, vl, vh, .int .u64 (hi R), .int .u64 (lo R), vi]
theorem rvA (L H I : List Int) (vl vh vi : Value) : rv ⟨2, L, H, 0, I⟩ vl vh vi = rA vl vh vi := by
  unfold rv rA
  dsimp only
  rw [show hi 0 = 0 by simp [hi], show lo 0 = 0 by simp [lo]]
theorem boxR_yes {rs : List Rw} {m : Nat} (h : boxE rs (m : Int) = 0) : boxR rs (m : Int) = ⟨2, boxL rs m, boxH rs m, 0, srt (idsOf rs)⟩ := by unfold boxR; rw [if_pos h]; rfl
theorem ballR_yes {c : List Int} {rs : List Rw} (h : ballE c rs = 0) : ballR c rs = ⟨3, c, [], radN c rs rs.length, srt (idsOf rs)⟩ := by unfold ballR; rw [if_pos h]
theorem box_y {w : World} {v : Value} {rs : List Rw} {m : Nat} (h : RdW w v rs) (hlen : rs.length ≤ 4611686018427387904) (hwf : ∀ i, i < rs.length → (Lit.int .i64 rs[i]!.1).wf = true) (ha : boxE rs (m : Int) = 0) :
    Calls Try.prog 25 #[v, .int .i64 (m : Int)] w fun e w' => ∃ vl vh vi, e = .returned (.tuple #[rA vl vh vi, .int .i64 0]) ∧ OutR w w' ⟨2, boxL rs m, boxH rs m, 0, srt (idsOf rs)⟩ vl vh vi := by
  have := box_c h (m : Int) hlen hwf
  rw [boxR_yes ha, ha] at this
  simp only [rvA] at this
  exact this
theorem ball_y {w : World} {u v : Value} {c : List Int} {rs : List Rw} (hu : RdI w u c) (h : RdW w v rs) (hlen : rs.length ≤ 4611686018427387904) (hwf : ∀ i, i < rs.length → (Lit.int .i64 rs[i]!.1).wf = true) (hb : ballE c rs = 0) :
    Calls Try.prog 26 #[u, v] w fun e w' => ∃ vl vh vi, e = .returned (.tuple #[rB (radN c rs rs.length) vl vh vi, .int .i64 0]) ∧ OutR w w' ⟨3, c, [], radN c rs rs.length, srt (idsOf rs)⟩ vl vh vi := by
  have := ball_c hu h hlen hwf
  rw [ballR_yes hb, hb] at this
  exact this
theorem inA {rs : List Rw} {m : Nat} (ha : boxE rs (m : Int) = 0) (IL : (srt (idsOf rs)).length ≤ 4611686018427387904) {k : Nat} (hk : k < rs.length) {W : World} {vl vh vi uk : Value} (r1 : RdI W vl (boxL rs m)) (r2 : RdI W vh (boxH rs m)) (r3 : RdI W vi (srt (idsOf rs))) (r4 : RdI W uk rs[k]!.2) :
    Calls Try.prog 18 #[rA vl vh vi, uk] W fun e w' => e = .returned (.tuple #[.bool true, .int .i64 0]) ∧ Gb W w' := by
  have h := inside_c (v := rv ⟨2, boxL rs m, boxH rs m, 0, srt (idsOf rs)⟩ vl vh vi) ⟨vl, vh, vi, rfl, r1, r2, r3⟩ r4 IL
  obtain ⟨q1, q2⟩ := box_in ha hk
  rw [boxR_yes ha] at q1 q2
  rw [q1, q2] at h
  simp only [rvA] at h
  exact h.mono fun _ _ h => ⟨h.1, h.2.gb⟩
theorem inB {c : List Int} {rs : List Rw} (hb : ballE c rs = 0) (IL : (srt (idsOf rs)).length ≤ 4611686018427387904) {k : Nat} (hk : k < rs.length) {W : World} {vl vh vi uk : Value} (r1 : RdI W vl c) (r2 : RdI W vh []) (r3 : RdI W vi (srt (idsOf rs))) (r4 : RdI W uk rs[k]!.2) :
    Calls Try.prog 18 #[rB (radN c rs rs.length) vl vh vi, uk] W fun e w' => e = .returned (.tuple #[.bool true, .int .i64 0]) ∧ Gb W w' := by
  have h := inside_c (v := rv ⟨3, c, [], radN c rs rs.length, srt (idsOf rs)⟩ vl vh vi) ⟨vl, vh, vi, rfl, r1, r2, r3⟩ r4 IL
  obtain ⟨q1, q2⟩ := ball_in hb hk
  rw [ballR_yes hb] at q1 q2
  rw [q1, q2] at h
  exact h.mono fun _ _ h => ⟨h.1, h.2.gb⟩
theorem inC {rs : List Rw} {m p : Nat} (ha : boxE rs (m : Int) = 0) (hp : p < m) (hlt : loAt rs rs.length p < hiAt rs rs.length p) (IL : (srt (idsOf rs)).length ≤ 4611686018427387904) {k : Nat} (hk : k < rs.length) {W : World} {vl vh vi uk : Value} (r1 : RdI W vl (tab (cutF rs p) m)) (r2 : RdI W vh (boxH rs m)) (r3 : RdI W vi (srt (idsOf rs))) (r4 : RdI W uk rs[k]!.2) :
    Calls Try.prog 18 #[rA vl vh vi, uk] W fun e w' => e = .returned (.tuple #[.bool (insV (cutR rs m p) rs[k]!.2), .int .i64 0]) ∧ Gb W w' := by
  have h := inside_c (r := ⟨2, tab (cutF rs p) m, boxH rs m, 0, srt (idsOf rs)⟩) (v := rv ⟨2, tab (cutF rs p) m, boxH rs m, 0, srt (idsOf rs)⟩ vl vh vi) ⟨vl, vh, vi, rfl, r1, r2, r3⟩ r4 IL
  have e := cut_ck ha hp hlt hk
  unfold cutR at e ⊢
  rw [e] at h
  simp only [rvA] at h
  exact h.mono fun _ _ h => ⟨h.1, h.2.gb⟩
end Go.Proofs.Ytnhaloeeaejedaa
