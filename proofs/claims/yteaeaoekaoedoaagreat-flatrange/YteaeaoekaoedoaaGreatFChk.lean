/- flat.Check, checkAll, begin. -/
import Derived.Test.YteaeaoekaoedoaaGreatBoxY
import Derived.Test.YteaeaoekaoedoaaGreatFMath
import Derived.Test.YteaeaoekaoedoaaGreatTkHas
namespace Go.Proofs.YteaeaoekaoedoaaGreat
open Go.RowKit Go.Sort

/-- Rows whose numbers are of a machine's word. -/
def Wf (rs : List Rw) : Prop := rs.length ≤ 4611686018427387904 ∧ ∀ i, i < rs.length → (Lit.int .i64 rs[i]!.1).wf = true
set_option maxHeartbeats 1000000 in
theorem fcheck_c {w : World} {v : Value} {rs : List Rw} (h : RdW w v rs) (hwf : Wf rs) (d : Int) :
    Calls Tryz.prog 10 #[v, .int .i64 d] w fun e w' => e = .returned (.int .i64 (flatE rs d)) ∧ Gb w w' := by
  have hb := box_c h d hwf.1 hwf.2
  have E := flatE_box rs d
  obtain ⟨a, cap, rfl, _⟩ := h
  generalize boxR rs d = R at *
  generalize boxE rs d = x at *
  generalize flatE rs d = y at *
  generalize rs.length = n at *
  by_cases hx : x = 1
  · rw [if_pos hx] at E
    subst hx; subst E
    go_enter Tryz.func10, Tryz.ntmps10
    go_wp2_with fail
    refine hb.mono ?_
    rintro e w' ⟨vl, vh, vi, rfl, g, o1, o2, o3, _⟩
    obtain ⟨p1, c1, rfl, _⟩ := o1.rd
    obtain ⟨p2, c2, rfl, _⟩ := o2.rd
    obtain ⟨p3, c3, rfl, _⟩ := o3.rd
    clear hb o1 o2 o3
    go_wp2
    go_ret
    exact ⟨rfl, by refine gb_trans g ?_; go_grown⟩
  · rw [if_neg hx] at E
    subst E
    have hx' : (y == 1) = false := by rw [beq_eq_false_iff_ne]; exact hx
    go_enter Tryz.func10, Tryz.ntmps10
    go_wp2_with fail
    refine hb.mono ?_
    rintro e w' ⟨vl, vh, vi, rfl, g, o1, o2, o3, _⟩
    obtain ⟨p1, c1, rfl, _⟩ := o1.rd
    obtain ⟨p2, c2, rfl, _⟩ := o2.rd
    obtain ⟨p3, c3, rfl, _⟩ := o3.rd
    clear hb o1 o2 o3
    go_wp2
    go_ret
    exact ⟨rfl, by refine gb_trans g ?_; go_grown⟩

set_option maxHeartbeats 1000000 in
theorem ask_c {w : World} {v u : Value} {rs : List Rw} {q : List Int} (h : RdW w v rs) (hu : RdI w u q) (hwf : Wf rs) :
    Calls Tryz.prog 38 #[v, u] w fun e w' => e = .returned (.int .i64 (askE rs q)) ∧ Gb w w' := by
  have c1 := check_c hu (q.length : Int)
  have c2 := fcheck_c h hwf (q.length : Int)
  have E : askE rs q = if chk q (q.length : Int) = 0 then flatE rs (q.length : Int) else chk q (q.length : Int) := rfl
  obtain ⟨a, cap, rfl, _⟩ := h
  obtain ⟨a', cap', rfl, _⟩ := hu
  generalize askE rs q = z at *
  generalize flatE rs (q.length : Int) = y at *
  generalize chk q (q.length : Int) = x at *
  generalize rs.length = n at *
  generalize q.length = m at *
  by_cases hx : x = 0
  · rw [if_pos hx] at E
    subst hx; subst E
    go_enter Tryz.func38, Tryz.ntmps38
    go_wp2_with fail
    refine c1.mono ?_
    rintro e w' ⟨rfl, e2⟩
    subst e2
    clear c1
    go_wp2_with fail
    refine c2.mono ?_
    rintro e w' ⟨rfl, g⟩
    clear c2
    go_wp2
    go_ret
    exact ⟨rfl, g⟩
  · rw [if_neg hx] at E
    subst E
    have hx' : (z == 0) = false := by rw [beq_eq_false_iff_ne]; exact hx
    go_enter Tryz.func38, Tryz.ntmps38
    go_wp2_with fail
    refine c1.mono ?_
    rintro e w' ⟨rfl, e2⟩
    subst e2
    clear c1 c2
    go_wp2
    go_ret
    exact ⟨rfl, Below.refl _ _⟩

/-- What begin leaves: none and why not, or a heap of its own, as yet empty. -/
def Begun (w w' : World) (p : Value) (rs : List Rw) (q : List Int) (k : Int) : Prop :=
  Gb w w' ∧ (topE rs q k ≠ 0 → p = .pointer none) ∧ (topE rs q k = 0 → ∃ hb, p = .pointer (some ⟨hb, 0, none⟩) ∧ w.heap.size ≤ hb ∧ Tk.Has w' hb k.toNat (.slice none 0 0) [])
set_option maxHeartbeats 1000000 in
theorem begin_c {w : World} {v u : Value} {rs : List Rw} {q : List Int} (h : RdW w v rs) (hu : RdI w u q) (hwf : Wf rs) (k : Int) :
    Calls Tryz.prog 30 #[v, u, .int .i64 k] w fun e w' => ∃ p, e = .returned (.tuple #[p, .int .i64 (topE rs q k)]) ∧ Begun w w' p rs q k := by
  have c1 := ask_c h hu hwf
  have E : topE rs q k = if askE rs q = 0 then (if 1 ≤ k ∧ k ≤ 64 then 0 else 1) else askE rs q := rfl
  unfold Begun
  obtain ⟨a, cap, rfl, _⟩ := h
  obtain ⟨a', cap', rfl, _⟩ := hu
  generalize topE rs q k = z at *
  generalize askE rs q = x at *
  generalize rs.length = n at *
  generalize q.length = m at *
  by_cases hx : x = 0
  · rw [if_pos hx] at E
    subst hx
    by_cases hk : 1 ≤ k ∧ k ≤ 64
    · rw [if_pos hk] at E
      subst E
      go_enter Tryz.func30, Tryz.ntmps30
      go_wp2_with fail
      refine c1.mono ?_
      rintro e w' ⟨rfl, g⟩
      clear c1
      have cN := Tk.new_ok k hk.1 hk.2 w'
      go_wp2_with fail
      refine cN.mono ?_
      rintro e w2 ⟨rfl, e2⟩
      subst e2
      clear cN
      go_wp2
      go_ret2
      refine ⟨_, rfl, gb_alloc g _, fun e => absurd rfl e, fun _ => ⟨_, rfl, g.size, ?_⟩⟩
      have hh := Tk.new_has k.toNat (by omega) (by omega) w'
      rwa [show ((k.toNat : Nat) : Int) = k by omega] at hh
    · rw [if_neg hk] at E
      subst E
      have hk' : k < 1 ∨ 64 < k := by omega
      clear hk
      go_enter Tryz.func30, Tryz.ntmps30
      go_wp2_with fail
      refine c1.mono ?_
      rintro e w' ⟨rfl, g⟩
      clear c1
      have cN : Calls Tryz.prog 54 #[.int .i64 k] w' fun e w'' => e = .returned (.tuple #[.pointer none, .int .i64 1]) ∧ w'' = w' := by
        rcases hk' with h | h
        · exact Tk.new_lo k h w'
        · exact Tk.new_hi k h w'
      go_wp2_with fail
      refine cN.mono ?_
      rintro e w2 ⟨rfl, e2⟩
      subst e2
      clear cN
      go_wp2
      go_ret2
      exact ⟨_, rfl, g, fun _ => rfl, fun e => absurd e (by decide)⟩
  · rw [if_neg hx] at E
    subst E
    have hx' : (z == 0) = false := by rw [beq_eq_false_iff_ne]; exact hx
    go_enter Tryz.func30, Tryz.ntmps30
    go_wp2_with fail
    refine c1.mono ?_
    rintro e w' ⟨rfl, g⟩
    clear c1
    go_wp2
    go_ret2
    exact ⟨_, rfl, g, fun _ => rfl, fun e => absurd e hx⟩
end Go.Proofs.YteaeaoekaoedoaaGreat
