/- vec.Inside and vec.Bound. -/
import Derived.Test.YtmlincnmhjkjgaaCy17
import Derived.Test.YtmlincnmhjkjgaaCy19
namespace Go.Proofs.Ytmlincnmhjkjgaa
open Go.RowKit

/-- Does a vector lie in a region? Both may be. -/
def inV (r : Reg) (a : List Int) : Bool := if r.S = 2 then decide (bx r.L r.H a = 0) else if r.S = 3 then decide (dst r.L a ≤ r.R) else true
/-- How near it may be. -/
def bdV (r : Reg) (a : List Int) : Nat := if r.S = 2 then bx r.L r.H a else if r.S = 3 then ballV (dst r.L a) r.R else 0
theorem ckB_ok {r : Reg} {a : List Int} (h : ckB r a = 0) : ckR r a.length = 0 ∧ chk a a.length = 0 := by
  unfold ckB at h; split at h
  · rename_i h1; exact ⟨h1, h⟩
  · rename_i h1; exact absurd h h1
theorem ckR_ok {r : Reg} {d : Int} (h : ckR r d = 0) : (r.S = 2 → cornE r.L r.H d = 0) ∧ (r.S = 3 → chk r.L d = 0) ∧ uses r = true ∧ rise r.I = true := by
  unfold ckR at h; split at h
  · split at h
    · rename_i h2
      refine ⟨fun e => ?_, fun e => ?_, h2⟩
      · rw [if_pos e] at h; exact h
      · rw [if_neg (by omega), if_pos e] at h; exact h
    · cases h
  · cases h
theorem cornE_ok {l h : List Int} {d : Int} (k : cornE l h d = 0) : chk l d = 0 ∧ chk h d = 0 ∧ below l h l.length = true := by
  unfold cornE at k; split at k
  · rename_i h1
    split at k
    · rename_i h2
      split at k
      · rename_i h3; exact ⟨h1, h2, h3⟩
      · cases k
    · rename_i h2; exact absurd k h2
  · rename_i h1; exact absurd k h1
/-- What a box and a vector that may be are. -/
theorem box_ok {r : Reg} {a : List Int} (h : ckB r a = 0) (s : r.S = 2) : r.L.length = a.length ∧ r.H.length = a.length ∧ a.length ≤ 64 ∧ allR r.L = true ∧ allR r.H = true ∧ allR a = true ∧ below r.L r.H a.length = true := by
  obtain ⟨h1, h2⟩ := ckB_ok h
  obtain ⟨h3, h4, h5⟩ := cornE_ok ((ckR_ok h1).1 s)
  obtain ⟨a1, a2, a3, a4⟩ := chk_ok h3
  obtain ⟨b1, b2, b3, b4⟩ := chk_ok h4
  obtain ⟨c1, c2, c3, c4⟩ := chk_ok h2
  have e1 : r.L.length = a.length := by omega
  rw [e1] at h5
  exact ⟨e1, by omega, c2, a4, b4, c4, h5⟩
theorem ball_ok {r : Reg} {a : List Int} (h : ckB r a = 0) (s : r.S = 3) : r.L.length = a.length ∧ r.L.length ≤ 64 ∧ allR r.L = true ∧ allR a = true := by
  obtain ⟨h1, h2⟩ := ckB_ok h
  obtain ⟨a1, a2, a3, a4⟩ := chk_ok ((ckR_ok h1).2.1 s)
  obtain ⟨c1, c2, c3, c4⟩ := chk_ok h2
  exact ⟨by omega, a2, a4, c4⟩
theorem cmp3_le (a b : Nat) : decide (cmp3 a b ≤ 0) = decide (a ≤ b) := by
  unfold cmp3
  by_cases h : a < b
  · rw [if_pos h, decide_eq_true (by omega), decide_eq_true (by omega)]
  · rw [if_neg h]
    by_cases h2 : a = b
    · rw [if_pos h2, decide_eq_true (by omega), decide_eq_true (by omega)]
    · rw [if_neg h2, decide_eq_false (by omega), decide_eq_false (by omega)]
theorem three_call {W w' : World} {p0 p1 p2 : Addr} {v0 v1 v2 : Value} (g : Gr W w') (h : W.cell? p0 = some v0 ∧ W.cell? p1 = some v1 ∧ W.cell? p2 = some v2) :
    w'.cell? p0 = some v0 ∧ w'.cell? p1 = some v1 ∧ w'.cell? p2 = some v2 := ⟨g.keeps h.1, g.keeps h.2.1, g.keeps h.2.2⟩

/-- What Inside answers. -/
def insV (r : Reg) (a : List Int) : Bool := decide (ckB r a = 0) && inV r a
/-- What Bound answers. -/
def bndV (r : Reg) (a : List Int) : Nat := if ckB r a = 0 then bdV r a else 0
end Go.Proofs.Ytmlincnmhjkjgaa
