import Derived.Test.YteaeaoekaoedoaaGreatM5
import Derived.Test.YteaeaoekaoedoaaGreatRefV
/- vec.CheckRegion and vec.checkBoth. -/
namespace Go.Proofs.YteaeaoekaoedoaaGreat
open Go.RowKit

/-- What CheckRegion answers. -/
def ckR (r : Reg) (d : Int) : Int :=
  if 1 ≤ d ∧ d ≤ 64 then (if uses r = true ∧ rise r.I = true then (if r.S = 2 then cornE r.L r.H d else if r.S = 3 then chk r.L d else 0) else 32) else 30

/-- What checkBoth answers. -/
def ckB (r : Reg) (a : List Int) : Int := if ckR r a.length = 0 then chk a a.length else ckR r a.length

end Go.Proofs.YteaeaoekaoedoaaGreat

/- The reference's Id, ids and form. -/
namespace Go.Proofs.YteaeaoekaoedoaaGreat
open Go.RowKit

theorem rid_c (x : Int) (w : World) : Calls Tryz.prog 57 #[.int .i64 x] w fun e w' => e = .returned (.bool (okId x)) ∧ w = w' := by
  by_cases h : 1 ≤ x
  · by_cases h2 : x ≤ 1000000000
    · have E : Hid (okId x = true) := (okId_iff x).2 ⟨h, h2⟩
      go_enter Tryz.func57, Tryz.ntmps57
      go_wp2
      go_ret
      exact ⟨by rw [E.out]; rfl, rfl⟩
    · have E : Hid (okId x = false) := by unfold Hid; rw [← Bool.not_eq_true, okId_iff]; omega
      go_enter Tryz.func57, Tryz.ntmps57
      go_wp2
      go_ret
      exact ⟨by rw [E.out]; rfl, rfl⟩
  · have E : Hid (okId x = false) := by unfold Hid; rw [← Bool.not_eq_true, okId_iff]; omega
    go_enter Tryz.func57, Tryz.ntmps57
    go_wp2
    go_ret
    exact ⟨by rw [E.out]; rfl, rfl⟩
theorem rid_v (x : Int) (b : Bool) (h : okId x = b) (w : World) : Calls Tryz.prog 57 #[.int .i64 x] w fun e w' => e = .returned (.bool b) ∧ w = w' := by
  subst h; exact rid_c x w

set_option maxHeartbeats 2000000 in
theorem form_c {w : World} {v : Value} {r : Reg} (h : RdR w v r) :
    Calls Tryz.prog 118 #[v] w fun e w' => e = .returned (.bool (uses r)) ∧ Gr w w' := by
  obtain ⟨vl, vh, vi, rfl, ⟨pl, cl, rfl, _⟩, ⟨ph, ch, rfl, _⟩, h3⟩ := h
  clear h3
  have E : Hid (uses r = if r.S = 1 then decide (r.L.length = 0) && decide (r.H.length = 0) && decide (r.R = 0) else if r.S = 2 then decide (r.R = 0) else if r.S = 3 then decide (r.H.length = 0) else false) := rfl
  generalize uses r = res at *
  obtain ⟨S, L, H, R, I⟩ := r
  dsimp only at *
  generalize L.length = nl at *
  generalize H.length = nh at *
  by_cases s1 : S = 1
  · subst s1
    rw [if_pos rfl] at E
    by_cases k1 : nl = 0
    · subst k1
      by_cases k2 : nh = 0
      · subst k2
        have hz := fun W => wd_eq0 R res (by have := E.out; simpa using this.symm) W
        go_enter Tryz.func118, Tryz.ntmps118
        go_wp2
        go_ret
        exact ⟨rfl, ((Gr.refl _).alloc _ _).alloc _ _⟩
      · have e : res = false := by have := E.out; rw [this]; simp [k2]
        subst e
        have k2' : ((nh : Int) == 0) = false := by rw [beq_eq_false_iff_ne]; omega
        clear k2 E
        go_enter Tryz.func118, Tryz.ntmps118
        go_wp2
        go_ret
        exact ⟨rfl, ((Gr.refl _).alloc _ _).alloc _ _⟩
    · have e : res = false := by have := E.out; rw [this]; simp [k1]
      subst e
      have k2' : ((nl : Int) == 0) = false := by rw [beq_eq_false_iff_ne]; omega
      clear k1 E
      go_enter Tryz.func118, Tryz.ntmps118
      go_wp2
      go_ret
      exact ⟨rfl, ((Gr.refl _).alloc _ _).alloc _ _⟩
  · have s1' : (S == 1) = false := by rw [beq_eq_false_iff_ne]; exact s1
    by_cases s2 : S = 2
    · subst s2
      have hz := fun W => wd_eq0 R res (by have := E.out; simpa using this.symm) W
      clear E s1
      go_enter Tryz.func118, Tryz.ntmps118
      go_wp2
      go_ret
      exact ⟨rfl, ((Gr.refl _).alloc _ _).alloc _ _⟩
    · have s2' : (S == 2) = false := by rw [beq_eq_false_iff_ne]; exact s2
      by_cases s3 : S = 3
      · subst s3
        have e : Hid (res = ((nh : Int) == 0)) := by
          have := E.out
          unfold Hid
          rw [this]
          by_cases k : nh = 0
          · simp [k]
          · have : ((nh : Int) == 0) = false := by rw [beq_eq_false_iff_ne]; omega
            rw [this]; simp [k]
        clear E s1 s2
        go_enter Tryz.func118, Tryz.ntmps118
        go_wp2
        go_ret
        exact ⟨by rw [e.out]; rfl, ((Gr.refl _).alloc _ _).alloc _ _⟩
      · have s3' : (S == 3) = false := by rw [beq_eq_false_iff_ne]; exact s3
        have e : res = false := by have := E.out; rw [this, if_neg s1, if_neg s2, if_neg s3]
        subst e
        clear E s1 s2 s3
        go_enter Tryz.func118, Tryz.ntmps118
        go_wp2
        go_ret
        exact ⟨rfl, ((Gr.refl _).alloc _ _).alloc _ _⟩
theorem form_v {w : World} {v : Value} {r : Reg} (h : RdR w v r) (b : Bool) (hb : uses r = b) :
    Calls Tryz.prog 118 #[v] w fun e w' => e = .returned (.bool b) ∧ Gr w w' := by
  subst hb; exact form_c h

end Go.Proofs.YteaeaoekaoedoaaGreat
