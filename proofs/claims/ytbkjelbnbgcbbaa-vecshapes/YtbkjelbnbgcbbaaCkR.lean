/- vec.CheckRegion and vec.checkBoth. -/
import Derived.Test.YtbkjelbnbgcbbaaReg
namespace Go.Proofs.Ytbkjelbnbgcbbaa
open Go.RowKit

/-- What CheckRegion answers. -/
def ckR (r : Reg) (d : Int) : Int :=
  if 1 ≤ d ∧ d ≤ 64 then (if uses r = true ∧ rise r.I = true then (if r.S = 2 then cornE r.L r.H d else if r.S = 3 then chk r.L d else 0) else 32) else 30

set_option maxHeartbeats 4000000 in
set_option maxRecDepth 100000 in
theorem checkRegion_c {w : World} {v : Value} {r : Reg} (h : RdR w v r) (hlen : r.I.length ≤ 4611686018427387904) (d : Int) :
    Calls Try.prog 52 #[v, .int .i64 d] w fun e w' => e = .returned (.int .i64 (ckR r d)) ∧ Gr w w' := by
  have HR : Hid (RdR w v r) := h
  obtain ⟨vl, vh, vi, rfl, hL, hH, hI⟩ := h
  have G0 : Gr w (w.alloc (rc r vl vh vi)) := (Gr.refl _).alloc _ _
  have RA : Hid (RegAt (w.alloc (rc r vl vh vi)) w.heap.size r vl vh vi) := RegAt.new w r vl vh vi
  have CU := fun b hb => uses_v (HR.out.gb G0.gb) b hb
  have CI := fun W' (g : Gr (w.alloc (rc r vl vh vi)) W') b hb => idsRise_v (hI.gb (G0.trans g).gb) hlen b hb
  have CC := fun W' (g : Gr (w.alloc (rc r vl vh vi)) W') e he => corners_v (hL.gb (G0.trans g).gb) (hH.gb (G0.trans g).gb) d e he
  have CK := fun W' (g : Gr (w.alloc (rc r vl vh vi)) W') e he => check_v (hL.gb (G0.trans g).gb) d e he
  have E : Hid (ckR r d = if 1 ≤ d ∧ d ≤ 64 then (if uses r = true ∧ rise r.I = true then (if r.S = 2 then cornE r.L r.H d else if r.S = 3 then chk r.L d else 0) else 32) else 30) := rfl
  obtain ⟨pl, cl, rfl, _⟩ := hL
  obtain ⟨ph, ch, rfl, _⟩ := hH
  obtain ⟨pi, ci, rfl, _⟩ := hI
  generalize ckR r d = res at *
  by_cases hd : (decide (1 ≤ d) && decide (d ≤ 64)) = true
  · have hd' : 1 ≤ d ∧ d ≤ 64 := by simpa using hd
    have c1 := fun W => isDim_v d true hd W
    rw [if_pos hd'] at E
    by_cases hu : uses r = true
    · have c2 := CU _ hu
      by_cases hi' : rise r.I = true
      · rw [if_pos ⟨hu, hi'⟩] at E
        have c3 := fun W' g => CI W' g true hi'
        clear CU hd hd' hu CI hi' HR hlen
        by_cases s2 : r.S = 2
        · rw [if_pos s2] at E
          have c4 := fun W' g => CC W' g res E.out.symm
          clear CC CK E
          obtain ⟨S, L, H, R, I⟩ := r
          dsimp only at *
          subst s2
          generalize L.length = nl at *
          generalize H.length = nh at *
          generalize I.length = ni at *
          go_enter Try.func52, Try.ntmps52
          go_wp2_with fail
          refine (c1 _).mono ?_
          rintro e w' ⟨rfl, e2⟩
          subst e2
          go_wp2_with fail
          refine c2.mono ?_
          rintro e w1 ⟨rfl, g1⟩
          obtain ⟨q0, q1, q2, q3, q4, q5⟩ := RA.out.gb g1.gb
          go_wp2_with fail
          refine (c3 _ g1).mono ?_
          rintro e w' ⟨rfl, e2⟩
          subst e2
          go_wp2_with fail
          refine (c4 _ g1).mono ?_
          rintro e w' ⟨rfl, e2⟩
          subst e2
          go_wp2
          go_ret
          exact ⟨rfl, G0.trans g1⟩

        · rw [if_neg s2] at E
          have s2' : (r.S == 2) = false := by rw [beq_eq_false_iff_ne]; exact s2
          by_cases s3 : r.S = 3
          · rw [if_pos s3] at E
            have c4 := fun W' g => CK W' g res E.out.symm
            clear CC CK E s2 s2'
            obtain ⟨S, L, H, R, I⟩ := r
            dsimp only at *
            subst s3
            generalize L.length = nl at *
            generalize H.length = nh at *
            generalize I.length = ni at *
            go_enter Try.func52, Try.ntmps52
            go_wp2_with fail
            refine (c1 _).mono ?_
            rintro e w' ⟨rfl, e2⟩
            subst e2
            go_wp2_with fail
            refine c2.mono ?_
            rintro e w1 ⟨rfl, g1⟩
            obtain ⟨q0, q1, q2, q3, q4, q5⟩ := RA.out.gb g1.gb
            go_wp2_with fail
            refine (c3 _ g1).mono ?_
            rintro e w' ⟨rfl, e2⟩
            subst e2
            go_wp2_with fail
            refine (c4 _ g1).mono ?_
            rintro e w' ⟨rfl, e2⟩
            subst e2
            go_wp2
            go_ret
            exact ⟨rfl, G0.trans g1⟩

          · rw [if_neg s3] at E
            have s3' : (r.S == 3) = false := by rw [beq_eq_false_iff_ne]; exact s3
            have e := E.out
            subst e
            clear CC CK E s2 s3
            obtain ⟨S, L, H, R, I⟩ := r
            dsimp only at *
            generalize L.length = nl at *
            generalize H.length = nh at *
            generalize I.length = ni at *
            go_enter Try.func52, Try.ntmps52
            go_wp2_with fail
            refine (c1 _).mono ?_
            rintro e w' ⟨rfl, e2⟩
            subst e2
            go_wp2_with fail
            refine c2.mono ?_
            rintro e w1 ⟨rfl, g1⟩
            obtain ⟨q0, q1, q2, q3, q4, q5⟩ := RA.out.gb g1.gb
            go_wp2_with fail
            refine (c3 _ g1).mono ?_
            rintro e w' ⟨rfl, e2⟩
            subst e2
            go_wp2
            go_ret
            exact ⟨rfl, G0.trans g1⟩

      · rw [if_neg (fun h => hi' h.2)] at E
        have c3 := fun W' g => CI W' g false (by simpa using hi')
        have e := E.out
        subst e
        clear CU hd hd' hu CI hi' HR hlen CC CK E
        obtain ⟨S, L, H, R, I⟩ := r
        dsimp only at *
        generalize L.length = nl at *
        generalize H.length = nh at *
        generalize I.length = ni at *
        go_enter Try.func52, Try.ntmps52
        go_wp2_with fail
        refine (c1 _).mono ?_
        rintro e w' ⟨rfl, e2⟩
        subst e2
        go_wp2_with fail
        refine c2.mono ?_
        rintro e w1 ⟨rfl, g1⟩
        obtain ⟨q0, q1, q2, q3, q4, q5⟩ := RA.out.gb g1.gb
        go_wp2_with fail
        refine (c3 _ g1).mono ?_
        rintro e w' ⟨rfl, e2⟩
        subst e2
        go_wp2
        go_ret
        exact ⟨rfl, G0.trans g1⟩

    · rw [if_neg (fun h => hu h.1)] at E
      have c2 := CU false (by simpa using hu)
      have e := E.out
      subst e
      clear CU hd hd' hu CI HR hlen CC CK E
      obtain ⟨S, L, H, R, I⟩ := r
      dsimp only at *
      generalize L.length = nl at *
      generalize H.length = nh at *
      generalize I.length = ni at *
      go_enter Try.func52, Try.ntmps52
      go_wp2_with fail
      refine (c1 _).mono ?_
      rintro e w' ⟨rfl, e2⟩
      subst e2
      go_wp2_with fail
      refine c2.mono ?_
      rintro e w1 ⟨rfl, g1⟩
      obtain ⟨q0, q1, q2, q3, q4, q5⟩ := RA.out.gb g1.gb
      go_wp2
      go_ret
      exact ⟨rfl, G0.trans g1⟩

  · have hd' : ¬ (1 ≤ d ∧ d ≤ 64) := by simpa using hd
    have c1 := fun W => isDim_v d false (by simpa using hd) W
    rw [if_neg hd'] at E
    have e := E.out
    subst e
    clear CU CI CC CK HR hd hd' E RA
    go_enter Try.func52, Try.ntmps52
    go_wp2_with (go_at_call 14; refine (c1 _).mono ?_; rintro e w' ⟨rfl, e2⟩; subst e2)
    go_ret
    exact ⟨rfl, G0⟩
theorem checkRegion_v {w : World} {v : Value} {r : Reg} (h : RdR w v r) (hlen : r.I.length ≤ 4611686018427387904) (d x : Int) (hx : ckR r d = x) :
    Calls Try.prog 52 #[v, .int .i64 d] w fun e w' => e = .returned (.int .i64 x) ∧ Gr w w' := by
  subst hx; exact checkRegion_c h hlen d

/-- What checkBoth answers. -/
def ckB (r : Reg) (a : List Int) : Int := if ckR r a.length = 0 then chk a a.length else ckR r a.length

set_option maxHeartbeats 4000000 in
theorem checkBoth_c {w : World} {v u : Value} {r : Reg} {a : List Int} (h : RdR w v r) (hu : RdI w u a) (hlen : r.I.length ≤ 4611686018427387904) :
    Calls Try.prog 44 #[v, u] w fun e w' => e = .returned (.int .i64 (ckB r a)) ∧ Gr w w' := by
  have HR : Hid (RdR w v r) := h
  obtain ⟨vl, vh, vi, rfl, hL, hH, hI⟩ := h
  have G0 : Gr w (w.alloc (rc r vl vh vi)) := (Gr.refl _).alloc _ _
  have C1 := fun x hx => checkRegion_v (HR.out.gb G0.gb) hlen (a.length : Int) x hx
  have C2 := fun W' (g : Gr (w.alloc (rc r vl vh vi)) W') x hx => check_v (hu.gb (G0.trans g).gb) (a.length : Int) x hx
  have E : Hid (ckB r a = if ckR r a.length = 0 then chk a a.length else ckR r a.length) := rfl
  obtain ⟨pa, ca, rfl, _⟩ := hu
  generalize ckB r a = res at *
  by_cases h1 : ckR r a.length = 0
  · rw [if_pos h1] at E
    have c1 := C1 _ h1
    have c2 := fun W' g => C2 W' g res E.out.symm
    clear C1 C2 E h1 HR hlen hL hH hI
    obtain ⟨S, L, H, R, I⟩ := r
    generalize a.length = n at *
    go_enter Try.func44, Try.ntmps44
    go_wp2_with fail
    refine c1.mono ?_
    rintro e w1 ⟨rfl, g1⟩
    go_wp2_with fail
    refine (c2 _ g1).mono ?_
    rintro e w' ⟨rfl, e2⟩
    subst e2
    go_wp2
    go_ret
    exact ⟨rfl, G0.trans g1⟩
  · rw [if_neg h1] at E
    have e := E.out
    have h1' : (res == 0) = false := by rw [beq_eq_false_iff_ne, e]; exact h1
    have c1 := C1 _ e.symm
    clear C1 C2 E h1 HR hlen hL hH hI e
    obtain ⟨S, L, H, R, I⟩ := r
    generalize a.length = n at *
    go_enter Try.func44, Try.ntmps44
    go_wp2_with fail
    refine c1.mono ?_
    rintro e w1 ⟨rfl, g1⟩
    go_wp2
    go_ret
    exact ⟨rfl, G0.trans g1⟩
theorem checkBoth_v {w : World} {v u : Value} {r : Reg} {a : List Int} (h : RdR w v r) (hu : RdI w u a) (hlen : r.I.length ≤ 4611686018427387904) (x : Int) (hx : ckB r a = x) :
    Calls Try.prog 44 #[v, u] w fun e w' => e = .returned (.int .i64 x) ∧ Gr w w' := by
  subst hx; exact checkBoth_c h hu hlen
end Go.Proofs.Ytbkjelbnbgcbbaa
