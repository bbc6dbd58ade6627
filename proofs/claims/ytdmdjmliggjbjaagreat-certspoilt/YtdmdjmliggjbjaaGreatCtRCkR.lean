/- The reference's CheckRegion. -/
import Derived.Test.YtdmdjmliggjbjaaGreatCt19
namespace Go.Proofs.YtdmdjmliggjbjaaGreat
open Go.RowKit

theorem rids_v {w : World} {v : Value} {l : List Int} (h : RdI w v l) (hlen : l.length ≤ 4611686018427387904) (b : Bool) (hb : rise l = b) :
    Calls Tryz.prog 103 #[v] w fun e w' => e = .returned (.bool b) ∧ Gr w w' := by
  subst hb; exact rids_c h hlen
theorem uses_S {r : Reg} (h : uses r = true) : r.S = 1 ∨ r.S = 2 ∨ r.S = 3 := by
  unfold uses at h
  by_cases s1 : r.S = 1
  · exact .inl s1
  by_cases s2 : r.S = 2
  · exact .inr (.inl s2)
  by_cases s3 : r.S = 3
  · exact .inr (.inr s3)
  rw [if_neg s1, if_neg s2, if_neg s3] at h
  cases h

set_option maxHeartbeats 8000000 in
set_option maxRecDepth 100000 in
theorem rckR_c {w : World} {v : Value} {r : Reg} (h : RdR w v r) (hlen : r.I.length ≤ 4611686018427387904) (d : Int) :
    Calls Tryz.prog 69 #[v, .int .i64 d] w fun e w' => e = .returned (.int .i64 (ckR r d)) ∧ Gr w w' := by
  have HR : Hid (RdR w v r) := h
  obtain ⟨vl, vh, vi, rfl, hL, hH, hI⟩ := h
  have G0 : Gr w (w.alloc (rc r vl vh vi)) := (Gr.refl _).alloc _ _
  have RA : Hid (RegAt (w.alloc (rc r vl vh vi)) w.heap.size r vl vh vi) := RegAt.new w r vl vh vi
  have CU := fun b hb => form_v (HR.out.gb G0.gb) b hb
  have CI := fun W' (g : Gr (w.alloc (rc r vl vh vi)) W') b hb => rids_v (hI.gb (G0.trans g).gb) hlen b hb
  have CL := fun W' (g : Gr (w.alloc (rc r vl vh vi)) W') e he => rcheck_v (hL.gb (G0.trans g).gb) d e he
  have CH := fun W' (g : Gr (w.alloc (rc r vl vh vi)) W') e he => rcheck_v (hH.gb (G0.trans g).gb) d e he
  have E : Hid (ckR r d = if 1 ≤ d ∧ d ≤ 64 then (if uses r = true ∧ rise r.I = true then (if r.S = 2 then cornE r.L r.H d else if r.S = 3 then chk r.L d else 0) else 32) else 30) := rfl
  obtain ⟨pl, cl, rfl, aL⟩ := hL
  obtain ⟨ph, ch, rfl, aH⟩ := hH
  obtain ⟨pi, ci, rfl, _⟩ := hI
  generalize ckR r d = res at *
  by_cases d1 : d < 1
  · rw [if_neg (by omega)] at E
    have e := E.out
    subst e
    clear CU CI CL CH HR E RA aL aH
    go_enter Tryz.func69, Tryz.ntmps69
    go_wp2
    go_ret
    exact ⟨rfl, G0⟩
  by_cases d2 : 64 < d
  · rw [if_neg (by omega)] at E
    have e := E.out
    subst e
    clear CU CI CL CH HR E RA aL aH
    go_enter Tryz.func69, Tryz.ntmps69
    go_wp2
    go_ret
    exact ⟨rfl, G0⟩
  rw [if_pos (by omega)] at E
  by_cases hu : uses r = true
  · have c2 := CU _ hu
    by_cases hi' : rise r.I = true
    · rw [if_pos ⟨hu, hi'⟩] at E
      have c3 := fun W' g => CI W' g true hi'
      have hS := uses_S hu
      clear CU hu CI hi' HR hlen
      by_cases s1 : r.S = 1
      · rw [if_neg (by omega), if_neg (by omega)] at E
        have e := E.out
        subst e
        clear CL CH E aL aH hS
        obtain ⟨S, L, H, R, I⟩ := r
        dsimp only at *
        subst s1
        generalize L.length = nl at *
        generalize H.length = nh at *
        generalize I.length = ni at *
        go_enter Tryz.func69, Tryz.ntmps69
        go_wp2_with fail
        refine c2.mono ?_
        rintro e w1 ⟨rfl, g1⟩
        obtain ⟨q0, q1, q2, q3, q4, q5⟩ := RA.out.gb g1.gb
        go_wp2_with fail
        refine (c3 _ g1).mono ?_
        rintro e w2 ⟨rfl, g2⟩
        replace g1 := g1.trans g2
        clear q0 q1 q2 q3 q4 q5
        obtain ⟨q0, q1, q2, q3, q4, q5⟩ := RA.out.gb g1.gb
        go_wp2
        go_ret
        exact ⟨rfl, G0.trans g1⟩
      · have s1' : (r.S == 1) = false := by rw [beq_eq_false_iff_ne]; exact s1
        by_cases s3 : r.S = 3
        · rw [if_neg (by omega), if_pos s3] at E
          have c4 := fun W' g => CL W' g res E.out.symm
          clear CL CH E aL aH hS s1 s1'
          by_cases hz : res = 0
          · subst hz
            obtain ⟨S, L, H, R, I⟩ := r
            dsimp only at *
            subst s3
            generalize L.length = nl at *
            generalize H.length = nh at *
            generalize I.length = ni at *
            go_enter Tryz.func69, Tryz.ntmps69
            go_wp2_with fail
            refine c2.mono ?_
            rintro e w1 ⟨rfl, g1⟩
            obtain ⟨q0, q1, q2, q3, q4, q5⟩ := RA.out.gb g1.gb
            go_wp2_with fail
            refine (c3 _ g1).mono ?_
            rintro e w2 ⟨rfl, g2⟩
            replace g1 := g1.trans g2
            clear q0 q1 q2 q3 q4 q5
            obtain ⟨q0, q1, q2, q3, q4, q5⟩ := RA.out.gb g1.gb
            go_wp2_with fail
            refine (c4 _ g1).mono ?_
            rintro e w' ⟨rfl, e2⟩
            subst e2
            go_wp2
            go_ret
            exact ⟨rfl, G0.trans g1⟩
          · have hz' : (res == 0) = false := by rw [beq_eq_false_iff_ne]; exact hz
            obtain ⟨S, L, H, R, I⟩ := r
            dsimp only at *
            subst s3
            generalize L.length = nl at *
            generalize H.length = nh at *
            generalize I.length = ni at *
            go_enter Tryz.func69, Tryz.ntmps69
            go_wp2_with fail
            refine c2.mono ?_
            rintro e w1 ⟨rfl, g1⟩
            obtain ⟨q0, q1, q2, q3, q4, q5⟩ := RA.out.gb g1.gb
            go_wp2_with fail
            refine (c3 _ g1).mono ?_
            rintro e w2 ⟨rfl, g2⟩
            replace g1 := g1.trans g2
            clear q0 q1 q2 q3 q4 q5
            obtain ⟨q0, q1, q2, q3, q4, q5⟩ := RA.out.gb g1.gb
            go_wp2_with fail
            refine (c4 _ g1).mono ?_
            rintro e w' ⟨rfl, e2⟩
            subst e2
            go_wp2
            go_ret
            exact ⟨rfl, G0.trans g1⟩
        · have s2 : r.S = 2 := by omega
          rw [if_pos s2] at E
          have s3' : (r.S == 3) = false := by rw [beq_eq_false_iff_ne]; exact s3
          by_cases k1 : chk r.L d = 0
          · have c4 := fun W' g => CL W' g 0 k1
            by_cases k2 : chk r.H d = 0
            · have c5 := fun W' g => CH W' g 0 k2
              have E2 : Hid (res = if below r.L r.H r.L.length = true then 0 else 32) := by have := E.out; unfold cornE at this; rw [if_pos k1, if_pos k2] at this; exact this
              obtain ⟨m1, m2, m3, _⟩ := chk_ok k1
              obtain ⟨_, _, m4, _⟩ := chk_ok k2
              have A : Hid (∀ i, i < r.L.length → ∃ b o, pl = some ⟨b, o, none⟩ ∧ w.cell? ⟨b, o + i, none⟩ = some (.int .i64 r.L[i]!)) := aL
              have B : Hid (∀ i, i < r.L.length → ∃ b o, ph = some ⟨b, o, none⟩ ∧ w.cell? ⟨b, o + i, none⟩ = some (.int .i64 r.H[i]!)) := fun i hi => aH i (by omega)
              obtain ⟨S, L, H, R, I⟩ := r
              dsimp only at *
              clear aL aH CL CH E k1 k2
              generalize H.length = nh at *
              have hnh : nh = L.length := by omega
              subst hnh
              subst m3
              obtain ⟨n, hN⟩ : ∃ n, n = L.length := ⟨_, rfl⟩
              have N : Hid (n = L.length) := hN
              simp only [← hN] at *
              clear hN m4 hS s1 s3 d1 d2
              subst s2
              generalize I.length = ni at *
              go_enter Tryz.func69, Tryz.ntmps69
              go_wp2_with fail
              refine c2.mono ?_
              rintro e w1 ⟨rfl, g1⟩
              obtain ⟨q0, q1, q2, q3, q4, q5⟩ := RA.out.gb g1.gb
              go_wp2_with fail
              refine (c3 _ g1).mono ?_
              rintro e w2 ⟨rfl, g2⟩
              replace g1 := g1.trans g2
              clear q0 q1 q2 q3 q4 q5
              obtain ⟨q0, q1, q2, q3, q4, q5⟩ := RA.out.gb g1.gb
              go_wp2_with fail
              refine (c4 _ g1).mono ?_
              rintro e w' ⟨rfl, e2⟩
              subst e2
              go_wp2_with fail
              refine (c5 _ g1).mono ?_
              rintro e w' ⟨rfl, e2⟩
              subst e2
              clear c2 c3 c4 c5
              go_wp2
              go_loopw [6] (fun iv w' => ∃ q : Nat, iv = .int .i64 (q : Int) ∧ q ≤ n ∧ Gr (w.alloc (rc ⟨2, L, H, R, I⟩ (.slice pl n cl) (.slice ph n ch) (.slice pi ni ci))) w' ∧ Hid (below L H q = true)) (fun iv _ => n - (intOf iv).toNat)
              case atStart => exact ⟨0, rfl, Nat.zero_le _, g1, rfl⟩
              case round =>
                clear q0 q1 q2 q3 q4 q5 g1
                obtain ⟨q, rfl, hq, g1, X⟩ := hrel
                obtain ⟨q0, q1, q2, q3, q4, q5⟩ := RA.out.gb g1.gb
                by_cases hqn : q < n
                · have hqi : (q : Int) < (n : Int) := by omega
                  obtain ⟨b1, o1, ea, hc1⟩ := A.out q hqn
                  obtain ⟨b2, o2, eb, hc2⟩ := B.out q hqn
                  subst ea; subst eb
                  replace hc1 := (G0.trans g1).keeps hc1
                  replace hc2 := (G0.trans g1).keeps hc2
                  by_cases hle : L[q]! ≤ H[q]!
                  · have R1 : Hid (below L H (q + 1) = true) := by unfold Hid; rw [below, X.out, decide_eq_true hle]; rfl
                    have hle' : ¬ H[q]! < L[q]! := by omega
                    generalize L[q]! = x at *
                    generalize H[q]! = y at *
                    clear X hle
                    go_wp2
                    go_quiet (fail)
                    go_wp2
                    go_roundw
                    case rel => exact ⟨q + 1, by simp, hqn, g1.drewN _, R1⟩
                    case measure => simp [intOf]; omega
                  · have R1 : Hid (res = 32) := by
                      have : below L H n = false := below_le (p := q + 1) (by omega) (by rw [below, decide_eq_false hle, Bool.and_false])
                      unfold Hid; rw [E2.out, this]; rfl
                    have hle' : H[q]! < L[q]! := by omega
                    generalize L[q]! = x at *
                    generalize H[q]! = y at *
                    clear X hle
                    go_wp2
                    go_quiet (fail)
                    go_wp2
                    go_ret
                    exact ⟨by rw [R1.out]; rfl, (G0.trans g1).drewN _⟩
                · have hqi : ¬ (q : Int) < (n : Int) := by omega
                  have R1 : Hid (res = 0) := by
                    have h2 : q = n := by omega
                    unfold Hid; rw [E2.out, ← h2, X.out]; rfl
                  go_wp2
                  go_ret
                  exact ⟨by rw [R1.out]; rfl, G0.trans g1⟩
            · have c5 := fun W' g => CH W' g res (by have := E.out; unfold cornE at this; rw [if_pos k1, if_neg k2] at this; exact this.symm)
              have hz : ¬ res = 0 := by have := E.out; unfold cornE at this; rw [if_pos k1, if_neg k2] at this; rw [this]; exact k2
              have hz' : (res == 0) = false := by rw [beq_eq_false_iff_ne]; exact hz
              clear CL CH E aL aH hS s1 s3 k1 k2
              obtain ⟨S, L, H, R, I⟩ := r
              dsimp only at *
              subst s2
              generalize L.length = nl at *
              generalize H.length = nh at *
              generalize I.length = ni at *
              go_enter Tryz.func69, Tryz.ntmps69
              go_wp2_with fail
              refine c2.mono ?_
              rintro e w1 ⟨rfl, g1⟩
              obtain ⟨q0, q1, q2, q3, q4, q5⟩ := RA.out.gb g1.gb
              go_wp2_with fail
              refine (c3 _ g1).mono ?_
              rintro e w2 ⟨rfl, g2⟩
              replace g1 := g1.trans g2
              clear q0 q1 q2 q3 q4 q5
              obtain ⟨q0, q1, q2, q3, q4, q5⟩ := RA.out.gb g1.gb
              go_wp2_with fail
              refine (c4 _ g1).mono ?_
              rintro e w' ⟨rfl, e2⟩
              subst e2
              go_wp2_with fail
              refine (c5 _ g1).mono ?_
              rintro e w' ⟨rfl, e2⟩
              subst e2
              go_wp2
              go_ret
              exact ⟨rfl, G0.trans g1⟩
          · have c4 := fun W' g => CL W' g res (by have := E.out; unfold cornE at this; rw [if_neg k1] at this; exact this.symm)
            have hz : ¬ res = 0 := by have := E.out; unfold cornE at this; rw [if_neg k1] at this; rw [this]; exact k1
            have hz' : (res == 0) = false := by rw [beq_eq_false_iff_ne]; exact hz
            clear CL CH E aL aH hS s1 s3 k1
            obtain ⟨S, L, H, R, I⟩ := r
            dsimp only at *
            subst s2
            generalize L.length = nl at *
            generalize H.length = nh at *
            generalize I.length = ni at *
            go_enter Tryz.func69, Tryz.ntmps69
            go_wp2_with fail
            refine c2.mono ?_
            rintro e w1 ⟨rfl, g1⟩
            obtain ⟨q0, q1, q2, q3, q4, q5⟩ := RA.out.gb g1.gb
            go_wp2_with fail
            refine (c3 _ g1).mono ?_
            rintro e w2 ⟨rfl, g2⟩
            replace g1 := g1.trans g2
            clear q0 q1 q2 q3 q4 q5
            obtain ⟨q0, q1, q2, q3, q4, q5⟩ := RA.out.gb g1.gb
            go_wp2_with fail
            refine (c4 _ g1).mono ?_
            rintro e w' ⟨rfl, e2⟩
            subst e2
            go_wp2
            go_ret
            exact ⟨rfl, G0.trans g1⟩
    · rw [if_neg (fun h => hi' h.2)] at E
      have c3 := fun W' g => CI W' g false (by simpa using hi')
      have e := E.out
      subst e
      clear CU hu CI hi' HR hlen CL CH E aL aH
      obtain ⟨S, L, H, R, I⟩ := r
      dsimp only at *
      generalize L.length = nl at *
      generalize H.length = nh at *
      generalize I.length = ni at *
      go_enter Tryz.func69, Tryz.ntmps69
      go_wp2_with fail
      refine c2.mono ?_
      rintro e w1 ⟨rfl, g1⟩
      obtain ⟨q0, q1, q2, q3, q4, q5⟩ := RA.out.gb g1.gb
      go_wp2_with fail
      refine (c3 _ g1).mono ?_
      rintro e w2 ⟨rfl, g2⟩
      replace g1 := g1.trans g2
      clear q0 q1 q2 q3 q4 q5
      obtain ⟨q0, q1, q2, q3, q4, q5⟩ := RA.out.gb g1.gb
      go_wp2
      go_ret
      exact ⟨rfl, G0.trans g1⟩
  · rw [if_neg (fun h => hu h.1)] at E
    have c2 := CU false (by simpa using hu)
    have e := E.out
    subst e
    clear CU hu CI HR hlen CL CH E aL aH
    obtain ⟨S, L, H, R, I⟩ := r
    dsimp only at *
    generalize L.length = nl at *
    generalize H.length = nh at *
    generalize I.length = ni at *
    go_enter Tryz.func69, Tryz.ntmps69
    go_wp2_with fail
    refine c2.mono ?_
    rintro e w1 ⟨rfl, g1⟩
    obtain ⟨q0, q1, q2, q3, q4, q5⟩ := RA.out.gb g1.gb
    go_wp2
    go_ret
    exact ⟨rfl, G0.trans g1⟩
theorem rckR_v {w : World} {v : Value} {r : Reg} (h : RdR w v r) (hlen : r.I.length ≤ 4611686018427387904) (d x : Int) (hx : ckR r d = x) :
    Calls Tryz.prog 69 #[v, .int .i64 d] w fun e w' => e = .returned (.int .i64 x) ∧ Gr w w' := by
  subst hx; exact rckR_c h hlen d

end Go.Proofs.YtdmdjmliggjbjaaGreat
