/- vec.Inside and vec.Bound. -/
import Derived.Test.YtdmdjmliggjbjaaGreatCt7
import Derived.Test.YtdmdjmliggjbjaaGreatCtBoxB
import Derived.Test.YtdmdjmliggjbjaaGreatCt9
namespace Go.Proofs.YtdmdjmliggjbjaaGreat
open Go.RowKit

/-- Does a vector lie in a region? Both may be. -/
def inV (r : Reg) (a : List Int) : Bool := if r.S = 2 then decide (bx r.L r.H a = 0) else if r.S = 3 then decide (dst r.L a ≤ r.R) else true
/-- How near it may be. -/
def bdV (r : Reg) (a : List Int) : Nat := if r.S = 2 then bx r.L r.H a else if r.S = 3 then ballV (dst r.L a) r.R else 0
theorem ckB_ok {r : Reg} {a : List Int} (h : ckB r a = 0) : ckR r a.length = 0 ∧ chk a a.length = 0 := by
  unfold ckB at h; split at h
  · rename_i h1; exact ⟨h1, h⟩
  · rename_i h1; exact absurd h h1
theorem ckR_ok {r : Reg} {d : Int} (h : ckR r d = 0) : (r.S = 2 → cornE r.L r.H d = 0) ∧ (r.S = 3 → chk r.L d = 0) ∧ uses r = true ∧ rise r.I = true := by
  unfold ckR at h; split at h
  · split at h
    · rename_i h2
      refine ⟨fun e => ?_, fun e => ?_, h2⟩
      · rw [if_pos e] at h; exact h
      · rw [if_neg (by omega), if_pos e] at h; exact h
    · cases h
  · cases h
theorem cornE_ok {l h : List Int} {d : Int} (k : cornE l h d = 0) : chk l d = 0 ∧ chk h d = 0 ∧ below l h l.length = true := by
  unfold cornE at k; split at k
  · rename_i h1
    split at k
    · rename_i h2
      split at k
      · rename_i h3; exact ⟨h1, h2, h3⟩
      · cases k
    · rename_i h2; exact absurd k h2
  · rename_i h1; exact absurd k h1
/-- What a box and a vector that may be are. -/
theorem box_ok {r : Reg} {a : List Int} (h : ckB r a = 0) (s : r.S = 2) : r.L.length = a.length ∧ r.H.length = a.length ∧ a.length ≤ 64 ∧ allR r.L = true ∧ allR r.H = true ∧ allR a = true ∧ below r.L r.H a.length = true := by
  obtain ⟨h1, h2⟩ := ckB_ok h
  obtain ⟨h3, h4, h5⟩ := cornE_ok ((ckR_ok h1).1 s)
  obtain ⟨a1, a2, a3, a4⟩ := chk_ok h3
  obtain ⟨b1, b2, b3, b4⟩ := chk_ok h4
  obtain ⟨c1, c2, c3, c4⟩ := chk_ok h2
  have e1 : r.L.length = a.length := by omega
  rw [e1] at h5
  exact ⟨e1, by omega, c2, a4, b4, c4, h5⟩
theorem ball_ok {r : Reg} {a : List Int} (h : ckB r a = 0) (s : r.S = 3) : r.L.length = a.length ∧ r.L.length ≤ 64 ∧ allR r.L = true ∧ allR a = true := by
  obtain ⟨h1, h2⟩ := ckB_ok h
  obtain ⟨a1, a2, a3, a4⟩ := chk_ok ((ckR_ok h1).2.1 s)
  obtain ⟨c1, c2, c3, c4⟩ := chk_ok h2
  exact ⟨by omega, a2, a4, c4⟩
theorem cmp3_le (a b : Nat) : decide (cmp3 a b ≤ 0) = decide (a ≤ b) := by
  unfold cmp3
  by_cases h : a < b
  · rw [if_pos h, decide_eq_true (by omega), decide_eq_true (by omega)]
  · rw [if_neg h]
    by_cases h2 : a = b
    · rw [if_pos h2, decide_eq_true (by omega), decide_eq_true (by omega)]
    · rw [if_neg h2, decide_eq_false (by omega), decide_eq_false (by omega)]
theorem three_call {W w' : World} {p0 p1 p2 : Addr} {v0 v1 v2 : Value} (g : Gr W w') (h : W.cell? p0 = some v0 ∧ W.cell? p1 = some v1 ∧ W.cell? p2 = some v2) :
    w'.cell? p0 = some v0 ∧ w'.cell? p1 = some v1 ∧ w'.cell? p2 = some v2 := ⟨g.keeps h.1, g.keeps h.2.1, g.keeps h.2.2⟩

/-- What Inside answers. -/
def insV (r : Reg) (a : List Int) : Bool := decide (ckB r a = 0) && inV r a
set_option maxHeartbeats 4000000 in
set_option maxRecDepth 100000 in
theorem inside_c {w : World} {v u : Value} {r : Reg} {a : List Int} (hv : RdR w v r) (hu : RdI w u a) (hlen : r.I.length ≤ 4611686018427387904) :
    Calls Tryz.prog 64 #[v, u] w fun e w' => e = .returned (.tuple #[.bool (insV r a), .int .i64 (ckB r a)]) ∧ Gr w w' := by
  have HV : Hid (RdR w v r) := hv
  obtain ⟨vl, vh, vi, rfl, hL, hH, hI⟩ := hv
  have RA : Hid (RegAt (w.alloc (rc r vl vh vi)) w.heap.size r vl vh vi) := RegAt.new w r vl vh vi
  have G0 : Gr w (w.alloc (rc r vl vh vi)) := (Gr.refl _).alloc _ _
  have C1 := fun x hx => checkBoth_v (HV.out.gb G0.gb) (hu.gb G0.gb) hlen x hx
  by_cases h0 : ckB r a = 0
  · have c1 := C1 _ h0
    have E : Hid (insV r a = inV r a) := by unfold Hid insV; rw [decide_eq_true h0]; rfl
    rw [E.out, h0]
    clear C1 E
    have E : Hid (inV r a = if r.S = 2 then decide (bx r.L r.H a = 0) else if r.S = 3 then decide (dst r.L a ≤ r.R) else true) := rfl
    generalize inV r a = res at *
    by_cases s2 : r.S = 2
    · obtain ⟨k1, k2, k3, k4, k5, k6, k7⟩ := box_ok h0 s2
      have c2 := fun W' (g : Gr (w.alloc (rc r vl vh vi)) W') => boxBound_c (HV.out.gb (G0.trans g).gb) (hu.gb (G0.trans g).gb) k1 k2 k3 k4 k5 k6
      rw [if_pos s2] at E
      have hz := fun W => wd_eq0 (bx r.L r.H a) res E.out.symm W
      obtain ⟨pa, ca, rfl, _⟩ := hu
      clear HV hL hH hI h0 k1 k2 k3 k4 k5 k6 k7 hlen E
      obtain ⟨S, L, H, R, I⟩ := r
      dsimp only at *
      subst s2
      generalize bx L H a = bb at *
      generalize a.length = na at *
      go_enter Tryz.func64, Tryz.ntmps64
      go_wp2_with fail
      refine c1.mono ?_
      rintro e w1 ⟨rfl, g1⟩
      obtain ⟨q0, q1, q2, q3, q4, q5⟩ := RA.out.gb g1.gb
      dsimp only at q0 q1 q2 q3 q4 q5
      go_wp2_with fail
      refine (c2 _ g1).mono ?_
      rintro e w2 ⟨rfl, g2⟩
      go_wp2
      exact bodyPost_ret (v := .tuple #[.bool res, .int .i64 0]) (by simp [results, Tryz.results64, go_sem]) rfl ⟨rfl, (G0.trans g1).trans g2⟩
    · have s2' : (r.S == 2) = false := by rw [beq_eq_false_iff_ne]; exact s2
      rw [if_neg s2] at E
      by_cases s3 : r.S = 3
      · obtain ⟨k1, k2, k3, k4⟩ := ball_ok h0 s3
        rw [if_pos s3] at E
        have c2 := fun W' (g : Gr (w.alloc (rc r vl vh vi)) W') => distance_c (hL.gb (G0.trans g).gb) (hu.gb (G0.trans g).gb) k1 k2 k3 k4
        have c3 := fun W => cmp_any (dst r.L a) r.R W
        have hle : Hid (decide (cmp3 (dst r.L a) r.R ≤ 0) = res) := by unfold Hid; rw [cmp3_le, ← E.out]
        obtain ⟨pa, ca, rfl, _⟩ := hu
        obtain ⟨pl, cl, rfl, _⟩ := hL
        clear HV hH hI h0 k1 k2 k3 k4 hlen E s2 s2'
        obtain ⟨S, L, H, R, I⟩ := r
        dsimp only at *
        subst s3
        generalize dst L a = bb at *
        generalize cmp3 bb R = cc at *
        generalize a.length = na at *
        generalize L.length = nl at *
        go_enter Tryz.func64, Tryz.ntmps64
        go_wp2_with fail
        refine c1.mono ?_
        rintro e w1 ⟨rfl, g1⟩
        obtain ⟨q0, q1, q2, q3, q4, q5⟩ := RA.out.gb g1.gb
        dsimp only at q0 q1 q2 q3 q4 q5
        clear c1
        have g1d := g1.drew
        go_wp2_with fail
        go_region_held3 (fun w' => w'.cell? ⟨w.heap.size, 1, none⟩ = some (.slice pl nl cl) ∧ w'.cell? ⟨w.heap.size, 3, none⟩ = some (.int .u64 (hi R)) ∧ w'.cell? ⟨w.heap.size, 4, none⟩ = some (.int .u64 (lo R))) (first | (with_reducible exact three_call (by assumption) (by assumption)) | exact ⟨q1, q3, q4⟩)
          (first
            | (go_at_call 98; refine (c2 _ g1d).mono ?_; rintro e w2 ⟨rfl, g2⟩)
            | (go_at_call 67; refine (c3 _).mono ?_; rintro e w3 ⟨rfl, g3⟩))
        all_goals
          go_wp2
          exact bodyPost_ret (v := .tuple #[.bool (decide (cc ≤ 0)), .int .i64 0]) (by simp [results, Tryz.results64, go_sem]) rfl ⟨by rw [← hle.out], ((G0.trans g1d).trans g2).trans g3⟩
      · have s3' : (r.S == 3) = false := by rw [beq_eq_false_iff_ne]; exact s3
        rw [if_neg s3] at E
        have e := E.out
        subst e
        obtain ⟨pa, ca, rfl, _⟩ := hu
        clear HV hL hH hI h0 hlen E s2 s3
        obtain ⟨S, L, H, R, I⟩ := r
        dsimp only at *
        generalize a.length = na at *
        go_enter Tryz.func64, Tryz.ntmps64
        go_wp2_with fail
        refine c1.mono ?_
        rintro e w1 ⟨rfl, g1⟩
        obtain ⟨q0, q1, q2, q3, q4, q5⟩ := RA.out.gb g1.gb
        dsimp only at q0 q1 q2 q3 q4 q5
        go_wp2
        exact bodyPost_ret (v := .tuple #[.bool true, .int .i64 0]) (by simp [results, Tryz.results64, go_sem]) rfl ⟨rfl, G0.trans g1⟩
  · have c1 := C1 _ rfl
    have E : insV r a = false := by unfold insV; rw [decide_eq_false h0]; rfl
    have h1 : (ckB r a == 0) = false := by rw [beq_eq_false_iff_ne]; exact h0
    rw [E]
    obtain ⟨pa, ca, rfl, _⟩ := hu
    clear C1 E HV hL hH hI hlen h0
    generalize ckB r a = res at *
    obtain ⟨S, L, H, R, I⟩ := r
    generalize a.length = na at *
    go_enter Tryz.func64, Tryz.ntmps64
    go_wp2_with fail
    refine c1.mono ?_
    rintro e w1 ⟨rfl, g1⟩
    go_wp2
    exact bodyPost_ret (v := .tuple #[.bool false, .int .i64 res]) (by simp [results, Tryz.results64, go_sem]) rfl ⟨rfl, G0.trans g1⟩

/-- What Bound answers. -/
def bndV (r : Reg) (a : List Int) : Nat := if ckB r a = 0 then bdV r a else 0
set_option maxHeartbeats 4000000 in
set_option maxRecDepth 100000 in
theorem bound_c {w : World} {v u : Value} {r : Reg} {a : List Int} (hv : RdR w v r) (hu : RdI w u a) (hlen : r.I.length ≤ 4611686018427387904) (hR : r.R < 340282366920938463463374607431768211456) :
    Calls Tryz.prog 66 #[v, u] w fun e w' => e = .returned (.tuple #[Wd (bndV r a), .int .i64 (ckB r a)]) ∧ Gr w w' := by
  have HV : Hid (RdR w v r) := hv
  obtain ⟨vl, vh, vi, rfl, hL, hH, hI⟩ := hv
  have RA : Hid (RegAt (w.alloc (rc r vl vh vi)) w.heap.size r vl vh vi) := RegAt.new w r vl vh vi
  have G00 : Gr w (w.alloc (rc r vl vh vi)) := (Gr.refl _).alloc _ _
  have G01 : Gr (w.alloc (rc r vl vh vi)) ((w.alloc (rc r vl vh vi)).alloc (.cells #[.int .u64 0, .int .u64 0] 41)) := (Gr.refl _).alloc _ _
  have G0 := G00.trans G01
  have C1 := fun x hx => checkBoth_v (HV.out.gb G0.gb) (hu.gb G0.gb) hlen x hx
  by_cases h0 : ckB r a = 0
  · have c1 := C1 _ h0
    have E : Hid (bndV r a = bdV r a) := by unfold Hid bndV; rw [if_pos h0]
    rw [E.out, h0]
    clear C1 E
    have E : Hid (bdV r a = if r.S = 2 then bx r.L r.H a else if r.S = 3 then ballV (dst r.L a) r.R else 0) := rfl
    generalize bdV r a = res at *
    by_cases s2 : r.S = 2
    · obtain ⟨k1, k2, k3, k4, k5, k6, k7⟩ := box_ok h0 s2
      rw [if_pos s2] at E
      have c2 := fun W' (g : Gr ((w.alloc (rc r vl vh vi)).alloc (.cells #[.int .u64 0, .int .u64 0] 41)) W') => boxBound_c (HV.out.gb (G0.trans g).gb) (hu.gb (G0.trans g).gb) k1 k2 k3 k4 k5 k6
      rw [← E.out] at c2
      obtain ⟨pa, ca, rfl, _⟩ := hu
      clear HV hL hH hI h0 k1 k2 k3 k4 k5 k6 k7 hlen hR E
      obtain ⟨S, L, H, R, I⟩ := r
      dsimp only at *
      subst s2
      generalize a.length = na at *
      go_enter Tryz.func66, Tryz.ntmps66
      go_wp2_with fail
      refine c1.mono ?_
      rintro e w1 ⟨rfl, g1⟩
      obtain ⟨q0, q1, q2, q3, q4, q5⟩ := RA.out.gb (G01.trans g1).gb
      dsimp only at q0 q1 q2 q3 q4 q5
      go_wp2_with fail
      refine (c2 _ g1).mono ?_
      rintro e w2 ⟨rfl, g2⟩
      have G2 := g1.trans g2
      have VV := G2.var2
      simp only [World.size_alloc] at VV
      obtain ⟨v0, v1, v2, v3⟩ := VV
      go_wp2
      exact bodyPost_ret (v := .tuple #[Wd res, .int .i64 0]) (by simp [results, Tryz.results66, go_sem, v0, v1]) rfl ⟨rfl, by repeat (first | exact G0.trans G2 | refine Gr.setCell ?_ (by simp) _)⟩
    · have s2' : (r.S == 2) = false := by rw [beq_eq_false_iff_ne]; exact s2
      rw [if_neg s2] at E
      by_cases s3 : r.S = 3
      · obtain ⟨k1, k2, k3, k4⟩ := ball_ok h0 s3
        rw [if_pos s3] at E
        have c2 := fun W' (g : Gr ((w.alloc (rc r vl vh vi)).alloc (.cells #[.int .u64 0, .int .u64 0] 41)) W') => ballBound_c (HV.out.gb (G0.trans g).gb) (hu.gb (G0.trans g).gb) k1 k2 k3 k4 hR
        rw [← E.out] at c2
        obtain ⟨pa, ca, rfl, _⟩ := hu
        clear HV hL hH hI h0 k1 k2 k3 k4 hlen hR E s2 s2'
        obtain ⟨S, L, H, R, I⟩ := r
        dsimp only at *
        subst s3
        generalize a.length = na at *
        go_enter Tryz.func66, Tryz.ntmps66
        go_wp2_with fail
        refine c1.mono ?_
        rintro e w1 ⟨rfl, g1⟩
        obtain ⟨q0, q1, q2, q3, q4, q5⟩ := RA.out.gb (G01.trans g1).gb
        dsimp only at q0 q1 q2 q3 q4 q5
        go_wp2_with fail
        refine (c2 _ g1).mono ?_
        rintro e w2 ⟨rfl, g2⟩
        have G2 := g1.trans g2
        have VV := G2.var2
        simp only [World.size_alloc] at VV
        obtain ⟨v0, v1, v2, v3⟩ := VV
        go_wp2
        exact bodyPost_ret (v := .tuple #[Wd res, .int .i64 0]) (by simp [results, Tryz.results66, go_sem, v0, v1]) rfl ⟨rfl, by repeat (first | exact G0.trans G2 | refine Gr.setCell ?_ (by simp) _)⟩
      · have s3' : (r.S == 3) = false := by rw [beq_eq_false_iff_ne]; exact s3
        rw [if_neg s3] at E
        have e := E.out
        subst e
        obtain ⟨pa, ca, rfl, _⟩ := hu
        clear HV hL hH hI h0 hlen hR E s2 s3
        obtain ⟨S, L, H, R, I⟩ := r
        dsimp only at *
        generalize a.length = na at *
        go_enter Tryz.func66, Tryz.ntmps66
        go_wp2_with fail
        refine c1.mono ?_
        rintro e w1 ⟨rfl, g1⟩
        obtain ⟨q0, q1, q2, q3, q4, q5⟩ := RA.out.gb (G01.trans g1).gb
        dsimp only at q0 q1 q2 q3 q4 q5
        have VV := g1.var2
        simp only [World.size_alloc] at VV
        obtain ⟨v0, v1, v2, v3⟩ := VV
        go_wp2
        exact bodyPost_ret (v := .tuple #[Wd 0, .int .i64 0]) (by simp [results, Tryz.results66, go_sem, v0, v1, hi, lo]) rfl ⟨rfl, by repeat (first | exact G0.trans g1 | refine Gr.setCell ?_ (by simp) _)⟩
  · have c1 := C1 _ rfl
    have E : bndV r a = 0 := by unfold bndV; rw [if_neg h0]
    have h1 : (ckB r a == 0) = false := by rw [beq_eq_false_iff_ne]; exact h0
    rw [E]
    obtain ⟨pa, ca, rfl, _⟩ := hu
    clear C1 E HV hL hH hI hlen hR h0
    generalize ckB r a = res at *
    obtain ⟨S, L, H, R, I⟩ := r
    generalize a.length = na at *
    go_enter Tryz.func66, Tryz.ntmps66
    go_wp2_with fail
    refine c1.mono ?_
    rintro e w1 ⟨rfl, g1⟩
    have VV := g1.var2
    simp only [World.size_alloc] at VV
    obtain ⟨v0, v1, v2, v3⟩ := VV
    go_wp2
    exact bodyPost_ret (v := .tuple #[Wd 0, .int .i64 res]) (by simp [results, Tryz.results66, go_sem, v0, v1, hi, lo]) rfl ⟨rfl, by repeat (first | exact G0.trans g1 | refine Gr.setCell ?_ (by simp) _)⟩
end Go.Proofs.YtdmdjmliggjbjaaGreat
