import Derived.Test.YtepjbdklljlecaaGreatVa2
/- vec.CheckRegion and vec.checkBoth. -/
namespace Go.Proofs.YtepjbdklljlecaaGreat
open Go.RowKit

/-- What CheckRegion answers. -/
def ckR (r : Reg) (d : Int) : Int :=
  if 1 ≤ d ∧ d ≤ 64 then (if uses r = true ∧ rise r.I = true then (if r.S = 2 then cornE r.L r.H d else if r.S = 3 then chk r.L d else 0) else 32) else 30

set_option maxHeartbeats 4000000 in
set_option maxRecDepth 100000 in
theorem checkRegion_c {w : World} {v : Value} {r : Reg} (h : RdR w v r) (hlen : r.I.length ≤ 4611686018427387904) (d : Int) :
    Calls Tryz.prog 145 #[v, .int .i64 d] w fun e w' => e = .returned (.int .i64 (ckR r d)) ∧ Gr w w' := by
  have HR : Hid (RdR w v r) := h
  obtain ⟨vl, vh, vi, rfl, hL, hH, hI⟩ := h
  have G0 : Gr w (w.alloc (rc r vl vh vi)) := (Gr.refl _).alloc _ _
  have RA : Hid (RegAt (w.alloc (rc r vl vh vi)) w.heap.size r vl vh vi) := RegAt.new w r vl vh vi
  have CU := fun b hb => uses_v (HR.out.gb G0.gb) b hb
  have CI := fun W' (g : Gr (w.alloc (rc r vl vh vi)) W') b hb => idsRise_v (hI.gb (G0.trans g).gb) hlen b hb
  have CC := fun W' (g : Gr (w.alloc (rc r vl vh vi)) W') e he => corners_v (hL.gb (G0.trans g).gb) (hH.gb (G0.trans g).gb) d e he
  have CK := fun W' (g : Gr (w.alloc (rc r vl vh vi)) W') e he => check_v (hL.gb (G0.trans g).gb) d e he
  have E : Hid (ckR r d = if 1 ≤ d ∧ d ≤ 64 then (if uses r = true ∧ rise r.I = true then (if r.S = 2 then cornE r.L r.H d else if r.S = 3 then chk r.L d else 0) else 32) else 30) := rfl
  obtain ⟨pl, cl, rfl, _⟩ := hL
  obtain ⟨ph, ch, rfl, _⟩ := hH
  obtain ⟨pi, ci, rfl, _⟩ := hI
  generalize ckR r d = res at *
  by_cases hd : (decide (1 ≤ d) && decide (d ≤ 64)) = true
  · have hd' : 1 ≤ d ∧ d ≤ 64 := by simpa using hd
    have c1 := fun W => isDim_v d true hd W
    rw [if_pos hd'] at E
    by_cases hu : uses r = true
    · have c2 := CU _ hu
      by_cases hi' : rise r.I = true
      · rw [if_pos ⟨hu, hi'⟩] at E
        have c3 := fun W' g => CI W' g true hi'
        clear CU hd hd' hu CI hi' HR hlen
        by_cases s2 : r.S = 2
        · rw [if_pos s2] at E
          have c4 := fun W' g => CC W' g res E.out.symm
          clear CC CK E
          obtain ⟨S, L, H, R, I⟩ := r
          dsimp only at *
          subst s2
          generalize L.length = nl at *
          generalize H.length = nh at *
          generalize I.length = ni at *
          go_enter Tryz.func145, Tryz.ntmps145
          go_wp2_with fail
          refine (c1 _).mono ?_
          rintro e w' ⟨rfl, e2⟩
          subst e2
          go_wp2_with fail
          refine c2.mono ?_
          rintro e w1 ⟨rfl, g1⟩
          obtain ⟨q0, q1, q2, q3, q4, q5⟩ := RA.out.gb g1.gb
          go_wp2_with fail
          refine (c3 _ g1).mono ?_
          rintro e w' ⟨rfl, e2⟩
          subst e2
          go_wp2_with fail
          refine (c4 _ g1).mono ?_
          rintro e w' ⟨rfl, e2⟩
          subst e2
          go_wp2
          go_ret
          exact ⟨rfl, G0.trans g1⟩

        · rw [if_neg s2] at E
          have s2' : (r.S == 2) = false := by rw [beq_eq_false_iff_ne]; exact s2
          by_cases s3 : r.S = 3
          · rw [if_pos s3] at E
            have c4 := fun W' g => CK W' g res E.out.symm
            clear CC CK E s2 s2'
            obtain ⟨S, L, H, R, I⟩ := r
            dsimp only at *
            subst s3
            generalize L.length = nl at *
            generalize H.length = nh at *
            generalize I.length = ni at *
            go_enter Tryz.func145, Tryz.ntmps145
            go_wp2_with fail
            refine (c1 _).mono ?_
            rintro e w' ⟨rfl, e2⟩
            subst e2
            go_wp2_with fail
            refine c2.mono ?_
            rintro e w1 ⟨rfl, g1⟩
            obtain ⟨q0, q1, q2, q3, q4, q5⟩ := RA.out.gb g1.gb
            go_wp2_with fail
            refine (c3 _ g1).mono ?_
            rintro e w' ⟨rfl, e2⟩
            subst e2
            go_wp2_with fail
            refine (c4 _ g1).mono ?_
            rintro e w' ⟨rfl, e2⟩
            subst e2
            go_wp2
            go_ret
            exact ⟨rfl, G0.trans g1⟩

          · rw [if_neg s3] at E
            have s3' : (r.S == 3) = false := by rw [beq_eq_false_iff_ne]; exact s3
            have e := E.out
            subst e
            clear CC CK E s2 s3
            obtain ⟨S, L, H, R, I⟩ := r
            dsimp only at *
            generalize L.length = nl at *
            generalize H.length = nh at *
            generalize I.length = ni at *
            go_enter Tryz.func145, Tryz.ntmps145
            go_wp2_with fail
            refine (c1 _).mono ?_
            rintro e w' ⟨rfl, e2⟩
            subst e2
            go_wp2_with fail
            refine c2.mono ?_
            rintro e w1 ⟨rfl, g1⟩
            obtain ⟨q0, q1, q2, q3, q4, q5⟩ := RA.out.gb g1.gb
            go_wp2_with fail
            refine (c3 _ g1).mono ?_
            rintro e w' ⟨rfl, e2⟩
            subst e2
            go_wp2
            go_ret
            exact ⟨rfl, G0.trans g1⟩

      · rw [if_neg (fun h => hi' h.2)] at E
        have c3 := fun W' g => CI W' g false (by simpa using hi')
        have e := E.out
        subst e
        clear CU hd hd' hu CI hi' HR hlen CC CK E
        obtain ⟨S, L, H, R, I⟩ := r
        dsimp only at *
        generalize L.length = nl at *
        generalize H.length = nh at *
        generalize I.length = ni at *
        go_enter Tryz.func145, Tryz.ntmps145
        go_wp2_with fail
        refine (c1 _).mono ?_
        rintro e w' ⟨rfl, e2⟩
        subst e2
        go_wp2_with fail
        refine c2.mono ?_
        rintro e w1 ⟨rfl, g1⟩
        obtain ⟨q0, q1, q2, q3, q4, q5⟩ := RA.out.gb g1.gb
        go_wp2_with fail
        refine (c3 _ g1).mono ?_
        rintro e w' ⟨rfl, e2⟩
        subst e2
        go_wp2
        go_ret
        exact ⟨rfl, G0.trans g1⟩

    · rw [if_neg (fun h => hu h.1)] at E
      have c2 := CU false (by simpa using hu)
      have e := E.out
      subst e
      clear CU hd hd' hu CI HR hlen CC CK E
      obtain ⟨S, L, H, R, I⟩ := r
      dsimp only at *
      generalize L.length = nl at *
      generalize H.length = nh at *
      generalize I.length = ni at *
      go_enter Tryz.func145, Tryz.ntmps145
      go_wp2_with fail
      refine (c1 _).mono ?_
      rintro e w' ⟨rfl, e2⟩
      subst e2
      go_wp2_with fail
      refine c2.mono ?_
      rintro e w1 ⟨rfl, g1⟩
      obtain ⟨q0, q1, q2, q3, q4, q5⟩ := RA.out.gb g1.gb
      go_wp2
      go_ret
      exact ⟨rfl, G0.trans g1⟩

  · have hd' : ¬ (1 ≤ d ∧ d ≤ 64) := by simpa using hd
    have c1 := fun W => isDim_v d false (by simpa using hd) W
    rw [if_neg hd'] at E
    have e := E.out
    subst e
    clear CU CI CC CK HR hd hd' E RA
    go_enter Tryz.func145, Tryz.ntmps145
    go_wp2_with (go_at_call 66; refine (c1 _).mono ?_; rintro e w' ⟨rfl, e2⟩; subst e2)
    go_ret
    exact ⟨rfl, G0⟩
theorem checkRegion_v {w : World} {v : Value} {r : Reg} (h : RdR w v r) (hlen : r.I.length ≤ 4611686018427387904) (d x : Int) (hx : ckR r d = x) :
    Calls Tryz.prog 145 #[v, .int .i64 d] w fun e w' => e = .returned (.int .i64 x) ∧ Gr w w' := by
  subst hx; exact checkRegion_c h hlen d

/-- What checkBoth answers. -/
def ckB (r : Reg) (a : List Int) : Int := if ckR r a.length = 0 then chk a a.length else ckR r a.length

set_option maxHeartbeats 4000000 in
theorem checkBoth_c {w : World} {v u : Value} {r : Reg} {a : List Int} (h : RdR w v r) (hu : RdI w u a) (hlen : r.I.length ≤ 4611686018427387904) :
    Calls Tryz.prog 99 #[v, u] w fun e w' => e = .returned (.int .i64 (ckB r a)) ∧ Gr w w' := by
  have HR : Hid (RdR w v r) := h
  obtain ⟨vl, vh, vi, rfl, hL, hH, hI⟩ := h
  have G0 : Gr w (w.alloc (rc r vl vh vi)) := (Gr.refl _).alloc _ _
  have C1 := fun x hx => checkRegion_v (HR.out.gb G0.gb) hlen (a.length : Int) x hx
  have C2 := fun W' (g : Gr (w.alloc (rc r vl vh vi)) W') x hx => check_v (hu.gb (G0.trans g).gb) (a.length : Int) x hx
  have E : Hid (ckB r a = if ckR r a.length = 0 then chk a a.length else ckR r a.length) := rfl
  obtain ⟨pa, ca, rfl, _⟩ := hu
  generalize ckB r a = res at *
  by_cases h1 : ckR r a.length = 0
  · rw [if_pos h1] at E
    have c1 := C1 _ h1
    have c2 := fun W' g => C2 W' g res E.out.symm
    clear C1 C2 E h1 HR hlen hL hH hI
    obtain ⟨S, L, H, R, I⟩ := r
    generalize a.length = n at *
    go_enter Tryz.func99, Tryz.ntmps99
    go_wp2_with fail
    refine c1.mono ?_
    rintro e w1 ⟨rfl, g1⟩
    go_wp2_with fail
    refine (c2 _ g1).mono ?_
    rintro e w' ⟨rfl, e2⟩
    subst e2
    go_wp2
    go_ret
    exact ⟨rfl, G0.trans g1⟩
  · rw [if_neg h1] at E
    have e := E.out
    have h1' : (res == 0) = false := by rw [beq_eq_false_iff_ne, e]; exact h1
    have c1 := C1 _ e.symm
    clear C1 C2 E h1 HR hlen hL hH hI e
    obtain ⟨S, L, H, R, I⟩ := r
    generalize a.length = n at *
    go_enter Tryz.func99, Tryz.ntmps99
    go_wp2_with fail
    refine c1.mono ?_
    rintro e w1 ⟨rfl, g1⟩
    go_wp2
    go_ret
    exact ⟨rfl, G0.trans g1⟩
theorem checkBoth_v {w : World} {v u : Value} {r : Reg} {a : List Int} (h : RdR w v r) (hu : RdI w u a) (hlen : r.I.length ≤ 4611686018427387904) (x : Int) (hx : ckB r a = x) :
    Calls Tryz.prog 99 #[v, u] w fun e w' => e = .returned (.int .i64 x) ∧ Gr w w' := by
  subst hx; exact checkBoth_c h hu hlen
end Go.Proofs.YtepjbdklljlecaaGreat

/- vec.boxBound. -/
namespace Go.Proofs.YtepjbdklljlecaaGreat
open Go.RowKit

/-- The bound of a box. -/
def bxN (l h q : List Int) (n : Nat) : Nat := sumN (fun i => gap l[i]! h[i]! q[i]! * gap l[i]! h[i]! q[i]!) n
def bx (l h q : List Int) : Nat := bxN l h q q.length
theorem bxN_le {l h q : List Int} (hl : allR l = true) (hh : allR h = true) (hq : allR q = true) (h1 : l.length = q.length) (h2 : h.length = q.length) (n : Nat) (hn : n ≤ q.length) : bxN l h q n ≤ n * 18446744056529682436 :=
  sumN_le _ _ _ (fun i hi => sq_small _ (gap_le _ _ _ (allR_get hl (by omega)) (allR_get hh (by omega)) (allR_get hq (by omega))))
theorem four_call {W w' : World} {p0 p1 p2 p3 : Addr} {v0 v1 v2 v3 : Value} (g : Gr W w') (h : W.cell? p0 = some v0 ∧ W.cell? p1 = some v1 ∧ W.cell? p2 = some v2 ∧ W.cell? p3 = some v3) :
    w'.cell? p0 = some v0 ∧ w'.cell? p1 = some v1 ∧ w'.cell? p2 = some v2 ∧ w'.cell? p3 = some v3 := ⟨g.keeps h.1, g.keeps h.2.1, g.keeps h.2.2.1, g.keeps h.2.2.2⟩
theorem set2_far {W : World} {b : Nat} {p : Addr} {v : Value} (hb : b ≠ p.block) (h : W.cell? p = some v) (x y : Value) : ((W.setCell ⟨b, 0, none⟩ x).setCell ⟨b, 1, none⟩ y).cell? p = some v := by
  rw [World.cell?_setCell_far _ _ _ _ hb, World.cell?_setCell_far _ _ _ _ hb]; exact h
theorem four_set {W : World} {b b1 b2 b0 o1 o2 o3 o4 : Nat} {v0 v1 v2 v3 : Value} (h1 : b ≠ b1) (h2 : b ≠ b2) (h0 : b ≠ b0) (h : W.cell? ⟨b1, o1, none⟩ = some v0 ∧ W.cell? ⟨b2, o2, none⟩ = some v1 ∧ W.cell? ⟨b0, o3, none⟩ = some v2 ∧ W.cell? ⟨b0, o4, none⟩ = some v3) (x y : Value) :
    ((W.setCell ⟨b, 0, none⟩ x).setCell ⟨b, 1, none⟩ y).cell? ⟨b1, o1, none⟩ = some v0 ∧ ((W.setCell ⟨b, 0, none⟩ x).setCell ⟨b, 1, none⟩ y).cell? ⟨b2, o2, none⟩ = some v1 ∧ ((W.setCell ⟨b, 0, none⟩ x).setCell ⟨b, 1, none⟩ y).cell? ⟨b0, o3, none⟩ = some v2 ∧ ((W.setCell ⟨b, 0, none⟩ x).setCell ⟨b, 1, none⟩ y).cell? ⟨b0, o4, none⟩ = some v3 :=
  ⟨set2_far h1 h.1 x y, set2_far h2 h.2.1 x y, set2_far h0 h.2.2.1 x y, set2_far h0 h.2.2.2 x y⟩

set_option maxHeartbeats 8000000 in
set_option maxRecDepth 100000 in
theorem boxBound_c {w : World} {v u : Value} {r : Reg} {a : List Int} (hv : RdR w v r) (hu : RdI w u a) (hl : r.L.length = a.length) (hh : r.H.length = a.length) (hn : a.length ≤ 64) (rl : allR r.L = true) (rh : allR r.H = true) (ra : allR a = true) :
    Calls Tryz.prog 100 #[v, u] w fun e w' => e = .returned (Wd (bx r.L r.H a)) ∧ Gr w w' := by
  obtain ⟨vl, vh, vi, rfl, ⟨pl, cl, rfl, el⟩, ⟨ph, ch, rfl, eh⟩, h3⟩ := hv
  obtain ⟨pa, ca, rfl, ea⟩ := hu
  clear h3
  have RA0 := RegAt.new w r (.slice pl r.L.length cl) (.slice ph r.H.length ch) vi
  obtain ⟨S, L, H, R, I⟩ := r
  dsimp only at *
  have AL : Hid (∀ i, i < L.length → ∃ b o, pl = some ⟨b, o, none⟩ ∧ w.cell? ⟨b, o + i, none⟩ = some (.int .i64 L[i]!)) := el
  have AH : Hid (∀ i, i < H.length → ∃ b o, ph = some ⟨b, o, none⟩ ∧ w.cell? ⟨b, o + i, none⟩ = some (.int .i64 H[i]!)) := eh
  have AA : Hid (∀ i, i < a.length → ∃ b o, pa = some ⟨b, o, none⟩ ∧ w.cell? ⟨b, o + i, none⟩ = some (.int .i64 a[i]!)) := ea
  have HH : Hid (L.length = a.length ∧ H.length = a.length ∧ allR L = true ∧ allR H = true ∧ allR a = true) := ⟨hl, hh, rl, rh, ra⟩
  rw [hl, hh] at RA0 ⊢
  obtain ⟨n, hN⟩ : ∃ n, n = a.length := ⟨_, rfl⟩
  have N : Hid (n = a.length) := hN
  rw [← hN] at hn RA0 ⊢
  clear el eh ea hl hh rl rh ra hN
  have RA : Hid (RegAt (w.alloc (.cells #[.int .i64 S, .slice pl n cl, .slice ph n ch, .int .u64 (hi R), .int .u64 (lo R), vi] 102)) w.heap.size ⟨S, L, H, R, I⟩ (.slice pl n cl) (.slice ph n ch) vi) := RA0
  clear RA0
  have S0 : At2 (((w.alloc (.cells #[.int .i64 S, .slice pl n cl, .slice ph n ch, .int .u64 (hi R), .int .u64 (lo R), vi] 102)).alloc (.cells #[.int .u64 0, .int .u64 0] 66)).alloc (.cells #[.int .u64 0, .int .u64 0] 66)) (w.heap.size + 1 + 1) 0 := by
    have := At2.new ((w.alloc (.cells #[.int .i64 S, .slice pl n cl, .slice ph n ch, .int .u64 (hi R), .int .u64 (lo R), vi] 102)).alloc (.cells #[.int .u64 0, .int .u64 0] 66)) 0 66
    rw [World.size_alloc, World.size_alloc] at this
    exact this
  obtain ⟨W0, hW0⟩ : ∃ W0, W0 = w.alloc (.cells #[.int .i64 S, .slice pl n cl, .slice ph n ch, .int .u64 (hi R), .int .u64 (lo R), vi] 102) := ⟨_, rfl⟩
  have Z0 : Hid (Gr w W0 ∧ W0.heap.size = w.heap.size + 1) := by rw [hW0]; exact ⟨(Gr.refl _).alloc _ _, by simp⟩
  have W00 : Hid (W0 = w.alloc (.cells #[.int .i64 S, .slice pl n cl, .slice ph n ch, .int .u64 (hi R), .int .u64 (lo R), vi] 102)) := hW0
  rw [← hW0] at S0 RA
  have G0 : Gr (W0.alloc (.cells #[.int .u64 0, .int .u64 0] 66)) ((W0.alloc (.cells #[.int .u64 0, .int .u64 0] 66)).alloc (.cells #[.int .u64 0, .int .u64 0] 66)) := (Gr.refl _).alloc _ _
  rw [hW0] at S0 G0
  clear hW0
  go_enter Tryz.func100, Tryz.ntmps100
  go_wp2
  go_loopw [10] (fun iv w' => ∃ q s : Nat, iv = .int .i64 (q : Int) ∧ q ≤ n ∧ Hid (s = bxN L H a q) ∧ Gr (W0.alloc (.cells #[.int .u64 0, .int .u64 0] 66)) w' ∧ At2 w' (w.heap.size + 1 + 1) s) (fun iv _ => n - (intOf iv).toNat)
  case atStart => exact ⟨0, 0, rfl, Nat.zero_le _, rfl, by rw [W00.out]; exact G0, S0⟩
  case round =>
    clear S0 G0
    obtain ⟨q, s, rfl, hq, X, hG, hS⟩ := hrel
    by_cases hqn : q < n
    · have hqi : (q : Int) < (n : Int) := by omega
      obtain ⟨e1, e2, e3, e4, e5⟩ := HH.out
      have hqa : q < a.length := by have := N.out; omega
      obtain ⟨b1, o1, ea, h1⟩ := AL.out q (by omega)
      obtain ⟨b2, o2, eb, h2⟩ := AH.out q (by omega)
      obtain ⟨b3, o3, ec, h3⟩ := AA.out q hqa
      subst ea; subst eb; subst ec
      have G1 : Gr W0 wr := ((Gr.refl _).alloc _ _).trans hG
      have x0 := (Z0.out.1.trans G1).keeps h1
      have y0 := (Z0.out.1.trans G1).keeps h2
      have z0 := (Z0.out.1.trans G1).keeps h3
      have r1 := G1.keeps RA.out.c1
      have r2 := G1.keeps RA.out.c2
      have hb1 : w.heap.size + 1 + 1 ≠ b1 := by have := cell_lt h1; dsimp only at this; omega
      have hb2 : w.heap.size + 1 + 1 ≠ b2 := by have := cell_lt h2; dsimp only at this; omega
      have hb0 : w.heap.size + 1 + 1 ≠ w.heap.size := by omega
      have hx := allR_get e3 (show q < L.length by omega)
      have hy := allR_get e4 (show q < H.length by omega)
      have hz := allR_get e5 hqa
      have hs0 : s ≤ q * 18446744056529682436 := by rw [X.out]; exact bxN_le e3 e4 e5 e1 e2 q (by omega)
      have Y : Hid (bxN L H a (q + 1) = bxN L H a q + gap L[q]! H[q]! a[q]! * gap L[q]! H[q]! a[q]!) := rfl
      generalize L[q]! = x at *
      generalize H[q]! = y at *
      generalize a[q]! = z at *
      have hg : gap x y z < 18446744073709551616 := by have := gap_le x y z hx hy hz; omega
      have hgs : s + gap x y z * gap x y z < 340282366920938463463374607431768211456 := by have := sq_small _ (gap_le x y z hx hy hz); omega
      have Z : Hid (s + gap x y z * gap x y z = bxN L H a (q + 1)) := by unfold Hid; rw [Y.out, X.out]
      have c57 := fun W => withSquare_c s (gap x y z) hg hgs W
      have c70 := fun b c W c0 c1 => side1_c x y z hx hy hz b c W c0 c1
      obtain ⟨s0, s1, s2, s3⟩ := hS
      clear h1 h2 h3 hx hy hz hs0 Y X hg hgs hqa G1 e1 e2 e3 e4 e5
      generalize s + gap x y z * gap x y z = t at *
      generalize gap x y z = g at *
      go_wp2
      have hS0 : wr.cell? ⟨b1, o1 + q, none⟩ = some (.int .i64 x) ∧ wr.cell? ⟨b2, o2 + q, none⟩ = some (.int .i64 y) ∧ wr.cell? ⟨w.heap.size, 1, none⟩ = some (.slice (some ⟨b1, o1, none⟩) n cl) ∧ wr.cell? ⟨w.heap.size, 2, none⟩ = some (.slice (some ⟨b2, o2, none⟩) n ch) := ⟨x0, y0, r1, r2⟩
      refine wp_region_held_drew (S := fun w' => w'.cell? ⟨b1, o1 + q, none⟩ = some (.int .i64 x) ∧ w'.cell? ⟨b2, o2 + q, none⟩ = some (.int .i64 y) ∧ w'.cell? ⟨w.heap.size, 1, none⟩ = some (.slice (some ⟨b1, o1, none⟩) n cl) ∧ w'.cell? ⟨w.heap.size, 2, none⟩ = some (.slice (some ⟨b2, o2, none⟩) n ch)) (by kernel_rfl) hS0 (fun hHeld => ?_)
      refine wpAnyH_take (i := 1) (v := ?_) rfl (by kernel_rfl) (by kernel_rfl) (by kernel_rfl) (fun _ _ _ h => h) (Or.inl ⟨by rfl, ?_⟩) (by assumption) ?_
      rotate_left 1
      · (intro w hSw; (try dsimp only at hSw); go_simp; try with_reducible rfl)
      try simp only [Act.put, List.setIfInBounds_toArray]
      refine wpAnyH_take (i := 2) (v := ?_) rfl (by kernel_rfl) (by kernel_rfl) (by kernel_rfl) (fun _ _ _ h => h) (Or.inl ⟨by rfl, ?_⟩) (by assumption) ?_
      rotate_left 1
      · (intro w hSw; (try dsimp only at hSw); go_simp; try with_reducible rfl)
      try simp only [Act.put]
      refine wpAnyH_take (i := 3) (v := ?_) rfl (by kernel_rfl) (by kernel_rfl) (by kernel_rfl) (fun _ _ _ h => h) (Or.inl ⟨by rfl, ?_⟩) (by assumption) ?_
      rotate_left 1
      · (intro w hSw; (try dsimp only at hSw); go_simp; try with_reducible rfl)
      try simp only [Act.put]
      refine wpAnyH_take (i := 4) (v := ?_) rfl (by kernel_rfl) (by kernel_rfl) (by kernel_rfl) (fun _ _ _ h => h) (Or.inl ⟨by rfl, ?_⟩) (by assumption) ?_
      rotate_left 1
      · (intro w hSw; (try dsimp only at hSw); go_simp; try with_reducible rfl)
      try simp only [Act.put]
      refine wpAnyH_take (i := 5) (v := ?_) rfl (by kernel_rfl) (by kernel_rfl) (by kernel_rfl) (fun _ _ _ h => h) (Or.inl ⟨by rfl, ?_⟩) (by assumption) ?_
      rotate_left 1
      · (intro w hSw; (try dsimp only at hSw); go_simp; try with_reducible rfl)
      try simp only [Act.put]
      refine wpAnyH_take (i := 6) (v := ?_) rfl (by kernel_rfl) (by kernel_rfl) (by kernel_rfl) (fun _ _ _ h => h) (Or.inl ⟨by rfl, ?_⟩) (by assumption) ?_
      rotate_left 1
      · (intro w hSw; (try dsimp only at hSw); go_simp; try with_reducible rfl)
      try simp only [Act.put]
      refine wpAnyH_take (i := 7) (v := ?_) rfl (by kernel_rfl) (by kernel_rfl) (by kernel_rfl) (fun _ _ _ h => h) (Or.inl ⟨by rfl, ?_⟩) (by assumption) ?_
      rotate_left 1
      · (intro w hSw; (try dsimp only at hSw); go_simp; try with_reducible rfl)
      try simp only [Act.put]
      refine wpAnyH_take (i := 8) (v := ?_) rfl (by kernel_rfl) (by kernel_rfl) (by kernel_rfl) (fun _ _ _ h => h) (Or.inl ⟨by rfl, ?_⟩) (by assumption) ?_
      rotate_left 1
      · (intro w hSw; (try dsimp only at hSw); go_simp; try with_reducible rfl)
      try simp only [Act.put]
      refine wpAnyH_take (i := 9) (v := ?_) rfl (by kernel_rfl) (by kernel_rfl) (by kernel_rfl) (fun _ _ _ h => h) (Or.inl ⟨by rfl, ?_⟩) (by assumption) ?_
      rotate_left 1
      · (intro w hSw; (try dsimp only at hSw); go_simp; try with_reducible rfl)
      try simp only [Act.put]
      refine wpAnyH_take (i := 10) (v := ?_) rfl (by kernel_rfl) (by kernel_rfl) (by kernel_rfl) (fun _ _ _ h => h) (Or.inl ⟨by rfl, ?_⟩) (by assumption) ?_
      rotate_left 1
      · (intro w hSw; (try dsimp only at hSw); go_simp; try with_reducible rfl)
      try simp only [Act.put]
      refine wpAnyH_take (i := 12) (v := ?_) rfl (by kernel_rfl) (by kernel_rfl) (by kernel_rfl) (fun _ _ _ h => h) (Or.inl ⟨by rfl, ?_⟩) (by assumption) ?_
      rotate_left 1
      · (intro w hSw; (try dsimp only at hSw); go_simp; try with_reducible rfl)
      try simp only [Act.put]
      refine wpAnyH_ready (rs := [0, 11]) (by kernel_rfl) (by simp) ?_
      refine AllReadyH.cons rfl (fun K hK => ?_) (AllReadyH.cons rfl (fun K hK => ?_) (AllReadyH.nil))
      · go_simp
        refine hK.out _ _ hHeld (fun hHeld => ?_)
        clear hK K
        try simp only [Act.put, List.setIfInBounds_toArray, List.set_cons_zero, List.set_cons_succ]
        refine wpAnyH_ready (rs := [11]) (by kernel_rfl) (by simp) ?_
        refine AllReadyH.cons rfl (fun K hK => ?_) (AllReadyH.nil)
        go_simp
        go_at_call 147
        refine (side_at _ _ _).mono ?_
        rintro e w1 ⟨bb, cc, rfl, k0, k1, g1⟩
        have s0 := g1.keeps s0
        have s1 := g1.keeps s1
        have s2 := (g1.froz _).trans s2
        have s3 := (g1.froz _).trans s3
        refine hK.out _ _ (four_call g1 hHeld) (fun hHeld => ?_)
        clear hK K
        try simp only [Act.put, List.setIfInBounds_toArray, List.set_cons_zero, List.set_cons_succ]
        refine wpAnyH_ready (rs := [13]) (by kernel_rfl) (by simp) ?_
        refine AllReadyH.cons rfl (fun K hK => ?_) (AllReadyH.nil)
        go_simp
        go_at_call 192
        refine (c70 _ _ _ k0 k1).mono ?_
        rintro e w2 ⟨rfl, e2⟩
        subst e2
        refine hK.out _ _ hHeld (fun hHeld => ?_)
        clear hK K
        try simp only [Act.put, List.setIfInBounds_toArray, List.set_cons_zero, List.set_cons_succ]
        refine wpAnyH_ready (rs := [14]) (by kernel_rfl) (by simp) ?_
        refine AllReadyH.cons rfl (fun K hK => ?_) (AllReadyH.nil)
        go_simp
        go_at_call 146
        refine (c57 _).mono ?_
        rintro e w3 ⟨rfl, g3⟩
        have s0 := g3.keeps s0
        have s1 := g3.keeps s1
        have s2 := (g3.froz _).trans s2
        have s3 := (g3.froz _).trans s3
        refine hK.out _ _ (four_call g3 hHeld) (fun hHeld => ?_)
        clear hK K
        try simp only [Act.put, List.setIfInBounds_toArray, List.set_cons_zero, List.set_cons_succ]
        refine wpAnyH_ready (rs := [15]) (by kernel_rfl) (by simp) ?_
        refine AllReadyH.cons rfl (fun K hK => ?_) (AllReadyH.nil)
        go_simp
        refine hK.out _ _ (four_set hb1 hb2 hb0 hHeld _ _) (fun hHeld => ?_)
        clear hK K
        try simp only [Act.put, List.setIfInBounds_toArray, List.set_cons_zero, List.set_cons_succ]
        refine wpAnyH_done (by kernel_rfl) ?_ _
        have hG3 := (hG.drew.trans g1).trans g3
        have hS3 : At2 w3 (w.heap.size + 1 + 1) s := ⟨s0, s1, s2, s3⟩
        clear c57 c70 x0 y0 z0 r1 r2 s0 s1 s2 s3 k0 k1 g1 g3 hG hHeld hS0
        go_wp2
        exact ⟨⟨q + 1, t, by go_num, hqn, Z, (hG3.setCell (by simp [Z0.out.2]) _).setCell (by simp [Z0.out.2]) _, hS3.set t⟩, by simp [intOf]; omega⟩
      · go_simp
        go_at_call 147
        refine (side_at _ _ _).mono ?_
        rintro e w1 ⟨bb, cc, rfl, k0, k1, g1⟩
        have s0 := g1.keeps s0
        have s1 := g1.keeps s1
        have s2 := (g1.froz _).trans s2
        have s3 := (g1.froz _).trans s3
        refine hK.out _ _ (four_call g1 hHeld) (fun hHeld => ?_)
        clear hK K
        try simp only [Act.put, List.setIfInBounds_toArray, List.set_cons_zero, List.set_cons_succ]
        refine wpAnyH_ready (rs := [0, 13]) (by kernel_rfl) (by simp) ?_
        refine AllReadyH.cons rfl (fun K hK => ?_) (AllReadyH.cons rfl (fun K hK => ?_) (AllReadyH.nil))
        · go_simp
          refine hK.out _ _ hHeld (fun hHeld => ?_)
          clear hK K
          try simp only [Act.put, List.setIfInBounds_toArray, List.set_cons_zero, List.set_cons_succ]
          refine wpAnyH_ready (rs := [13]) (by kernel_rfl) (by simp) ?_
          refine AllReadyH.cons rfl (fun K hK => ?_) (AllReadyH.nil)
          go_simp
          go_at_call 192
          refine (c70 _ _ _ k0 k1).mono ?_
          rintro e w2 ⟨rfl, e2⟩
          subst e2
          refine hK.out _ _ hHeld (fun hHeld => ?_)
          clear hK K
          try simp only [Act.put, List.setIfInBounds_toArray, List.set_cons_zero, List.set_cons_succ]
          refine wpAnyH_ready (rs := [14]) (by kernel_rfl) (by simp) ?_
          refine AllReadyH.cons rfl (fun K hK => ?_) (AllReadyH.nil)
          go_simp
          go_at_call 146
          refine (c57 _).mono ?_
          rintro e w3 ⟨rfl, g3⟩
          have s0 := g3.keeps s0
          have s1 := g3.keeps s1
          have s2 := (g3.froz _).trans s2
          have s3 := (g3.froz _).trans s3
          refine hK.out _ _ (four_call g3 hHeld) (fun hHeld => ?_)
          clear hK K
          try simp only [Act.put, List.setIfInBounds_toArray, List.set_cons_zero, List.set_cons_succ]
          refine wpAnyH_ready (rs := [15]) (by kernel_rfl) (by simp) ?_
          refine AllReadyH.cons rfl (fun K hK => ?_) (AllReadyH.nil)
          go_simp
          refine hK.out _ _ (four_set hb1 hb2 hb0 hHeld _ _) (fun hHeld => ?_)
          clear hK K
          try simp only [Act.put, List.setIfInBounds_toArray, List.set_cons_zero, List.set_cons_succ]
          refine wpAnyH_done (by kernel_rfl) ?_ _
          have hG3 := (hG.drew.trans g1).trans g3
          have hS3 : At2 w3 (w.heap.size + 1 + 1) s := ⟨s0, s1, s2, s3⟩
          clear c57 c70 x0 y0 z0 r1 r2 s0 s1 s2 s3 k0 k1 g1 g3 hG hHeld hS0
          go_wp2
          exact ⟨⟨q + 1, t, by go_num, hqn, Z, (hG3.setCell (by simp [Z0.out.2]) _).setCell (by simp [Z0.out.2]) _, hS3.set t⟩, by simp [intOf]; omega⟩
        · go_simp
          go_at_call 192
          refine (c70 _ _ _ k0 k1).mono ?_
          rintro e w2 ⟨rfl, e2⟩
          subst e2
          refine hK.out _ _ hHeld (fun hHeld => ?_)
          clear hK K
          try simp only [Act.put, List.setIfInBounds_toArray, List.set_cons_zero, List.set_cons_succ]
          refine wpAnyH_ready (rs := [0]) (by kernel_rfl) (by simp) ?_
          refine AllReadyH.cons rfl (fun K hK => ?_) (AllReadyH.nil)
          go_simp
          refine hK.out _ _ hHeld (fun hHeld => ?_)
          clear hK K
          try simp only [Act.put, List.setIfInBounds_toArray, List.set_cons_zero, List.set_cons_succ]
          refine wpAnyH_ready (rs := [14]) (by kernel_rfl) (by simp) ?_
          refine AllReadyH.cons rfl (fun K hK => ?_) (AllReadyH.nil)
          go_simp
          go_at_call 146
          refine (c57 _).mono ?_
          rintro e w3 ⟨rfl, g3⟩
          have s0 := g3.keeps s0
          have s1 := g3.keeps s1
          have s2 := (g3.froz _).trans s2
          have s3 := (g3.froz _).trans s3
          refine hK.out _ _ (four_call g3 hHeld) (fun hHeld => ?_)
          clear hK K
          try simp only [Act.put, List.setIfInBounds_toArray, List.set_cons_zero, List.set_cons_succ]
          refine wpAnyH_ready (rs := [15]) (by kernel_rfl) (by simp) ?_
          refine AllReadyH.cons rfl (fun K hK => ?_) (AllReadyH.nil)
          go_simp
          refine hK.out _ _ (four_set hb1 hb2 hb0 hHeld _ _) (fun hHeld => ?_)
          clear hK K
          try simp only [Act.put, List.setIfInBounds_toArray, List.set_cons_zero, List.set_cons_succ]
          refine wpAnyH_done (by kernel_rfl) ?_ _
          have hG3 := (hG.drew.trans g1).trans g3
          have hS3 : At2 w3 (w.heap.size + 1 + 1) s := ⟨s0, s1, s2, s3⟩
          clear c57 c70 x0 y0 z0 r1 r2 s0 s1 s2 s3 k0 k1 g1 g3 hG hHeld hS0
          go_wp2
          exact ⟨⟨q + 1, t, by go_num, hqn, Z, (hG3.setCell (by simp [Z0.out.2]) _).setCell (by simp [Z0.out.2]) _, hS3.set t⟩, by simp [intOf]; omega⟩
    · have hqi : ¬ (q : Int) < (n : Int) := by omega
      have E : Hid (s = bx L H a) := by
        have h1 := X.out
        rw [show q = a.length by have := N.out; omega] at h1; exact h1
      obtain ⟨s0, s1, s2, s3⟩ := hS
      obtain ⟨v0, v1, v2, v3⟩ := hG.var2
      rw [Z0.out.2] at v0 v1 v2 v3
      have hG2 := (Z0.out.1.trans ((Gr.refl _).alloc _ _)).trans hG
      go_wp2
      exact bodyPost_ret (v := Wd s) (by simp [results, Tryz.results100, go_sem, v0, v1]) rfl ⟨by rw [E.out], by repeat (first | exact hG2 | refine Gr.setCell ?_ (by simp) _)⟩
end Go.Proofs.YtepjbdklljlecaaGreat

/- Roots; vec.ballBound. -/
namespace Go.Proofs.YtepjbdklljlecaaGreat
open Go.RowKit

/-- The greatest number up to n whose square is not above a. -/
def rtTo (a : Nat) : Nat → Nat
  | 0 => 0
  | n + 1 => if (n + 1) * (n + 1) ≤ a then n + 1 else rtTo a n
def rt (a : Nat) : Nat := rtTo a a
theorem rtTo_is (a : Nat) : ∀ n, a < (n + 1) * (n + 1) → IsRoot a (rtTo a n)
  | 0, h => ⟨Nat.zero_le _, by simpa [rtTo] using h⟩
  | n + 1, h => by
    unfold rtTo
    split
    · rename_i h1; exact ⟨h1, h⟩
    · rename_i h1; exact rtTo_is a n (by omega)
theorem rt_is (a : Nat) : IsRoot a (rt a) := rtTo_is a a (by
  have : (a + 1) * 1 ≤ (a + 1) * (a + 1) := Nat.mul_le_mul_left _ (by omega)
  omega)
theorem root_le {a r s : Nat} (h1 : IsRoot a r) (h2 : IsRoot a s) : s ≤ r := by
  apply Nat.le_of_not_lt; intro hc
  have := sq_le (show r + 1 ≤ s by omega)
  have := h1.2; have := h2.1; omega
theorem root_one {a r : Nat} (h : IsRoot a r) : r = rt a := Nat.le_antisymm (root_le (rt_is a) h) (root_le h (rt_is a))
theorem rt_lt {a : Nat} (ha : a < 340282366920938463463374607431768211456) : rt a < 18446744073709551616 := by
  apply Nat.lt_of_not_le; intro hc
  have := sq_le hc
  have := (rt_is a).1; omega
theorem sqrt_c (a : Nat) (ha : a < 340282366920938463463374607431768211456) (w : World) :
    Calls Tryz.prog 148 #[Wd a] w fun e w' => e = .returned (.int .u64 (rt a : Int)) ∧ Gr w w' := by
  refine (sqrt_any a ha w).mono ?_
  rintro e w' ⟨r, rfl, _, hr, g⟩
  rw [root_one hr]; exact ⟨rfl, g⟩

/-- The least number whose square is not below R. -/
def rup (R : Nat) : Nat := if rt R * rt R = R then rt R else rt R + 1
/-- The bound of a ball: a the distance from its centre. -/
def ballV (a R : Nat) : Nat := if rt a ≤ rt R then 0 else (rt a - rup R) * (rt a - rup R)

theorem wd_ne (a b : Nat) (r : Bool) (h : (!decide (a = b)) = r) (W : World) : (binOp .neq 66 (.agg #[.int .u64 (hi a), .int .u64 (lo a)]) (.agg #[.int .u64 (hi b), .int .u64 (lo b)])).run Tryz.prog W = .ok (.bool r) W := by
  subst h
  have h1 := wd_eq a b W
  rw [run_eql_struct] at h1
  rw [run_neq_struct]
  revert h1
  generalize (Op.equalIn 10000 66 (Wd a) (Wd b)).run Tryz.prog W = x
  intro h1
  cases x with
  | ok v w' =>
    simp only [Result.andThen] at h1 ⊢
    injection h1 with h2 h3
    injection h2 with h4
    rw [h3, h4]
  | _ => simp [Result.andThen] at h1

set_option maxHeartbeats 4000000 in
set_option maxRecDepth 100000 in
theorem ballBound_c {w : World} {v u : Value} {r : Reg} {a : List Int} (hv : RdR w v r) (hu : RdI w u a) (hl : r.L.length = a.length) (hn : r.L.length ≤ 64) (rl : allR r.L = true) (ra : allR a = true) (hR : r.R < 340282366920938463463374607431768211456) :
    Calls Tryz.prog 101 #[v, u] w fun e w' => e = .returned (Wd (ballV (dst r.L a) r.R)) ∧ Gr w w' := by
  have HV : Hid (RdR w v r) := hv
  obtain ⟨vl, vh, vi, rfl, hL, hH, hI⟩ := hv
  have RA : Hid (RegAt (w.alloc (rc r vl vh vi)) w.heap.size r vl vh vi) := RegAt.new w r vl vh vi
  have G00 : Gr w (w.alloc (rc r vl vh vi)) := (Gr.refl _).alloc _ _
  have G0 : Gr w ((w.alloc (rc r vl vh vi)).alloc (.cells #[.int .u64 0, .int .u64 0] 66)) := G00.alloc _ _
  have c1 := distance_c (hL.gb G0.gb) (hu.gb G0.gb) hl hn rl ra
  have c2 := fun W => sqrt_c (dst r.L a) (dst_lt rl ra hl hn) W
  have c3 := fun W => sqrt_c r.R hR W
  have l1 := rt_lt (dst_lt rl ra hl hn)
  have l2 := rt_lt hR
  have l3 := (rt_is (dst r.L a)).1
  have l4 := dst_lt rl ra hl hn
  clear hH hI HV hl hn rl ra
  obtain ⟨S, L, H, R, I⟩ := r
  dsimp only at *
  obtain ⟨pl, cl, rfl, _⟩ := hL
  obtain ⟨pa, ca, rfl, _⟩ := hu
  generalize L.length = nl at *
  generalize a.length = na at *
  have E : Hid (ballV (dst L a) R = if rt (dst L a) ≤ rt R then 0 else (rt (dst L a) - rup R) * (rt (dst L a) - rup R)) := rfl
  generalize ballV (dst L a) R = res at *
  generalize dst L a = D at *
  have E2 : Hid (rup R = if rt R * rt R = R then rt R else rt R + 1) := rfl
  generalize rt D = s at *
  generalize rup R = t' at *
  generalize rt R = t at *
  clear l3 l4
  have W0 : Hid (Gr (w.alloc (.cells #[.int .i64 S, .slice pl nl cl, vh, .int .u64 (hi R), .int .u64 (lo R), vi] 102)) ((w.alloc (.cells #[.int .i64 S, .slice pl nl cl, vh, .int .u64 (hi R), .int .u64 (lo R), vi] 102)).alloc (.cells #[.int .u64 0, .int .u64 0] 66))) := (Gr.refl _).alloc _ _
  go_enter Tryz.func101, Tryz.ntmps101
  go_wp2_with fail
  refine c1.mono ?_
  rintro e w1 ⟨rfl, g1⟩
  go_wp2_with fail
  refine (c2 _).mono ?_
  rintro e w2 ⟨rfl, g2⟩
  have g2 := g1.trans g2
  obtain ⟨_, _, _, q3, q4, _⟩ := RA.out.gb (W0.out.trans g2).gb
  dsimp only at q3 q4
  go_wp2_with fail
  refine (c3 _).mono ?_
  rintro e w3 ⟨rfl, g3⟩
  have G3 := g2.trans g3
  have VV := G3.var2
  simp only [World.size_alloc] at VV
  obtain ⟨v0, v1, v2, v3⟩ := VV
  clear c1 c2 c3 g1 g2 g3 q3 q4
  by_cases hst : s ≤ t
  · rw [if_pos hst] at E
    have e := E.out
    subst e
    have hst' : (s : Int) ≤ (t : Int) := by omega
    clear E E2 hst
    go_wp2
    exact bodyPost_ret (v := Wd 0) (by simp [results, Tryz.results101, go_sem, v0, v1, hi, lo]) rfl ⟨rfl, by repeat (first | exact G0.trans G3 | refine Gr.setCell ?_ (by simp) _)⟩
  · rw [if_neg hst] at E
    have hst' : ¬ (s : Int) ≤ (t : Int) := by omega
    obtain ⟨_, _, _, q3, q4, _⟩ := RA.out.gb (W0.out.trans G3).gb
    dsimp only at q3 q4
    have cm := fun W => mul_any t t l2 l2 W
    have reg : ∀ r' : Bool, (!decide (t * t = R)) = r' → Hid ((!decide (t * t = R)) = r') := fun _ h => h
    by_cases ht : t * t = R
    · have hne := fun W => wd_ne (t * t) R false (by simp [ht]) W
      rw [if_pos ht] at E2
      have e := E2.out
      subst e
      have cs := fun W => mul_int ((s : Int) - (t' : Int)) ((s : Int) - (t' : Int)) (by omega) (by omega) (by omega) (by omega) W
      have E3 : Hid (((s : Int) - (t' : Int)).toNat * ((s : Int) - (t' : Int)).toNat = res) := by unfold Hid; rw [E.out]; congr 1 <;> omega
      rw [E3.out] at cs
      have b1 : 0 ≤ (s : Int) - (t' : Int) := by omega
      have b2 : (s : Int) - (t' : Int) < 18446744073709551616 := by omega
      clear E E2 E3 hst ht reg
      go_wp2
      go_region_held3 (fun w' => w'.cell? ⟨w.heap.size, 3, none⟩ = some (.int .u64 (hi R)) ∧ w'.cell? ⟨w.heap.size, 4, none⟩ = some (.int .u64 (lo R))) (first | (with_reducible exact call_keeps2 (by assumption) (by assumption)) | exact ⟨q3, q4⟩)
        (first
          | (go_at_call 150; refine (cm _).mono ?_; rintro e w4 ⟨rfl, g4⟩))
      all_goals
        have G4 := G3.drew.trans g4
        go_wp2_with fail
        refine (cs _).mono ?_
        rintro e w5 ⟨rfl, g5⟩
        have G5 := G4.trans g5
        have VV := G5.var2
        simp only [World.size_alloc] at VV
        obtain ⟨u0, u1, u2, u3⟩ := VV
        go_wp2
        exact bodyPost_ret (v := Wd res) (by simp [results, Tryz.results101, go_sem, u0, u1]) rfl ⟨rfl, by repeat (first | exact G0.trans G5 | refine Gr.setCell ?_ (by simp) _)⟩
    · have hne := fun W => wd_ne (t * t) R true (by simp [ht]) W
      rw [if_neg ht] at E2
      have e := E2.out
      have T1 : Hid ((t : Int) + 1 = (t' : Int)) := by unfold Hid; omega
      have cs := fun W => mul_int ((s : Int) - (t' : Int)) ((s : Int) - (t' : Int)) (by omega) (by omega) (by omega) (by omega) W
      have E3 : Hid (((s : Int) - (t' : Int)).toNat * ((s : Int) - (t' : Int)).toNat = res) := by unfold Hid; rw [E.out]; congr 1 <;> omega
      rw [E3.out] at cs
      have BB : Hid (0 ≤ (s : Int) - (t' : Int) ∧ (s : Int) - (t' : Int) < 18446744073709551616) := ⟨by omega, by omega⟩
      clear e
      clear E E2 E3 hst ht reg
      go_wp2
      go_region_held3 (fun w' => w'.cell? ⟨w.heap.size, 3, none⟩ = some (.int .u64 (hi R)) ∧ w'.cell? ⟨w.heap.size, 4, none⟩ = some (.int .u64 (lo R))) (first | (with_reducible exact call_keeps2 (by assumption) (by assumption)) | exact ⟨q3, q4⟩)
        (first
          | (go_at_call 150; refine (cm _).mono ?_; rintro e w4 ⟨rfl, g4⟩))
      all_goals
        have G4 := G3.drew.trans g4
        have T2 := T1.out
        obtain ⟨b1, b2⟩ := BB.out
        go_wp2_with fail
        refine (cs _).mono ?_
        rintro e w5 ⟨rfl, g5⟩
        have G5 := G4.trans g5
        have VV := G5.var2
        simp only [World.size_alloc] at VV
        obtain ⟨u0, u1, u2, u3⟩ := VV
        go_wp2
        exact bodyPost_ret (v := Wd res) (by simp [results, Tryz.results101, go_sem, u0, u1]) rfl ⟨rfl, by repeat (first | exact G0.trans G5 | refine Gr.setCell ?_ (by simp) _)⟩
end Go.Proofs.YtepjbdklljlecaaGreat

/- vec.Inside and vec.Bound. -/
namespace Go.Proofs.YtepjbdklljlecaaGreat
open Go.RowKit

/-- Does a vector lie in a region? Both may be. -/
def inV (r : Reg) (a : List Int) : Bool := if r.S = 2 then decide (bx r.L r.H a = 0) else if r.S = 3 then decide (dst r.L a ≤ r.R) else true
/-- How near it may be. -/
def bdV (r : Reg) (a : List Int) : Nat := if r.S = 2 then bx r.L r.H a else if r.S = 3 then ballV (dst r.L a) r.R else 0
theorem ckB_ok {r : Reg} {a : List Int} (h : ckB r a = 0) : ckR r a.length = 0 ∧ chk a a.length = 0 := by
  unfold ckB at h; split at h
  · rename_i h1; exact ⟨h1, h⟩
  · rename_i h1; exact absurd h h1
theorem ckR_ok {r : Reg} {d : Int} (h : ckR r d = 0) : (r.S = 2 → cornE r.L r.H d = 0) ∧ (r.S = 3 → chk r.L d = 0) ∧ uses r = true ∧ rise r.I = true := by
  unfold ckR at h; split at h
  · split at h
    · rename_i h2
      refine ⟨fun e => ?_, fun e => ?_, h2⟩
      · rw [if_pos e] at h; exact h
      · rw [if_neg (by omega), if_pos e] at h; exact h
    · cases h
  · cases h
theorem cornE_ok {l h : List Int} {d : Int} (k : cornE l h d = 0) : chk l d = 0 ∧ chk h d = 0 ∧ below l h l.length = true := by
  unfold cornE at k; split at k
  · rename_i h1
    split at k
    · rename_i h2
      split at k
      · rename_i h3; exact ⟨h1, h2, h3⟩
      · cases k
    · rename_i h2; exact absurd k h2
  · rename_i h1; exact absurd k h1
/-- What a box and a vector that may be are. -/
theorem box_ok {r : Reg} {a : List Int} (h : ckB r a = 0) (s : r.S = 2) : r.L.length = a.length ∧ r.H.length = a.length ∧ a.length ≤ 64 ∧ allR r.L = true ∧ allR r.H = true ∧ allR a = true ∧ below r.L r.H a.length = true := by
  obtain ⟨h1, h2⟩ := ckB_ok h
  obtain ⟨h3, h4, h5⟩ := cornE_ok ((ckR_ok h1).1 s)
  obtain ⟨a1, a2, a3, a4⟩ := chk_ok h3
  obtain ⟨b1, b2, b3, b4⟩ := chk_ok h4
  obtain ⟨c1, c2, c3, c4⟩ := chk_ok h2
  have e1 : r.L.length = a.length := by omega
  rw [e1] at h5
  exact ⟨e1, by omega, c2, a4, b4, c4, h5⟩
theorem ball_ok {r : Reg} {a : List Int} (h : ckB r a = 0) (s : r.S = 3) : r.L.length = a.length ∧ r.L.length ≤ 64 ∧ allR r.L = true ∧ allR a = true := by
  obtain ⟨h1, h2⟩ := ckB_ok h
  obtain ⟨a1, a2, a3, a4⟩ := chk_ok ((ckR_ok h1).2.1 s)
  obtain ⟨c1, c2, c3, c4⟩ := chk_ok h2
  exact ⟨by omega, a2, a4, c4⟩
/-- What Bound answers. -/
def bndV (r : Reg) (a : List Int) : Nat := if ckB r a = 0 then bdV r a else 0
set_option maxHeartbeats 4000000 in
set_option maxRecDepth 100000 in
theorem bound_c {w : World} {v u : Value} {r : Reg} {a : List Int} (hv : RdR w v r) (hu : RdI w u a) (hlen : r.I.length ≤ 4611686018427387904) (hR : r.R < 340282366920938463463374607431768211456) :
    Calls Tryz.prog 67 #[v, u] w fun e w' => e = .returned (.tuple #[Wd (bndV r a), .int .i64 (ckB r a)]) ∧ Gr w w' := by
  have HV : Hid (RdR w v r) := hv
  obtain ⟨vl, vh, vi, rfl, hL, hH, hI⟩ := hv
  have RA : Hid (RegAt (w.alloc (rc r vl vh vi)) w.heap.size r vl vh vi) := RegAt.new w r vl vh vi
  have G00 : Gr w (w.alloc (rc r vl vh vi)) := (Gr.refl _).alloc _ _
  have G01 : Gr (w.alloc (rc r vl vh vi)) ((w.alloc (rc r vl vh vi)).alloc (.cells #[.int .u64 0, .int .u64 0] 66)) := (Gr.refl _).alloc _ _
  have G0 := G00.trans G01
  have C1 := fun x hx => checkBoth_v (HV.out.gb G0.gb) (hu.gb G0.gb) hlen x hx
  by_cases h0 : ckB r a = 0
  · have c1 := C1 _ h0
    have E : Hid (bndV r a = bdV r a) := by unfold Hid bndV; rw [if_pos h0]
    rw [E.out, h0]
    clear C1 E
    have E : Hid (bdV r a = if r.S = 2 then bx r.L r.H a else if r.S = 3 then ballV (dst r.L a) r.R else 0) := rfl
    generalize bdV r a = res at *
    by_cases s2 : r.S = 2
    · obtain ⟨k1, k2, k3, k4, k5, k6, k7⟩ := box_ok h0 s2
      rw [if_pos s2] at E
      have c2 := fun W' (g : Gr ((w.alloc (rc r vl vh vi)).alloc (.cells #[.int .u64 0, .int .u64 0] 66)) W') => boxBound_c (HV.out.gb (G0.trans g).gb) (hu.gb (G0.trans g).gb) k1 k2 k3 k4 k5 k6
      rw [← E.out] at c2
      obtain ⟨pa, ca, rfl, _⟩ := hu
      clear HV hL hH hI h0 k1 k2 k3 k4 k5 k6 k7 hlen hR E
      obtain ⟨S, L, H, R, I⟩ := r
      dsimp only at *
      subst s2
      generalize a.length = na at *
      go_enter Tryz.func67, Tryz.ntmps67
      go_wp2_with fail
      refine c1.mono ?_
      rintro e w1 ⟨rfl, g1⟩
      obtain ⟨q0, q1, q2, q3, q4, q5⟩ := RA.out.gb (G01.trans g1).gb
      dsimp only at q0 q1 q2 q3 q4 q5
      go_wp2_with fail
      refine (c2 _ g1).mono ?_
      rintro e w2 ⟨rfl, g2⟩
      have G2 := g1.trans g2
      have VV := G2.var2
      simp only [World.size_alloc] at VV
      obtain ⟨v0, v1, v2, v3⟩ := VV
      go_wp2
      exact bodyPost_ret (v := .tuple #[Wd res, .int .i64 0]) (by simp [results, Tryz.results67, go_sem, v0, v1]) rfl ⟨rfl, by repeat (first | exact G0.trans G2 | refine Gr.setCell ?_ (by simp) _)⟩
    · have s2' : (r.S == 2) = false := by rw [beq_eq_false_iff_ne]; exact s2
      rw [if_neg s2] at E
      by_cases s3 : r.S = 3
      · obtain ⟨k1, k2, k3, k4⟩ := ball_ok h0 s3
        rw [if_pos s3] at E
        have c2 := fun W' (g : Gr ((w.alloc (rc r vl vh vi)).alloc (.cells #[.int .u64 0, .int .u64 0] 66)) W') => ballBound_c (HV.out.gb (G0.trans g).gb) (hu.gb (G0.trans g).gb) k1 k2 k3 k4 hR
        rw [← E.out] at c2
        obtain ⟨pa, ca, rfl, _⟩ := hu
        clear HV hL hH hI h0 k1 k2 k3 k4 hlen hR E s2 s2'
        obtain ⟨S, L, H, R, I⟩ := r
        dsimp only at *
        subst s3
        generalize a.length = na at *
        go_enter Tryz.func67, Tryz.ntmps67
        go_wp2_with fail
        refine c1.mono ?_
        rintro e w1 ⟨rfl, g1⟩
        obtain ⟨q0, q1, q2, q3, q4, q5⟩ := RA.out.gb (G01.trans g1).gb
        dsimp only at q0 q1 q2 q3 q4 q5
        go_wp2_with fail
        refine (c2 _ g1).mono ?_
        rintro e w2 ⟨rfl, g2⟩
        have G2 := g1.trans g2
        have VV := G2.var2
        simp only [World.size_alloc] at VV
        obtain ⟨v0, v1, v2, v3⟩ := VV
        go_wp2
        exact bodyPost_ret (v := .tuple #[Wd res, .int .i64 0]) (by simp [results, Tryz.results67, go_sem, v0, v1]) rfl ⟨rfl, by repeat (first | exact G0.trans G2 | refine Gr.setCell ?_ (by simp) _)⟩
      · have s3' : (r.S == 3) = false := by rw [beq_eq_false_iff_ne]; exact s3
        rw [if_neg s3] at E
        have e := E.out
        subst e
        obtain ⟨pa, ca, rfl, _⟩ := hu
        clear HV hL hH hI h0 hlen hR E s2 s3
        obtain ⟨S, L, H, R, I⟩ := r
        dsimp only at *
        generalize a.length = na at *
        go_enter Tryz.func67, Tryz.ntmps67
        go_wp2_with fail
        refine c1.mono ?_
        rintro e w1 ⟨rfl, g1⟩
        obtain ⟨q0, q1, q2, q3, q4, q5⟩ := RA.out.gb (G01.trans g1).gb
        dsimp only at q0 q1 q2 q3 q4 q5
        have VV := g1.var2
        simp only [World.size_alloc] at VV
        obtain ⟨v0, v1, v2, v3⟩ := VV
        go_wp2
        exact bodyPost_ret (v := .tuple #[Wd 0, .int .i64 0]) (by simp [results, Tryz.results67, go_sem, v0, v1, hi, lo]) rfl ⟨rfl, by repeat (first | exact G0.trans g1 | refine Gr.setCell ?_ (by simp) _)⟩
  · have c1 := C1 _ rfl
    have E : bndV r a = 0 := by unfold bndV; rw [if_neg h0]
    have h1 : (ckB r a == 0) = false := by rw [beq_eq_false_iff_ne]; exact h0
    rw [E]
    obtain ⟨pa, ca, rfl, _⟩ := hu
    clear C1 E HV hL hH hI hlen hR h0
    generalize ckB r a = res at *
    obtain ⟨S, L, H, R, I⟩ := r
    generalize a.length = na at *
    go_enter Tryz.func67, Tryz.ntmps67
    go_wp2_with fail
    refine c1.mono ?_
    rintro e w1 ⟨rfl, g1⟩
    have VV := g1.var2
    simp only [World.size_alloc] at VV
    obtain ⟨v0, v1, v2, v3⟩ := VV
    go_wp2
    exact bodyPost_ret (v := .tuple #[Wd 0, .int .i64 res]) (by simp [results, Tryz.results67, go_sem, v0, v1, hi, lo]) rfl ⟨rfl, by repeat (first | exact G0.trans g1 | refine Gr.setCell ?_ (by simp) _)⟩
end Go.Proofs.YtepjbdklljlecaaGreat
