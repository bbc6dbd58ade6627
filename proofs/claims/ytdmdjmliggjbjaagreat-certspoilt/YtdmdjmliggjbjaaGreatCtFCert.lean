/- The reference's Certain. -/
import Derived.Test.YtdmdjmliggjbjaaGreatCt29
import Derived.Test.YtdmdjmliggjbjaaGreatCt17
import Derived.Test.YtdmdjmliggjbjaaGreatCt13
import Derived.Test.YtdmdjmliggjbjaaGreatCtFSnd
namespace Go.Proofs.YtdmdjmliggjbjaaGreat
open Go.RowKit Go.Sort

theorem cless_v (a b : Nat) (ha : a < 340282366920938463463374607431768211456) (hb : b < 340282366920938463463374607431768211456) (r : Bool) (h : decide (a < b) = r) (w : World) :
    Calls Tryz.prog 52 #[Wd a, Wd b] w fun e w' => e = .returned (.bool r) ∧ Gr w w' := by
  subst h; exact less_any a b ha hb w
theorem cballV_lt {a R : Nat} (ha : a < 340282366920938463463374607431768211456) : ballV a R < 340282366920938463463374607431768211456 := by
  unfold ballV; split
  · omega
  · have h1 : rt a - rup R ≤ rt a := Nat.sub_le _ _
    have := Nat.mul_le_mul h1 h1
    have := (rt_is a).1; omega
theorem bdV_lt {r : Reg} {q : List Int} (h : ckB r q = 0) : bdV r q < 340282366920938463463374607431768211456 := by
  unfold bdV; split
  · rename_i s
    obtain ⟨k1, k2, k3, k4, k5, k6, k7⟩ := box_ok h s
    exact bx_lt k4 k5 k6 k1 k2 k3
  · split
    · rename_i s
      obtain ⟨k1, k2, k3, k4⟩ := ball_ok h s
      exact cballV_lt (dst_lt k3 k4 k1 k2)
    · omega
/-- A hit's distance. -/
def dnH (x : Tk.Ht) : Nat := (x.2.1 * 18446744073709551616 + x.2.2).toNat
/-- Whether an answer is certain. -/
def certB (q : List Int) (k : Nat) (a : Ans) : Bool := a.rest.isEmpty || (decide (k ≤ a.hits.length) && a.rest.all fun r => decide (dnH a.hits[k - 1]! < bdV r q))
theorem all_take {p : Nat} {l : List Reg} {f : Reg → Bool} (hp : p < l.length) (h : (l.take p).all f = true) (hx : f l[p] = true) : (l.take (p + 1)).all f = true := by
  rw [List.take_succ_eq_append_getElem hp, List.all_append, h]
  simpa using hx
theorem all_no {l : List Reg} {f : Reg → Bool} {x : Reg} (hx : x ∈ l) (h : f x = false) : l.all f = false := by
  rw [List.all_eq_false]
  exact ⟨x, hx, by rw [h]; decide⟩
set_option maxRecDepth 100000 in
set_option maxHeartbeats 2000000 in
theorem rcertain_c {w : World} {u vh vs vr : Value} {q : List Int} {k : Nat} {a : Ans} (hu : RdI w u q) (ha : RdA w vh vs vr a) (hk : 1 ≤ k ∧ k ≤ 64) (hn : a.rest.length ≤ 4611686018427387904) (_hh : a.hits.length ≤ 4611686018427387904)
    (hq : ∀ r ∈ a.rest, ckB r q = 0 ∧ r.R < 340282366920938463463374607431768211456) (hd : ∀ x ∈ a.hits, dnH x < 340282366920938463463374607431768211456 ∧ x.2.1 = hi (dnH x) ∧ x.2.2 = lo (dnH x)) :
    Calls Tryz.prog 24 #[u, .int .i64 (k : Int), .agg #[vh, vs, vr]] w fun e w' => e = .returned (.bool (certB q k a)) ∧ Gb w w' := by
  obtain ⟨W1, hW1⟩ : ∃ W1, W1 = w.alloc (.cells #[vh, vs, vr] 27) := ⟨_, rfl⟩
  have G0 : Hid (Gb w W1) := by unfold Hid; rw [hW1]; exact gb_alloc (Below.refl _ _) _
  have BX : Hid (W1.cell? ⟨w.heap.size, 0, none⟩ = some vh ∧ W1.cell? ⟨w.heap.size, 2, none⟩ = some vr) := by
    unfold Hid; rw [hW1]; exact ⟨by simp [go_sem], by simp [go_sem]⟩
  have A : Hid (RdA w vh vs vr a) := ha
  have U : Hid (RdI w u q) := hu
  have HQ : Hid (∀ r ∈ a.rest, ckB r q = 0 ∧ r.R < 340282366920938463463374607431768211456) := hq
  have HD : Hid (∀ x ∈ a.hits, dnH x < 340282366920938463463374607431768211456 ∧ x.2.1 = hi (dnH x) ∧ x.2.2 = lo (dnH x)) := hd
  obtain ⟨au, cu, rfl, _⟩ := hu
  obtain ⟨ah, ch, evh, hlies⟩ := ha.hits.form
  obtain ⟨sa, sc, evs, _⟩ := ha.seen
  obtain ⟨ar, cr, evr, _⟩ := ha.rest
  have HL : Hid (∀ i, i < a.hits.length → ∃ b o, ah = some ⟨b, o, none⟩ ∧ Tk.Lies w b o a.hits) := hlies
  subst evh; subst evs; subst evr
  clear ha hq hd hlies
  obtain ⟨nh, hnh⟩ : ∃ nh, nh = a.hits.length := ⟨_, rfl⟩
  obtain ⟨ns, hns⟩ : ∃ ns, ns = a.seen.length := ⟨_, rfl⟩
  obtain ⟨nr, hnr⟩ : ∃ nr, nr = a.rest.length := ⟨_, rfl⟩
  obtain ⟨m, hm⟩ : ∃ m, m = q.length := ⟨_, rfl⟩
  have NH : Hid (nh = a.hits.length) := hnh
  have NR : Hid (nr = a.rest.length) := hnr
  simp only [← hnh, ← hns, ← hnr] at A BX hW1 ⊢
  rw [← hnr] at hn
  rw [← hm] at U ⊢
  clear hnh hns hnr hm
  by_cases hz : nr = 0
  · have R : Hid (certB q k a = true) := by
      have : a.rest = [] := List.length_eq_zero_iff.1 (by have := NR.out; omega)
      unfold Hid certB; rw [this]; rfl
    subst hz
    have G00 : Hid (Gb w (w.alloc (.cells #[.slice ah nh ch, .slice sa ns sc, .slice ar 0 cr] 27))) := gb_alloc (Below.refl _ _) _
    go_enter Tryz.func24, Tryz.ntmps24
    go_wp2
    go_ret
    exact ⟨by rw [R.out]; rfl, G00.out⟩
  have NE : Hid (a.rest.isEmpty = false) := by
    unfold Hid
    cases he : a.rest with
    | nil => rw [he] at NR; exact absurd NR.out hz
    | cons x y => rfl
  have hzb : ((nr : Int) == 0) = false := by rw [beq_eq_false_iff_ne]; omega
  clear hz
  by_cases hlk : nh < k
  · have hlki : (nh : Int) < (k : Int) := by omega
    have R : Hid (certB q k a = false) := by
      unfold Hid certB; rw [NE.out, decide_eq_false (by have := NH.out; omega)]; rfl
    have G00 : Hid (Gb w (w.alloc (.cells #[.slice ah nh ch, .slice sa ns sc, .slice ar nr cr] 27))) := gb_alloc (Below.refl _ _) _
    go_enter Tryz.func24, Tryz.ntmps24
    go_wp2
    go_ret
    exact ⟨by rw [R.out]; rfl, G00.out⟩
  have hlki : ¬ (nh : Int) < (k : Int) := by omega
  have CB : Hid (certB q k a = a.rest.all fun r => decide (dnH a.hits[k - 1]! < bdV r q)) := by
    unfold Hid certB; rw [NE.out, decide_eq_true (by have := NH.out; omega)]; rfl
  go_enter Tryz.func24, Tryz.ntmps24
  go_wp2
  rw [← hW1]
  clear hW1 NE hzb
  go_loopw [7] (fun iv W => ∃ p : Nat, iv = .int .i64 (p : Int) ∧ p ≤ nr ∧ Hid (Gb W1 W ∧ (a.rest.take p).all (fun r => decide (dnH a.hits[k - 1]! < bdV r q)) = true)) (fun iv _ => nr - (intOf iv).toNat)
  case atStart => exact ⟨0, rfl, Nat.zero_le _, Below.refl _ _, by simp⟩
  case round =>
    obtain ⟨p, rfl, hp, X⟩ := hrel
    obtain ⟨x0, x2⟩ := BX.out
    have x0 := gb_keeps X.out.1 x0
    have x2 := gb_keeps X.out.1 x2
    by_cases hpn : p < nr
    · have hpi : (p : Int) < (nr : Int) := by omega
      have hpl : p < a.rest.length := by have := NR.out; omega
      have GX : Hid (Gb w wr) := gb_trans G0.out X.out.1
      obtain ⟨_, _, ea, hA⟩ := A.out.rest
      obtain ⟨b1, o1, x1, x2', x3, e1, a0, a1, a2, a3, a4, a5, r1, r2, r3⟩ := hA p hpl
      injection ea with ea1 ea2 ea3
      subst ea1; subst e1
      have fq := HQ.out _ (List.getElem_mem hpl)
      have cn := fun W (g : Gb w W) => rnear_c (r := a.rest[p]) ⟨x1, x2', x3, rfl, r1.gb g, r2.gb g, r3.gb g⟩ (U.out.gb g) fq.1 fq.2
      obtain ⟨k1, hk1⟩ : ∃ k1, k1 = k - 1 := ⟨_, rfl⟩
      have hkl : k1 < a.hits.length := by have := NH.out; omega
      obtain ⟨b2, o2, e2, hl⟩ := HL.out k1 hkl
      subst e2
      obtain ⟨_, k1', k2'⟩ := hl k1 hkl
      have fd := HD.out a.hits[k1]! (by rw [getElem!_pos a.hits k1 hkl]; exact List.getElem_mem hkl)
      obtain ⟨D, hDe⟩ : ∃ D, D = dnH a.hits[k1]! := ⟨_, rfl⟩
      obtain ⟨E, hEe⟩ : ∃ E, E = bdV a.rest[p] q := ⟨_, rfl⟩
      have f1 : a.hits[k1]!.hi = hi D := by rw [hDe]; exact fd.2.1
      have f2 : a.hits[k1]!.lo = lo D := by rw [hDe]; exact fd.2.2
      rw [f1] at k1'
      rw [f2] at k2'
      clear f1 f2
      have hD : D < 340282366920938463463374607431768211456 := by rw [hDe]; exact fd.1
      have hE : E < 340282366920938463463374607431768211456 := by
        rw [hEe]
        exact bdV_lt fq.1
      rw [← hEe] at cn
      have RY : Hid (D < E → (a.rest.take (p + 1)).all (fun r => decide (dnH a.hits[k - 1]! < bdV r q)) = true) := fun h => all_take hpl X.out.2 (by rw [← hk1, ← hDe, ← hEe]; exact decide_eq_true h)
      have RN : Hid (¬ D < E → certB q k a = false) := fun h => by
        rw [CB.out]
        exact all_no (List.getElem_mem hpl) (by rw [← hk1, ← hDe, ← hEe]; exact decide_eq_false h)
      have a0 := gb_keeps GX.out a0
      have a1 := gb_keeps GX.out a1
      have a2 := gb_keeps GX.out a2
      have a3 := gb_keeps GX.out a3
      have a4 := gb_keeps GX.out a4
      have a5 := gb_keeps GX.out a5
      have K1 := gb_keeps GX.out k1'
      have K2 := gb_keeps GX.out k2'
      obtain ⟨u1, u2, e, z0⟩ := r1; subst e
      obtain ⟨u3, u4, e, z1⟩ := r2; subst e
      obtain ⟨u5, u6, e, z2⟩ := r3; subst e
      dsimp only [rv] at cn
      generalize Value.slice u1 _ u2 = x1 at *
      generalize Value.slice u3 _ u4 = x2' at *
      generalize Value.slice u5 _ u6 = x3 at *
      generalize a.rest[p].S = S at *
      generalize hi a.rest[p].R = R1 at *
      generalize lo a.rest[p].R = R2 at *
      have hki : (k : Int) - 1 = (k1 : Int) := by omega
      have hkw : IntKind.i64.wrap (k1 : Int) = (k1 : Int) := wrapN (by omega)
      have hkn : (k1 : Int) < (nh : Int) := by omega
      have hk0 : (0 : Int) ≤ (k1 : Int) := by omega
      have GD : Gb wr wr.drew := ⟨rfl, rfl, rfl, Nat.le_refl _, fun _ _ => rfl⟩
      clear z0 z1 z2 hDe hEe fd fq hl hkl hpl ea2 ea3 hA k1' k2' hk1
      by_cases hlt : D < E
      · have cl := fun W => cless_v D E hD hE true (decide_eq_true hlt) W
        have RX := RY.out hlt
        have RZ : Hid _ := RX
        clear hlt hD hE RX RY RN
        dsimp only [Wd] at cl cn
        generalize hi D = z1 at *
        generalize lo D = z2 at *
        generalize hi E = z3 at *
        generalize lo E = z4 at *
        go_wp2_with fail
        refine wp_region_held_drew (S := fun W => Gb wr W) (by kernel_rfl) (GD) (fun hHeld => ?_)
        refine wpAnyH_take (i := 0) (v := ?_) rfl (by kernel_rfl) (by kernel_rfl) (by kernel_rfl) (fun _ _ _ h => h) (Or.inl ⟨by rfl, ?_⟩) (by assumption) ?_
        rotate_left 1
        · (intro w hSw; (have s0 := gb_keeps hSw x0; have s2 := gb_keeps hSw x2; have h1 := gb_keeps hSw K1; have h2 := gb_keeps hSw K2; have q0 := gb_keeps hSw a0; have q1 := gb_keeps hSw a1; have q2 := gb_keeps hSw a2; have q3 := gb_keeps hSw a3; have q4 := gb_keeps hSw a4; have q5 := gb_keeps hSw a5); go_simp; try with_reducible rfl)
        try simp only [Act.put, List.getElem_toArray, List.getElem_cons_zero, List.setIfInBounds_toArray, List.set_cons_zero, List.set_cons_succ]
        refine wpAnyH_take (i := 1) (v := ?_) rfl (by kernel_rfl) (by kernel_rfl) (by kernel_rfl) (fun _ _ _ h => h) (Or.inl ⟨by rfl, ?_⟩) (by assumption) ?_
        rotate_left 1
        · (intro w hSw; (have s0 := gb_keeps hSw x0; have s2 := gb_keeps hSw x2; have h1 := gb_keeps hSw K1; have h2 := gb_keeps hSw K2; have q0 := gb_keeps hSw a0; have q1 := gb_keeps hSw a1; have q2 := gb_keeps hSw a2; have q3 := gb_keeps hSw a3; have q4 := gb_keeps hSw a4; have q5 := gb_keeps hSw a5); go_simp; try with_reducible rfl)
        try simp only [Act.put, List.getElem_toArray, List.getElem_cons_zero, List.getElem_cons_succ, List.setIfInBounds_toArray, List.set_cons_zero, List.set_cons_succ]
        refine wpAnyH_take (i := 2) (v := ?_) rfl (by kernel_rfl) (by kernel_rfl) (by kernel_rfl) (fun _ _ _ h => h) (Or.inl ⟨by rfl, ?_⟩) (by assumption) ?_
        rotate_left 1
        · (intro w hSw; (have s0 := gb_keeps hSw x0; have s2 := gb_keeps hSw x2; have h1 := gb_keeps hSw K1; have h2 := gb_keeps hSw K2; have q0 := gb_keeps hSw a0; have q1 := gb_keeps hSw a1; have q2 := gb_keeps hSw a2; have q3 := gb_keeps hSw a3; have q4 := gb_keeps hSw a4; have q5 := gb_keeps hSw a5); go_simp; try with_reducible rfl)
        try simp only [Act.put, List.getElem_toArray, List.getElem_cons_zero, List.getElem_cons_succ, List.setIfInBounds_toArray, List.set_cons_zero, List.set_cons_succ]
        refine wpAnyH_take (i := 3) (v := ?_) rfl (by kernel_rfl) (by kernel_rfl) (by kernel_rfl) (fun _ _ _ h => h) (Or.inl ⟨by rfl, ?_⟩) (by assumption) ?_
        rotate_left 1
        · (intro w hSw; (have s0 := gb_keeps hSw x0; have s2 := gb_keeps hSw x2; have h1 := gb_keeps hSw K1; have h2 := gb_keeps hSw K2; have q0 := gb_keeps hSw a0; have q1 := gb_keeps hSw a1; have q2 := gb_keeps hSw a2; have q3 := gb_keeps hSw a3; have q4 := gb_keeps hSw a4; have q5 := gb_keeps hSw a5); go_simp; try with_reducible rfl)
        try simp only [Act.put, List.getElem_toArray, List.getElem_cons_zero, List.getElem_cons_succ, List.setIfInBounds_toArray, List.set_cons_zero, List.set_cons_succ]
        refine wpAnyH_take (i := 4) (v := ?_) rfl (by kernel_rfl) (by kernel_rfl) (by kernel_rfl) (fun _ _ _ h => h) (Or.inl ⟨by rfl, ?_⟩) (by assumption) ?_
        rotate_left 1
        · (intro w hSw; (have s0 := gb_keeps hSw x0; have s2 := gb_keeps hSw x2; have h1 := gb_keeps hSw K1; have h2 := gb_keeps hSw K2; have q0 := gb_keeps hSw a0; have q1 := gb_keeps hSw a1; have q2 := gb_keeps hSw a2; have q3 := gb_keeps hSw a3; have q4 := gb_keeps hSw a4; have q5 := gb_keeps hSw a5); go_simp; try with_reducible rfl)
        try simp only [Act.put, List.getElem_toArray, List.getElem_cons_zero, List.getElem_cons_succ, List.setIfInBounds_toArray, List.set_cons_zero, List.set_cons_succ]
        refine wpAnyH_take (i := 5) (v := ?_) rfl (by kernel_rfl) (by kernel_rfl) (by kernel_rfl) (fun _ _ _ h => h) (Or.inl ⟨by rfl, ?_⟩) (by assumption) ?_
        rotate_left 1
        · (intro w hSw; (have s0 := gb_keeps hSw x0; have s2 := gb_keeps hSw x2; have h1 := gb_keeps hSw K1; have h2 := gb_keeps hSw K2; have q0 := gb_keeps hSw a0; have q1 := gb_keeps hSw a1; have q2 := gb_keeps hSw a2; have q3 := gb_keeps hSw a3; have q4 := gb_keeps hSw a4; have q5 := gb_keeps hSw a5); go_simp; try with_reducible rfl)
        try simp only [Act.put, List.getElem_toArray, List.getElem_cons_zero, List.getElem_cons_succ, List.setIfInBounds_toArray, List.set_cons_zero, List.set_cons_succ]
        refine wpAnyH_take (i := 6) (v := ?_) rfl (by kernel_rfl) (by kernel_rfl) (by kernel_rfl) (fun _ _ _ h => h) (Or.inl ⟨by rfl, ?_⟩) (by assumption) ?_
        rotate_left 1
        · (intro w hSw; (have s0 := gb_keeps hSw x0; have s2 := gb_keeps hSw x2; have h1 := gb_keeps hSw K1; have h2 := gb_keeps hSw K2; have q0 := gb_keeps hSw a0; have q1 := gb_keeps hSw a1; have q2 := gb_keeps hSw a2; have q3 := gb_keeps hSw a3; have q4 := gb_keeps hSw a4; have q5 := gb_keeps hSw a5); go_simp; try with_reducible rfl)
        try simp only [Act.put, List.getElem_toArray, List.getElem_cons_zero, List.getElem_cons_succ, List.setIfInBounds_toArray, List.set_cons_zero, List.set_cons_succ]
        refine wpAnyH_take (i := 7) (v := ?_) rfl (by kernel_rfl) (by kernel_rfl) (by kernel_rfl) (fun _ _ _ h => h) (Or.inl ⟨by rfl, ?_⟩) (by assumption) ?_
        rotate_left 1
        · (intro w hSw; (have s0 := gb_keeps hSw x0; have s2 := gb_keeps hSw x2; have h1 := gb_keeps hSw K1; have h2 := gb_keeps hSw K2; have q0 := gb_keeps hSw a0; have q1 := gb_keeps hSw a1; have q2 := gb_keeps hSw a2; have q3 := gb_keeps hSw a3; have q4 := gb_keeps hSw a4; have q5 := gb_keeps hSw a5); go_simp; try with_reducible rfl)
        try simp only [Act.put, List.getElem_toArray, List.getElem_cons_zero, List.getElem_cons_succ, List.setIfInBounds_toArray, List.set_cons_zero, List.set_cons_succ]
        refine wpAnyH_take (i := 8) (v := ?_) rfl (by kernel_rfl) (by kernel_rfl) (by kernel_rfl) (fun _ _ _ h => h) (Or.inl ⟨by rfl, ?_⟩) (by assumption) ?_
        rotate_left 1
        · (intro w hSw; (have s0 := gb_keeps hSw x0; have s2 := gb_keeps hSw x2; have h1 := gb_keeps hSw K1; have h2 := gb_keeps hSw K2; have q0 := gb_keeps hSw a0; have q1 := gb_keeps hSw a1; have q2 := gb_keeps hSw a2; have q3 := gb_keeps hSw a3; have q4 := gb_keeps hSw a4; have q5 := gb_keeps hSw a5); go_simp; try with_reducible rfl)
        try simp only [Act.put, List.getElem_toArray, List.getElem_cons_zero, List.getElem_cons_succ, List.setIfInBounds_toArray, List.set_cons_zero, List.set_cons_succ]
        refine wpAnyH_take (i := 9) (v := ?_) rfl (by kernel_rfl) (by kernel_rfl) (by kernel_rfl) (fun _ _ _ h => h) (Or.inl ⟨by rfl, ?_⟩) (by assumption) ?_
        rotate_left 1
        · (intro w hSw; (have s0 := gb_keeps hSw x0; have s2 := gb_keeps hSw x2; have h1 := gb_keeps hSw K1; have h2 := gb_keeps hSw K2; have q0 := gb_keeps hSw a0; have q1 := gb_keeps hSw a1; have q2 := gb_keeps hSw a2; have q3 := gb_keeps hSw a3; have q4 := gb_keeps hSw a4; have q5 := gb_keeps hSw a5); go_simp; try with_reducible rfl)
        try simp only [Act.put, List.getElem_toArray, List.getElem_cons_zero, List.getElem_cons_succ, List.setIfInBounds_toArray, List.set_cons_zero, List.set_cons_succ]
        refine wpAnyH_take (i := 10) (v := ?_) rfl (by kernel_rfl) (by kernel_rfl) (by kernel_rfl) (fun _ _ _ h => h) (Or.inl ⟨by rfl, ?_⟩) (by assumption) ?_
        rotate_left 1
        · (intro w hSw; (have s0 := gb_keeps hSw x0; have s2 := gb_keeps hSw x2; have h1 := gb_keeps hSw K1; have h2 := gb_keeps hSw K2; have q0 := gb_keeps hSw a0; have q1 := gb_keeps hSw a1; have q2 := gb_keeps hSw a2; have q3 := gb_keeps hSw a3; have q4 := gb_keeps hSw a4; have q5 := gb_keeps hSw a5); go_simp; try with_reducible rfl)
        try simp only [Act.put, List.getElem_toArray, List.getElem_cons_zero, List.getElem_cons_succ, List.setIfInBounds_toArray, List.set_cons_zero, List.set_cons_succ]
        refine wpAnyH_take (i := 11) (v := ?_) rfl (by kernel_rfl) (by kernel_rfl) (by kernel_rfl) (fun _ _ _ h => h) (Or.inl ⟨by rfl, ?_⟩) (by assumption) ?_
        rotate_left 1
        · (intro w hSw; (have s0 := gb_keeps hSw x0; have s2 := gb_keeps hSw x2; have h1 := gb_keeps hSw K1; have h2 := gb_keeps hSw K2; have q0 := gb_keeps hSw a0; have q1 := gb_keeps hSw a1; have q2 := gb_keeps hSw a2; have q3 := gb_keeps hSw a3; have q4 := gb_keeps hSw a4; have q5 := gb_keeps hSw a5); go_simp; try with_reducible rfl)
        try simp only [Act.put, List.getElem_toArray, List.getElem_cons_zero, List.getElem_cons_succ, List.setIfInBounds_toArray, List.set_cons_zero, List.set_cons_succ]
        refine wpAnyH_take (i := 12) (v := ?_) rfl (by kernel_rfl) (by kernel_rfl) (by kernel_rfl) (fun _ _ _ h => h) (Or.inl ⟨by rfl, ?_⟩) (by assumption) ?_
        rotate_left 1
        · (intro w hSw; (have s0 := gb_keeps hSw x0; have s2 := gb_keeps hSw x2; have h1 := gb_keeps hSw K1; have h2 := gb_keeps hSw K2; have q0 := gb_keeps hSw a0; have q1 := gb_keeps hSw a1; have q2 := gb_keeps hSw a2; have q3 := gb_keeps hSw a3; have q4 := gb_keeps hSw a4; have q5 := gb_keeps hSw a5); go_simp; try with_reducible rfl)
        try simp only [Act.put, List.getElem_toArray, List.getElem_cons_zero, List.getElem_cons_succ, List.setIfInBounds_toArray, List.set_cons_zero, List.set_cons_succ]
        refine wpAnyH_ready (rs := [13]) (by kernel_rfl) (by simp) ?_
        refine AllReadyH.cons rfl (fun K hK => ?_) AllReadyH.nil
        go_simp
        refine (cn _ (gb_trans GX.out hHeld)).mono ?_
        rintro e w4 ⟨rfl, g4⟩
        refine hK.out _ _ (gb_trans hHeld g4.gb) (fun hHeld => ?_)
        clear hK K
        try simp only [Act.put, List.getElem_toArray, List.getElem_cons_zero, List.getElem_cons_succ, List.setIfInBounds_toArray, List.set_cons_zero, List.set_cons_succ]
        refine wpAnyH_ready (rs := [14]) (by kernel_rfl) (by simp) ?_
        refine AllReadyH.cons rfl (fun K hK => ?_) AllReadyH.nil
        go_simp
        refine (cl _).mono ?_
        rintro e w5 ⟨rfl, g5⟩
        refine hK.out _ _ (gb_trans hHeld g5.gb) (fun hHeld => ?_)
        clear hK K
        try simp only [Act.put, List.getElem_toArray, List.getElem_cons_zero, List.getElem_cons_succ, List.setIfInBounds_toArray, List.set_cons_zero, List.set_cons_succ]
        refine wpAnyH_take (i := 15) (v := ?_) rfl (by kernel_rfl) (by kernel_rfl) (by kernel_rfl) (fun _ _ _ h => h) (Or.inl ⟨by rfl, ?_⟩) (by assumption) ?_
        rotate_left 1
        · (intro w hSw; (have s0 := gb_keeps hSw x0; have s2 := gb_keeps hSw x2; have h1 := gb_keeps hSw K1; have h2 := gb_keeps hSw K2; have q0 := gb_keeps hSw a0; have q1 := gb_keeps hSw a1; have q2 := gb_keeps hSw a2; have q3 := gb_keeps hSw a3; have q4 := gb_keeps hSw a4; have q5 := gb_keeps hSw a5); go_simp; try with_reducible rfl)
        try simp only [Act.put, List.getElem_toArray, List.getElem_cons_zero, List.getElem_cons_succ, List.setIfInBounds_toArray, List.set_cons_zero, List.set_cons_succ]
        refine wpAnyH_done (by kernel_rfl) ?_ _
        have GN : Hid (Gb W1 w5) := gb_trans X.out.1 hHeld
        clear hHeld GD cn cl a0 a1 a2 a3 a4 a5 K1 K2 x0 x2 X
        go_wp2
        go_roundw
        case rel => exact ⟨p + 1, by first | rfl | go_num | simp, hpn, GN.out, RZ.out⟩
        case measure => simp [intOf]; omega
      · have cl := fun W => cless_v D E hD hE false (decide_eq_false hlt) W
        have RX := RN.out hlt
        have RZ : Hid _ := RX
        clear hlt hD hE RX RY RN
        dsimp only [Wd] at cl cn
        generalize hi D = z1 at *
        generalize lo D = z2 at *
        generalize hi E = z3 at *
        generalize lo E = z4 at *
        go_wp2_with fail
        refine wp_region_held_drew (S := fun W => Gb wr W) (by kernel_rfl) (GD) (fun hHeld => ?_)
        refine wpAnyH_take (i := 0) (v := ?_) rfl (by kernel_rfl) (by kernel_rfl) (by kernel_rfl) (fun _ _ _ h => h) (Or.inl ⟨by rfl, ?_⟩) (by assumption) ?_
        rotate_left 1
        · (intro w hSw; (have s0 := gb_keeps hSw x0; have s2 := gb_keeps hSw x2; have h1 := gb_keeps hSw K1; have h2 := gb_keeps hSw K2; have q0 := gb_keeps hSw a0; have q1 := gb_keeps hSw a1; have q2 := gb_keeps hSw a2; have q3 := gb_keeps hSw a3; have q4 := gb_keeps hSw a4; have q5 := gb_keeps hSw a5); go_simp; try with_reducible rfl)
        try simp only [Act.put, List.getElem_toArray, List.getElem_cons_zero, List.setIfInBounds_toArray, List.set_cons_zero, List.set_cons_succ]
        refine wpAnyH_take (i := 1) (v := ?_) rfl (by kernel_rfl) (by kernel_rfl) (by kernel_rfl) (fun _ _ _ h => h) (Or.inl ⟨by rfl, ?_⟩) (by assumption) ?_
        rotate_left 1
        · (intro w hSw; (have s0 := gb_keeps hSw x0; have s2 := gb_keeps hSw x2; have h1 := gb_keeps hSw K1; have h2 := gb_keeps hSw K2; have q0 := gb_keeps hSw a0; have q1 := gb_keeps hSw a1; have q2 := gb_keeps hSw a2; have q3 := gb_keeps hSw a3; have q4 := gb_keeps hSw a4; have q5 := gb_keeps hSw a5); go_simp; try with_reducible rfl)
        try simp only [Act.put, List.getElem_toArray, List.getElem_cons_zero, List.getElem_cons_succ, List.setIfInBounds_toArray, List.set_cons_zero, List.set_cons_succ]
        refine wpAnyH_take (i := 2) (v := ?_) rfl (by kernel_rfl) (by kernel_rfl) (by kernel_rfl) (fun _ _ _ h => h) (Or.inl ⟨by rfl, ?_⟩) (by assumption) ?_
        rotate_left 1
        · (intro w hSw; (have s0 := gb_keeps hSw x0; have s2 := gb_keeps hSw x2; have h1 := gb_keeps hSw K1; have h2 := gb_keeps hSw K2; have q0 := gb_keeps hSw a0; have q1 := gb_keeps hSw a1; have q2 := gb_keeps hSw a2; have q3 := gb_keeps hSw a3; have q4 := gb_keeps hSw a4; have q5 := gb_keeps hSw a5); go_simp; try with_reducible rfl)
        try simp only [Act.put, List.getElem_toArray, List.getElem_cons_zero, List.getElem_cons_succ, List.setIfInBounds_toArray, List.set_cons_zero, List.set_cons_succ]
        refine wpAnyH_take (i := 3) (v := ?_) rfl (by kernel_rfl) (by kernel_rfl) (by kernel_rfl) (fun _ _ _ h => h) (Or.inl ⟨by rfl, ?_⟩) (by assumption) ?_
        rotate_left 1
        · (intro w hSw; (have s0 := gb_keeps hSw x0; have s2 := gb_keeps hSw x2; have h1 := gb_keeps hSw K1; have h2 := gb_keeps hSw K2; have q0 := gb_keeps hSw a0; have q1 := gb_keeps hSw a1; have q2 := gb_keeps hSw a2; have q3 := gb_keeps hSw a3; have q4 := gb_keeps hSw a4; have q5 := gb_keeps hSw a5); go_simp; try with_reducible rfl)
        try simp only [Act.put, List.getElem_toArray, List.getElem_cons_zero, List.getElem_cons_succ, List.setIfInBounds_toArray, List.set_cons_zero, List.set_cons_succ]
        refine wpAnyH_take (i := 4) (v := ?_) rfl (by kernel_rfl) (by kernel_rfl) (by kernel_rfl) (fun _ _ _ h => h) (Or.inl ⟨by rfl, ?_⟩) (by assumption) ?_
        rotate_left 1
        · (intro w hSw; (have s0 := gb_keeps hSw x0; have s2 := gb_keeps hSw x2; have h1 := gb_keeps hSw K1; have h2 := gb_keeps hSw K2; have q0 := gb_keeps hSw a0; have q1 := gb_keeps hSw a1; have q2 := gb_keeps hSw a2; have q3 := gb_keeps hSw a3; have q4 := gb_keeps hSw a4; have q5 := gb_keeps hSw a5); go_simp; try with_reducible rfl)
        try simp only [Act.put, List.getElem_toArray, List.getElem_cons_zero, List.getElem_cons_succ, List.setIfInBounds_toArray, List.set_cons_zero, List.set_cons_succ]
        refine wpAnyH_take (i := 5) (v := ?_) rfl (by kernel_rfl) (by kernel_rfl) (by kernel_rfl) (fun _ _ _ h => h) (Or.inl ⟨by rfl, ?_⟩) (by assumption) ?_
        rotate_left 1
        · (intro w hSw; (have s0 := gb_keeps hSw x0; have s2 := gb_keeps hSw x2; have h1 := gb_keeps hSw K1; have h2 := gb_keeps hSw K2; have q0 := gb_keeps hSw a0; have q1 := gb_keeps hSw a1; have q2 := gb_keeps hSw a2; have q3 := gb_keeps hSw a3; have q4 := gb_keeps hSw a4; have q5 := gb_keeps hSw a5); go_simp; try with_reducible rfl)
        try simp only [Act.put, List.getElem_toArray, List.getElem_cons_zero, List.getElem_cons_succ, List.setIfInBounds_toArray, List.set_cons_zero, List.set_cons_succ]
        refine wpAnyH_take (i := 6) (v := ?_) rfl (by kernel_rfl) (by kernel_rfl) (by kernel_rfl) (fun _ _ _ h => h) (Or.inl ⟨by rfl, ?_⟩) (by assumption) ?_
        rotate_left 1
        · (intro w hSw; (have s0 := gb_keeps hSw x0; have s2 := gb_keeps hSw x2; have h1 := gb_keeps hSw K1; have h2 := gb_keeps hSw K2; have q0 := gb_keeps hSw a0; have q1 := gb_keeps hSw a1; have q2 := gb_keeps hSw a2; have q3 := gb_keeps hSw a3; have q4 := gb_keeps hSw a4; have q5 := gb_keeps hSw a5); go_simp; try with_reducible rfl)
        try simp only [Act.put, List.getElem_toArray, List.getElem_cons_zero, List.getElem_cons_succ, List.setIfInBounds_toArray, List.set_cons_zero, List.set_cons_succ]
        refine wpAnyH_take (i := 7) (v := ?_) rfl (by kernel_rfl) (by kernel_rfl) (by kernel_rfl) (fun _ _ _ h => h) (Or.inl ⟨by rfl, ?_⟩) (by assumption) ?_
        rotate_left 1
        · (intro w hSw; (have s0 := gb_keeps hSw x0; have s2 := gb_keeps hSw x2; have h1 := gb_keeps hSw K1; have h2 := gb_keeps hSw K2; have q0 := gb_keeps hSw a0; have q1 := gb_keeps hSw a1; have q2 := gb_keeps hSw a2; have q3 := gb_keeps hSw a3; have q4 := gb_keeps hSw a4; have q5 := gb_keeps hSw a5); go_simp; try with_reducible rfl)
        try simp only [Act.put, List.getElem_toArray, List.getElem_cons_zero, List.getElem_cons_succ, List.setIfInBounds_toArray, List.set_cons_zero, List.set_cons_succ]
        refine wpAnyH_take (i := 8) (v := ?_) rfl (by kernel_rfl) (by kernel_rfl) (by kernel_rfl) (fun _ _ _ h => h) (Or.inl ⟨by rfl, ?_⟩) (by assumption) ?_
        rotate_left 1
        · (intro w hSw; (have s0 := gb_keeps hSw x0; have s2 := gb_keeps hSw x2; have h1 := gb_keeps hSw K1; have h2 := gb_keeps hSw K2; have q0 := gb_keeps hSw a0; have q1 := gb_keeps hSw a1; have q2 := gb_keeps hSw a2; have q3 := gb_keeps hSw a3; have q4 := gb_keeps hSw a4; have q5 := gb_keeps hSw a5); go_simp; try with_reducible rfl)
        try simp only [Act.put, List.getElem_toArray, List.getElem_cons_zero, List.getElem_cons_succ, List.setIfInBounds_toArray, List.set_cons_zero, List.set_cons_succ]
        refine wpAnyH_take (i := 9) (v := ?_) rfl (by kernel_rfl) (by kernel_rfl) (by kernel_rfl) (fun _ _ _ h => h) (Or.inl ⟨by rfl, ?_⟩) (by assumption) ?_
        rotate_left 1
        · (intro w hSw; (have s0 := gb_keeps hSw x0; have s2 := gb_keeps hSw x2; have h1 := gb_keeps hSw K1; have h2 := gb_keeps hSw K2; have q0 := gb_keeps hSw a0; have q1 := gb_keeps hSw a1; have q2 := gb_keeps hSw a2; have q3 := gb_keeps hSw a3; have q4 := gb_keeps hSw a4; have q5 := gb_keeps hSw a5); go_simp; try with_reducible rfl)
        try simp only [Act.put, List.getElem_toArray, List.getElem_cons_zero, List.getElem_cons_succ, List.setIfInBounds_toArray, List.set_cons_zero, List.set_cons_succ]
        refine wpAnyH_take (i := 10) (v := ?_) rfl (by kernel_rfl) (by kernel_rfl) (by kernel_rfl) (fun _ _ _ h => h) (Or.inl ⟨by rfl, ?_⟩) (by assumption) ?_
        rotate_left 1
        · (intro w hSw; (have s0 := gb_keeps hSw x0; have s2 := gb_keeps hSw x2; have h1 := gb_keeps hSw K1; have h2 := gb_keeps hSw K2; have q0 := gb_keeps hSw a0; have q1 := gb_keeps hSw a1; have q2 := gb_keeps hSw a2; have q3 := gb_keeps hSw a3; have q4 := gb_keeps hSw a4; have q5 := gb_keeps hSw a5); go_simp; try with_reducible rfl)
        try simp only [Act.put, List.getElem_toArray, List.getElem_cons_zero, List.getElem_cons_succ, List.setIfInBounds_toArray, List.set_cons_zero, List.set_cons_succ]
        refine wpAnyH_take (i := 11) (v := ?_) rfl (by kernel_rfl) (by kernel_rfl) (by kernel_rfl) (fun _ _ _ h => h) (Or.inl ⟨by rfl, ?_⟩) (by assumption) ?_
        rotate_left 1
        · (intro w hSw; (have s0 := gb_keeps hSw x0; have s2 := gb_keeps hSw x2; have h1 := gb_keeps hSw K1; have h2 := gb_keeps hSw K2; have q0 := gb_keeps hSw a0; have q1 := gb_keeps hSw a1; have q2 := gb_keeps hSw a2; have q3 := gb_keeps hSw a3; have q4 := gb_keeps hSw a4; have q5 := gb_keeps hSw a5); go_simp; try with_reducible rfl)
        try simp only [Act.put, List.getElem_toArray, List.getElem_cons_zero, List.getElem_cons_succ, List.setIfInBounds_toArray, List.set_cons_zero, List.set_cons_succ]
        refine wpAnyH_take (i := 12) (v := ?_) rfl (by kernel_rfl) (by kernel_rfl) (by kernel_rfl) (fun _ _ _ h => h) (Or.inl ⟨by rfl, ?_⟩) (by assumption) ?_
        rotate_left 1
        · (intro w hSw; (have s0 := gb_keeps hSw x0; have s2 := gb_keeps hSw x2; have h1 := gb_keeps hSw K1; have h2 := gb_keeps hSw K2; have q0 := gb_keeps hSw a0; have q1 := gb_keeps hSw a1; have q2 := gb_keeps hSw a2; have q3 := gb_keeps hSw a3; have q4 := gb_keeps hSw a4; have q5 := gb_keeps hSw a5); go_simp; try with_reducible rfl)
        try simp only [Act.put, List.getElem_toArray, List.getElem_cons_zero, List.getElem_cons_succ, List.setIfInBounds_toArray, List.set_cons_zero, List.set_cons_succ]
        refine wpAnyH_ready (rs := [13]) (by kernel_rfl) (by simp) ?_
        refine AllReadyH.cons rfl (fun K hK => ?_) AllReadyH.nil
        go_simp
        refine (cn _ (gb_trans GX.out hHeld)).mono ?_
        rintro e w4 ⟨rfl, g4⟩
        refine hK.out _ _ (gb_trans hHeld g4.gb) (fun hHeld => ?_)
        clear hK K
        try simp only [Act.put, List.getElem_toArray, List.getElem_cons_zero, List.getElem_cons_succ, List.setIfInBounds_toArray, List.set_cons_zero, List.set_cons_succ]
        refine wpAnyH_ready (rs := [14]) (by kernel_rfl) (by simp) ?_
        refine AllReadyH.cons rfl (fun K hK => ?_) AllReadyH.nil
        go_simp
        refine (cl _).mono ?_
        rintro e w5 ⟨rfl, g5⟩
        refine hK.out _ _ (gb_trans hHeld g5.gb) (fun hHeld => ?_)
        clear hK K
        try simp only [Act.put, List.getElem_toArray, List.getElem_cons_zero, List.getElem_cons_succ, List.setIfInBounds_toArray, List.set_cons_zero, List.set_cons_succ]
        refine wpAnyH_take (i := 15) (v := ?_) rfl (by kernel_rfl) (by kernel_rfl) (by kernel_rfl) (fun _ _ _ h => h) (Or.inl ⟨by rfl, ?_⟩) (by assumption) ?_
        rotate_left 1
        · (intro w hSw; (have s0 := gb_keeps hSw x0; have s2 := gb_keeps hSw x2; have h1 := gb_keeps hSw K1; have h2 := gb_keeps hSw K2; have q0 := gb_keeps hSw a0; have q1 := gb_keeps hSw a1; have q2 := gb_keeps hSw a2; have q3 := gb_keeps hSw a3; have q4 := gb_keeps hSw a4; have q5 := gb_keeps hSw a5); go_simp; try with_reducible rfl)
        try simp only [Act.put, List.getElem_toArray, List.getElem_cons_zero, List.getElem_cons_succ, List.setIfInBounds_toArray, List.set_cons_zero, List.set_cons_succ]
        refine wpAnyH_done (by kernel_rfl) ?_ _
        have GN : Hid (Gb w w5) := gb_trans GX.out hHeld
        clear hHeld GD cn cl a0 a1 a2 a3 a4 a5 K1 K2 x0 x2 X
        go_wp2
        go_ret
        exact ⟨by rw [RZ.out]; rfl, GN.out⟩
    · have hpi : ¬ (p : Int) < (nr : Int) := by omega
      have R : Hid (certB q k a = true) := by
        have := X.out.2
        rw [List.take_of_length_le (by have := NR.out; omega)] at this
        unfold Hid; rw [CB.out]; exact this
      have GN : Hid (Gb w wr) := gb_trans G0.out X.out.1
      clear X
      go_wp2
      go_ret
      exact ⟨by rw [R.out]; rfl, GN.out⟩
end Go.Proofs.YtdmdjmliggjbjaaGreat
