/- cert.liesWhereTold and cert.seenOf. -/
import Derived.Test.YtdmdjmliggjbjaaGreatCt29
import Derived.Test.YtdmdjmliggjbjaaGreatCt15
import Derived.Test.YtdmdjmliggjbjaaGreatCtInB
import Derived.Test.YtdmdjmliggjbjaaGreatCt7
import Derived.Deep.RegionHeld3
namespace Go.Proofs.YtdmdjmliggjbjaaGreat
open Go.RowKit Go.Sort Go.Maps

/-- The rows that are seen. -/
def seenR (g : Int → Int) (rs : List Rw) : List Rw := rs.filter fun r => g r.1 == 1
theorem gzero3 (w : World) : (zeroValue 3).run Tryz.prog w = .ok (.int .i64 0) w := by kernel_rfl
/-- Each row lies where it is told to. -/
def liesQ (g : Int → Int) (l : List Reg) (rs : List Rw) : Prop := ∀ row ∈ rs, ∀ i (hi' : i < l.length), g row.1 = 2 + (i : Int) → insV l[i] row.2 = true
def LieOut (g : Int → Int) (l : List Reg) (rs : List Rw) (w : World) (e : Ending) (w' : World) : Prop := (∃ r : Bool, e = .returned (.bool r) ∧ (r = true ↔ liesQ g l rs)) ∧ Gb w w'
def liesTo (g : Int → Int) (l : List Reg) (rs : List Rw) (q : Nat) : Prop := liesQ g l (rs.take q)
theorem liesTo_next {g : Int → Int} {l : List Reg} {rs : List Rw} {q : Nat} (h : liesTo g l rs q) (hq : q < rs.length) (hn : ∀ i (hi' : i < l.length), g rs[q]!.1 = 2 + (i : Int) → insV l[i] rs[q]!.2 = true) : liesTo g l rs (q + 1) := by
  intro row hr
  rw [List.take_succ_eq_append_getElem hq] at hr
  rcases List.mem_append.1 hr with hr | hr
  · exact h row hr
  · simp only [List.mem_singleton] at hr
    subst hr
    rw [← getElem!_pos rs q hq]
    exact hn
set_option maxRecDepth 100000 in
set_option maxHeartbeats 2000000 in
theorem lies_c {w : World} {v vr : Value} {rs : List Rw} {l : List Reg} {M : Nat} {ks : List Int} {g : Int → Int} (hv : RdW w v rs) (hr : RdL w vr l) (hM : MapA Tryz.prog 3 w M ks (fun x => .int .i64 (g x))) (hk : ∀ i, i < rs.length → rs[i]!.1 ∈ ks ∧ KWf rs[i]!.1) (hn : rs.length ≤ 100000) (hl : l.length ≤ 100000) (hI : ∀ r ∈ l, r.I.length ≤ 4611686018427387904)
    (hg : ∀ i, i < rs.length → g rs[i]!.1 = 1 ∨ ∃ t, t < l.length ∧ g rs[i]!.1 = 2 + (t : Int)) :
    Calls Tryz.prog 39 #[v, .map (some M), vr] w fun e w' => LieOut g l rs w e w' := by
  have V : Hid (RdW w v rs) := hv
  have R : Hid (RdL w vr l) := hr
  have HM : Hid (MapA Tryz.prog 3 w M ks (fun x => .int .i64 (g x))) := hM
  have HK : Hid (∀ i, i < rs.length → rs[i]!.1 ∈ ks ∧ KWf rs[i]!.1) := hk
  have HI : Hid (∀ r ∈ l, r.I.length ≤ 4611686018427387904) := hI
  have HG : Hid (∀ i, i < rs.length → g rs[i]!.1 = 1 ∨ ∃ t, t < l.length ∧ g rs[i]!.1 = 2 + (t : Int)) := hg
  obtain ⟨av, cv, rfl, aV⟩ := hv
  obtain ⟨ar, cr, rfl, aR⟩ := hr
  have AV : Hid (∀ i, i < rs.length → ∃ b o u, av = some ⟨b, o, none⟩ ∧ w.cell? ⟨b, o + i * 2, none⟩ = some (.int .i64 rs[i]!.1) ∧ w.cell? ⟨b, o + i * 2 + 1, none⟩ = some u ∧ RdI w u rs[i]!.2) := aV
  obtain ⟨n, hN⟩ : ∃ n, n = rs.length := ⟨_, rfl⟩
  obtain ⟨m, hMm⟩ : ∃ m, m = l.length := ⟨_, rfl⟩
  have NN : Hid (n = rs.length ∧ m = l.length) := ⟨hN, hMm⟩
  rw [← hN] at V hn ⊢
  rw [← hMm] at R hl ⊢
  clear aV aR hN hMm hM hk hI hg
  go_enter Tryz.func39, Tryz.ntmps39
  go_wp2
  go_loopw [14] (fun iv W => ∃ q : Nat, iv = .int .i64 (q : Int) ∧ q ≤ n ∧ Hid (liesTo g l rs q ∧ Gb w W)) (fun iv _ => n - (intOf iv).toNat)
  case atStart => exact ⟨0, rfl, Nat.zero_le _, by unfold liesTo; rw [List.take_zero]; exact fun _ h => absurd h (by simp), Below.refl _ _⟩
  case round =>
    obtain ⟨q, rfl, hq, X⟩ := hrel
    by_cases hqn : q < n
    · have hqi : (q : Int) < (n : Int) := by omega
      have hm : q < rs.length := by have := NN.out; omega
      have HQ : Hid (q < rs.length) := hm
      obtain ⟨b, o, u, rfl, c1, c2, c3⟩ := AV.out q hm
      have c1 := gb_keeps X.out.2 c1
      have c2 := gb_keeps X.out.2 c2
      obtain ⟨hxk, hxw⟩ := HK.out q hm
      obtain ⟨pu, cu, rfl, zu⟩ := c3
      have C3 : Hid (RdI w (.slice pu rs[q]!.2.length cu) rs[q]!.2) := ⟨pu, cu, rfl, zu⟩
      obtain ⟨W1, hW1⟩ : ∃ W1, W1 = wr.alloc (.cells #[.int .i64 rs[q]!.1, .slice pu rs[q]!.2.length cu] 46) := ⟨_, rfl⟩
      have G1 : Hid (Gb w W1) := by unfold Hid; rw [hW1]; exact gb_alloc X.out.2 _
      have lk := (HM.out.same ((G1.out.block M HM.out.lt))).look Tryz.underlying3 Tryz.underlying69 (gzero3 W1) hxw
      rw [if_pos hxk] at lk
      have HX : Hid (∀ y, y = g rs[q]!.1 → y < 2 → liesTo g l rs (q + 1)) := fun y hy h2 => liesTo_next X.out.1 HQ.out (fun i hi' e => by omega)
      rcases HG.out q hm with hg1 | ⟨t, htl, hgt⟩
      · have XN := HX.out _ rfl (by omega)
        have XX : Hid (liesTo g l rs (q + 1) ∧ Gb w W1) := ⟨XN, G1.out⟩
        rw [hg1] at lk
        clear X HX XN hg1 hxk hxw C3 zu hm
        generalize rs[q]!.1 = x at *
        generalize rs[q]!.2.length = nx at *
        subst hW1
        go_wp2
        go_roundw
        case rel => exact ⟨q + 1, by first | rfl | go_num, hqn, XX.out⟩
        case measure => simp [intOf]; omega
      · have hz2 : ¬ g rs[q]!.1 < 2 := by omega
        have hz3 : g rs[q]!.1 - 2 = (t : Int) := by omega
        have htb : t ≤ 100000 := by have := NN.out; omega
        have hzw : IntKind.i64.wrap (t : Int) = (t : Int) := by
          unfold IntKind.wrap IntKind.signed IntKind.bits
          simp
          omega
        have hti : (t : Int) < (m : Int) := by have := NN.out; omega
        have ht0 : (0 : Int) ≤ (t : Int) := by omega
        have YES : Hid (insV l[t] rs[q]!.2 = true → liesTo g l rs (q + 1)) := fun h => liesTo_next X.out.1 HQ.out (fun i hi' e => by
          have e1 : i = t := by omega
          subst e1
          exact h)
        have NO : Hid (insV l[t] rs[q]!.2 = false → ¬ liesQ g l rs) := fun h h' => by
          have := h' rs[q]! (by rw [getElem!_pos rs q HQ.out]; exact List.getElem_mem _) t htl hgt
          rw [h] at this; cases this
        have CE : Hid (insV l[t] rs[q]!.2 = true → ckB l[t] rs[q]!.2 = 0) := fun h => by
          unfold insV at h
          simp only [Bool.and_eq_true, decide_eq_true_eq] at h
          exact h.1
        obtain ⟨_, _, er, hR⟩ := R.out
        obtain ⟨b2, o2, x1, x2, x3, e0, a0, a1, a2, a3, a4, a5, r1, r2, r3⟩ := hR t htl
        injection er with er1 er2 er3
        subst er1; subst e0
        have ci := fun W (hW : Gb W1 W) => inside_c (r := l[t]) (a := rs[q]!.2) ⟨x1, x2, x3, rfl, r1.gb (gb_trans G1.out hW), r2.gb (gb_trans G1.out hW), r3.gb (gb_trans G1.out hW)⟩ (C3.out.gb (gb_trans G1.out hW)) (HI.out _ (List.getElem_mem htl))
        have a0 := gb_keeps G1.out a0
        have a1 := gb_keeps G1.out a1
        have a2 := gb_keeps G1.out a2
        have a3 := gb_keeps G1.out a3
        have a4 := gb_keeps G1.out a4
        have a5 := gb_keeps G1.out a5
        have cV : W1.cell? ⟨wr.heap.size, 1, none⟩ = some (.slice pu rs[q]!.2.length cu) := by rw [hW1]; simp [go_sem]
        have GD : Gb W1 W1.drew := ⟨rfl, rfl, rfl, Nat.le_refl _, fun _ _ => rfl⟩
        have GX : Hid (Gb w wr) := X.out.2
        obtain ⟨u1, u2, e, z0⟩ := r1; subst e
        obtain ⟨u3, u4, e, z1⟩ := r2; subst e
        obtain ⟨u5, u6, e, z2⟩ := r3; subst e
        dsimp only [rv] at ci
        generalize ckB l[t] rs[q]!.2 = ke at *
        obtain ⟨pb, hpb⟩ : ∃ pb, pb = insV l[t] rs[q]!.2 := ⟨_, rfl⟩
        rw [← hpb] at ci YES NO CE
        clear hpb
        generalize l[t].S = S at *
        generalize hi l[t].R = R1 at *
        generalize lo l[t].R = R2 at *
        generalize l[t].L.length = n1 at *
        generalize l[t].H.length = n2 at *
        generalize l[t].I.length = n3 at *
        generalize g rs[q]!.1 = z at *
        generalize rs[q]!.1 = x at *
        generalize rs[q]!.2.length = nx at *
        clear X HX hxk hxw C3 zu hm z0 z1 z2 htl hgt hR er2 er3
        clear htb
        subst hW1
        go_wp2_with fail
        generalize wr.alloc (.cells #[.int .i64 x, .slice pu nx cu] 46) = W1 at *
        cases pb with
        | true =>
          have e0 := CE.out rfl
          subst e0
          refine wp_region_held_drew (S := fun W2 => Gb W1 W2) (by kernel_rfl) (GD) (fun hHeld => ?_)
          refine wpAnyH_take (i := 0) (v := ?_) rfl (by kernel_rfl) (by kernel_rfl) (by kernel_rfl) (fun _ _ _ h => h) (Or.inl ⟨by rfl, ?_⟩) (by assumption) ?_
          rotate_left 1
          · (intro w hSw; (have s0 := gb_keeps hSw a0; have s1 := gb_keeps hSw a1; have s2 := gb_keeps hSw a2; have s3 := gb_keeps hSw a3; have s4 := gb_keeps hSw a4; have s5 := gb_keeps hSw a5; have s6 := gb_keeps hSw cV); go_simp; try with_reducible rfl)
          try simp only [Act.put, List.getElem_toArray, List.getElem_cons_zero, List.setIfInBounds_toArray, List.set_cons_zero, List.set_cons_succ]
          refine wpAnyH_take (i := 1) (v := ?_) rfl (by kernel_rfl) (by kernel_rfl) (by kernel_rfl) (fun _ _ _ h => h) (Or.inl ⟨by rfl, ?_⟩) (by assumption) ?_
          rotate_left 1
          · (intro w hSw; (have s0 := gb_keeps hSw a0; have s1 := gb_keeps hSw a1; have s2 := gb_keeps hSw a2; have s3 := gb_keeps hSw a3; have s4 := gb_keeps hSw a4; have s5 := gb_keeps hSw a5; have s6 := gb_keeps hSw cV); go_simp; try with_reducible rfl)
          try simp only [Act.put, List.getElem_toArray, List.getElem_cons_zero, List.getElem_cons_succ, List.setIfInBounds_toArray, List.set_cons_zero, List.set_cons_succ]
          refine wpAnyH_take (i := 2) (v := ?_) rfl (by kernel_rfl) (by kernel_rfl) (by kernel_rfl) (fun _ _ _ h => h) (Or.inl ⟨by rfl, ?_⟩) (by assumption) ?_
          rotate_left 1
          · (intro w hSw; (have s0 := gb_keeps hSw a0; have s1 := gb_keeps hSw a1; have s2 := gb_keeps hSw a2; have s3 := gb_keeps hSw a3; have s4 := gb_keeps hSw a4; have s5 := gb_keeps hSw a5; have s6 := gb_keeps hSw cV); go_simp; try with_reducible rfl)
          try simp only [Act.put, List.getElem_toArray, List.getElem_cons_zero, List.getElem_cons_succ, List.setIfInBounds_toArray, List.set_cons_zero, List.set_cons_succ]
          refine wpAnyH_take (i := 3) (v := ?_) rfl (by kernel_rfl) (by kernel_rfl) (by kernel_rfl) (fun _ _ _ h => h) (Or.inl ⟨by rfl, ?_⟩) (by assumption) ?_
          rotate_left 1
          · (intro w hSw; (have s0 := gb_keeps hSw a0; have s1 := gb_keeps hSw a1; have s2 := gb_keeps hSw a2; have s3 := gb_keeps hSw a3; have s4 := gb_keeps hSw a4; have s5 := gb_keeps hSw a5; have s6 := gb_keeps hSw cV); go_simp; try with_reducible rfl)
          try simp only [Act.put, List.getElem_toArray, List.getElem_cons_zero, List.getElem_cons_succ, List.setIfInBounds_toArray, List.set_cons_zero, List.set_cons_succ]
          refine wpAnyH_take (i := 4) (v := ?_) rfl (by kernel_rfl) (by kernel_rfl) (by kernel_rfl) (fun _ _ _ h => h) (Or.inl ⟨by rfl, ?_⟩) (by assumption) ?_
          rotate_left 1
          · (intro w hSw; (have s0 := gb_keeps hSw a0; have s1 := gb_keeps hSw a1; have s2 := gb_keeps hSw a2; have s3 := gb_keeps hSw a3; have s4 := gb_keeps hSw a4; have s5 := gb_keeps hSw a5; have s6 := gb_keeps hSw cV); go_simp; try with_reducible rfl)
          try simp only [Act.put, List.getElem_toArray, List.getElem_cons_zero, List.getElem_cons_succ, List.setIfInBounds_toArray, List.set_cons_zero, List.set_cons_succ]
          refine wpAnyH_take (i := 5) (v := ?_) rfl (by kernel_rfl) (by kernel_rfl) (by kernel_rfl) (fun _ _ _ h => h) (Or.inl ⟨by rfl, ?_⟩) (by assumption) ?_
          rotate_left 1
          · (intro w hSw; (have s0 := gb_keeps hSw a0; have s1 := gb_keeps hSw a1; have s2 := gb_keeps hSw a2; have s3 := gb_keeps hSw a3; have s4 := gb_keeps hSw a4; have s5 := gb_keeps hSw a5; have s6 := gb_keeps hSw cV); go_simp; try with_reducible rfl)
          try simp only [Act.put, List.getElem_toArray, List.getElem_cons_zero, List.getElem_cons_succ, List.setIfInBounds_toArray, List.set_cons_zero, List.set_cons_succ]
          refine wpAnyH_take (i := 6) (v := ?_) rfl (by kernel_rfl) (by kernel_rfl) (by kernel_rfl) (fun _ _ _ h => h) (Or.inl ⟨by rfl, ?_⟩) (by assumption) ?_
          rotate_left 1
          · (intro w hSw; (have s0 := gb_keeps hSw a0; have s1 := gb_keeps hSw a1; have s2 := gb_keeps hSw a2; have s3 := gb_keeps hSw a3; have s4 := gb_keeps hSw a4; have s5 := gb_keeps hSw a5; have s6 := gb_keeps hSw cV); go_simp; try with_reducible rfl)
          try simp only [Act.put, List.getElem_toArray, List.getElem_cons_zero, List.getElem_cons_succ, List.setIfInBounds_toArray, List.set_cons_zero, List.set_cons_succ]
          refine wpAnyH_ready (rs := [7]) (by kernel_rfl) (by simp) ?_
          refine AllReadyH.cons rfl (fun K hK => ?_) AllReadyH.nil
          go_simp
          refine (ci _ hHeld).mono ?_
          rintro e wa ⟨rfl, ga⟩
          refine hK.out _ _ (gb_trans hHeld ga.gb) (fun hHeld => ?_)
          clear hK K
          try simp only [Act.put, List.getElem_toArray, List.getElem_cons_zero, List.getElem_cons_succ, List.setIfInBounds_toArray, List.set_cons_zero, List.set_cons_succ]
          refine wpAnyH_take (i := 8) (v := ?_) rfl (by kernel_rfl) (by kernel_rfl) (by kernel_rfl) (fun _ _ _ h => h) (Or.inl ⟨by rfl, ?_⟩) (by assumption) ?_
          rotate_left 1
          · (intro w hSw; (have s0 := gb_keeps hSw a0; have s1 := gb_keeps hSw a1; have s2 := gb_keeps hSw a2; have s3 := gb_keeps hSw a3; have s4 := gb_keeps hSw a4; have s5 := gb_keeps hSw a5; have s6 := gb_keeps hSw cV); go_simp; try with_reducible rfl)
          try simp only [Act.put, List.getElem_toArray, List.getElem_cons_zero, List.getElem_cons_succ, List.setIfInBounds_toArray, List.set_cons_zero, List.set_cons_succ]
          refine wpAnyH_take (i := 9) (v := ?_) rfl (by kernel_rfl) (by kernel_rfl) (by kernel_rfl) (fun _ _ _ h => h) (Or.inl ⟨by rfl, ?_⟩) (by assumption) ?_
          rotate_left 1
          · (intro w hSw; (have s0 := gb_keeps hSw a0; have s1 := gb_keeps hSw a1; have s2 := gb_keeps hSw a2; have s3 := gb_keeps hSw a3; have s4 := gb_keeps hSw a4; have s5 := gb_keeps hSw a5; have s6 := gb_keeps hSw cV); go_simp; try with_reducible rfl)
          try simp only [Act.put, List.getElem_toArray, List.getElem_cons_zero, List.getElem_cons_succ, List.setIfInBounds_toArray, List.set_cons_zero, List.set_cons_succ]
          refine wpAnyH_take (i := 10) (v := ?_) rfl (by kernel_rfl) (by kernel_rfl) (by kernel_rfl) (fun _ _ _ h => h) (Or.inl ⟨by rfl, ?_⟩) (by assumption) ?_
          rotate_left 1
          · (intro w hSw; (have s0 := gb_keeps hSw a0; have s1 := gb_keeps hSw a1; have s2 := gb_keeps hSw a2; have s3 := gb_keeps hSw a3; have s4 := gb_keeps hSw a4; have s5 := gb_keeps hSw a5; have s6 := gb_keeps hSw cV); go_simp; try with_reducible rfl)
          try simp only [Act.put, List.getElem_toArray, List.getElem_cons_zero, List.getElem_cons_succ, List.setIfInBounds_toArray, List.set_cons_zero, List.set_cons_succ]
          refine wpAnyH_take (i := 11) (v := ?_) rfl (by kernel_rfl) (by kernel_rfl) (by kernel_rfl) (fun _ _ _ h => h) (Or.inl ⟨by rfl, ?_⟩) (by assumption) ?_
          rotate_left 1
          · (intro w hSw; (have s0 := gb_keeps hSw a0; have s1 := gb_keeps hSw a1; have s2 := gb_keeps hSw a2; have s3 := gb_keeps hSw a3; have s4 := gb_keeps hSw a4; have s5 := gb_keeps hSw a5; have s6 := gb_keeps hSw cV); go_simp; try with_reducible rfl)
          try simp only [Act.put, List.getElem_toArray, List.getElem_cons_zero, List.getElem_cons_succ, List.setIfInBounds_toArray, List.set_cons_zero, List.set_cons_succ]
          refine wpAnyH_take (i := 12) (v := ?_) rfl (by kernel_rfl) (by kernel_rfl) (by kernel_rfl) (fun _ _ _ h => h) (Or.inl ⟨by rfl, ?_⟩) (by assumption) ?_
          rotate_left 1
          · (intro w hSw; (have s0 := gb_keeps hSw a0; have s1 := gb_keeps hSw a1; have s2 := gb_keeps hSw a2; have s3 := gb_keeps hSw a3; have s4 := gb_keeps hSw a4; have s5 := gb_keeps hSw a5; have s6 := gb_keeps hSw cV); go_simp; try with_reducible rfl)
          try simp only [Act.put, List.getElem_toArray, List.getElem_cons_zero, List.getElem_cons_succ, List.setIfInBounds_toArray, List.set_cons_zero, List.set_cons_succ]
          refine wpAnyH_done (by kernel_rfl) ?_ _
          have XX : Hid (liesTo g l rs (q + 1) ∧ Gb w wa) := ⟨YES.out rfl, gb_trans G1.out hHeld⟩
          clear ci a0 a1 a2 a3 a4 a5 cV GD hHeld YES NO CE
          go_wp2
          go_roundw
          case rel => exact ⟨q + 1, by first | rfl | go_num, hqn, XX.out⟩
          case measure => simp [intOf]; omega
        | false =>
          refine wp_region_held_drew (S := fun W2 => Gb W1 W2) (by kernel_rfl) (GD) (fun hHeld => ?_)
          refine wpAnyH_take (i := 0) (v := ?_) rfl (by kernel_rfl) (by kernel_rfl) (by kernel_rfl) (fun _ _ _ h => h) (Or.inl ⟨by rfl, ?_⟩) (by assumption) ?_
          rotate_left 1
          · (intro w hSw; (have s0 := gb_keeps hSw a0; have s1 := gb_keeps hSw a1; have s2 := gb_keeps hSw a2; have s3 := gb_keeps hSw a3; have s4 := gb_keeps hSw a4; have s5 := gb_keeps hSw a5; have s6 := gb_keeps hSw cV); go_simp; try with_reducible rfl)
          try simp only [Act.put, List.getElem_toArray, List.getElem_cons_zero, List.setIfInBounds_toArray, List.set_cons_zero, List.set_cons_succ]
          refine wpAnyH_take (i := 1) (v := ?_) rfl (by kernel_rfl) (by kernel_rfl) (by kernel_rfl) (fun _ _ _ h => h) (Or.inl ⟨by rfl, ?_⟩) (by assumption) ?_
          rotate_left 1
          · (intro w hSw; (have s0 := gb_keeps hSw a0; have s1 := gb_keeps hSw a1; have s2 := gb_keeps hSw a2; have s3 := gb_keeps hSw a3; have s4 := gb_keeps hSw a4; have s5 := gb_keeps hSw a5; have s6 := gb_keeps hSw cV); go_simp; try with_reducible rfl)
          try simp only [Act.put, List.getElem_toArray, List.getElem_cons_zero, List.getElem_cons_succ, List.setIfInBounds_toArray, List.set_cons_zero, List.set_cons_succ]
          refine wpAnyH_take (i := 2) (v := ?_) rfl (by kernel_rfl) (by kernel_rfl) (by kernel_rfl) (fun _ _ _ h => h) (Or.inl ⟨by rfl, ?_⟩) (by assumption) ?_
          rotate_left 1
          · (intro w hSw; (have s0 := gb_keeps hSw a0; have s1 := gb_keeps hSw a1; have s2 := gb_keeps hSw a2; have s3 := gb_keeps hSw a3; have s4 := gb_keeps hSw a4; have s5 := gb_keeps hSw a5; have s6 := gb_keeps hSw cV); go_simp; try with_reducible rfl)
          try simp only [Act.put, List.getElem_toArray, List.getElem_cons_zero, List.getElem_cons_succ, List.setIfInBounds_toArray, List.set_cons_zero, List.set_cons_succ]
          refine wpAnyH_take (i := 3) (v := ?_) rfl (by kernel_rfl) (by kernel_rfl) (by kernel_rfl) (fun _ _ _ h => h) (Or.inl ⟨by rfl, ?_⟩) (by assumption) ?_
          rotate_left 1
          · (intro w hSw; (have s0 := gb_keeps hSw a0; have s1 := gb_keeps hSw a1; have s2 := gb_keeps hSw a2; have s3 := gb_keeps hSw a3; have s4 := gb_keeps hSw a4; have s5 := gb_keeps hSw a5; have s6 := gb_keeps hSw cV); go_simp; try with_reducible rfl)
          try simp only [Act.put, List.getElem_toArray, List.getElem_cons_zero, List.getElem_cons_succ, List.setIfInBounds_toArray, List.set_cons_zero, List.set_cons_succ]
          refine wpAnyH_take (i := 4) (v := ?_) rfl (by kernel_rfl) (by kernel_rfl) (by kernel_rfl) (fun _ _ _ h => h) (Or.inl ⟨by rfl, ?_⟩) (by assumption) ?_
          rotate_left 1
          · (intro w hSw; (have s0 := gb_keeps hSw a0; have s1 := gb_keeps hSw a1; have s2 := gb_keeps hSw a2; have s3 := gb_keeps hSw a3; have s4 := gb_keeps hSw a4; have s5 := gb_keeps hSw a5; have s6 := gb_keeps hSw cV); go_simp; try with_reducible rfl)
          try simp only [Act.put, List.getElem_toArray, List.getElem_cons_zero, List.getElem_cons_succ, List.setIfInBounds_toArray, List.set_cons_zero, List.set_cons_succ]
          refine wpAnyH_take (i := 5) (v := ?_) rfl (by kernel_rfl) (by kernel_rfl) (by kernel_rfl) (fun _ _ _ h => h) (Or.inl ⟨by rfl, ?_⟩) (by assumption) ?_
          rotate_left 1
          · (intro w hSw; (have s0 := gb_keeps hSw a0; have s1 := gb_keeps hSw a1; have s2 := gb_keeps hSw a2; have s3 := gb_keeps hSw a3; have s4 := gb_keeps hSw a4; have s5 := gb_keeps hSw a5; have s6 := gb_keeps hSw cV); go_simp; try with_reducible rfl)
          try simp only [Act.put, List.getElem_toArray, List.getElem_cons_zero, List.getElem_cons_succ, List.setIfInBounds_toArray, List.set_cons_zero, List.set_cons_succ]
          refine wpAnyH_take (i := 6) (v := ?_) rfl (by kernel_rfl) (by kernel_rfl) (by kernel_rfl) (fun _ _ _ h => h) (Or.inl ⟨by rfl, ?_⟩) (by assumption) ?_
          rotate_left 1
          · (intro w hSw; (have s0 := gb_keeps hSw a0; have s1 := gb_keeps hSw a1; have s2 := gb_keeps hSw a2; have s3 := gb_keeps hSw a3; have s4 := gb_keeps hSw a4; have s5 := gb_keeps hSw a5; have s6 := gb_keeps hSw cV); go_simp; try with_reducible rfl)
          try simp only [Act.put, List.getElem_toArray, List.getElem_cons_zero, List.getElem_cons_succ, List.setIfInBounds_toArray, List.set_cons_zero, List.set_cons_succ]
          refine wpAnyH_ready (rs := [7]) (by kernel_rfl) (by simp) ?_
          refine AllReadyH.cons rfl (fun K hK => ?_) AllReadyH.nil
          go_simp
          refine (ci _ hHeld).mono ?_
          rintro e wa ⟨rfl, ga⟩
          refine hK.out _ _ (gb_trans hHeld ga.gb) (fun hHeld => ?_)
          clear hK K
          try simp only [Act.put, List.getElem_toArray, List.getElem_cons_zero, List.getElem_cons_succ, List.setIfInBounds_toArray, List.set_cons_zero, List.set_cons_succ]
          refine wpAnyH_take (i := 8) (v := ?_) rfl (by kernel_rfl) (by kernel_rfl) (by kernel_rfl) (fun _ _ _ h => h) (Or.inl ⟨by rfl, ?_⟩) (by assumption) ?_
          rotate_left 1
          · (intro w hSw; (have s0 := gb_keeps hSw a0; have s1 := gb_keeps hSw a1; have s2 := gb_keeps hSw a2; have s3 := gb_keeps hSw a3; have s4 := gb_keeps hSw a4; have s5 := gb_keeps hSw a5; have s6 := gb_keeps hSw cV); go_simp; try with_reducible rfl)
          try simp only [Act.put, List.getElem_toArray, List.getElem_cons_zero, List.getElem_cons_succ, List.setIfInBounds_toArray, List.set_cons_zero, List.set_cons_succ]
          refine wpAnyH_take (i := 9) (v := ?_) rfl (by kernel_rfl) (by kernel_rfl) (by kernel_rfl) (fun _ _ _ h => h) (Or.inl ⟨by rfl, ?_⟩) (by assumption) ?_
          rotate_left 1
          · (intro w hSw; (have s0 := gb_keeps hSw a0; have s1 := gb_keeps hSw a1; have s2 := gb_keeps hSw a2; have s3 := gb_keeps hSw a3; have s4 := gb_keeps hSw a4; have s5 := gb_keeps hSw a5; have s6 := gb_keeps hSw cV); go_simp; try with_reducible rfl)
          try simp only [Act.put, List.getElem_toArray, List.getElem_cons_zero, List.getElem_cons_succ, List.setIfInBounds_toArray, List.set_cons_zero, List.set_cons_succ]
          refine wpAnyH_take (i := 10) (v := ?_) rfl (by kernel_rfl) (by kernel_rfl) (by kernel_rfl) (fun _ _ _ h => h) (Or.inl ⟨by rfl, ?_⟩) (by assumption) ?_
          rotate_left 1
          · (intro w hSw; (have s0 := gb_keeps hSw a0; have s1 := gb_keeps hSw a1; have s2 := gb_keeps hSw a2; have s3 := gb_keeps hSw a3; have s4 := gb_keeps hSw a4; have s5 := gb_keeps hSw a5; have s6 := gb_keeps hSw cV); go_simp; try with_reducible rfl)
          try simp only [Act.put, List.getElem_toArray, List.getElem_cons_zero, List.getElem_cons_succ, List.setIfInBounds_toArray, List.set_cons_zero, List.set_cons_succ]
          refine wpAnyH_take (i := 11) (v := ?_) rfl (by kernel_rfl) (by kernel_rfl) (by kernel_rfl) (fun _ _ _ h => h) (Or.inl ⟨by rfl, ?_⟩) (by assumption) ?_
          rotate_left 1
          · (intro w hSw; (have s0 := gb_keeps hSw a0; have s1 := gb_keeps hSw a1; have s2 := gb_keeps hSw a2; have s3 := gb_keeps hSw a3; have s4 := gb_keeps hSw a4; have s5 := gb_keeps hSw a5; have s6 := gb_keeps hSw cV); go_simp; try with_reducible rfl)
          try simp only [Act.put, List.getElem_toArray, List.getElem_cons_zero, List.getElem_cons_succ, List.setIfInBounds_toArray, List.set_cons_zero, List.set_cons_succ]
          refine wpAnyH_take (i := 12) (v := ?_) rfl (by kernel_rfl) (by kernel_rfl) (by kernel_rfl) (fun _ _ _ h => h) (Or.inl ⟨by rfl, ?_⟩) (by assumption) ?_
          rotate_left 1
          · (intro w hSw; (have s0 := gb_keeps hSw a0; have s1 := gb_keeps hSw a1; have s2 := gb_keeps hSw a2; have s3 := gb_keeps hSw a3; have s4 := gb_keeps hSw a4; have s5 := gb_keeps hSw a5; have s6 := gb_keeps hSw cV); go_simp; try with_reducible rfl)
          try simp only [Act.put, List.getElem_toArray, List.getElem_cons_zero, List.getElem_cons_succ, List.setIfInBounds_toArray, List.set_cons_zero, List.set_cons_succ]
          refine wpAnyH_done (by kernel_rfl) ?_ _
          have FF : LieOut g l rs w (.returned (.bool false)) wa := ⟨⟨false, rfl, fun h => (by cases h), fun h => absurd h (NO.out rfl)⟩, gb_trans G1.out hHeld⟩
          clear ci a0 a1 a2 a3 a4 a5 cV GD hHeld YES NO CE
          go_wp2
          go_ret
          exact FF
    · have hqi : ¬ (q : Int) < (n : Int) := by omega
      have FO : Hid (LieOut g l rs w (.returned (.bool true)) wr) := ⟨⟨true, rfl, fun _ => by
        have h1 := X.out.1
        unfold liesTo at h1
        rw [List.take_of_length_le (by have := NN.out; omega)] at h1
        exact h1, fun _ => rfl⟩, X.out.2⟩
      clear X
      go_wp2
      go_ret
      exact FO.out
end Go.Proofs.YtdmdjmliggjbjaaGreat
