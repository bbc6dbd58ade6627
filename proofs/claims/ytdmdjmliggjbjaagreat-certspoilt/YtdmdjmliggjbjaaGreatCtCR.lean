/- The reference's region: whether any may be in an answer, and its rows lie in it. -/
import Derived.Test.YtdmdjmliggjbjaaGreatCt23
namespace Go.Proofs.YtdmdjmliggjbjaaGreat
open Go.RowKit Go.Sort

/-- A region that may be, that has someone, and whose rows lie in it. -/
def regQ (rs : List Rw) (d : Int) (r : Reg) : Prop := ckR r d = 0 ∧ r.I ≠ [] ∧ ∀ x ∈ r.I, ∃ row ∈ rs, row.1 = x ∧ inV r row.2 = true
def RgOut (rs : List Rw) (d : Int) (r : Reg) (w : World) (e : Ending) (w' : World) : Prop := (∃ b : Bool, e = .returned (.bool b) ∧ (b = true ↔ regQ rs d r)) ∧ Gb w w'
/-- The first p ids are so. -/
def regTo (rs : List Rw) (r : Reg) (p : Nat) : Prop := ∀ j, j < p → ∃ row ∈ rs, row.1 = r.I[j]! ∧ inV r row.2 = true
theorem rin_b {w : World} {v u : Value} {r : Reg} {a : List Int} (hv : RdR w v r) (hu : RdI w u a) (h0 : ckB r a = 0) (hR : r.R < 340282366920938463463374607431768211456) (b : Bool) (h : inV r a = b) :
    Calls Tryz.prog 70 #[v, u] w fun e w' => e = .returned (.bool b) ∧ Gr w w' := by
  subst h
  exact rin_c hv hu h0 hR
set_option maxRecDepth 100000 in
set_option maxHeartbeats 2000000 in
theorem rregionG_c {w : World} {v u : Value} {rs : List Rw} {r : Reg} (hv : RdW w v rs) (hu : RdR w u r) (hlen : rs.length ≤ 4611686018427387904) (hI : r.I.length ≤ 4611686018427387904) (d : Int) (hR : r.R < 340282366920938463463374607431768211456)
    (hrow : ∀ row ∈ rs, chk row.2 d = 0) (hone : ∀ a ∈ rs, ∀ b ∈ rs, a.1 = b.1 → a = b) :
    Calls Tryz.prog 48 #[v, u, .int .i64 d] w fun e w' => RgOut rs d r w e w' := by
  have V : Hid (RdW w v rs) := hv
  have U : Hid (RdR w u r) := hu
  have RW : Hid (∀ row ∈ rs, chk row.2 d = 0) := hrow
  have ON : Hid (∀ a ∈ rs, ∀ b ∈ rs, a.1 = b.1 → a = b) := hone
  have LN : Hid (rs.length ≤ 4611686018427387904) := hlen
  obtain ⟨vl, vh, vi, rfl, hL, hH, hI'⟩ := hu
  obtain ⟨W1, hW1⟩ : ∃ W1, W1 = w.alloc (rc r vl vh vi) := ⟨_, rfl⟩
  have G0 : Gb w W1 := by rw [hW1]; exact gb_alloc (Below.refl _ _) _
  have RA : Hid (RegAt W1 w.heap.size r vl vh vi) := by rw [hW1]; exact RegAt.new w r vl vh vi
  have CK := fun x hx => rckR_v (U.out.gb G0) hI d x hx
  obtain ⟨av, cv, rfl, zv⟩ := hv
  obtain ⟨pi, ci, rfl, aI⟩ := hI'
  have AI : Hid (∀ i, i < r.I.length → ∃ b o, pi = some ⟨b, o, none⟩ ∧ w.cell? ⟨b, o + i, none⟩ = some (.int .i64 r.I[i]!)) := aI
  obtain ⟨n, hn⟩ : ∃ n, n = rs.length := ⟨_, rfl⟩
  obtain ⟨m, hm⟩ : ∃ m, m = r.I.length := ⟨_, rfl⟩
  have M : Hid (m = r.I.length) := hm
  have N : Hid (n = rs.length) := hn
  have hml : m ≤ 4611686018427387904 := by omega
  have NE : Hid (r.I ≠ [] ↔ m ≠ 0) := by
    unfold Hid; rw [hm]
    constructor
    · intro h e; exact h (List.eq_nil_of_length_eq_zero e)
    · intro h e; rw [e] at h; exact h rfl
  rw [← hn] at V ⊢
  rw [← hm] at U RA hW1 CK ⊢
  clear hn hm aI hrow hone hlen hI zv hL hH
  by_cases h0 : ckR r d = 0
  · have ck := CK 0 h0
    have R0 : Hid (ckR r d = 0 ∧ r.R < 340282366920938463463374607431768211456) := ⟨h0, hR⟩
    clear CK hR h0
    by_cases hm0 : m = 0
    · have hm1 : ((m : Int) == 0) = true := by rw [hm0]; rfl
      have RN : Hid (¬ regQ rs d r) := fun h => NE.out.1 h.2.1 hm0
      have G0' : Hid (Gb w W1) := G0
      clear hm0 G0 AI
      obtain ⟨S, L, H, R, I⟩ := r
      dsimp only at *
      go_enter Tryz.func48, Tryz.ntmps48
      go_wp2_with fail
      rw [← hW1]
      obtain ⟨q0, q1, q2, q3, q4, q5⟩ := RA.out
      dsimp only at q0 q1 q2 q3 q4 q5
      go_wp2_with fail
      refine ck.mono ?_
      rintro e w2 ⟨rfl, g2⟩
      have G2 : Hid (Gb W1 w2) := g2.gb
      clear ck q0 q1 q2 q3 q4 q5 g2
      obtain ⟨q0, q1, q2, q3, q4, q5⟩ := RA.out.gb G2.out
      dsimp only at q0 q1 q2 q3 q4 q5
      go_wp2
      go_ret
      exact ⟨⟨false, rfl, fun h => (by cases h), fun h => absurd h RN.out⟩, gb_trans G0'.out G2.out⟩
    have hm1 : ((m : Int) == 0) = false := by rw [beq_eq_false_iff_ne]; omega
    have hm2 : ¬ (m : Int) = 0 := by omega
    have NI : Hid (r.I ≠ []) := NE.out.2 hm0
    obtain ⟨S, L, H, R, I⟩ := r
    dsimp only at *
    go_enter Tryz.func48, Tryz.ntmps48
    go_wp2_with fail
    rw [← hW1]
    obtain ⟨q0, q1, q2, q3, q4, q5⟩ := RA.out
    dsimp only at q0 q1 q2 q3 q4 q5
    go_wp2_with fail
    refine ck.mono ?_
    rintro e w2 ⟨rfl, g2⟩
    have G2 : Hid (Gb W1 w2) := g2.gb
    clear ck q0 q1 q2 q3 q4 q5 g2
    obtain ⟨q0, q1, q2, q3, q4, q5⟩ := RA.out.gb G2.out
    dsimp only at q0 q1 q2 q3 q4 q5
    go_wp2
    clear q0 q1 q2 q3 q4 q5
    have GW : Hid (Gb w W1) := G0
    clear G0 hW1
    go_loopw [7] (fun iv W => ∃ p : Nat, iv = .int .i64 (p : Int) ∧ p ≤ m ∧ Hid (Gb W1 W ∧ regTo rs ⟨S, L, H, R, I⟩ p)) (fun iv _ => m - (intOf iv).toNat)
    case atStart => exact ⟨0, rfl, Nat.zero_le _, G2.out, fun j hj => absurd hj (Nat.not_lt_zero _)⟩
    case round =>
      obtain ⟨p, rfl, hp, X⟩ := hrel
      obtain ⟨q0, q1, q2, q3, q4, q5⟩ := RA.out.gb X.out.1
      dsimp only at q0 q1 q2 q3 q4 q5
      by_cases hpm : p < m
      · have hpi : (p : Int) < (m : Int) := by omega
        have hpl : p < I.length := by have := M.out; omega
        obtain ⟨bi, oi, ei, ci'⟩ := AI.out p hpl
        subst ei
        have GX0 : Hid (Gb w wr) := gb_trans GW.out X.out.1
        have hc := gb_keeps GX0.out ci'
        have cf := rfind_c (V.out.gb GX0.out) LN.out I[p]!
        have MEM : Hid (I[p]! ∈ I) := by unfold Hid; rw [getElem!_pos I p hpl]; exact List.getElem_mem hpl
        clear ci'
        obtain ⟨x, hx⟩ : ∃ x, x = I[p]! := ⟨_, rfl⟩
        rw [← hx] at hc cf
        have HX : Hid (x ∈ I ∧ x = I[p]!) := ⟨by rw [hx]; exact MEM.out, hx⟩
        clear hx MEM hpl
        go_wp2_with fail
        refine cf.mono ?_
        rintro e w3 ⟨⟨z, rfl, hz⟩, e3⟩
        subst e3
        clear cf
        rcases hz with ⟨hz1, hz2⟩ | ⟨i, hzi, hil, hix⟩
        · subst hz1
          have RN : Hid (¬ regQ rs d ⟨S, L, H, R, I⟩) := fun h => by
            obtain ⟨row, hr, e, _⟩ := h.2.2 x HX.out.1
            obtain ⟨j, hj, e2⟩ := List.mem_iff_getElem.1 hr
            exact hz2 j hj (by rw [getElem!_pos rs j hj, e2]; exact e)
          have GX : Hid (Gb w wr.drew) := GX0.out.drew
          have FS0 : RegAt wr.drew w.heap.size ⟨S, L, H, R, I⟩ vl vh (.slice (some ⟨bi, oi, none⟩) m ci) := RA.out.gb X.out.1.drew
          have hi0 : decide ((-1 : Int) < 0) = true := rfl
          clear hz2 q0 q1 q2 q3 q4 q5 hc X
          go_wp2_with fail
          refine wp_region_held_drew (S := fun W => RegAt W w.heap.size ⟨S, L, H, R, I⟩ vl vh (.slice (some ⟨bi, oi, none⟩) m ci)) (by kernel_rfl) (FS0) (fun hHeld => ?_)
          refine wpAnyH_take (i := 0) (v := ?_) rfl (by kernel_rfl) (by kernel_rfl) (by kernel_rfl) (fun _ _ _ h => h) (Or.inl ⟨by rfl, ?_⟩) (by assumption) ?_
          rotate_left 1
          · (intro w hSw; (obtain ⟨s0, s1, s2, s3, s4, s5⟩ := hSw); go_simp; try with_reducible rfl)
          try simp only [Act.put, List.getElem_toArray, List.getElem_cons_zero, List.setIfInBounds_toArray, List.set_cons_zero, List.set_cons_succ]
          refine wpAnyH_take (i := 1) (v := ?_) rfl (by kernel_rfl) (by kernel_rfl) (by kernel_rfl) (fun _ _ _ h => h) (Or.inl ⟨by rfl, ?_⟩) (by assumption) ?_
          rotate_left 1
          · (intro w hSw; (obtain ⟨s0, s1, s2, s3, s4, s5⟩ := hSw); go_simp; try with_reducible rfl)
          try simp only [Act.put, List.getElem_toArray, List.getElem_cons_zero, List.getElem_cons_succ, List.setIfInBounds_toArray, List.set_cons_zero, List.set_cons_succ]
          refine wpAnyH_take (i := 2) (v := ?_) rfl (by kernel_rfl) (by kernel_rfl) (by kernel_rfl) (fun _ _ _ h => h) (Or.inl ⟨by rfl, ?_⟩) (by assumption) ?_
          rotate_left 1
          · (intro w hSw; (obtain ⟨s0, s1, s2, s3, s4, s5⟩ := hSw); go_simp; try with_reducible rfl)
          try simp only [Act.put, List.getElem_toArray, List.getElem_cons_zero, List.getElem_cons_succ, List.setIfInBounds_toArray, List.set_cons_zero, List.set_cons_succ]
          refine wpAnyH_take (i := 3) (v := undef) rfl (by kernel_rfl) (by kernel_rfl) (by kernel_rfl) (fun _ _ _ h => h) (Or.inr ⟨by rfl, rfl⟩) (by assumption) ?_
          try simp only [Act.put, List.getElem_toArray, List.getElem_cons_zero, List.getElem_cons_succ, List.setIfInBounds_toArray, List.set_cons_zero, List.set_cons_succ]
          refine wpAnyH_take (i := 4) (v := undef) rfl (by kernel_rfl) (by kernel_rfl) (by kernel_rfl) (fun _ _ _ h => h) (Or.inr ⟨by rfl, rfl⟩) (by assumption) ?_
          try simp only [Act.put, List.getElem_toArray, List.getElem_cons_zero, List.getElem_cons_succ, List.setIfInBounds_toArray, List.set_cons_zero, List.set_cons_succ]
          refine wpAnyH_take (i := 5) (v := undef) rfl (by kernel_rfl) (by kernel_rfl) (by kernel_rfl) (fun _ _ _ h => h) (Or.inr ⟨by rfl, rfl⟩) (by assumption) ?_
          try simp only [Act.put, List.getElem_toArray, List.getElem_cons_zero, List.getElem_cons_succ, List.setIfInBounds_toArray, List.set_cons_zero, List.set_cons_succ]
          refine wpAnyH_take (i := 6) (v := undef) rfl (by kernel_rfl) (by kernel_rfl) (by kernel_rfl) (fun _ _ _ h => h) (Or.inr ⟨by rfl, rfl⟩) (by assumption) ?_
          try simp only [Act.put, List.getElem_toArray, List.getElem_cons_zero, List.getElem_cons_succ, List.setIfInBounds_toArray, List.set_cons_zero, List.set_cons_succ]
          refine wpAnyH_take (i := 7) (v := undef) rfl (by kernel_rfl) (by kernel_rfl) (by kernel_rfl) (fun _ _ _ h => h) (Or.inr ⟨by rfl, rfl⟩) (by assumption) ?_
          try simp only [Act.put, List.getElem_toArray, List.getElem_cons_zero, List.getElem_cons_succ, List.setIfInBounds_toArray, List.set_cons_zero, List.set_cons_succ]
          refine wpAnyH_take (i := 8) (v := undef) rfl (by kernel_rfl) (by kernel_rfl) (by kernel_rfl) (fun _ _ _ h => h) (Or.inr ⟨by rfl, rfl⟩) (by assumption) ?_
          try simp only [Act.put, List.getElem_toArray, List.getElem_cons_zero, List.getElem_cons_succ, List.setIfInBounds_toArray, List.set_cons_zero, List.set_cons_succ]
          refine wpAnyH_take (i := 9) (v := undef) rfl (by kernel_rfl) (by kernel_rfl) (by kernel_rfl) (fun _ _ _ h => h) (Or.inr ⟨by rfl, rfl⟩) (by assumption) ?_
          try simp only [Act.put, List.getElem_toArray, List.getElem_cons_zero, List.getElem_cons_succ, List.setIfInBounds_toArray, List.set_cons_zero, List.set_cons_succ]
          refine wpAnyH_take (i := 10) (v := undef) rfl (by kernel_rfl) (by kernel_rfl) (by kernel_rfl) (fun _ _ _ h => h) (Or.inr ⟨by rfl, rfl⟩) (by assumption) ?_
          try simp only [Act.put, List.getElem_toArray, List.getElem_cons_zero, List.getElem_cons_succ, List.setIfInBounds_toArray, List.set_cons_zero, List.set_cons_succ]
          refine wpAnyH_take (i := 11) (v := ?_) rfl (by kernel_rfl) (by kernel_rfl) (by kernel_rfl) (fun _ _ _ h => h) (Or.inl ⟨by rfl, ?_⟩) (by assumption) ?_
          rotate_left 1
          · (intro w hSw; (obtain ⟨s0, s1, s2, s3, s4, s5⟩ := hSw); go_simp; try with_reducible rfl)
          try simp only [Act.put, List.getElem_toArray, List.getElem_cons_zero, List.getElem_cons_succ, List.setIfInBounds_toArray, List.set_cons_zero, List.set_cons_succ]
          refine wpAnyH_done (by kernel_rfl) ?_ _
          go_wp2
          go_ret
          exact ⟨⟨false, rfl, fun h => (by cases h), fun h => absurd h RN.out⟩, GX.out⟩
        subst hzi
        have hir : rs[i]! ∈ rs := by rw [getElem!_pos rs i hil]; exact List.getElem_mem hil
        obtain ⟨_, _, ev, hA⟩ := V.out
        obtain ⟨b, o, ur, ea, _, k2, k3⟩ := hA i hil
        injection ev with ev1 ev2 ev3
        subst ev1
        subst ea
        clear hA ev2 ev3
        have CB : Hid (ckB ⟨S, L, H, R, I⟩ rs[i]!.2 = 0) := ckB_of R0.out.1 (RW.out _ hir)
        have GX : Hid (Gb w wr.drew) := GX0.out.drew
        obtain ⟨pb, hpb⟩ : ∃ pb, inV ⟨S, L, H, R, I⟩ rs[i]!.2 = pb := ⟨_, rfl⟩
        have cin := fun W (g : Gb w W) => rin_b (U.out.gb g) (k3.gb g) CB.out R0.out.2 pb hpb
        have YES : Hid (pb = true → regTo rs ⟨S, L, H, R, I⟩ (p + 1)) := fun h j hj => by
          by_cases e : j = p
          · subst e
            exact ⟨rs[i]!, hir, hix.trans HX.out.2, by rw [hpb, h]⟩
          · exact X.out.2 j (by omega)
        have NO : Hid (pb = false → ¬ regQ rs d ⟨S, L, H, R, I⟩) := fun h hq => by
          obtain ⟨row, hr, e, hin⟩ := hq.2.2 x HX.out.1
          rw [ON.out row hr rs[i]! hir (e.trans hix.symm), hpb, h] at hin
          cases hin
        obtain ⟨pr', cr, eu, zu⟩ := k3
        subst eu
        have FS0 : RegAt wr.drew w.heap.size ⟨S, L, H, R, I⟩ vl vh (.slice (some ⟨bi, oi, none⟩) m ci) ∧ wr.drew.cell? ⟨b, o + i * 2 + 1, none⟩ = some (.slice pr' rs[i]!.2.length cr) := ⟨RA.out.gb X.out.1.drew, gb_keeps GX0.out k2⟩
        have XD : Hid (Gb W1 wr.drew) := X.out.1.drew
        generalize rs[i]!.2.length = nr at *
        generalize hur : Value.slice pr' nr cr = ur at *
        have hin' : i < n := by have := N.out; omega
        have hii : (i : Int) < (n : Int) := by omega
        have hi0 : decide ((i : Int) < 0) = false := by rw [decide_eq_false_iff_not]; omega
        have hi1 : ¬ (i : Int) < 0 := by omega
        clear k2 hir hix hil q0 q1 q2 q3 q4 q5 hc zu hpb CB X
        go_wp2_with fail
        cases pb with
        | true =>
          refine wp_region_held_drew (S := fun W => RegAt W w.heap.size ⟨S, L, H, R, I⟩ vl vh (.slice (some ⟨bi, oi, none⟩) m ci) ∧ W.cell? ⟨b, o + i * 2 + 1, none⟩ = some ur) (by kernel_rfl) (FS0) (fun hHeld => ?_)
          refine wpAnyH_take (i := 0) (v := ?_) rfl (by kernel_rfl) (by kernel_rfl) (by kernel_rfl) (fun _ _ _ h => h) (Or.inl ⟨by rfl, ?_⟩) (by assumption) ?_
          rotate_left 1
          · (intro w hSw; (obtain ⟨⟨s0, s1, s2, s3, s4, s5⟩, s6⟩ := hSw); go_simp; try with_reducible rfl)
          try simp only [Act.put, List.getElem_toArray, List.getElem_cons_zero, List.setIfInBounds_toArray, List.set_cons_zero, List.set_cons_succ]
          refine wpAnyH_take (i := 1) (v := ?_) rfl (by kernel_rfl) (by kernel_rfl) (by kernel_rfl) (fun _ _ _ h => h) (Or.inl ⟨by rfl, ?_⟩) (by assumption) ?_
          rotate_left 1
          · (intro w hSw; (obtain ⟨⟨s0, s1, s2, s3, s4, s5⟩, s6⟩ := hSw); go_simp; try with_reducible rfl)
          try simp only [Act.put, List.getElem_toArray, List.getElem_cons_zero, List.getElem_cons_succ, List.setIfInBounds_toArray, List.set_cons_zero, List.set_cons_succ]
          refine wpAnyH_take (i := 2) (v := ?_) rfl (by kernel_rfl) (by kernel_rfl) (by kernel_rfl) (fun _ _ _ h => h) (Or.inl ⟨by rfl, ?_⟩) (by assumption) ?_
          rotate_left 1
          · (intro w hSw; (obtain ⟨⟨s0, s1, s2, s3, s4, s5⟩, s6⟩ := hSw); go_simp; try with_reducible rfl)
          try simp only [Act.put, List.getElem_toArray, List.getElem_cons_zero, List.getElem_cons_succ, List.setIfInBounds_toArray, List.set_cons_zero, List.set_cons_succ]
          refine wpAnyH_take (i := 3) (v := ?_) rfl (by kernel_rfl) (by kernel_rfl) (by kernel_rfl) (fun _ _ _ h => h) (Or.inl ⟨by rfl, ?_⟩) (by assumption) ?_
          rotate_left 1
          · (intro w hSw; (obtain ⟨⟨s0, s1, s2, s3, s4, s5⟩, s6⟩ := hSw); go_simp; try with_reducible rfl)
          try simp only [Act.put, List.getElem_toArray, List.getElem_cons_zero, List.getElem_cons_succ, List.setIfInBounds_toArray, List.set_cons_zero, List.set_cons_succ]
          refine wpAnyH_take (i := 4) (v := ?_) rfl (by kernel_rfl) (by kernel_rfl) (by kernel_rfl) (fun _ _ _ h => h) (Or.inl ⟨by rfl, ?_⟩) (by assumption) ?_
          rotate_left 1
          · (intro w hSw; (obtain ⟨⟨s0, s1, s2, s3, s4, s5⟩, s6⟩ := hSw); go_simp; try with_reducible rfl)
          try simp only [Act.put, List.getElem_toArray, List.getElem_cons_zero, List.getElem_cons_succ, List.setIfInBounds_toArray, List.set_cons_zero, List.set_cons_succ]
          refine wpAnyH_take (i := 5) (v := ?_) rfl (by kernel_rfl) (by kernel_rfl) (by kernel_rfl) (fun _ _ _ h => h) (Or.inl ⟨by rfl, ?_⟩) (by assumption) ?_
          rotate_left 1
          · (intro w hSw; (obtain ⟨⟨s0, s1, s2, s3, s4, s5⟩, s6⟩ := hSw); go_simp; try with_reducible rfl)
          try simp only [Act.put, List.getElem_toArray, List.getElem_cons_zero, List.getElem_cons_succ, List.setIfInBounds_toArray, List.set_cons_zero, List.set_cons_succ]
          refine wpAnyH_take (i := 6) (v := ?_) rfl (by kernel_rfl) (by kernel_rfl) (by kernel_rfl) (fun _ _ _ h => h) (Or.inl ⟨by rfl, ?_⟩) (by assumption) ?_
          rotate_left 1
          · (intro w hSw; (obtain ⟨⟨s0, s1, s2, s3, s4, s5⟩, s6⟩ := hSw); go_simp; try with_reducible rfl)
          try simp only [Act.put, List.getElem_toArray, List.getElem_cons_zero, List.getElem_cons_succ, List.setIfInBounds_toArray, List.set_cons_zero, List.set_cons_succ]
          refine wpAnyH_take (i := 7) (v := ?_) rfl (by kernel_rfl) (by kernel_rfl) (by kernel_rfl) (fun _ _ _ h => h) (Or.inl ⟨by rfl, ?_⟩) (by assumption) ?_
          rotate_left 1
          · (intro w hSw; (obtain ⟨⟨s0, s1, s2, s3, s4, s5⟩, s6⟩ := hSw); go_simp; try with_reducible rfl)
          try simp only [Act.put, List.getElem_toArray, List.getElem_cons_zero, List.getElem_cons_succ, List.setIfInBounds_toArray, List.set_cons_zero, List.set_cons_succ]
          refine wpAnyH_take (i := 8) (v := ?_) rfl (by kernel_rfl) (by kernel_rfl) (by kernel_rfl) (fun _ _ _ h => h) (Or.inl ⟨by rfl, ?_⟩) (by assumption) ?_
          rotate_left 1
          · (intro w hSw; (obtain ⟨⟨s0, s1, s2, s3, s4, s5⟩, s6⟩ := hSw); go_simp; try with_reducible rfl)
          try simp only [Act.put, List.getElem_toArray, List.getElem_cons_zero, List.getElem_cons_succ, List.setIfInBounds_toArray, List.set_cons_zero, List.set_cons_succ]
          refine wpAnyH_ready (rs := [9]) (by kernel_rfl) (by simp) ?_
          refine AllReadyH.cons rfl (fun K hK => ?_) AllReadyH.nil
          go_simp
          refine (cin _ GX.out).mono ?_
          rintro e w4 ⟨rfl, g4⟩
          refine hK.out _ _ (⟨hHeld.1.gb g4.gb, g4.keeps hHeld.2⟩) (fun hHeld => ?_)
          clear hK K
          try simp only [Act.put, List.getElem_toArray, List.getElem_cons_zero, List.getElem_cons_succ, List.setIfInBounds_toArray, List.set_cons_zero, List.set_cons_succ]
          refine wpAnyH_take (i := 10) (v := ?_) rfl (by kernel_rfl) (by kernel_rfl) (by kernel_rfl) (fun _ _ _ h => h) (Or.inl ⟨by rfl, ?_⟩) (by assumption) ?_
          rotate_left 1
          · (intro w hSw; (obtain ⟨⟨s0, s1, s2, s3, s4, s5⟩, s6⟩ := hSw); go_simp; try with_reducible rfl)
          try simp only [Act.put, List.getElem_toArray, List.getElem_cons_zero, List.getElem_cons_succ, List.setIfInBounds_toArray, List.set_cons_zero, List.set_cons_succ]
          refine wpAnyH_take (i := 11) (v := ?_) rfl (by kernel_rfl) (by kernel_rfl) (by kernel_rfl) (fun _ _ _ h => h) (Or.inl ⟨by rfl, ?_⟩) (by assumption) ?_
          rotate_left 1
          · (intro w hSw; (obtain ⟨⟨s0, s1, s2, s3, s4, s5⟩, s6⟩ := hSw); go_simp; try with_reducible rfl)
          try simp only [Act.put, List.getElem_toArray, List.getElem_cons_zero, List.getElem_cons_succ, List.setIfInBounds_toArray, List.set_cons_zero, List.set_cons_succ]
          refine wpAnyH_done (by kernel_rfl) ?_ _
          have XX : Hid (Gb W1 w4 ∧ regTo rs ⟨S, L, H, R, I⟩ (p + 1)) := ⟨gb_trans XD.out g4.gb, YES.out rfl⟩
          clear YES NO FS0 hHeld
          go_wp2
          go_roundw
          case rel => exact ⟨p + 1, by first | rfl | go_num | simp, hpm, XX.out⟩
          case measure => simp [intOf]; omega
        | false =>
          refine wp_region_held_drew (S := fun W => RegAt W w.heap.size ⟨S, L, H, R, I⟩ vl vh (.slice (some ⟨bi, oi, none⟩) m ci) ∧ W.cell? ⟨b, o + i * 2 + 1, none⟩ = some ur) (by kernel_rfl) (FS0) (fun hHeld => ?_)
          refine wpAnyH_take (i := 0) (v := ?_) rfl (by kernel_rfl) (by kernel_rfl) (by kernel_rfl) (fun _ _ _ h => h) (Or.inl ⟨by rfl, ?_⟩) (by assumption) ?_
          rotate_left 1
          · (intro w hSw; (obtain ⟨⟨s0, s1, s2, s3, s4, s5⟩, s6⟩ := hSw); go_simp; try with_reducible rfl)
          try simp only [Act.put, List.getElem_toArray, List.getElem_cons_zero, List.setIfInBounds_toArray, List.set_cons_zero, List.set_cons_succ]
          refine wpAnyH_take (i := 1) (v := ?_) rfl (by kernel_rfl) (by kernel_rfl) (by kernel_rfl) (fun _ _ _ h => h) (Or.inl ⟨by rfl, ?_⟩) (by assumption) ?_
          rotate_left 1
          · (intro w hSw; (obtain ⟨⟨s0, s1, s2, s3, s4, s5⟩, s6⟩ := hSw); go_simp; try with_reducible rfl)
          try simp only [Act.put, List.getElem_toArray, List.getElem_cons_zero, List.getElem_cons_succ, List.setIfInBounds_toArray, List.set_cons_zero, List.set_cons_succ]
          refine wpAnyH_take (i := 2) (v := ?_) rfl (by kernel_rfl) (by kernel_rfl) (by kernel_rfl) (fun _ _ _ h => h) (Or.inl ⟨by rfl, ?_⟩) (by assumption) ?_
          rotate_left 1
          · (intro w hSw; (obtain ⟨⟨s0, s1, s2, s3, s4, s5⟩, s6⟩ := hSw); go_simp; try with_reducible rfl)
          try simp only [Act.put, List.getElem_toArray, List.getElem_cons_zero, List.getElem_cons_succ, List.setIfInBounds_toArray, List.set_cons_zero, List.set_cons_succ]
          refine wpAnyH_take (i := 3) (v := ?_) rfl (by kernel_rfl) (by kernel_rfl) (by kernel_rfl) (fun _ _ _ h => h) (Or.inl ⟨by rfl, ?_⟩) (by assumption) ?_
          rotate_left 1
          · (intro w hSw; (obtain ⟨⟨s0, s1, s2, s3, s4, s5⟩, s6⟩ := hSw); go_simp; try with_reducible rfl)
          try simp only [Act.put, List.getElem_toArray, List.getElem_cons_zero, List.getElem_cons_succ, List.setIfInBounds_toArray, List.set_cons_zero, List.set_cons_succ]
          refine wpAnyH_take (i := 4) (v := ?_) rfl (by kernel_rfl) (by kernel_rfl) (by kernel_rfl) (fun _ _ _ h => h) (Or.inl ⟨by rfl, ?_⟩) (by assumption) ?_
          rotate_left 1
          · (intro w hSw; (obtain ⟨⟨s0, s1, s2, s3, s4, s5⟩, s6⟩ := hSw); go_simp; try with_reducible rfl)
          try simp only [Act.put, List.getElem_toArray, List.getElem_cons_zero, List.getElem_cons_succ, List.setIfInBounds_toArray, List.set_cons_zero, List.set_cons_succ]
          refine wpAnyH_take (i := 5) (v := ?_) rfl (by kernel_rfl) (by kernel_rfl) (by kernel_rfl) (fun _ _ _ h => h) (Or.inl ⟨by rfl, ?_⟩) (by assumption) ?_
          rotate_left 1
          · (intro w hSw; (obtain ⟨⟨s0, s1, s2, s3, s4, s5⟩, s6⟩ := hSw); go_simp; try with_reducible rfl)
          try simp only [Act.put, List.getElem_toArray, List.getElem_cons_zero, List.getElem_cons_succ, List.setIfInBounds_toArray, List.set_cons_zero, List.set_cons_succ]
          refine wpAnyH_take (i := 6) (v := ?_) rfl (by kernel_rfl) (by kernel_rfl) (by kernel_rfl) (fun _ _ _ h => h) (Or.inl ⟨by rfl, ?_⟩) (by assumption) ?_
          rotate_left 1
          · (intro w hSw; (obtain ⟨⟨s0, s1, s2, s3, s4, s5⟩, s6⟩ := hSw); go_simp; try with_reducible rfl)
          try simp only [Act.put, List.getElem_toArray, List.getElem_cons_zero, List.getElem_cons_succ, List.setIfInBounds_toArray, List.set_cons_zero, List.set_cons_succ]
          refine wpAnyH_take (i := 7) (v := ?_) rfl (by kernel_rfl) (by kernel_rfl) (by kernel_rfl) (fun _ _ _ h => h) (Or.inl ⟨by rfl, ?_⟩) (by assumption) ?_
          rotate_left 1
          · (intro w hSw; (obtain ⟨⟨s0, s1, s2, s3, s4, s5⟩, s6⟩ := hSw); go_simp; try with_reducible rfl)
          try simp only [Act.put, List.getElem_toArray, List.getElem_cons_zero, List.getElem_cons_succ, List.setIfInBounds_toArray, List.set_cons_zero, List.set_cons_succ]
          refine wpAnyH_take (i := 8) (v := ?_) rfl (by kernel_rfl) (by kernel_rfl) (by kernel_rfl) (fun _ _ _ h => h) (Or.inl ⟨by rfl, ?_⟩) (by assumption) ?_
          rotate_left 1
          · (intro w hSw; (obtain ⟨⟨s0, s1, s2, s3, s4, s5⟩, s6⟩ := hSw); go_simp; try with_reducible rfl)
          try simp only [Act.put, List.getElem_toArray, List.getElem_cons_zero, List.getElem_cons_succ, List.setIfInBounds_toArray, List.set_cons_zero, List.set_cons_succ]
          refine wpAnyH_ready (rs := [9]) (by kernel_rfl) (by simp) ?_
          refine AllReadyH.cons rfl (fun K hK => ?_) AllReadyH.nil
          go_simp
          refine (cin _ GX.out).mono ?_
          rintro e w4 ⟨rfl, g4⟩
          refine hK.out _ _ (⟨hHeld.1.gb g4.gb, g4.keeps hHeld.2⟩) (fun hHeld => ?_)
          clear hK K
          try simp only [Act.put, List.getElem_toArray, List.getElem_cons_zero, List.getElem_cons_succ, List.setIfInBounds_toArray, List.set_cons_zero, List.set_cons_succ]
          refine wpAnyH_take (i := 10) (v := ?_) rfl (by kernel_rfl) (by kernel_rfl) (by kernel_rfl) (fun _ _ _ h => h) (Or.inl ⟨by rfl, ?_⟩) (by assumption) ?_
          rotate_left 1
          · (intro w hSw; (obtain ⟨⟨s0, s1, s2, s3, s4, s5⟩, s6⟩ := hSw); go_simp; try with_reducible rfl)
          try simp only [Act.put, List.getElem_toArray, List.getElem_cons_zero, List.getElem_cons_succ, List.setIfInBounds_toArray, List.set_cons_zero, List.set_cons_succ]
          refine wpAnyH_take (i := 11) (v := ?_) rfl (by kernel_rfl) (by kernel_rfl) (by kernel_rfl) (fun _ _ _ h => h) (Or.inl ⟨by rfl, ?_⟩) (by assumption) ?_
          rotate_left 1
          · (intro w hSw; (obtain ⟨⟨s0, s1, s2, s3, s4, s5⟩, s6⟩ := hSw); go_simp; try with_reducible rfl)
          try simp only [Act.put, List.getElem_toArray, List.getElem_cons_zero, List.getElem_cons_succ, List.setIfInBounds_toArray, List.set_cons_zero, List.set_cons_succ]
          refine wpAnyH_done (by kernel_rfl) ?_ _
          have RN : Hid (¬ regQ rs d ⟨S, L, H, R, I⟩ ∧ Gb w w4) := ⟨NO.out rfl, gb_trans GX.out g4.gb⟩
          clear YES NO FS0 hHeld
          go_wp2
          go_ret
          exact ⟨⟨false, rfl, fun h => (by cases h), fun h => absurd h RN.out.1⟩, RN.out.2⟩
      · have hpi : ¬ (p : Int) < (m : Int) := by omega
        have G : Hid (Gb w wr ∧ regQ rs d ⟨S, L, H, R, I⟩) := ⟨gb_trans GW.out X.out.1, R0.out.1, NI.out, fun x hx => by
          obtain ⟨j, hj, e⟩ := List.mem_iff_getElem.1 hx
          dsimp only at hj
          have h1 := X.out.2 j (by have := M.out; omega)
          dsimp only at h1
          rw [getElem!_pos I j hj] at h1
          rw [← e]
          exact h1⟩
        clear X
        go_wp2
        go_ret
        exact ⟨⟨true, rfl, fun _ => G.out.2, fun _ => rfl⟩, G.out.1⟩
  · obtain ⟨x, hx⟩ : ∃ x, x = ckR r d := ⟨_, rfl⟩
    have ck := CK x hx.symm
    have hx0 : (x != 0) = true := by rw [hx]; simpa using h0
    have RN : Hid (¬ regQ rs d r) := fun h => h0 h.1
    have G0' : Hid (Gb w W1) := G0
    clear CK h0 hx G0 AI NE
    obtain ⟨S, L, H, R, I⟩ := r
    dsimp only at *
    go_enter Tryz.func48, Tryz.ntmps48
    go_wp2_with fail
    rw [← hW1]
    obtain ⟨q0, q1, q2, q3, q4, q5⟩ := RA.out
    dsimp only at q0 q1 q2 q3 q4 q5
    go_wp2_with fail
    refine ck.mono ?_
    rintro e w2 ⟨rfl, g2⟩
    have G2 : Hid (Gb W1 w2) := g2.gb
    clear ck q0 q1 q2 q3 q4 q5 g2
    go_wp2
    go_ret
    exact ⟨⟨false, rfl, fun h => (by cases h), fun h => absurd h RN.out⟩, gb_trans G0'.out G2.out⟩
end Go.Proofs.YtdmdjmliggjbjaaGreat
