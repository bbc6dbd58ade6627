/- The reference's region: one whose rows lie in it. -/
import Derived.Test.YteaeaoekaoedoaaGreatG7
import Derived.Test.YteaeaoekaoedoaaGreatG40
namespace Go.Proofs.YteaeaoekaoedoaaGreat
open Go.RowKit Go.Sort

theorem ckB_of {r : Reg} {a : List Int} {d : Int} (h : ckR r d = 0) (ha : chk a d = 0) : ckB r a = 0 := by
  have e : (a.length : Int) = d := (chk_ok ha).2.2.1.symm
  unfold ckB
  rw [e, if_pos h, ha]
theorem rin_v {w : World} {v u : Value} {r : Reg} {a : List Int} (hv : RdR w v r) (hu : RdI w u a) (h0 : ckB r a = 0) (hR : r.R < 340282366920938463463374607431768211456) (h : inV r a = true) :
    Calls Tryz.prog 94 #[v, u] w fun e w' => e = .returned (.bool true) ∧ Gr w w' := by
  have := rin_c hv hu h0 hR
  rw [h] at this
  exact this
set_option maxRecDepth 100000 in
set_option maxHeartbeats 2000000 in
theorem rregion_c {w : World} {v u : Value} {rs : List Rw} {r : Reg} (hv : RdW w v rs) (hu : RdR w u r) (hlen : rs.length ≤ 4611686018427387904) (hI : r.I.length ≤ 4611686018427387904) (d : Int) (h0 : ckR r d = 0) (hne : r.I ≠ []) (hR : r.R < 340282366920938463463374607431768211456)
    (hrow : ∀ row ∈ rs, chk row.2 d = 0) (hin : ∀ x ∈ r.I, ∃ row ∈ rs, row.1 = x) (hin2 : ∀ row ∈ rs, row.1 ∈ r.I → inV r row.2 = true) :
    Calls Tryz.prog 69 #[v, u, .int .i64 d] w fun e w' => e = .returned (.bool true) ∧ Gb w w' := by
  have V : Hid (RdW w v rs) := hv
  have U : Hid (RdR w u r) := hu
  have R0 : Hid (ckR r d = 0 ∧ r.R < 340282366920938463463374607431768211456) := ⟨h0, hR⟩
  have RW : Hid (∀ row ∈ rs, chk row.2 d = 0) := hrow
  have IN : Hid (∀ x ∈ r.I, ∃ row ∈ rs, row.1 = x) := hin
  have IN2 : Hid (∀ row ∈ rs, row.1 ∈ r.I → inV r row.2 = true) := hin2
  have LN : Hid (rs.length ≤ 4611686018427387904) := hlen
  obtain ⟨vl, vh, vi, rfl, hL, hH, hI'⟩ := hu
  obtain ⟨W1, hW1⟩ : ∃ W1, W1 = w.alloc (rc r vl vh vi) := ⟨_, rfl⟩
  have G0 : Gb w W1 := by rw [hW1]; exact gb_alloc (Below.refl _ _) _
  have RA : Hid (RegAt W1 w.heap.size r vl vh vi) := by rw [hW1]; exact RegAt.new w r vl vh vi
  have ck := rckR_v (U.out.gb G0) hI d 0 h0
  obtain ⟨av, cv, rfl, _⟩ := hv
  obtain ⟨pi, ci, rfl, aI⟩ := hI'
  have AI : Hid (∀ i, i < r.I.length → ∃ b o, pi = some ⟨b, o, none⟩ ∧ w.cell? ⟨b, o + i, none⟩ = some (.int .i64 r.I[i]!)) := aI
  obtain ⟨n, hn⟩ : ∃ n, n = rs.length := ⟨_, rfl⟩
  obtain ⟨m, hm⟩ : ∃ m, m = r.I.length := ⟨_, rfl⟩
  have M : Hid (m = r.I.length) := hm
  have N : Hid (n = rs.length) := hn
  have hm0 : 0 < m := by rw [hm]; exact List.length_pos_iff.2 hne
  have hm1 : ((m : Int) == 0) = false := by rw [beq_eq_false_iff_ne]; omega
  have hm2 : ¬ (m : Int) = 0 := by omega
  have hml : m ≤ 4611686018427387904 := by omega
  rw [← hn] at V ⊢
  rw [← hm] at U RA ck hW1 ⊢
  clear hn hm aI h0 hR hrow hin hin2 hlen hI hne hL hH
  obtain ⟨S, L, H, R, I⟩ := r
  dsimp only at *
  go_enter Tryz.func69, Tryz.ntmps69
  go_wp2_with fail
  rw [← hW1]
  obtain ⟨q0, q1, q2, q3, q4, q5⟩ := RA.out
  dsimp only at q0 q1 q2 q3 q4 q5
  go_wp2_with fail
  refine ck.mono ?_
  rintro e w2 ⟨rfl, g2⟩
  have G2 : Hid (Gb W1 w2) := g2.gb
  clear ck q0 q1 q2 q3 q4 q5 g2
  obtain ⟨q0, q1, q2, q3, q4, q5⟩ := RA.out.gb G2.out
  dsimp only at q0 q1 q2 q3 q4 q5
  go_wp2
  clear q0 q1 q2 q3 q4 q5
  have GW : Hid (Gb w W1) := G0
  clear G0 hW1
  go_loopw [7] (fun iv W => ∃ p : Nat, iv = .int .i64 (p : Int) ∧ p ≤ m ∧ Hid (Gb W1 W)) (fun iv _ => m - (intOf iv).toNat)
  case atStart => exact ⟨0, rfl, Nat.zero_le _, G2⟩
  case round =>
    obtain ⟨p, rfl, hp, X⟩ := hrel
    obtain ⟨q0, q1, q2, q3, q4, q5⟩ := RA.out.gb X.out
    dsimp only at q0 q1 q2 q3 q4 q5
    by_cases hpm : p < m
    · have hpi : (p : Int) < (m : Int) := by omega
      have hpl : p < I.length := by have := M.out; omega
      obtain ⟨bi, oi, ei, ci'⟩ := AI.out p hpl
      subst ei
      have GX0 : Hid (Gb w wr) := gb_trans GW.out X.out
      have hc := gb_keeps GX0.out ci'
      have cf := rfind_c (V.out.gb GX0.out) LN.out I[p]!
      have MEM : Hid (I[p]! ∈ I) := by unfold Hid; rw [getElem!_pos I p hpl]; exact List.getElem_mem hpl
      clear ci'
      generalize hx : I[p]! = x at hc cf
      have HX : Hid (x ∈ I) := by unfold Hid; rw [← hx]; exact MEM.out
      clear hx MEM hpl
      go_wp2_with fail
      refine cf.mono ?_
      rintro e w3 ⟨⟨z, rfl, hz⟩, e3⟩
      subst e3
      clear cf
      obtain ⟨i, hzi, hil, hix⟩ : ∃ i : Nat, z = (i : Int) ∧ i < rs.length ∧ rs[i]!.1 = x := by
        rcases hz with ⟨_, h⟩ | h
        · obtain ⟨row, hr, e⟩ := IN.out x HX.out
          obtain ⟨j, hj, e2⟩ := List.mem_iff_getElem.1 hr
          exact absurd (by rw [getElem!_pos rs j hj, e2]; exact e) (h j hj)
        · exact h
      subst hzi
      clear hz
      have hir : rs[i]! ∈ rs := by rw [getElem!_pos rs i hil]; exact List.getElem_mem hil
      obtain ⟨_, _, ev, hA⟩ := V.out
      obtain ⟨b, o, ur, ea, _, k2, k3⟩ := hA i hil
      injection ev with ev1 ev2 ev3
      subst ev1
      subst ea
      clear hA ev2 ev3
      have CB : Hid (ckB ⟨S, L, H, R, I⟩ rs[i]!.2 = 0) := ckB_of R0.out.1 (RW.out _ hir)
      have IV : Hid (inV ⟨S, L, H, R, I⟩ rs[i]!.2 = true) := IN2.out _ hir (by rw [hix]; exact HX.out)
      have GX : Hid (Gb w wr.drew) := GX0.out.drew
      have cin := fun W (g : Gb w W) => rin_v (U.out.gb g) (k3.gb g) CB.out R0.out.2 IV.out
      obtain ⟨pr', cr, eu, _⟩ := k3
      subst eu
      have FS0 : RegAt wr.drew w.heap.size ⟨S, L, H, R, I⟩ vl vh (.slice (some ⟨bi, oi, none⟩) m ci) ∧ wr.drew.cell? ⟨b, o + i * 2 + 1, none⟩ = some (.slice pr' rs[i]!.2.length cr) := ⟨RA.out.gb X.out.drew, gb_keeps GX0.out k2⟩
      generalize rs[i]!.2.length = nr at *
      generalize hur : Value.slice pr' nr cr = ur at *
      have hin' : i < n := by have := N.out; omega
      have hii : (i : Int) < (n : Int) := by omega
      have hi0 : decide ((i : Int) < 0) = false := by rw [decide_eq_false_iff_not]; omega
      have hi1 : ¬ (i : Int) < 0 := by omega
      clear k2 hir hix hil q0 q1 q2 q3 q4 q5 hc
      go_wp2_with fail
      refine wp_region_held_drew (S := fun W => RegAt W w.heap.size ⟨S, L, H, R, I⟩ vl vh (.slice (some ⟨bi, oi, none⟩) m ci) ∧ W.cell? ⟨b, o + i * 2 + 1, none⟩ = some ur) (by kernel_rfl) (FS0) (fun hHeld => ?_)
      refine wpAnyH_take (i := 0) (v := ?_) rfl (by kernel_rfl) (by kernel_rfl) (by kernel_rfl) (fun _ _ _ h => h) (Or.inl ⟨by rfl, ?_⟩) (by assumption) ?_
      rotate_left 1
      · (intro w hSw; (obtain ⟨⟨s0, s1, s2, s3, s4, s5⟩, s6⟩ := hSw); go_simp; try with_reducible rfl)
      try simp only [Act.put, List.getElem_toArray, List.getElem_cons_zero, List.setIfInBounds_toArray, List.set_cons_zero, List.set_cons_succ]
      refine wpAnyH_take (i := 1) (v := ?_) rfl (by kernel_rfl) (by kernel_rfl) (by kernel_rfl) (fun _ _ _ h => h) (Or.inl ⟨by rfl, ?_⟩) (by assumption) ?_
      rotate_left 1
      · (intro w hSw; (obtain ⟨⟨s0, s1, s2, s3, s4, s5⟩, s6⟩ := hSw); go_simp; try with_reducible rfl)
      try simp only [Act.put, List.getElem_toArray, List.getElem_cons_zero, List.getElem_cons_succ, List.setIfInBounds_toArray, List.set_cons_zero, List.set_cons_succ]
      refine wpAnyH_take (i := 2) (v := ?_) rfl (by kernel_rfl) (by kernel_rfl) (by kernel_rfl) (fun _ _ _ h => h) (Or.inl ⟨by rfl, ?_⟩) (by assumption) ?_
      rotate_left 1
      · (intro w hSw; (obtain ⟨⟨s0, s1, s2, s3, s4, s5⟩, s6⟩ := hSw); go_simp; try with_reducible rfl)
      try simp only [Act.put, List.getElem_toArray, List.getElem_cons_zero, List.getElem_cons_succ, List.setIfInBounds_toArray, List.set_cons_zero, List.set_cons_succ]
      refine wpAnyH_take (i := 3) (v := ?_) rfl (by kernel_rfl) (by kernel_rfl) (by kernel_rfl) (fun _ _ _ h => h) (Or.inl ⟨by rfl, ?_⟩) (by assumption) ?_
      rotate_left 1
      · (intro w hSw; (obtain ⟨⟨s0, s1, s2, s3, s4, s5⟩, s6⟩ := hSw); go_simp; try with_reducible rfl)
      try simp only [Act.put, List.getElem_toArray, List.getElem_cons_zero, List.getElem_cons_succ, List.setIfInBounds_toArray, List.set_cons_zero, List.set_cons_succ]
      refine wpAnyH_take (i := 4) (v := ?_) rfl (by kernel_rfl) (by kernel_rfl) (by kernel_rfl) (fun _ _ _ h => h) (Or.inl ⟨by rfl, ?_⟩) (by assumption) ?_
      rotate_left 1
      · (intro w hSw; (obtain ⟨⟨s0, s1, s2, s3, s4, s5⟩, s6⟩ := hSw); go_simp; try with_reducible rfl)
      try simp only [Act.put, List.getElem_toArray, List.getElem_cons_zero, List.getElem_cons_succ, List.setIfInBounds_toArray, List.set_cons_zero, List.set_cons_succ]
      refine wpAnyH_take (i := 5) (v := ?_) rfl (by kernel_rfl) (by kernel_rfl) (by kernel_rfl) (fun _ _ _ h => h) (Or.inl ⟨by rfl, ?_⟩) (by assumption) ?_
      rotate_left 1
      · (intro w hSw; (obtain ⟨⟨s0, s1, s2, s3, s4, s5⟩, s6⟩ := hSw); go_simp; try with_reducible rfl)
      try simp only [Act.put, List.getElem_toArray, List.getElem_cons_zero, List.getElem_cons_succ, List.setIfInBounds_toArray, List.set_cons_zero, List.set_cons_succ]
      refine wpAnyH_take (i := 6) (v := ?_) rfl (by kernel_rfl) (by kernel_rfl) (by kernel_rfl) (fun _ _ _ h => h) (Or.inl ⟨by rfl, ?_⟩) (by assumption) ?_
      rotate_left 1
      · (intro w hSw; (obtain ⟨⟨s0, s1, s2, s3, s4, s5⟩, s6⟩ := hSw); go_simp; try with_reducible rfl)
      try simp only [Act.put, List.getElem_toArray, List.getElem_cons_zero, List.getElem_cons_succ, List.setIfInBounds_toArray, List.set_cons_zero, List.set_cons_succ]
      refine wpAnyH_take (i := 7) (v := ?_) rfl (by kernel_rfl) (by kernel_rfl) (by kernel_rfl) (fun _ _ _ h => h) (Or.inl ⟨by rfl, ?_⟩) (by assumption) ?_
      rotate_left 1
      · (intro w hSw; (obtain ⟨⟨s0, s1, s2, s3, s4, s5⟩, s6⟩ := hSw); go_simp; try with_reducible rfl)
      try simp only [Act.put, List.getElem_toArray, List.getElem_cons_zero, List.getElem_cons_succ, List.setIfInBounds_toArray, List.set_cons_zero, List.set_cons_succ]
      refine wpAnyH_take (i := 8) (v := ?_) rfl (by kernel_rfl) (by kernel_rfl) (by kernel_rfl) (fun _ _ _ h => h) (Or.inl ⟨by rfl, ?_⟩) (by assumption) ?_
      rotate_left 1
      · (intro w hSw; (obtain ⟨⟨s0, s1, s2, s3, s4, s5⟩, s6⟩ := hSw); go_simp; try with_reducible rfl)
      try simp only [Act.put, List.getElem_toArray, List.getElem_cons_zero, List.getElem_cons_succ, List.setIfInBounds_toArray, List.set_cons_zero, List.set_cons_succ]
      refine wpAnyH_ready (rs := [9]) (by kernel_rfl) (by simp) ?_
      refine AllReadyH.cons rfl (fun K hK => ?_) AllReadyH.nil
      go_simp
      refine (cin _ GX.out).mono ?_
      rintro e w4 ⟨rfl, g4⟩
      refine hK.out _ _ (⟨hHeld.1.gb g4.gb, g4.keeps hHeld.2⟩) (fun hHeld => ?_)
      clear hK K
      try simp only [Act.put, List.getElem_toArray, List.getElem_cons_zero, List.getElem_cons_succ, List.setIfInBounds_toArray, List.set_cons_zero, List.set_cons_succ]
      refine wpAnyH_take (i := 10) (v := ?_) rfl (by kernel_rfl) (by kernel_rfl) (by kernel_rfl) (fun _ _ _ h => h) (Or.inl ⟨by rfl, ?_⟩) (by assumption) ?_
      rotate_left 1
      · (intro w hSw; (obtain ⟨⟨s0, s1, s2, s3, s4, s5⟩, s6⟩ := hSw); go_simp; try with_reducible rfl)
      try simp only [Act.put, List.getElem_toArray, List.getElem_cons_zero, List.getElem_cons_succ, List.setIfInBounds_toArray, List.set_cons_zero, List.set_cons_succ]
      refine wpAnyH_take (i := 11) (v := ?_) rfl (by kernel_rfl) (by kernel_rfl) (by kernel_rfl) (fun _ _ _ h => h) (Or.inl ⟨by rfl, ?_⟩) (by assumption) ?_
      rotate_left 1
      · (intro w hSw; (obtain ⟨⟨s0, s1, s2, s3, s4, s5⟩, s6⟩ := hSw); go_simp; try with_reducible rfl)
      try simp only [Act.put, List.getElem_toArray, List.getElem_cons_zero, List.getElem_cons_succ, List.setIfInBounds_toArray, List.set_cons_zero, List.set_cons_succ]
      refine wpAnyH_done (by kernel_rfl) ?_ _
      go_wp2
      go_roundw
      case rel => exact ⟨p + 1, by first | rfl | go_num | simp, hpm, gb_trans X.out.drew g4.gb⟩
      case measure => simp [intOf]; omega
    · have hpi : ¬ (p : Int) < (m : Int) := by omega
      have G : Hid (Gb w wr) := gb_trans GW.out X.out
      go_wp2
      go_ret
      exact ⟨rfl, G.out⟩
end Go.Proofs.YteaeaoekaoedoaaGreat
