/- theodolitekeep.LendRows: its walk. -/
import Derived.Test.YtgcinompidmliaaRCx32
namespace Go.Proofs.YtgcinompidmliaaR
open Go.RowKit Go.Sort Go.Maps

set_option maxRecDepth 100000 in
set_option maxHeartbeats 1000000 in
theorem lendrows_c {w : World} {v : Value} {rs : List Rw} (hv : RdW w v rs) (hn : rs.length ≤ 1048576) (hr : ∀ i, i < rs.length → rs[i]!.2.length ≤ 1048576) :
    Calls Try.prog 22 #[v] w fun e w' => ∃ G, e = .returned (.slice (some ⟨G, 0, none⟩) rs.length (rs.length + 1)) ∧ LentR w w' G rs := by
  have V : Hid (RdW w v rs) := hv
  have HR : Hid (∀ i, i < rs.length → rs[i]!.2.length ≤ 1048576) := hr
  obtain ⟨av, cv, rfl, _⟩ := hv
  obtain ⟨n, hN⟩ : ∃ n, n = rs.length := ⟨_, rfl⟩
  have N : Hid (n = rs.length) := hN
  rw [← hN] at V hn ⊢
  obtain ⟨m, hM⟩ : ∃ m, m = n + 1 := ⟨_, rfl⟩
  have M : Hid (m = n + 1) := hM
  have hm : (n : Int) + 1 = (m : Int) := by omega
  have hnm : (n : Int) < (m : Int) := by omega
  have hnm2 : n ≤ m := by omega
  have hmb : m ≤ 1048577 := by omega
  have hmk := run_make_two m (by omega) w
  have S0 : Hid (Lr w (w.alloc (.cells (madeCells #[.int .i64 0, .slice none 0 0] (m * 2)) 63)) w.heap.size m rs 0 True (fun _ => (.int .i64 0, .slice none 0 0))) :=
    ⟨gb_alloc (Below.refl _ _) _, Nat.le_refl _, ra_made w m, ⟨fun _ => 0, fun i hi => by omega⟩, trivial⟩
  rw [← hM]
  clear hN hM hr
  generalize w.alloc (.cells (madeCells #[.int .i64 0, .slice none 0 0] (m * 2)) 63) = V0 at *
  go_enter Try.func22, Try.ntmps22
  go_wp2
  go_loopw [4] (fun iv W => ∃ p : Nat, iv = .int .i64 (p : Int) ∧ p ≤ n ∧ Hid (∃ f, Lr w W w.heap.size m rs p True f)) (fun iv _ => n - (intOf iv).toNat)
  case atStart => exact ⟨0, rfl, Nat.zero_le _, ⟨_, S0.out⟩⟩
  case round =>
    obtain ⟨p, rfl, hp, X⟩ := hrel
    by_cases hpn : p < n
    · have hpi : decide ((p : Int) < (n : Int)) = true := by rw [decide_eq_true_eq]; omega
      have hpp : (p : Int) < (n : Int) := by omega
      have hpm : (p : Int) < (m : Int) := by omega
      have hpl : p < rs.length := by have := N.out; omega
      obtain ⟨_, _, ev, hA⟩ := V.out
      obtain ⟨b, o, ur, ea, k1, k2, k3⟩ := hA p hpl
      injection ev with ev1 ev2 ev3
      subst ev1
      subst ea
      clear hA ev2 ev3
      obtain ⟨f, hX⟩ := X.out
      have cl := fun W (g : Gb w W) => lend_c (k3.gb g) (HR.out p hpl)
      have FS0 : Rs w wr.drew ⟨b, o + p * 2, none⟩ ⟨b, o + p * 2 + 1, none⟩ (.int .i64 rs[p]!.1) ur := ⟨hX.gb.drew, gb_keeps hX.gb k1, gb_keeps hX.gb k2, World.block_lt_of_cell? w _ k1, World.block_lt_of_cell? w _ k2⟩
      obtain ⟨pr, cr, rfl, _⟩ := k3
      have X1 : Hid (Lr w wr.drew w.heap.size m rs p True f) := hX.gr (Below.refl _ _).drew
      have GX : Hid (Gb w wr.drew) := hX.gb.drew
      obtain ⟨nr, hnr⟩ : ∃ nr, nr = rs[p]!.2.length := ⟨_, rfl⟩
      have NR : Hid (nr = rs[p]!.2.length) := hnr
      obtain ⟨x1, hx1⟩ : ∃ x1, x1 = rs[p]!.1 := ⟨_, rfl⟩
      have NX : Hid (x1 = rs[p]!.1) := hx1
      rw [← hnr] at FS0
      rw [← hx1] at FS0
      simp only [← hnr] at cl
      clear k1 k2 hX hnr hx1
      go_wp2
      refine wp_region_held_drew (S := fun w' => Rs w w' ⟨b, o + p * 2, none⟩ ⟨b, o + p * 2 + 1, none⟩ (.int .i64 x1) (.slice pr nr cr)) (by kernel_rfl) (FS0) (fun hHeld => ?_)
      refine wpAnyH_take (i := 0) (v := ?_) rfl (by kernel_rfl) (by kernel_rfl) (by kernel_rfl) (fun _ _ _ h => h) (Or.inl ⟨by rfl, ?_⟩) (by assumption) ?_
      rotate_left 1
      · (intro w hSw; (obtain ⟨s1, s2, s3, s4, s5⟩ := hSw); go_simp; try with_reducible rfl)
      try simp only [Act.put, List.getElem_toArray, List.getElem_cons_zero, List.setIfInBounds_toArray, List.set_cons_zero, List.set_cons_succ]
      refine wpAnyH_take (i := 1) (v := ?_) rfl (by kernel_rfl) (by kernel_rfl) (by kernel_rfl) (fun _ _ _ h => h) (Or.inl ⟨by rfl, ?_⟩) (by assumption) ?_
      rotate_left 1
      · (intro w hSw; (obtain ⟨s1, s2, s3, s4, s5⟩ := hSw); go_simp; try with_reducible rfl)
      try simp only [Act.put, List.getElem_toArray, List.getElem_cons_zero, List.getElem_cons_succ, List.setIfInBounds_toArray, List.set_cons_zero, List.set_cons_succ]
      refine wpAnyH_take (i := 2) (v := ?_) rfl (by kernel_rfl) (by kernel_rfl) (by kernel_rfl) (fun _ _ _ h => h) (Or.inl ⟨by rfl, ?_⟩) (by assumption) ?_
      rotate_left 1
      · (intro w hSw; (obtain ⟨s1, s2, s3, s4, s5⟩ := hSw); go_simp; try with_reducible rfl)
      try simp only [Act.put, List.getElem_toArray, List.getElem_cons_zero, List.getElem_cons_succ, List.setIfInBounds_toArray, List.set_cons_zero, List.set_cons_succ]
      refine wpAnyH_take (i := 3) (v := ?_) rfl (by kernel_rfl) (by kernel_rfl) (by kernel_rfl) (fun _ _ _ h => h) (Or.inl ⟨by rfl, ?_⟩) (by assumption) ?_
      rotate_left 1
      · (intro w hSw; (obtain ⟨s1, s2, s3, s4, s5⟩ := hSw); go_simp; try with_reducible rfl)
      try simp only [Act.put, List.getElem_toArray, List.getElem_cons_zero, List.getElem_cons_succ, List.setIfInBounds_toArray, List.set_cons_zero, List.set_cons_succ]
      refine wpAnyH_take (i := 4) (v := ?_) rfl (by kernel_rfl) (by kernel_rfl) (by kernel_rfl) (fun _ _ _ h => h) (Or.inl ⟨by rfl, ?_⟩) (by assumption) ?_
      rotate_left 1
      · (intro w hSw; (obtain ⟨s1, s2, s3, s4, s5⟩ := hSw); go_simp; try with_reducible rfl)
      try simp only [Act.put, List.getElem_toArray, List.getElem_cons_zero, List.getElem_cons_succ, List.setIfInBounds_toArray, List.set_cons_zero, List.set_cons_succ]
      refine wpAnyH_take (i := 5) (v := ?_) rfl (by kernel_rfl) (by kernel_rfl) (by kernel_rfl) (fun _ _ _ h => h) (Or.inl ⟨by rfl, ?_⟩) (by assumption) ?_
      rotate_left 1
      · (intro w hSw; (obtain ⟨s1, s2, s3, s4, s5⟩ := hSw); go_simp; try with_reducible rfl)
      try simp only [Act.put, List.getElem_toArray, List.getElem_cons_zero, List.getElem_cons_succ, List.setIfInBounds_toArray, List.set_cons_zero, List.set_cons_succ]
      refine wpAnyH_take (i := 6) (v := ?_) rfl (by kernel_rfl) (by kernel_rfl) (by kernel_rfl) (fun _ _ _ h => h) (Or.inl ⟨by rfl, ?_⟩) (by assumption) ?_
      rotate_left 1
      · (intro w hSw; (obtain ⟨s1, s2, s3, s4, s5⟩ := hSw); go_simp; try with_reducible rfl)
      try simp only [Act.put, List.getElem_toArray, List.getElem_cons_zero, List.getElem_cons_succ, List.setIfInBounds_toArray, List.set_cons_zero, List.set_cons_succ]
      refine wpAnyH_take (i := 7) (v := ?_) rfl (by kernel_rfl) (by kernel_rfl) (by kernel_rfl) (fun _ _ _ h => h) (Or.inl ⟨by rfl, ?_⟩) (by assumption) ?_
      rotate_left 1
      · (intro w hSw; (obtain ⟨s1, s2, s3, s4, s5⟩ := hSw); go_simp; try with_reducible rfl)
      try simp only [Act.put, List.getElem_toArray, List.getElem_cons_zero, List.getElem_cons_succ, List.setIfInBounds_toArray, List.set_cons_zero, List.set_cons_succ]
      refine wpAnyH_take (i := 8) (v := ?_) rfl (by kernel_rfl) (by kernel_rfl) (by kernel_rfl) (fun _ _ _ h => h) (Or.inl ⟨by rfl, ?_⟩) (by assumption) ?_
      rotate_left 1
      · (intro w hSw; (obtain ⟨s1, s2, s3, s4, s5⟩ := hSw); go_simp; try with_reducible rfl)
      try simp only [Act.put, List.getElem_toArray, List.getElem_cons_zero, List.getElem_cons_succ, List.setIfInBounds_toArray, List.set_cons_zero, List.set_cons_succ]
      refine wpAnyH_take (i := 9) (v := ?_) rfl (by kernel_rfl) (by kernel_rfl) (by kernel_rfl) (fun _ _ _ h => h) (Or.inl ⟨by rfl, ?_⟩) (by assumption) ?_
      rotate_left 1
      · (intro w hSw; (obtain ⟨s1, s2, s3, s4, s5⟩ := hSw); go_simp; try with_reducible rfl)
      try simp only [Act.put, List.getElem_toArray, List.getElem_cons_zero, List.getElem_cons_succ, List.setIfInBounds_toArray, List.set_cons_zero, List.set_cons_succ]
      refine wpAnyH_take (i := 10) (v := ?_) rfl (by kernel_rfl) (by kernel_rfl) (by kernel_rfl) (fun _ _ _ h => h) (Or.inl ⟨by rfl, ?_⟩) (by assumption) ?_
      rotate_left 1
      · (intro w hSw; (obtain ⟨s1, s2, s3, s4, s5⟩ := hSw); go_simp; try with_reducible rfl)
      try simp only [Act.put, List.getElem_toArray, List.getElem_cons_zero, List.getElem_cons_succ, List.setIfInBounds_toArray, List.set_cons_zero, List.set_cons_succ]
      refine wpAnyH_take (i := 11) (v := ?_) rfl (by kernel_rfl) (by kernel_rfl) (by kernel_rfl) (fun _ _ _ h => h) (Or.inl ⟨by rfl, ?_⟩) (by assumption) ?_
      rotate_left 1
      · (intro w hSw; (obtain ⟨s1, s2, s3, s4, s5⟩ := hSw); go_simp; try with_reducible rfl)
      try simp only [Act.put, List.getElem_toArray, List.getElem_cons_zero, List.getElem_cons_succ, List.setIfInBounds_toArray, List.set_cons_zero, List.set_cons_succ]
      refine wpAnyH_ready (rs := [12]) (by kernel_rfl) (by simp) ?_
      refine AllReadyH.cons rfl (fun K hK => ?_) AllReadyH.nil
      go_simp
      refine (cl _ GX.out).mono ?_
      rintro e w4 ⟨g, rfl, L4, g4⟩
      refine hK.out _ _ (hHeld.gr g4) (fun hHeld => ?_)
      clear hK K
      try simp only [Act.put, List.getElem_toArray, List.getElem_cons_zero, List.getElem_cons_succ, List.setIfInBounds_toArray, List.set_cons_zero, List.set_cons_succ]
      refine wpAnyH_take (i := 13) (v := ?_) rfl (by kernel_rfl) (by kernel_rfl) (by kernel_rfl) (fun _ _ _ h => h) (Or.inl ⟨by rfl, ?_⟩) (by assumption) ?_
      rotate_left 1
      · (intro w hSw; (obtain ⟨s1, s2, s3, s4, s5⟩ := hSw); go_simp; try with_reducible rfl)
      try simp only [Act.put, List.getElem_toArray, List.getElem_cons_zero, List.getElem_cons_succ, List.setIfInBounds_toArray, List.set_cons_zero, List.set_cons_succ]
      refine wpAnyH_take (i := 14) (v := ?_) rfl (by kernel_rfl) (by kernel_rfl) (by kernel_rfl) (fun _ _ _ h => h) (Or.inl ⟨by rfl, ?_⟩) (by assumption) ?_
      rotate_left 1
      · (intro w hSw; (obtain ⟨s1, s2, s3, s4, s5⟩ := hSw); go_simp; try with_reducible rfl)
      try simp only [Act.put, List.getElem_toArray, List.getElem_cons_zero, List.getElem_cons_succ, List.setIfInBounds_toArray, List.set_cons_zero, List.set_cons_succ]
      have X4 := (X1.out.gr g4).arr
      have q0 := (X4.cell (i := p) (by omega)).1
      have q1 := (X4.cell (i := p) (by omega)).2
      have f0 := X4.frozen (p * 2)
      have f1 := X4.frozen (p * 2 + 1)
      have XN := X1.out.step (by have := M.out; omega) g4 L4
      rw [← NR.out, ← NX.out] at XN
      have XN : Hid _ := XN
      clear X4 L4
      refine wpAnyH_ready (rs := [15]) (by kernel_rfl) (by simp) ?_
      refine AllReadyH.cons rfl (fun K hK => ?_) AllReadyH.nil
      go_simp
      refine hK.out _ _ (hHeld.set (Nat.le_refl _) _ _ _ _) (fun hHeld => ?_)
      clear hK K
      try simp only [Act.put, List.getElem_toArray, List.getElem_cons_zero, List.getElem_cons_succ, List.setIfInBounds_toArray, List.set_cons_zero, List.set_cons_succ]
      refine wpAnyH_done (by kernel_rfl) ?_ _
      go_wp2
      exact ⟨⟨p + 1, by go_num, hpn, XN.out⟩, by simp [intOf]; omega⟩
    · have hpi : ¬ (p : Int) < (n : Int) := by omega
      have epn : p = n := by omega
      subst epn
      obtain ⟨f, hX⟩ := X.out
      rw [M.out] at hX
      have q0 := (hX.arr.cell (i := p) (by omega)).1
      have q1 := (hX.arr.cell (i := p) (by omega)).2
      have f0 := hX.arr.frozen (p * 2)
      have f1 := hX.arr.frozen (p * 2 + 1)
      have XN : Hid _ := hX.mark N.out
      clear hX
      go_wp2
      go_ret
      exact ⟨_, rfl, XN.out⟩
end Go.Proofs.YtgcinompidmliaaR
