/- theodolitekeep.Rows: of two lists of rows that read as the same. -/
import Derived.Test.YtmlincnmhjkjgaaCy24
namespace Go.Proofs.Ytmlincnmhjkjgaa
open Go.RowKit Go.Sort

set_option maxRecDepth 100000 in
set_option maxHeartbeats 2000000 in
theorem krsame_c {w : World} {u v : Value} {l : List Rw} (hu : RdW w u l) (hv : RdW w v l) (hn : l.length ≤ 4611686018427387904) (hr : ∀ r ∈ l, r.2.length ≤ 4611686018427387904) :
    Calls Try.prog 10 #[u, v] w fun e w' => e = .returned (.bool true) ∧ Gb w w' := by
  have A : Hid (RdW w u l) := hu
  have B : Hid (RdW w v l) := hv
  have R : Hid (∀ r ∈ l, r.2.length ≤ 4611686018427387904) := hr
  obtain ⟨au, cu, eu, _⟩ := hu
  obtain ⟨av, cv, ev, _⟩ := hv
  subst eu ev
  obtain ⟨n, hN⟩ : ∃ n, n = l.length := ⟨_, rfl⟩
  have N : Hid (n = l.length) := hN
  rw [← hN] at A B hn ⊢
  clear hN hr
  go_enter Try.func10, Try.ntmps10
  go_wp2
  go_loopw [5] (fun iv W => ∃ p : Nat, iv = .int .i64 (p : Int) ∧ p ≤ n ∧ Hid (Gb w W)) (fun iv _ => n - (intOf iv).toNat)
  case atStart => exact ⟨0, rfl, Nat.zero_le _, Below.refl _ _⟩
  case round =>
    obtain ⟨p, rfl, hp, X⟩ := hrel
    by_cases hpn : p < n
    · have hpi : (p : Int) < (n : Int) := by omega
      have hpl : p < l.length := by have := N.out; omega
      obtain ⟨_, _, ea, hA⟩ := A.out
      obtain ⟨b1, o1, x1, e1, a0, a1, r1⟩ := hA p hpl
      obtain ⟨_, _, eb, hB⟩ := B.out
      obtain ⟨b2, o2, y1, e2, k0, k1, t1⟩ := hB p hpl
      injection ea with ea1 ea2 ea3
      injection eb with eb1 eb2 eb3
      subst ea1; subst eb1; subst e1; subst e2
      clear hA hB ea2 ea3 eb2 eb3
      have fw := R.out l[p]! (by rw [getElem!_pos l p hpl]; exact List.getElem_mem hpl)
      have ci := fun W (g : Gb w W) => ints_v (r1.gb g) (t1.gb g) fw true (by simp)
      have a0 := gb_keeps X.out a0
      have a1 := gb_keeps X.out a1
      have k0 := gb_keeps X.out k0
      have k1 := gb_keeps X.out k1
      obtain ⟨u1, u2, e, z0⟩ := r1; subst e
      obtain ⟨u3, u4, e, z1⟩ := t1; subst e
      have GD : Gb wr wr.drew := ⟨rfl, rfl, rfl, Nat.le_refl _, fun _ _ => rfl⟩
      generalize l[p]!.2.length = z at *
      generalize l[p]!.1 = x at *
      clear z0 z1 fw hpl
      go_wp2_with fail
      refine wp_region_held_drew (S := fun W => Gb wr W) (by kernel_rfl) (GD) (fun hHeld => ?_)
      refine wpAnyH_take (i := 0) (v := ?_) rfl (by kernel_rfl) (by kernel_rfl) (by kernel_rfl) (fun _ _ _ h => h) (Or.inl ⟨by rfl, ?_⟩) (by assumption) ?_
      rotate_left 1
      · (intro w hSw; (have s0 := gb_keeps hSw a0; have s1 := gb_keeps hSw a1; have s2 := gb_keeps hSw k0; have s3 := gb_keeps hSw k1); go_simp; try with_reducible rfl)
      try simp only [Act.put, List.getElem_toArray, List.getElem_cons_zero, List.setIfInBounds_toArray, List.set_cons_zero, List.set_cons_succ]
      refine wpAnyH_take (i := 1) (v := ?_) rfl (by kernel_rfl) (by kernel_rfl) (by kernel_rfl) (fun _ _ _ h => h) (Or.inl ⟨by rfl, ?_⟩) (by assumption) ?_
      rotate_left 1
      · (intro w hSw; (have s0 := gb_keeps hSw a0; have s1 := gb_keeps hSw a1; have s2 := gb_keeps hSw k0; have s3 := gb_keeps hSw k1); go_simp; try with_reducible rfl)
      try simp only [Act.put, List.getElem_toArray, List.getElem_cons_zero, List.getElem_cons_succ, List.setIfInBounds_toArray, List.set_cons_zero, List.set_cons_succ]
      refine wpAnyH_take (i := 2) (v := ?_) rfl (by kernel_rfl) (by kernel_rfl) (by kernel_rfl) (fun _ _ _ h => h) (Or.inl ⟨by rfl, ?_⟩) (by assumption) ?_
      rotate_left 1
      · (intro w hSw; (have s0 := gb_keeps hSw a0; have s1 := gb_keeps hSw a1; have s2 := gb_keeps hSw k0; have s3 := gb_keeps hSw k1); go_simp; try with_reducible rfl)
      try simp only [Act.put, List.getElem_toArray, List.getElem_cons_zero, List.getElem_cons_succ, List.setIfInBounds_toArray, List.set_cons_zero, List.set_cons_succ]
      refine wpAnyH_take (i := 3) (v := ?_) rfl (by kernel_rfl) (by kernel_rfl) (by kernel_rfl) (fun _ _ _ h => h) (Or.inl ⟨by rfl, ?_⟩) (by assumption) ?_
      rotate_left 1
      · (intro w hSw; (have s0 := gb_keeps hSw a0; have s1 := gb_keeps hSw a1; have s2 := gb_keeps hSw k0; have s3 := gb_keeps hSw k1); go_simp; try with_reducible rfl)
      try simp only [Act.put, List.getElem_toArray, List.getElem_cons_zero, List.getElem_cons_succ, List.setIfInBounds_toArray, List.set_cons_zero, List.set_cons_succ]
      refine wpAnyH_take (i := 4) (v := ?_) rfl (by kernel_rfl) (by kernel_rfl) (by kernel_rfl) (fun _ _ _ h => h) (Or.inl ⟨by rfl, ?_⟩) (by assumption) ?_
      rotate_left 1
      · (intro w hSw; (have s0 := gb_keeps hSw a0; have s1 := gb_keeps hSw a1; have s2 := gb_keeps hSw k0; have s3 := gb_keeps hSw k1); go_simp; try with_reducible rfl)
      try simp only [Act.put, List.getElem_toArray, List.getElem_cons_zero, List.getElem_cons_succ, List.setIfInBounds_toArray, List.set_cons_zero, List.set_cons_succ]
      refine wpAnyH_take (i := 5) (v := ?_) rfl (by kernel_rfl) (by kernel_rfl) (by kernel_rfl) (fun _ _ _ h => h) (Or.inl ⟨by rfl, ?_⟩) (by assumption) ?_
      rotate_left 1
      · (intro w hSw; (have s0 := gb_keeps hSw a0; have s1 := gb_keeps hSw a1; have s2 := gb_keeps hSw k0; have s3 := gb_keeps hSw k1); go_simp; try with_reducible rfl)
      try simp only [Act.put, List.getElem_toArray, List.getElem_cons_zero, List.getElem_cons_succ, List.setIfInBounds_toArray, List.set_cons_zero, List.set_cons_succ]
      refine wpAnyH_take (i := 6) (v := ?_) rfl (by kernel_rfl) (by kernel_rfl) (by kernel_rfl) (fun _ _ _ h => h) (Or.inl ⟨by rfl, ?_⟩) (by assumption) ?_
      rotate_left 1
      · (intro w hSw; (have s0 := gb_keeps hSw a0; have s1 := gb_keeps hSw a1; have s2 := gb_keeps hSw k0; have s3 := gb_keeps hSw k1); go_simp; try with_reducible rfl)
      try simp only [Act.put, List.getElem_toArray, List.getElem_cons_zero, List.getElem_cons_succ, List.setIfInBounds_toArray, List.set_cons_zero, List.set_cons_succ]
      refine wpAnyH_take (i := 7) (v := ?_) rfl (by kernel_rfl) (by kernel_rfl) (by kernel_rfl) (fun _ _ _ h => h) (Or.inl ⟨by rfl, ?_⟩) (by assumption) ?_
      rotate_left 1
      · (intro w hSw; (have s0 := gb_keeps hSw a0; have s1 := gb_keeps hSw a1; have s2 := gb_keeps hSw k0; have s3 := gb_keeps hSw k1); go_simp; try with_reducible rfl)
      try simp only [Act.put, List.getElem_toArray, List.getElem_cons_zero, List.getElem_cons_succ, List.setIfInBounds_toArray, List.set_cons_zero, List.set_cons_succ]
      refine wpAnyH_take (i := 8) (v := ?_) rfl (by kernel_rfl) (by kernel_rfl) (by kernel_rfl) (fun _ _ _ h => h) (Or.inl ⟨by rfl, ?_⟩) (by assumption) ?_
      rotate_left 1
      · (intro w hSw; (have s0 := gb_keeps hSw a0; have s1 := gb_keeps hSw a1; have s2 := gb_keeps hSw k0; have s3 := gb_keeps hSw k1); go_simp; try with_reducible rfl)
      try simp only [Act.put, List.getElem_toArray, List.getElem_cons_zero, List.getElem_cons_succ, List.setIfInBounds_toArray, List.set_cons_zero, List.set_cons_succ]
      refine wpAnyH_take (i := 9) (v := ?_) rfl (by kernel_rfl) (by kernel_rfl) (by kernel_rfl) (fun _ _ _ h => h) (Or.inl ⟨by rfl, ?_⟩) (by assumption) ?_
      rotate_left 1
      · (intro w hSw; (have s0 := gb_keeps hSw a0; have s1 := gb_keeps hSw a1; have s2 := gb_keeps hSw k0; have s3 := gb_keeps hSw k1); go_simp; try with_reducible rfl)
      try simp only [Act.put, List.getElem_toArray, List.getElem_cons_zero, List.getElem_cons_succ, List.setIfInBounds_toArray, List.set_cons_zero, List.set_cons_succ]
      refine wpAnyH_take (i := 10) (v := ?_) rfl (by kernel_rfl) (by kernel_rfl) (by kernel_rfl) (fun _ _ _ h => h) (Or.inl ⟨by rfl, ?_⟩) (by assumption) ?_
      rotate_left 1
      · (intro w hSw; (have s0 := gb_keeps hSw a0; have s1 := gb_keeps hSw a1; have s2 := gb_keeps hSw k0; have s3 := gb_keeps hSw k1); go_simp; try with_reducible rfl)
      try simp only [Act.put, List.getElem_toArray, List.getElem_cons_zero, List.getElem_cons_succ, List.setIfInBounds_toArray, List.set_cons_zero, List.set_cons_succ]
      refine wpAnyH_take (i := 11) (v := ?_) rfl (by kernel_rfl) (by kernel_rfl) (by kernel_rfl) (fun _ _ _ h => h) (Or.inl ⟨by rfl, ?_⟩) (by assumption) ?_
      rotate_left 1
      · (intro w hSw; (have s0 := gb_keeps hSw a0; have s1 := gb_keeps hSw a1; have s2 := gb_keeps hSw k0; have s3 := gb_keeps hSw k1); go_simp; try with_reducible rfl)
      try simp only [Act.put, List.getElem_toArray, List.getElem_cons_zero, List.getElem_cons_succ, List.setIfInBounds_toArray, List.set_cons_zero, List.set_cons_succ]
      refine wpAnyH_take (i := 12) (v := ?_) rfl (by kernel_rfl) (by kernel_rfl) (by kernel_rfl) (fun _ _ _ h => h) (Or.inl ⟨by rfl, ?_⟩) (by assumption) ?_
      rotate_left 1
      · (intro w hSw; (have s0 := gb_keeps hSw a0; have s1 := gb_keeps hSw a1; have s2 := gb_keeps hSw k0; have s3 := gb_keeps hSw k1); go_simp; try with_reducible rfl)
      try simp only [Act.put, List.getElem_toArray, List.getElem_cons_zero, List.getElem_cons_succ, List.setIfInBounds_toArray, List.set_cons_zero, List.set_cons_succ]
      refine wpAnyH_take (i := 13) (v := ?_) rfl (by kernel_rfl) (by kernel_rfl) (by kernel_rfl) (fun _ _ _ h => h) (Or.inl ⟨by rfl, ?_⟩) (by assumption) ?_
      rotate_left 1
      · (intro w hSw; (have s0 := gb_keeps hSw a0; have s1 := gb_keeps hSw a1; have s2 := gb_keeps hSw k0; have s3 := gb_keeps hSw k1); go_simp; try with_reducible rfl)
      try simp only [Act.put, List.getElem_toArray, List.getElem_cons_zero, List.getElem_cons_succ, List.setIfInBounds_toArray, List.set_cons_zero, List.set_cons_succ]
      refine wpAnyH_take (i := 14) (v := ?_) rfl (by kernel_rfl) (by kernel_rfl) (by kernel_rfl) (fun _ _ _ h => h) (Or.inl ⟨by rfl, ?_⟩) (by assumption) ?_
      rotate_left 1
      · (intro w hSw; (have s0 := gb_keeps hSw a0; have s1 := gb_keeps hSw a1; have s2 := gb_keeps hSw k0; have s3 := gb_keeps hSw k1); go_simp; try with_reducible rfl)
      try simp only [Act.put, List.getElem_toArray, List.getElem_cons_zero, List.getElem_cons_succ, List.setIfInBounds_toArray, List.set_cons_zero, List.set_cons_succ]
      refine wpAnyH_take (i := 15) (v := ?_) rfl (by kernel_rfl) (by kernel_rfl) (by kernel_rfl) (fun _ _ _ h => h) (Or.inl ⟨by rfl, ?_⟩) (by assumption) ?_
      rotate_left 1
      · (intro w hSw; (have s0 := gb_keeps hSw a0; have s1 := gb_keeps hSw a1; have s2 := gb_keeps hSw k0; have s3 := gb_keeps hSw k1); go_simp; try with_reducible rfl)
      try simp only [Act.put, List.getElem_toArray, List.getElem_cons_zero, List.getElem_cons_succ, List.setIfInBounds_toArray, List.set_cons_zero, List.set_cons_succ]
      refine wpAnyH_take (i := 16) (v := ?_) rfl (by kernel_rfl) (by kernel_rfl) (by kernel_rfl) (fun _ _ _ h => h) (Or.inl ⟨by rfl, ?_⟩) (by assumption) ?_
      rotate_left 1
      · (intro w hSw; (have s0 := gb_keeps hSw a0; have s1 := gb_keeps hSw a1; have s2 := gb_keeps hSw k0; have s3 := gb_keeps hSw k1); go_simp; try with_reducible rfl)
      try simp only [Act.put, List.getElem_toArray, List.getElem_cons_zero, List.getElem_cons_succ, List.setIfInBounds_toArray, List.set_cons_zero, List.set_cons_succ]
      refine wpAnyH_take (i := 17) (v := ?_) rfl (by kernel_rfl) (by kernel_rfl) (by kernel_rfl) (fun _ _ _ h => h) (Or.inl ⟨by rfl, ?_⟩) (by assumption) ?_
      rotate_left 1
      · (intro w hSw; (have s0 := gb_keeps hSw a0; have s1 := gb_keeps hSw a1; have s2 := gb_keeps hSw k0; have s3 := gb_keeps hSw k1); go_simp; try with_reducible rfl)
      try simp only [Act.put, List.getElem_toArray, List.getElem_cons_zero, List.getElem_cons_succ, List.setIfInBounds_toArray, List.set_cons_zero, List.set_cons_succ]
      refine wpAnyH_take (i := 18) (v := ?_) rfl (by kernel_rfl) (by kernel_rfl) (by kernel_rfl) (fun _ _ _ h => h) (Or.inl ⟨by rfl, ?_⟩) (by assumption) ?_
      rotate_left 1
      · (intro w hSw; (have s0 := gb_keeps hSw a0; have s1 := gb_keeps hSw a1; have s2 := gb_keeps hSw k0; have s3 := gb_keeps hSw k1); go_simp; try with_reducible rfl)
      try simp only [Act.put, List.getElem_toArray, List.getElem_cons_zero, List.getElem_cons_succ, List.setIfInBounds_toArray, List.set_cons_zero, List.set_cons_succ]
      refine wpAnyH_take (i := 19) (v := ?_) rfl (by kernel_rfl) (by kernel_rfl) (by kernel_rfl) (fun _ _ _ h => h) (Or.inl ⟨by rfl, ?_⟩) (by assumption) ?_
      rotate_left 1
      · (intro w hSw; (have s0 := gb_keeps hSw a0; have s1 := gb_keeps hSw a1; have s2 := gb_keeps hSw k0; have s3 := gb_keeps hSw k1); go_simp; try with_reducible rfl)
      try simp only [Act.put, List.getElem_toArray, List.getElem_cons_zero, List.getElem_cons_succ, List.setIfInBounds_toArray, List.set_cons_zero, List.set_cons_succ]
      refine wpAnyH_take (i := 20) (v := ?_) rfl (by kernel_rfl) (by kernel_rfl) (by kernel_rfl) (fun _ _ _ h => h) (Or.inl ⟨by rfl, ?_⟩) (by assumption) ?_
      rotate_left 1
      · (intro w hSw; (have s0 := gb_keeps hSw a0; have s1 := gb_keeps hSw a1; have s2 := gb_keeps hSw k0; have s3 := gb_keeps hSw k1); go_simp; try with_reducible rfl)
      try simp only [Act.put, List.getElem_toArray, List.getElem_cons_zero, List.getElem_cons_succ, List.setIfInBounds_toArray, List.set_cons_zero, List.set_cons_succ]
      refine wpAnyH_take (i := 21) (v := ?_) rfl (by kernel_rfl) (by kernel_rfl) (by kernel_rfl) (fun _ _ _ h => h) (Or.inl ⟨by rfl, ?_⟩) (by assumption) ?_
      rotate_left 1
      · (intro w hSw; (have s0 := gb_keeps hSw a0; have s1 := gb_keeps hSw a1; have s2 := gb_keeps hSw k0; have s3 := gb_keeps hSw k1); go_simp; try with_reducible rfl)
      try simp only [Act.put, List.getElem_toArray, List.getElem_cons_zero, List.getElem_cons_succ, List.setIfInBounds_toArray, List.set_cons_zero, List.set_cons_succ]
      refine wpAnyH_ready (rs := [22]) (by kernel_rfl) (by simp) ?_
      refine AllReadyH.cons rfl (fun K hK => ?_) AllReadyH.nil
      go_simp
      refine (ci _ (gb_trans X.out hHeld)).mono ?_
      rintro e w4 ⟨rfl, g4⟩
      refine hK.out _ _ (gb_trans hHeld g4.gb) (fun hHeld => ?_)
      clear hK K
      try simp only [Act.put, List.getElem_toArray, List.getElem_cons_zero, List.getElem_cons_succ, List.setIfInBounds_toArray, List.set_cons_zero, List.set_cons_succ]
      refine wpAnyH_take (i := 23) (v := ?_) rfl (by kernel_rfl) (by kernel_rfl) (by kernel_rfl) (fun _ _ _ h => h) (Or.inl ⟨by rfl, ?_⟩) (by assumption) ?_
      rotate_left 1
      · (intro w hSw; (have s0 := gb_keeps hSw a0; have s1 := gb_keeps hSw a1; have s2 := gb_keeps hSw k0; have s3 := gb_keeps hSw k1); go_simp; try with_reducible rfl)
      try simp only [Act.put, List.getElem_toArray, List.getElem_cons_zero, List.getElem_cons_succ, List.setIfInBounds_toArray, List.set_cons_zero, List.set_cons_succ]
      refine wpAnyH_take (i := 24) (v := ?_) rfl (by kernel_rfl) (by kernel_rfl) (by kernel_rfl) (fun _ _ _ h => h) (Or.inl ⟨by rfl, ?_⟩) (by assumption) ?_
      rotate_left 1
      · (intro w hSw; (have s0 := gb_keeps hSw a0; have s1 := gb_keeps hSw a1; have s2 := gb_keeps hSw k0; have s3 := gb_keeps hSw k1); go_simp; try with_reducible rfl)
      try simp only [Act.put, List.getElem_toArray, List.getElem_cons_zero, List.getElem_cons_succ, List.setIfInBounds_toArray, List.set_cons_zero, List.set_cons_succ]
      refine wpAnyH_done (by kernel_rfl) ?_ _
      have X4 : Hid (Gb w w4) := gb_trans X.out hHeld
      clear hHeld ci a0 a1 k0 k1 X GD
      go_wp2
      go_roundw
      case rel => exact ⟨p + 1, by first | rfl | go_num, hpn, X4⟩
      case measure => simp [intOf]; omega
    · have hpi : ¬ (p : Int) < (n : Int) := by omega
      go_wp2
      go_ret
      exact ⟨rfl, X.out⟩
end Go.Proofs.Ytmlincnmhjkjgaa
