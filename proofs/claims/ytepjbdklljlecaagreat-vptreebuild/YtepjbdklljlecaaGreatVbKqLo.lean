/- law08's looks; a tree and a table beside it. -/
import Derived.Test.YtepjbdklljlecaaGreatVb47
import Derived.Test.YtepjbdklljlecaaGreatVb49
import Derived.Test.YtepjbdklljlecaaGreatVb48
import Derived.Test.YtepjbdklljlecaaGreatVb38
namespace Go.Proofs.YtepjbdklljlecaaGreat
open Go.RowKit Go.Sort

theorem klens {rs : List Rw} {d : Int} (hok : RowsOk rs d) : rs.length ≤ 4611686018427387904 ∧ ∀ r ∈ rs, r.2.length ≤ 4611686018427387904 := ⟨by have := hok.few; omega, fun r hr => by
  have := (chk_ok (hok.row r hr).2)
  have h1 := this.2.1
  omega⟩
/-- Rows that a call told are written over. -/
theorem kspoil_c {w0 w1 w2 : World} {v : Value} {rs : List Rw} (o : OwnC w1 w0.heap.size v rs) (g1 : Gb w0 w1) (g2 : Gb w1 w2) (hl : rs.length ≤ 512 ∧ ∀ r ∈ rs, r.2.length ≤ 4611686018427387904) :
    Calls Tryz.prog 35 #[v] w2 fun e w' => e = .returned (.tuple #[]) ∧ Gb w0 w' := by
  have o2 := o.gb g2
  obtain ⟨g, cap, e⟩ := o2.form
  obtain ⟨_, xs, ow, hx⟩ := o2
  obtain ⟨cur, b1, b2, b3, b4, b5⟩ := own_cur ow e
  subst e
  refine (spoilrows_c (Nat.le_refl _) (by omega) b1 b2 b3 (fun i hi => ?_)).mono ?_
  · obtain ⟨h1, u, h2, h3⟩ := hx i hi
    exact ⟨_, u, b5 _ _ h1, b5 _ _ h2, wi_own h3 (hl.2 _ (by rw [getElem!_pos rs i hi]; exact List.getElem_mem hi)) (fun g e => (World.ownsRow.lt h3 g e).2)⟩
  · rintro e w' ⟨rfl, m⟩
    exact ⟨rfl, m.gb (gb_trans g1 g2) (Nat.le_refl _)⟩
set_option maxRecDepth 100000 in
set_option maxHeartbeats 2000000 in
theorem klooks_c {Iq : Nat → Prop} {W : World} {tb ub m leaf : Nat} {rs : List Rw} {F G : List Nat} (ht : TreeAt Iq W tb m leaf rs F) (hm : TbAt W ub m rs G) :
    Calls Tryz.prog 15 #[.pointer (some ⟨tb, 0, none⟩), .pointer (some ⟨ub, 0, none⟩)] W fun e w' => e = .returned (.bool true) ∧ Gb W w' := by
  have HT : Hid (TreeAt Iq W tb m leaf rs F) := ht
  have HM : Hid (TbAt W ub m rs G) := hm
  have KL : Hid (rs.length ≤ 4611686018427387904 ∧ ∀ r ∈ rs, r.2.length ≤ 4611686018427387904) := klens ht.rok.1
  have K5 : Hid (rs.length ≤ 512) := ht.rok.1.few
  have cR := rows_c ht
  obtain ⟨a, cap, _, c1, rdm, _⟩ := hm.rd
  have RM : Hid (RdW W (.slice a rs.length cap) rs) := rdm
  clear ht hm rdm
  obtain ⟨n, hn⟩ : ∃ n, n = rs.length := ⟨_, rfl⟩
  have N : Hid (n = rs.length) := hn
  rw [← hn] at RM c1
  clear hn
  go_enter Tryz.func15, Tryz.ntmps15
  go_wp2_with fail
  refine cR.mono ?_
  rintro e w1 ⟨v1, rfl, o1, g1⟩
  have c1 := gb_keeps g1 c1
  have cK := fun W' (g : Gb w1 W') => krsame_c ((o1.gb g).rdw) ((RM.out.gb g1).gb g) KL.out.1 KL.out.2
  have cL : ∀ W', Gb w1 W' → Calls Tryz.prog 23 #[.pointer (some ⟨tb, 0, none⟩)] W' fun e w' => e = .returned (.int .i64 (n : Nat)) ∧ w' = W' := fun W' g => by
    rw [N.out]
    exact len_c (HT.out.gb (gb_trans g1 g))
  have OO : Hid (OwnC w1 W.heap.size v1 rs) := o1
  have G1 : Hid (Gb W w1) := g1
  obtain ⟨g, cp, e1⟩ := o1.form
  subst e1
  rw [← N.out] at OO cK ⊢
  have GD : Gb w1 w1.drew := ⟨rfl, rfl, rfl, Nat.le_refl _, fun _ _ => rfl⟩
  clear cR o1 g1
  go_wp2_with fail
  refine wp_region_held_drew (S := fun W => Gb w1 W) (by kernel_rfl) (GD) (fun hHeld => ?_)
  refine wpAnyH_take (i := 0) (v := ?_) rfl (by kernel_rfl) (by kernel_rfl) (by kernel_rfl) (fun _ _ _ h => h) (Or.inl ⟨by rfl, ?_⟩) (by assumption) ?_
  rotate_left 1
  · (intro w hSw; (have s1 := gb_keeps hSw c1); go_simp; try with_reducible rfl)
  refine wpAnyH_take (i := 1) (v := ?_) rfl (by kernel_rfl) (by kernel_rfl) (by kernel_rfl) (fun _ _ _ h => h) (Or.inl ⟨by rfl, ?_⟩) (by assumption) ?_
  rotate_left 1
  · (intro w hSw; (have s1 := gb_keeps hSw c1); go_simp; try with_reducible rfl)
  refine wpAnyH_take (i := 2) (v := ?_) rfl (by kernel_rfl) (by kernel_rfl) (by kernel_rfl) (fun _ _ _ h => h) (Or.inl ⟨by rfl, ?_⟩) (by assumption) ?_
  rotate_left 1
  · (intro w hSw; (have s1 := gb_keeps hSw c1); go_simp; try with_reducible rfl)
  refine wpAnyH_take (i := 3) (v := ?_) rfl (by kernel_rfl) (by kernel_rfl) (by kernel_rfl) (fun _ _ _ h => h) (Or.inl ⟨by rfl, ?_⟩) (by assumption) ?_
  rotate_left 1
  · (intro w hSw; (have s1 := gb_keeps hSw c1); go_simp; try with_reducible rfl)
  refine wpAnyH_take (i := 4) (v := ?_) rfl (by kernel_rfl) (by kernel_rfl) (by kernel_rfl) (fun _ _ _ h => h) (Or.inl ⟨by rfl, ?_⟩) (by assumption) ?_
  rotate_left 1
  · (intro w hSw; (have s1 := gb_keeps hSw c1); go_simp; try with_reducible rfl)
  refine wpAnyH_ready (rs := [5]) (by kernel_rfl) (by simp) ?_
  refine AllReadyH.cons rfl (fun K hK => ?_) AllReadyH.nil
  go_simp
  refine (cK _ hHeld).mono ?_
  rintro e w2 ⟨rfl, g2⟩
  refine hK.out _ _ (gb_trans hHeld g2) (fun hHeld => ?_)
  clear hK K
  refine wpAnyH_take (i := 6) (v := ?_) rfl (by kernel_rfl) (by kernel_rfl) (by kernel_rfl) (fun _ _ _ h => h) (Or.inl ⟨by rfl, ?_⟩) (by assumption) ?_
  rotate_left 1
  · (intro w hSw; (have s1 := gb_keeps hSw c1); go_simp; try with_reducible rfl)
  refine wpAnyH_take (i := 7) (v := ?_) rfl (by kernel_rfl) (by kernel_rfl) (by kernel_rfl) (fun _ _ _ h => h) (Or.inl ⟨by rfl, ?_⟩) (by assumption) ?_
  rotate_left 1
  · (intro w hSw; (have s1 := gb_keeps hSw c1); go_simp; try with_reducible rfl)
  refine wpAnyH_take (i := 9) (v := ?_) rfl (by kernel_rfl) (by kernel_rfl) (by kernel_rfl) (fun _ _ _ h => h) (Or.inl ⟨by rfl, ?_⟩) (by assumption) ?_
  rotate_left 1
  · (intro w hSw; (have s1 := gb_keeps hSw c1); go_simp; try with_reducible rfl)
  refine wpAnyH_take (i := 10) (v := ?_) rfl (by kernel_rfl) (by kernel_rfl) (by kernel_rfl) (fun _ _ _ h => h) (Or.inl ⟨by rfl, ?_⟩) (by assumption) ?_
  rotate_left 1
  · (intro w hSw; (have s1 := gb_keeps hSw c1); go_simp; try with_reducible rfl)
  refine wpAnyH_take (i := 11) (v := ?_) rfl (by kernel_rfl) (by kernel_rfl) (by kernel_rfl) (fun _ _ _ h => h) (Or.inl ⟨by rfl, ?_⟩) (by assumption) ?_
  rotate_left 1
  · (intro w hSw; (have s1 := gb_keeps hSw c1); go_simp; try with_reducible rfl)
  refine wpAnyH_take (i := 12) (v := ?_) rfl (by kernel_rfl) (by kernel_rfl) (by kernel_rfl) (fun _ _ _ h => h) (Or.inl ⟨by rfl, ?_⟩) (by assumption) ?_
  rotate_left 1
  · (intro w hSw; (have s1 := gb_keeps hSw c1); go_simp; try with_reducible rfl)
  refine wpAnyH_take (i := 13) (v := ?_) rfl (by kernel_rfl) (by kernel_rfl) (by kernel_rfl) (fun _ _ _ h => h) (Or.inl ⟨by rfl, ?_⟩) (by assumption) ?_
  rotate_left 1
  · (intro w hSw; (have s1 := gb_keeps hSw c1); go_simp; try with_reducible rfl)
  refine wpAnyH_ready (rs := [8]) (by kernel_rfl) (by simp) ?_
  refine AllReadyH.cons rfl (fun K hK => ?_) AllReadyH.nil
  go_simp
  refine (cL _ hHeld).mono ?_
  rintro e w3 ⟨rfl, e3⟩
  subst e3
  refine hK.out _ _ (hHeld) (fun hHeld => ?_)
  clear hK K
  refine wpAnyH_take (i := 14) (v := ?_) rfl (by kernel_rfl) (by kernel_rfl) (by kernel_rfl) (fun _ _ _ h => h) (Or.inl ⟨by rfl, ?_⟩) (by assumption) ?_
  rotate_left 1
  · (intro w hSw; (have s1 := gb_keeps hSw c1); go_simp; try with_reducible rfl)
  refine wpAnyH_take (i := 15) (v := ?_) rfl (by kernel_rfl) (by kernel_rfl) (by kernel_rfl) (fun _ _ _ h => h) (Or.inl ⟨by rfl, ?_⟩) (by assumption) ?_
  rotate_left 1
  · (intro w hSw; (have s1 := gb_keeps hSw c1); go_simp; try with_reducible rfl)
  refine wpAnyH_take (i := 16) (v := ?_) rfl (by kernel_rfl) (by kernel_rfl) (by kernel_rfl) (fun _ _ _ h => h) (Or.inl ⟨by rfl, ?_⟩) (by assumption) ?_
  rotate_left 1
  · (intro w hSw; (have s1 := gb_keeps hSw c1); go_simp; try with_reducible rfl)
  refine wpAnyH_done (by kernel_rfl) ?_ _
  have G2 : Hid (Gb w1 w3) := hHeld
  have cS := kspoil_c OO.out G1.out G2.out ⟨K5.out, KL.out.2⟩
  clear hHeld cK cL c1 GD
  go_wp2_with fail
  refine cS.mono ?_
  rintro e w4 ⟨rfl, g4⟩
  clear cS
  go_wp2
  go_ret
  exact ⟨rfl, g4⟩
end Go.Proofs.YtepjbdklljlecaaGreat
