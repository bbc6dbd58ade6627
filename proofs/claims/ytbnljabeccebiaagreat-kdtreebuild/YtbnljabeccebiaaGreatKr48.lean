import Derived.Test.YtbnljabeccebiaaGreatKr43
import Derived.Test.YtbnljabeccebiaaGreatKr46
import Derived.Test.YtbnljabeccebiaaGreatKrFKr
import Derived.Test.YtbnljabeccebiaaGreatKr45
import Derived.Test.YtbnljabeccebiaaGreatKr3
import Derived.Test.YtbnljabeccebiaaGreatKr40
/- law07's looks; a tree and a table beside it. -/
namespace Go.Proofs.YtbnljabeccebiaaGreat
open Go.RowKit Go.Sort

theorem klens {rs : List Rw} {d : Int} (hok : RowsOk rs d) : rs.length ≤ 4611686018427387904 ∧ ∀ r ∈ rs, r.2.length ≤ 4611686018427387904 := ⟨by have := hok.few; omega, fun r hr => by
  have := (chk_ok (hok.row r hr).2)
  have h1 := this.2.1
  omega⟩
/-- Rows that a call told are written over. -/
theorem kspoil_c {w0 w1 w2 : World} {v : Value} {rs : List Rw} (o : OwnC w1 w0.heap.size v rs) (g1 : Gb w0 w1) (g2 : Gb w1 w2) (hl : rs.length ≤ 512 ∧ ∀ r ∈ rs, r.2.length ≤ 4611686018427387904) :
    Calls Tryz.prog 35 #[v] w2 fun e w' => e = .returned (.tuple #[]) ∧ Gb w0 w' := by
  have o2 := o.gb g2
  obtain ⟨g, cap, e⟩ := o2.form
  obtain ⟨_, xs, ow, hx⟩ := o2
  obtain ⟨cur, b1, b2, b3, b4, b5⟩ := own_cur ow e
  subst e
  refine (spoilrows_c (Nat.le_refl _) (by omega) b1 b2 b3 (fun i hi => ?_)).mono ?_
  · obtain ⟨h1, u, h2, h3⟩ := hx i hi
    exact ⟨_, u, b5 _ _ h1, b5 _ _ h2, wi_own h3 (hl.2 _ (by rw [getElem!_pos rs i hi]; exact List.getElem_mem hi)) (fun g e => (World.ownsRow.lt h3 g e).2)⟩
  · rintro e w' ⟨rfl, m⟩
    exact ⟨rfl, m.gb (gb_trans g1 g2) (Nat.le_refl _)⟩
set_option maxRecDepth 100000 in
set_option maxHeartbeats 2000000 in
theorem klooks_c {Iq : Nat → Prop} {W : World} {tb ub m leaf : Nat} {rs : List Rw} {F G : List Nat} (ht : TreeAt Iq W tb m leaf rs F) (hm : TbAt W ub m rs G) :
    Calls Tryz.prog 15 #[.pointer (some ⟨tb, 0, none⟩), .pointer (some ⟨ub, 0, none⟩)] W fun e w' => e = .returned (.bool true) ∧ Gb W w' := by
  have HT : Hid (TreeAt Iq W tb m leaf rs F) := ht
  have HM : Hid (TbAt W ub m rs G) := hm
  have KL : Hid (rs.length ≤ 4611686018427387904 ∧ ∀ r ∈ rs, r.2.length ≤ 4611686018427387904) := klens ht.rok.1
  have K5 : Hid (rs.length ≤ 512) := ht.rok.1.few
  have cR := rows_c ht
  obtain ⟨a, cap, _, c1, rdm, _⟩ := hm.rd
  have RM : Hid (RdW W (.slice a rs.length cap) rs) := rdm
  clear ht hm rdm
  obtain ⟨n, hn⟩ : ∃ n, n = rs.length := ⟨_, rfl⟩
  have N : Hid (n = rs.length) := hn
  rw [← hn] at RM c1
  clear hn
  go_enter Tryz.func15, Tryz.ntmps15
  go_wp2_with fail
  refine cR.mono ?_
  rintro e w1 ⟨v1, rfl, o1, g1⟩
  have c1 := gb_keeps g1 c1
  have cK := fun W' (g : Gb w1 W') => krsame_c ((o1.gb g).rdw) ((RM.out.gb g1).gb g) KL.out.1 KL.out.2
  have cL : ∀ W', Gb w1 W' → Calls Tryz.prog 23 #[.pointer (some ⟨tb, 0, none⟩)] W' fun e w' => e = .returned (.int .i64 (n : Nat)) ∧ w' = W' := fun W' g => by
    rw [N.out]
    exact len_c (HT.out.gb (gb_trans g1 g))
  have OO : Hid (OwnC w1 W.heap.size v1 rs) := o1
  have G1 : Hid (Gb W w1) := g1
  obtain ⟨g, cp, e1⟩ := o1.form
  subst e1
  rw [← N.out] at OO cK ⊢
  have GD : Gb w1 w1.drew := ⟨rfl, rfl, rfl, Nat.le_refl _, fun _ _ => rfl⟩
  clear cR o1 g1
  go_wp2_with fail
  refine wp_region_held_drew (S := fun W => Gb w1 W) (by kernel_rfl) (GD) (fun hHeld => ?_)
  refine wpAnyH_take (i := 0) (v := ?_) rfl (by kernel_rfl) (by kernel_rfl) (by kernel_rfl) (fun _ _ _ h => h) (Or.inl ⟨by rfl, ?_⟩) (by assumption) ?_
  rotate_left 1
  · (intro w hSw; (have s1 := gb_keeps hSw c1); go_simp; try with_reducible rfl)
  try simp only [Act.put, List.getElem_toArray, List.getElem_cons_zero, List.setIfInBounds_toArray, List.set_cons_zero, List.set_cons_succ]
  refine wpAnyH_take (i := 1) (v := ?_) rfl (by kernel_rfl) (by kernel_rfl) (by kernel_rfl) (fun _ _ _ h => h) (Or.inl ⟨by rfl, ?_⟩) (by assumption) ?_
  rotate_left 1
  · (intro w hSw; (have s1 := gb_keeps hSw c1); go_simp; try with_reducible rfl)
  try simp only [Act.put, List.getElem_toArray, List.getElem_cons_zero, List.getElem_cons_succ, List.setIfInBounds_toArray, List.set_cons_zero, List.set_cons_succ]
  refine wpAnyH_take (i := 2) (v := ?_) rfl (by kernel_rfl) (by kernel_rfl) (by kernel_rfl) (fun _ _ _ h => h) (Or.inl ⟨by rfl, ?_⟩) (by assumption) ?_
  rotate_left 1
  · (intro w hSw; (have s1 := gb_keeps hSw c1); go_simp; try with_reducible rfl)
  try simp only [Act.put, List.getElem_toArray, List.getElem_cons_zero, List.getElem_cons_succ, List.setIfInBounds_toArray, List.set_cons_zero, List.set_cons_succ]
  refine wpAnyH_take (i := 3) (v := ?_) rfl (by kernel_rfl) (by kernel_rfl) (by kernel_rfl) (fun _ _ _ h => h) (Or.inl ⟨by rfl, ?_⟩) (by assumption) ?_
  rotate_left 1
  · (intro w hSw; (have s1 := gb_keeps hSw c1); go_simp; try with_reducible rfl)
  try simp only [Act.put, List.getElem_toArray, List.getElem_cons_zero, List.getElem_cons_succ, List.setIfInBounds_toArray, List.set_cons_zero, List.set_cons_succ]
  refine wpAnyH_take (i := 4) (v := ?_) rfl (by kernel_rfl) (by kernel_rfl) (by kernel_rfl) (fun _ _ _ h => h) (Or.inl ⟨by rfl, ?_⟩) (by assumption) ?_
  rotate_left 1
  · (intro w hSw; (have s1 := gb_keeps hSw c1); go_simp; try with_reducible rfl)
  try simp only [Act.put, List.getElem_toArray, List.getElem_cons_zero, List.getElem_cons_succ, List.setIfInBounds_toArray, List.set_cons_zero, List.set_cons_succ]
  refine wpAnyH_ready (rs := [5]) (by kernel_rfl) (by simp) ?_
  refine AllReadyH.cons rfl (fun K hK => ?_) AllReadyH.nil
  go_simp
  refine (cK _ hHeld).mono ?_
  rintro e w2 ⟨rfl, g2⟩
  refine hK.out _ _ (gb_trans hHeld g2) (fun hHeld => ?_)
  clear hK K
  try simp only [Act.put, List.getElem_toArray, List.getElem_cons_zero, List.getElem_cons_succ, List.setIfInBounds_toArray, List.set_cons_zero, List.set_cons_succ]
  refine wpAnyH_take (i := 6) (v := ?_) rfl (by kernel_rfl) (by kernel_rfl) (by kernel_rfl) (fun _ _ _ h => h) (Or.inl ⟨by rfl, ?_⟩) (by assumption) ?_
  rotate_left 1
  · (intro w hSw; (have s1 := gb_keeps hSw c1); go_simp; try with_reducible rfl)
  try simp only [Act.put, List.getElem_toArray, List.getElem_cons_zero, List.getElem_cons_succ, List.setIfInBounds_toArray, List.set_cons_zero, List.set_cons_succ]
  refine wpAnyH_take (i := 7) (v := ?_) rfl (by kernel_rfl) (by kernel_rfl) (by kernel_rfl) (fun _ _ _ h => h) (Or.inl ⟨by rfl, ?_⟩) (by assumption) ?_
  rotate_left 1
  · (intro w hSw; (have s1 := gb_keeps hSw c1); go_simp; try with_reducible rfl)
  try simp only [Act.put, List.getElem_toArray, List.getElem_cons_zero, List.getElem_cons_succ, List.setIfInBounds_toArray, List.set_cons_zero, List.set_cons_succ]
  refine wpAnyH_take (i := 9) (v := ?_) rfl (by kernel_rfl) (by kernel_rfl) (by kernel_rfl) (fun _ _ _ h => h) (Or.inl ⟨by rfl, ?_⟩) (by assumption) ?_
  rotate_left 1
  · (intro w hSw; (have s1 := gb_keeps hSw c1); go_simp; try with_reducible rfl)
  try simp only [Act.put, List.getElem_toArray, List.getElem_cons_zero, List.getElem_cons_succ, List.setIfInBounds_toArray, List.set_cons_zero, List.set_cons_succ]
  refine wpAnyH_take (i := 10) (v := ?_) rfl (by kernel_rfl) (by kernel_rfl) (by kernel_rfl) (fun _ _ _ h => h) (Or.inl ⟨by rfl, ?_⟩) (by assumption) ?_
  rotate_left 1
  · (intro w hSw; (have s1 := gb_keeps hSw c1); go_simp; try with_reducible rfl)
  try simp only [Act.put, List.getElem_toArray, List.getElem_cons_zero, List.getElem_cons_succ, List.setIfInBounds_toArray, List.set_cons_zero, List.set_cons_succ]
  refine wpAnyH_take (i := 11) (v := ?_) rfl (by kernel_rfl) (by kernel_rfl) (by kernel_rfl) (fun _ _ _ h => h) (Or.inl ⟨by rfl, ?_⟩) (by assumption) ?_
  rotate_left 1
  · (intro w hSw; (have s1 := gb_keeps hSw c1); go_simp; try with_reducible rfl)
  try simp only [Act.put, List.getElem_toArray, List.getElem_cons_zero, List.getElem_cons_succ, List.setIfInBounds_toArray, List.set_cons_zero, List.set_cons_succ]
  refine wpAnyH_take (i := 12) (v := ?_) rfl (by kernel_rfl) (by kernel_rfl) (by kernel_rfl) (fun _ _ _ h => h) (Or.inl ⟨by rfl, ?_⟩) (by assumption) ?_
  rotate_left 1
  · (intro w hSw; (have s1 := gb_keeps hSw c1); go_simp; try with_reducible rfl)
  try simp only [Act.put, List.getElem_toArray, List.getElem_cons_zero, List.getElem_cons_succ, List.setIfInBounds_toArray, List.set_cons_zero, List.set_cons_succ]
  refine wpAnyH_take (i := 13) (v := ?_) rfl (by kernel_rfl) (by kernel_rfl) (by kernel_rfl) (fun _ _ _ h => h) (Or.inl ⟨by rfl, ?_⟩) (by assumption) ?_
  rotate_left 1
  · (intro w hSw; (have s1 := gb_keeps hSw c1); go_simp; try with_reducible rfl)
  try simp only [Act.put, List.getElem_toArray, List.getElem_cons_zero, List.getElem_cons_succ, List.setIfInBounds_toArray, List.set_cons_zero, List.set_cons_succ]
  refine wpAnyH_ready (rs := [8]) (by kernel_rfl) (by simp) ?_
  refine AllReadyH.cons rfl (fun K hK => ?_) AllReadyH.nil
  go_simp
  refine (cL _ hHeld).mono ?_
  rintro e w3 ⟨rfl, e3⟩
  subst e3
  refine hK.out _ _ (hHeld) (fun hHeld => ?_)
  clear hK K
  try simp only [Act.put, List.getElem_toArray, List.getElem_cons_zero, List.getElem_cons_succ, List.setIfInBounds_toArray, List.set_cons_zero, List.set_cons_succ]
  refine wpAnyH_take (i := 14) (v := ?_) rfl (by kernel_rfl) (by kernel_rfl) (by kernel_rfl) (fun _ _ _ h => h) (Or.inl ⟨by rfl, ?_⟩) (by assumption) ?_
  rotate_left 1
  · (intro w hSw; (have s1 := gb_keeps hSw c1); go_simp; try with_reducible rfl)
  try simp only [Act.put, List.getElem_toArray, List.getElem_cons_zero, List.getElem_cons_succ, List.setIfInBounds_toArray, List.set_cons_zero, List.set_cons_succ]
  refine wpAnyH_take (i := 15) (v := ?_) rfl (by kernel_rfl) (by kernel_rfl) (by kernel_rfl) (fun _ _ _ h => h) (Or.inl ⟨by rfl, ?_⟩) (by assumption) ?_
  rotate_left 1
  · (intro w hSw; (have s1 := gb_keeps hSw c1); go_simp; try with_reducible rfl)
  try simp only [Act.put, List.getElem_toArray, List.getElem_cons_zero, List.getElem_cons_succ, List.setIfInBounds_toArray, List.set_cons_zero, List.set_cons_succ]
  refine wpAnyH_take (i := 16) (v := ?_) rfl (by kernel_rfl) (by kernel_rfl) (by kernel_rfl) (fun _ _ _ h => h) (Or.inl ⟨by rfl, ?_⟩) (by assumption) ?_
  rotate_left 1
  · (intro w hSw; (have s1 := gb_keeps hSw c1); go_simp; try with_reducible rfl)
  try simp only [Act.put, List.getElem_toArray, List.getElem_cons_zero, List.getElem_cons_succ, List.setIfInBounds_toArray, List.set_cons_zero, List.set_cons_succ]
  refine wpAnyH_done (by kernel_rfl) ?_ _
  have G2 : Hid (Gb w1 w3) := hHeld
  have cS := kspoil_c OO.out G1.out G2.out ⟨K5.out, KL.out.2⟩
  clear hHeld cK cL c1 GD
  go_wp2_with fail
  refine cS.mono ?_
  rintro e w4 ⟨rfl, g4⟩
  clear cS
  go_wp2
  go_ret
  exact ⟨rfl, g4⟩
end Go.Proofs.YtbnljabeccebiaaGreat

/- A tree whose numbers' blocks are told otherwise; what writes elsewhere leaves it. -/
namespace Go.Proofs.YtbnljabeccebiaaGreat
open Go.RowKit Go.Sort

theorem TreeAt.kq {Iq S : Nat → Prop} {w w' : World} {tb m leaf : Nat} {rs : List Rw} {F : List Nat} (h : TreeAt Iq w tb m leaf rs F) (k : Tk.Kp S w w') (hS : NoI Iq w S) (hF : ∀ x ∈ F, ¬ S x) : TreeAt Iq w' tb m leaf rs F := by
  obtain ⟨g, cap, d, rt, F1, h1, h2, h3, h4, h5, h6, rfl, h8⟩ := h
  refine ⟨g, cap, d, rt, F1, ?_, h2.kq k hS (fun g' e => by cases e; exact hF g (by simp)), h3, h4, h5, ?_, rfl, h8⟩
  · rw [k.block tb (Array.getElem?_eq_some_iff.1 h1).1 (hF tb (by simp))]; exact h1
  · rcases h6 with h | ⟨b, T, e1, e2, t⟩
    · exact .inl h
    · exact .inr ⟨b, T, e1, e2, fun N hN => ⟨TrO.kq k hS _ _ _ (t N hN).1 (fun x hx => hF x (by simp [hx])), (t N hN).2⟩⟩
/-- What writes over blocks that are elder than the tree leaves it. -/
theorem TreeAt.mid {B T : Nat} {w w' : World} {tb m leaf : Nat} {rs : List Rw} {F : List Nat} (h : TreeAt (fun k => T ≤ k) w tb m leaf rs F) (k : Mid B T w w') (hF : ∀ x ∈ F, T ≤ x) : TreeAt (fun k => T ≤ k) w' tb m leaf rs F := by
  refine h.kq (S := fun k => B ≤ k ∧ k < T) ⟨k.os, k.tape, k.output, k.size, fun j hj hn => k.block j hj (by omega)⟩ (NoI.off fun j hj => by omega) (fun x hx hs => ?_)
  have := hF x hx
  omega
/-- What writes over one block that the tree has not leaves it. -/
theorem TreeAt.one {L : Nat} {w w' : World} {tb m leaf : Nat} {rs : List Rw} {F : List Nat} (h : TreeAt (fun k => k ≠ L) w tb m leaf rs F) (k : w.grownBy w' (some L)) (hF : L ∉ F) : TreeAt (fun k => k ≠ L) w' tb m leaf rs F :=
  h.kq (S := fun k => k = L) ⟨k.os, k.tape, k.output, k.size, fun j hj hn => k.block j hj (by simpa using hn)⟩ (NoI.off fun j hj => by simpa using hj) (fun x hx hs => hF (hs ▸ hx))
end Go.Proofs.YtbnljabeccebiaaGreat

/- theodolitekeep.Vectors, of rows that are not too long each: the sum. -/
namespace Go.Proofs.YtbnljabeccebiaaGreat
open Go.RowKit Go.Sort

/-- How many coordinates rows have in all. -/
def coords (rs : List Rw) : Nat := (rs.map fun r => r.2.length).sum
theorem coords_snoc {rs : List Rw} {q : Nat} (hq : q < rs.length) : coords (rs.take (q + 1)) = coords (rs.take q) + rs[q]!.2.length := by
  unfold coords
  rw [List.take_succ_eq_append_getElem hq, List.map_append, List.sum_append, getElem!_pos rs q hq]
  simp
theorem coords_le {rs : List Rw} (q : Nat) : coords (rs.take q) ≤ coords rs := by
  have h : coords rs = coords (rs.take q) + coords (rs.drop q) := by
    unfold coords
    rw [← List.sum_append, ← List.map_append, List.take_append_drop]
  omega
theorem coords_row {rs : List Rw} {i : Nat} (hi : i < rs.length) : rs[i]!.2.length ≤ coords rs := by
  have h1 := coords_snoc hi
  have h2 := coords_le (rs := rs) (i + 1)
  omega
set_option maxHeartbeats 1000000 in
set_option maxRecDepth 100000 in
theorem vects_b {w : World} {v : Value} {rs : List Rw} (h : RdW w v rs) (most : Nat) (hlen : rs.length ≤ 4611686018427387904) (hmost : most ≤ 4611686018427387903) (hrow : ∀ i, i < rs.length → rs[i]!.2.length ≤ 4611686018427387904) :
    Calls Tryz.prog 28 #[v, .int .i64 (most : Int)] w fun e w' => (∃ z : Int, e = .returned (.int .i64 z) ∧ (z ≤ (most : Int) → rs.length + coords rs ≤ most)) ∧ w = w' := by
  obtain ⟨a, cap, rfl, ha⟩ := h
  have A : Hid (∀ i, i < rs.length → ∃ b o u, a = some ⟨b, o, none⟩ ∧ w.cell? ⟨b, o + i * 2, none⟩ = some (.int .i64 rs[i]!.1) ∧ w.cell? ⟨b, o + i * 2 + 1, none⟩ = some u ∧ RdI w u rs[i]!.2) := ha
  obtain ⟨n, hN⟩ : ∃ n, n = rs.length := ⟨_, rfl⟩
  have N : Hid (n = rs.length) := hN
  have HS : Hid (∀ i, i < rs.length → rs[i]!.2.length ≤ 4611686018427387904) := hrow
  rw [← hN] at hlen ⊢
  clear ha hN hrow
  go_enter Tryz.func28, Tryz.ntmps28
  go_wp2
  go_loopw [5, 6] (fun zv iv w' => ∃ (q z : Nat), zv = .int .i64 (z : Int) ∧ iv = .int .i64 (q : Int) ∧ q ≤ n ∧ Hid (z = n + coords (rs.take q)) ∧ w = w') (fun _ iv _ => n - (intOf iv).toNat)
  case atStart => exact ⟨0, n, rfl, rfl, Nat.zero_le _, by unfold Hid; simp [coords], rfl⟩
  case round =>
    obtain ⟨q, z, rfl, rfl, hq, Z, rfl⟩ := hrel
    by_cases hqn : q < n
    · have hqi : (q : Int) < (n : Int) := by omega
      by_cases hz : (z : Int) ≤ (most : Int)
      · have hql : q < rs.length := by have := N.out; omega
        obtain ⟨b, o, u, ea, hc, hd, hr⟩ := A.out q hql
        obtain ⟨pu, cu, eu, _⟩ := hr
        subst ea; subst eu
        have hs := coords_snoc hql
        have hZ := Z.out
        have hS := HS.out q hql
        generalize rs[q]!.2.length = k at *
        generalize rs[q]!.1 = x at *
        obtain ⟨y, hy⟩ : ∃ y : Nat, y = z + k := ⟨_, rfl⟩
        have Y : Hid (y = n + coords (rs.take (q + 1))) := by unfold Hid; omega
        have hyb : y ≤ 9223372036854775807 := by omega
        have hyi : (z : Int) + (k : Int) = (y : Int) := by omega
        clear hql hs hZ hS hy Z
        go_wp2
        go_roundw
        case rel => exact ⟨q + 1, y, by first | rfl | go_num, by simp, hqn, Y, by first | rfl | trivial⟩
        case measure => simp [intOf]; omega
      · go_wp2
        go_ret
        exact ⟨⟨_, rfl, fun h => by omega⟩, by first | rfl | trivial⟩
    · have hqi : ¬ (q : Int) < (n : Int) := by omega
      have hZ := Z.out
      rw [List.take_of_length_le (by have := N.out; omega)] at hZ
      have F : Hid ((z : Int) ≤ (most : Int) → n + coords rs ≤ most) := fun h => by omega
      clear Z hZ
      go_wp2
      go_ret
      exact ⟨⟨_, rfl, F.out⟩, by first | rfl | trivial⟩
end Go.Proofs.YtbnljabeccebiaaGreat

/- law07's big: what it tells of what is not too much; wrong. -/
namespace Go.Proofs.YtbnljabeccebiaaGreat
open Go.RowKit Go.Sort

/-- What is not too much. -/
structure Fit (rs : List Rw) (ops : List Opv) : Prop where
  rows : rs.length ≤ 2000
  row : ∀ i, i < rs.length → rs[i]!.2.length ≤ 32768
  few : ops.length ≤ 2000
  op : ∀ i, i < ops.length → ops[i]!.2.1.2.length ≤ 32768 ∧ ops[i]!.2.2.length ≤ 32768
/-- What big tells. -/
def BigF (w : World) (rs : List Rw) (ops : List Opv) (e : Ending) (w' : World) : Prop := ∃ b, e = .returned (.bool b) ∧ Gb w w' ∧ (b = false → Fit rs ops)
theorem bsum64 {z x1 x2 : Nat} (h : z + x1 + x2 < 9223372036854775808) : wrap64 (wrap64 ((z : Int) + (x1 : Int)) + (x2 : Int)) = ((z + x1 + x2 : Nat) : Int) := by
  unfold wrap64
  omega
set_option maxHeartbeats 2000000 in
set_option maxRecDepth 100000 in
theorem kbig_f {w : World} {v u : Value} {rs : List Rw} {ops : List Opv} (hv : RdW w v rs) (hlen : rs.length ≤ 4611686018427387904) (hrow : ∀ i, i < rs.length → rs[i]!.2.length ≤ 4611686018427387904) (hu : RdO w u ops) (hop : ∀ i, i < ops.length → ops[i]!.2.1.2.length ≤ 1152921504606846976 ∧ ops[i]!.2.2.length ≤ 1152921504606846976) :
    Calls Tryz.prog 9 #[v, u] w fun e w' => BigF w rs ops e w' := by
  have c := vects_b hv 32768 hlen (by omega) hrow
  obtain ⟨av, cv, rfl, _⟩ := hv
  have O : Hid (RdO w u ops) := hu
  have OP : Hid (∀ i, i < ops.length → ops[i]!.2.1.2.length ≤ 1152921504606846976 ∧ ops[i]!.2.2.length ≤ 1152921504606846976) := hop
  obtain ⟨au, cu, rfl, _⟩ := hu
  obtain ⟨n, hN⟩ : ∃ n, n = ops.length := ⟨_, rfl⟩
  have N : Hid (n = ops.length) := hN
  obtain ⟨m, hM⟩ : ∃ m, m = rs.length := ⟨_, rfl⟩
  have M : Hid (m = rs.length) := hM
  rw [← hN] at O ⊢
  rw [← hM]
  simp only [← hM] at c
  clear hN hM hlen hrow hop
  go_enter Tryz.func9, Tryz.ntmps9
  by_cases h1 : 2000 < (n : Int)
  · go_wp2
    go_ret
    exact ⟨true, rfl, Below.refl _ _, fun e => by cases e⟩
  by_cases h2 : 2000 < (m : Int)
  · go_wp2
    go_ret
    exact ⟨true, rfl, Below.refl _ _, fun e => by cases e⟩
  go_wp2_with fail
  refine c.mono ?_
  rintro e w' ⟨⟨z, rfl, hz0⟩, e2⟩
  subst e2
  clear c
  by_cases h3 : 32768 < z
  · go_wp2
    go_ret
    exact ⟨true, rfl, Below.refl _ _, fun e => by cases e⟩
  have VB : Hid (m + coords rs ≤ 32768) := hz0 (by omega)
  clear hz0
  go_wp2
  go_loopw [5, 6] (fun zv iv w' => ∃ (q z : Nat), zv = .int .i64 (z : Int) ∧ iv = .int .i64 (q : Int) ∧ q ≤ n ∧ z ≤ 2305843009213726720 ∧ Hid (Gb w w' ∧ ∀ i, i < q → ops[i]!.2.1.2.length + ops[i]!.2.2.length ≤ z)) (fun _ iv _ => n - (intOf iv).toNat)
  case atStart => exact ⟨0, 0, rfl, rfl, Nat.zero_le _, Nat.zero_le _, Below.refl _ _, fun i hi => absurd hi (Nat.not_lt_zero _)⟩
  case round =>
    obtain ⟨q, z, rfl, rfl, hq, hzz, G⟩ := hrel
    by_cases hqn : q < n
    · have hqi : (q : Int) < (n : Int) := by omega
      by_cases hz : z ≤ 32768
      · rename_i w'
        have hzi : (z : Int) ≤ 32768 := by omega
        obtain ⟨a, cap, ea, hO⟩ := (RdO.gb O.out G.out.1)
        obtain ⟨hp1, hp2⟩ : ops[q]!.2.1.2.length ≤ 1152921504606846976 ∧ ops[q]!.2.2.length ≤ 1152921504606846976 := OP.out q (by have := N.out; omega)
        have KP : Hid (∀ i, i < q + 1 → ops[i]!.2.1.2.length + ops[i]!.2.2.length ≤ z + ops[q]!.2.1.2.length + ops[q]!.2.2.length) := by
          intro i hi
          by_cases e : i = q
          · subst e; omega
          · have := G.out.2 i (by omega); omega
        obtain ⟨b, o, rv, qv, e0, ⟨c0, c1, c2, c3, c4, c5, c6⟩, ⟨a1, k1, e1, _⟩, ⟨a2, k2, e2, _⟩⟩ := hO q (by have := N.out; omega)
        injection ea with ea1 ea2 ea3
        subst ea1 ea3 e0 e1 e2
        generalize ops[q]!.2.1.2.length = x1 at *
        generalize ops[q]!.2.2.length = x2 at *
        have HB : Hid (z + x1 + x2 < 9223372036854775808) := by unfold Hid; omega
        have HC : Hid (z + x1 + x2 ≤ 2305843009213726720) := by unfold Hid; omega
        clear ea2 hO c0 c1 c2 c3 c4 hp1 hp2
        go_wp2
        go_quiet (fail)
        go_wp2
        go_roundw
        case rel => exact ⟨q + 1, z + x1 + x2, by rw [bsum64 HB.out], by first | rfl | go_num | simp, hqn, HC.out, gb_trans G.out.1 (gw_drewN (Tk.Gw.refl _) _).gr, KP.out⟩
        case measure => simp [intOf]; omega
      · have hzi : ¬ (z : Int) ≤ 32768 := by omega
        have hzj : (32768 : Int) < (z : Int) := by omega
        go_wp2
        go_ret
        exact ⟨true, rfl, G.out.1, fun e => by cases e⟩
    · have hqi : ¬ (q : Int) < (n : Int) := by omega
      by_cases hz : 32768 < z
      · have hzj : (32768 : Int) < (z : Int) := by omega
        go_wp2
        go_ret
        exact ⟨true, rfl, G.out.1, fun e => by cases e⟩
      · have hzj : ¬ (32768 : Int) < (z : Int) := by omega
        have FT : Hid (Fit rs ops) := by
          have hm := M.out
          have hn := N.out
          have hv := VB.out
          refine ⟨by omega, fun i hi => ?_, by omega, fun i hi => ?_⟩
          · have := coords_row hi; omega
          · have := G.out.2 i (by omega); omega
        go_wp2
        go_ret
        exact ⟨false, rfl, G.out.1, fun _ => FT.out⟩
theorem kright_c (A B S : Int) (w : World) : Calls Tryz.prog 30 #[.agg #[.int .i64 A, .int .i64 B, .int .u64 S]] w fun e w' => e = .returned (.bool (decide (1 ≤ A ∧ A ≤ 64))) ∧ Gb w w' := by
  have g : Gb w (w.alloc (.cells #[.int .i64 A, .int .i64 B, .int .u64 S] 25)) := gb_alloc (Below.refl _ _) _
  by_cases h1 : 1 ≤ A
  · by_cases h2 : A ≤ 64
    · rw [decide_eq_true ⟨h1, h2⟩]
      go_enter Tryz.func30, Tryz.ntmps30
      go_wp2
      go_ret
      exact ⟨rfl, g⟩
    · rw [decide_eq_false (fun h => h2 h.2)]
      have h2' : 64 < A := by omega
      go_enter Tryz.func30, Tryz.ntmps30
      go_wp2
      go_ret
      exact ⟨rfl, g⟩
  · rw [decide_eq_false (fun h => h1 h.1)]
    have h1' : A < 1 := by omega
    go_enter Tryz.func30, Tryz.ntmps30
    go_wp2
    go_ret
    exact ⟨rfl, g⟩
set_option maxHeartbeats 1000000 in
theorem kwrong_c {w : World} {v : Value} {rs : List Rw} (hv : RdW w v rs) (hlen : rs.length ≤ 4611686018427387904) (d A B S : Int) :
    Calls Tryz.prog 10 #[v, .int .i64 d, .agg #[.int .i64 A, .int .i64 B, .int .u64 S]] w fun e w' => e = .returned (.int .i64 (bldE rs d A)) ∧ Gb w w' := by
  have gA : Gb w (w.alloc (.cells #[.int .i64 A, .int .i64 B, .int .u64 S] 25)) := gb_alloc (Below.refl _ _) _
  obtain ⟨w1, hw1⟩ : ∃ w1, w1 = w.alloc (.cells #[.int .i64 A, .int .i64 B, .int .u64 S] 25) := ⟨_, rfl⟩
  rw [← hw1] at gA
  have d0 : w1.cell? ⟨w.heap.size, 0, none⟩ = some (.int .i64 A) := by rw [hw1]; simp [go_sem]
  have d1 : w1.cell? ⟨w.heap.size, 1, none⟩ = some (.int .i64 B) := by rw [hw1]; simp [go_sem]
  have d2 : w1.cell? ⟨w.heap.size, 2, none⟩ = some (.int .u64 S) := by rw [hw1]; simp [go_sem]
  have cF := rflat_c (hv.gb gA) hlen d
  have cR := fun W => kright_c A B S W
  have E1 : Hid (flatE rs d ≠ 0 → bldE rs d A = flatE rs d) := fun h => by unfold bldE; rw [if_neg h]
  have E2 : Hid (flatE rs d = 0 → (1 ≤ A ∧ A ≤ 64) → bldE rs d A = 0) := fun h h2 => by unfold bldE; rw [if_pos h, if_pos h2]
  have E3 : Hid (flatE rs d = 0 → ¬ (1 ≤ A ∧ A ≤ 64) → bldE rs d A = 1) := fun h h2 => by unfold bldE; rw [if_pos h, if_neg h2]
  obtain ⟨av, cv, ev, _⟩ := hv
  subst ev
  generalize bldE rs d A = be at *
  generalize flatE rs d = z at *
  generalize rs.length = n at *
  clear hlen
  go_enter Tryz.func10, Tryz.ntmps10
  go_wp2_with fail
  rw [← hw1]
  clear hw1
  refine cF.mono ?_
  rintro e w2 ⟨rfl, g2'⟩
  have g2 := g2'.gb
  have d0 := gb_keeps g2 d0
  have d1 := gb_keeps g2 d1
  have d2 := gb_keeps g2 d2
  have G2 := gb_trans gA g2
  clear cF
  by_cases hz : z = 0
  · subst hz
    have cR := cR w2
    go_wp2_with fail
    refine cR.mono ?_
    rintro e w3 ⟨rfl, g3⟩
    have G3 := gb_trans G2 g3
    clear cR d0 d1 d2
    by_cases h2 : 1 ≤ A ∧ A ≤ 64
    · have R : Hid (be = 0) := E2.out (by first | rfl | trivial) h2
      rw [decide_eq_true h2]
      clear h2
      go_wp2
      go_ret
      exact ⟨by rw [R.out]; rfl, G3⟩
    · have R : Hid (be = 1) := E3.out (by first | rfl | trivial) h2
      rw [decide_eq_false h2]
      clear h2
      go_wp2
      go_ret
      exact ⟨by rw [R.out]; rfl, G3⟩
  · have hzb : (z == 0) = false := by rw [beq_eq_false_iff_ne]; exact hz
    have R : Hid (be = z) := E1.out hz
    clear cR d0 d1 d2
    go_wp2
    go_ret
    exact ⟨by rw [R.out]; rfl, G2⟩
end Go.Proofs.YtbnljabeccebiaaGreat
