/- The reference's disk, as it is new; law17.same of it; DiskNew. -/
import Derived.Test.YtkagnoinifffdaaRxDkS1
namespace Go.Proofs.Ytkagnoinifffdaa
open Go.RowKit Go.Lib Go.Maps

variable {w w0 W W' : World} {b b' : Nat} {q q' q2 : Dq} {F G : Nat → Prop}
/-- The reference's disk without files. -/
def RfN (w : World) (p : Nat) (r : Int) : Prop := w.heap[p]? = some (.cells #[.int .i64 r, .slice none 0 0, .slice none 0 0, .slice none 0 0, .slice none 0 0, .int .i64 0, .int .i64 (-1)] 68 (0, 0))
theorem RfN.gb {p : Nat} {r : Int} (h : RfN w p r) (g : Gb w W) : RfN W p r := (g.block p (Array.getElem?_eq_some_iff.1 h).1).trans h
theorem rnew_c (r : Int) (w : World) : Calls Try.prog 11 #[.int .i64 r] w fun e w' => e = .returned (.pointer (some ⟨w.heap.size, 0, none⟩)) ∧ Hid (RfN w' w.heap.size r ∧ Gb w w') := by
  have R : Hid (RfN (w.alloc (.cells #[.int .i64 r, .slice none 0 0, .slice none 0 0, .slice none 0 0, .slice none 0 0, .int .i64 0, .int .i64 (-1)] 68)) w.heap.size r ∧ Gb w (w.alloc (.cells #[.int .i64 r, .slice none 0 0, .slice none 0 0, .slice none 0 0, .slice none 0 0, .int .i64 0, .int .i64 (-1)] 68))) := ⟨heap_alloc_new _ _, gb_alloc (Below.refl _ _) _⟩
  go_enter Try.func11, Try.ntmps11
  go_wp2
  go_ret
  exact ⟨rfl, R⟩
theorem rdown_c {p : Nat} {r : Int} (h : RfN w p r) : Calls Try.prog 35 #[.pointer (some ⟨p, 0, none⟩)] w fun e w' => e = .returned (.bool false) ∧ w' = w := by
  have c6 : w.cell? ⟨p, 6, none⟩ = some (.int .i64 (-1)) := by unfold RfN at h; simp [World.cell?, h]
  clear h
  go_enter Try.func35, Try.ntmps35
  go_wp2
  go_ret
  exact ⟨rfl, rfl⟩
theorem rused_c {p : Nat} {r : Int} (h : RfN w p r) : Calls Try.prog 34 #[.pointer (some ⟨p, 0, none⟩)] w fun e w' => e = .returned (.int .i64 0) ∧ w' = w := by
  have c2 : w.cell? ⟨p, 2, none⟩ = some (.slice none 0 0) := by unfold RfN at h; simp [World.cell?, h]
  clear h
  go_enter Try.func34, Try.ntmps34
  go_wp2
  refine wp_loop_rounds 1 ?_
  rw [rounds_succ]
  go_wp2
  go_ret
  exact ⟨rfl, rfl⟩
theorem rnames_c {p : Nat} {r : Int} (h : RfN w p r) : Calls Try.prog 33 #[.pointer (some ⟨p, 0, none⟩)] w fun e w' => e = .returned (.slice none 0 0) ∧ w' = w := by
  have c2 : w.cell? ⟨p, 2, none⟩ = some (.slice none 0 0) := by unfold RfN at h; simp [World.cell?, h]
  clear h
  go_enter Try.func33, Try.ntmps33
  go_wp2
  refine wp_loop_rounds 1 ?_
  rw [rounds_succ]
  go_wp2
  go_ret
  exact ⟨rfl, rfl⟩
theorem nw_names (r : Int) : nmL (nwQ r) = [] := by
  unfold nmL
  rw [if_neg (show ¬ (nwQ r).lf = 0 by show ¬ (-1 : Int) = 0; decide)]
  show srtB [] = []
  simp [srtB]
theorem nw_used (r : Int) : usdO (nwQ r) = 0 := by
  unfold usdO
  rw [if_neg (show ¬ (nwQ r).lf = 0 by show ¬ (-1 : Int) = 0; decide)]; rfl
set_option maxHeartbeats 4000000 in
set_option maxRecDepth 100000 in
theorem same_new {p : Nat} {r : Int} (h : StE w0 w b (nwQ r)) (hp : RfN w p r) (ok : (nwQ r).Ok) : Calls Try.prog 10 #[.pointer (some ⟨b, 0, none⟩), .pointer (some ⟨p, 0, none⟩)] w fun e w' => e = .returned (.bool true) ∧ Gb w w' := by
  have S : Hid (∀ X, Gb w X → ∃ F, DkAt X b (nwQ r) F) := fun X g => by obtain ⟨F, k⟩ := h; exact ⟨F, k.1.gb g⟩
  have st0 : (nwQ r).st < 100000 := by show (0 : Nat) < 100000; omega
  have cN : Calls Try.prog 24 #[.pointer (some ⟨b, 0, none⟩)] w fun e w' => ∃ a c, e = .returned (.slice a 0 c) ∧ Hid (OwnT w' w.heap.size (.slice a 0 c) [] ∧ Gb w w') := by
    obtain ⟨F, k⟩ := S.out w (Below.refl _ _)
    have := names_c k ok st0
    rw [nw_names] at this
    refine this.mono ?_
    rintro e w' ⟨v, rfl, ho, g⟩
    obtain ⟨a, c, rfl⟩ := row_fm ho
    exact ⟨a, c, rfl, ho, g⟩
  have cR : Hid (∀ X, Gb w X → Calls Try.prog 33 #[.pointer (some ⟨p, 0, none⟩)] X fun e w' => e = .returned (.slice none 0 0) ∧ w' = X) := fun X g => rnames_c (hp.gb g)
  have cU : Hid (∀ X, Gb w X → Calls Try.prog 29 #[.pointer (some ⟨b, 0, none⟩)] X fun e w' => e = .returned (.int .i64 0) ∧ Gb w w') := fun X g => by
    obtain ⟨F, k⟩ := S.out X g
    have := used_c k ok st0
    rw [nw_used] at this
    exact this.mono fun e w' h => ⟨h.1, gb_trans g h.2⟩
  have cV : Hid (∀ X, Gb w X → Calls Try.prog 34 #[.pointer (some ⟨p, 0, none⟩)] X fun e w' => e = .returned (.int .i64 0) ∧ Gb w w') := fun X g => (rused_c (hp.gb g)).mono fun e w' h => ⟨h.1, by rw [h.2]; exact g⟩
  have cS : Hid (∀ X, Gb w X → Calls Try.prog 28 #[.pointer (some ⟨b, 0, none⟩)] X fun e w' => e = .returned (.int .i64 0) ∧ Gb w w') := fun X g => by
    obtain ⟨F, k⟩ := S.out X g
    exact (steps_c k ok).mono fun e w' h => ⟨h.1, by rw [← h.2]; exact g⟩
  have cD : Hid (∀ X, Gb w X → Calls Try.prog 26 #[.pointer (some ⟨b, 0, none⟩)] X fun e w' => e = .returned (.bool false) ∧ Gb w w') := fun X g => by
    obtain ⟨F, k⟩ := S.out X g
    exact (down_c k ok).mono fun e w' h => ⟨h.1, by rw [← h.2]; exact g⟩
  have cE : Hid (∀ X, Gb w X → Calls Try.prog 35 #[.pointer (some ⟨p, 0, none⟩)] X fun e w' => e = .returned (.bool false) ∧ Gb w w') := fun X g => (rdown_c (hp.gb g)).mono fun e w' h => ⟨h.1, by rw [h.2]; exact g⟩
  have c5 : Hid (∀ X, Gb w X → X.cell? ⟨p, 5, none⟩ = some (.int .i64 0) ∧ p < X.heap.size) := fun X g => by
    have e := hp.gb g
    unfold RfN at e
    exact ⟨by simp [World.cell?, e], (Array.getElem?_eq_some_iff.1 e).1⟩
  clear S h hp ok st0
  go_enter Try.func10, Try.ntmps10
  go_wp2_with fail
  refine cN.mono ?_
  rintro e w1 ⟨a, c, rfl, R⟩
  have g1 := R.out.2
  have cR1 := cR.out _ g1
  clear cN cR
  go_wp2_with fail
  refine cR1.mono ?_
  rintro e w2 ⟨rfl, rfl⟩
  have cT : Hid (∀ X, Gb w X → Gb w2 X → Calls Try.prog 25 #[.slice a 0 c, .slice none 0 0] X fun e w' => e = .returned (.bool true) ∧ Gb w w') := fun X g g2 => (texts_same (R.out.1.gb g2) (World.ownsRow_nil X 0 9 1) (Nat.zero_le _)).mono fun e w' h => ⟨h.1, gb_trans g h.2⟩
  have gd : Gb w w2.drew := g1.drew
  have ge : Gb w2 w2.drew := (Below.refl _ _).drew
  obtain ⟨x5, px⟩ := c5.out w2 g1
  clear cR1 R
  go_wp2_with fail
  go_region_with (first
    | (go_at_call 25; refine (cT.out _ (by assumption) (by assumption)).mono ?_; rintro e w3 ⟨rfl, g3⟩; obtain ⟨y5, py⟩ := c5.out w3 g3)
    | (go_at_call 29; refine (cU.out _ (by assumption)).mono ?_; rintro e w4 ⟨rfl, g4⟩; obtain ⟨y5, py⟩ := c5.out w4 g4)
    | (go_at_call 34; refine (cV.out _ (by assumption)).mono ?_; rintro e w5 ⟨rfl, g5⟩; obtain ⟨y5, py⟩ := c5.out w5 g5)
    | (go_at_call 28; refine (cS.out _ (by assumption)).mono ?_; rintro e w6 ⟨rfl, g6⟩; obtain ⟨y5, py⟩ := c5.out w6 g6)
    | (go_at_call 26; refine (cD.out _ (by assumption)).mono ?_; rintro e w7 ⟨rfl, g7⟩)
    | (go_at_call 35; refine (cE.out _ (by assumption)).mono ?_; rintro e w8 ⟨rfl, g8⟩))
  all_goals
    go_wp2
    refine wp_loop_rounds 1 ?_
    rw [rounds_succ]
    go_wp2
    go_ret
    exact ⟨rfl, by assumption⟩
set_option maxHeartbeats 1000000 in
theorem new_law (w : World) (r : Int) : Calls Try.prog 3 #[.int .i64 r] w fun e w' => e = .returned (.bool true) ∧ Gb w w' := by
  by_cases hroom : 1 ≤ r ∧ r ≤ 4194304
  · have r1 : ¬ r < 1 := by omega
    have r2 : ¬ 4194304 < r := by omega
    have cN := new_c r hroom w
    have ok := nwQ_ok hroom
    clear hroom
    go_enter Try.func3, Try.ntmps3
    go_wp2_with fail
    refine cN.mono ?_
    rintro e w1 ⟨b, rfl, N⟩
    have S : StE w w1 b (nwQ r) := StE.new (Below.refl _ _) N
    clear N cN
    go_wp2_with fail
    refine (awake_c _).mono ?_
    rintro e w2 ⟨rfl, g2⟩
    have S := S.gb g2
    have cR := rnew_c r w2
    clear g2
    go_wp2_with fail
    refine cR.mono ?_
    rintro e w3 ⟨rfl, R⟩
    have S := S.gb R.out.2
    have cS := same_new S R.out.1 ok
    have SB := S.base
    clear S R cR
    go_wp2_with fail
    refine cS.mono ?_
    rintro e w4 ⟨rfl, g4⟩
    have G := gb_trans SB g4
    clear cS SB g4
    go_wp2
    go_ret
    exact ⟨rfl, G⟩
  · have cN := new_no r hroom w
    by_cases r1 : r < 1
    · clear hroom
      go_enter Try.func3, Try.ntmps3
      go_wp2_with fail
      refine cN.mono ?_
      rintro e w1 ⟨rfl, rfl⟩
      clear cN
      go_wp2_with fail
      refine (awake_c _).mono ?_
      rintro e w2 ⟨rfl, g2⟩
      go_wp2
      go_ret
      exact ⟨rfl, g2⟩
    · have r2 : 4194304 < r := by omega
      clear hroom
      go_enter Try.func3, Try.ntmps3
      go_wp2_with fail
      refine cN.mono ?_
      rintro e w1 ⟨rfl, rfl⟩
      clear cN
      go_wp2_with fail
      refine (awake_c _).mono ?_
      rintro e w2 ⟨rfl, g2⟩
      go_wp2
      go_ret
      exact ⟨rfl, g2⟩
end Go.Proofs.Ytkagnoinifffdaa
