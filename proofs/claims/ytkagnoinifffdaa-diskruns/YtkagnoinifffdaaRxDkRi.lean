/- The reference's Append: the walk. -/
import Derived.Test.YtkagnoinifffdaaRx29
import Derived.Deep.RegionHeld3
namespace Go.Proofs.Ytkagnoinifffdaa
open Go.RowKit Go.Lib Go.Maps

variable {w w' W : World} {p : Nat} {q q' : Dq} {nu : List Int} {r : Rf} {L : List (Value × Nat)} {fv nv sv cv : Value} {F G B : Nat → Prop}
set_option maxHeartbeats 4000000 in
set_option maxRecDepth 100000 in
theorem rappend_r (h : RfD w p q G B) (ok : q.Ok) (hi : q.Inj) (hst : q.st < 100000) {x m : By} {u : Value} (hm : m.length ≤ 65536) (hu : AgB w u m) : Calls Try.prog 46 #[.pointer (some ⟨p, 0, none⟩), .string (sb x), u] w fun e w' => e = .returned (.int .i64 (apE q x m.length)) ∧ RfO w w' p (q.append x m) G B := by
  have H : Hid (RfD w p q G B) := h
  have UL := usdO_le ok hst
  have CU : Hid (∀ W, Gb w W → Calls Try.prog 34 #[.pointer (some ⟨p, 0, none⟩)] W fun e w' => e = .returned (.int .i64 (usdO q : Int)) ∧ Gb W w') := fun W g => rused_d (H.out.g g) ok hi hst
  have SELF : Hid (apE q x m.length ≠ 0 → ∀ W, Gb w W → RfO w W p (q.append x m) G B) := fun hne W g => by
    have e : q.append x m = q := by unfold Dq.append; rw [if_neg hne]
    rw [e]
    exact ⟨G, B, H.out.g g, fun _ _ g => g, fun _ _ g => g, Kf.gb g G⟩
  obtain ⟨nu, r, L, fv, nv, sv, cv, h, hr, hG, hB⟩ := h
  have cD := rdown_r h
  have cF := rfile_c h hr ok hi hst x
  obtain ⟨ua, uc, rfl, _⟩ := id hu
  by_cases e0 : q.lf = 0
  · have E : apE q x m.length = 174 := by
      have : fiE q x = 174 := by unfold fiE; rw [if_pos e0]
      unfold apE; rw [if_pos (by rw [this]; decide), this]
    have X : Hid (RfO w w p (q.append x m) G B) := SELF.out (by rw [E]; decide) w (Below.refl _ _)
    rw [E]
    rw [decide_eq_true e0] at cD
    clear h hr ok hi hst e0 E cF hG hB H hu CU SELF UL
    generalize sb x = sx at *
    go_enter Try.func46, Try.ntmps46
    go_wp2_with fail
    refine cD.mono ?_
    rintro e w' ⟨rfl, rfl⟩
    go_wp2
    go_ret
    exact ⟨rfl, X.out⟩
  rw [decide_eq_false e0] at cD
  have KEY : Hid (∀ n, FiR nu q x n → n = -1 ∧ Hid (apE q x m.length = 172) ∨ ∃ f : Nat, n = (f : Int) ∧ f < nu.length ∧ (q.room < (usdO q : Int) + (m.length : Int) → Hid (apE q x m.length = 173)) ∧ (¬ q.room < (usdO q : Int) + (m.length : Int) → Hid (apE q x m.length = 0) ∧ Hid (∀ W, Gb w W → ApX w p q x m (.slice ua m.length uc) nu.length f G B W))) := fun n hn => by
    rcases hn with ⟨e, hn⟩ | ⟨f, e, hf, en, hmm⟩
    · have E1 : fiE q x = 172 := by unfold fiE; rw [if_neg e0, if_neg hn]
      refine .inl ⟨e, ?_⟩
      unfold Hid apE; rw [if_pos (by rw [E1]; decide), E1]
    · have E1 : fiE q x = 0 := by unfold fiE; rw [if_neg e0, if_pos hmm]
      refine .inr ⟨f, e, hf, fun hl => ?_, fun hl => ?_⟩
      · unfold Hid apE; rw [if_neg (by rw [E1]; decide), if_pos hl]
      · have hz : apE q x m.length = 0 := by unfold apE; rw [if_neg (by rw [E1]; decide), if_neg hl]
        exact ⟨hz, fun W g => apX_of h hr hG hB ok hst hf en hz hm hu g⟩
  obtain ⟨c0, _⟩ := h.cells.1
  have C0 : Hid (∀ W, Gb w W → W.cell? ⟨p, 0, none⟩ = some (.int .i64 q.room) ∧ p < W.heap.size) := fun W g => ⟨(h.g g).cells.1.1, (h.g g).lt⟩
  have RM := ok.room
  have hp := h.lt
  clear h hr ok hi hst e0 hG hB H hu
  generalize hM : m.length = M at *
  generalize usdO q = U at *
  generalize q.room = R at *
  generalize sb x = sx at *
  generalize nu.length = nl at *
  go_enter Try.func46, Try.ntmps46
  go_wp2_with fail
  refine cD.mono ?_
  rintro e w' ⟨rfl, rfl⟩
  clear cD
  go_wp2_with fail
  refine cF.mono ?_
  rintro e w' ⟨n, rfl, hn, rfl⟩
  clear cF
  rcases KEY.out n hn with ⟨rfl, K⟩ | ⟨f, rfl, hf, K1, K2⟩
  · have X : Hid (RfO w' w' p (q.append x m) G B) := SELF.out (by rw [K.out]; decide) w' (Below.refl _ _)
    clear KEY hn CU SELF
    go_wp2
    go_ret
    exact ⟨by rw [K.out]; rfl, X.out⟩
  · have hfi : (f : Int) < (nl : Int) := by omega
    have G0 : Hid (Gb w' w'.drew) := (Below.refl _ _).drew
    have hwr : IntKind.i64.wrap (R - (U : Int)) = R - (U : Int) := by rw [IntKind.wrap_i64]; omega
    clear KEY hn
    by_cases hl : R < (U : Int) + (M : Int)
    · have K := K1 hl
      have hl2 : R - (U : Int) < (M : Int) := by omega
      have X : Hid (∀ W, Gb w' W → RfO w' W p (q.append x m) G B) := SELF.out (by rw [K.out]; decide)
      clear K1 K2 SELF hl
      go_wp2
      go_region_held3 (fun W => Gb w' W ∧ W.cell? ⟨p, 0, none⟩ = some (.int .i64 R) ∧ p < W.heap.size)
        (first | (with_reducible assumption) | exact ⟨by assumption, C0.out _ (by assumption)⟩ | exact ⟨G0.out, C0.out _ G0.out⟩)
        (first | (go_at_call 34; refine (CU.out _ (And.left (by assumption))).mono ?_; rintro e w2 ⟨rfl, g2⟩; have g3 := gb_trans (And.left (by assumption)) g2))
      all_goals
        go_wp2
        go_ret
        exact ⟨by rw [K.out]; rfl, X.out _ (And.left (by assumption))⟩
    · obtain ⟨K, AX⟩ := K2 (by omega)
      have hl2 : ¬ R - (U : Int) < (M : Int) := by omega
      clear K1 K2 SELF hl
      go_wp2
      go_region_held3 (fun W => Gb w' W ∧ W.cell? ⟨p, 0, none⟩ = some (.int .i64 R) ∧ p < W.heap.size)
        (first | (with_reducible assumption) | exact ⟨by assumption, C0.out _ (by assumption)⟩ | exact ⟨G0.out, C0.out _ G0.out⟩)
        (first | (go_at_call 34; refine (CU.out _ (And.left (by assumption))).mono ?_; rintro e w2 ⟨rfl, g2⟩; have g3 := gb_trans (And.left (by assumption)) g2))
      all_goals
        have gW : Gb w' w2 := And.left (by assumption)
        obtain ⟨g, cap, b, y, c, np, ⟨k1, k2, k3, k4⟩, a1, c1, W1, hr1, ⟨m1, ⟨z1, m2⟩, m3, m4, m5⟩, a2, c2, W2, hr2, ⟨n1, ⟨z2, n2⟩, n3, n4, n5⟩, ST⟩ := AX.out _ gW
        clear AX CU C0 gW
        go_wp2_with (first | (at_builtin; refine wpl_append rfl (.tmp 26) (.tmp 34) 33 rfl _ _ rfl rfl hr1 ?_) | go_in)
        go_region_held3 (fun W => W.cell? ⟨p, 1, none⟩ = some (.slice (some ⟨g, 0, none⟩) nl cap) ∧ p < W.heap.size ∧ g < W.heap.size)
          (first | (with_reducible assumption) | exact ⟨m1, m4, m5⟩ | exact ⟨n1, n4, n5⟩ | exact ⟨(World.cell?_setCell_far _ _ _ _ np).trans n1, by rw [World.size_setCell]; exact n4, by rw [World.size_setCell]; exact n5⟩)
          (refine step_append_run rfl (.tmp 41) (.tmp 42) 33 rfl _ _ (by simp [Act.eval]) (by simp [Act.eval]) hr2 ?_)
        all_goals
          have ST2 := ST.out
          rw [hM] at ST2
          go_wp2_with fail
          refine ST2.mono ?_
          rintro e w3 ⟨rfl, O⟩
          clear ST2
          go_wp2
          go_ret
          exact ⟨by rw [K.out]; rfl, O.out⟩
end Go.Proofs.Ytkagnoinifffdaa
