/- fillSpare; the last segment's name; mend. -/
import Derived.Test.YtcbhhdjjanekaaaGreatDoorWxWaE
namespace Go.Proofs.YtcbhhdjjanekaaaGreatDoor
open Go.RowKit Go.Lib Go.Maps

variable {w w' W W' w1 w2 : World} {a b : Nat} {L L' : Lg} {q q' : Dq} {E F G : Nat → Prop}
theorem create_st (q : Dq) (x : By) : (q.create x).st ≤ q.st + 1 := by
  unfold Dq.create; split
  · exact Nat.le_refl _
  · omega
theorem append_st (q : Dq) (x l : By) : (q.append x l).st ≤ q.st + 1 := by
  unfold Dq.append; split
  · exact Nat.le_refl _
  · omega
theorem sync_st (q : Dq) (x : By) : (q.sync x).st ≤ q.st + 1 := by
  unfold Dq.sync; split
  · exact Nat.le_refl _
  · omega
theorem rename_st (q : Dq) (x y : By) : (q.rename x y).st ≤ q.st + 1 := by
  unfold Dq.rename; split
  · exact Nat.le_refl _
  · omega
theorem remove_st (q : Dq) (x : By) : (q.remove x).st ≤ q.st + 1 := by
  unfold Dq.remove; split
  · exact Nat.le_refl _
  · omega
theorem syncDir_st (q : Dq) : q.syncDir.st ≤ q.st + 1 := by
  unfold Dq.syncDir; split
  · omega
  · exact Nat.le_refl _
/-- What was quiet ahead of it changes nothing. -/
theorem WaOut.pre (g : Gb w w1) (hE : ∀ j, E j → j < w.heap.size) (o : WaOut w1 w2 a b L q E) : WaOut w w2 a b L q E := by
  have s := g.size
  exact ⟨o.1.mono (fun j e => e.imp id fun e => ⟨Nat.le_trans s e.1, e.2⟩) fun j e => e.elim (fun e => Nat.lt_of_lt_of_le (hE j e) (Nat.le_trans s o.2.size)) fun e => e.2, (Kf.gb g E).then o.2 fun _ _ e => e⟩
theorem WaOut.a0 (o : WaOut w w' a b L q E) : w'.cell? ⟨a, 0, none⟩ = some (.pointer (some ⟨b, 0, none⟩)) ∧ a < w'.heap.size := by
  obtain ⟨_, _, ⟨k, _⟩, _, ha⟩ := o.1.cells
  exact ⟨k, ha⟩
theorem WaAt.a0 (o : WaAt w a b L q E) : w.cell? ⟨a, 0, none⟩ = some (.pointer (some ⟨b, 0, none⟩)) ∧ a < w.heap.size := by
  obtain ⟨_, _, ⟨k, _⟩, _, ha⟩ := o.cells
  exact ⟨k, ha⟩
set_option maxRecDepth 100000 in
theorem wfill_c (h : WaAt w a b L q E) (ok : q.Ok) (hst : q.st < 90000) {u : Value} {l : By} (hu : AgB w u l) (hl : l.length ≤ 4194304) :
    Calls Tryz.prog 85 #[.pointer (some ⟨a, 0, none⟩), u] w fun e w' => e = .returned (.int .i64 (wFill q l).1) ∧ WaOut w w' a b L (wFill q l).2 E := by
  obtain ⟨k0, ha⟩ := h.a0
  have hE := h.lt
  obtain ⟨ua, cap, eu, hu'⟩ := id hu
  by_cases h0 : l = []
  · have e : wFill q l = (0, q) := by unfold wFill; rw [if_pos h0]
    rw [e]
    have O : Hid (WaOut w w a b L q E) := WaOut.self h
    have hz : l.length = 0 := by rw [h0]; rfl
    rw [hz] at eu
    subst eu
    clear h hu hu' hE e h0 hz
    go_enter Tryz.func85, Tryz.ntmps85
    go_wp2
    go_ret
    exact ⟨rfl, O.out⟩
  have hpos : 0 < l.length := List.length_pos_iff.2 h0
  have cA : Calls Tryz.prog 45 #[.pointer (some ⟨b, 0, none⟩), .string (sb sprN), u] w fun e w1 => e = .returned (.int .i64 (apE q sprN l.length)) ∧ WaOut w w1 a b L (q.append sprN l) E :=
    h.dk (R := fun e => e = .returned (.int .i64 (apE q sprN l.length))) fun F k => append_c k ok (by omega) sprN_wf hu (by omega)
  have FIN : wFill q l = if apE q sprN l.length = 0 then (fiE (q.append sprN l) sprN, (q.append sprN l).sync sprN) else (apE q sprN l.length, q) := by unfold wFill; rw [if_neg h0]
  rw [FIN, sb_spr] at *
  subst eu
  have hn0 : ¬ ((l.length : Int) = 0) := by omega
  have hb0 : ((l.length : Int) == 0) = false := by rw [beq_eq_false_iff_ne]; exact hn0
  by_cases e0 : apE q sprN l.length = 0
  · rw [if_pos e0]
    rw [e0] at cA
    have T : Hid (∀ w1, WaOut w w1 a b L (q.append sprN l) E → (w1.cell? ⟨a, 0, none⟩ = some (.pointer (some ⟨b, 0, none⟩)) ∧ a < w1.heap.size) ∧ Calls Tryz.prog 48 #[.pointer (some ⟨b, 0, none⟩), .string ⟨#[108, 111, 103, 46, 110, 101, 119]⟩] w1 fun e w2 => e = .returned (.int .i64 (fiE (q.append sprN l) sprN)) ∧ Hid (WaOut w w2 a b L ((q.append sprN l).sync sprN) E)) := fun w1 o =>
      ⟨o.a0, o.dk hE (R := fun e => e = .returned (.int .i64 (fiE (q.append sprN l) sprN))) fun F k => sync_c k (ok.append _ _) (by have := append_st q sprN l; omega) sprN_wf⟩
    clear h hu hu' hE FIN e0 hpos h0 hn0 ok
    generalize fiE (q.append sprN l) sprN = fe at *
    generalize (q.append sprN l).sync sprN = qs at *
    generalize hn : l.length = n at *
    go_enter Tryz.func85, Tryz.ntmps85
    go_wp2_with fail
    refine cA.mono ?_
    rintro e w1 ⟨rfl, o1⟩
    obtain ⟨⟨d0, s1⟩, c2⟩ := T.out w1 o1
    clear cA T o1
    go_wp2_with fail
    refine c2.mono ?_
    rintro e w2 ⟨rfl, O⟩
    go_wp2
    go_ret
    exact ⟨rfl, O.out⟩
  · rw [if_neg e0]
    rw [app_off e0 rfl] at cA
    have b1 : (apE q sprN l.length == 0) = false := by rw [beq_eq_false_iff_ne]; exact e0
    clear h hu hu' hE FIN hpos h0 hn0 ok
    generalize apE q sprN l.length = ae at *
    generalize hn : l.length = n at *
    go_enter Tryz.func85, Tryz.ntmps85
    go_wp2_with fail
    refine cA.mono ?_
    rintro e w1 ⟨rfl, o1⟩
    go_wp2
    go_ret
    exact ⟨rfl, o1⟩
/-- The last segment's name, and what is asked with it. -/
def CNm (w : World) (a b : Nat) (L : Lg) (g o : Nat) (Q : World → Prop) : Prop := (w.cell? ⟨g, o, none⟩ = some (.int .i64 L.cur.1) ∧ w.cell? ⟨g, o + 1, none⟩ = some (.int .i64 L.cur.2) ∧ g < w.heap.size) ∧
  Hid (∀ X, Gb w X → Calls Tryz.prog 40 #[.pointer (some ⟨a, 0, none⟩)] X fun e w1 => e = .returned (.pointer (some ⟨g, o, none⟩)) ∧ w1.cell? ⟨g, o, none⟩ = some (.int .i64 L.cur.1) ∧ w1.cell? ⟨g, o + 1, none⟩ = some (.int .i64 L.cur.2) ∧ g < w1.heap.size ∧ w1.cell? ⟨a, 0, none⟩ = some (.pointer (some ⟨b, 0, none⟩)) ∧ a < w1.heap.size ∧ Gb w w1) ∧
  Hid (∀ Y, Gb w Y → Calls Tryz.prog 46 #[.agg #[.int .i64 L.cur.1, .int .i64 L.cur.2]] Y fun e w2 => e = .returned (.string (sb L.cn)) ∧ w2.cell? ⟨g, o, none⟩ = some (.int .i64 L.cur.1) ∧ w2.cell? ⟨g, o + 1, none⟩ = some (.int .i64 L.cur.2) ∧ g < w2.heap.size ∧ w2.cell? ⟨a, 0, none⟩ = some (.pointer (some ⟨b, 0, none⟩)) ∧ a < w2.heap.size ∧ Gb w w2) ∧ Hid (∀ Z, Gb w Z → Q Z)
theorem cur_name (h : WaAt w a b L q E) (hne : L.sg ≠ []) (hlen : L.sg.length ≤ 1000000) (hs : Sml L.cur.1) (hG : GlK E w) {Q : Nat → Nat → World → Prop} (hQ : ∀ g o, CurB w a g → (w.cell? ⟨g, o, none⟩ = some (.int .i64 L.cur.1) ∧ w.cell? ⟨g, o + 1, none⟩ = some (.int .i64 L.cur.2) ∧ g < w.heap.size) → ∀ Z, Gb w Z → Q g o Z) : ∃ g o, CNm w a b L g o (Q g o) := by
  obtain ⟨g, o, cb, ⟨c1, c2, cg⟩, H⟩ := h.curAt hne hlen
  refine ⟨g, o, ⟨c1, c2, cg⟩, fun X gX => ?_, fun Y gY => ?_, hQ g o cb ⟨c1, c2, cg⟩⟩
  · refine (H X gX).mono ?_
    rintro e w1 ⟨rfl, C, g1⟩
    have g01 := gb_trans gX g1
    exact ⟨rfl, C.1, C.2.1, C.2.2.2.1, (h.gb g01).a0.1, (h.gb g01).a0.2, g01⟩
  · refine (wname_c _ _ hs (hG.at_ (Kf.gb gY E))).mono ?_
    rintro e w2 ⟨rfl, g2⟩
    have g02 := gb_trans gY g2
    exact ⟨rfl, gb_keeps g02 c1, gb_keeps g02 c2, Nat.lt_of_lt_of_le cg g02.size, (h.gb g02).a0.1, (h.gb g02).a0.2, g02⟩
end Go.Proofs.YtcbhhdjjanekaaaGreatDoor
