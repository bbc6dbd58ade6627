/- ready. -/
import Derived.Test.YtcbhhdjjanekaaaGreatDoorWxWaH
namespace Go.Proofs.YtcbhhdjjanekaaaGreatDoor
open Go.RowKit Go.Lib Go.Maps

variable {w w' W W' w1 w2 w3 w4 w5 : World} {a b : Nat} {L L' : Lg} {q q' : Dq} {E F G : Nat → Prop}
theorem names_q (h : WaAt w a b L q E) (ok : q.Ok) (hst : q.st < 100000) : Calls Tryz.prog 25 #[.pointer (some ⟨b, 0, none⟩)] w fun e w' => ∃ ao c, e = .returned (.slice ao (nmL q).length c) ∧ OwnT w' w.heap.size (.slice ao (nmL q).length c) (nmL q) ∧ Gb w w' := by
  obtain ⟨F, _, h1, _⟩ := h
  refine (names_c h1 ok hst).mono ?_
  rintro e w' ⟨v, rfl, ho, g⟩
  obtain ⟨ao, c, rfl⟩ := row_fm ho
  exact ⟨ao, c, rfl, ho, g⟩
theorem nmL_le (ok : q.Ok) : (nmL q).length ≤ q.st := by
  unfold nmL
  split
  · simp
  · rw [srtB_len, kys_length]; exact ok.nmL
/-- The log is the same, all but what is torn. -/
theorem wReady_tn (e : L.tn = true ∧ wFull (L, q) = false) : wReady (L, q) = if (wMend (L, q)).1 = 173 then wRoll (wMend (L, q)).2 else wMend (L, q) := by
  show (if L.tn = true ∧ wFull (L, q) = false then _ else _) = _
  rw [if_pos e]
theorem wReady_or (e : ¬ (L.tn = true ∧ wFull (L, q) = false)) (e2 : L.tn = true ∨ wFull (L, q) = true) : wReady (L, q) = wRoll (L, q) := by
  show (if L.tn = true ∧ wFull (L, q) = false then _ else if L.tn = true ∨ wFull (L, q) = true then _ else _) = _
  rw [if_neg e, if_pos e2]
theorem wReady_no (e : ¬ (L.tn = true ∧ wFull (L, q) = false)) (e2 : ¬ (L.tn = true ∨ wFull (L, q) = true)) : wReady (L, q) = (0, L, q) := by
  show (if L.tn = true ∧ wFull (L, q) = false then _ else if L.tn = true ∨ wFull (L, q) = true then _ else _) = _
  rw [if_neg e, if_neg e2]
set_option maxRecDepth 100000 in
set_option maxHeartbeats 4000000 in
theorem wready_c (h : WaAt w a b L q E) (ok : q.Ok) (hst : q.st < 70000) (hne : L.sg ≠ []) (hlen : L.sg.length ≤ 900000) (hs : Sml L.cur.1) (hs2 : Sml L.cur.2) (hz : L.sz ≤ 4611686018427387904) (hG : GlK E w) :
    Calls Tryz.prog 44 #[.pointer (some ⟨a, 0, none⟩)] w fun e w' => e = .returned (.int .i64 (wReady (L, q)).1) ∧ WaOut w w' a b (wReady (L, q)).2.1 (wReady (L, q)).2.2 E := by
  obtain ⟨ao, c, ⟨k0, _, k2, k3, _⟩, _, ha⟩ := h.cells
  have hE := h.lt
  have nl := nmL_le ok
  -- behind Names
  have S : Hid (∀ X, Gb w X → (X.cell? ⟨a, 3, none⟩ = some (.bool L.tn) ∧ a < X.heap.size) ∧ Hid (WaOut w X a b L q E) ∧
      Hid (Calls Tryz.prog 69 #[.pointer (some ⟨a, 0, none⟩)] X fun e w2 => e = .returned (.int .i64 (wMend (L, q)).1) ∧ (((wMend (L, q)).1 ≠ 0 → w2.cell? ⟨a, 3, none⟩ = some (.bool L.tn)) ∧ a < w2.heap.size) ∧ Hid (WaOut w w2 a b (wMend (L, q)).2.1 (wMend (L, q)).2.2 E) ∧
        Hid (Calls Tryz.prog 52 #[.pointer (some ⟨a, 0, none⟩)] w2 fun e w3 => e = .returned (.int .i64 (wRoll (wMend (L, q)).2).1) ∧ Hid (WaOut w w3 a b (wRoll (wMend (L, q)).2).2.1 (wRoll (wMend (L, q)).2).2.2 E))) ∧
      Hid (Calls Tryz.prog 52 #[.pointer (some ⟨a, 0, none⟩)] X fun e w3 => e = .returned (.int .i64 (wRoll (L, q)).1) ∧ Hid (WaOut w w3 a b (wRoll (L, q)).2.1 (wRoll (L, q)).2.2 E))) := fun X gX => by
    have OX := (WaOut.self h).gb gX
    have hX := h.gb gX
    have GX : GlK E X := fun Y kY => hG Y ((Kf.gb gX E).then kY fun _ _ e => e)
    have lt := fun j (e : E j) => Nat.lt_of_lt_of_le (hE j e) gX.size
    obtain ⟨_, _, ⟨_, _, _, m3, _⟩, _, ha'⟩ := hX.cells
    refine ⟨⟨m3, ha'⟩, OX, ?_, ?_⟩
    · refine (wmend_c hX ok (by omega) hne (by omega) hs hz GX).mono ?_
      rintro e w2 ⟨rfl, o2⟩
      have O2 := o2.pre gX hE
      obtain ⟨f1, f2, f3, f4, f5⟩ := wMend_ok ok L
      obtain ⟨_, _, ⟨_, _, _, m3, _⟩, _, ha2⟩ := O2.1.cells
      refine ⟨rfl, ⟨fun e => by rw [f3 e] at m3; exact m3, ha2⟩, O2, ?_⟩
      have ec : (wMend (L, q)).2.1.cur = L.cur := by unfold Lg.cur; rw [f4]
      have := wroll_c O2.1 f1 (by omega) (by rw [f4]; exact hne) (by rw [f4]; exact hlen) (by rw [ec]; exact hs) (by rw [ec]; exact hs2) (by rw [f5]; exact hz) (hG.out O2.2)
      refine this.mono ?_
      rintro e w3 ⟨rfl, o3⟩
      exact ⟨rfl, O2.trans hE o3⟩
    · refine (wroll_c hX ok (by omega) hne hlen hs hs2 hz GX).mono ?_
      rintro e w3 ⟨rfl, o3⟩
      exact ⟨rfl, o3.pre gX hE⟩
  have NM : Hid (Calls Tryz.prog 25 #[.pointer (some ⟨b, 0, none⟩)] w fun e w' => ∃ ao c, e = .returned (.slice ao (nmL q).length c) ∧ Gb w w') := by
    refine (names_q h ok (by omega)).mono ?_
    rintro e w' ⟨ao, c, rfl, _, g⟩
    exact ⟨ao, c, rfl, g⟩
  have RF : Hid (Gb w w) := Below.refl _ _
  have WF : wFull (L, q) = (decide (16384 < L.sz) && decide ((nmL q).length < 60)) := rfl
  have R1 := @wReady_tn L q
  have R2 := @wReady_or L q
  have R3 := @wReady_no L q
  generalize wFull (L, q) = fu at *
  generalize wReady (L, q) = rd at *
  generalize hsz : L.sz = sz at *
  generalize hnl : (nmL q).length = nl' at *
  have hnl' : nl' ≤ 100000 := by omega
  clear h hne hlen hs hs2 hz hG hst ok hsz hnl nl hE
  generalize wMend (L, q) = rm at *
  obtain ⟨m1, ml, mq⟩ := rm
  generalize wRoll (L, q) = rr at *
  obtain ⟨r1, rl, rq⟩ := rr
  generalize hrx : wRoll (ml, mq) = rx at *
  obtain ⟨x1, xl, xq⟩ := rx
  cases htn : L.tn with
  | false =>
    by_cases hb : 16384 < sz
    · have hbi : (16384 : Int) < (sz : Int) := by omega
      by_cases hf : nl' < 60
      · have hfi : (nl' : Int) < 60 := by omega
        have efu : fu = true := by rw [WF]; simp [hb, hf]
        subst efu
        rw [R2 (by rw [htn]; decide) (.inr rfl)]
        clear R1 R2 R3 WF
        go_enter Tryz.func44, Tryz.ntmps44
        go_wp2_with fail
        refine NM.out.mono ?_
        rintro e v1 ⟨ao', c', rfl, g1⟩
        obtain ⟨⟨x3, sx⟩, OX, MM, RR⟩ := S.out v1 g1
        clear S NM
        rw [htn] at x3
        clear MM
        go_wp2_with fail
        refine RR.out.mono ?_
        rintro e w3 ⟨rfl, O⟩
        go_wp2
        go_ret
        exact ⟨rfl, O.out⟩
      · have hfi : ¬ (nl' : Int) < 60 := by omega
        have hfd : decide ((nl' : Int) < 60) = false := decide_eq_false hfi
        have efu : fu = false := by rw [WF]; simp [hf]
        subst efu
        rw [R3 (by rw [htn]; decide) (by rw [htn]; decide)]
        clear R1 R2 R3 WF
        go_enter Tryz.func44, Tryz.ntmps44
        go_wp2_with fail
        refine NM.out.mono ?_
        rintro e v1 ⟨ao', c', rfl, g1⟩
        obtain ⟨⟨x3, sx⟩, OX, MM, RR⟩ := S.out v1 g1
        clear S NM
        rw [htn] at x3
        clear MM RR
        go_wp2
        go_ret
        exact ⟨rfl, OX.out⟩
    · have hbi : ¬ (16384 : Int) < (sz : Int) := by omega
      have efu : fu = false := by rw [WF]; simp [hb]
      subst efu
      rw [R3 (by rw [htn]; decide) (by rw [htn]; decide)]
      rw [htn] at k3
      clear R1 R2 R3 WF
      obtain ⟨_, OX, MM, RR⟩ := S.out w RF.out
      clear S NM
      go_enter Tryz.func44, Tryz.ntmps44
      clear MM RR
      go_wp2
      go_ret
      exact ⟨rfl, OX.out⟩
  | true =>
    by_cases hb : 16384 < sz
    · have hbi : (16384 : Int) < (sz : Int) := by omega
      by_cases hf : nl' < 60
      · have hfi : (nl' : Int) < 60 := by omega
        have efu : fu = true := by rw [WF]; simp [hb, hf]
        subst efu
        rw [R2 (fun h => by cases h.2) (.inr rfl)]
        clear R1 R2 R3 WF
        go_enter Tryz.func44, Tryz.ntmps44
        go_wp2_with fail
        refine NM.out.mono ?_
        rintro e v1 ⟨ao', c', rfl, g1⟩
        obtain ⟨⟨x3, sx⟩, OX, MM, RR⟩ := S.out v1 g1
        clear S NM
        rw [htn] at x3
        clear MM
        go_wp2_with fail
        refine RR.out.mono ?_
        rintro e w3 ⟨rfl, O⟩
        go_wp2
        go_ret
        exact ⟨rfl, O.out⟩
      · have hfi : ¬ (nl' : Int) < 60 := by omega
        have hfd : decide ((nl' : Int) < 60) = false := decide_eq_false hfi
        have efu : fu = false := by rw [WF]; simp [hf]
        subst efu
        rw [R1 ⟨htn, rfl⟩]
        clear R1 R2 R3 WF
        by_cases e173 : m1 = 173
        · subst e173
          rw [if_pos rfl]
          go_enter Tryz.func44, Tryz.ntmps44
          go_wp2_with fail
          refine NM.out.mono ?_
          rintro e v1 ⟨ao', c', rfl, g1⟩
          obtain ⟨⟨x3, sx⟩, OX, MM, RR⟩ := S.out v1 g1
          clear S NM
          rw [htn] at x3
          clear RR
          go_wp2_with fail
          refine MM.out.mono ?_
          rintro e w2 ⟨rfl, ⟨t3, s2⟩, O2, RX⟩
          have t3' := t3 (by decide)
          rw [htn] at t3'
          clear MM O2 t3
          go_wp2_with fail
          refine RX.out.mono ?_
          rintro e w3 ⟨rfl, O⟩
          go_wp2
          go_ret
          exact ⟨rfl, O.out⟩
        · rw [if_neg e173]
          have b173 : (m1 == 173) = false := by rw [beq_eq_false_iff_ne]; exact e173
          go_enter Tryz.func44, Tryz.ntmps44
          go_wp2_with fail
          refine NM.out.mono ?_
          rintro e v1 ⟨ao', c', rfl, g1⟩
          obtain ⟨⟨x3, sx⟩, OX, MM, RR⟩ := S.out v1 g1
          clear S NM
          rw [htn] at x3
          clear RR
          go_wp2_with fail
          refine MM.out.mono ?_
          rintro e w2 ⟨rfl, _, O2, RX⟩
          clear MM RX
          go_wp2
          go_ret
          exact ⟨rfl, O2.out⟩
    · have hbi : ¬ (16384 : Int) < (sz : Int) := by omega
      have efu : fu = false := by rw [WF]; simp [hb]
      subst efu
      rw [R1 ⟨htn, rfl⟩]
      rw [htn] at k3
      clear R1 R2 R3 WF
      by_cases e173 : m1 = 173
      · subst e173
        rw [if_pos rfl]
        obtain ⟨_, OX, MM, RR⟩ := S.out w RF.out
        clear S NM
        go_enter Tryz.func44, Tryz.ntmps44
        clear RR
        go_wp2_with fail
        refine MM.out.mono ?_
        rintro e w2 ⟨rfl, ⟨t3, s2⟩, O2, RX⟩
        have t3' := t3 (by decide)
        rw [htn] at t3'
        clear MM O2 t3
        go_wp2_with fail
        refine RX.out.mono ?_
        rintro e w3 ⟨rfl, O⟩
        go_wp2
        go_ret
        exact ⟨rfl, O.out⟩
      · rw [if_neg e173]
        have b173 : (m1 == 173) = false := by rw [beq_eq_false_iff_ne]; exact e173
        obtain ⟨_, OX, MM, RR⟩ := S.out w RF.out
        clear S NM
        go_enter Tryz.func44, Tryz.ntmps44
        clear RR
        go_wp2_with fail
        refine MM.out.mono ?_
        rintro e w2 ⟨rfl, _, O2, RX⟩
        clear MM RX
        go_wp2
        go_ret
        exact ⟨rfl, O2.out⟩
end Go.Proofs.YtcbhhdjjanekaaaGreatDoor
