/- firsts; tidy. -/
import Derived.Test.YtcbhhdjjanekaaaGreatDoorWxWaL
namespace Go.Proofs.YtcbhhdjjanekaaaGreatDoor
open Go.RowKit Go.Lib Go.Maps

variable {w w' W W' w1 w2 : World} {a b : Nat} {L L' : Lg} {q q' : Dq} {E F G : Nat → Prop}
set_option maxRecDepth 100000 in
set_option maxHeartbeats 4000000 in
theorem firsts_c {base : Nat} {v : Value} {l : List By} (h : OwnT w base v l) (hl : l.length ≤ 90000) (hx : ∀ x ∈ l, x.length ≤ 60000) (hG : Gl w) : Calls Tryz.prog 60 #[v] w fun e w' => ∃ ax c, e = .returned (.slice ax (fsts l).length c) ∧ OwnI w' w.heap.size (.slice ax (fsts l).length c) (fsts l) ∧ Gb w w' := by
  obtain ⟨ao, cap, rfl, hat⟩ := h.at2
  have A : Hid (∀ i, i < l.length → ∃ g, ao = some ⟨g, 0, none⟩ ∧ ∀ X, Gb w X → X.cell? ⟨g, i, none⟩ = some (.string (sb l[i]!))) := fun i hi => by
    obtain ⟨g, e, k⟩ := hat i hi
    exact ⟨g, e, fun X gX => gb_keeps gX k⟩
  have X0 : Hid (∀ i, i < l.length → l[i]!.length ≤ 60000) := fun i hi => by
    rw [getElem!_pos l i hi]; exact hx _ (List.getElem_mem hi)
  have GL : Hid (Gl w) := hG
  have LB : Hid (l.length ≤ 90000) := hl
  obtain ⟨N, hN⟩ : ∃ N, N = l.length := ⟨_, rfl⟩
  have NN : Hid (N = l.length) := hN
  have hN9 : N ≤ 90000 := by omega
  rw [← hN]
  clear hat hx hG h hl hN
  go_enter Tryz.func60, Tryz.ntmps60
  go_wp2
  go_loopw [3, 12] (fun nv iv W => ∃ i : Nat, iv = .int .i64 (i : Int) ∧ i ≤ N ∧ ∃ ax c, nv = .slice ax ((l.take i).filterMap fst1).length c ∧ Hid (OwnI W w.heap.size (.slice ax ((l.take i).filterMap fst1).length c) ((l.take i).filterMap fst1) ∧ Gb w W)) (fun _ iv _ => N - (intOf iv).toNat)
  case atStart => exact ⟨0, rfl, Nat.zero_le _, none, 0, rfl, World.ownsRow_nil _ _ _ _, Below.refl _ _⟩
  case round =>
    obtain ⟨i, rfl, hi, ax, c, rfl, X⟩ := hrel
    by_cases hiN : i < N
    · have hii : (i : Int) < (N : Int) := by omega
      have hil : i < l.length := by have := NN.out; omega
      obtain ⟨g, rfl, kg⟩ := A.out i hil
      have kc := kg _ X.out.2
      have hg := cell_lt kc
      have hlen := X0.out i hil
      have htl := trim_len l[i]! pfx
      have cC : Calls Tryz.prog 77 #[.string (sb l[i]!), .string (sb pfx)] wr fun e w' => e = .returned (.tuple #[.string (sb (Lib.trimPrefix l[i]! pfx)), .bool (Lib.hasPrefix l[i]! pfx)]) ∧ wr = w' := (cutPrefix_c l[i]! pfx wr).mono fun e w' h => ⟨h.1, h.2.symm⟩
      have cA := atoi_c (Lib.trimPrefix l[i]! pfx) (by omega) wr (GL.out.gb X.out.2)
      have tk := fst_take hil
      have sx : sb pfx = ⟨#[108, 111, 103, 46]⟩ := rfl
      have lk : ((l.take i).filterMap fst1).length ≤ 90000 := by
        have := List.length_filterMap_le fst1 (l.take i)
        rw [List.length_take] at this
        have := LB.out
        omega
      rw [sx] at cC
      have F1 := @fst_yes l[i]!
      have F2 := @fst_no1 l[i]!
      have STAY : Hid (fst1 l[i]! = none → ∀ W2, Gb wr W2 → Hid (∃ ax' c', (.slice ax ((l.take i).filterMap fst1).length c : Value) = .slice ax' ((l.take (i + 1)).filterMap fst1).length c' ∧ Hid (OwnI W2 w.heap.size (.slice ax' ((l.take (i + 1)).filterMap fst1).length c') ((l.take (i + 1)).filterMap fst1) ∧ Gb w W2))) := fun e W2 g2 => by
        rw [tk, e, Option.toList_none, List.append_nil]
        exact ⟨ax, c, rfl, row_same X.out.1 fun k e => g2.block k (World.ownsRow.lt X.out.1 k e).2, gb_trans X.out.2 g2⟩
      have GROW : Hid (∀ n, fst1 l[i]! = some n → ∀ W2, Gb wr W2 → ∃ ax' c' W3, (Builtin.append_ #[32, 32] 32 #[.slice ax ((l.take i).filterMap fst1).length c, .slice (some ⟨W2.heap.size, 0, none⟩) 1 1]).run Tryz.prog (W2.alloc (.cells #[.int .i64 n] 3)) = .ok (.slice ax' (((l.take i).filterMap fst1).length + 1) c') W3 ∧
          Hid (∃ ax'' c'', (.slice ax' (((l.take i).filterMap fst1).length + 1) c' : Value) = .slice ax'' ((l.take (i + 1)).filterMap fst1).length c'' ∧ Hid (OwnI W3 w.heap.size (.slice ax'' ((l.take (i + 1)).filterMap fst1).length c'') ((l.take (i + 1)).filterMap fst1) ∧ Gb w W3))) := fun n e W2 g2 => by
        have ga := gb_alloc g2 (.cells #[.int .i64 n] 3)
        have ho : OwnI (W2.alloc (.cells #[.int .i64 n] 3)) w.heap.size (.slice ax ((l.take i).filterMap fst1).length c) ((l.take i).filterMap fst1) := row_same X.out.1 fun k e => ga.block k (World.ownsRow.lt X.out.1 k e).2
        have gB := gb_trans X.out.2 ga
        obtain ⟨ax', c', W3, hr, ho3, hgr⟩ := appI_run ho gB.size (by omega) (s := W2.heap.size) (x := n) (by simp [go_sem])
        refine ⟨ax', c', W3, hr, ?_⟩
        rw [tk, e, Option.toList_some, List.length_append, List.length_singleton]
        exact ⟨ax', c', rfl, ho3, below_grown' gB hgr fun k e => (World.ownsRow.lt ho k e).1⟩
      clear A X tk kg X0 hlen htl
      generalize ((l.take i).filterMap fst1).length = m at *
      generalize sb l[i]! = s1 at *
      generalize hs2 : sb (Lib.trimPrefix l[i]! pfx) = s2 at *
      cases hp : Lib.hasPrefix l[i]! pfx with
      | false =>
        have ST := STAY.out (F2 hp)
        rw [hp] at cC
        clear STAY GROW F1 F2
        go_wp2_with fail
        refine cC.mono ?_
        rintro e v1 ⟨rfl, rfl⟩
        go_wp2_with fail
        refine cA.mono ?_
        rintro e v2 ⟨⟨n, x, rfl, _⟩, g2⟩
        have S2 := ST v2 g2
        clear ST cC cA
        go_wp2
        exact ⟨⟨i + 1, by simp, hiN, S2.out⟩, by simp [intOf]; omega⟩
      | true =>
        rw [hp] at cC
        cases ha : Lib.atoiAll (Lib.trimPrefix l[i]! pfx) with
        | ok n =>
          have GR := GROW.out n (F1 hp ha)
          rw [ha] at cA
          clear STAY GROW F1 F2
          go_wp2_with fail
          refine cC.mono ?_
          rintro e v1 ⟨rfl, rfl⟩
          go_wp2_with fail
          refine cA.mono ?_
          rintro e v2 ⟨⟨n', x, rfl, rfl, rfl⟩, g2⟩
          obtain ⟨ax', c', W3, hr, S2⟩ := GR v2 g2
          clear GR cC cA
          go_wp2_with (first | (at_builtin; refine wpl_append rfl (.tmp 31) (.tmp 33) 32 rfl _ _ rfl rfl hr ?_) | fail)
          exact ⟨⟨i + 1, by simp, hiN, S2.out⟩, by simp [intOf]; omega⟩
        | «syntax» =>
          have ST := STAY.out (by unfold fst1; rw [if_pos hp, ha])
          rw [ha] at cA
          clear STAY GROW F1 F2
          go_wp2_with fail
          refine cC.mono ?_
          rintro e v1 ⟨rfl, rfl⟩
          go_wp2_with fail
          refine cA.mono ?_
          rintro e v2 ⟨⟨n', x, rfl, N', rfl⟩, g2⟩
          have S2 := ST v2 g2
          clear ST cC cA
          go_wp2
          exact ⟨⟨i + 1, by simp, hiN, S2.out⟩, by simp [intOf]; omega⟩
        | range =>
          have ST := STAY.out (by unfold fst1; rw [if_pos hp, ha])
          rw [ha] at cA
          clear STAY GROW F1 F2
          go_wp2_with fail
          refine cC.mono ?_
          rintro e v1 ⟨rfl, rfl⟩
          go_wp2_with fail
          refine cA.mono ?_
          rintro e v2 ⟨⟨n', x, rfl, N', rfl⟩, g2⟩
          have S2 := ST v2 g2
          clear ST cC cA
          go_wp2
          exact ⟨⟨i + 1, by simp, hiN, S2.out⟩, by simp [intOf]; omega⟩
    · have e : i = N := by omega
      subst e
      have hii : ¬ (i : Int) < (i : Int) := by omega
      have FIN : Hid (Calls Tryz.prog 79 #[.slice ax ((l.take i).filterMap fst1).length c] wr fun e w' => e = .returned (.tuple #[]) ∧ Hid (∃ ax' c', (.slice ax ((l.take i).filterMap fst1).length c : Value) = .slice ax' (fsts l).length c' ∧ OwnI w' w.heap.size (.slice ax' (fsts l).length c') (fsts l) ∧ Gb w w')) := by
        have el : l.take i = l := List.take_of_length_le (by have := NN.out; omega)
        have hlen : (fsts l).length = (l.filterMap fst1).length := List.length_mergeSort _
        have le := List.length_filterMap_le fst1 l
        rw [el] at X ⊢
        have lb := LB.out
        refine (sort_c X.out.1 (by omega) X.out.2.size).mono ?_
        rintro e w' ⟨rfl, ho, hb⟩
        refine ⟨rfl, ax, c, by rw [hlen], ?_, X.out.2.trans hb⟩
        rw [hlen]
        exact ho
      clear X A
      generalize ((l.take i).filterMap fst1).length = m at *
      go_wp2_with fail
      refine FIN.out.mono ?_
      rintro e w3 ⟨rfl, R⟩
      clear FIN
      go_wp2
      go_ret
      obtain ⟨ax', c', he, R⟩ := R.out
      exact ⟨ax', c', congrArg Ending.returned he, R⟩
/-- tidy. -/
theorem wTidy_eq (s : Lq) : wTidy s = if sprN ∈ nmL s.2 then (if fiE s.2 sprN = 0 then (if s.1.sg = [] then wBegin (s.1, s.2.remove sprN) 1 else (0, s.1, s.2.remove sprN)) else (fiE s.2 sprN, s)) else if s.1.sg = [] then wBegin s 1 else (0, s) := rfl
theorem sml_one : Sml 1 := by unfold Sml; omega
set_option maxRecDepth 100000 in
set_option maxHeartbeats 4000000 in
theorem wtidy_c (h : WaAt w a b L q E) (ok : q.Ok) (hst : q.st < 80000) (hlen : L.sg.length ≤ 900000) (hG : GlK E w) :
    Calls Tryz.prog 42 #[.pointer (some ⟨a, 0, none⟩)] w fun e w' => e = .returned (.int .i64 (wTidy (L, q)).1) ∧ WaOut w w' a b (wTidy (L, q)).2.1 (wTidy (L, q)).2.2 E := by
  obtain ⟨k0, ha⟩ := h.a0
  have hE := h.lt
  have nl := nmL_le ok
  have T : Hid (Calls Tryz.prog 25 #[.pointer (some ⟨b, 0, none⟩)] w fun e w1 => ∃ ao c, e = .returned (.slice ao (nmL q).length c) ∧ Hid (Calls Tryz.prog 64 #[.slice ao (nmL q).length c, .string (sb sprN)] w1 fun e w2 => e = .returned (.bool (decide (sprN ∈ nmL q))) ∧ (∃ ax cx, w2.cell? ⟨a, 0, none⟩ = some (.pointer (some ⟨b, 0, none⟩)) ∧ w2.cell? ⟨a, 1, none⟩ = some (.slice ax L.sg.length cx) ∧ a < w2.heap.size) ∧ Hid (WaOut w w2 a b L q E) ∧
      Hid (Calls Tryz.prog 66 #[.pointer (some ⟨a, 0, none⟩), .int .i64 1] w2 fun e w3 => e = .returned (.int .i64 (wBegin (L, q) 1).1) ∧ Hid (WaOut w w3 a b (wBegin (L, q) 1).2.1 (wBegin (L, q) 1).2.2 E)) ∧
      Hid (Calls Tryz.prog 65 #[.pointer (some ⟨b, 0, none⟩), .string (sb sprN)] w2 fun e w3 => e = .returned (.int .i64 (fiE q sprN)) ∧ (∃ ax cx, w3.cell? ⟨a, 1, none⟩ = some (.slice ax L.sg.length cx) ∧ a < w3.heap.size) ∧ Hid (WaOut w w3 a b L (q.remove sprN) E) ∧
        Hid (Calls Tryz.prog 66 #[.pointer (some ⟨a, 0, none⟩), .int .i64 1] w3 fun e w4 => e = .returned (.int .i64 (wBegin (L, q.remove sprN) 1).1) ∧ Hid (WaOut w w4 a b (wBegin (L, q.remove sprN) 1).2.1 (wBegin (L, q.remove sprN) 1).2.2 E))))) := by
    refine (names_q h ok (by omega)).mono ?_
    rintro e w1 ⟨ao, c, rfl, ho, g1⟩
    refine ⟨ao, c, rfl, ?_⟩
    refine (contains_c ho (by omega) sprN).mono ?_
    rintro e w2 ⟨rfl, rfl⟩
    have O2 := (WaOut.self h).gb g1
    obtain ⟨ax, cx, ⟨m0, m1, _⟩, _, ha2⟩ := O2.1.cells
    refine ⟨rfl, ⟨ax, cx, m0, m1, ha2⟩, O2, ?_, ?_⟩
    · refine (wbegin_c O2.1 ok (by omega) (by omega) (hG.out O2.2) sml_one).mono ?_
      rintro e w3 ⟨rfl, o3⟩
      exact ⟨rfl, O2.trans hE o3⟩
    · refine (O2.dk hE (R := fun e => e = .returned (.int .i64 (fiE q sprN))) fun F k => remove_c k ok (by omega) sprN_wf).mono ?_
      rintro e w3 ⟨rfl, O3⟩
      obtain ⟨ax3, cx3, ⟨_, m1, _⟩, _, ha3⟩ := O3.1.cells
      refine ⟨rfl, ⟨ax3, cx3, m1, ha3⟩, O3, ?_⟩
      have st := remove_st q sprN
      refine (wbegin_c O3.1 (ok.remove _) (by omega) (by omega) (hG.out O3.2) sml_one).mono ?_
      rintro e w4 ⟨rfl, o4⟩
      exact ⟨rfl, O3.trans hE o4⟩
  have RM : fiE q sprN ≠ 0 → q.remove sprN = q := fun e => rem_off e
  rw [wTidy_eq]
  rw [sb_spr] at T
  have hlz : L.sg = [] ↔ L.sg.length = 0 := List.length_eq_zero_iff.symm
  simp only [hlz]
  clear h ok hst hlen hG hE nl hlz
  generalize L.sg.length = n at *
  generalize (nmL q).length = nn at *
  generalize hB1 : wBegin (L, q) 1 = r1 at *
  generalize hB2 : wBegin (L, q.remove sprN) 1 = r2 at *
  obtain ⟨x1, l1, q1⟩ := r1
  obtain ⟨x2, l2, q2⟩ := r2
  clear hB1 hB2
  by_cases hs : sprN ∈ nmL q
  · rw [if_pos hs]
    rw [decide_eq_true hs] at T
    by_cases ef : fiE q sprN = 0
    · rw [if_pos ef]
      rw [ef] at T
      by_cases hn : n = 0
      · rw [if_pos hn]
        subst hn
        clear RM
        go_enter Tryz.func42, Tryz.ntmps42
        go_wp2_with fail
        refine T.out.mono ?_
        rintro e w1 ⟨ao, c, rfl, T2⟩
        clear T
        go_wp2_with fail
        refine T2.out.mono ?_
        rintro e w2 ⟨rfl, ⟨ax, cx, m0, m1, s2⟩, O2, T3, T4⟩
        clear T2 T3
        go_wp2_with fail
        refine T4.out.mono ?_
        rintro e w3 ⟨rfl, ⟨ax3, cx3, p1, s3⟩, O3, T5⟩
        clear T4 O2 O3
        go_wp2_with fail
        refine T5.out.mono ?_
        rintro e w4 ⟨rfl, O⟩
        go_wp2
        go_ret
        exact ⟨rfl, O.out⟩
      · rw [if_neg hn]
        have bn : ((n : Int) == 0) = false := by rw [beq_eq_false_iff_ne]; omega
        clear RM
        go_enter Tryz.func42, Tryz.ntmps42
        go_wp2_with fail
        refine T.out.mono ?_
        rintro e w1 ⟨ao, c, rfl, T2⟩
        clear T
        go_wp2_with fail
        refine T2.out.mono ?_
        rintro e w2 ⟨rfl, ⟨ax, cx, m0, m1, s2⟩, O2, T3, T4⟩
        clear T2 T3
        go_wp2_with fail
        refine T4.out.mono ?_
        rintro e w3 ⟨rfl, ⟨ax3, cx3, p1, s3⟩, O3, T5⟩
        clear T4 O2 T5
        go_wp2
        go_ret
        exact ⟨rfl, O3.out⟩
    · rw [if_neg ef]
      have bf : (fiE q sprN == 0) = false := by rw [beq_eq_false_iff_ne]; exact ef
      rw [RM ef] at T
      clear RM
      go_enter Tryz.func42, Tryz.ntmps42
      go_wp2_with fail
      refine T.out.mono ?_
      rintro e w1 ⟨ao, c, rfl, T2⟩
      clear T
      go_wp2_with fail
      refine T2.out.mono ?_
      rintro e w2 ⟨rfl, ⟨ax, cx, m0, m1, s2⟩, O2, T3, T4⟩
      clear T2 T3
      go_wp2_with fail
      refine T4.out.mono ?_
      rintro e w3 ⟨rfl, ⟨ax3, cx3, p1, s3⟩, O3, T5⟩
      clear T4 O2 T5
      go_wp2
      go_ret
      exact ⟨rfl, O3.out⟩
  · rw [if_neg hs]
    rw [decide_eq_false hs] at T
    clear RM
    by_cases hn : n = 0
    · rw [if_pos hn]
      subst hn
      go_enter Tryz.func42, Tryz.ntmps42
      go_wp2_with fail
      refine T.out.mono ?_
      rintro e w1 ⟨ao, c, rfl, T2⟩
      clear T
      go_wp2_with fail
      refine T2.out.mono ?_
      rintro e w2 ⟨rfl, ⟨ax, cx, m0, m1, s2⟩, O2, T3, T4⟩
      clear T2 T4 O2
      go_wp2_with fail
      refine T3.out.mono ?_
      rintro e w3 ⟨rfl, O⟩
      go_wp2
      go_ret
      exact ⟨rfl, O.out⟩
    · rw [if_neg hn]
      have bn : ((n : Int) == 0) = false := by rw [beq_eq_false_iff_ne]; omega
      go_enter Tryz.func42, Tryz.ntmps42
      go_wp2_with fail
      refine T.out.mono ?_
      rintro e w1 ⟨ao, c, rfl, T2⟩
      clear T
      go_wp2_with fail
      refine T2.out.mono ?_
      rintro e w2 ⟨rfl, ⟨ax, cx, m0, m1, s2⟩, O2, T3, T4⟩
      clear T2 T3 T4
      go_wp2
      go_ret
      exact ⟨rfl, O2.out⟩
end Go.Proofs.YtcbhhdjjanekaaaGreatDoor
