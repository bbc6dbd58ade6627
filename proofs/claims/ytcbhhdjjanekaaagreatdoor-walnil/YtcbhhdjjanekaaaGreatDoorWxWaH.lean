/- roll; ready. -/
import Derived.Test.YtcbhhdjjanekaaaGreatDoorWxWaG
namespace Go.Proofs.YtcbhhdjjanekaaaGreatDoor
open Go.RowKit Go.Lib Go.Maps

variable {w w' W W' w1 w2 w3 w4 w5 : World} {a b : Nat} {L L' : Lg} {q q' : Dq} {E F G : Nat → Prop}
/-! What the plain calls keep. -/
theorem wBegin_ok (ok : q.Ok) (f : Int) : (wBegin (L, q) f).2.2.Ok ∧ (wBegin (L, q) f).2.2.st ≤ q.st + 1 := by
  unfold wBegin
  split
  · exact ⟨ok.create _, create_st _ _⟩
  · exact ⟨ok, Nat.le_succ _⟩
theorem wFill_ok (ok : q.Ok) (l : By) : (wFill q l).2.Ok ∧ (wFill q l).2.st ≤ q.st + 2 := by
  unfold wFill
  split
  · exact ⟨ok, by show q.st ≤ _; omega⟩
  split
  · refine ⟨(ok.append _ _).sync _, ?_⟩
    have a1 := append_st q sprN l
    have a2 := sync_st (q.append sprN l) sprN
    show ((q.append sprN l).sync sprN).st ≤ _
    omega
  · exact ⟨ok, by show q.st ≤ _; omega⟩
theorem wMend_ok (ok : q.Ok) (L : Lg) : (wMend (L, q)).2.2.Ok ∧ (wMend (L, q)).2.2.st ≤ q.st + 4 ∧ ((wMend (L, q)).1 ≠ 0 → (wMend (L, q)).2.1 = L) ∧ (wMend (L, q)).2.1.sg = L.sg ∧ (wMend (L, q)).2.1.sz = L.sz := by
  unfold wMend
  split
  · split
    · unfold wMend2
      have f := wFill_ok (ok.create sprN) ((rdV q L.cn).take L.sz)
      have c := create_st q sprN
      show Dq.Ok (Prod.snd (Prod.snd (if (wFill (q.create sprN) ((rdV q L.cn).take L.sz)).1 = 0 then _ else _))) ∧ _
      dsimp only
      generalize wFill (q.create sprN) ((rdV q L.cn).take L.sz) = r at *
      split
      · split
        · exact ⟨f.1.rename _ _, by have := rename_st r.2 sprN L.cn; show (r.2.rename sprN L.cn).st ≤ _; omega, fun h => absurd rfl h, rfl, rfl⟩
        · exact ⟨f.1, by show r.2.st ≤ _; omega, fun _ => rfl, rfl, rfl⟩
      · split
        · exact ⟨f.1.remove _, by have := remove_st r.2 sprN; show (r.2.remove sprN).st ≤ _; omega, fun _ => rfl, rfl, rfl⟩
        · exact ⟨f.1, by show r.2.st ≤ _; omega, fun _ => rfl, rfl, rfl⟩
    · exact ⟨ok, by show q.st ≤ _; omega, fun _ => rfl, rfl, rfl⟩
  · exact ⟨ok, by show q.st ≤ _; omega, fun _ => rfl, rfl, rfl⟩
set_option maxRecDepth 100000 in
set_option maxHeartbeats 4000000 in
theorem wroll_c (h : WaAt w a b L q E) (ok : q.Ok) (hst : q.st < 80000) (hne : L.sg ≠ []) (hlen : L.sg.length ≤ 900000) (hs : Sml L.cur.1) (hs2 : Sml L.cur.2) (hz : L.sz ≤ 4611686018427387904) (hG : GlK E w) :
    Calls Tryz.prog 52 #[.pointer (some ⟨a, 0, none⟩)] w fun e w' => e = .returned (.int .i64 (wRoll (L, q)).1) ∧ WaOut w w' a b (wRoll (L, q)).2.1 (wRoll (L, q)).2.2 E := by
  obtain ⟨ao, c, ⟨k0, _, k2, _, _⟩, _, ha⟩ := h.cells
  have hE := h.lt
  by_cases hz0 : L.sz = 0
  · have FIN : wRoll (L, q) = wMend (L, q) := by show (if L.sz = 0 then _ else _) = _; rw [if_pos hz0]
    rw [FIN]
    have cM := wmend_c h ok hst hne (by omega) hs hz hG
    rw [hz0] at k2
    clear FIN h ok hst hne hlen hs hs2 hz hG hE
    generalize wMend (L, q) = r at *
    obtain ⟨r1, L1, q1⟩ := r
    go_enter Tryz.func52, Tryz.ntmps52
    go_wp2_with fail
    refine cM.mono ?_
    rintro e w1 ⟨rfl, O⟩
    go_wp2
    go_ret
    exact ⟨rfl, O⟩
  have bz : ((L.sz : Int) == 0) = false := by rw [beq_eq_false_iff_ne]; omega
  have hcn : KWfS L.cn := sgN_wf hs
  have FIN : wRoll (L, q) = if fiE q L.cn = 0 then wBegin (L, q.sync L.cn) L.cur.2 else (fiE q L.cn, L, q) := by show (if L.sz = 0 then _ else _) = _; rw [if_neg hz0]
  rw [FIN]
  have T : ∃ g o, CNm w a b L g o fun Z => Calls Tryz.prog 48 #[.pointer (some ⟨b, 0, none⟩), .string (sb L.cn)] Z fun e w3 => e = .returned (.int .i64 (fiE q L.cn)) ∧ (w3.cell? ⟨a, 0, none⟩ = some (.pointer (some ⟨b, 0, none⟩)) ∧ a < w3.heap.size) ∧ (w3.cell? ⟨g, o, none⟩ = some (.int .i64 L.cur.1) ∧ w3.cell? ⟨g, o + 1, none⟩ = some (.int .i64 L.cur.2) ∧ g < w3.heap.size) ∧
      Hid (WaOut w w3 a b L (q.sync L.cn) E) ∧ Hid (Calls Tryz.prog 20 #[.pointer (some ⟨a, 0, none⟩)] w3 fun e w4 => e = .returned (.int .i64 (L.cur.2 - 1)) ∧
        Hid (Calls Tryz.prog 66 #[.pointer (some ⟨a, 0, none⟩), .int .i64 L.cur.2] w4 fun e w5 => e = .returned (.int .i64 (wBegin (L, q.sync L.cn) L.cur.2).1) ∧ Hid (WaOut w w5 a b (wBegin (L, q.sync L.cn) L.cur.2).2.1 (wBegin (L, q.sync L.cn) L.cur.2).2.2 E))) :=
    cur_name h hne (by omega) hs hG fun g o cb ⟨c1, c2, cg⟩ Z gZ => by
      have OZ := (WaOut.self h).gb gZ
      refine (OZ.1.dkg (R := fun e => e = .returned (.int .i64 (fiE q L.cn))) fun F k => sync_c k ok (by omega) hcn).mono ?_
      rintro e w3 ⟨rfl, o3, B3⟩
      have s3 := o3.2.size
      have O3 := OZ.trans hE o3
      have eb := B3 g (cb.gb gZ)
      refine ⟨rfl, O3.a0, ⟨(World.cell?_of_block (a := ⟨g, o, none⟩) eb).trans (gb_keeps gZ c1), (World.cell?_of_block (a := ⟨g, o + 1, none⟩) eb).trans (gb_keeps gZ c2), Nat.lt_of_lt_of_le (Nat.lt_of_lt_of_le cg gZ.size) s3⟩, O3, ?_⟩
      refine (wlast_c O3.1 hne (by omega) hs2).mono ?_
      rintro e w4 ⟨rfl, g4⟩
      have O4 := O3.gb g4
      refine ⟨rfl, ?_⟩
      have st := sync_st q L.cn
      refine (wbegin_c O4.1 (ok.sync _) (by omega) (by omega) (hG.out O4.2) hs2).mono ?_
      rintro e w5 ⟨rfl, o5⟩
      exact ⟨rfl, O4.trans hE o5⟩
  have SO : fiE q L.cn ≠ 0 → q.sync L.cn = q := fun e => sync_off e
  have e1 : L.cur.2 - 1 + 1 = L.cur.2 := by omega
  obtain ⟨hs21, hs22⟩ := hs2
  obtain ⟨g, o, ⟨kg, kh, kl⟩, T1, T2, T3⟩ := T
  have G0 : Hid (Gb w w) := Below.refl _ _
  have GD : Hid (Gb w w.drew) := (Below.refl _ w).drew
  clear FIN h ok hst hne hlen hs hz hG hE hcn
  generalize hcf : L.cur.1 = cf at *
  generalize hcx : L.cur.2 = cx at *
  by_cases ef : fiE q L.cn = 0
  · rw [if_pos ef]
    rw [ef] at T3
    generalize wBegin (L, q.sync L.cn) cx = r at *
    obtain ⟨r1, L1, q1⟩ := r
    go_enter Tryz.func52, Tryz.ntmps52
    go_wp2
    go_region_held3 (fun w' => w'.cell? ⟨a, 0, none⟩ = some (.pointer (some ⟨b, 0, none⟩)) ∧ w'.cell? ⟨g, o, none⟩ = some (.int .i64 cf) ∧ w'.cell? ⟨g, o + 1, none⟩ = some (.int .i64 cx)) (first | exact ⟨k0, kg, kh⟩ | exact ⟨d0, c1, c2⟩ | exact ⟨d1, n1, n2⟩ | exact ⟨d2, m1, m2⟩) (first
      | (go_at_call 40; refine (T1.out _ (by first | exact GD.out | exact G0.out)).mono ?_; rintro e w1 ⟨rfl, c1, c2, cg, d0, s1, g1⟩)
      | (go_at_call 46; refine (T2.out _ g1).mono ?_; rintro e w2 ⟨rfl, n1, n2, ng, d1, s2, g2⟩)
      | (go_at_call 48; refine (T3.out _ g2).mono ?_; rintro e w3 ⟨rfl, ⟨d2, s3⟩, ⟨m1, m2, mg⟩, O3, T4⟩))
    all_goals
      clear T1 T2 T3 O3
      go_wp2_with fail
      refine T4.out.mono ?_
      rintro e w4 ⟨rfl, T5⟩
      clear T4
      go_wp2_with fail
      refine T5.out.mono ?_
      rintro e w5 ⟨rfl, O⟩
      go_wp2
      go_ret
      exact ⟨rfl, O.out⟩
  · rw [if_neg ef]
    have bf : (fiE q L.cn == 0) = false := by rw [beq_eq_false_iff_ne]; exact ef
    rw [SO ef] at T3
    generalize fiE q L.cn = fe at *
    go_enter Tryz.func52, Tryz.ntmps52
    go_wp2
    go_region_held3 (fun w' => w'.cell? ⟨a, 0, none⟩ = some (.pointer (some ⟨b, 0, none⟩)) ∧ w'.cell? ⟨g, o, none⟩ = some (.int .i64 cf) ∧ w'.cell? ⟨g, o + 1, none⟩ = some (.int .i64 cx)) (first | exact ⟨k0, kg, kh⟩ | exact ⟨d0, c1, c2⟩ | exact ⟨d1, n1, n2⟩ | exact ⟨d2, m1, m2⟩) (first
      | (go_at_call 40; refine (T1.out _ (by first | exact GD.out | exact G0.out)).mono ?_; rintro e w1 ⟨rfl, c1, c2, cg, d0, s1, g1⟩)
      | (go_at_call 46; refine (T2.out _ g1).mono ?_; rintro e w2 ⟨rfl, n1, n2, ng, d1, s2, g2⟩)
      | (go_at_call 48; refine (T3.out _ g2).mono ?_; rintro e w3 ⟨rfl, ⟨d2, s3⟩, ⟨m1, m2, mg⟩, O3, T4⟩))
    all_goals
      clear T1 T2 T3 T4
      go_wp2
      go_ret
      exact ⟨rfl, O3.out⟩
end Go.Proofs.YtcbhhdjjanekaaaGreatDoor
