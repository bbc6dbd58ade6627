/- Sync; Append. -/
import Derived.Test.YtcbhhdjjanekaaaGreatDoorWxWaI
namespace Go.Proofs.YtcbhhdjjanekaaaGreatDoor
open Go.RowKit Go.Lib Go.Maps

variable {w w' W W' w1 w2 w3 w4 w5 : World} {a b : Nat} {L L' : Lg} {q q' : Dq} {E F G : Nat → Prop}
theorem syncDir_off (e : rfE q ≠ 0) : q.syncDir = q := by
  unfold Dq.syncDir
  split
  · rfl
  · rename_i h
    exact absurd (by unfold rfE; rw [if_neg h]) e
set_option maxRecDepth 100000 in
set_option maxHeartbeats 4000000 in
theorem wsync_c (h : WaAt w a b L q E) (ok : q.Ok) (hst : q.st < 80000) (hne : L.sg ≠ []) (hlen : L.sg.length ≤ 900000) (hs : Sml L.cur.1) (hs2 : Sml L.cur.2) (hG : GlK E w) :
    Calls Tryz.prog 23 #[.pointer (some ⟨a, 0, none⟩)] w fun e w' => e = .returned (.int .i64 (wSync (L, q)).1) ∧ WaOut w w' a b (wSync (L, q)).2.1 (wSync (L, q)).2.2 E := by
  obtain ⟨ao, c, ⟨k0, _, _, _, _⟩, _, ha⟩ := h.cells
  have hE := h.lt
  have hEa : E a := h.inE
  have cN : Calls Tryz.prog 39 #[.pointer (some ⟨a, 0, none⟩)] w fun e w' => e = .returned (.bool false) ∧ w = w' := (wnone_c h).mono fun e w' h => ⟨h.1, h.2.symm⟩
  have hcn : KWfS L.cn := sgN_wf hs
  have T : ∃ g o, CNm w a b L g o fun Z => Calls Tryz.prog 48 #[.pointer (some ⟨b, 0, none⟩), .string (sb L.cn)] Z fun e w3 => e = .returned (.int .i64 (fiE q L.cn)) ∧ (w3.cell? ⟨a, 0, none⟩ = some (.pointer (some ⟨b, 0, none⟩)) ∧ a < w3.heap.size) ∧ (w3.cell? ⟨g, o, none⟩ = some (.int .i64 L.cur.1) ∧ w3.cell? ⟨g, o + 1, none⟩ = some (.int .i64 L.cur.2) ∧ g < w3.heap.size) ∧
      Hid (WaOut w w3 a b L (q.sync L.cn) E) ∧ Hid (Calls Tryz.prog 49 #[.pointer (some ⟨b, 0, none⟩)] w3 fun e w4 => e = .returned (.int .i64 (rfE (q.sync L.cn))) ∧ Hid (WaOut w w4 a b L (q.sync L.cn).syncDir E) ∧
        Hid (Calls Tryz.prog 20 #[.pointer (some ⟨a, 0, none⟩)] w4 fun e w5 => e = .returned (.int .i64 (L.cur.2 - 1)) ∧ (w5.cell? ⟨a, 4, none⟩ = some (.int .i64 L.sy) ∧ w5.frozen? ⟨a, 4, none⟩ = false ∧ a < w5.heap.size) ∧ Hid (WaOut w w5 a b L (q.sync L.cn).syncDir E))) :=
    cur_name h hne (by omega) hs hG fun g o cb ⟨c1, c2, cg⟩ Z gZ => by
      have OZ := (WaOut.self h).gb gZ
      refine (OZ.1.dkg (R := fun e => e = .returned (.int .i64 (fiE q L.cn))) fun F k => sync_c k ok (by omega) hcn).mono ?_
      rintro e w3 ⟨rfl, o3, B3⟩
      have s3 := o3.2.size
      have O3 := OZ.trans hE o3
      have eb := B3 g (cb.gb gZ)
      refine ⟨rfl, O3.a0, ⟨(World.cell?_of_block (a := ⟨g, o, none⟩) eb).trans (gb_keeps gZ c1), (World.cell?_of_block (a := ⟨g, o + 1, none⟩) eb).trans (gb_keeps gZ c2), Nat.lt_of_lt_of_le (Nat.lt_of_lt_of_le cg gZ.size) s3⟩, O3, ?_⟩
      have st := sync_st q L.cn
      refine (O3.dk hE (R := fun e => e = .returned (.int .i64 (rfE (q.sync L.cn)))) fun F k => syncDir_c k (ok.sync _) (by omega)).mono ?_
      rintro e w4 ⟨rfl, O4⟩
      refine ⟨rfl, O4, ?_⟩
      refine (wlast_c O4.1 hne (by omega) hs2).mono ?_
      rintro e w5 ⟨rfl, g5⟩
      have O5 := O4.gb g5
      obtain ⟨_, _, ⟨_, _, _, _, m4⟩, fz, ha5⟩ := O5.1.cells
      exact ⟨rfl, ⟨m4, fz 4, ha5⟩, O5⟩
  have SO : fiE q L.cn ≠ 0 → q.sync L.cn = q := fun e => sync_off e
  have SD : rfE (q.sync L.cn) ≠ 0 → (q.sync L.cn).syncDir = q.sync L.cn := fun e => syncDir_off e
  have FIN : wSync (L, q) = if fiE q L.cn = 0 then (if rfE (q.sync L.cn) = 0 then (0, { L with sy := L.lst }, (q.sync L.cn).syncDir) else (rfE (q.sync L.cn), L, q.sync L.cn)) else (fiE q L.cn, L, q) := rfl
  rw [FIN]
  obtain ⟨g, o, ⟨kg, kh, kl⟩, T1, T2, T3⟩ := T
  have G0 : Hid (Gb w w) := Below.refl _ _
  have GD : Hid (Gb w w.drew) := (Below.refl _ w).drew
  clear FIN h ok hst hne hlen hs hs2 hG hE hcn
  generalize hcf : L.cur.1 = cf at *
  generalize hcx : L.cur.2 = cx at *
  by_cases ef : fiE q L.cn = 0
  · rw [if_pos ef]
    rw [ef] at T3
    by_cases er : rfE (q.sync L.cn) = 0
    · rw [if_pos er]
      rw [er] at T3
      go_enter Tryz.func23, Tryz.ntmps23
      go_wp2_with fail
      refine cN.mono ?_
      rintro e v1 ⟨rfl, rfl⟩
      go_wp2
      go_region_held3 (fun w' => w'.cell? ⟨a, 0, none⟩ = some (.pointer (some ⟨b, 0, none⟩)) ∧ w'.cell? ⟨g, o, none⟩ = some (.int .i64 cf) ∧ w'.cell? ⟨g, o + 1, none⟩ = some (.int .i64 cx)) (first | exact ⟨k0, kg, kh⟩ | exact ⟨d0, c1, c2⟩ | exact ⟨d1, n1, n2⟩ | exact ⟨d2, m1, m2⟩) (first
        | (go_at_call 40; refine (T1.out _ (by first | exact GD.out | exact G0.out)).mono ?_; rintro e w1 ⟨rfl, c1, c2, cg, d0, s1, g1⟩)
        | (go_at_call 46; refine (T2.out _ g1).mono ?_; rintro e w2 ⟨rfl, n1, n2, ng, d1, s2, g2⟩)
        | (go_at_call 48; refine (T3.out _ g2).mono ?_; rintro e w3 ⟨rfl, ⟨d2, s3⟩, ⟨m1, m2, mg⟩, O3, T4⟩))
      all_goals
        clear T1 T2 T3 O3
        go_wp2_with fail
        refine T4.out.mono ?_
        rintro e w4 ⟨rfl, _, T5⟩
        clear T4
        go_wp2_with fail
        refine T5.out.mono ?_
        rintro e w5 ⟨rfl, ⟨d4, f4, s5⟩, O5⟩
        have O6 : Hid (WaOut w (w5.setCell ⟨a, 4, none⟩ (.int .i64 (cx - 1))) a b { L with sy := L.lst } (q.sync L.cn).syncDir E) := O5.out.setA (L' := { L with sy := L.lst }) (i := 4) (v := .int .i64 (cx - 1)) hEa (fun sv => by rw [← hcx]; rfl) rfl
        clear T5 O5
        go_wp2
        go_ret
        exact ⟨rfl, O6.out⟩
    · rw [if_neg er]
      have br : (rfE (q.sync L.cn) == 0) = false := by rw [beq_eq_false_iff_ne]; exact er
      rw [SD er] at T3
      go_enter Tryz.func23, Tryz.ntmps23
      go_wp2_with fail
      refine cN.mono ?_
      rintro e v1 ⟨rfl, rfl⟩
      go_wp2
      go_region_held3 (fun w' => w'.cell? ⟨a, 0, none⟩ = some (.pointer (some ⟨b, 0, none⟩)) ∧ w'.cell? ⟨g, o, none⟩ = some (.int .i64 cf) ∧ w'.cell? ⟨g, o + 1, none⟩ = some (.int .i64 cx)) (first | exact ⟨k0, kg, kh⟩ | exact ⟨d0, c1, c2⟩ | exact ⟨d1, n1, n2⟩ | exact ⟨d2, m1, m2⟩) (first
        | (go_at_call 40; refine (T1.out _ (by first | exact GD.out | exact G0.out)).mono ?_; rintro e w1 ⟨rfl, c1, c2, cg, d0, s1, g1⟩)
        | (go_at_call 46; refine (T2.out _ g1).mono ?_; rintro e w2 ⟨rfl, n1, n2, ng, d1, s2, g2⟩)
        | (go_at_call 48; refine (T3.out _ g2).mono ?_; rintro e w3 ⟨rfl, ⟨d2, s3⟩, ⟨m1, m2, mg⟩, O3, T4⟩))
      all_goals
        clear T1 T2 T3 O3
        go_wp2_with fail
        refine T4.out.mono ?_
        rintro e w4 ⟨rfl, O4, _⟩
        clear T4
        go_wp2
        go_ret
        exact ⟨rfl, O4.out⟩
  · rw [if_neg ef]
    have bf : (fiE q L.cn == 0) = false := by rw [beq_eq_false_iff_ne]; exact ef
    rw [SO ef] at T3
    go_enter Tryz.func23, Tryz.ntmps23
    go_wp2_with fail
    refine cN.mono ?_
    rintro e v1 ⟨rfl, rfl⟩
    go_wp2
    go_region_held3 (fun w' => w'.cell? ⟨a, 0, none⟩ = some (.pointer (some ⟨b, 0, none⟩)) ∧ w'.cell? ⟨g, o, none⟩ = some (.int .i64 cf) ∧ w'.cell? ⟨g, o + 1, none⟩ = some (.int .i64 cx)) (first | exact ⟨k0, kg, kh⟩ | exact ⟨d0, c1, c2⟩ | exact ⟨d1, n1, n2⟩ | exact ⟨d2, m1, m2⟩) (first
      | (go_at_call 40; refine (T1.out _ (by first | exact GD.out | exact G0.out)).mono ?_; rintro e w1 ⟨rfl, c1, c2, cg, d0, s1, g1⟩)
      | (go_at_call 46; refine (T2.out _ g1).mono ?_; rintro e w2 ⟨rfl, n1, n2, ng, d1, s2, g2⟩)
      | (go_at_call 48; refine (T3.out _ g2).mono ?_; rintro e w3 ⟨rfl, ⟨d2, s3⟩, ⟨m1, m2, mg⟩, O3, T4⟩))
    all_goals
      clear T1 T2 T3 T4
      go_wp2
      go_ret
      exact ⟨rfl, O3.out⟩
end Go.Proofs.YtcbhhdjjanekaaaGreatDoor
