/- mend. -/
import Derived.Test.YtcbhhdjjanekaaaGreatDoorWxWaF
namespace Go.Proofs.YtcbhhdjjanekaaaGreatDoor
open Go.RowKit Go.Lib Go.Maps

variable {w w' W W' w1 w2 w3 w4 w5 : World} {a b : Nat} {L L' : Lg} {q q' : Dq} {E F G : Nat → Prop}
theorem OwnB.agTake {base n c k : Nat} {ao : Option Addr} {l : By} (h : OwnB w base (.slice ao n c) l) (hk : k ≤ l.length) : AgB w (.slice ao k c) (l.take k) := by
  have hl : (l.take k).length = k := by rw [List.length_take]; omega
  rcases id h.2 with ⟨e, e0⟩ | ⟨g, cap, cur, e, _⟩
  · cases e
    have : l = [] := List.eq_nil_of_length_eq_zero e0
    subst this
    exact ⟨none, 0, by rw [hl], .inl ⟨rfl, rfl, by simp⟩⟩
  · cases e
    refine ⟨_, c, by rw [hl], .inr ⟨_, rfl, fun j u hj => World.ownsRow.cells h (g := g) rfl j u ?_⟩⟩
    rw [List.map_take, List.getElem?_take] at hj
    split at hj
    · exact hj
    · cases hj
theorem take_min (l : By) (n : Nat) : l.take n = l.take (min n l.length) := by
  rcases Nat.le_total n l.length with h | h
  · rw [Nat.min_eq_left h]
  · rw [Nat.min_eq_right h, List.take_of_length_le h, List.take_length]
/-- Read of the last segment, behind whatever was quiet. -/
theorem read_q (h : WaAt w a b L q E) (ok : q.Ok) {x : By} (hx : KWfS x) : Calls Tryz.prog 62 #[.pointer (some ⟨b, 0, none⟩), .string (sb x)] w fun e w' => ∃ ao c, e = .returned (.tuple #[.slice ao (rdV q x).length c, .int .i64 (fiE q x)]) ∧ OwnB w' w.heap.size (.slice ao (rdV q x).length c) (rdV q x) ∧ Gb w w' := by
  obtain ⟨F, _, h1, _⟩ := h
  refine (read_c h1 ok hx).mono ?_
  rintro e w' ⟨v, rfl, ho, g⟩
  obtain ⟨ao, c, rfl⟩ := row_fm ho
  exact ⟨ao, c, rfl, ho, g⟩
theorem OwnB.kf {base : Nat} {v : Value} {l : By} (h : OwnB w base v l) (k : Kf E w w') (hE : ∀ j, E j → j < base) : OwnB w' base v l := row_same h fun j e => by
  have := World.ownsRow.lt h j e
  exact k.block j this.2 fun f => by have := hE j f; omega
def MdR (w : World) (a b : Nat) (L : Lg) (q : Dq) (E : Nat → Prop) (w5 : World) : Prop :=
  (wFill (q.create sprN) ((rdV q L.cn).take L.sz)).1 ≠ 0 → (wFill (q.create sprN) ((rdV q L.cn).take L.sz)).1 ≠ 173 → WaOut w w5 a b L (wFill (q.create sprN) ((rdV q L.cn).take L.sz)).2 E
theorem rdV_le (ok : q.Ok) (x : By) : (rdV q x).length ≤ 4194304 := by
  unfold rdV
  split
  · exact ok.fb _
  · simp
set_option maxRecDepth 100000 in
set_option maxHeartbeats 8000000 in
theorem wmend_c (h : WaAt w a b L q E) (ok : q.Ok) (hst : q.st < 80000) (hne : L.sg ≠ []) (hlen : L.sg.length ≤ 1000000) (hs : Sml L.cur.1) (hz : L.sz ≤ 4611686018427387904) (hG : GlK E w) :
    Calls Tryz.prog 69 #[.pointer (some ⟨a, 0, none⟩)] w fun e w' => e = .returned (.int .i64 (wMend (L, q)).1) ∧ WaOut w w' a b (wMend (L, q)).2.1 (wMend (L, q)).2.2 E := by
  obtain ⟨k0, ha⟩ := h.a0
  have hE := h.lt
  have hcn : KWfS L.cn := sgN_wf hs
  have hcl : L.cn.length ≤ 65536 := by have := sgN_len hs; unfold Lg.cn; omega
  have RL := rdV_le ok L.cn
  -- the calls, one behind the other
  have T : ∃ g o, CNm w a b L g o fun Z => Calls Tryz.prog 62 #[.pointer (some ⟨b, 0, none⟩), .string (sb L.cn)] Z fun e w3 => ∃ ao c, e = .returned (.tuple #[.slice ao (rdV q L.cn).length c, .int .i64 (fiE q L.cn)]) ∧ (rdV q L.cn).length ≤ c ∧ (w3.cell? ⟨a, 0, none⟩ = some (.pointer (some ⟨b, 0, none⟩)) ∧ a < w3.heap.size) ∧ Gb w w3 ∧
      Hid (WaOut w w3 a b L q E) ∧ Hid (Calls Tryz.prog 83 #[.pointer (some ⟨b, 0, none⟩), .string (sb sprN)] w3 fun e w4 => e = .returned (.int .i64 (crE q sprN)) ∧ (w4.cell? ⟨a, 2, none⟩ = some (.int .i64 (L.sz : Int)) ∧ a < w4.heap.size) ∧ Hid (crE q sprN ≠ 0 → WaOut w w4 a b L q E) ∧
        Hid (Calls Tryz.prog 85 #[.pointer (some ⟨a, 0, none⟩), .slice ao (min L.sz (rdV q L.cn).length) c] w4 fun e w5 => e = .returned (.int .i64 (wFill (q.create sprN) ((rdV q L.cn).take L.sz)).1) ∧ (w5.cell? ⟨a, 0, none⟩ = some (.pointer (some ⟨b, 0, none⟩)) ∧ a < w5.heap.size) ∧
          Hid (WaOut w w5 a b L (wFill (q.create sprN) ((rdV q L.cn).take L.sz)).2 E) ∧
          Hid (Calls Tryz.prog 65 #[.pointer (some ⟨b, 0, none⟩), .string (sb sprN)] w5 fun e w6 => (∃ n, e = .returned (.int .i64 n)) ∧ Hid (WaOut w w6 a b L ((wFill (q.create sprN) ((rdV q L.cn).take L.sz)).2.remove sprN) E)) ∧
          Hid (∃ g o, CNm w5 a b L g o fun Z => Calls Tryz.prog 86 #[.pointer (some ⟨b, 0, none⟩), .string (sb sprN), .string (sb L.cn)] Z fun e w7 => e = .returned (.int .i64 (reE (wFill (q.create sprN) ((rdV q L.cn).take L.sz)).2 sprN L.cn)) ∧ (w7.cell? ⟨a, 0, none⟩ = some (.pointer (some ⟨b, 0, none⟩)) ∧ w7.cell? ⟨a, 3, none⟩ = some (.bool L.tn) ∧ w7.frozen? ⟨a, 3, none⟩ = false ∧ a < w7.heap.size) ∧ (w7.cell? ⟨g, o, none⟩ = some (.int .i64 L.cur.1) ∧ w7.cell? ⟨g, o + 1, none⟩ = some (.int .i64 L.cur.2) ∧ g < w7.heap.size) ∧
            Hid (WaOut w w7 a b L ((wFill (q.create sprN) ((rdV q L.cn).take L.sz)).2.rename sprN L.cn) E)))) :=
    cur_name h hne hlen hs hG fun _ _ _ _ Z gZ => by
      have hZ := h.gb gZ
      refine (read_q hZ ok hcn).mono ?_
      rintro e w3 ⟨ao, c, rfl, ho, g3⟩
      have g03 := gb_trans gZ g3
      have h3 := h.gb g03
      have hc : (rdV q L.cn).length ≤ c := by
        rcases id ho.2 with ⟨e, e0⟩ | ⟨g, cap, cur, e, _, _, h1, _⟩
        · obtain ⟨_, _, e3⟩ := Value.slice.inj e
          omega
        · obtain ⟨_, _, e3⟩ := Value.slice.inj e
          omega
      refine ⟨ao, c, rfl, hc, h3.a0, g03, (WaOut.self h).gb g03, ?_⟩
      refine (h3.dk (R := fun e => e = .returned (.int .i64 (crE q sprN))) (q' := q.create sprN) fun F k => create_c k ok (by omega) (by rw [sprN_len]; omega)).mono ?_
      rintro e w4 ⟨rfl, o4⟩
      have O4 := o4.pre g03 hE
      obtain ⟨_, _, ⟨_, _, k2, _⟩, _, ha4⟩ := o4.1.cells
      refine ⟨rfl, ⟨k2, ha4⟩, fun e => by rwa [create_off e] at O4, ?_⟩
      have hE3 : ∀ j, E j → j < Z.heap.size := hZ.lt
      have ho4 : OwnB w4 Z.heap.size (.slice ao (rdV q L.cn).length c) (rdV q L.cn) := ho.kf o4.2 hE3
      have st1 := create_st q sprN
      have lm : (List.take (min L.sz (rdV q L.cn).length) (rdV q L.cn)).length ≤ 4194304 := by rw [List.length_take]; omega
      have cF := wfill_c O4.1 (ok.create sprN) (by omega) (ho4.agTake (Nat.min_le_right L.sz _)) lm
      rw [← take_min] at cF
      refine cF.mono ?_
      rintro e w5 ⟨rfl, o5⟩
      have O5 := O4.trans hE o5
      have f1 : (wFill (q.create sprN) ((rdV q L.cn).take L.sz)).2.Ok ∧ (wFill (q.create sprN) ((rdV q L.cn).take L.sz)).2.st ≤ q.st + 3 := by
        unfold wFill
        split
        · exact ⟨ok.create _, by show (q.create sprN).st ≤ _; omega⟩
        split
        · refine ⟨((ok.create _).append _ _).sync _, ?_⟩
          have a1 := append_st (q.create sprN) sprN ((rdV q L.cn).take L.sz)
          have a2 := sync_st ((q.create sprN).append sprN ((rdV q L.cn).take L.sz)) sprN
          show (((q.create sprN).append sprN ((rdV q L.cn).take L.sz)).sync sprN).st ≤ _
          omega
        · exact ⟨ok.create _, by show (q.create sprN).st ≤ _; omega⟩
      generalize (wFill (q.create sprN) ((rdV q L.cn).take L.sz)).2 = q5 at *
      refine ⟨rfl, O5.a0, O5, ?_, ?_⟩
      · exact O5.dk hE (R := fun e => ∃ n, e = .returned (.int .i64 n)) fun F k => (remove_c k f1.1 (by omega) sprN_wf).mono fun e w' h => ⟨⟨_, h.1⟩, h.2⟩
      · have GK : GlK (Nw E w w5) w5 := hG.out O5.2
        refine cur_name O5.1 hne hlen hs GK fun g o cb ⟨c1, c2, cg⟩ Z2 gZ2 => ?_
        refine ((O5.gb gZ2).1.dkg (R := fun e => e = .returned (.int .i64 (reE q5 sprN L.cn))) fun F k => rename_c k f1.1 (by omega) sprN_wf hcl).mono ?_
        rintro e w7 ⟨rfl, O7, B7⟩
        have O7s := O7.2.size
        have O7 := (O5.gb gZ2).trans hE O7
        have eb := B7 g (cb.gb gZ2)
        obtain ⟨_, _, ⟨m0, _, _, m3, _⟩, fz, ha7⟩ := O7.1.cells
        exact ⟨rfl, ⟨m0, m3, fz 3, ha7⟩, ⟨(World.cell?_of_block (a := ⟨g, o, none⟩) eb).trans (gb_keeps gZ2 c1), (World.cell?_of_block (a := ⟨g, o + 1, none⟩) eb).trans (gb_keeps gZ2 c2), Nat.lt_of_lt_of_le (Nat.lt_of_lt_of_le cg gZ2.size) O7s⟩, O7⟩
  have hEa : E a := h.inE
  have FIN : wMend (L, q) = if fiE q L.cn = 0 then (if crE q sprN = 0 then wMend2 L (q.create sprN) ((rdV q L.cn).take L.sz) else (crE q sprN, L, q)) else (fiE q L.cn, L, q) := rfl
  have FIN2 : wMend2 L (q.create sprN) ((rdV q L.cn).take L.sz) = if (wFill (q.create sprN) ((rdV q L.cn).take L.sz)).1 = 0 then (if reE (wFill (q.create sprN) ((rdV q L.cn).take L.sz)).2 sprN L.cn = 0 then (0, { L with tn := false }, (wFill (q.create sprN) ((rdV q L.cn).take L.sz)).2.rename sprN L.cn) else (reE (wFill (q.create sprN) ((rdV q L.cn).take L.sz)).2 sprN L.cn, L, (wFill (q.create sprN) ((rdV q L.cn).take L.sz)).2))
    else if (wFill (q.create sprN) ((rdV q L.cn).take L.sz)).1 = 173 then (173, L, (wFill (q.create sprN) ((rdV q L.cn).take L.sz)).2.remove sprN) else ((wFill (q.create sprN) ((rdV q L.cn).take L.sz)).1, L, (wFill (q.create sprN) ((rdV q L.cn).take L.sz)).2) := rfl
  rw [FIN2] at FIN
  have RO : ∀ q5 : Dq, reE q5 sprN L.cn ≠ 0 → q5.rename sprN L.cn = q5 := fun q5 e => ren_off e
  generalize wFill (q.create sprN) ((rdV q L.cn).take L.sz) = r at *
  obtain ⟨r1, q5⟩ := r
  rw [FIN]
  clear FIN FIN2 h ok hst hne hlen hs hG hcn hcl
  rw [sb_spr] at T
  have RO5 := RO q5
  clear RO
  generalize hrd : (rdV q L.cn).length = rn at *
  generalize rdV q L.cn = rd at *
  have hnn : (rn : Int) ≤ 4194304 := by omega
  have G0 : Hid (Gb w w) := Below.refl _ _
  have GD : Hid (Gb w w.drew) := (Below.refl _ w).drew
  clear hrd
  obtain ⟨g, o, ⟨kg, kh, kl⟩, T1, T2, T3⟩ := T
  have K3 : Hid (∀ Z, Gb w Z → Z.cell? ⟨g, o, none⟩ = some (.int .i64 L.cur.1) ∧ Z.cell? ⟨g, o + 1, none⟩ = some (.int .i64 L.cur.2) ∧ g < Z.heap.size) := fun Z gZ => ⟨gb_keeps gZ kg, gb_keeps gZ kh, Nat.lt_of_lt_of_le kl gZ.size⟩
  generalize hcf : L.cur.1 = cf at *
  generalize hcx : L.cur.2 = cx at *
  by_cases ef : fiE q L.cn = 0
  case neg =>
    rw [if_neg ef]
    have bf : (fiE q L.cn == 0) = false := by rw [beq_eq_false_iff_ne]; exact ef
    generalize fiE q L.cn = fe at *
    go_enter Tryz.func69, Tryz.ntmps69
    go_wp2
    go_region_held3 (fun w' => w'.cell? ⟨a, 0, none⟩ = some (.pointer (some ⟨b, 0, none⟩)) ∧ w'.cell? ⟨g, o, none⟩ = some (.int .i64 cf) ∧ w'.cell? ⟨g, o + 1, none⟩ = some (.int .i64 cx)) (first | exact ⟨k0, kg, kh⟩ | exact ⟨d0, c1, c2⟩ | exact ⟨d1, n1, n2⟩ | exact ⟨d2, m1, m2⟩) (first
      | (go_at_call 40; refine (T1.out _ (by first | exact GD.out | exact G0.out)).mono ?_; rintro e w1 ⟨rfl, c1, c2, cg, d0, s1, g1⟩)
      | (go_at_call 46; refine (T2.out _ g1).mono ?_; rintro e w2 ⟨rfl, n1, n2, ng, d1, s2, g2⟩)
      | (go_at_call 62; refine (T3.out _ g2).mono ?_; rintro e w3 ⟨ao, c, rfl, hc, ⟨d2, s3⟩, g3, O3, T4⟩; obtain ⟨m1, m2, mg⟩ := K3.out _ g3))
    all_goals
      have O := O3
      clear T1 T2 T3 T4
      go_wp2
      go_ret
      exact ⟨rfl, O.out⟩
  rw [if_pos ef]
  rw [ef] at T3
  by_cases ec : crE q sprN = 0
  case neg =>
    rw [if_neg ec]
    have bc : (crE q sprN == 0) = false := by rw [beq_eq_false_iff_ne]; exact ec
    generalize crE q sprN = ce at *
    go_enter Tryz.func69, Tryz.ntmps69
    go_wp2
    go_region_held3 (fun w' => w'.cell? ⟨a, 0, none⟩ = some (.pointer (some ⟨b, 0, none⟩)) ∧ w'.cell? ⟨g, o, none⟩ = some (.int .i64 cf) ∧ w'.cell? ⟨g, o + 1, none⟩ = some (.int .i64 cx)) (first | exact ⟨k0, kg, kh⟩ | exact ⟨d0, c1, c2⟩ | exact ⟨d1, n1, n2⟩ | exact ⟨d2, m1, m2⟩) (first
      | (go_at_call 40; refine (T1.out _ (by first | exact GD.out | exact G0.out)).mono ?_; rintro e w1 ⟨rfl, c1, c2, cg, d0, s1, g1⟩)
      | (go_at_call 46; refine (T2.out _ g1).mono ?_; rintro e w2 ⟨rfl, n1, n2, ng, d1, s2, g2⟩)
      | (go_at_call 62; refine (T3.out _ g2).mono ?_; rintro e w3 ⟨ao, c, rfl, hc, ⟨d2, s3⟩, g3, O3, T4⟩; obtain ⟨m1, m2, mg⟩ := K3.out _ g3))
    all_goals
      clear T1 T2 T3
      go_wp2_with fail
      refine T4.out.mono ?_
      rintro e w4 ⟨rfl, ⟨d3, s4⟩, O4, T5⟩
      have O := O4.out ec
      clear T4 T5 O3 O4
      go_wp2
      go_ret
      exact ⟨rfl, O⟩
  rw [if_pos ec]
  rw [ec] at T3
  simp only at T3 ⊢
  by_cases e1 : r1 = 0
  case neg =>
    rw [if_neg e1]
    have b1 : (r1 == 0) = false := by rw [beq_eq_false_iff_ne]; exact e1
    by_cases e2 : r1 = 173
    case neg =>
      rw [if_neg e2]
      have b2 : (r1 == 173) = false := by rw [beq_eq_false_iff_ne]; exact e2
      go_enter Tryz.func69, Tryz.ntmps69
      go_wp2
      go_region_held3 (fun w' => w'.cell? ⟨a, 0, none⟩ = some (.pointer (some ⟨b, 0, none⟩)) ∧ w'.cell? ⟨g, o, none⟩ = some (.int .i64 cf) ∧ w'.cell? ⟨g, o + 1, none⟩ = some (.int .i64 cx)) (first | exact ⟨k0, kg, kh⟩ | exact ⟨d0, c1, c2⟩ | exact ⟨d1, n1, n2⟩ | exact ⟨d2, m1, m2⟩) (first
        | (go_at_call 40; refine (T1.out _ (by first | exact GD.out | exact G0.out)).mono ?_; rintro e w1 ⟨rfl, c1, c2, cg, d0, s1, g1⟩)
        | (go_at_call 46; refine (T2.out _ g1).mono ?_; rintro e w2 ⟨rfl, n1, n2, ng, d1, s2, g2⟩)
        | (go_at_call 62; refine (T3.out _ g2).mono ?_; rintro e w3 ⟨ao, c, rfl, hc, ⟨d2, s3⟩, g3, O3, T4⟩; obtain ⟨m1, m2, mg⟩ := K3.out _ g3))
      all_goals
        clear T1 T2 T3
        go_wp2_with fail
        refine T4.out.mono ?_
        rintro e w4 ⟨rfl, ⟨d3, s4⟩, O4, T5⟩
        have hmn : min L.sz rn = (min (L.sz : Int) (rn : Int)).toNat := by omega
        rw [hmn] at T5
        clear T4 O3 O4 hmn
        go_wp2_with fail
        refine T5.out.mono ?_
        rintro e w5 ⟨rfl, ⟨d4, s5⟩, O5, T6, T7⟩
        clear T5
        clear T6 T7
        go_wp2
        go_ret
        exact ⟨rfl, O5.out⟩
    case pos =>
      subst e2
      rw [if_pos rfl]
      go_enter Tryz.func69, Tryz.ntmps69
      go_wp2
      go_region_held3 (fun w' => w'.cell? ⟨a, 0, none⟩ = some (.pointer (some ⟨b, 0, none⟩)) ∧ w'.cell? ⟨g, o, none⟩ = some (.int .i64 cf) ∧ w'.cell? ⟨g, o + 1, none⟩ = some (.int .i64 cx)) (first | exact ⟨k0, kg, kh⟩ | exact ⟨d0, c1, c2⟩ | exact ⟨d1, n1, n2⟩ | exact ⟨d2, m1, m2⟩) (first
        | (go_at_call 40; refine (T1.out _ (by first | exact GD.out | exact G0.out)).mono ?_; rintro e w1 ⟨rfl, c1, c2, cg, d0, s1, g1⟩)
        | (go_at_call 46; refine (T2.out _ g1).mono ?_; rintro e w2 ⟨rfl, n1, n2, ng, d1, s2, g2⟩)
        | (go_at_call 62; refine (T3.out _ g2).mono ?_; rintro e w3 ⟨ao, c, rfl, hc, ⟨d2, s3⟩, g3, O3, T4⟩; obtain ⟨m1, m2, mg⟩ := K3.out _ g3))
      all_goals
        clear T1 T2 T3
        go_wp2_with fail
        refine T4.out.mono ?_
        rintro e w4 ⟨rfl, ⟨d3, s4⟩, O4, T5⟩
        have hmn : min L.sz rn = (min (L.sz : Int) (rn : Int)).toNat := by omega
        rw [hmn] at T5
        clear T4 O3 O4 hmn
        go_wp2_with fail
        refine T5.out.mono ?_
        rintro e w5 ⟨rfl, ⟨d4, s5⟩, O5, T6, T7⟩
        clear T5
        clear T7 O5
        go_wp2_with fail
        refine T6.out.mono ?_
        rintro e w6 ⟨⟨n6, rfl⟩, O6⟩
        go_wp2
        go_ret
        exact ⟨rfl, O6.out⟩
  subst e1
  rw [if_pos rfl]
  by_cases er : reE q5 sprN L.cn = 0
  case neg =>
    rw [if_neg er]
    have br : (reE q5 sprN L.cn == 0) = false := by rw [beq_eq_false_iff_ne]; exact er
    have RO6 := RO5 er
    go_enter Tryz.func69, Tryz.ntmps69
    go_wp2
    go_region_held3 (fun w' => w'.cell? ⟨a, 0, none⟩ = some (.pointer (some ⟨b, 0, none⟩)) ∧ w'.cell? ⟨g, o, none⟩ = some (.int .i64 cf) ∧ w'.cell? ⟨g, o + 1, none⟩ = some (.int .i64 cx)) (first | exact ⟨k0, kg, kh⟩ | exact ⟨d0, c1, c2⟩ | exact ⟨d1, n1, n2⟩ | exact ⟨d2, m1, m2⟩) (first
      | (go_at_call 40; refine (T1.out _ (by first | exact GD.out | exact G0.out)).mono ?_; rintro e w1 ⟨rfl, c1, c2, cg, d0, s1, g1⟩)
      | (go_at_call 46; refine (T2.out _ g1).mono ?_; rintro e w2 ⟨rfl, n1, n2, ng, d1, s2, g2⟩)
      | (go_at_call 62; refine (T3.out _ g2).mono ?_; rintro e w3 ⟨ao, c, rfl, hc, ⟨d2, s3⟩, g3, O3, T4⟩; obtain ⟨m1, m2, mg⟩ := K3.out _ g3))
    all_goals
      clear T1 T2 T3
      go_wp2_with fail
      refine T4.out.mono ?_
      rintro e w4 ⟨rfl, ⟨d3, s4⟩, O4, T5⟩
      have hmn : min L.sz rn = (min (L.sz : Int) (rn : Int)).toNat := by omega
      rw [hmn] at T5
      clear T4 O3 O4 hmn
      go_wp2_with fail
      refine T5.out.mono ?_
      rintro e w5 ⟨rfl, ⟨d4, s5⟩, O5, T6, T7⟩
      clear T5
      obtain ⟨g', o', ⟨kg', kh', kl'⟩, U1, U2, U3⟩ := T7.out
      have GE : Hid (Gb w5 w5) := Below.refl _ _
      have GF : Hid (Gb w5 w5.drew) := (Below.refl _ w5).drew
      rw [hcf] at kg'
      rw [hcx] at kh'
      rw [hcf, hcx] at U1 U2
      clear T7 T6
      go_wp2
      go_region_held3 (fun w' => w'.cell? ⟨a, 0, none⟩ = some (.pointer (some ⟨b, 0, none⟩)) ∧ w'.cell? ⟨g', o', none⟩ = some (.int .i64 cf) ∧ w'.cell? ⟨g', o' + 1, none⟩ = some (.int .i64 cx)) (first | exact ⟨d4, kg', kh'⟩ | exact ⟨f0, p1, p2⟩ | exact ⟨f1, q1, q2⟩ | exact ⟨f2, r1, r2⟩) (first
        | (go_at_call 40; refine (U1.out _ (by first | exact GF.out | exact GE.out)).mono ?_; rintro e w6 ⟨rfl, p1, p2, pg, f0, s6, g6⟩)
        | (go_at_call 46; refine (U2.out _ g6).mono ?_; rintro e w7 ⟨rfl, q1, q2, qg, f1, s7, g7⟩)
        | (go_at_call 86; refine (U3.out _ g7).mono ?_; rintro e w8 ⟨rfl, ⟨f2, f3, f4, s8⟩, ⟨r1, r2, r3⟩, O8⟩))
      all_goals
        clear U1 U2 U3
        rw [RO6] at O8
        go_wp2
        go_ret
        exact ⟨rfl, O8.out⟩
  rw [if_pos er]
  go_enter Tryz.func69, Tryz.ntmps69
  go_wp2
  go_region_held3 (fun w' => w'.cell? ⟨a, 0, none⟩ = some (.pointer (some ⟨b, 0, none⟩)) ∧ w'.cell? ⟨g, o, none⟩ = some (.int .i64 cf) ∧ w'.cell? ⟨g, o + 1, none⟩ = some (.int .i64 cx)) (first | exact ⟨k0, kg, kh⟩ | exact ⟨d0, c1, c2⟩ | exact ⟨d1, n1, n2⟩ | exact ⟨d2, m1, m2⟩) (first
    | (go_at_call 40; refine (T1.out _ (by first | exact GD.out | exact G0.out)).mono ?_; rintro e w1 ⟨rfl, c1, c2, cg, d0, s1, g1⟩)
    | (go_at_call 46; refine (T2.out _ g1).mono ?_; rintro e w2 ⟨rfl, n1, n2, ng, d1, s2, g2⟩)
    | (go_at_call 62; refine (T3.out _ g2).mono ?_; rintro e w3 ⟨ao, c, rfl, hc, ⟨d2, s3⟩, g3, O3, T4⟩; obtain ⟨m1, m2, mg⟩ := K3.out _ g3))
  all_goals
    clear T1 T2 T3
    go_wp2_with fail
    refine T4.out.mono ?_
    rintro e w4 ⟨rfl, ⟨d3, s4⟩, O4, T5⟩
    have hmn : min L.sz rn = (min (L.sz : Int) (rn : Int)).toNat := by omega
    rw [hmn] at T5
    clear T4 O3 O4 hmn
    go_wp2_with fail
    refine T5.out.mono ?_
    rintro e w5 ⟨rfl, ⟨d4, s5⟩, O5, T6, T7⟩
    clear T5
    obtain ⟨g', o', ⟨kg', kh', kl'⟩, U1, U2, U3⟩ := T7.out
    have GE : Hid (Gb w5 w5) := Below.refl _ _
    have GF : Hid (Gb w5 w5.drew) := (Below.refl _ w5).drew
    rw [hcf] at kg'
    rw [hcx] at kh'
    rw [hcf, hcx] at U1 U2
    clear T7 T6
    go_wp2
    go_region_held3 (fun w' => w'.cell? ⟨a, 0, none⟩ = some (.pointer (some ⟨b, 0, none⟩)) ∧ w'.cell? ⟨g', o', none⟩ = some (.int .i64 cf) ∧ w'.cell? ⟨g', o' + 1, none⟩ = some (.int .i64 cx)) (first | exact ⟨d4, kg', kh'⟩ | exact ⟨f0, p1, p2⟩ | exact ⟨f1, q1, q2⟩ | exact ⟨f2, r1, r2⟩) (first
      | (go_at_call 40; refine (U1.out _ (by first | exact GF.out | exact GE.out)).mono ?_; rintro e w6 ⟨rfl, p1, p2, pg, f0, s6, g6⟩)
      | (go_at_call 46; refine (U2.out _ g6).mono ?_; rintro e w7 ⟨rfl, q1, q2, qg, f1, s7, g7⟩)
      | (go_at_call 86; refine (U3.out _ g7).mono ?_; rintro e w8 ⟨rfl, ⟨f2, f3, f4, s8⟩, ⟨r1, r2, r3⟩, O8⟩))
    all_goals
      clear U1 U2 U3
      rw [er] at *
      have O9 : Hid (WaOut w (w8.setCell ⟨a, 3, none⟩ (.bool false)) a b { L with tn := false } (q5.rename sprN L.cn) E) := O8.out.setA (L' := { L with tn := false }) (i := 3) (v := .bool false) hEa (fun sv => rfl) rfl
      clear O8
      go_wp2
      go_ret
      exact ⟨rfl, O9.out⟩
end Go.Proofs.YtcbhhdjjanekaaaGreatDoor
