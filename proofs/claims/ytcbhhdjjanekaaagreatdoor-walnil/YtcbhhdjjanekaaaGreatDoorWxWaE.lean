/- begin; fillSpare; Last, First, Synced. -/
import Derived.Test.YtcbhhdjjanekaaaGreatDoorWxWaD
namespace Go.Proofs.YtcbhhdjjanekaaaGreatDoor
open Go.RowKit Go.Lib Go.Maps

variable {w w' W W' : World} {a b : Nat} {L L' : Lg} {q q' : Dq} {E F G : Nat → Prop}
/-- The listed variables stay, whatever the log's calls turn. -/
def GlK (E : Nat → Prop) (w : World) : Prop := ∀ X, Kf E w X → Gl X
theorem GlK.here (h : GlK E w) : Gl w := h w (Kf.refl _ _)
theorem GlK.out (h : GlK E w) (k : Kf E w w') : GlK (Nw E w w') w' := fun X kX => h X (k.then kX fun j hj e => e.elim id fun e => absurd hj (by omega))
theorem GlK.at_ (h : GlK E w) (k : Kf E w w') : Gl w' := h w' k
theorem create_off {x : By} (e : crE q x ≠ 0) : q.create x = q := by unfold Dq.create; rw [if_neg e]
set_option maxRecDepth 100000 in
theorem wbegin_c (h : WaAt w a b L q E) (ok : q.Ok) (hst : q.st < 100000) (hlen : L.sg.length ≤ 1000000) (hG : GlK E w) {f : Int} (hf : Sml f) :
    Calls Tryz.prog 66 #[.pointer (some ⟨a, 0, none⟩), .int .i64 f] w fun e w' => e = .returned (.int .i64 (wBegin (L, q) f).1) ∧ WaOut w w' a b (wBegin (L, q) f).2.1 (wBegin (L, q) f).2.2 E := by
  have hfl := sgN_len hf
  have hE := h.lt
  obtain ⟨_, _, ⟨k0, _⟩, _, ha⟩ := h.cells
  have T : Hid (∀ X, Gb w X → Calls Tryz.prog 46 #[.agg #[.int .i64 f, .int .i64 0]] X fun e w1 => e = .returned (.string (sb (sgN f))) ∧ (∀ i u, X.cell? ⟨a, i, none⟩ = some u → w1.cell? ⟨a, i, none⟩ = some u) ∧ a < w1.heap.size ∧
      Hid (∀ Y, Gb w1 Y → Calls Tryz.prog 83 #[.pointer (some ⟨b, 0, none⟩), .string (sb (sgN f))] Y fun e w2 => e = .returned (.int .i64 (crE q (sgN f))) ∧ w2.cell? ⟨a, 0, none⟩ = some (.pointer (some ⟨b, 0, none⟩)) ∧ a < w2.heap.size ∧
        Hid (∀ Z, Gb w2 Z → (crE q (sgN f) ≠ 0 → WaOut w Z a b L q E) ∧ (crE q (sgN f) = 0 → Calls Tryz.prog 61 #[.pointer (some ⟨a, 0, none⟩), .int .i64 f] Z fun e w3 => e = .returned (.tuple #[]) ∧ Hid (WaOut w w3 a b (L.add f) (q.create (sgN f)) E))))) := fun X gX => by
    refine (wname_c f 0 hf (hG.at_ (Kf.gb gX E))).mono ?_
    rintro e w1 ⟨rfl, g1⟩
    refine ⟨rfl, fun i u hu => gb_keeps g1 hu, Nat.lt_of_lt_of_le ha (gb_trans gX g1).size, fun Y gY => ?_⟩
    refine (((WaOut.self h).gb (gb_trans gX (gb_trans g1 gY))).dk hE (R := fun e => e = .returned (.int .i64 (crE q (sgN f)))) (q' := q.create (sgN f)) fun F k => create_c k ok hst (by omega)).mono ?_
    rintro e w2 ⟨rfl, o⟩
    refine ⟨rfl, by obtain ⟨_, _, ⟨k, _⟩, _⟩ := o.1.cells; exact k, Nat.lt_of_lt_of_le ha o.2.size, fun Z gZ => ⟨fun e => ?_, fun e => ?_⟩⟩
    · have := o.gb gZ
      rwa [create_off e] at this
    · have oZ := o.gb gZ
      refine (wadd_c oZ.1 hlen f).mono ?_
      rintro e w3 ⟨rfl, o3⟩
      exact ⟨rfl, oZ.trans hE o3⟩
  have G0 : Hid (Gb w w) := Below.refl _ _
  have GD : Hid (Gb w w.drew) := (Below.refl _ w).drew
  have FIN : wBegin (L, q) f = if crE q (sgN f) = 0 then (0, L.add f, q.create (sgN f)) else (crE q (sgN f), L, q) := rfl
  rw [FIN]
  clear hfl hE h ok hst hlen hG FIN
  by_cases e0 : crE q (sgN f) = 0
  · rw [if_pos e0]
    rw [e0] at T
    generalize sb (sgN f) = sx at *
    go_enter Tryz.func66, Tryz.ntmps66
    go_wp2
    go_region_held3 (fun w' => w'.cell? ⟨a, 0, none⟩ = some (.pointer (some ⟨b, 0, none⟩))) (first | exact k0 | exact d0 | exact d1) (first
      | (go_at_call 46; refine (T.out _ (by first | exact GD.out | exact G0.out)).mono ?_; rintro e w1 ⟨rfl, k1, s1, T2⟩; have d0 := k1 0 _ k0; clear k1)
      | (go_at_call 83; refine (T2.out _ (Below.refl _ _)).mono ?_; rintro e w2 ⟨rfl, d1, s2, T3⟩))
    all_goals
      have T4 := (T3.out _ (Below.refl _ _)).2 (by trivial)
      clear T T2 T3
      go_wp2_with fail
      refine T4.mono ?_
      rintro e w3 ⟨rfl, O⟩
      go_wp2
      go_ret
      exact ⟨rfl, O.out⟩
  · rw [if_neg e0]
    have b0 : (crE q (sgN f) == 0) = false := by rw [beq_eq_false_iff_ne]; exact e0
    generalize crE q (sgN f) = ce at *
    generalize sb (sgN f) = sx at *
    go_enter Tryz.func66, Tryz.ntmps66
    go_wp2
    go_region_held3 (fun w' => w'.cell? ⟨a, 0, none⟩ = some (.pointer (some ⟨b, 0, none⟩))) (first | exact k0 | exact d0 | exact d1) (first
      | (go_at_call 46; refine (T.out _ (by first | exact GD.out | exact G0.out)).mono ?_; rintro e w1 ⟨rfl, k1, s1, T2⟩; have d0 := k1 0 _ k0; clear k1)
      | (go_at_call 83; refine (T2.out _ (Below.refl _ _)).mono ?_; rintro e w2 ⟨rfl, d1, s2, T3⟩))
    all_goals
      have T4 := (T3.out _ (Below.refl _ _)).1 e0
      clear T T2 T3
      go_wp2
      go_ret
      exact ⟨rfl, T4⟩
set_option maxRecDepth 100000 in
theorem wlast_c (h : WaAt w a b L q E) (hne : L.sg ≠ []) (hlen : L.sg.length ≤ 1000000) (hs : Sml L.cur.2) : Calls Tryz.prog 20 #[.pointer (some ⟨a, 0, none⟩)] w fun e w' => e = .returned (.int .i64 L.lst) ∧ Gb w w' := by
  have cN := wnone_c h
  have cC : Hid (Calls Tryz.prog 40 #[.pointer (some ⟨a, 0, none⟩)] w fun e w' => (∃ g o, e = .returned (.pointer (some ⟨g, o, none⟩)) ∧ CurA w' a b L q E g o) ∧ Gb w w') := wcurrent_c h hne hlen
  obtain ⟨hs1, hs2⟩ := hs
  clear h hne hlen
  unfold Lg.lst
  generalize hnx : L.cur.2 = nx at *
  go_enter Tryz.func20, Tryz.ntmps20
  go_wp2_with fail
  refine cN.mono ?_
  rintro e w1 ⟨rfl, rfl⟩
  go_wp2_with fail
  refine cC.out.mono ?_
  rintro e w2 ⟨⟨g, o, rfl, C⟩, g2⟩
  obtain ⟨_, c2, fg, hg, _⟩ := id C
  rw [hnx] at c2
  clear C cC cN
  go_wp2
  go_ret
  exact ⟨rfl, g2⟩
set_option maxRecDepth 100000 in
theorem wfirst_c (h : WaAt w a b L q E) (hne : L.sg ≠ []) : Calls Tryz.prog 18 #[.pointer (some ⟨a, 0, none⟩)] w fun e w' => e = .returned (.int .i64 L.sg[0]!.1) ∧ w' = w := by
  have cN := wnone_c h
  obtain ⟨m, hm⟩ : ∃ m, L.sg.length = m + 1 := ⟨L.sg.length - 1, by have := List.length_pos_iff.2 hne; omega⟩
  obtain ⟨g, off, c, c1, hc, hcell, fz, hg, Eg, nga, hset⟩ := h.row hm
  have ha : a < w.heap.size := h.lt a h.inE
  have k0 := (hcell 0 (by omega)).1
  rw [Nat.zero_mul, Nat.add_zero] at k0
  have i2 : (0 : Int) < ((m + 1 : Nat) : Int) := by omega
  generalize hn : m + 1 = n at *
  clear hcell fz hset h hm hn
  generalize L.sg[0]!.1 = fi at *
  go_enter Tryz.func18, Tryz.ntmps18
  go_wp2_with fail
  refine cN.mono ?_
  rintro e w1 ⟨rfl, rfl⟩
  go_wp2
  go_ret
  exact ⟨rfl, rfl⟩
theorem wsynced_c (h : WaAt w a b L q E) : Calls Tryz.prog 19 #[.pointer (some ⟨a, 0, none⟩)] w fun e w' => e = .returned (.int .i64 L.sy) ∧ w' = w := by
  have cN := wnone_c h
  obtain ⟨_, _, ⟨_, _, _, _, k4⟩, _, ha⟩ := h.cells
  clear h
  go_enter Tryz.func19, Tryz.ntmps19
  go_wp2_with fail
  refine cN.mono ?_
  rintro e w1 ⟨rfl, rfl⟩
  go_wp2
  go_ret
  exact ⟨rfl, rfl⟩
/-- fillSpare. -/
theorem app_off {x : By} {n : Nat} {l : By} (e : apE q x n ≠ 0) (hl : l.length = n) : q.append x l = q := by unfold Dq.append; rw [hl, if_neg e]
theorem sync_off {x : By} (e : fiE q x ≠ 0) : q.sync x = q := by unfold Dq.sync; rw [if_neg e]
theorem ren_off {x y : By} (e : reE q x y ≠ 0) : q.rename x y = q := by unfold Dq.rename; rw [if_neg e]
theorem rem_off {x : By} (e : fiE q x ≠ 0) : q.remove x = q := by unfold Dq.remove; rw [if_neg e]
theorem sprN_len : sprN.length = 7 := rfl
theorem sprN_wf : KWfS sprN := kwf_small (by rw [sprN_len]; omega)
theorem sb_spr : sb sprN = ⟨#[108, 111, 103, 46, 110, 101, 119]⟩ := rfl
end Go.Proofs.YtcbhhdjjanekaaaGreatDoor
