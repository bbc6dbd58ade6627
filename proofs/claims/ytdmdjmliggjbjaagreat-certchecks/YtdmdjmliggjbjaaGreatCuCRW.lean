/- The reference's Asked, Sound and Certain of layer 13. -/
import Derived.Test.YtdmdjmliggjbjaaGreatCtCL
import Derived.Test.YtdmdjmliggjbjaaGreatCtCRS
namespace Go.Proofs.YtdmdjmliggjbjaaGreat
open Go.RowKit Go.Sort Go.Maps Go.Shelf

set_option maxHeartbeats 1000000 in
theorem asked_c {w : World} {v u : Value} {rs : List Rw} {q : List Int} (hv : RdW w v rs) (hu : RdI w u q) (hlen : rs.length ≤ 4611686018427387904) (k : Int) :
    Calls Tryz.prog 22 #[v, u, .int .i64 k] w fun e w' => e = .returned (.int .i64 (topE rs q k)) ∧ Gb w w' := by
  have c := rtop_c hv hu hlen k
  obtain ⟨x1, y1, rfl, z1⟩ := hv
  obtain ⟨x2, y2, rfl, z2⟩ := hu
  clear z1 z2
  generalize rs.length = n at *
  generalize q.length = m at *
  go_enter Tryz.func22, Tryz.ntmps22
  go_wp2_with fail
  go_fit c
  rintro e w' ⟨v', rfl, g, _, _⟩
  obtain ⟨x, hx⟩ : ∃ x, x = topE rs q k := ⟨_, rfl⟩
  have HX : Hid (x = topE rs q k) := hx
  rw [← hx]
  clear c hx
  go_wp2
  go_ret
  exact ⟨by rw [← HX.out]; rfl, g⟩
set_option maxRecDepth 100000 in
set_option maxHeartbeats 2000000 in
theorem rS_c {w : World} {v u vh vs vr : Value} {rs : List Rw} {q : List Int} {a : Ans} {k : Int} (hv : RdW w v rs) (hu : RdI w u q) (ha : RdA w vh vs vr a) (hin : InA a) (hwf : Wf rs) :
    Calls Tryz.prog 11 #[v, u, .int .i64 k, .agg #[vh, vs, vr]] w fun e w' => SoOut w rs q k a e w' := by
  obtain ⟨W0, hW0⟩ : ∃ W0, W0 = w.alloc (.cells #[vh, vs, vr] 27) := ⟨_, rfl⟩
  have G0 : Hid (Gb w W0) := by unfold Hid; rw [hW0]; exact gb_alloc (Below.refl _ _) _
  have ct := asked_c (hv.gb G0.out) (hu.gb G0.out) hwf.1 k
  have V : Hid (RdW w v rs) := hv
  have U : Hid (RdI w u q) := hu
  have A : Hid (RdA w vh vs vr a) := ha
  have HI : Hid (InA a ∧ Wf rs) := ⟨hin, hwf⟩
  have BX : Hid (W0.cell? ⟨w.heap.size, 0, none⟩ = some vh ∧ W0.cell? ⟨w.heap.size, 1, none⟩ = some vs ∧ W0.cell? ⟨w.heap.size, 2, none⟩ = some vr) := by
    unfold Hid; rw [hW0]; exact ⟨by simp [go_sem], by simp [go_sem], by simp [go_sem]⟩
  obtain ⟨x1, y1, rfl, z1⟩ := hv
  obtain ⟨x2, y2, rfl, z2⟩ := hu
  obtain ⟨x3, y3, evh, z3⟩ := ha.hits.form
  obtain ⟨x4, y4, evs, z4⟩ := ha.seen
  obtain ⟨x5, y5, evr, z5⟩ := ha.rest
  subst evh; subst evs; subst evr
  clear z1 z2 z3 z4 z5 ha hin hwf
  generalize hn1 : rs.length = n1 at *
  generalize hn2 : q.length = n2 at *
  generalize hn3 : a.hits.length = n3 at *
  generalize hn4 : a.seen.length = n4 at *
  generalize hn5 : a.rest.length = n5 at *
  clear hn1 hn2 hn3 hn4 hn5
  go_enter Tryz.func11, Tryz.ntmps11
  go_wp2_with fail
  rw [← hW0]
  go_fit ct
  rintro e w1 ⟨rfl, g1⟩
  have G1 : Hid (Gb W0 w1) := g1
  clear ct g1 hW0
  by_cases htop : topE rs q k = 0
  · have TP : Hid (topE rs q k = 0) := htop
    rw [htop]
    have GW : Hid (Gb w w1) := gb_trans G0.out G1.out
    obtain ⟨hk1, hk2⟩ := (topE_zero.1 htop).2
    obtain ⟨kn, hkn⟩ : ∃ kn : Nat, kn = k.toNat := ⟨_, rfl⟩
    have hkk : k = (kn : Int) := by omega
    have cs := rsoundG_c (k := kn) (V.out.gb GW.out) (U.out.gb GW.out) (A.out.gb GW.out) (topE_zero.1 htop).1 (by omega) HI.out.1
    rw [← hkk] at cs
    have KN : Hid (k.toNat = kn) := hkn.symm
    obtain ⟨b0, b1, b2⟩ := BX.out
    have b0 := gb_keeps G1.out b0
    have b1 := gb_keeps G1.out b1
    have b2 := gb_keeps G1.out b2
    clear htop hk1 hk2 hkn hkk
    go_wp2_with fail
    go_fit cs
    rintro e w3 ⟨⟨b, rfl, hb⟩, g3⟩
    have FO : Hid (SoOut w rs q k a (.returned (.tuple #[.bool b, .int .i64 0])) w3) := ⟨b, by rw [TP.out], gb_trans GW.out g3, fun h => absurd TP.out h, fun _ => by rw [KN.out]; exact hb⟩
    clear cs hb g3 b0 b1 b2
    go_wp2
    go_ret2
    exact FO.out
  · obtain ⟨x, hx⟩ : ∃ x, x = topE rs q k := ⟨_, rfl⟩
    have FO : Hid (SoOut w rs q k a (.returned (.tuple #[.bool false, .int .i64 x])) w1) := ⟨false, by rw [hx], gb_trans G0.out G1.out, fun _ => rfl, fun h => absurd h htop⟩
    rw [← hx] at htop ⊢
    have hx0 : (x != 0) = true := by simpa using htop
    clear hx htop
    go_wp2
    go_ret2
    exact FO.out
theorem snd_hits {rs : List Rw} {q : List Int} {k : Nat} {a : Ans} (hask : askE rs q = 0) (h : SoundQ rs q k a) : ∀ x ∈ a.hits, dnH x < 340282366920938463463374607431768211456 ∧ x.2.1 = hi (dnH x) ∧ x.2.2 = lo (dnH x) := fun x hx => by
  obtain ⟨srs, h⟩ := h
  rw [h.hits] at hx
  obtain ⟨r, hr, e⟩ := chit_form hx
  rw [e, cdn_hit]
  obtain ⟨hq, hro⟩ := askE_zero.1 hask
  have h1 := chk_ok hq
  have h2 := chk_ok (hro.row r (h.mem r hr)).2
  exact ⟨dst_lt h1.2.2.2 h2.2.2.2 (by omega) h1.2.1, rfl, rfl⟩
theorem snd_regs {rs : List Rw} {q : List Int} {k : Nat} {a : Ans} (hask : askE rs q = 0) (h : SoundQ rs q k a) : ∀ r ∈ a.rest, ckB r q = 0 ∧ r.R < 340282366920938463463374607431768211456 := fun r hr => by
  obtain ⟨srs, h⟩ := h
  obtain ⟨h1, _, h3, _⟩ := h.reg r hr
  refine ⟨?_, h3⟩
  unfold ckB
  rw [if_pos h1]
  exact (askE_zero.1 hask).1
set_option maxRecDepth 100000 in
set_option maxHeartbeats 2000000 in
theorem rC_c {w : World} {v u vh vs vr : Value} {rs : List Rw} {q : List Int} {a : Ans} {k : Int} (hv : RdW w v rs) (hu : RdI w u q) (ha : RdA w vh vs vr a) (hin : InA a) (hwf : Wf rs) :
    Calls Tryz.prog 12 #[v, u, .int .i64 k, .agg #[vh, vs, vr]] w fun e w' => CeOut w rs q k a e w' := by
  obtain ⟨W0, hW0⟩ : ∃ W0, W0 = w.alloc (.cells #[vh, vs, vr] 27) := ⟨_, rfl⟩
  have G0 : Hid (Gb w W0) := by unfold Hid; rw [hW0]; exact gb_alloc (Below.refl _ _) _
  have ct := asked_c (hv.gb G0.out) (hu.gb G0.out) hwf.1 k
  have V : Hid (RdW w v rs) := hv
  have U : Hid (RdI w u q) := hu
  have A : Hid (RdA w vh vs vr a) := ha
  have HI : Hid (InA a ∧ Wf rs) := ⟨hin, hwf⟩
  have BX : Hid (W0.cell? ⟨w.heap.size, 0, none⟩ = some vh ∧ W0.cell? ⟨w.heap.size, 1, none⟩ = some vs ∧ W0.cell? ⟨w.heap.size, 2, none⟩ = some vr) := by
    unfold Hid; rw [hW0]; exact ⟨by simp [go_sem], by simp [go_sem], by simp [go_sem]⟩
  obtain ⟨x1, y1, rfl, z1⟩ := hv
  obtain ⟨x2, y2, rfl, z2⟩ := hu
  obtain ⟨x3, y3, evh, z3⟩ := ha.hits.form
  obtain ⟨x4, y4, evs, z4⟩ := ha.seen
  obtain ⟨x5, y5, evr, z5⟩ := ha.rest
  subst evh; subst evs; subst evr
  clear z1 z2 z3 z4 z5 ha hin hwf
  generalize hn1 : rs.length = n1 at *
  generalize hn2 : q.length = n2 at *
  generalize hn3 : a.hits.length = n3 at *
  generalize hn4 : a.seen.length = n4 at *
  generalize hn5 : a.rest.length = n5 at *
  clear hn1 hn2 hn3 hn4 hn5
  go_enter Tryz.func12, Tryz.ntmps12
  go_wp2_with fail
  rw [← hW0]
  go_fit ct
  rintro e w1 ⟨rfl, g1⟩
  have G1 : Hid (Gb W0 w1) := g1
  clear ct g1 hW0
  by_cases htop : topE rs q k = 0
  · have TP : Hid (topE rs q k = 0) := htop
    rw [htop]
    have GW : Hid (Gb w w1) := gb_trans G0.out G1.out
    obtain ⟨hk1, hk2⟩ := (topE_zero.1 htop).2
    obtain ⟨kn, hkn⟩ : ∃ kn : Nat, kn = k.toNat := ⟨_, rfl⟩
    have hkk : k = (kn : Int) := by omega
    have cs := rsoundG_c (k := kn) (V.out.gb GW.out) (U.out.gb GW.out) (A.out.gb GW.out) (topE_zero.1 htop).1 (by omega) HI.out.1
    rw [← hkk] at cs
    have KN : Hid (k.toNat = kn ∧ 1 ≤ kn ∧ kn ≤ 64) := ⟨hkn.symm, by omega, by omega⟩
    have KK : Hid (k = (kn : Int)) := hkk
    obtain ⟨b0, b1, b2⟩ := BX.out
    have b0 := gb_keeps G1.out b0
    have b1 := gb_keeps G1.out b1
    have b2 := gb_keeps G1.out b2
    clear htop hk1 hk2 hkn hkk
    go_wp2_with fail
    go_fit cs
    rintro e w3 ⟨⟨b, rfl, hb⟩, g3⟩
    have GW3 : Hid (Gb w w3) := gb_trans GW.out g3
    have HB : Hid (b = true ↔ SoundQ rs q kn a) := hb
    have b0 := gb_keeps g3 b0
    have b1 := gb_keeps g3 b1
    have b2 := gb_keeps g3 b2
    clear cs hb g3
    cases b with
    | false =>
      have FO : Hid (CeOut w rs q k a (.returned (.tuple #[.bool false, .int .i64 0])) w3) := ⟨false, by rw [TP.out], GW3.out, fun h => absurd TP.out h, fun _ => ⟨fun h => (by cases h), fun h => by rw [KN.out.1] at h; exact absurd (HB.out.2 h.1) (by decide)⟩⟩
      go_wp2
      go_ret2
      exact FO.out
    | true =>
      have SQ := HB.out.1 rfl
      have AK := (topE_zero.1 TP.out).1
      have cc := rcertain_c (k := kn) (U.out.gb GW3.out) (A.out.gb GW3.out) KN.out.2 (by have := HI.out.1.rest; omega) (by have := HI.out.1.hits; omega) (snd_regs AK SQ) (snd_hits AK SQ)
      rw [← KK.out] at cc
      have FO : Hid (∀ W, Gb w3 W → CeOut w rs q k a (.returned (.tuple #[.bool (certB q kn a), .int .i64 0])) W) := fun W g => ⟨_, by rw [TP.out], gb_trans GW3.out g, fun h => absurd TP.out h, fun _ => by rw [KN.out.1]; exact ⟨fun h => ⟨SQ, h⟩, fun h => h.2⟩⟩
      generalize certB q kn a = cb at *
      clear SQ AK HB
      go_wp2_with fail
      go_fit cc
      rintro e w4 ⟨rfl, g4⟩
      have FF := FO.out _ g4
      clear cc FO b0 b1 b2
      go_wp2
      go_ret2
      exact FF
  · obtain ⟨x, hx⟩ : ∃ x, x = topE rs q k := ⟨_, rfl⟩
    have FO : Hid (CeOut w rs q k a (.returned (.tuple #[.bool false, .int .i64 x])) w1) := ⟨false, by rw [hx], gb_trans G0.out G1.out, fun _ => rfl, fun h => absurd h htop⟩
    rw [← hx] at htop ⊢
    have hx0 : (x != 0) = true := by simpa using htop
    clear hx htop
    go_wp2
    go_ret2
    exact FO.out
end Go.Proofs.YtdmdjmliggjbjaaGreat
