/- law17.same: a disk and the reference's that tell the same. -/
import Derived.Test.YtkagnoinifffdaaRxDkRu
import Derived.Test.YtkagnoinifffdaaRxDkRt
import Derived.Test.YtkagnoinifffdaaRx19
namespace Go.Proofs.Ytkagnoinifffdaa
open Go.RowKit Go.Lib Go.Maps

variable {w w' W X : World} {b p : Nat} {q q' : Dq} {F G B : Nat → Prop}
theorem RmB.mono {base base' c : Nat} {a : Option Addr} (h : RmB w base a c) (hb : base' ≤ base) : RmB w base' a c := by
  rcases h with h | ⟨g, e, h1, h2⟩
  · exact .inl h
  · exact .inr ⟨g, e, Nat.le_trans hb h1, h2⟩
theorem RmB.gb {base c : Nat} {a : Option Addr} (h : RmB w base a c) (g : Gb w w') : RmB w' base a c := by
  rcases h with h | ⟨k, e, h1, cs, h2, h3, h4⟩
  · exact .inl h
  · exact .inr ⟨k, e, h1, cs, (g.block k (Array.getElem?_eq_some_iff.1 h2).1).trans h2, h3, h4⟩
set_option maxHeartbeats 8000000 in
set_option maxRecDepth 100000 in
theorem same_c (h : ∃ F, DkAt w b q F) (hp : RfD w p q G B) (ok : q.Ok) (hi : q.Inj) (hst : q.st < 10000) : Calls Try.prog 10 #[.pointer (some ⟨b, 0, none⟩), .pointer (some ⟨p, 0, none⟩)] w fun e w' => e = .returned (.bool true) ∧ Gb w w' := by
  have st0 : q.st < 100000 := by omega
  have S : Hid (∀ X, Gb w X → ∃ F, DkAt X b q F) := fun X g => by obtain ⟨F, k⟩ := h; exact ⟨F, k.gb g⟩
  obtain ⟨nu, r, L, fv, nv, sv, cv, M, hr, _⟩ := hp
  have cN : Calls Try.prog 24 #[.pointer (some ⟨b, 0, none⟩)] w fun e w' => ∃ a c, e = .returned (.slice a (nmL q).length c) ∧ Hid (OwnT w' w.heap.size (.slice a (nmL q).length c) (nmL q) ∧ Gb w w') := by
    obtain ⟨F, k⟩ := h
    refine (names_c k ok st0).mono ?_
    rintro e w' ⟨v, rfl, ho, g⟩
    obtain ⟨a, c, rfl⟩ := row_fm ho
    exact ⟨a, c, rfl, ho, g⟩
  have cR : Hid (∀ X, Gb w X → Calls Try.prog 33 #[.pointer (some ⟨p, 0, none⟩)] X fun e w' => ∃ a c, e = .returned (.slice a (nmL q).length c) ∧ Hid (OwnT w' X.heap.size (.slice a (nmL q).length c) (nmL q) ∧ Gb X w')) := fun X g => by
    refine (rnames_r (M.g g) hr ok hi st0).mono ?_
    rintro e w' ⟨v, rfl, ho, g⟩
    obtain ⟨a, c, rfl⟩ := row_fm ho
    exact ⟨a, c, rfl, ho, g⟩
  have cU : Hid (∀ X, Gb w X → Calls Try.prog 29 #[.pointer (some ⟨b, 0, none⟩)] X fun e w' => e = .returned (.int .i64 (usdO q : Int)) ∧ Gb X w') := fun X g => by
    obtain ⟨F, k⟩ := S.out X g
    exact used_c k ok st0
  have cV : Hid (∀ X, Gb w X → Calls Try.prog 34 #[.pointer (some ⟨p, 0, none⟩)] X fun e w' => e = .returned (.int .i64 (usdO q : Int)) ∧ Gb X w') := fun X g => rused_r (M.g g) hr ok hi st0
  have cS : Hid (∀ X, Gb w X → Calls Try.prog 28 #[.pointer (some ⟨b, 0, none⟩)] X fun e w' => e = .returned (.int .i64 (q.st : Int)) ∧ Gb X w') := fun X g => by
    obtain ⟨F, k⟩ := S.out X g
    exact (steps_c k ok).mono fun e w' h => ⟨h.1, by rw [← h.2]; exact Below.refl _ _⟩
  have cD : Hid (∀ X, Gb w X → Calls Try.prog 26 #[.pointer (some ⟨b, 0, none⟩)] X fun e w' => e = .returned (.bool (decide (q.lf = 0))) ∧ Gb X w') := fun X g => by
    obtain ⟨F, k⟩ := S.out X g
    exact (down_c k ok).mono fun e w' h => ⟨h.1, by rw [← h.2]; exact Below.refl _ _⟩
  have cE : Hid (∀ X, Gb w X → Calls Try.prog 35 #[.pointer (some ⟨p, 0, none⟩)] X fun e w' => e = .returned (.bool (decide (q.lf = 0))) ∧ Gb X w') := fun X g => (rdown_r (M.g g)).mono fun e w' h => ⟨h.1, by rw [h.2]; exact Below.refl _ _⟩
  have c5 : Hid (∀ X, Gb w X → X.cell? ⟨p, 5, none⟩ = some (.int .i64 (q.st : Int)) ∧ p < X.heap.size) := fun X g => ⟨(M.g g).cells.1.2.2.2.2.2.1, (M.g g).lt⟩
  have lN : (nmL q).length ≤ 10000 := by
    unfold nmL
    split
    · simp
    · rw [srtB_len, kys_length]; have := ok.nmL; omega
  have RD : Hid (∀ i, i < (nmL q).length → ∀ X Wb, Gb w Wb → Gb Wb X → Calls Try.prog 21 #[.pointer (some ⟨b, 0, none⟩), .string (sb (nmL q)[i]!)] X fun e X' => ∃ b2 c2, e = .returned (.tuple #[.slice b2 (rdV q (nmL q)[i]!).length c2, .int .i64 (fiE q (nmL q)[i]!)]) ∧ Hid (Gb X X') ∧
      Hid (Calls Try.prog 36 #[.pointer (some ⟨p, 0, none⟩), .string (sb (nmL q)[i]!)] X' fun e X2 => ∃ b3 c3, e = .returned (.tuple #[.slice b3 (rdV q (nmL q)[i]!).length c3, .int .i64 (fiE q (nmL q)[i]!)]) ∧ X2 = X' ∧
        Hid (Calls Try.prog 23 #[.slice b2 (rdV q (nmL q)[i]!).length c2, .slice b3 (rdV q (nmL q)[i]!).length c3] X' fun e X3 => e = .returned (.bool true) ∧
          Hid (Calls Try.prog 37 #[.slice b2 (rdV q (nmL q)[i]!).length c2] X3 fun e X4 => e = .returned (.tuple #[]) ∧ Hid (Gb Wb X4))))) := fun i hil X Wb gb0 gb1 => by
    have g := gb_trans gb0 gb1
    have hm : (nmL q)[i]! ∈ nmL q := by rw [getElem!_pos _ i hil]; exact List.getElem_mem hil
    generalize (nmL q)[i]! = x at *
    have hx : KWfS x := by
      unfold nmL at hm
      split at hm
      · simp at hm
      · have hk := (srtB_perm _).mem_iff.1 hm
        obtain ⟨y, hy, e⟩ := List.mem_map.1 hk
        have := (nmOk_len (ok.nmB y hy)).2
        rw [e] at this
        exact kwf_small (by omega)
    have hle : (rdV q x).length ≤ 4194304 := by
      unfold rdV
      split
      · exact ok.fb _
      · simp
    obtain ⟨F, k⟩ := S.out X g
    refine (read2_c k ok hx).mono ?_
    rintro e X' ⟨b2, c2, rfl, o2, rm, g2⟩
    refine ⟨b2, c2, rfl, g2, ?_⟩
    have gX' := gb_trans g g2
    refine (rread_r (M.g gX') hr ok hi st0 x).mono ?_
    rintro e X2 ⟨b3, c3, rfl, r3, rfl⟩
    refine ⟨b3, c3, rfl, rfl, ?_⟩
    refine (bytes_same o2.rd r3 (by omega)).mono ?_
    rintro e X3 ⟨rfl, g3⟩
    refine ⟨rfl, ?_⟩
    have hcap : (rdV q x).length ≤ c2 ∧ c2 ≤ 9223372036854775807 := by
      rcases id o2.2 with ⟨e, e0⟩ | ⟨g', cap', cur, e, _, _, h3, h4, _⟩
      · obtain ⟨_, e2, e3⟩ := Value.slice.inj e
        omega
      · obtain ⟨_, e2, e3⟩ := Value.slice.inj e
        unfold maxLen at h4
        omega
    exact spoil_c ((rm.mono gb1.size).gb g3) hcap.1 hcap.2 (gb_trans (gb_trans gb1 g2) g3)
  clear S M hr ok hi hst h st0
  generalize hnn : (nmL q).length = nn at *
  have NNq : Hid ((nmL q).length = nn) := hnn
  generalize hU : usdO q = U at *
  generalize hst : (q.st : Int) = st at *
  generalize hdd : decide (q.lf = 0) = dd at *
  clear hU hst hdd hnn
  go_enter Try.func10, Try.ntmps10
  go_wp2_with fail
  refine cN.mono ?_
  rintro e w1 ⟨a, c, rfl, R1⟩
  have cR1 := cR.out _ R1.out.2
  clear cN cR
  go_wp2_with fail
  refine cR1.mono ?_
  rintro e w2 ⟨a2, c2, rfl, R2⟩
  have G2 : Hid (Gb w w2) := gb_trans R1.out.2 R2.out.2
  have cT : Hid (∀ X, Gb w2 X → Calls Try.prog 25 #[.slice a nn c, .slice a2 nn c2] X fun e w' => e = .returned (.bool true) ∧ Gb w2 w') := fun X g => (texts_same (R1.out.1.gb (gb_trans R2.out.2 g)) (R2.out.1.gb g) (by rw [NNq.out]; omega)).mono fun e w' h => ⟨h.1, gb_trans g h.2⟩
  have A2 : Hid (∀ i, i < nn → ∃ g, a2 = some ⟨g, 0, none⟩ ∧ ∀ X, Gb w2 X → X.cell? ⟨g, i, none⟩ = some (.string (sb (nmL q)[i]!))) := fun i hin => by
    obtain ⟨a', c', e, ha⟩ := R2.out.1.at_
    obtain ⟨e1, _, _⟩ := Value.slice.inj e
    obtain ⟨g, e2, k⟩ := ha i (by rw [NNq.out]; exact hin)
    exact ⟨g, by rw [e1, e2], fun X gX => gb_keeps gX k⟩
  have cU : Hid (∀ X, Gb w2 X → Calls Try.prog 29 #[.pointer (some ⟨b, 0, none⟩)] X fun e w' => e = .returned (.int .i64 (U : Int)) ∧ Gb w2 w') := fun X g => (cU.out X (gb_trans G2.out g)).mono fun e w' h => ⟨h.1, gb_trans g h.2⟩
  have cV : Hid (∀ X, Gb w2 X → Calls Try.prog 34 #[.pointer (some ⟨p, 0, none⟩)] X fun e w' => e = .returned (.int .i64 (U : Int)) ∧ Gb w2 w') := fun X g => (cV.out X (gb_trans G2.out g)).mono fun e w' h => ⟨h.1, gb_trans g h.2⟩
  have cS : Hid (∀ X, Gb w2 X → Calls Try.prog 28 #[.pointer (some ⟨b, 0, none⟩)] X fun e w' => e = .returned (.int .i64 st) ∧ Gb w2 w') := fun X g => (cS.out X (gb_trans G2.out g)).mono fun e w' h => ⟨h.1, gb_trans g h.2⟩
  have cD : Hid (∀ X, Gb w2 X → Calls Try.prog 26 #[.pointer (some ⟨b, 0, none⟩)] X fun e w' => e = .returned (.bool dd) ∧ Gb w2 w') := fun X g => (cD.out X (gb_trans G2.out g)).mono fun e w' h => ⟨h.1, gb_trans g h.2⟩
  have cE : Hid (∀ X, Gb w2 X → Calls Try.prog 35 #[.pointer (some ⟨p, 0, none⟩)] X fun e w' => e = .returned (.bool dd) ∧ Gb w2 w') := fun X g => (cE.out X (gb_trans G2.out g)).mono fun e w' h => ⟨h.1, gb_trans g h.2⟩
  have c5 : Hid (∀ X, Gb w2 X → X.cell? ⟨p, 5, none⟩ = some (.int .i64 st) ∧ p < X.heap.size) := fun X g => c5.out X (gb_trans G2.out g)
  have ge : Gb w2 w2.drew := (Below.refl _ _).drew
  obtain ⟨x5, px⟩ := c5.out _ (Below.refl _ w2)
  clear cR1 R1 R2
  go_wp2_with fail
  go_region_with (first
    | (go_at_call 25; refine (cT.out _ (by assumption)).mono ?_; rintro e w3 ⟨rfl, g3⟩; obtain ⟨y5, py⟩ := c5.out w3 g3)
    | (go_at_call 29; refine (cU.out _ (by assumption)).mono ?_; rintro e w4 ⟨rfl, g4⟩; obtain ⟨y5, py⟩ := c5.out w4 g4)
    | (go_at_call 34; refine (cV.out _ (by assumption)).mono ?_; rintro e w5 ⟨rfl, g5⟩; obtain ⟨y5, py⟩ := c5.out w5 g5)
    | (go_at_call 28; refine (cS.out _ (by assumption)).mono ?_; rintro e w6 ⟨rfl, g6⟩; obtain ⟨y5, py⟩ := c5.out w6 g6)
    | (go_at_call 26; refine (cD.out _ (by assumption)).mono ?_; rintro e w7 ⟨rfl, g7⟩)
    | (go_at_call 35; refine (cE.out _ (by assumption)).mono ?_; rintro e w8 ⟨rfl, g8⟩))
  all_goals
    clear cT cU cV cS cD cE c5
    go_wp2
    go_loopw [7] (fun iv W => ∃ i : Nat, iv = .int .i64 (i : Int) ∧ i ≤ nn ∧ Hid (Gb w2 W)) (fun iv _ => nn - (intOf iv).toNat)
    case atStart => exact ⟨0, rfl, Nat.zero_le _, (by assumption : Gb w2 _)⟩
    case round =>
      obtain ⟨i, rfl, hin, X⟩ := hrel
      by_cases hi : i < nn
      · have hii : (i : Int) < (nn : Int) := by omega
        obtain ⟨g, rfl, kc⟩ := A2.out i hi
        have k1 := kc _ X.out
        have cd := RD.out i hi _ _ G2.out X.out
        have hgw := cell_lt k1
        generalize sb (nmL q)[i]! = sx at *
        generalize (rdV q (nmL q)[i]!).length = y at *
        generalize fiE q (nmL q)[i]! = fe at *
        clear kc RD X A2
        go_wp2_with fail
        refine cd.mono ?_
        rintro e v1 ⟨b2, c2', rfl, gv, cr⟩
        have cr := cr.out
        have k2 := gb_keeps gv.out k1
        have hg2 := cell_lt k2
        clear cd
        go_wp2_with fail
        refine cr.mono ?_
        rintro e v2 ⟨b3, c3, rfl, rfl, cb⟩
        have cb := cb.out
        clear cr
        go_wp2_with fail
        refine cb.mono ?_
        rintro e v3 ⟨rfl, cs⟩
        have cs := cs.out
        clear cb
        go_wp2_with fail
        refine cs.mono ?_
        rintro e v4 ⟨rfl, gf⟩
        clear cs
        go_wp2
        exact ⟨⟨i + 1, by simp, hi, gf.out⟩, by simp [intOf]; omega⟩
      · obtain rfl : i = nn := by omega
        have hii : ¬ (i : Int) < (i : Int) := by omega
        have GF : Hid (Gb w wr) := gb_trans G2.out X.out
        clear RD A2
        go_wp2
        go_ret
        exact ⟨rfl, GF.out⟩
end Go.Proofs.Ytkagnoinifffdaa
