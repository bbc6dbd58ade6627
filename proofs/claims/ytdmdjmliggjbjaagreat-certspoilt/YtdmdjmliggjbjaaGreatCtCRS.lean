/- The reference's Sound, of any answer. -/
import Derived.Test.YtdmdjmliggjbjaaGreatCt38
import Derived.Test.YtdmdjmliggjbjaaGreatCtCR
namespace Go.Proofs.YtdmdjmliggjbjaaGreat
open Go.RowKit Go.Sort Go.Maps

/-- The row of an id. -/
def fnd (rs : List Rw) (x : Int) : Rw := (rs.find? fun r => r.1 == x).getD (0, [])
theorem fnd_at {rs : List Rw} {q : List Int} (hask : askE rs q = 0) {r : Rw} (hr : r ∈ rs) : fnd rs r.1 = r := by
  unfold fnd
  cases h : rs.find? fun y => y.1 == r.1 with
  | none =>
    have := List.find?_eq_none.1 h r hr
    simp at this
  | some y =>
    have h1 := List.mem_of_find?_eq_some h
    have h2 := List.find?_some h
    simp only [beq_iff_eq] at h2
    exact row_one hask h1 hr h2
/-- The first p seen ids are found, and rise. -/
def FndTo (rs : List Rw) (l : List Int) (p : Nat) : Prop := (∀ i, i < p → l[i]! ∈ idsOf rs) ∧ ∀ i, i + 1 < p → l[i]! < l[i + 1]!
theorem srs_eq {rs srs : List Rw} {q : List Int} {k : Nat} {a : Ans} (hask : askE rs q = 0) (h : SoundP rs q k a srs) : srs = a.seen.map (fnd rs) := by
  rw [← h.ids]
  unfold idsOf
  rw [List.map_map]
  have : ∀ r ∈ srs, r = (fnd rs ∘ fun x => x.1) r := fun r hr => (fnd_at hask (h.mem r hr)).symm
  conv => lhs; rw [← List.map_id srs]
  exact List.map_congr_left this
theorem not_found {rs : List Rw} {q : List Int} {k : Nat} {a : Ans} {p : Nat} (hp : p < a.seen.length) (h : a.seen[p]! ∉ idsOf rs) : ¬ SoundQ rs q k a := fun ⟨srs, hs⟩ => by
  refine h ?_
  rw [getElem!_pos a.seen p hp]
  have hm : a.seen[p] ∈ allIds a := List.mem_append_left _ (List.getElem_mem hp)
  exact hs.all.mem_iff.1 hm
theorem not_rise {rs : List Rw} {q : List Int} {k : Nat} {a : Ans} {p : Nat} (hp : p + 1 < a.seen.length) (h : ¬ a.seen[p]! < a.seen[p + 1]!) : ¬ SoundQ rs q k a := fun ⟨_, hs⟩ => h (hs.rise p hp)
theorem not_reg {rs : List Rw} {q : List Int} {k : Nat} {a : Ans} {p : Nat} (hp : p < a.rest.length) (h : ¬ regQ rs (q.length : Int) a.rest[p]) : ¬ SoundQ rs q k a := fun ⟨_, hs⟩ => by
  obtain ⟨h1, h2, _, h4⟩ := hs.reg _ (List.getElem_mem hp)
  exact h ⟨h1, h2, h4⟩
theorem not_hits {rs : List Rw} {q : List Int} {k : Nat} {a : Ans} (hask : askE rs q = 0) (h : a.hits ≠ Tk.firsts k (hitsOf q (a.seen.map (fnd rs)))) : ¬ SoundQ rs q k a := fun ⟨srs, hs⟩ => by
  rw [← srs_eq hask hs] at h
  exact h hs.hits
theorem fnd_ids {rs : List Rw} {q : List Int} (hask : askE rs q = 0) {l : List Int} (h : FndTo rs l l.length) : idsOf (l.map (fnd rs)) = l ∧ ∀ r ∈ l.map (fnd rs), r ∈ rs := by
  have hx : ∀ x ∈ l, (fnd rs x).1 = x ∧ fnd rs x ∈ rs := fun x hx => by
    obtain ⟨i, hi', e⟩ := List.mem_iff_getElem.1 hx
    have := h.1 i hi'
    rw [getElem!_pos l i hi', e] at this
    obtain ⟨r, hr, er⟩ := List.mem_map.1 this
    rw [← er, fnd_at hask hr]
    exact ⟨rfl, hr⟩
  constructor
  · unfold idsOf
    rw [List.map_map]
    conv => rhs; rw [← List.map_id l]
    exact List.map_congr_left fun x hm => (hx x hm).1
  · intro r hr
    obtain ⟨x, hm, e⟩ := List.mem_map.1 hr
    rw [← e]; exact (hx x hm).2
theorem rise_all {l : List Int} (h : ∀ i, i + 1 < l.length → l[i]! < l[i + 1]!) : l.Pairwise (· < ·) := by
  rw [List.pairwise_iff_getElem]
  intro i j hi' hj hij
  have : ∀ d, i + d + 1 < l.length → l[i]! < l[i + d + 1]! := by
    intro d
    induction d with
    | zero => intro hd; exact h i hd
    | succ d ih =>
      intro hd
      have h1 := ih (by omega)
      have h2 := h (i + d + 1) (by omega)
      have e : i + (d + 1) + 1 = i + d + 1 + 1 := by omega
      rw [e]
      omega
  have h3 := this (j - i - 1) (by omega)
  rw [show i + (j - i - 1) + 1 = j by omega] at h3
  rw [getElem!_pos l i hi', getElem!_pos l j hj] at h3
  exact h3
theorem fnd_ask {rs : List Rw} {q : List Int} (hask : askE rs q = 0) {l : List Int} (h : FndTo rs l l.length) : askE (l.map (fnd rs)) q = 0 := by
  obtain ⟨h1, h2⟩ := fnd_ids hask h
  obtain ⟨hq, hr⟩ := askE_zero.1 hask
  have hp : (idsOf (l.map (fnd rs))).Pairwise (· ≠ ·) := by
    rw [h1]
    exact (rise_all h.2).imp (fun h => by omega)
  refine askE_zero.2 ⟨hq, ⟨?_, hp, fun r hr' => hr.row r (h2 r hr')⟩⟩
  have hnd : (idsOf (l.map (fnd rs))).Nodup := hp
  have hsub : ∀ x ∈ idsOf (l.map (fnd rs)), x ∈ idsOf rs := fun x hx => by
    obtain ⟨r, hr', e⟩ := List.mem_map.1 hx
    exact List.mem_map.2 ⟨r, h2 r hr', e⟩
  have hle : (idsOf (l.map (fnd rs))).length ≤ (idsOf rs).length := by
    generalize idsOf (l.map (fnd rs)) = A at hnd hsub
    generalize idsOf rs = B at hsub
    clear hp h1 h2
    induction A generalizing B with
    | nil => exact Nat.zero_le _
    | cons x r ih =>
      have hx := hsub x List.mem_cons_self
      have := ih (List.nodup_cons.1 hnd).2 (B.erase x) (fun y hy => by
        have hyx : y ≠ x := fun e => (List.nodup_cons.1 hnd).1 (e ▸ hy)
        exact (List.mem_erase_of_ne hyx).2 (hsub y (List.mem_cons_of_mem _ hy)))
      rw [List.length_erase_of_mem hx] at this
      have := List.length_pos_of_mem hx
      simp only [List.length_cons]
      omega
  have := hr.few
  unfold idsOf at hle
  simp only [List.length_map] at hle ⊢
  omega
theorem sndG_iff {rs : List Rw} {q : List Int} {k : Nat} {a : Ans} (hask : askE rs q = 0) (hR : ∀ r ∈ a.rest, r.R < 340282366920938463463374607431768211456) (h : FndTo rs a.seen a.seen.length) (hreg : ∀ j (hj : j < a.rest.length), regQ rs (q.length : Int) a.rest[j]) (hh : a.hits = Tk.firsts k (hitsOf q (a.seen.map (fnd rs)))) :
    decide (srt (allIds a) = srt (idsOf rs)) = true ↔ SoundQ rs q k a := by
  rw [decide_eq_true_eq]
  constructor
  · intro e
    obtain ⟨h1, h2⟩ := fnd_ids hask h
    refine ⟨a.seen.map (fnd rs), h1, h2, h.2, fun r hr => ?_, hh, ?_⟩
    · obtain ⟨j, hj, e⟩ := List.mem_iff_getElem.1 hr
      have := hreg j hj
      rw [e] at this
      exact ⟨this.1, this.2.1, hR r hr, this.2.2⟩
    · have := srt_perm (allIds a)
      rw [e] at this
      exact this.symm.trans (srt_perm _)
  · rintro ⟨_, hs⟩
    exact srtI_unique _ _ (srt_srtI _) (srt_srtI _) ((srt_perm _).trans (hs.all.trans (srt_perm _).symm))
def SgOut (w : World) (rs : List Rw) (q : List Int) (k : Nat) (a : Ans) (e : Ending) (w' : World) : Prop := (∃ b : Bool, e = .returned (.bool b) ∧ (b = true ↔ SoundQ rs q k a)) ∧ Gb w w'
theorem SgOut.no {w w' : World} {rs : List Rw} {q : List Int} {k : Nat} {a : Ans} (h : ¬ SoundQ rs q k a) (g : Gb w w') : SgOut w rs q k a (.returned (.bool false)) w' := ⟨⟨false, rfl, fun e => (by cases e), fun e => absurd e h⟩, g⟩
set_option maxRecDepth 100000 in
set_option maxHeartbeats 2000000 in
theorem rsoundG_c {w : World} {v u vh vs vr : Value} {rs : List Rw} {q : List Int} {k : Nat} {a : Ans} (hv : RdW w v rs) (hu : RdI w u q) (ha : RdA w vh vs vr a) (hask : askE rs q = 0) (hk : k ≤ 64) (hin : InA a) :
    Calls Tryz.prog 23 #[v, u, .int .i64 (k : Int), .agg #[vh, vs, vr]] w fun e w' => SgOut w rs q k a e w' := by
  have V : Hid (RdW w v rs) := hv
  have U : Hid (RdI w u q) := hu
  have A : Hid (RdA w vh vs vr a) := ha
  have AK : Hid (askE rs q = 0) := hask
  have HI : Hid (InA a) := hin
  obtain ⟨srs, hsrs⟩ : ∃ srs, srs = a.seen.map (fnd rs) := ⟨_, rfl⟩
  have SR : Hid (srs = a.seen.map (fnd rs)) := hsrs
  have FEW : Hid (rs.length ≤ 512 ∧ (allIds a).length ≤ 100000) := ⟨(askE_zero.1 hask).2.few, hin.ids⟩
  obtain ⟨av, cv, rfl, _⟩ := hv
  obtain ⟨au, cu, rfl, _⟩ := hu
  obtain ⟨ah, ch, evh, _⟩ := ha.hits.form
  obtain ⟨sa, cs, evs, aS⟩ := ha.seen
  obtain ⟨ar, cr, evr, aR⟩ := ha.rest
  have ASN : Hid (∀ i, i < a.seen.length → ∃ b o, sa = some ⟨b, o, none⟩ ∧ w.cell? ⟨b, o + i, none⟩ = some (.int .i64 a.seen[i]!)) := aS
  subst evh; subst evs; subst evr
  clear aS aR ha hask hsrs
  obtain ⟨n, hn⟩ : ∃ n, n = rs.length := ⟨_, rfl⟩
  obtain ⟨m, hm⟩ : ∃ m, m = q.length := ⟨_, rfl⟩
  obtain ⟨nh, hnh⟩ : ∃ nh, nh = a.hits.length := ⟨_, rfl⟩
  obtain ⟨ns, hns⟩ : ∃ ns, ns = a.seen.length := ⟨_, rfl⟩
  obtain ⟨nr, hnr⟩ : ∃ nr, nr = a.rest.length := ⟨_, rfl⟩
  have NN : Hid (n = rs.length ∧ m = q.length ∧ nh = a.hits.length ∧ ns = a.seen.length ∧ nr = a.rest.length) := ⟨hn, hm, hnh, hns, hnr⟩
  rw [← hn] at V ⊢
  rw [← hm] at U ⊢
  rw [← hnh, ← hns, ← hnr] at A ⊢
  have hnsb : ns ≤ 100000 := by
    have h1 := FEW.out.2
    unfold allIds at h1
    rw [List.length_append] at h1
    omega
  have hnrb : nr ≤ 100000 := by have := hin.rest; omega
  clear hn hm hnh hns hnr hin
  obtain ⟨W1, hW1⟩ : ∃ W1, W1 = w.alloc (.cells #[.slice ah nh ch, .slice sa ns cs, .slice ar nr cr] 27) := ⟨_, rfl⟩
  have G0 : Hid (Gb w W1) := by unfold Hid; rw [hW1]; exact gb_alloc (Below.refl _ _) _
  have SZ : Hid (W1.heap.size = w.heap.size + 1) := by unfold Hid; rw [hW1, World.size_alloc]
  have BX : Hid (W1.cell? ⟨w.heap.size, 0, none⟩ = some (.slice ah nh ch) ∧ W1.cell? ⟨w.heap.size, 1, none⟩ = some (.slice sa ns cs) ∧ W1.cell? ⟨w.heap.size, 2, none⟩ = some (.slice ar nr cr)) := by
    unfold Hid; rw [hW1]; exact ⟨by simp [go_sem], by simp [go_sem], by simp [go_sem]⟩
  obtain ⟨i0, hi0, hz0, hz1, hz2⟩ := info_partsW
  have II : Hid (Tryz.prog.info? 46 = some i0 ∧ i0.zero = some (.agg #[.int .i64 0, .slice none 0 0]) ∧ i0.size = 2 ∧ i0.bytes = 32) := ⟨hi0, hz0, hz1, hz2⟩
  clear hi0 hz0 hz1 hz2
  go_enter Tryz.func23, Tryz.ntmps23
  go_wp2_with fail
  rw [← hW1]
  clear hW1
  go_loopw [9, 10, 11] (fun lv sv iv W => ∃ p : Nat, iv = .int .i64 (p : Int) ∧ p ≤ ns ∧ Hid (Gb W1 W ∧ Own W W1.heap.size lv (srt (a.seen.take p)) ∧ OwnW w W W1.heap.size sv (srs.take p) ∧ FndTo rs a.seen p)) (fun _ _ iv _ => ns - (intOf iv).toNat)
  case atStart => exact ⟨0, rfl, Nat.zero_le _, Below.refl _ _, by simp [srt]; exact own_nil _ _, by rw [List.take_zero]; exact ownW_nil _ _ _, fun i hi' => absurd hi' (Nat.not_lt_zero _), fun i hi' => absurd hi' (Nat.not_lt_zero _)⟩
  case round =>
    obtain ⟨p, rfl, hp, X⟩ := hrel
    obtain ⟨x0, x1, x2⟩ := BX.out
    have x1 := gb_keeps X.out.1 x1
    clear x0 x2
    by_cases hpn : p < ns
    · have hpi : (p : Int) < (ns : Int) := by omega
      have hpl : p < a.seen.length := by have := NN.out; omega
      have GX : Hid (Gb w wr) := gb_trans G0.out X.out.1
      obtain ⟨b, o, eas, hc⟩ := ASN.out p hpl
      subst eas
      have hc := gb_keeps GX.out hc
      have cf := rfind_c (V.out.gb GX.out) (by have := FEW.out; omega) a.seen[p]!
      obtain ⟨x, hx⟩ : ∃ x, x = a.seen[p]! := ⟨_, rfl⟩
      have HX : Hid (x = a.seen[p]! ∧ p < a.seen.length) := ⟨hx, hpl⟩
      rw [← hx] at hc cf
      clear hx hpl
      go_wp2_with fail
      refine cf.mono ?_
      rintro e w3 ⟨⟨z, rfl, hz⟩, e3⟩
      subst e3
      clear cf
      obtain ⟨hx, hpl⟩ := HX.out
      rw [hx] at hz
      rcases hz with ⟨hzm, hznf⟩ | ⟨i, hzi, hil, hix⟩
      · subst hzm
        have NF : Hid (¬ SoundQ rs q k a) := not_found hpl (fun hm => by
          obtain ⟨r, hr, e⟩ := List.mem_map.1 hm
          obtain ⟨j, hj, e2⟩ := List.mem_iff_getElem.1 hr
          exact hznf j hj (by rw [getElem!_pos rs j hj, e2]; exact e))
        have hi0 : decide ((-1 : Int) < 0) = true := rfl
        clear hznf hx hpl X
        go_wp2_with fail
        go_quiet (fail)
        have GV : Hid (Gb w (wr.drewN nq)) := gb_trans GX.out (below_drewN (Below.refl _ _) nq)
        go_wp2
        go_ret
        exact SgOut.no NF.out GV.out
      subst hzi
      have hir : rs[i]! ∈ rs := by rw [getElem!_pos rs i hil]; exact List.getElem_mem hil
      have hps : p < srs.length := by rw [SR.out, List.length_map]; exact hpl
      have hrow : rs[i]! = srs[p]! := by
        rw [getElem!_pos srs p hps]
        have e1 : srs[p] = fnd rs a.seen[p] := by simp only [SR.out, List.getElem_map]
        rw [e1, ← getElem!_pos a.seen p hpl, ← hix, fnd_at AK.out hir]
      have FD : Hid (a.seen[p]! ∈ idsOf rs) := by unfold Hid; rw [← hix]; exact List.mem_map.2 ⟨_, hir, rfl⟩
      obtain ⟨_, _, ev, hA⟩ := V.out
      obtain ⟨b', o', ur, ea, k1, k2, k3⟩ := hA i hil
      injection ev with ev1 ev2 ev3
      subst ev1
      subst ea
      clear hA ev2 ev3 hir
      have k1 := gb_keeps GX.out k1
      have k2 := gb_keeps GX.out k2
      rw [hrow] at k1 k3
      have hii : (i : Int) < (n : Int) := by have := NN.out; omega
      have hi0 : decide ((i : Int) < 0) = false := by rw [decide_eq_false_iff_not]; omega
      have hsx : srs[p]!.1 = a.seen[p]! := by rw [← hrow]; exact hix
      have NX : Hid (srt (a.seen.take (p + 1)) = insI a.seen[p]! (srt (a.seen.take p))) := by unfold Hid; rw [take_snoc hpl, srt_snocI]
      have NS : Hid (srs.take (p + 1) = srs.take p ++ [srs[p]!] ∧ (srs.take p).length = p) := ⟨by rw [List.take_succ_eq_append_getElem hps, getElem!_pos srs p hps], by rw [List.length_take]; omega⟩
      have HL : Hid ((srt (a.seen.take p)).length ≤ 200000 ∧ p ≤ 100000) := by
        have h1 := FEW.out.2
        unfold allIds at h1
        rw [List.length_append] at h1
        exact ⟨by rw [srt_len, List.length_take]; omega, by omega⟩
      rw [hsx, ← hx] at k1
      have K3 : Hid (RdI w ur srs[p]!.2) := k3
      have HY : Hid (srs[p]!.1 = x) := hsx.trans hx.symm
      obtain ⟨pu, cu', eu, _⟩ := k3
      subst eu
      generalize srs[p]!.2.length = nu at *
      clear hix hrow hsx hps hpl hil hx
      by_cases hp0 : p = 0
      · subst hp0
        rw [Nat.add_zero] at hc
        have FN : Hid (FndTo rs a.seen (0 + 1)) := ⟨fun j hj => by rw [show j = 0 by omega]; exact FD.out, fun j hj => by omega⟩
        go_wp2_with fail
        go_quiet (fail)
        have GV : Hid (Gb wr (wr.drewN nq)) := below_drewN (Below.refl _ _) nq
        generalize wr.drewN nq = V2 at GV ⊢
        have x1 := gb_keeps GV.out x1
        have hc := gb_keeps GV.out hc
        have cw := rwith_c (X.out.2.1.gb GV.out) HL.out.1 x
        have XW : Hid (OwnW w V2 W1.heap.size u10 (srs.take 0)) := X.out.2.2.1.gb GV.out
        have XG : Hid (Gb W1 V2) := gb_trans X.out.1 GV.out
        have k1 := gb_keeps GV.out k1
        have k2 := gb_keeps GV.out k2
        clear X GV
        go_wp2_with fail
        refine cw.mono ?_
        rintro e w4 ⟨v4, rfl, o4, g4⟩
        have O4 : Hid (Own w4 W1.heap.size v4 (srt (a.seen.take (0 + 1)))) := by unfold Hid; rw [NX.out, ← HX.out.1]; exact o4.mono XG.out.size
        have k1 := gb_keeps g4 k1
        have k2 := gb_keeps g4 k2
        obtain ⟨xs, hown, hcells⟩ := XW.out.gb g4
        rw [NS.out.2] at hown
        have CW : Hid (CellsW w xs (srs.take 0)) := hcells
        have OW4 : Hid (OwnW w w4 W1.heap.size u10 (srs.take 0)) := XW.out.gb g4
        have G4 : Hid (Gb W1 w4) := gb_trans XG.out g4
        clear cw o4 g4 XW XG hcells x1 hc
        go_wp2_with (first
          | (at_builtin; refine wpList_append_own_at _ rfl _ _ 22 rfl W1.heap.size 46 i0 (.agg #[.int .i64 0, .slice none 0 0]) 2 32 Tryz.underlying22 II.out.1 II.out.2.1 II.out.2.2.1 II.out.2.2.2 rfl (by decide) u10 0 xs rfl (hown.alloc _) ⟨w4.heap.size, 0, none⟩ 1 1 [.int .i64 x, .slice pu nu cu'] rfl rfl (two_cells _ _ _ _) (by simp [Value.oneCell']) (by have := HL.out; simp only [maxLen]; omega) (by have := HL.out; omega) (by rw [World.size_alloc]; have := G4.out.size; omega) ?_; intro v5 w5 hown5 hgrow5 hnil5 hloc5)
          | go_in)
        have XN : Hid (Gb W1 w5 ∧ Own w5 W1.heap.size v4 (srt (a.seen.take (0 + 1))) ∧ OwnW w w5 W1.heap.size v5 (srs.take (0 + 1)) ∧ FndTo rs a.seen (0 + 1)) := by
          refine ⟨append_new (rs := srs.take 0) G4.out (Nat.le_refl _) (by rw [NS.out.2]; exact hown) hgrow5, ?_, ?_, FN.out⟩
          · exact (O4.out.gb (gb_alloc (Below.refl _ _) _)).kept hgrow5 (own_neW O4.out OW4.out)
          · refine ⟨xs ++ [.int .i64 srs[0]!.1, .slice pu nu cu'], ?_, ?_⟩
            · rw [NS.out.1, List.length_append, NS.out.2, HY.out]; exact hown5
            · rw [NS.out.1]; exact CW.out.snoc (by have := hown.1; rw [NS.out.2]; exact this) K3.out
        clear hown hown5 hgrow5 hnil5 hloc5 k1 k2 CW O4 OW4 G4
        go_wp2
        go_roundw
        case rel => exact ⟨0 + 1, by simp, hpn, XN⟩
        case measure => simp [intOf]; omega
      · obtain ⟨j, hj⟩ : ∃ j, p = j + 1 := ⟨p - 1, by omega⟩
        have hj1 : (p : Int) - 1 = (j : Int) := by omega
        have hj2 : IntKind.i64.wrap (j : Int) = (j : Int) := wrapN (by have := HL.out.2; omega)
        have hj3 : decide (0 < p) = true := by rw [decide_eq_true_eq]; omega
        obtain ⟨_, _, e, hcj⟩ := ASN.out j (by have := HX.out.2; omega)
        cases e
        have hcj := gb_keeps GX.out hcj
        have hji : (j : Int) < (ns : Int) := by omega
        by_cases hlt : a.seen[j]! < x
        · have FN : Hid (FndTo rs a.seen (p + 1)) := ⟨fun t ht => by
            by_cases e : t = p
            · subst e; exact FD.out
            · exact X.out.2.2.2.1 t (by omega), fun t ht => by
            by_cases e : t = j
            · subst e
              rw [← hj, ← HX.out.1]; exact hlt
            · exact X.out.2.2.2.2 t (by omega)⟩
          have hlt : ¬ x ≤ a.seen[j]! := by omega
          generalize a.seen[j]! = y at *
          clear hj
          go_wp2_with fail
          go_quiet (fail)
          clear hcj
          have GV : Hid (Gb wr (wr.drewN nq)) := below_drewN (Below.refl _ _) nq
          generalize wr.drewN nq = V2 at GV ⊢
          have x1 := gb_keeps GV.out x1
          have hc := gb_keeps GV.out hc
          have cw := rwith_c (X.out.2.1.gb GV.out) HL.out.1 x
          have XW : Hid (OwnW w V2 W1.heap.size u10 (srs.take p)) := X.out.2.2.1.gb GV.out
          have XG : Hid (Gb W1 V2) := gb_trans X.out.1 GV.out
          have k1 := gb_keeps GV.out k1
          have k2 := gb_keeps GV.out k2
          clear X GV
          go_wp2_with fail
          refine cw.mono ?_
          rintro e w4 ⟨v4, rfl, o4, g4⟩
          have O4 : Hid (Own w4 W1.heap.size v4 (srt (a.seen.take (p + 1)))) := by unfold Hid; rw [NX.out, ← HX.out.1]; exact o4.mono XG.out.size
          have k1 := gb_keeps g4 k1
          have k2 := gb_keeps g4 k2
          obtain ⟨xs, hown, hcells⟩ := XW.out.gb g4
          rw [NS.out.2] at hown
          have CW : Hid (CellsW w xs (srs.take p)) := hcells
          have OW4 : Hid (OwnW w w4 W1.heap.size u10 (srs.take p)) := XW.out.gb g4
          have G4 : Hid (Gb W1 w4) := gb_trans XG.out g4
          clear cw o4 g4 XW XG hcells x1 hc
          go_wp2_with (first
            | (at_builtin; refine wpList_append_own_at _ rfl _ _ 22 rfl W1.heap.size 46 i0 (.agg #[.int .i64 0, .slice none 0 0]) 2 32 Tryz.underlying22 II.out.1 II.out.2.1 II.out.2.2.1 II.out.2.2.2 rfl (by decide) u10 p xs rfl (hown.alloc _) ⟨w4.heap.size, 0, none⟩ 1 1 [.int .i64 x, .slice pu nu cu'] rfl rfl (two_cells _ _ _ _) (by simp [Value.oneCell']) (by have := HL.out; simp only [maxLen]; omega) (by have := HL.out; omega) (by rw [World.size_alloc]; have := G4.out.size; omega) ?_; intro v5 w5 hown5 hgrow5 hnil5 hloc5)
            | go_in)
          have XN : Hid (Gb W1 w5 ∧ Own w5 W1.heap.size v4 (srt (a.seen.take (p + 1))) ∧ OwnW w w5 W1.heap.size v5 (srs.take (p + 1)) ∧ FndTo rs a.seen (p + 1)) := by
            refine ⟨append_new (rs := srs.take p) G4.out (Nat.le_refl _) (by rw [NS.out.2]; exact hown) hgrow5, ?_, ?_, FN.out⟩
            · exact (O4.out.gb (gb_alloc (Below.refl _ _) _)).kept hgrow5 (own_neW O4.out OW4.out)
            · refine ⟨xs ++ [.int .i64 srs[p]!.1, .slice pu nu cu'], ?_, ?_⟩
              · rw [NS.out.1, List.length_append, NS.out.2, HY.out]; exact hown5
              · rw [NS.out.1]; exact CW.out.snoc (by have := hown.1; rw [NS.out.2]; exact this) K3.out
          clear hown hown5 hgrow5 hnil5 hloc5 k1 k2 CW O4 OW4 G4
          clear hj1 hj2 hj3 hlt
          go_wp2
          go_roundw
          case rel => exact ⟨p + 1, by first | rfl | go_num | simp, hpn, XN⟩
          case measure => simp [intOf]; omega
        · have NF : Hid (¬ SoundQ rs q k a) := not_rise (p := j) (by have := HX.out.2; omega) (by rw [← hj, ← HX.out.1]; exact hlt)
          have hle : x ≤ a.seen[j]! := by omega
          generalize a.seen[j]! = y at *
          clear hj hlt X
          go_wp2_with fail
          go_quiet (fail)
          have GV : Hid (Gb w (wr.drewN nq)) := gb_trans GX.out (below_drewN (Below.refl _ _) nq)
          go_wp2
          go_ret
          exact SgOut.no NF.out GV.out
    · have hpi : ¬ (p : Int) < (ns : Int) := by omega
      have FA : Hid (FndTo rs a.seen a.seen.length) := by
        have h1 := X.out.2.2.2
        rw [show p = a.seen.length by have := NN.out; omega] at h1
        exact h1
      have AS : Hid (askE srs q = 0) := by unfold Hid; rw [SR.out]; exact fnd_ask AK.out FA.out
      have XE : Hid (Gb W1 wr ∧ Own wr W1.heap.size u9 (srt (a.seen ++ restTo a 0)) ∧ OwnW w wr W1.heap.size u10 srs ∧ ∀ j (hj : j < a.rest.length), j < 0 → regQ rs (q.length : Int) a.rest[j]) := by
        have h1 := X.out
        have hl : srs.length = a.seen.length := by rw [SR.out, List.length_map]
        rw [List.take_of_length_le (by have := NN.out; omega), List.take_of_length_le (by have := NN.out; omega)] at h1
        refine ⟨h1.1, ?_, h1.2.2.1, fun j _ h => absurd h (Nat.not_lt_zero _)⟩
        rw [show restTo a 0 = [] by simp [restTo], List.append_nil]
        exact h1.2.1
      clear X
      go_wp2
      clear x1
      go_loopw [9, 13] (fun lv iv W => ∃ t : Nat, iv = .int .i64 (t : Int) ∧ t ≤ nr ∧ Hid (Gb W1 W ∧ Own W W1.heap.size lv (srt (a.seen ++ restTo a t)) ∧ OwnW w W W1.heap.size u10 srs ∧ ∀ j (hj : j < a.rest.length), j < t → regQ rs (q.length : Int) a.rest[j])) (fun _ iv _ => nr - (intOf iv).toNat)
      case atStart => exact ⟨0, rfl, Nat.zero_le _, XE⟩
      case round =>
        clear XE
        obtain ⟨t, rfl, ht, X⟩ := hrel
        obtain ⟨x0, x1, x2⟩ := BX.out
        have x2 := gb_keeps X.out.1 x2
        clear x0 x1
        by_cases htn : t < nr
        · have hti : decide ((t : Int) < (nr : Int)) = true := by rw [decide_eq_true_eq]; omega
          have htt : (t : Int) < (nr : Int) := by omega
          have htl : t < a.rest.length := by have := NN.out; omega
          have GX : Hid (Gb w wr) := gb_trans G0.out X.out.1
          obtain ⟨_, _, ea, hA⟩ := A.out.rest
          obtain ⟨b1, o1, y1, y2, y3, e1, c0, c1, c2, c3, c4, c5, r1, r2, r3⟩ := hA t htl
          injection ea with ea1 ea2 ea3
          subst ea1; subst e1
          clear hA ea2 ea3
          have hmr := fun (row : Rw) (hr : row ∈ rs) => ((askE_zero.1 AK.out).2.row row hr).2
          have hIl : (a.rest[t]).I.length ≤ 100000 := HI.out.I _ (List.getElem_mem htl)
          have cr' := rregionG_c (r := a.rest[t]) (V.out.gb GX.out) ⟨y1, y2, y3, rfl, r1.gb GX.out, r2.gb GX.out, r3.gb GX.out⟩ (by have := FEW.out; omega) (by omega) (q.length : Int) (HI.out.R _ (List.getElem_mem htl)) hmr (fun x hx y hy e => row_one AK.out hx hy e)
          have NR : Hid (¬ regQ rs (q.length : Int) a.rest[t] → ¬ SoundQ rs q k a) := fun h => not_reg htl h
          have YR : Hid (regQ rs (q.length : Int) a.rest[t] → ∀ j (hj : j < a.rest.length), j < t + 1 → regQ rs (q.length : Int) a.rest[j]) := fun h j hj hjt => by
            by_cases e : j = t
            · subst e; exact h
            · exact X.out.2.2.2 j hj (by omega)
          rw [← NN.out.2.1] at cr'
          have MQ : Hid (regQ rs (m : Int) a.rest[t] ↔ regQ rs (q.length : Int) a.rest[t]) := by unfold Hid; rw [NN.out.2.1]
          have a0 := gb_keeps GX.out c0
          have a1 := gb_keeps GX.out c1
          have a2 := gb_keeps GX.out c2
          have a3 := gb_keeps GX.out c3
          have a4 := gb_keeps GX.out c4
          have a5 := gb_keeps GX.out c5
          have NX : Hid (restTo a (t + 1) = restTo a t ++ (a.rest[t]).I) := restTo_succ htl
          have RI : Hid (RdI w y3 (a.rest[t]).I) := r3
          obtain ⟨l, hl⟩ : ∃ l, l = (a.rest[t]).I := ⟨_, rfl⟩
          have RL : Hid (l.length ≤ 100000 ∧ (a.seen ++ restTo a t).length + l.length ≤ 100000) := by
            have h1 := restTo_le (a := a) (t + 1)
            rw [NX.out, ← hl, ← List.append_assoc, List.length_append] at h1
            have := FEW.out
            exact ⟨by rw [hl]; exact hIl, by omega⟩
          rw [← hl] at NX RI
          obtain ⟨u1, u2, e, z1⟩ := r1; subst e
          obtain ⟨u3, u4, e, z2⟩ := r2; subst e
          obtain ⟨u5, u6, e, hc3⟩ := r3; subst e
          rw [← hl] at a5 c5 RI
          dsimp only [rv] at cr'
          generalize hrg : regQ rs (m : Int) a.rest[t] = RQ at *
          have cr2 : Calls Tryz.prog 48 _ wr fun e w' => (∃ b : Bool, e = .returned (.bool b) ∧ (b = true ↔ RQ)) ∧ Gb wr w' := cr'.mono (fun e w' h => by rw [← hrg]; exact h)
          clear cr' hrg
          rw [← hl] at cr2
          generalize (a.rest[t]).L.length = d1 at *
          generalize (a.rest[t]).H.length = d2 at *
          generalize (a.rest[t]).S = d3 at *
          generalize hi (a.rest[t]).R = d4 at *
          generalize lo (a.rest[t]).R = d5 at *
          obtain ⟨nl, hnl⟩ : ∃ nl, nl = l.length := ⟨_, rfl⟩
          have NL : Hid (nl = l.length) := hnl
          rw [← hnl] at a5 c5 RI cr2
          have A5 : Hid (w.cell? ⟨b1, o1 + t * 6 + 5, none⟩ = some (.slice u5 nl u6)) := c5
          have hnlb : nl ≤ 100000 := by have := RL.out.1; omega
          clear z1 z2 hmr hIl hc3 c0 c1 c2 c3 c4 c5 hl hnl
          go_wp2_with fail
          refine cr2.mono ?_
          rintro e w4 ⟨⟨rb, rfl, hrb⟩, g4⟩
          cases rb with
          | false =>
            have NF : Hid (¬ SoundQ rs q k a ∧ Gb w w4) := ⟨NR.out (fun h => absurd (hrb.2 (MQ.out.2 h)) (by decide)), gb_trans GX.out g4⟩
            clear cr2 a0 a1 a2 a3 a4 a5 x2 g4 X hrb NR YR MQ
            go_wp2
            go_ret
            exact SgOut.no NF.out.1 NF.out.2
          | true =>
          have RA : Hid (∀ j (hj : j < a.rest.length), j < t + 1 → regQ rs (q.length : Int) a.rest[j]) := YR.out (MQ.out.1 (hrb.1 rfl))
          have X4 : Hid (Gb W1 w4 ∧ Own w4 W1.heap.size u9 (srt (a.seen ++ restTo a t ++ l.take 0)) ∧ OwnW w w4 W1.heap.size u10 srs) := ⟨gb_trans X.out.1 g4, by rw [List.take_zero, List.append_nil]; exact X.out.2.1.gb g4, X.out.2.2.1.gb g4⟩
          clear cr2 a0 a1 a2 a3 a4 a5 x2 g4 X hrb NR YR MQ
          go_wp2
          go_loopw [9, 14] (fun lv iv W => ∃ y : Nat, iv = .int .i64 (y : Int) ∧ y ≤ nl ∧ Hid (Gb W1 W ∧ Own W W1.heap.size lv (srt (a.seen ++ restTo a t ++ l.take y)) ∧ OwnW w W W1.heap.size u10 srs)) (fun _ iv _ => nl - (intOf iv).toNat)
          case atStart => exact ⟨0, rfl, Nat.zero_le _, X4⟩
          case round =>
            clear X4
            obtain ⟨y, rfl, hy, X⟩ := hrel
            obtain ⟨x0, x1, x2⟩ := BX.out
            have x2 := gb_keeps X.out.1 x2
            have GX : Hid (Gb w wr) := gb_trans G0.out X.out.1
            have a5 := gb_keeps GX.out A5.out
            clear x0 x1
            by_cases hyn : y < nl
            · have hyi : (y : Int) < (nl : Int) := by omega
              obtain ⟨_, _, e, hI⟩ := RI.out
              obtain ⟨b2, o2, e2, hc⟩ := hI y (by have := NL.out; omega)
              injection e with e3 e4 e5
              subst e3; subst e2
              clear hI e4 e5
              have hc := gb_keeps GX.out hc
              have NY : Hid (srt (a.seen ++ restTo a t ++ l.take (y + 1)) = insI l[y]! (srt (a.seen ++ restTo a t ++ l.take y))) := by
                unfold Hid; rw [take_snoc (by have := NL.out; omega), ← List.append_assoc, srt_snocI]
              have cw := rwith_c X.out.2.1 (by rw [srt_len, List.length_append, List.length_take]; have := RL.out.2; omega) l[y]!
              generalize l[y]! = x at *
              go_wp2_with fail
              refine cw.mono ?_
              rintro e w5 ⟨v5, rfl, o5, g5⟩
              have XN : Hid (Gb W1 w5 ∧ Own w5 W1.heap.size v5 (srt (a.seen ++ restTo a t ++ l.take (y + 1))) ∧ OwnW w w5 W1.heap.size u10 srs) := ⟨gb_trans X.out.1 g5, by rw [NY.out]; exact o5.mono X.out.1.size, X.out.2.2.gb g5⟩
              clear cw o5 g5 X NY hc a5 x2 GX
              go_wp2
              go_roundw
              case rel => exact ⟨y + 1, by first | rfl | go_num | simp, hyn, XN⟩
              case measure => simp [intOf]; omega
            · have hyi : ¬ (y : Int) < (nl : Int) := by omega
              have XN : Hid (Gb W1 wr ∧ Own wr W1.heap.size u9 (srt (a.seen ++ restTo a (t + 1))) ∧ OwnW w wr W1.heap.size u10 srs ∧ ∀ j (hj : j < a.rest.length), j < t + 1 → regQ rs (q.length : Int) a.rest[j]) := by
                have h1 := X.out
                rw [List.take_of_length_le (by have := NL.out; omega), List.append_assoc, ← NX.out] at h1
                exact ⟨h1.1, h1.2.1, h1.2.2, RA.out⟩
              clear X
              go_wp2
              go_roundw
              case rel => exact ⟨t + 1, by first | rfl | go_num | simp, htn, XN⟩
              case measure => simp [intOf]; omega
        · have hti : ¬ (t : Int) < (nr : Int) := by omega
          have XE : Hid (Gb W1 wr ∧ Own wr W1.heap.size u9 (srt (allIds a)) ∧ OwnW w wr W1.heap.size u10 srs) := by
            have h1 := X.out
            rw [show t = a.rest.length by have := NN.out; omega, restTo_all] at h1
            exact ⟨h1.1, h1.2.1, h1.2.2.1⟩
          have RA : Hid (∀ j (hj : j < a.rest.length), regQ rs (q.length : Int) a.rest[j]) := fun j hj => X.out.2.2.2 j hj (by have := NN.out; omega)
          have GX : Hid (Gb w wr) := gb_trans G0.out X.out.1
          have ch := rhits_c (XE.out.2.2.rdw GX.out) (U.out.gb GX.out) AS.out
          have HL : Hid ((Tk.srt (hitsOf q srs)).length ≤ 4000) := by
            unfold Hid
            rw [Tk.srt_len, hitsOf_len]
            have := (askE_zero.1 AS.out).2.few
            omega
          clear X
          go_wp2_with fail
          clear x2
          refine ch.mono ?_
          rintro e w5 ⟨vl, rfl, o5, g5, _⟩
          have G5 : Hid (Gb wr w5) := g5
          have cf := rfirst_c o5 HL.out k hk
          obtain ⟨xa, xc, exv⟩ : ∃ xa xc, vl = .slice xa (Tk.srt (hitsOf q srs)).length xc := own_fm o5 rfl
          subst exv
          clear ch o5 g5
          generalize (Tk.srt (hitsOf q srs)).length = nL at *
          go_wp2_with fail
          refine cf.mono ?_
          rintro e w6 ⟨v6, rfl, rd6, g6⟩
          obtain ⟨F, hF⟩ : ∃ F, F = Tk.firsts k (hitsOf q srs) := ⟨_, rfl⟩
          have HF : Hid (F = Tk.firsts k (hitsOf q (a.seen.map (fnd rs)))) := by unfold Hid; rw [hF, SR.out]
          have FLn : Hid (F.length ≤ 64) := by unfold Hid; rw [hF, Tk.firsts_len]; omega
          have RD : Hid (Tk.Rd w6 v6 F) := by unfold Hid; rw [hF]; exact rd6
          have G6 : Hid (Gb W1 w6) := gb_trans XE.out.1 (gb_trans G5.out g6)
          have O6 : Hid (Own w6 W1.heap.size u9 (srt (allIds a))) := XE.out.2.1.gb (gb_trans G5.out g6)
          obtain ⟨x6, c6, e6, hl6⟩ := RD.out.form
          subst e6
          have L6 : Hid (∀ i, i < F.length → ∃ b o, x6 = some ⟨b, o, none⟩ ∧ Tk.Lies w6 b o F) := hl6
          obtain ⟨nf, hnf⟩ : ∃ nf, nf = F.length := ⟨_, rfl⟩
          have NF0 : Hid (nf = F.length) := hnf
          rw [← hnf] at RD ⊢
          clear cf rd6 g6 G5 GX XE hl6 hF hnf
          obtain ⟨x0, x1, x2⟩ := BX.out
          have x0 := gb_keeps G6.out x0
          clear x1 x2
          have hnfb : nf ≤ 64 := by have := FLn.out; have := NF0.out; omega
          by_cases hlen : nf = nh
          · subst hlen
            have LE : Hid (F.length = a.hits.length) := by have := NF0.out; have := NN.out; unfold Hid; omega
            go_wp2
            clear x0
            go_loopw [16] (fun iv W => ∃ y : Nat, iv = .int .i64 (y : Int) ∧ y ≤ nf ∧ Hid (Gb w6 W ∧ F.take y = a.hits.take y)) (fun iv _ => nf - (intOf iv).toNat)
            case atStart => exact ⟨0, rfl, Nat.zero_le _, Below.refl _ _, by simp⟩
            case round =>
              obtain ⟨y, rfl, hy, X⟩ := hrel
              obtain ⟨x0, x1, x2⟩ := BX.out
              have G7 : Hid (Gb W1 wr) := gb_trans G6.out X.out.1
              have x0 := gb_keeps G7.out x0
              clear x1 x2
              by_cases hyn : y < nf
              · have hyi : (y : Int) < (nf : Int) := by omega
                obtain ⟨_, _, e1, hH⟩ := A.out.hits.form
                have hyl : y < a.hits.length := by have := NF0.out; have := LE.out; omega
                have hyf : y < F.length := by have := NF0.out; omega
                obtain ⟨b1, o1, ea, h1⟩ := hH y hyl
                injection e1 with e2 e3 e4
                subst e2; subst ea
                obtain ⟨b2, o2, eb, h2⟩ := L6.out y hyf
                subst eb
                obtain ⟨p0, p1, p2⟩ := (h1.gr (gb_trans G0.out G7.out)) y hyl
                obtain ⟨q0, q1, q2⟩ := (h2.gr X.out.1) y hyf
                obtain ⟨z1, hz1⟩ : ∃ z1, z1 = F[y]! := ⟨_, rfl⟩
                obtain ⟨z2, hz2⟩ : ∃ z2, z2 = a.hits[y]! := ⟨_, rfl⟩
                have ZZ : Hid (z1 = F[y]! ∧ z2 = a.hits[y]! ∧ y < F.length ∧ y < a.hits.length) := ⟨hz1, hz2, hyf, hyl⟩
                rw [← hz2] at p0 p1 p2
                rw [← hz1] at q0 q1 q2
                clear hz1 hz2 hyl hyf h1 h2 hH e3 e4
                have hne := fun W => Tk.hv_ne z1 z2 W
                by_cases hzz : z1 = z2
                · have XN : Hid (∀ W, Gb wr W → Gb w6 W ∧ F.take (y + 1) = a.hits.take (y + 1)) := fun W g => ⟨gb_trans X.out.1 g, by
                    obtain ⟨e1, e2, l1, l2⟩ := ZZ.out
                    rw [e1, e2, getElem!_pos F y l1, getElem!_pos a.hits y l2] at hzz
                    rw [List.take_succ_eq_append_getElem l1, List.take_succ_eq_append_getElem l2, X.out.2, hzz]⟩
                  rw [decide_eq_true hzz] at hne
                  clear hzz X
                  go_wp2
                  go_quiet (fail)
                  have XX : Hid _ := XN.out _ (below_drewN (Below.refl _ _) nq)
                  go_wp2
                  go_roundw
                  case rel => exact ⟨y + 1, by first | rfl | go_num | simp, hyn, XX.out⟩
                  case measure => simp [intOf]; omega
                · have NF : Hid (¬ SoundQ rs q k a) := not_hits AK.out (fun e => hzz (by
                    obtain ⟨e1, e2, l1, l2⟩ := ZZ.out
                    rw [e1, e2, e, ← HF.out]))
                  rw [decide_eq_false hzz] at hne
                  clear hzz X
                  go_wp2
                  go_quiet (fail)
                  have GV : Hid (Gb w (wr.drewN nq)) := gb_trans (gb_trans G0.out G7.out) (below_drewN (Below.refl _ _) nq)
                  go_wp2
                  go_ret
                  exact SgOut.no NF.out GV.out
              · have hyi : ¬ (y : Int) < (nf : Int) := by omega
                have HH : Hid (a.hits = Tk.firsts k (hitsOf q (a.seen.map (fnd rs)))) := by
                  have h1 := X.out.2
                  have := LE.out
                  have := NF0.out
                  rw [List.take_of_length_le (by omega), List.take_of_length_le (by omega)] at h1
                  unfold Hid
                  rw [← h1]; exact HF.out
                have ci := rIds_c (V.out.gb (gb_trans G0.out G7.out)) (by have := FEW.out; omega)
                have O7 : Hid (Own wr W1.heap.size u9 (srt (allIds a))) := O6.out.gb X.out.1
                clear X
                go_wp2_with fail
                refine ci.mono ?_
                rintro e w8 ⟨v8, rfl, o8, g8⟩
                obtain ⟨fb, hfb⟩ : ∃ fb, decide (srt (allIds a) = srt (idsOf rs)) = fb := ⟨_, rfl⟩
                have ct := rints_v (O7.out.gb g8).rd o8.rd (by rw [srt_len]; have := FEW.out; omega) fb hfb
                have FB : Hid (fb = true ↔ SoundQ rs q k a) := by unfold Hid; rw [← hfb]; exact sndG_iff AK.out HI.out.R FA.out RA.out HH.out
                have G8 : Hid (Gb w w8) := gb_trans G0.out (gb_trans G7.out g8)
                obtain ⟨p9, c9, e9, _⟩ := (O7.out.gb g8).rd
                subst e9
                obtain ⟨p10, c10, e10, _⟩ := o8.rd
                subst e10
                generalize (srt (allIds a)).length = n9 at *
                generalize (srt (idsOf rs)).length = n10 at *
                clear ci o8 g8 hfb
                go_wp2_with fail
                refine ct.mono ?_
                rintro e w9 ⟨rfl, g9⟩
                go_wp2
                go_ret
                exact ⟨⟨fb, rfl, FB.out⟩, gb_trans G8.out g9.gb⟩
          · have NF : Hid (¬ SoundQ rs q k a) := not_hits AK.out (fun e => hlen (by rw [NF0.out, NN.out.2.2.1, e, ← HF.out]))
            have hli : ((nf : Int) != (nh : Int)) = true := by rw [bne_iff_ne]; omega
            have GV : Hid (Gb w w6) := gb_trans G0.out G6.out
            clear hlen
            go_wp2
            go_ret
            exact SgOut.no NF.out GV.out
end Go.Proofs.YtdmdjmliggjbjaaGreat
