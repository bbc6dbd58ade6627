/- The reference's Sound: of an answer that is. -/
import Derived.Test.YtdmdjmliggjbjaaGreatCt29
import Derived.Test.YtdmdjmliggjbjaaGreatCt15
import Derived.Test.YtdmdjmliggjbjaaGreatCt30
import Derived.Test.YtdmdjmliggjbjaaGreatCt22
import Derived.BigQuiet
namespace Go.Proofs.YtdmdjmliggjbjaaGreat
open Go.RowKit Go.Sort Go.Maps

theorem wrapN {n : Nat} (h : n < 9223372036854775808) : IntKind.i64.wrap (n : Int) = (n : Int) := by
  unfold IntKind.wrap IntKind.signed IntKind.bits
  simp
  omega
/-- The ids of the first p regions. -/
def restTo (a : Ans) (p : Nat) : List Int := (a.rest.take p).flatMap (·.I)
theorem restTo_succ {a : Ans} {p : Nat} (h : p < a.rest.length) : restTo a (p + 1) = restTo a p ++ (a.rest[p]).I := by
  unfold restTo
  rw [List.take_succ_eq_append_getElem h, List.flatMap_append]
  simp
theorem restTo_le {a : Ans} (p : Nat) : (a.seen ++ restTo a p).length ≤ (allIds a).length := by
  have e : a.rest = a.rest.take p ++ a.rest.drop p := (List.take_append_drop p _).symm
  have h : (a.rest.flatMap (·.I)).length = (restTo a p).length + ((a.rest.drop p).flatMap (·.I)).length := by
    conv => lhs; rw [e]
    rw [List.flatMap_append, List.length_append]; rfl
  unfold allIds
  rw [List.length_append, List.length_append, h]
  omega
theorem restTo_all (a : Ans) : a.seen ++ restTo a a.rest.length = allIds a := by unfold restTo allIds; rw [List.take_length]
theorem ids_nd {rs : List Rw} {q : List Int} (h : askE rs q = 0) {i j : Nat} (hi' : i < rs.length) (hj : j < rs.length) (e : rs[i]!.1 = rs[j]!.1) : rs[i]! = rs[j]! := by
  have hp := (askE_zero.1 h).2.ids
  rw [List.pairwise_iff_getElem] at hp
  by_cases hij : i = j
  · rw [hij]
  · exfalso
    have hi2 : i < (idsOf rs).length := by simpa [idsOf] using hi'
    have hj2 : j < (idsOf rs).length := by simpa [idsOf] using hj
    rcases Nat.lt_or_gt_of_ne hij with hlt | hlt
    · exact hp i j hi2 hj2 hlt (by rw [ids_get hi', ids_get hj]; exact e)
    · exact hp j i hj2 hi2 hlt (by rw [ids_get hi', ids_get hj]; exact e.symm)
theorem SoundP.ask {rs srs : List Rw} {q : List Int} {k : Nat} {a : Ans} (h : SoundP rs q k a srs) (hask : askE rs q = 0) : askE srs q = 0 := by
  obtain ⟨h1, h2⟩ := askE_zero.1 hask
  have hl : a.seen.length ≤ rs.length := by
    have := h.all.length_eq
    unfold allIds at this
    rw [List.length_append] at this
    simp only [idsOf, List.length_map] at this
    omega
  have hsl : srs.length = a.seen.length := by rw [← h.ids]; simp [idsOf]
  refine askE_zero.2 ⟨h1, ⟨by have := h2.few; omega, ?_, fun r hr => h2.row r (h.mem r hr)⟩⟩
  rw [h.ids]
  have hp : (allIds a).Pairwise (· ≠ ·) := (List.Perm.pairwise_iff (fun e => Ne.symm e) h.all).2 h2.ids
  unfold allIds at hp
  exact (List.pairwise_append.1 hp).1
theorem snd_row {rs srs : List Rw} {q : List Int} {k : Nat} {a : Ans} (h : SoundP rs q k a srs) (hask : askE rs q = 0) {p i : Nat} (hp : p < a.seen.length) (hi' : i < rs.length) (e : rs[i]!.1 = a.seen[p]!) : p < srs.length ∧ rs[i]! = srs[p]! := by
  have hsl : srs.length = a.seen.length := by rw [← h.ids]; simp [idsOf]
  have hps : p < srs.length := by omega
  have hm := h.mem srs[p]! (by rw [getElem!_pos srs p hps]; exact List.getElem_mem hps)
  obtain ⟨j, hj, e2⟩ := List.mem_iff_getElem.1 hm
  have e3 : rs[j]! = srs[p]! := by rw [getElem!_pos rs j hj]; exact e2
  have e4 : a.seen[p]! = srs[p]!.1 := by
    rw [getElem!_pos a.seen p hp, ← ids_get hps]
    simp only [h.ids]
  exact ⟨hps, (ids_nd hask hi' hj (by rw [e, e4, e3])).trans e3⟩
theorem append_new {w W w1 : World} {v : Value} {rs : List Rw} {o : Obj} {B : Nat} {xs : List Value} (g : Gb w W) (hB : w.heap.size ≤ B) (h1 : W.ownsRow B 46 2 v rs.length xs) (hg : (W.alloc o).grownBy w1 v.ownBlock) : Gb w w1 := by
  refine below_grown (gb_alloc g o) hg (fun k e => ?_) (gb_alloc g o).size
  have := (h1.lt k e).1
  omega

theorem flat_len : ∀ l : List Reg, (∀ r ∈ l, r.I ≠ []) → l.length ≤ (l.flatMap (·.I)).length
  | [], _ => Nat.le_refl _
  | x :: r, h => by
    have h1 := flat_len r fun y hy => h y (List.mem_cons_of_mem _ hy)
    have h2 := List.length_pos_iff.2 (h x (List.mem_cons_self ..))
    rw [List.flatMap_cons, List.length_append, List.length_cons]
    omega
set_option maxRecDepth 100000 in
set_option maxHeartbeats 1000000 in
theorem rsound_c {w : World} {v u vh vs vr : Value} {rs srs : List Rw} {q : List Int} {k : Nat} {a : Ans} (hv : RdW w v rs) (hu : RdI w u q) (ha : RdA w vh vs vr a) (hask : askE rs q = 0) (hk : k ≤ 64) (h : SoundP rs q k a srs) :
    Calls Tryz.prog 23 #[v, u, .int .i64 (k : Int), .agg #[vh, vs, vr]] w fun e w' => e = .returned (.bool true) ∧ Gb w w' := by
  have V : Hid (RdW w v rs) := hv
  have U : Hid (RdI w u q) := hu
  have A : Hid (RdA w vh vs vr a) := ha
  have AK : Hid (askE rs q = 0) := hask
  have SP : Hid (SoundP rs q k a srs) := h
  have AS : Hid (askE srs q = 0) := h.ask hask
  have FEW : Hid (rs.length ≤ 512 ∧ (allIds a).length ≤ 512) := by
    have h1 := (askE_zero.1 hask).2.few
    refine ⟨h1, ?_⟩
    rw [h.all.length_eq]
    simpa [idsOf] using h1
  obtain ⟨av, cv, rfl, _⟩ := hv
  obtain ⟨au, cu, rfl, _⟩ := hu
  obtain ⟨ah, ch, evh, _⟩ := ha.hits.form
  obtain ⟨sa, cs, evs, aS⟩ := ha.seen
  obtain ⟨ar, cr, evr, aR⟩ := ha.rest
  have ASN : Hid (∀ i, i < a.seen.length → ∃ b o, sa = some ⟨b, o, none⟩ ∧ w.cell? ⟨b, o + i, none⟩ = some (.int .i64 a.seen[i]!)) := aS
  subst evh; subst evs; subst evr
  clear aS aR ha hask h
  obtain ⟨n, hn⟩ : ∃ n, n = rs.length := ⟨_, rfl⟩
  obtain ⟨m, hm⟩ : ∃ m, m = q.length := ⟨_, rfl⟩
  obtain ⟨nh, hnh⟩ : ∃ nh, nh = a.hits.length := ⟨_, rfl⟩
  obtain ⟨ns, hns⟩ : ∃ ns, ns = a.seen.length := ⟨_, rfl⟩
  obtain ⟨nr, hnr⟩ : ∃ nr, nr = a.rest.length := ⟨_, rfl⟩
  have NN : Hid (n = rs.length ∧ m = q.length ∧ nh = a.hits.length ∧ ns = a.seen.length ∧ nr = a.rest.length) := ⟨hn, hm, hnh, hns, hnr⟩
  rw [← hn] at V ⊢
  rw [← hm] at U ⊢
  rw [← hnh, ← hns, ← hnr] at A ⊢
  have hnsb : ns ≤ 512 := by
    have h1 := FEW.out.2
    unfold allIds at h1
    rw [List.length_append] at h1
    omega
  have hnrb : nr ≤ 512 := by
    have h1 := FEW.out.2
    have h2 := flat_len a.rest fun r hr => (SP.out.reg r hr).2.1
    unfold allIds at h1
    rw [List.length_append] at h1
    omega
  clear hn hm hnh hns hnr
  obtain ⟨W1, hW1⟩ : ∃ W1, W1 = w.alloc (.cells #[.slice ah nh ch, .slice sa ns cs, .slice ar nr cr] 27) := ⟨_, rfl⟩
  have G0 : Hid (Gb w W1) := by unfold Hid; rw [hW1]; exact gb_alloc (Below.refl _ _) _
  have SZ : Hid (W1.heap.size = w.heap.size + 1) := by unfold Hid; rw [hW1, World.size_alloc]
  have BX : Hid (W1.cell? ⟨w.heap.size, 0, none⟩ = some (.slice ah nh ch) ∧ W1.cell? ⟨w.heap.size, 1, none⟩ = some (.slice sa ns cs) ∧ W1.cell? ⟨w.heap.size, 2, none⟩ = some (.slice ar nr cr)) := by
    unfold Hid; rw [hW1]; exact ⟨by simp [go_sem], by simp [go_sem], by simp [go_sem]⟩
  obtain ⟨i0, hi0, hz0, hz1, hz2⟩ := info_partsW
  have II : Hid (Tryz.prog.info? 46 = some i0 ∧ i0.zero = some (.agg #[.int .i64 0, .slice none 0 0]) ∧ i0.size = 2 ∧ i0.bytes = 32) := ⟨hi0, hz0, hz1, hz2⟩
  clear hi0 hz0 hz1 hz2
  go_enter Tryz.func23, Tryz.ntmps23
  go_wp2_with fail
  rw [← hW1]
  clear hW1
  go_loopw [9, 10, 11] (fun lv sv iv W => ∃ p : Nat, iv = .int .i64 (p : Int) ∧ p ≤ ns ∧ Hid (Gb W1 W ∧ Own W W1.heap.size lv (srt (a.seen.take p)) ∧ OwnW w W W1.heap.size sv (srs.take p))) (fun _ _ iv _ => ns - (intOf iv).toNat)
  case atStart => exact ⟨0, rfl, Nat.zero_le _, Below.refl _ _, by simp [srt]; exact own_nil _ _, by rw [List.take_zero]; exact ownW_nil _ _ _⟩
  case round =>
    obtain ⟨p, rfl, hp, X⟩ := hrel
    obtain ⟨x0, x1, x2⟩ := BX.out
    have x1 := gb_keeps X.out.1 x1
    clear x0 x2
    by_cases hpn : p < ns
    · have hpi : (p : Int) < (ns : Int) := by omega
      have hpl : p < a.seen.length := by have := NN.out; omega
      have GX : Hid (Gb w wr) := gb_trans G0.out X.out.1
      obtain ⟨b, o, eas, hc⟩ := ASN.out p hpl
      subst eas
      have hc := gb_keeps GX.out hc
      have cf := rfind_c (V.out.gb GX.out) (by have := FEW.out; omega) a.seen[p]!
      obtain ⟨x, hx⟩ : ∃ x, x = a.seen[p]! := ⟨_, rfl⟩
      have HX : Hid (x = a.seen[p]! ∧ p < a.seen.length) := ⟨hx, hpl⟩
      rw [← hx] at hc cf
      clear hx hpl
      go_wp2_with fail
      refine cf.mono ?_
      rintro e w3 ⟨⟨z, rfl, hz⟩, e3⟩
      subst e3
      clear cf
      obtain ⟨hx, hpl⟩ := HX.out
      rw [hx] at hz
      obtain ⟨i, hzi, hil, hix⟩ : ∃ i : Nat, z = (i : Int) ∧ i < rs.length ∧ rs[i]!.1 = a.seen[p]! := by
        rcases hz with ⟨_, h⟩ | h
        · exfalso
          have hps : p < srs.length := by rw [← SP.out.ids] at hpl; simpa [idsOf] using hpl
          have hm := SP.out.mem srs[p]! (by rw [getElem!_pos srs p hps]; exact List.getElem_mem hps)
          obtain ⟨j, hj, e2⟩ := List.mem_iff_getElem.1 hm
          refine h j hj ?_
          rw [getElem!_pos rs j hj, e2, getElem!_pos a.seen p hpl, ← ids_get hps]
          simp only [SP.out.ids]
        · exact h
      subst hzi
      clear hz
      obtain ⟨hps, hrow⟩ := snd_row SP.out AK.out hpl hil hix
      obtain ⟨_, _, ev, hA⟩ := V.out
      obtain ⟨b', o', ur, ea, k1, k2, k3⟩ := hA i hil
      injection ev with ev1 ev2 ev3
      subst ev1
      subst ea
      clear hA ev2 ev3
      have k1 := gb_keeps GX.out k1
      have k2 := gb_keeps GX.out k2
      rw [hrow] at k1 k3
      have hii : (i : Int) < (n : Int) := by have := NN.out; omega
      have hi0 : decide ((i : Int) < 0) = false := by rw [decide_eq_false_iff_not]; omega
      have hsx : srs[p]!.1 = a.seen[p]! := by rw [← hrow]; exact hix
      have NX : Hid (srt (a.seen.take (p + 1)) = insI a.seen[p]! (srt (a.seen.take p))) := by unfold Hid; rw [take_snoc hpl, srt_snocI]
      have NS : Hid (srs.take (p + 1) = srs.take p ++ [srs[p]!] ∧ (srs.take p).length = p) := ⟨by rw [List.take_succ_eq_append_getElem hps, getElem!_pos srs p hps], by rw [List.length_take]; omega⟩
      have HL : Hid ((srt (a.seen.take p)).length ≤ 200000 ∧ p ≤ 512) := by
        have h1 := FEW.out.2
        unfold allIds at h1
        rw [List.length_append] at h1
        exact ⟨by rw [srt_len, List.length_take]; omega, by omega⟩
      rw [hsx, ← hx] at k1
      have K3 : Hid (RdI w ur srs[p]!.2) := k3
      have HY : Hid (srs[p]!.1 = x) := hsx.trans hx.symm
      obtain ⟨pu, cu', eu, _⟩ := k3
      subst eu
      generalize srs[p]!.2.length = nu at *
      clear hix hrow hsx hps hpl hil hx
      by_cases hp0 : p = 0
      · subst hp0
        rw [Nat.add_zero] at hc
        go_wp2_with fail
        go_quiet (fail)
        have GV : Hid (Gb wr (wr.drewN nq)) := below_drewN (Below.refl _ _) nq
        generalize wr.drewN nq = V2 at GV ⊢
        have x1 := gb_keeps GV.out x1
        have hc := gb_keeps GV.out hc
        have cw := rwith_c (X.out.2.1.gb GV.out) HL.out.1 x
        have XW : Hid (OwnW w V2 W1.heap.size u10 (srs.take 0)) := X.out.2.2.gb GV.out
        have XG : Hid (Gb W1 V2) := gb_trans X.out.1 GV.out
        have k1 := gb_keeps GV.out k1
        have k2 := gb_keeps GV.out k2
        clear X GV
        go_wp2_with fail
        refine cw.mono ?_
        rintro e w4 ⟨v4, rfl, o4, g4⟩
        have O4 : Hid (Own w4 W1.heap.size v4 (srt (a.seen.take (0 + 1)))) := by unfold Hid; rw [NX.out, ← HX.out.1]; exact o4.mono XG.out.size
        have k1 := gb_keeps g4 k1
        have k2 := gb_keeps g4 k2
        obtain ⟨xs, hown, hcells⟩ := XW.out.gb g4
        rw [NS.out.2] at hown
        have CW : Hid (CellsW w xs (srs.take 0)) := hcells
        have OW4 : Hid (OwnW w w4 W1.heap.size u10 (srs.take 0)) := XW.out.gb g4
        have G4 : Hid (Gb W1 w4) := gb_trans XG.out g4
        clear cw o4 g4 XW XG hcells x1 hc
        go_wp2_with (first
          | (at_builtin; refine wpList_append_own_at _ rfl _ _ 22 rfl W1.heap.size 46 i0 (.agg #[.int .i64 0, .slice none 0 0]) 2 32 Tryz.underlying22 II.out.1 II.out.2.1 II.out.2.2.1 II.out.2.2.2 rfl (by decide) u10 0 xs rfl (hown.alloc _) ⟨w4.heap.size, 0, none⟩ 1 1 [.int .i64 x, .slice pu nu cu'] rfl rfl (two_cells _ _ _ _) (by simp [Value.oneCell']) (by have := HL.out; simp only [maxLen]; omega) (by have := HL.out; omega) (by rw [World.size_alloc]; have := G4.out.size; omega) ?_; intro v5 w5 hown5 hgrow5 hnil5 hloc5)
          | go_in)
        have XN : Hid (Gb W1 w5 ∧ Own w5 W1.heap.size v4 (srt (a.seen.take (0 + 1))) ∧ OwnW w w5 W1.heap.size v5 (srs.take (0 + 1))) := by
          refine ⟨append_new (rs := srs.take 0) G4.out (Nat.le_refl _) (by rw [NS.out.2]; exact hown) hgrow5, ?_, ?_⟩
          · exact (O4.out.gb (gb_alloc (Below.refl _ _) _)).kept hgrow5 (own_neW O4.out OW4.out)
          · refine ⟨xs ++ [.int .i64 srs[0]!.1, .slice pu nu cu'], ?_, ?_⟩
            · rw [NS.out.1, List.length_append, NS.out.2, HY.out]; exact hown5
            · rw [NS.out.1]; exact CW.out.snoc (by have := hown.1; rw [NS.out.2]; exact this) K3.out
        clear hown hown5 hgrow5 hnil5 hloc5 k1 k2 CW O4 OW4 G4
        go_wp2
        go_roundw
        case rel => exact ⟨0 + 1, by simp, hpn, XN⟩
        case measure => simp [intOf]; omega
      · obtain ⟨j, hj⟩ : ∃ j, p = j + 1 := ⟨p - 1, by omega⟩
        have hj1 : (p : Int) - 1 = (j : Int) := by omega
        have hj2 : IntKind.i64.wrap (j : Int) = (j : Int) := wrapN (by have := HL.out.2; omega)
        have hj3 : decide (0 < p) = true := by rw [decide_eq_true_eq]; omega
        obtain ⟨_, _, e, hcj⟩ := ASN.out j (by have := HX.out.2; omega)
        cases e
        have hcj := gb_keeps GX.out hcj
        have hlt : ¬ x ≤ a.seen[j]! := by
          have := SP.out.rise j (by have := HX.out.2; omega)
          rw [HX.out.1, hj]; omega
        have hji : (j : Int) < (ns : Int) := by omega
        generalize a.seen[j]! = y at *
        clear hj
        go_wp2_with fail
        go_quiet (fail)
        clear hcj
        have GV : Hid (Gb wr (wr.drewN nq)) := below_drewN (Below.refl _ _) nq
        generalize wr.drewN nq = V2 at GV ⊢
        have x1 := gb_keeps GV.out x1
        have hc := gb_keeps GV.out hc
        have cw := rwith_c (X.out.2.1.gb GV.out) HL.out.1 x
        have XW : Hid (OwnW w V2 W1.heap.size u10 (srs.take p)) := X.out.2.2.gb GV.out
        have XG : Hid (Gb W1 V2) := gb_trans X.out.1 GV.out
        have k1 := gb_keeps GV.out k1
        have k2 := gb_keeps GV.out k2
        clear X GV
        go_wp2_with fail
        refine cw.mono ?_
        rintro e w4 ⟨v4, rfl, o4, g4⟩
        have O4 : Hid (Own w4 W1.heap.size v4 (srt (a.seen.take (p + 1)))) := by unfold Hid; rw [NX.out, ← HX.out.1]; exact o4.mono XG.out.size
        have k1 := gb_keeps g4 k1
        have k2 := gb_keeps g4 k2
        obtain ⟨xs, hown, hcells⟩ := XW.out.gb g4
        rw [NS.out.2] at hown
        have CW : Hid (CellsW w xs (srs.take p)) := hcells
        have OW4 : Hid (OwnW w w4 W1.heap.size u10 (srs.take p)) := XW.out.gb g4
        have G4 : Hid (Gb W1 w4) := gb_trans XG.out g4
        clear cw o4 g4 XW XG hcells x1 hc
        go_wp2_with (first
          | (at_builtin; refine wpList_append_own_at _ rfl _ _ 22 rfl W1.heap.size 46 i0 (.agg #[.int .i64 0, .slice none 0 0]) 2 32 Tryz.underlying22 II.out.1 II.out.2.1 II.out.2.2.1 II.out.2.2.2 rfl (by decide) u10 p xs rfl (hown.alloc _) ⟨w4.heap.size, 0, none⟩ 1 1 [.int .i64 x, .slice pu nu cu'] rfl rfl (two_cells _ _ _ _) (by simp [Value.oneCell']) (by have := HL.out; simp only [maxLen]; omega) (by have := HL.out; omega) (by rw [World.size_alloc]; have := G4.out.size; omega) ?_; intro v5 w5 hown5 hgrow5 hnil5 hloc5)
          | go_in)
        have XN : Hid (Gb W1 w5 ∧ Own w5 W1.heap.size v4 (srt (a.seen.take (p + 1))) ∧ OwnW w w5 W1.heap.size v5 (srs.take (p + 1))) := by
          refine ⟨append_new (rs := srs.take p) G4.out (Nat.le_refl _) (by rw [NS.out.2]; exact hown) hgrow5, ?_, ?_⟩
          · exact (O4.out.gb (gb_alloc (Below.refl _ _) _)).kept hgrow5 (own_neW O4.out OW4.out)
          · refine ⟨xs ++ [.int .i64 srs[p]!.1, .slice pu nu cu'], ?_, ?_⟩
            · rw [NS.out.1, List.length_append, NS.out.2, HY.out]; exact hown5
            · rw [NS.out.1]; exact CW.out.snoc (by have := hown.1; rw [NS.out.2]; exact this) K3.out
        clear hown hown5 hgrow5 hnil5 hloc5 k1 k2 CW O4 OW4 G4
        clear hj1 hj2 hj3 hlt
        go_wp2
        go_roundw
        case rel => exact ⟨p + 1, by first | rfl | go_num | simp, hpn, XN⟩
        case measure => simp [intOf]; omega
    · have hpi : ¬ (p : Int) < (ns : Int) := by omega
      have XE : Hid (Gb W1 wr ∧ Own wr W1.heap.size u9 (srt (a.seen ++ restTo a 0)) ∧ OwnW w wr W1.heap.size u10 srs) := by
        have h1 := X.out
        have hl : srs.length = a.seen.length := by rw [← SP.out.ids]; simp [idsOf]
        rw [List.take_of_length_le (by have := NN.out; omega), List.take_of_length_le (by have := NN.out; omega)] at h1
        refine ⟨h1.1, ?_, h1.2.2⟩
        rw [show restTo a 0 = [] by simp [restTo], List.append_nil]
        exact h1.2.1
      clear X
      go_wp2
      clear x1
      go_loopw [9, 13] (fun lv iv W => ∃ t : Nat, iv = .int .i64 (t : Int) ∧ t ≤ nr ∧ Hid (Gb W1 W ∧ Own W W1.heap.size lv (srt (a.seen ++ restTo a t)) ∧ OwnW w W W1.heap.size u10 srs)) (fun _ iv _ => nr - (intOf iv).toNat)
      case atStart => exact ⟨0, rfl, Nat.zero_le _, XE⟩
      case round =>
        clear XE
        obtain ⟨t, rfl, ht, X⟩ := hrel
        obtain ⟨x0, x1, x2⟩ := BX.out
        have x2 := gb_keeps X.out.1 x2
        clear x0 x1
        by_cases htn : t < nr
        · have hti : decide ((t : Int) < (nr : Int)) = true := by rw [decide_eq_true_eq]; omega
          have htt : (t : Int) < (nr : Int) := by omega
          have htl : t < a.rest.length := by have := NN.out; omega
          have GX : Hid (Gb w wr) := gb_trans G0.out X.out.1
          obtain ⟨_, _, ea, hA⟩ := A.out.rest
          obtain ⟨b1, o1, y1, y2, y3, e1, c0, c1, c2, c3, c4, c5, r1, r2, r3⟩ := hA t htl
          injection ea with ea1 ea2 ea3
          subst ea1; subst e1
          clear hA ea2 ea3
          have hrg := SP.out.reg _ (List.getElem_mem htl)
          have hmr := fun (row : Rw) (hr : row ∈ rs) => ((askE_zero.1 AK.out).2.row row hr).2
          have hIl : (a.rest[t]).I.length ≤ 512 := by
            have h1 := restTo_le (a := a) (t + 1)
            rw [restTo_succ htl, List.length_append, List.length_append] at h1
            have := FEW.out
            omega
          have cr' := rregion_c (r := a.rest[t]) (V.out.gb GX.out) ⟨y1, y2, y3, rfl, r1.gb GX.out, r2.gb GX.out, r3.gb GX.out⟩ (by have := FEW.out; omega) (by omega) (q.length : Int) hrg.1 hrg.2.1 hrg.2.2.1 hmr
            (fun x hx => by obtain ⟨row, h1, h2, _⟩ := hrg.2.2.2 x hx; exact ⟨row, h1, h2⟩)
            (fun row hr hx => by
              obtain ⟨row', h1, h2, h3⟩ := hrg.2.2.2 _ hx
              obtain ⟨i, hi', e⟩ := List.mem_iff_getElem.1 hr
              obtain ⟨j, hj, e'⟩ := List.mem_iff_getElem.1 h1
              have := ids_nd AK.out hi' hj (by rw [getElem!_pos rs i hi', getElem!_pos rs j hj, e, e']; exact h2.symm)
              rw [getElem!_pos rs i hi', getElem!_pos rs j hj, e, e'] at this
              rw [this]; exact h3)
          rw [← NN.out.2.1] at cr'
          have a0 := gb_keeps GX.out c0
          have a1 := gb_keeps GX.out c1
          have a2 := gb_keeps GX.out c2
          have a3 := gb_keeps GX.out c3
          have a4 := gb_keeps GX.out c4
          have a5 := gb_keeps GX.out c5
          have NX : Hid (restTo a (t + 1) = restTo a t ++ (a.rest[t]).I) := restTo_succ htl
          have RI : Hid (RdI w y3 (a.rest[t]).I) := r3
          obtain ⟨l, hl⟩ : ∃ l, l = (a.rest[t]).I := ⟨_, rfl⟩
          have RL : Hid (l.length ≤ 512 ∧ (a.seen ++ restTo a t).length + l.length ≤ 512) := by
            have h1 := restTo_le (a := a) (t + 1)
            rw [NX.out, ← hl, ← List.append_assoc, List.length_append] at h1
            have := FEW.out
            exact ⟨by rw [hl]; exact hIl, by omega⟩
          rw [← hl] at NX RI
          obtain ⟨u1, u2, e, z1⟩ := r1; subst e
          obtain ⟨u3, u4, e, z2⟩ := r2; subst e
          obtain ⟨u5, u6, e, hc3⟩ := r3; subst e
          rw [← hl] at a5 c5 RI
          dsimp only [rv] at cr'
          rw [← hl] at cr'
          generalize (a.rest[t]).L.length = d1 at *
          generalize (a.rest[t]).H.length = d2 at *
          generalize (a.rest[t]).S = d3 at *
          generalize hi (a.rest[t]).R = d4 at *
          generalize lo (a.rest[t]).R = d5 at *
          obtain ⟨nl, hnl⟩ : ∃ nl, nl = l.length := ⟨_, rfl⟩
          have NL : Hid (nl = l.length) := hnl
          rw [← hnl] at a5 c5 RI cr'
          have A5 : Hid (w.cell? ⟨b1, o1 + t * 6 + 5, none⟩ = some (.slice u5 nl u6)) := c5
          have hnlb : nl ≤ 512 := by have := RL.out.1; omega
          clear z1 z2 hrg hmr hIl hc3 c0 c1 c2 c3 c4 c5 hl hnl htl
          go_wp2_with fail
          refine cr'.mono ?_
          rintro e w4 ⟨rfl, g4⟩
          have X4 : Hid (Gb W1 w4 ∧ Own w4 W1.heap.size u9 (srt (a.seen ++ restTo a t ++ l.take 0)) ∧ OwnW w w4 W1.heap.size u10 srs) := ⟨gb_trans X.out.1 g4, by rw [List.take_zero, List.append_nil]; exact X.out.2.1.gb g4, X.out.2.2.gb g4⟩
          clear cr' a0 a1 a2 a3 a4 a5 x2 g4 X
          go_wp2
          go_loopw [9, 14] (fun lv iv W => ∃ y : Nat, iv = .int .i64 (y : Int) ∧ y ≤ nl ∧ Hid (Gb W1 W ∧ Own W W1.heap.size lv (srt (a.seen ++ restTo a t ++ l.take y)) ∧ OwnW w W W1.heap.size u10 srs)) (fun _ iv _ => nl - (intOf iv).toNat)
          case atStart => exact ⟨0, rfl, Nat.zero_le _, X4⟩
          case round =>
            clear X4
            obtain ⟨y, rfl, hy, X⟩ := hrel
            obtain ⟨x0, x1, x2⟩ := BX.out
            have x2 := gb_keeps X.out.1 x2
            have GX : Hid (Gb w wr) := gb_trans G0.out X.out.1
            have a5 := gb_keeps GX.out A5.out
            clear x0 x1
            by_cases hyn : y < nl
            · have hyi : (y : Int) < (nl : Int) := by omega
              obtain ⟨_, _, e, hI⟩ := RI.out
              obtain ⟨b2, o2, e2, hc⟩ := hI y (by have := NL.out; omega)
              injection e with e3 e4 e5
              subst e3; subst e2
              clear hI e4 e5
              have hc := gb_keeps GX.out hc
              have NY : Hid (srt (a.seen ++ restTo a t ++ l.take (y + 1)) = insI l[y]! (srt (a.seen ++ restTo a t ++ l.take y))) := by
                unfold Hid; rw [take_snoc (by have := NL.out; omega), ← List.append_assoc, srt_snocI]
              have cw := rwith_c X.out.2.1 (by rw [srt_len, List.length_append, List.length_take]; have := RL.out.2; omega) l[y]!
              generalize l[y]! = x at *
              go_wp2_with fail
              refine cw.mono ?_
              rintro e w5 ⟨v5, rfl, o5, g5⟩
              have XN : Hid (Gb W1 w5 ∧ Own w5 W1.heap.size v5 (srt (a.seen ++ restTo a t ++ l.take (y + 1))) ∧ OwnW w w5 W1.heap.size u10 srs) := ⟨gb_trans X.out.1 g5, by rw [NY.out]; exact o5.mono X.out.1.size, X.out.2.2.gb g5⟩
              clear cw o5 g5 X NY hc a5 x2 GX
              go_wp2
              go_roundw
              case rel => exact ⟨y + 1, by first | rfl | go_num | simp, hyn, XN⟩
              case measure => simp [intOf]; omega
            · have hyi : ¬ (y : Int) < (nl : Int) := by omega
              have XN : Hid (Gb W1 wr ∧ Own wr W1.heap.size u9 (srt (a.seen ++ restTo a (t + 1))) ∧ OwnW w wr W1.heap.size u10 srs) := by
                have h1 := X.out
                rw [List.take_of_length_le (by have := NL.out; omega), List.append_assoc, ← NX.out] at h1
                exact h1
              clear X
              go_wp2
              go_roundw
              case rel => exact ⟨t + 1, by first | rfl | go_num | simp, htn, XN⟩
              case measure => simp [intOf]; omega
        · have hti : ¬ (t : Int) < (nr : Int) := by omega
          have XE : Hid (Gb W1 wr ∧ Own wr W1.heap.size u9 (srt (allIds a)) ∧ OwnW w wr W1.heap.size u10 srs) := by
            have h1 := X.out
            rw [show t = a.rest.length by have := NN.out; omega, restTo_all] at h1
            exact h1
          have GX : Hid (Gb w wr) := gb_trans G0.out X.out.1
          have ch := rhits_c (XE.out.2.2.rdw GX.out) (U.out.gb GX.out) AS.out
          have HL : Hid ((Tk.srt (hitsOf q srs)).length ≤ 4000) := by
            unfold Hid
            rw [Tk.srt_len, hitsOf_len]
            have := (askE_zero.1 AS.out).2.few
            omega
          clear X
          go_wp2_with fail
          clear x2
          refine ch.mono ?_
          rintro e w5 ⟨vl, rfl, o5, g5, _⟩
          have G5 : Hid (Gb wr w5) := g5
          have cf := rfirst_c o5 HL.out k hk
          obtain ⟨xa, xc, exv⟩ : ∃ xa xc, vl = .slice xa (Tk.srt (hitsOf q srs)).length xc := own_fm o5 rfl
          subst exv
          clear ch o5 g5
          generalize (Tk.srt (hitsOf q srs)).length = nL at *
          go_wp2_with fail
          refine cf.mono ?_
          rintro e w6 ⟨v6, rfl, rd6, g6⟩
          have RD : Hid (Tk.Rd w6 v6 a.hits) := by unfold Hid; rw [SP.out.hits]; exact rd6
          have G6 : Hid (Gb W1 w6) := gb_trans XE.out.1 (gb_trans G5.out g6)
          have O6 : Hid (Own w6 W1.heap.size u9 (srt (allIds a))) := XE.out.2.1.gb (gb_trans G5.out g6)
          obtain ⟨x6, c6, e6, hl6⟩ := RD.out.form
          subst e6
          have L6 : Hid (∀ i, i < a.hits.length → ∃ b o, x6 = some ⟨b, o, none⟩ ∧ Tk.Lies w6 b o a.hits) := hl6
          rw [← NN.out.2.2.1] at RD ⊢
          clear cf rd6 g6 G5 GX XE hl6
          obtain ⟨x0, x1, x2⟩ := BX.out
          have x0 := gb_keeps G6.out x0
          clear x1 x2
          have hnhb : nh ≤ 64 := by
            rw [NN.out.2.2.1, SP.out.hits, Tk.firsts_len]
            omega
          go_wp2
          clear x0
          go_loopw [16] (fun iv W => ∃ y : Nat, iv = .int .i64 (y : Int) ∧ y ≤ nh ∧ Hid (Gb w6 W)) (fun iv _ => nh - (intOf iv).toNat)
          case atStart => exact ⟨0, rfl, Nat.zero_le _, Below.refl _ _⟩
          case round =>
            obtain ⟨y, rfl, hy, X⟩ := hrel
            obtain ⟨x0, x1, x2⟩ := BX.out
            have G7 : Hid (Gb W1 wr) := gb_trans G6.out X.out
            have x0 := gb_keeps G7.out x0
            clear x1 x2
            by_cases hyn : y < nh
            · have hyi : (y : Int) < (nh : Int) := by omega
              obtain ⟨_, _, e1, hH⟩ := A.out.hits.form
              obtain ⟨b1, o1, ea, h1⟩ := hH y (by have := NN.out; omega)
              injection e1 with e2 e3 e4
              subst e2; subst ea
              obtain ⟨b2, o2, eb, h2⟩ := L6.out y (by have := NN.out; omega)
              subst eb
              obtain ⟨p0, p1, p2⟩ := (h1.gr (gb_trans G0.out G7.out)) y (by have := NN.out; omega)
              obtain ⟨q0, q1, q2⟩ := (h2.gr X.out) y (by have := NN.out; omega)
              generalize a.hits[y]! = z at *
              have hne := fun W => Tk.hv_ne z z W
              simp only [decide_true, Bool.not_true] at hne
              clear h1 h2 hH e3 e4
              go_wp2
              go_quiet (fail)
              go_wp2
              go_roundw
              case rel => exact ⟨y + 1, by first | rfl | go_num | simp, hyn, X.out.trans (below_drewN (Below.refl _ _) _)⟩
              case measure => simp [intOf]; omega
            · have hyi : ¬ (y : Int) < (nh : Int) := by omega
              have ci := rIds_c (V.out.gb (gb_trans G0.out G7.out)) (by have := FEW.out; omega)
              have O7 : Hid (Own wr W1.heap.size u9 (srt (allIds a))) := O6.out.gb X.out
              clear X
              go_wp2_with fail
              refine ci.mono ?_
              rintro e w8 ⟨v8, rfl, o8, g8⟩
              have ct := rints_v (O7.out.gb g8).rd o8.rd (by rw [srt_len]; have := FEW.out; omega) true (by rw [decide_eq_true_eq]; exact srtI_unique _ _ (srt_srtI _) (srt_srtI _) ((srt_perm _).trans (SP.out.all.trans (srt_perm _).symm)))
              have G8 : Hid (Gb w w8) := gb_trans G0.out (gb_trans G7.out g8)
              obtain ⟨p9, c9, e9, _⟩ := (O7.out.gb g8).rd
              subst e9
              obtain ⟨p10, c10, e10, _⟩ := o8.rd
              subst e10
              generalize (srt (allIds a)).length = n9 at *
              generalize (srt (idsOf rs)).length = n10 at *
              clear ci o8 g8
              go_wp2_with fail
              refine ct.mono ?_
              rintro e w9 ⟨rfl, g9⟩
              go_wp2
              go_ret
              exact ⟨rfl, gb_trans G8.out g9.gb⟩
end Go.Proofs.YtdmdjmliggjbjaaGreat
