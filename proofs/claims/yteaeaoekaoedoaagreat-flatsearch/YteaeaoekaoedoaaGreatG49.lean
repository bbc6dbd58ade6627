import Derived.Test.YteaeaoekaoedoaaGreatFSnd
import Derived.Test.YteaeaoekaoedoaaGreatFAnsw
import Derived.Test.YteaeaoekaoedoaaGreatFSpoil
import Derived.Test.YteaeaoekaoedoaaGreatFSearch
import Derived.Test.YteaeaoekaoedoaaGreatRWith
/- The reference's Obeys and Searched. -/
namespace Go.Proofs.YteaeaoekaoedoaaGreat
open Go.RowKit Go.Sort

set_option maxRecDepth 100000 in
set_option maxHeartbeats 1000000 in
theorem robeys_c {w : World} {v u vh vs vr : Value} {rs srs : List Rw} {q : List Int} {k b : Nat} {a : Ans} (hv : RdW w v rs) (hu : RdI w u q) (ha : RdA w vh vs vr a) (hask : askE rs q = 0) (hk : k ≤ 64) (h : SoundP rs q k a srs) (hb : a.seen.length ≤ b)
    (h3 : a.seen.length = b ∨ a.seen.length = rs.length ∨ ∀ W, Gb w W → Calls Tryz.prog 49 #[u, .int .i64 (k : Int), .agg #[vh, vs, vr]] W fun e w' => e = .returned (.bool true) ∧ Gb W w') :
    Calls Tryz.prog 24 #[v, u, .int .i64 (k : Int), .int .i64 (b : Int), .agg #[vh, vs, vr]] w fun e w' => e = .returned (.bool true) ∧ Gb w w' := by
  obtain ⟨W1, hW1⟩ : ∃ W1, W1 = w.alloc (.cells #[vh, vs, vr] 44) := ⟨_, rfl⟩
  have G0 : Hid (Gb w W1) := by unfold Hid; rw [hW1]; exact gb_alloc (Below.refl _ _) _
  have cs := rsound_c (hv.gb G0.out) (hu.gb G0.out) (ha.gb G0.out) hask hk h
  have BX : Hid (W1.cell? ⟨w.heap.size, 0, none⟩ = some vh ∧ W1.cell? ⟨w.heap.size, 1, none⟩ = some vs ∧ W1.cell? ⟨w.heap.size, 2, none⟩ = some vr) := by
    unfold Hid; rw [hW1]; exact ⟨by simp [go_sem], by simp [go_sem], by simp [go_sem]⟩
  obtain ⟨av, cv, rfl, _⟩ := hv
  obtain ⟨au, cu, rfl, _⟩ := hu
  obtain ⟨ah, ch, evh, _⟩ := ha.hits.form
  obtain ⟨sa, sc, evs, _⟩ := ha.seen
  obtain ⟨ar, cr, evr, zr⟩ := ha.rest
  subst evh; subst evs; subst evr
  clear ha h hask zr
  generalize rs.length = n at *
  generalize q.length = m at *
  generalize a.hits.length = nh at *
  generalize a.seen.length = ns at *
  generalize a.rest.length = nr at *
  have hbi : ¬ (b : Int) < (ns : Int) := by omega
  go_enter Tryz.func24, Tryz.ntmps24
  go_wp2_with fail
  rw [← hW1]
  clear hW1
  obtain ⟨x0, x1, x2⟩ := BX.out
  go_wp2_with fail
  refine cs.mono ?_
  rintro e w2 ⟨rfl, g2⟩
  have G2 : Hid (Gb W1 w2) := g2
  have GW : Hid (Gb w w2) := gb_trans G0.out g2
  clear cs x0 x1 x2 g2
  obtain ⟨x0, x1, x2⟩ := BX.out
  have x0 := gb_keeps G2.out x0
  have x1 := gb_keeps G2.out x1
  have x2 := gb_keeps G2.out x2
  by_cases e1 : ns = b
  · subst e1
    clear h3
    go_wp2
    go_ret
    exact ⟨rfl, GW.out⟩
  · have e1' : ((ns : Int) == (b : Int)) = false := by rw [beq_eq_false_iff_ne]; omega
    have e1'' : ¬ (ns : Int) = (b : Int) := by omega
    by_cases e2 : ns = n
    · subst e2
      clear h3
      go_wp2
      go_ret
      exact ⟨rfl, GW.out⟩
    · have e2' : ((ns : Int) == (n : Int)) = false := by rw [beq_eq_false_iff_ne]; omega
      have e2'' : ¬ (ns : Int) = (n : Int) := by omega
      have cc : ∀ W, Gb w W → Calls Tryz.prog 49 #[.slice au m cu, .int .i64 (k : Int), .agg #[.slice ah nh ch, .slice sa ns sc, .slice ar nr cr]] W fun e w' => e = .returned (.bool true) ∧ Gb W w' := by
        rcases h3 with h | h | h
        · exact absurd h e1
        · exact absurd h e2
        · exact h
      have cc2 := cc _ GW.out
      clear h3 cc e1 e2
      go_wp2_with fail
      refine cc2.mono ?_
      rintro e w3 ⟨rfl, g3⟩
      go_wp2
      go_ret
      exact ⟨rfl, gb_trans GW.out g3⟩
/-- What Searched answers. -/
def srchE (q : List Int) (d k b : Int) : Int := if chk q d = 0 then (if 1 ≤ k ∧ k ≤ 64 ∧ 0 ≤ b ∧ b ≤ 1000000 then 0 else 1) else chk q d
set_option maxHeartbeats 1000000 in
theorem rsearched_c {w : World} {u : Value} {q : List Int} (hu : RdI w u q) (d k b : Int) :
    Calls Tryz.prog 22 #[u, .int .i64 d, .int .i64 k, .int .i64 b] w fun e w' => e = .returned (.int .i64 (srchE q d k b)) ∧ w = w' := by
  have cc := rcheck_c hu d
  obtain ⟨au, cu, rfl, _⟩ := hu
  generalize q.length = m at *
  unfold srchE
  by_cases hz : chk q d = 0
  · rw [hz] at cc ⊢
    by_cases h1 : k < 1
    · have E : Hid ((if (0 : Int) = 0 then (if 1 ≤ k ∧ k ≤ 64 ∧ 0 ≤ b ∧ b ≤ 1000000 then (0 : Int) else 1) else 0) = 1) := by unfold Hid; rw [if_pos rfl, if_neg (by omega)]
      rw [E.out]
      go_enter Tryz.func22, Tryz.ntmps22
      go_wp2_with fail
      refine cc.mono ?_
      rintro e w1 ⟨rfl, rfl⟩
      go_wp2
      go_ret
      exact ⟨rfl, rfl⟩
    · by_cases h2 : 64 < k
      · have E : Hid ((if (0 : Int) = 0 then (if 1 ≤ k ∧ k ≤ 64 ∧ 0 ≤ b ∧ b ≤ 1000000 then (0 : Int) else 1) else 0) = 1) := by unfold Hid; rw [if_pos rfl, if_neg (by omega)]
        rw [E.out]
        go_enter Tryz.func22, Tryz.ntmps22
        go_wp2_with fail
        refine cc.mono ?_
        rintro e w1 ⟨rfl, rfl⟩
        go_wp2
        go_ret
        exact ⟨rfl, rfl⟩
      · by_cases h3 : b < 0
        · have E : Hid ((if (0 : Int) = 0 then (if 1 ≤ k ∧ k ≤ 64 ∧ 0 ≤ b ∧ b ≤ 1000000 then (0 : Int) else 1) else 0) = 1) := by unfold Hid; rw [if_pos rfl, if_neg (by omega)]
          rw [E.out]
          go_enter Tryz.func22, Tryz.ntmps22
          go_wp2_with fail
          refine cc.mono ?_
          rintro e w1 ⟨rfl, rfl⟩
          go_wp2
          go_ret
          exact ⟨rfl, rfl⟩
        · by_cases h4 : 1000000 < b
          · have E : Hid ((if (0 : Int) = 0 then (if 1 ≤ k ∧ k ≤ 64 ∧ 0 ≤ b ∧ b ≤ 1000000 then (0 : Int) else 1) else 0) = 1) := by unfold Hid; rw [if_pos rfl, if_neg (by omega)]
            rw [E.out]
            go_enter Tryz.func22, Tryz.ntmps22
            go_wp2_with fail
            refine cc.mono ?_
            rintro e w1 ⟨rfl, rfl⟩
            go_wp2
            go_ret
            exact ⟨rfl, rfl⟩
          · have E : Hid ((if (0 : Int) = 0 then (if 1 ≤ k ∧ k ≤ 64 ∧ 0 ≤ b ∧ b ≤ 1000000 then (0 : Int) else 1) else 0) = 0) := by unfold Hid; rw [if_pos rfl, if_pos (by omega)]
            rw [E.out]
            go_enter Tryz.func22, Tryz.ntmps22
            go_wp2_with fail
            refine cc.mono ?_
            rintro e w1 ⟨rfl, rfl⟩
            go_wp2
            go_ret
            exact ⟨rfl, rfl⟩
  · rw [if_neg hz]
    have hz' : (chk q d == 0) = false := by rw [beq_eq_false_iff_ne]; exact hz
    generalize chk q d = z at *
    go_enter Tryz.func22, Tryz.ntmps22
    go_wp2_with fail
    refine cc.mono ?_
    rintro e w1 ⟨rfl, rfl⟩
    go_wp2
    go_ret
    exact ⟨rfl, rfl⟩
end Go.Proofs.YteaeaoekaoedoaaGreat

/- A search of all rows: its answer, plainly, is sound. -/
namespace Go.Proofs.YteaeaoekaoedoaaGreat
open Go.RowKit Go.Sort

/-- Rows by rising ids. -/
def srtR (rs : List Rw) : List Rw := rs.mergeSort fun a b => decide (a.1 ≤ b.1)
theorem srtR_perm (rs : List Rw) : (srtR rs).Perm rs := List.mergeSort_perm rs _
theorem srtR_ids (rs : List Rw) : idsOf (srtR rs) = srt (idsOf rs) := by
  refine srtI_unique _ _ ?_ (srt_srtI _) (((srtR_perm rs).map _).trans (srt_perm _).symm)
  have h := List.pairwise_mergeSort (le := fun a b : Rw => decide (a.1 ≤ b.1)) (fun a b c h1 h2 => by simp at *; omega) (fun a b => by simp; omega) rs
  unfold SrtI idsOf srtR
  rw [List.pairwise_map]
  exact h.imp fun h => by simpa using h
/-- Ids that differ rise when they are sorted. -/
theorem srt_lt {l : List Int} (h : l.Pairwise (· ≠ ·)) : ∀ i, i + 1 < (srt l).length → (srt l)[i]! < (srt l)[i + 1]! := fun i hi => by
  have h1 := srt_srtI l
  have h2 : (srt l).Pairwise (· ≠ ·) := (List.Perm.pairwise_iff (fun e => Ne.symm e) (srt_perm l)).2 h
  unfold SrtI at h1
  have a := List.pairwise_iff_getElem.1 h1 i (i + 1) (by omega) hi (by omega)
  have b := List.pairwise_iff_getElem.1 h2 i (i + 1) (by omega) hi (by omega)
  rw [getElem!_pos (srt l) i (by omega), getElem!_pos (srt l) (i + 1) hi]
  omega
theorem rise_of {l : List Int} (h : l.Pairwise (· ≠ ·)) (hok : ∀ x ∈ l, okId x = true) : rise (srt l) = true := by
  unfold rise
  have key : ∀ q, q ≤ (srt l).length → riseTo (srt l) q = true := by
    intro q
    induction q with
    | zero => intro _; rfl
    | succ q ih =>
      intro hq
      rw [riseTo, ih (by omega), Bool.true_and]
      unfold okAt
      have h1 : okId (srt l)[q]! = true := by
        rw [getElem!_pos (srt l) q (by omega)]
        exact hok _ ((srt_perm l).subset (List.getElem_mem _))
      rw [h1, Bool.true_and]
      cases q with
      | zero => rfl
      | succ j =>
        have := srt_lt h j (by omega)
        rw [Bool.or_eq_true]
        exact .inr (decide_eq_true (by rw [Nat.add_sub_cancel]; exact this))
  exact key _ (Nat.le_refl _)
/-- The answer of a search of all rows that has seen the first c. -/
def flatAns (rs : List Rw) (q : List Int) (k c : Nat) : Ans := ⟨Tk.firsts k (hitsOf q (rs.take c)), srt (idsOf (rs.take c)), if rs.drop c = [] then [] else [⟨1, [], [], 0, srt (idsOf (rs.drop c))⟩]⟩
theorem flat_rd' {w' : World} {vh vs vr : Value} {rs : List Rw} {q : List Int} {k c B1 B2 : Nat} (t : Tk.Own w' vh (Tk.firsts k (hitsOf q (rs.take c))).toArray) (s : Own w' B1 vs (srt (idsOf (rs.take c)))) (r : RestAt w' B2 vr (rs.drop c)) : RdA w' vh vs vr (flatAns rs q k c) := by
  refine ⟨Tk.own_rd t, s.rd, ?_⟩
  unfold flatAns
  dsimp only
  rcases r with ⟨e, rfl⟩ | ⟨e, vi, g, rfl, _, hh, o⟩
  · rw [if_pos e]; exact rdl_nil _
  · rw [if_neg e]
    refine ⟨_, 1, rfl, fun i hi' => ?_⟩
    have hi0 : i = 0 := by simpa using hi'
    subst hi0
    refine ⟨g, 0, .slice none 0 0, .slice none 0 0, vi, rfl, ?_, ?_, ?_, ?_, ?_, ?_, rdi_nil _, rdi_nil _, o.rd⟩ <;> simp [World.cell?, hh, hi, lo]
theorem flat_rd {w w' : World} {vh vs vr : Value} {rs : List Rw} {q : List Int} {k c : Nat} (h : AnsAt w w' vh vs vr rs q k c) : RdA w' vh vs vr (flatAns rs q k c) := by
  obtain ⟨B1, B2, _, _, _, _, t, _, s, _, r⟩ := h
  exact flat_rd' t s r
theorem flat_own {w w' : World} {vh vs vr : Value} {rs : List Rw} {q : List Int} {k c : Nat} (h : AnsAt w w' vh vs vr rs q k c) (hn : rs.length ≤ 512) : OwnA w' w.heap.size w'.heap.size vh vs vr := by
  obtain ⟨B1, B2, b1, b2, b3, g, t, tb, s, sb, r⟩ := h
  have hs : (srt (idsOf (rs.take c))).length ≤ 512 := by rw [srt_len]; simp [idsOf]; omega
  refine ⟨Nat.le_refl _, ?_, ?_, ?_⟩
  · rcases t.2 with ⟨rfl, _⟩ | ⟨x, cap, cur, rfl, _, hh, hc, _, hsz, _⟩
    · exact ⟨_, _, _, rfl, Nat.zero_le _, .inl rfl⟩
    · have hl : (Tk.firsts k (hitsOf q (rs.take c))).length ≤ 512 := by rw [Tk.firsts_len, hitsOf_len, List.length_take]; omega
      refine ⟨_, _, _, rfl, by simp; omega, .inr ⟨x, cur, rfl, (tb x rfl).1, (Array.getElem?_eq_some_iff.1 hh).1, hh, by simp at hc ⊢; omega⟩⟩
  · exact wi_own (s.mono (by omega)) (by omega) (fun g e => (World.ownsRow.lt s g e).2)
  · rcases r with ⟨e, rfl⟩ | ⟨e, vi, x, rfl, hx, hh, o⟩
    · exact ⟨_, _, _, rfl, Nat.zero_le _, .inl rfl⟩
    · refine ⟨_, _, _, rfl, by decide, .inr ⟨x, _, rfl, by omega, (Array.getElem?_eq_some_iff.1 hh).1, hh, fun i hi' => ?_⟩⟩
      have hi0 : i = 0 := by omega
      subst hi0
      have wn : WI w' w.heap.size w'.heap.size (.slice none 0 0) := ⟨_, _, _, rfl, Nat.zero_le _, .inl rfl⟩
      exact ⟨1, _, _, 0, 0, vi, rfl, rfl, rfl, rfl, rfl, rfl, wn, wn, wi_own (o.mono (by omega)) (by rw [srt_len]; simp [idsOf]; omega) (fun g e => (World.ownsRow.lt o g e).2)⟩
theorem flat_few {rs : List Rw} (q : List Int) (k c : Nat) (hn : rs.length ≤ 512) : Few (flatAns rs q k c) := by
  refine ⟨?_, ?_, ?_, fun r hr => ?_⟩
  · unfold flatAns; dsimp only; rw [Tk.firsts_len, hitsOf_len, List.length_take]; omega
  · unfold flatAns; dsimp only; rw [srt_len]; simp [idsOf]; omega
  · unfold flatAns; dsimp only; split <;> simp
  · unfold flatAns at hr
    dsimp only at hr
    split at hr
    · cases hr
    · rw [List.mem_singleton.1 hr]
      exact ⟨by simp, by simp, by dsimp only; rw [srt_len]; simp [idsOf]; omega⟩
theorem flat_sound {rs : List Rw} {q : List Int} (h : askE rs q = 0) (k c : Nat) : SoundP rs q k (flatAns rs q k c) (srtR (rs.take c)) := by
  obtain ⟨hq, hr⟩ := askE_zero.1 h
  have hqd := chk_ok hq
  have hsub : (rs.take c).Sublist rs := List.take_sublist c rs
  refine ⟨srtR_ids _, fun r hr' => hsub.subset ((srtR_perm _).subset hr'), ?_, fun r hr' => ?_, ?_, ?_⟩
  · exact srt_lt (hr.ids.sublist (hsub.map _))
  · unfold flatAns at hr'
    dsimp only at hr'
    split at hr'
    · cases hr'
    · rename_i hne
      rw [List.mem_singleton.1 hr']
      have hd : (rs.drop c).Sublist rs := List.drop_sublist c rs
      have hris : rise (srt (idsOf (rs.drop c))) = true := rise_of (hr.ids.sublist (hd.map _)) (fun x hx => by
        obtain ⟨row, hrow, rfl⟩ := List.mem_map.1 hx
        exact (hr.row row (hd.subset hrow)).1)
      refine ⟨?_, ?_, by dsimp only; decide, fun x hx => ?_⟩
      · unfold ckR
        rw [if_pos (by omega), if_pos ⟨by simp [uses], hris⟩]
        simp
      · intro e
        have := congrArg List.length e
        dsimp only at this
        rw [srt_len] at this
        simp [idsOf] at this
        exact hne (List.drop_eq_nil_iff.2 (by omega))
      · obtain ⟨row, hrow, e⟩ := List.mem_map.1 ((srt_perm _).subset hx)
        exact ⟨row, hd.subset hrow, e, by simp [inV]⟩
  · unfold flatAns
    dsimp only
    exact Tk.firsts_perm k ((hitsOf_perm q (srtR_perm _)).symm)
  · unfold flatAns allIds
    dsimp only
    have e : (idsOf (rs.take c) ++ idsOf (rs.drop c)).Perm (idsOf rs) := by
      unfold idsOf
      rw [← List.map_append, List.take_append_drop]
    split
    · rename_i hne
      rw [hne] at e
      simp only [List.flatMap_nil, List.append_nil]
      refine (srt_perm _).trans ?_
      simpa [idsOf] using e
    · simp only [List.flatMap_cons, List.flatMap_nil, List.append_nil]
      exact (List.Perm.append (srt_perm _) (srt_perm _)).trans e
theorem srch_same (rs : List Rw) (q : List Int) (k b : Int) : searchE rs q k b = if askE rs q = 0 then srchE q (q.length : Int) k b else askE rs q := by
  unfold searchE topE srchE
  by_cases h : askE rs q = 0
  · rw [if_pos h, if_pos h, (askE_zero.1 h).1, if_pos rfl]
    by_cases hk : 1 ≤ k ∧ k ≤ 64
    · rw [if_pos hk, if_pos rfl]
      by_cases hb : 0 ≤ b ∧ b ≤ 1000000
      · rw [if_pos hb, if_pos ⟨hk.1, hk.2, hb⟩]
      · rw [if_neg hb, if_neg (fun e => hb e.2.2)]
    · rw [if_neg hk, if_neg (by decide), if_neg (fun e => hk ⟨e.1, e.2.1⟩)]
  · rw [if_neg h, if_neg h, if_neg h]
theorem rda_nil (w : World) : RdA w (.slice none 0 0) (.slice none 0 0) (.slice none 0 0) ⟨[], [], []⟩ := ⟨.inl ⟨rfl, rfl⟩, rdi_nil _, rdl_nil _⟩
theorem few_nil : Few ⟨[], [], []⟩ := ⟨Nat.zero_le _, Nat.zero_le _, Nat.zero_le _, fun r hr => by cases hr⟩
/-- An answer stays, when what lies elsewhere is written over. -/
theorem RdA.mid {w0 w W W' : World} {B T : Nat} {vh vs vr : Value} {rs : List Rw} {q : List Int} {k c : Nat} (h : AnsAt w0 w vh vs vr rs q k c) (hT : T ≤ w0.heap.size) (g : Gb w W) (m : Mid B T W W') : RdA W' vh vs vr (flatAns rs q k c) := by
  obtain ⟨B1, B2, b1, b2, b3, g0, t, tb, s, sb, r⟩ := h
  have keep : ∀ x, w0.heap.size ≤ x → x < w.heap.size → W'.heap[x]? = w.heap[x]? := fun x h1 h2 =>
    (m.block x (Nat.lt_of_lt_of_le h2 g.size) (.inr (by omega))).trans (g.block x h2)
  have kO : ∀ {B : Nat} {v : Value} {l : List Int}, w0.heap.size ≤ B → Own w B v l → Own W' B v l := fun {B v l} hB o => by
    unfold Own at *
    refine ⟨o.1, ?_⟩
    rcases o.2 with h2 | ⟨x, cap, cur, rfl, hb, hh, r⟩
    · exact .inl h2
    · exact .inr ⟨x, cap, cur, rfl, hb, (keep x (by omega) (Array.getElem?_eq_some_iff.1 hh).1).trans hh, r⟩
  refine flat_rd' (B1 := B1) (B2 := B2) ?_ (kO b1 s) ?_
  · unfold Tk.Own at *
    refine ⟨t.1, ?_⟩
    rcases t.2 with h2 | ⟨x, cap, cur, rfl, hb, hh, r⟩
    · exact .inl h2
    · exact .inr ⟨x, cap, cur, rfl, hb, (keep x (tb x rfl).1 (Array.getElem?_eq_some_iff.1 hh).1).trans hh, r⟩
  · rcases r with h | ⟨e, vi, x, h1, h2, h3, h4⟩
    · exact .inl h
    · exact .inr ⟨e, vi, x, h1, h2, (keep x (by omega) (Array.getElem?_eq_some_iff.1 h3).1).trans h3, kO (by omega) h4⟩
end Go.Proofs.YteaeaoekaoedoaaGreat
