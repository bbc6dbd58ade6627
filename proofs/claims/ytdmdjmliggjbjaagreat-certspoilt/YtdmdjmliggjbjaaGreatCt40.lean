import Derived.Test.YtdmdjmliggjbjaaGreatCt19
import Derived.SizedLaws
import Derived.Test.YtdmdjmliggjbjaaGreatCtCM
/- Rows that came in, with the form's own reach: none is longer than its memory. -/
namespace Go.Proofs.YtdmdjmliggjbjaaGreat
open Go.ChangeShapes Go.WideShapes Go.ChangeAt Go.RowKit Go.Joins Go.Deep

theorem Tryz.bytesI : Tryz.prog.bytesOf 3 = 8 := by kernel_rfl
theorem Tryz.bytesR : Tryz.prog.bytesOf 46 = 32 := by kernel_rfl
theorem weights_in {H : Type} {e : TypeId} {d : DataW H} : ∀ {l : List (DataW H)}, d ∈ l → ∀ n ∈ d.weights Tryz.prog e, n ∈ DataW.weightsAll Tryz.prog e l
  | x :: r, h, n, hn => by
    simp only [DataW.weightsAll, List.mem_append]
    cases List.mem_cons.1 h with
    | inl h => subst h; exact .inl hn
    | inr h => exact .inr (weights_in h n hn)
theorem trodI_sz {H : Type} {enc : TypeId × Value → H} {W : World} {base fuel : Nat} {hd : Bool} {v : Value} {l : List Int} {x : DataW H × List MemPlace}
    (h : DataW.trod enc Tryz.prog W base (fun _ => true) hd fuel 23 [v] = some x) (hr : RdI W v l) (hw : ∀ n ∈ x.1.weights Tryz.prog 23, n ≤ reachBytes) : l.length ≤ reachBytes := by
  rcases open_slice Tryz.underlying23 h with ⟨e, _⟩ | ⟨a, len, cap, m, n, D, Pl, e, _, hlc, hcm, _, rfl, _⟩
  · cases e
    obtain ⟨_, _, e, _⟩ := hr
    injection e with _ e2 _
    omega
  · cases e
    have h1 := hw ((((List.range len).map D).length + ((List.range (m - len)).map fun j => D (len + j)).length) * Tryz.prog.bytesOf 3) (by simp [DataW.weights, Tryz.underlying23])
    rw [Tryz.bytesI] at h1
    simp only [List.length_map, List.length_range] at h1
    obtain ⟨_, _, e, _⟩ := hr
    injection e with _ e2 _
    omega
set_option maxRecDepth 100000 in
theorem open_rows_sz {H : Type} {enc : TypeId × Value → H} {W : World} {b0 : Nat} {r : Reach} {v : Value} {d : DataW H} {p : List MemPlace}
    (hv' : Value.okWide Tryz.prog W r b0 22 v) (h : DataW.Trod enc Tryz.prog W 0 (fun _ => true) true 22 v d p) (hw : ∀ n ∈ d.weights Tryz.prog 22, n ≤ reachBytes) :
    ∃ rs : List Rw, RdW W v rs ∧ rs.length ≤ reachBytes ∧ (∀ i, i < rs.length → (Lit.int .i64 rs[i]!.1).wf = true) ∧ (∀ i, i < rs.length → rs[i]!.2.length ≤ reachBytes) ∧ ∀ a n c, v = .slice a n c → n ≤ c := by
  obtain ⟨a0, len, cap, rfl⟩ := okWide_slice Tryz.underlying22 hv'
  obtain ⟨fuel, hf⟩ := h
  rcases open_slice Tryz.underlying22 (by simpa [Value.cells] using hf) with ⟨e, _⟩ | ⟨a, len, cap, m, n, D, Pl, e, _, hlc, hcm, hm, hD, hx⟩
  · cases e
    exact ⟨[], ⟨none, 0, rfl, fun i hi => absurd hi (Nat.not_lt_zero _)⟩, Nat.zero_le _, fun i hi => absurd hi (Nat.not_lt_zero _), fun i hi => absurd hi (Nat.not_lt_zero _), fun a n c e => by cases e; exact Nat.le_refl _⟩
  · cases e
    rw [if_pos rfl] at hm
    subst hm
    have hd : d = .slice ((List.range len).map D) ((List.range (m - len)).map fun j => D (len + j)) := congrArg Prod.fst hD
    subst hd
    have hw0 := hw ((((List.range len).map D).length + ((List.range (m - len)).map fun j => D (len + j)).length) * Tryz.prog.bytesOf 46) (by simp [DataW.weights, Tryz.underlying22])
    rw [Tryz.bytesR] at hw0
    simp only [List.length_map, List.length_range] at hw0
    have hy : ∀ i, i < len → ∃ y : Rw, (∃ u, W.cell? (a.add (i * 2)) = some (.int .i64 y.1) ∧ W.cell? ((a.add (i * 2)).add 1) = some u ∧ RdI W u y.2) ∧ (Lit.int .i64 y.1).wf = true ∧ y.2.length ≤ reachBytes := by
      intro i hi
      obtain ⟨cs, hc, ht⟩ := hx i (by omega)
      obtain ⟨z0, z1, k, hz, hl1, j0, j1⟩ := trod_struct2 Tryz.underlying46 ht
      rw [Tryz.cells46] at hl1 hc
      match cs, hl1 with
      | [c0, c1], _ =>
        obtain ⟨x, e5, _, wx⟩ := DataW.trod_int Tryz.underlying3 j0
        obtain ⟨u, l, e6, rl, ll⟩ := trod22 j1
        have j2 := j1
        rw [e6] at j2
        simp [Tryz.cells3, Tryz.cells23] at e5 e6
        subst e5 e6
        obtain ⟨_, _, hcc⟩ := World.cells?_some hc
        have q0 := hcc 0 (by omega)
        have q1 := hcc 1 (by omega)
        refine ⟨(x, l), ⟨_, by simpa [Addr.add] using q0, by simpa using q1, rl⟩, wx, trodI_sz j2 rl (fun n hn => hw n ?_)⟩
        have hz' : D i = .agg [z0.1, z1.1] := congrArg Prod.fst hz
        simp only [DataW.weights, Tryz.underlying22, List.mem_cons, List.mem_append]
        refine .inr (.inl (weights_in (d := D i) (List.mem_map.2 ⟨i, List.mem_range.2 hi, rfl⟩) n ?_))
        rw [hz']
        simp only [DataW.weights, Tryz.underlying46, List.map_cons, List.map_nil, DataW.weightsEach, List.mem_append]
        exact .inr (.inl hn)
    obtain ⟨Y, hY⟩ := choose_lt (α := Rw) (p := fun i y => (∃ u, W.cell? (a.add (i * 2)) = some (.int .i64 y.1) ∧ W.cell? ((a.add (i * 2)).add 1) = some u ∧ RdI W u y.2) ∧ (Lit.int .i64 y.1).wf = true ∧ y.2.length ≤ reachBytes) hy
    have hg : ∀ i, i < len → ((List.range len).map Y)[i]! = Y i := by
      intro i hi
      rw [getElem!_pos _ i (by simpa using hi)]; simp
    refine ⟨(List.range len).map Y, ⟨some a, m, by simp, fun i hi => ?_⟩, by simp; omega, fun i hi => ?_, fun i hi => ?_, fun a n c e => by cases e; exact hlc⟩
    · have hi' : i < len := by simpa using hi
      obtain ⟨⟨u0, q0, _⟩, _⟩ := hY 0 (by omega)
      have ha : a = ⟨a.block, a.off, none⟩ := spot_none (by simpa [Addr.add] using q0)
      obtain ⟨⟨u, q1, q2, q3⟩, _⟩ := hY i hi'
      rw [hg i hi']
      rw [ha, Addr.add_lit] at q1
      rw [ha, Addr.add_lit, Addr.add_lit] at q2
      exact ⟨a.block, a.off, u, by rw [← ha], q1, q2, q3⟩
    · have hi' : i < len := by simpa using hi
      rw [hg i hi']; exact (hY i hi').2.1
    · have hi' : i < len := by simpa using hi
      rw [hg i hi']; exact (hY i hi').2.2
end Go.Proofs.YtdmdjmliggjbjaaGreat

/- Who has seen all, and who has seen none, plainly. -/
namespace Go.Proofs.YtdmdjmliggjbjaaGreat
open Go.RowKit Go.Sort

theorem srt_strict {l : List Int} (h : l.Nodup) : ∀ i, i + 1 < (srt l).length → (srt l)[i]! < (srt l)[i + 1]! := fun i hi' => by
  have h1 := List.pairwise_iff_getElem.1 (srt_srtI l) i (i + 1) (by omega) hi' (by omega)
  have h2 : (srt l).Nodup := (srt_perm l).nodup_iff.2 h
  have h3 := List.pairwise_iff_getElem.1 h2 i (i + 1) (by omega) hi' (by omega)
  rw [getElem!_pos (srt l) i (by omega), getElem!_pos (srt l) (i + 1) hi']
  omega
theorem rise_srt {l : List Int} (h : l.Nodup) (ho : ∀ x ∈ l, okId x = true) : rise (srt l) = true := by
  have ht : ∀ q, q ≤ (srt l).length → riseTo (srt l) q = true := by
    intro q
    induction q with
    | zero => intro _; rfl
    | succ q ih =>
      intro hq
      unfold riseTo
      rw [ih (by omega), Bool.true_and]
      unfold okAt
      have hm : (srt l)[q]! ∈ l := by
        rw [getElem!_pos (srt l) q (by omega)]
        exact (srt_perm l).mem_iff.1 (List.getElem_mem _)
      rw [ho _ hm, Bool.true_and]
      cases q with
      | zero => rfl
      | succ p =>
        have := srt_strict h p (by omega)
        simp only [Nat.add_sub_cancel, Bool.or_eq_true, decide_eq_true_eq]
        exact Or.inr this
  exact ht _ (Nat.le_refl _)
theorem rows_by {rs : List Rw} (l : List Int) (h : ∀ x ∈ l, ∃ r ∈ rs, r.1 = x) : ∃ srs : List Rw, idsOf srs = l ∧ ∀ r ∈ srs, r ∈ rs := by
  induction l with
  | nil => exact ⟨[], rfl, by simp⟩
  | cons x r ih =>
    obtain ⟨s, h1, h2⟩ := ih (fun y hy => h y (List.mem_cons_of_mem _ hy))
    obtain ⟨y, hy, e⟩ := h x List.mem_cons_self
    refine ⟨y :: s, by unfold idsOf at h1 ⊢; rw [List.map_cons, h1, e], fun z hz => ?_⟩
    rcases List.mem_cons.1 hz with rfl | hz
    · exact hy
    · exact h2 z hz
/-- Who has seen all. -/
def allA (rs : List Rw) (q : List Int) (k : Nat) : Ans := ⟨Tk.firsts k (hitsOf q rs), srt (idsOf rs), []⟩
/-- Who has seen none. -/
def noneA (rs : List Rw) : Ans := ⟨[], [], if rs.length = 0 then [] else [⟨1, [], [], 0, srt (idsOf rs)⟩]⟩
theorem all_sound {rs : List Rw} {q : List Int} {k : Nat} (hask : askE rs q = 0) : SoundQ rs q k (allA rs q k) := by
  have hnd := ids_ndp hask
  obtain ⟨srs, h1, h2⟩ := rows_by (rs := rs) (srt (idsOf rs)) (fun x hx => List.mem_map.1 ((srt_perm _).mem_iff.1 hx))
  have hs : srs.Nodup := by
    have h3 : (idsOf srs).Nodup := by rw [h1]; exact (srt_perm _).nodup_iff.2 hnd
    unfold idsOf at h3
    exact List.Pairwise.imp_of_mem (fun _ _ hne e => hne (by rw [e])) (List.pairwise_map.1 h3)
  have hp : srs.Perm rs := nd_perm hs (rows_nd hask) (fun r => ⟨h2 r, fun hr => by
    have : r.1 ∈ idsOf srs := by rw [h1]; exact (srt_perm _).mem_iff.2 (List.mem_map.2 ⟨r, hr, rfl⟩)
    obtain ⟨r', hr', e⟩ := List.mem_map.1 this
    rw [← row_one hask (h2 r' hr') hr e]
    exact hr'⟩)
  refine ⟨srs, h1, h2, srt_strict hnd, by simp [allA], ?_, ?_⟩
  · exact Tk.firsts_perm k (hitsOf_perm q hp.symm)
  · simp only [allIds, allA, List.flatMap_nil, List.append_nil]
    exact srt_perm _
theorem all_certain (rs : List Rw) (q : List Int) (k : Nat) : certB q k (allA rs q k) = true := rfl
theorem ids_zero (rs : List Rw) : (srt (idsOf rs)).length = rs.length := by rw [srt_len]; simp [idsOf]
theorem none_ids (rs : List Rw) : allIds (noneA rs) = srt (idsOf rs) := by
  unfold allIds noneA
  dsimp only
  split
  · rename_i h
    have : srt (idsOf rs) = [] := List.eq_nil_of_length_eq_zero (by rw [ids_zero]; exact h)
    rw [this]; rfl
  · simp
theorem none_sound {rs : List Rw} {q : List Int} {k : Nat} (hask : askE rs q = 0) : SoundQ rs q k (noneA rs) := by
  have hnd := ids_ndp hask
  obtain ⟨hq, hro⟩ := askE_zero.1 hask
  have hd := chk_ok hq
  refine ⟨[], rfl, by simp, by intro i hi'; simp [noneA] at hi', ?_, ?_, ?_⟩
  · intro r hr
    unfold noneA at hr
    dsimp only at hr
    split at hr
    · simp at hr
    · rename_i h0
      simp only [List.mem_singleton] at hr
      subst hr
      refine ⟨?_, ?_, by dsimp only; decide, fun x hx => ?_⟩
      · unfold ckR
        have hok : rise (srt (idsOf rs)) = true := rise_srt hnd (fun x hx => by
          obtain ⟨r, hr, e⟩ := List.mem_map.1 hx
          rw [← e]; exact (hro.row r hr).1)
        rw [if_pos ⟨by omega, by omega⟩, if_pos ⟨by simp [uses], hok⟩]
        rfl
      · intro e
        have := ids_zero rs
        dsimp only at e
        rw [e] at this
        exact h0 this.symm
      · obtain ⟨row, hr, e⟩ := List.mem_map.1 ((srt_perm _).mem_iff.1 hx)
        exact ⟨row, hr, e, by simp [inV]⟩
  · simp [noneA, hitsOf, Tk.firsts_nil]
  · rw [none_ids]; exact srt_perm _
theorem none_certain {rs : List Rw} {q : List Int} {k : Nat} (hk : 1 ≤ k) : certB q k (noneA rs) = decide (rs.length = 0) := by
  unfold certB noneA
  dsimp only
  split
  · rename_i h; rw [decide_eq_true h]; rfl
  · rename_i h
    rw [decide_eq_false h]
    have : decide (k ≤ ([] : List Tk.Ht).length) = false := by rw [decide_eq_false_iff_not]; simp; omega
    rw [this]
    rfl
end Go.Proofs.YtdmdjmliggjbjaaGreat
