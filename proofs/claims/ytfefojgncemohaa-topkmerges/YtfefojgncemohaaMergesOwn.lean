/- Proved: the law TopkMerges answers true for every size and all lists of hits, and leaves them as they were; there is no condition on the input. -/
import Derived.Test.YtfefojgncemohaaLift
import Derived.Test.YtfefojgncemohaaMerges
import Derived.SizedLaws
namespace Go.Proofs.Ytfefojgncemohaa
open Go.ChangeShapes Go.WideShapes Go.ChangeAt Go.RowKit Go.Joins Go.Deep

theorem Try.bytes26 : Try.prog.bytesOf 26 = 24 := by kernel_rfl
theorem Try.bytes30 : Try.prog.bytesOf 30 = 24 := by kernel_rfl
theorem weights_in {H : Type} {e : TypeId} {d : DataW H} : ∀ {l : List (DataW H)}, d ∈ l → ∀ n ∈ d.weights Try.prog e, n ∈ DataW.weightsAll Try.prog e l
  | x :: r, h, n, hn => by
    simp only [DataW.weightsAll, List.mem_append]
    cases List.mem_cons.1 h with
    | inl h => subst h; exact .inl hn
    | inr h => exact .inr (weights_in h n hn)
/-- A list that was read is no longer than its memory. -/
theorem trod30_sz {H : Type} {enc : TypeId × Value → H} {W : World} {base fuel : Nat} {hd : Bool} {v : Value} {l : List Ht} {x : DataW H × List MemPlace}
    (h : DataW.trod enc Try.prog W base (fun _ => true) hd fuel 30 [v] = some x) (hr : Rd W v l) (hw : ∀ n ∈ x.1.weights Try.prog 30, n ≤ reachBytes) : l.length ≤ reachBytes := by
  rcases open_slice Try.underlying30 h with ⟨e, _⟩ | ⟨a, len, cap, m, n, D, Pl, e, _, hlc, hcm, _, rfl, _⟩
  · cases e
    rcases hr with ⟨_, rfl⟩ | ⟨_, _, e, _⟩ | ⟨_, _, _, e, _⟩
    · exact Nat.zero_le _
    · cases e
    · cases e
  · cases e
    have h1 := hw ((((List.range len).map D).length + ((List.range (m - len)).map fun j => D (len + j)).length) * Try.prog.bytesOf 26) (by simp [DataW.weights, Try.underlying30])
    rw [Try.bytes26] at h1
    simp only [List.length_map, List.length_range] at h1
    rcases hr with ⟨e, _⟩ | ⟨_, _, _, rfl⟩ | ⟨_, _, _, e, _⟩
    · cases e
    · exact Nat.zero_le _
    · cases e; omega
theorem open_lists_sz {H : Type} {enc : TypeId × Value → H} {W : World} {b0 : Nat} {r : Reach} {v : Value} {d : DataW H} {p : List MemPlace}
    (hv' : Value.okWide Try.prog W r b0 45 v) (h : DataW.Trod enc Try.prog W 0 (fun _ => true) true 45 v d p) (hw : ∀ n ∈ d.weights Try.prog 45, n ≤ reachBytes) :
    ∃ ls, RdL W v ls ∧ ls.length ≤ reachBytes ∧ ∀ i, i < ls.length → ls[i]!.length ≤ reachBytes := by
  obtain ⟨a0, len0, cap0, rfl⟩ := okWide_slice Try.underlying45 hv'
  obtain ⟨fuel, hf⟩ := h
  rcases open_slice1 Try.underlying45 Try.cells30 (by simpa [Value.cells] using hf) with ⟨e, _⟩ | ⟨a, len, cap, m, n, V, D, Pl, e, _, hlc, hcm, hm, hD, hx⟩
  · cases e
    exact ⟨[], ⟨none, 0, rfl, fun i hi => absurd hi (Nat.not_lt_zero _)⟩, Nat.zero_le _, fun i hi => absurd hi (Nat.not_lt_zero _)⟩
  · cases e
    rw [if_pos rfl] at hm
    subst hm
    have hd : d = .slice ((List.range len0).map D) ((List.range (m - len0)).map fun j => D (len0 + j)) := congrArg Prod.fst hD
    subst hd
    have h1 := hw ((((List.range len0).map D).length + ((List.range (m - len0)).map fun j => D (len0 + j)).length) * Try.prog.bytesOf 30) (by simp [DataW.weights, Try.underlying45])
    rw [Try.bytes30] at h1
    simp only [List.length_map, List.length_range] at h1
    have hy : ∀ i, i < len0 → ∃ l : List Ht, Rd W (V i) l ∧ l.length ≤ reachBytes := by
      intro i hi
      obtain ⟨_, ht⟩ := hx i (by omega)
      obtain ⟨v, l, e, hr⟩ := trod30 ht
      cases e
      refine ⟨l, hr, trod30_sz ht hr (fun n hn => hw n ?_)⟩
      simp only [DataW.weights, Try.underlying45, List.mem_cons, List.mem_append]
      exact .inr (.inl (weights_in (List.mem_map.2 ⟨i, List.mem_range.2 hi, rfl⟩) n hn))
    obtain ⟨Y, hY⟩ := choose_lt (α := List Ht) (p := fun i l => Rd W (V i) l ∧ l.length ≤ reachBytes) hy
    have hg : ∀ i, i < len0 → ((List.range len0).map Y)[i]! = Y i := by
      intro i hi
      rw [getElem!_pos _ i (by simpa using hi)]; simp
    refine ⟨(List.range len0).map Y, ⟨some a, m, by simp, fun i hi => ?_⟩, by simp; omega, fun i hi => ?_⟩
    · have hi' : i < len0 := by simpa using hi
      have ha : a = ⟨a.block, a.off, none⟩ := spot_none (by simpa [Addr.add] using (hx 0 (by omega)).1)
      refine ⟨a.block, a.off, V i, by rw [← ha], ?_, by rw [hg i hi']; exact (hY i hi').1⟩
      have := (hx i (by omega)).1
      rwa [ha, Addr.add_lit] at this
    · have hi' : i < len0 := by simpa using hi
      rw [hg i hi']
      exact (hY i hi').2

set_option maxRecDepth 100000 in
set_option maxHeartbeats 2000000 in
theorem merges_long (k : Int) {w : World} {v : Value} {ls : List (List Ht)} (hv : RdL w v ls) (hT : 3000 < ls.length + tot ls) (hl : ls.length ≤ 4611686018427387904) (hmx : ∀ i, i < ls.length → ls[i]!.length ≤ 4611686018427387904) :
    Calls Try.prog 5 #[.int .i64 k, v] w fun e w' => e = .returned (.bool true) ∧ Gr w w' := by
  have htot := total_c hv hl hmx
  clear hl hmx
  obtain ⟨a, cap, rfl, _⟩ := hv
  generalize ls.length = n at htot hT
  go_enter Try.func5, Try.ntmps5
  go_wp2_with fail
  refine htot.mono ?_
  rintro e w0 ⟨⟨T, rfl, hTT⟩, rfl⟩
  have hT3 : (3000 : Int) < T := by omega
  clear htot hTT hT
  go_wp2_with fail
  refine (awake_any _).mono ?_
  rintro e w4 ⟨rfl, g4⟩
  go_wp2
  go_ret
  exact ⟨rfl, g4⟩
theorem topkMerges_any (k : Int) {w : World} {v : Value} {ls : List (List Ht)} (hv : RdL w v ls) (h1 : ls.length ≤ reachBytes) (h2 : ∀ i, i < ls.length → ls[i]!.length ≤ reachBytes) :
    Calls Try.prog 5 #[.int .i64 k, v] w fun e w' => e = .returned (.bool true) ∧ Gr w w' := by
  have hx : reachBytes ≤ 4611686018427387904 := by decide
  have h3 : ∀ i, i < ls.length → ls[i]!.length ≤ 4611686018427387904 := fun i hi => Nat.le_trans (h2 i hi) hx
  by_cases hT : ls.length + tot ls ≤ 3000
  · refine merges_in k hv hT (fun i hi => ?_) h3
    have e1 := tot_take_succ ls i hi
    have e2 := tot_take_le ls (i + 1)
    omega
  · exact merges_long k hv (by omega) (Nat.le_trans h1 hx) h3

set_option maxRecDepth 100000 in
theorem topkMerges_lifted (os : Os) (started : os.Started) (H : Type) (enc : TypeId × Value → H) :
    ReturnsInHanded {} Try.checked os 5 .any (Rows.topkMergesSpec.pre6 enc Try.prog Try.f5 Rows.topkMergesRow.domain false) (Rows.topkMergesSpec.post enc Try.prog Try.f5 false true false false) := by
  refine returnsInHanded_of_change_sized (C := Try.checked) Try.own started (by kernel_rfl) Try.func5
    (ChangeSpec.witness6 (enc := enc) (C := Try.checked) false ⟨#[], #[.int .i64 0, .slice none 0 0], []⟩ 8 (by kernel_rfl) (by kernel_rfl) (by kernel_rfl) (by kernel_rfl)) ?_
  intro W base args ds gs before hval0 hW _ hsz0 _
  have hsz : (DataW.weightsEach Try.prog (Try.f5.params.toList ++ Rows.topkMergesSpec.plain.varTypes Try.prog) (ds ++ gs)).all (· ≤ reachBytes) = true := hsz0
  have hval : ∀ (j : Nat) t v, Try.f5.params[j]? = some t → args[j]? = some v → Value.okWide Try.prog W .any base t v := hval0
  have hW' := hW
  obtain ⟨p, q, hA0, hV, rfl, _, _⟩ := hW
  have hA : DataW.TrodAll enc Try.prog W 0 (fun _ => true) true Try.f5.params.toList args.toList ds p := hA0
  rw [Try.params5] at hA hval hsz
  obtain ⟨v0, v1, d0, d1, p0, p1, rfl, rfl, rfl, h0, h1⟩ := trodAll_two hA
  obtain ⟨rfl, rfl⟩ := trodVars_none hV
  obtain ⟨k, rfl, rfl, rfl, _⟩ := open_int Try.underlying3 (hval 0 3 v0 rfl rfl) h0
  obtain ⟨ls, hr, hl1, hl2⟩ := open_lists_sz (hval 1 45 v1 rfl rfl) h1 (fun n hn => of_decide_eq_true (List.all_eq_true.1 hsz n (DataW.weights_mem_each (j := 1) (t := 45) rfl rfl n hn)))
  refine (topkMerges_any k hr hl1 hl2).mono fun e W' ⟨he, hg⟩ => ?_
  subst he
  exact ⟨_, rfl, law_post hW' rfl (by kernel_rfl) rfl (by rw [Try.params5]; intro t ht; simp at ht; rcases ht with rfl | rfl <;> exact ⟨by kernel_rfl, of_decide_eq_true (by kernel_rfl)⟩) hg⟩

theorem topkMerges_holds : Rows.TopkMergesSaid :=
  OpenClaim.holds_of_wide 5 Try.f5 rfl rfl rfl rfl rfl rfl rfl ⟨rfl, rfl, rfl, rfl, rfl⟩ rfl rfl rfl rfl rfl (by kernel_rfl) Try.func5 (by kernel_rfl)
    (of_decide_eq_true (by kernel_rfl)) (by unfold Func.isWrapper; first | (rw [if_pos (by decide +kernel)]; kernel_rfl) | (rw [if_neg (by decide +kernel)]; exact ⟨rfl, rfl⟩))
    (fun os started H enc _ => topkMerges_lifted os started H enc)
#print axioms topkMerges_holds

end Go.Proofs.Ytfefojgncemohaa
