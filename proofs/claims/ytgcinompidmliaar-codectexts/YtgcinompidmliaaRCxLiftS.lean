/- Rows that came in, with the form's own reach: none is longer than its memory. -/
import Derived.Test.YtgcinompidmliaaRCxLift
import Derived.SizedLaws
namespace Go.Proofs.YtgcinompidmliaaR
open Go.ChangeShapes Go.WideShapes Go.ChangeAt Go.RowKit Go.Joins Go.Deep

theorem Try.bytesI : Try.prog.bytesOf 3 = 8 := by kernel_rfl
theorem Try.bytesR : Try.prog.bytesOf 63 = 32 := by kernel_rfl
theorem weights_in {H : Type} {e : TypeId} {d : DataW H} : ∀ {l : List (DataW H)}, d ∈ l → ∀ n ∈ d.weights Try.prog e, n ∈ DataW.weightsAll Try.prog e l
  | x :: r, h, n, hn => by
    simp only [DataW.weightsAll, List.mem_append]
    cases List.mem_cons.1 h with
    | inl h => subst h; exact .inl hn
    | inr h => exact .inr (weights_in h n hn)
theorem trodI_sz {H : Type} {enc : TypeId × Value → H} {W : World} {base fuel : Nat} {hd : Bool} {v : Value} {l : List Int} {x : DataW H × List MemPlace}
    (h : DataW.trod enc Try.prog W base (fun _ => true) hd fuel 35 [v] = some x) (hr : RdI W v l) (hw : ∀ n ∈ x.1.weights Try.prog 35, n ≤ reachBytes) : l.length ≤ reachBytes := by
  rcases open_slice Try.underlying35 h with ⟨e, _⟩ | ⟨a, len, cap, m, n, D, Pl, e, _, hlc, hcm, _, rfl, _⟩
  · cases e
    obtain ⟨_, _, e, _⟩ := hr
    injection e with _ e2 _
    omega
  · cases e
    have h1 := hw ((((List.range len).map D).length + ((List.range (m - len)).map fun j => D (len + j)).length) * Try.prog.bytesOf 3) (by simp [DataW.weights, Try.underlying35])
    rw [Try.bytesI] at h1
    simp only [List.length_map, List.length_range] at h1
    obtain ⟨_, _, e, _⟩ := hr
    injection e with _ e2 _
    omega
set_option maxRecDepth 100000 in
theorem open_rows_sz {H : Type} {enc : TypeId × Value → H} {W : World} {b0 : Nat} {r : Reach} {v : Value} {d : DataW H} {p : List MemPlace}
    (hv' : Value.okWide Try.prog W r b0 38 v) (h : DataW.Trod enc Try.prog W 0 (fun _ => true) true 38 v d p) (hw : ∀ n ∈ d.weights Try.prog 38, n ≤ reachBytes) :
    ∃ rs : List Rw, RdW W v rs ∧ rs.length ≤ reachBytes ∧ (∀ i, i < rs.length → (Lit.int .i64 rs[i]!.1).wf = true) ∧ (∀ i, i < rs.length → rs[i]!.2.length ≤ reachBytes) ∧ ∀ a n c, v = .slice a n c → n ≤ c := by
  obtain ⟨a0, len, cap, rfl⟩ := okWide_slice Try.underlying38 hv'
  obtain ⟨fuel, hf⟩ := h
  rcases open_slice Try.underlying38 (by simpa [Value.cells] using hf) with ⟨e, _⟩ | ⟨a, len, cap, m, n, D, Pl, e, _, hlc, hcm, hm, hD, hx⟩
  · cases e
    exact ⟨[], ⟨none, 0, rfl, fun i hi => absurd hi (Nat.not_lt_zero _)⟩, Nat.zero_le _, fun i hi => absurd hi (Nat.not_lt_zero _), fun i hi => absurd hi (Nat.not_lt_zero _), fun a n c e => by cases e; exact Nat.le_refl _⟩
  · cases e
    rw [if_pos rfl] at hm
    subst hm
    have hd : d = .slice ((List.range len).map D) ((List.range (m - len)).map fun j => D (len + j)) := congrArg Prod.fst hD
    subst hd
    have hw0 := hw ((((List.range len).map D).length + ((List.range (m - len)).map fun j => D (len + j)).length) * Try.prog.bytesOf 63) (by simp [DataW.weights, Try.underlying38])
    rw [Try.bytesR] at hw0
    simp only [List.length_map, List.length_range] at hw0
    have hy : ∀ i, i < len → ∃ y : Rw, (∃ u, W.cell? (a.add (i * 2)) = some (.int .i64 y.1) ∧ W.cell? ((a.add (i * 2)).add 1) = some u ∧ RdI W u y.2) ∧ (Lit.int .i64 y.1).wf = true ∧ y.2.length ≤ reachBytes := by
      intro i hi
      obtain ⟨cs, hc, ht⟩ := hx i (by omega)
      obtain ⟨z0, z1, k, hz, hl1, j0, j1⟩ := trod_struct2 Try.underlying63 ht
      rw [Try.cells63] at hl1 hc
      match cs, hl1 with
      | [c0, c1], _ =>
        obtain ⟨x, e5, _, wx⟩ := DataW.trod_int Try.underlying3 j0
        obtain ⟨u, l, e6, rl, ll⟩ := trod22 j1
        have j2 := j1
        rw [e6] at j2
        simp [Try.cells3, Try.cells35] at e5 e6
        subst e5 e6
        obtain ⟨_, _, hcc⟩ := World.cells?_some hc
        have q0 := hcc 0 (by omega)
        have q1 := hcc 1 (by omega)
        refine ⟨(x, l), ⟨_, by simpa [Addr.add] using q0, by simpa using q1, rl⟩, wx, trodI_sz j2 rl (fun n hn => hw n ?_)⟩
        have hz' : D i = .agg [z0.1, z1.1] := congrArg Prod.fst hz
        simp only [DataW.weights, Try.underlying38, List.mem_cons, List.mem_append]
        refine .inr (.inl (weights_in (d := D i) (List.mem_map.2 ⟨i, List.mem_range.2 hi, rfl⟩) n ?_))
        rw [hz']
        simp only [DataW.weights, Try.underlying63, List.map_cons, List.map_nil, DataW.weightsEach, List.mem_append]
        exact .inr (.inl hn)
    obtain ⟨Y, hY⟩ := choose_lt (α := Rw) (p := fun i y => (∃ u, W.cell? (a.add (i * 2)) = some (.int .i64 y.1) ∧ W.cell? ((a.add (i * 2)).add 1) = some u ∧ RdI W u y.2) ∧ (Lit.int .i64 y.1).wf = true ∧ y.2.length ≤ reachBytes) hy
    have hg : ∀ i, i < len → ((List.range len).map Y)[i]! = Y i := by
      intro i hi
      rw [getElem!_pos _ i (by simpa using hi)]; simp
    refine ⟨(List.range len).map Y, ⟨some a, m, by simp, fun i hi => ?_⟩, by simp; omega, fun i hi => ?_, fun i hi => ?_, fun a n c e => by cases e; exact hlc⟩
    · have hi' : i < len := by simpa using hi
      obtain ⟨⟨u0, q0, _⟩, _⟩ := hY 0 (by omega)
      have ha : a = ⟨a.block, a.off, none⟩ := spot_none (by simpa [Addr.add] using q0)
      obtain ⟨⟨u, q1, q2, q3⟩, _⟩ := hY i hi'
      rw [hg i hi']
      rw [ha, Addr.add_lit] at q1
      rw [ha, Addr.add_lit, Addr.add_lit] at q2
      exact ⟨a.block, a.off, u, by rw [← ha], q1, q2, q3⟩
    · have hi' : i < len := by simpa using hi
      rw [hg i hi']; exact (hY i hi').2.1
    · have hi' : i < len := by simpa using hi
      rw [hg i hi']; exact (hY i hi').2.2
end Go.Proofs.YtgcinompidmliaaR
