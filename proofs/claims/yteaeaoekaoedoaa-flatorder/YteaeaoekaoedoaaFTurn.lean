/- The law's turned: a row is cut out of rows, all are laid behind one another. -/
import Derived.Test.YteaeaoekaoedoaaFNear
import Derived.ArgAppend
import Derived.Deep.Upon
namespace Go.Proofs.Yteaeaoekaoedoaa
open Go.RowKit Go.Sort Go.Maps Go.Deep

/-- What a cell holds. -/
def cellv (W : World) (b o : Nat) (j : Nat) : Value := (W.cell? ⟨b, o + j, none⟩).getD undef
/-- A slice of rows: its cells in W, its vectors in w. -/
def RdX (w W : World) (v : Value) (rs : List Rw) : Prop := ∃ a cap, v = .slice a rs.length cap ∧ rs.length ≤ cap ∧ ∀ i, i < rs.length → ∃ b o u, a = some ⟨b, o, none⟩ ∧ W.cell? ⟨b, o + i * 2, none⟩ = some (.int .i64 rs[i]!.1) ∧ W.cell? ⟨b, o + i * 2 + 1, none⟩ = some u ∧ RdI w u rs[i]!.2
theorem RdX.rdw {w W : World} {v : Value} {rs : List Rw} (h : RdX w W v rs) (g : Gb w W) : RdW W v rs := by
  obtain ⟨a, cap, e, _, h⟩ := h
  refine ⟨a, cap, e, fun i hi => ?_⟩
  obtain ⟨b, o, u, e1, e2, e3, e4⟩ := h i hi
  exact ⟨b, o, u, e1, e2, e3, e4.gb g⟩
theorem RdX.cells {w W W' : World} {b o n cap : Nat} {rs : List Rw} (h : RdX w W (.slice (some ⟨b, o, none⟩) n cap) rs) (hk : ∀ j, W'.cell? ⟨b, j, none⟩ = W.cell? ⟨b, j, none⟩) : RdX w W' (.slice (some ⟨b, o, none⟩) n cap) rs := by
  obtain ⟨a, cap', e, hc, h⟩ := h
  cases e
  refine ⟨_, _, rfl, hc, fun i hi => ?_⟩
  obtain ⟨b', o', u, e1, e2, e3, e4⟩ := h i hi
  cases e1
  exact ⟨b, o, u, rfl, by rw [hk]; exact e2, by rw [hk]; exact e3, e4⟩
theorem two_parts (j : Nat) : j = j / 2 * 2 ∨ j = j / 2 * 2 + 1 := by omega
/-- Each cell of rows is there. -/
theorem RdX.there {w W : World} {b o n cap : Nat} {rs : List Rw} (h : RdX w W (.slice (some ⟨b, o, none⟩) n cap) rs) {j : Nat} (hj : j < n * 2) : W.cell? ⟨b, o + j, none⟩ = some (cellv W b o j) := by
  obtain ⟨a, cap', e, _, h⟩ := h
  cases e
  obtain ⟨b', o', u, e1, e2, e3, _⟩ := h (j / 2) (by omega)
  cases e1
  unfold cellv
  rcases two_parts j with e | e
  · rw [← e] at e2; rw [e2]; rfl
  · rw [Nat.add_assoc, ← e] at e3; rw [e3]; rfl
theorem RdX.at {w W : World} {b o n cap : Nat} {rs : List Rw} (h : RdX w W (.slice (some ⟨b, o, none⟩) n cap) rs) {i : Nat} (hi : i < rs.length) : cellv W b o (i * 2) = .int .i64 rs[i]!.1 ∧ RdI w (cellv W b o (i * 2 + 1)) rs[i]!.2 := by
  obtain ⟨a, cap', e, _, h⟩ := h
  cases e
  obtain ⟨b', o', u, e1, e2, e3, e4⟩ := h i hi
  cases e1
  unfold cellv
  rw [Nat.add_assoc] at e3
  rw [e2, e3]
  exact ⟨rfl, e4⟩
/-- An own row of pairs of cells reads as rows. -/
theorem rdx_own {w W : World} {B : Nat} {v : Value} {rs : List Rw} {xs : List Value} (h : W.ownsRow B 52 2 v rs.length xs) (hx : ∀ i, i < rs.length → xs[i * 2]? = some (.int .i64 rs[i]!.1) ∧ ∃ u, xs[i * 2 + 1]? = some u ∧ RdI w u rs[i]!.2) : RdX w W v rs := by
  rcases h.2 with ⟨rfl, h0⟩ | ⟨g, cap, cur, rfl, _, _, hc, _⟩
  · have : rs = [] := List.eq_nil_of_length_eq_zero h0
    subst this
    exact ⟨none, 0, rfl, Nat.le_refl _, fun i hi => absurd hi (Nat.not_lt_zero _)⟩
  · refine ⟨_, cap, rfl, hc, fun i hi => ?_⟩
    obtain ⟨h1, u, h2, h3⟩ := hx i hi
    have c1 := World.ownsRow.cells h (g := g) rfl (i * 2) _ h1
    have c2 := World.ownsRow.cells h (g := g) rfl (i * 2 + 1) _ h2
    rw [Addr.add_lit] at c1 c2
    exact ⟨g, 0, u, rfl, c1, by rw [Nat.add_assoc]; exact c2, h3⟩

theorem range_get {n j : Nat} (f : Nat → Value) (hj : j < n) : ((List.range n).map f)[j]? = some (f j) := by
  rw [List.getElem?_map, List.getElem?_range hj]; rfl
theorem range_some {n j : Nat} {f : Nat → Value} {u : Value} (h : ((List.range n).map f)[j]? = some u) : j < n ∧ u = f j := by
  rw [List.getElem?_map] at h
  by_cases hj : j < n
  · rw [List.getElem?_range hj] at h
    simp at h
    exact ⟨hj, h.symm⟩
  · rw [List.getElem?_eq_none (by simp; omega)] at h
    cases h
theorem erase_get {rs : List Rw} {k i : Nat} (hk : k < rs.length) (hi : i < rs.length - 1) : (rs.eraseIdx k)[i]! = if i < k then rs[i]! else rs[i + 1]! := by
  have hl : (rs.eraseIdx k).length = rs.length - 1 := List.length_eraseIdx_of_lt hk
  rw [getElem!_pos (rs.eraseIdx k) i (by omega), List.getElem_eraseIdx]
  split
  · rw [getElem!_pos rs i (by omega)]
  · rw [getElem!_pos rs (i + 1) (by omega)]

theorem Try.infoR : (Try.prog.info? 52).map (fun i => (i.zero, i.size, i.bytes)) = some (some (.agg #[.int .i64 0, .slice none 0 0]), 2, 32) := by kernel_rfl
theorem info_partsR : ∃ i0, Try.prog.info? 52 = some i0 ∧ i0.zero = some (.agg #[.int .i64 0, .slice none 0 0]) ∧ i0.size = 2 ∧ i0.bytes = 32 := by
  obtain ⟨i, hi, hzz⟩ := Option.map_eq_some_iff.1 Try.infoR
  simp only [Prod.mk.injEq] at hzz
  exact ⟨i, hi, hzz.1, hzz.2.1, hzz.2.2⟩

/-- A row is cut out in its middle: the rows behind it are laid behind those ahead, in a new place. -/
theorem cut_mid {w W : World} {b o n cap k : Nat} {rs : List Rw} (h : RdX w W (.slice (some ⟨b, o, none⟩) n cap) rs) (hk : k + 1 < n) (hn : n ≤ 2000) (c : Nat) :
    ∃ v' W', (Builtin.append_ #[22, 22] 22 #[.slice (some ⟨b, o, none⟩) k k, .slice (some ⟨b, o + (k + 1) * 2, none⟩) (n - (k + 1)) c]).run Try.prog W = .ok v' W' ∧ RdX w W' v' (rs.eraseIdx k) ∧ W.grownBy W' none ∧ (∃ g c', v' = .slice (some ⟨g, 0, none⟩) (n - 1) c' ∧ W.heap.size ≤ g) := by
  have hl : n = rs.length := by obtain ⟨_, _, e, _⟩ := h; injection e
  obtain ⟨i0, hi, hz0, hz1, hz2⟩ := info_partsR
  obtain ⟨v', W', hr, ho, hg⟩ := run_append_arg_grows (P := Try.prog) W 22 22 52 i0 (.agg #[.int .i64 0, .slice none 0 0]) 2 32 Try.underlying22 hi hz0 hz1 hz2 rfl (by decide)
    ⟨b, o, none⟩ k k ((List.range (k * 2)).map (cellv W b o)) (by simp) (fun j u hj => by
      obtain ⟨h1, rfl⟩ := range_some hj
      rw [Addr.add_lit]; exact h.there (by omega))
    ⟨b, o + (k + 1) * 2, none⟩ (n - (k + 1)) c ((List.range ((n - (k + 1)) * 2)).map fun j => cellv W b o ((k + 1) * 2 + j)) (by simp) (fun j u hj => by
      obtain ⟨h1, rfl⟩ := range_some hj
      rw [Addr.add_lit, Nat.add_assoc]; exact h.there (by omega)) (by omega) (by unfold maxLen; omega) (by omega)
  have hkn : k + (n - (k + 1)) = n - 1 := by omega
  have hel : (rs.eraseIdx k).length = n - 1 := by rw [List.length_eraseIdx_of_lt (by omega), hl]
  rw [hkn] at ho
  refine ⟨v', W', hr, ?_, hg, ?_⟩
  · refine rdx_own (by rw [hel]; exact ho) (fun i hi => ?_)
    rw [hel] at hi
    rw [erase_get (by omega) (by omega)]
    by_cases e : i < k
    · rw [if_pos e]
      obtain ⟨h1, h2⟩ := h.at (i := i) (by omega)
      refine ⟨?_, _, ?_, h2⟩
      · rw [List.getElem?_append_left (by simp; omega), range_get _ (by omega), h1]
      · rw [List.getElem?_append_left (by simp; omega), range_get _ (by omega)]
    · rw [if_neg e]
      obtain ⟨h1, h2⟩ := h.at (i := i + 1) (by omega)
      have e1 : (k + 1) * 2 + (i * 2 - k * 2) = (i + 1) * 2 := by omega
      have e2 : (k + 1) * 2 + (i * 2 + 1 - k * 2) = (i + 1) * 2 + 1 := by omega
      refine ⟨?_, _, ?_, h2⟩
      · rw [List.getElem?_append_right (by simp; omega)]
        simp only [List.length_map, List.length_range]
        rw [range_get _ (by omega), e1, h1]
      · rw [List.getElem?_append_right (by simp; omega)]
        simp only [List.length_map, List.length_range]
        rw [range_get _ (by omega), e2]
  · rcases ho.2 with ⟨rfl, h0⟩ | ⟨g, c', cur, rfl, hB, _⟩
    · omega
    · exact ⟨g, c', rfl, hB⟩
end Go.Proofs.Yteaeaoekaoedoaa
