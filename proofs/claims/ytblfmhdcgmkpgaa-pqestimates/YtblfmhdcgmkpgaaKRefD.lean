/- The reference's down; lists of vectors that the call lays together; the reference's Same. -/
import Derived.Test.YtblfmhdcgmkpgaaKRef
import Derived.Test.YtblfmhdcgmkpgaaKMove
import Derived.Test.YtblfmhdcgmkpgaaKBel
import Derived.Test.YtblfmhdcgmkpgaaRSame
import Derived.BigQuiet
namespace Go.Proofs.Ytblfmhdcgmkpgaa
open Go.RowKit Go.Maps

set_option maxHeartbeats 1000000 in
theorem rdown_c (a : Int) (b : Nat) (hb : 0 < b) (hbb : b ≤ 1000000) (ha : -4611686018427387904 ≤ a ∧ a ≤ 4611686018427387904) (w : World) :
    Calls Try.prog 64 #[.int .i64 a, .int .i64 (b : Int)] w fun e w' => e = .returned (.int .i64 (a / b)) ∧ w = w' := by
  have h1 := Int.tmod_add_mul_tdiv a b
  have h2 := Int.lt_tmod_of_pos a (b := (b : Int)) (by omega)
  have h3 := Int.tmod_lt_of_pos a (b := (b : Int)) (by omega)
  have hm : (b : Int) * a.tdiv b = a.tdiv b * b := Int.mul_comm _ _
  rw [hm] at h1
  have hq : -4611686018427387904 ≤ a / b ∧ a / b ≤ 4611686018427387904 := by
    refine div_within (by omega) ?_ ?_
    · have : (-4611686018427387904 : Int) * b ≤ -4611686018427387904 := by omega
      omega
    · have : (4611686018427387904 : Int) ≤ 4611686018427387904 * b := by omega
      omega
  have hb0 : ((b : Int) == 0) = false := by rw [beq_eq_false_iff_ne]; omega
  have hb1 : ¬ (b : Int) = 0 := by omega
  have hb2 : ¬ (b : Int) = -1 := by omega
  have wm : wrap64 (a.tdiv b * b) = a.tdiv b * b := by simp only [wrap64]; omega
  by_cases h : a.tmod b < 0
  · have e := div_neg hb h
    have hq2 : -4611686018427387904 ≤ a.tdiv b ∧ a.tdiv b ≤ 4611686018427387905 := by omega
    obtain ⟨q1, q2⟩ := hq2
    have w1 : IntKind.i64.wrap (a.tdiv b) = a.tdiv b := by rw [IntKind.wrap_i64]; omega
    have w2 : IntKind.i64.wrap (a.tdiv b - 1) = a.tdiv b - 1 := by rw [IntKind.wrap_i64]; omega
    have hlt : a < wrap64 (a.tdiv b * b) := by rw [wm]; omega
    have E : Hid (a.tdiv b - 1 = a / b) := e
    clear h1 h2 h3 hm hq e h wm
    go_enter Try.func64, Try.ntmps64
    go_wp2
    go_ret
    exact ⟨by rw [← E.out]; first | rfl | simp, rfl⟩
  · have e := div_pos hb h
    have hq2 : -4611686018427387904 ≤ a.tdiv b ∧ a.tdiv b ≤ 4611686018427387905 := by omega
    obtain ⟨q1, q2⟩ := hq2
    have w1 : IntKind.i64.wrap (a.tdiv b) = a.tdiv b := by rw [IntKind.wrap_i64]; omega
    have hlt : ¬ a < wrap64 (a.tdiv b * b) := by rw [wm]; omega
    have E : Hid (a.tdiv b = a / b) := e
    clear h1 h2 h3 hm hq e h wm
    go_enter Try.func64, Try.ntmps64
    go_wp2
    go_ret
    exact ⟨by rw [← E.out]; first | rfl | simp, rfl⟩
/-- Numbers, and vectors, that are read out of these blocks alone. -/
def RdIP (P : Nat → Prop) (W : World) (u : Value) (x : List Int) : Prop := ∃ a cap, u = .slice a x.length cap ∧ ∀ i, i < x.length → ∃ b o, a = some ⟨b, o, none⟩ ∧ P b ∧ W.cell? ⟨b, o + i, none⟩ = some (.int .i64 x[i]!)
theorem RdIP.rd {P : Nat → Prop} {W : World} {u : Value} {x : List Int} (h : RdIP P W u x) : RdI W u x := by
  obtain ⟨a, cap, e, h⟩ := h
  refine ⟨a, cap, e, fun i hi => ?_⟩
  obtain ⟨b, o, e1, _, e2⟩ := h i hi
  exact ⟨b, o, e1, e2⟩
theorem RdIP.agree {P : Nat → Prop} {W W' : World} {u : Value} {x : List Int} (h : RdIP P W u x) (g : ∀ k, k < W.heap.size → P k → W'.heap[k]? = W.heap[k]?) : RdIP P W' u x := by
  obtain ⟨a, cap, e, h⟩ := h
  refine ⟨a, cap, e, fun i hi => ?_⟩
  obtain ⟨b, o, e1, hp, e2⟩ := h i hi
  exact ⟨b, o, e1, hp, (World.cell?_of_block (a := ⟨b, o + i, none⟩) (g b (World.block_lt_of_cell? W _ e2) hp)).trans e2⟩
theorem RdIP.gb {P : Nat → Prop} {W W' : World} {u : Value} {x : List Int} (h : RdIP P W u x) (g : Gb W W') : RdIP P W' u x := h.agree fun k hk _ => g.block k hk
theorem rdip_of {P : Nat → Prop} {W : World} {u : Value} {x : List Int} (h : RdI W u x) (hp : ∀ b, b < W.heap.size → P b) : RdIP P W u x := by
  obtain ⟨a, cap, e, h⟩ := h
  refine ⟨a, cap, e, fun i hi => ?_⟩
  obtain ⟨b, o, e1, e2⟩ := h i hi
  exact ⟨b, o, e1, hp b (World.block_lt_of_cell? W _ e2), e2⟩
def RdVP (P : Nat → Prop) (W : World) (v : Value) (vs : Vs) : Prop := ∃ a cap, v = .slice a vs.length cap ∧ ∀ i, i < vs.length → ∃ b o u, a = some ⟨b, o, none⟩ ∧ P b ∧ W.cell? ⟨b, o + i, none⟩ = some u ∧ RdIP P W u vs[i]!
theorem RdVP.rd {P : Nat → Prop} {W : World} {v : Value} {vs : Vs} (h : RdVP P W v vs) : RdV W v vs := by
  obtain ⟨a, cap, e, h⟩ := h
  refine ⟨a, cap, e, fun i hi => ?_⟩
  obtain ⟨b, o, u, e1, _, e2, e3⟩ := h i hi
  exact ⟨b, o, u, e1, e2, e3.rd⟩
theorem RdVP.agree {P : Nat → Prop} {W W' : World} {v : Value} {vs : Vs} (h : RdVP P W v vs) (g : ∀ k, k < W.heap.size → P k → W'.heap[k]? = W.heap[k]?) : RdVP P W' v vs := by
  obtain ⟨a, cap, e, h⟩ := h
  refine ⟨a, cap, e, fun i hi => ?_⟩
  obtain ⟨b, o, u, e1, hp, e2, e3⟩ := h i hi
  exact ⟨b, o, u, e1, hp, (World.cell?_of_block (a := ⟨b, o + i, none⟩) (g b (World.block_lt_of_cell? W _ e2) hp)).trans e2, e3.agree g⟩
theorem RdVP.gb {P : Nat → Prop} {W W' : World} {v : Value} {vs : Vs} (h : RdVP P W v vs) (g : Gb W W') : RdVP P W' v vs := h.agree fun k hk _ => g.block k hk
theorem rdvp_of {P : Nat → Prop} {W : World} {v : Value} {vs : Vs} (h : RdV W v vs) (hp : ∀ b, b < W.heap.size → P b) : RdVP P W v vs := by
  obtain ⟨a, cap, e, h⟩ := h
  refine ⟨a, cap, e, fun i hi => ?_⟩
  obtain ⟨b, o, u, e1, e2, e3⟩ := h i hi
  exact ⟨b, o, u, e1, hp b (World.block_lt_of_cell? W _ e2), e2, rdip_of e3 hp⟩
theorem rdvp_nil (P : Nat → Prop) (w : World) : RdVP P w (.slice none 0 0) [] := ⟨none, 0, rfl, fun _ hi => absurd hi (Nat.not_lt_zero _)⟩
/-- A vector that could be read of old, or that lies in a block of numbers. -/
def RdZ (P : Nat → Prop) (w W : World) (u : Value) (x : List Int) : Prop := RdIP P w u x ∨ ∃ g cap f, u = .slice (some ⟨g, 0, none⟩) x.length cap ∧ P g ∧ Rn.Arr W g x.length cap f ∧ ∀ t, t < x.length → f t = x[t]!
theorem RdZ.rd {P : Nat → Prop} {w W : World} {u : Value} {x : List Int} (h : RdZ P w W u x) (g : Gb w W) : RdIP P W u x := by
  rcases h with h | ⟨b, cap, f, rfl, hp, h1, h2⟩
  · exact h.gb g
  · refine ⟨_, cap, rfl, fun i hi => ⟨b, 0, rfl, hp, ?_⟩⟩
    rw [Nat.zero_add, h1.cell hi, h2 i hi]
theorem RdZ.kept {P : Nat → Prop} {w W W' : World} {u : Value} {x : List Int} {row : Option Nat} (h : RdZ P w W u x) (hg : W.grownBy W' row) (hr : ∀ (k : Nat) (cur : Array Value), row = some k → W.heap[k]? ≠ some (.cells cur 3 (0, 0))) : RdZ P w W' u x := by
  rcases h with h | ⟨b, cap, f, rfl, hp, h1, h2⟩
  · exact .inl h
  · refine .inr ⟨b, cap, f, rfl, hp, h1.kept hg (fun e => ?_), h2⟩
    obtain ⟨cur, h3, _⟩ := h1
    exact hr b cur e.symm h3
theorem RdZ.gb {P : Nat → Prop} {w W W' : World} {u : Value} {x : List Int} (h : RdZ P w W u x) (g : Gb W W') : RdZ P w W' u x :=
  h.kept (row := none) ⟨g.os, g.tape, g.output, g.size, fun k hk _ => g.block k hk⟩ (fun k cur e => by cases e)
/-- The call owns, in blocks from B on, a list v of these vectors, each of which can be read. -/
def OwnV (P : Nat → Prop) (w W : World) (B : Nat) (v : Value) (vs : Vs) : Prop := ∃ xs, W.ownsRow B 40 1 v vs.length xs ∧ ∀ i, i < vs.length → ∃ u, xs[i]? = some u ∧ RdZ P w W u vs[i]!
theorem ownV_nil (P : Nat → Prop) (w W : World) (B : Nat) : OwnV P w W B (.slice none 0 0) [] := ⟨[], World.ownsRow_nil W B _ _, fun _ hi => absurd hi (Nat.not_lt_zero _)⟩
theorem OwnV.gb {P : Nat → Prop} {w W W' : World} {B : Nat} {v : Value} {vs : Vs} (h : OwnV P w W B v vs) (g : Gb W W') : OwnV P w W' B v vs := by
  obtain ⟨xs, h1, h2⟩ := h
  refine ⟨xs, h1.kept (row := none) ⟨g.os, g.tape, g.output, g.size, fun k hk _ => g.block k hk⟩ (by cases hv : v.ownBlock <;> simp), fun i hi => ?_⟩
  obtain ⟨u, e, r⟩ := h2 i hi
  exact ⟨u, e, r.gb g⟩
theorem OwnV.rd {P : Nat → Prop} {w W : World} {B : Nat} {v : Value} {vs : Vs} (h : OwnV P w W B v vs) (g : Gb w W) (hP : ∀ b, B ≤ b → P b) : RdVP P W v vs := by
  obtain ⟨xs, h, hx⟩ := h
  rcases h.2 with ⟨rfl, h0⟩ | ⟨b, cap, cur, rfl, hb, _⟩
  · have : vs = [] := List.eq_nil_of_length_eq_zero h0
    subst this
    exact rdvp_nil _ _
  · refine ⟨_, cap, rfl, fun i hi => ?_⟩
    obtain ⟨u, h2, h3⟩ := hx i hi
    have c1 := World.ownsRow.cells h (g := b) rfl i _ h2
    rw [Addr.add_lit] at c1
    exact ⟨b, 0, u, rfl, hP b hb, c1, h3.rd g⟩
theorem OwnV.push {P : Nat → Prop} {w W2 : World} {B : Nat} {v' : Value} {vs : Vs} {x : List Int} {u : Value} {xs : List Value} (hx : ∀ i, i < vs.length → ∃ u, xs[i]? = some u ∧ RdZ P w W2 u vs[i]!) (hl : xs.length = vs.length) (hu : RdZ P w W2 u x)
    (hr : W2.ownsRow B 40 1 v' (vs.length + 1) (xs ++ [u])) : OwnV P w W2 B v' (vs ++ [x]) := by
  refine ⟨xs ++ [u], by rw [List.length_append]; exact hr, fun i hi => ?_⟩
  rw [List.length_append] at hi
  by_cases e : i < vs.length
  · rw [getElem!_pos (vs ++ [x]) i (by rw [List.length_append]; exact hi), List.getElem_append_left e, ← getElem!_pos vs i e, List.getElem?_append_left (by omega)]
    exact hx i e
  · have e' : i = vs.length := by simp at hi; omega
    subst e'
    have e2 : (vs ++ [x])[vs.length]! = x := by rw [getElem!_pos _ _ (by simp)]; simp
    rw [e2, List.getElem?_append_right (by omega), hl, Nat.sub_self]
    exact ⟨u, rfl, hu⟩
/-- A list of lists is in no block of numbers. -/
theorem row_type {W : World} {B n : Nat} {v : Value} {xs : List Value} {o : Obj} (h : W.ownsRow B 40 1 v n xs) (k : Nat) (cur : Array Value) (e : v.ownBlock = some k) : (W.alloc o).heap[k]? ≠ some (.cells cur 3 (0, 0)) := by
  rcases h.2 with ⟨rfl, _⟩ | ⟨g, cap, cur', rfl, _, hh, _⟩
  · cases e
  · cases e
    rw [Below.heap_alloc W _ g (Array.getElem?_eq_some_iff.1 hh).1, hh]
    simp
end Go.Proofs.Ytblfmhdcgmkpgaa
