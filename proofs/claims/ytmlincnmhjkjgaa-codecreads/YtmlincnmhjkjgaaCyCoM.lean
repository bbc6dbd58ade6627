/- GetRows: its rows, plainly, and in memory. -/
import Derived.Test.YtmlincnmhjkjgaaCyCoL
import Derived.Test.YtmlincnmhjkjgaaCyFLend
namespace Go.Proofs.Ytmlincnmhjkjgaa
open Go.RowKit Go.Lib

/-- A row, rows from the beginning on. -/
def rwO (d : Nat) (l : List UInt8) : Rw := ((leN (tk 4 l) : Int), vecOf d (l.drop 4))
def rwI (d : Nat) (l : List UInt8) (i : Nat) : Rw := rwO d (l.drop (i * (4 + 4 * d)))
def rsO (d c : Nat) (l : List UInt8) : List Rw := (List.range c).map (rwI d l)
theorem rsO_length (d c : Nat) (l : List UInt8) : (rsO d c l).length = c := by simp [rsO]
theorem rsO_get {d c : Nat} {l : List UInt8} {i : Nat} (hi : i < c) : (rsO d c l)[i]! = rwI d l i := by
  rw [getElem!_pos _ i (by rw [rsO_length]; exact hi)]; simp [rsO]
/-- What GetRows reads: the dimension, how many rows, these; is it rows' text? -/
def hD (l : List UInt8) : Nat := leN (tk 1 l)
def hC (l : List UInt8) : Nat := leN (tk 2 (l.drop 1))
def hR (l : List UInt8) : List Rw := rsO (hD l) (hC l) (l.drop 3)
def HOk (l : List UInt8) : Prop := l.length = 3 + hC l * (4 + 4 * hD l) ∧ crE (hR l) = 0 ∧ hD l = dimR (hR l)
open Classical in
noncomputable def grP (l : List UInt8) (w w' : World) (e : Ending) : Prop :=
  if HOk l then ∃ v', e = .returned (.tuple #[v', .int .i64 0]) ∧ RdW w' v' (hR l) ∧ Rm v' ∧ Gb w w'
  else e = .returned (.tuple #[.slice none 0 0, .int .i64 161]) ∧ Gb w w'
theorem RA.setA {W : World} {g n : Nat} {f : Nat → Value × Value} (h : RA W g n f) {i : Nat} (hi : i < n) (x : Value) :
    RA (W.setCell ⟨g, i * 2, none⟩ x) g n (fun t => if t = i then (x, (f t).2) else f t) := by
  obtain ⟨cur, h1, h2, h5⟩ := h
  refine ⟨cur.setIfInBounds (i * 2) x, heap_set0 h1, by simpa using h2, fun t ht => ?_⟩
  obtain ⟨a, b⟩ := h5 t ht
  rw [Array.getElem?_setIfInBounds_ne (i := i * 2) (j := t * 2 + 1) (by omega)]
  by_cases e : t = i
  · subst e
    simp only [if_true]
    exact ⟨by rw [Array.getElem?_setIfInBounds_self_of_lt (by omega)], b⟩
  · simp only [if_neg e]
    exact ⟨by rw [Array.getElem?_setIfInBounds_ne (by omega)]; exact a, b⟩
theorem RA.setB {W : World} {g n : Nat} {f : Nat → Value × Value} (h : RA W g n f) {i : Nat} (hi : i < n) (y : Value) :
    RA (W.setCell ⟨g, i * 2 + 1, none⟩ y) g n (fun t => if t = i then ((f t).1, y) else f t) := by
  obtain ⟨cur, h1, h2, h5⟩ := h
  refine ⟨cur.setIfInBounds (i * 2 + 1) y, heap_set0 h1, by simpa using h2, fun t ht => ?_⟩
  obtain ⟨a, b⟩ := h5 t ht
  rw [Array.getElem?_setIfInBounds_ne (i := i * 2 + 1) (j := t * 2) (by omega)]
  by_cases e : t = i
  · subst e
    simp only [if_true]
    exact ⟨a, by rw [Array.getElem?_setIfInBounds_self_of_lt (by omega)]⟩
  · simp only [if_neg e]
    exact ⟨a, by rw [Array.getElem?_setIfInBounds_ne (by omega)]; exact b⟩
/-- Rows under way: p are laid in block G. -/
def Arr (G c : Nat) (R : Nat → Rw) (p : Nat) (f : Nat → Value × Value) (W : World) : Prop := RA W G c f ∧ ∀ i, i < p → ∃ v, f i = (.int .i64 (R i).1, v) ∧ Own W (G + 1) v (R i).2
theorem own_kp2 {bt bs B : Nat} {W W' : World} {v : Value} {l : List Int} (h : Own W B v l) (h1 : bt < B) (h2 : bs < B) (k : Kp2 bt bs W W') : Own W' B v l := by
  refine ⟨h.1, ?_⟩
  rcases h.2 with e | ⟨g, cap, cur, e, hb, hg, r⟩
  · exact .inl e
  · exact .inr ⟨g, cap, cur, e, hb, (k.blk g (Array.getElem?_eq_some_iff.1 hg).1 (by omega) (by omega)).trans hg, r⟩
theorem Arr.kp {G c p bt bs : Nat} {R : Nat → Rw} {f : Nat → Value × Value} {W W' : World} (h : Arr G c R p f W) (h1 : bt < G) (h2 : bs < G) (k : Kp2 bt bs W W') : Arr G c R p f W' :=
  ⟨h.1.block (k.blk G h.1.lt (by omega) (by omega)), fun i hi => by
    obtain ⟨v, e, o⟩ := h.2 i hi
    exact ⟨v, e, own_kp2 o (by omega) (by omega) k⟩⟩
theorem Arr.setA {G c p : Nat} {R : Nat → Rw} {f : Nat → Value × Value} {W : World} (h : Arr G c R p f W) (hp : p < c) (x : Value) :
    Arr G c R p (fun t => if t = p then (x, (f t).2) else f t) (W.setCell ⟨G, p * 2, none⟩ x) :=
  ⟨h.1.setA hp x, fun i hi => by
    obtain ⟨v, e, o⟩ := h.2 i hi
    exact ⟨v, by show (if i = p then _ else _) = _; rw [if_neg (by omega)]; exact e, ownsRow_setCell_below o (a := ⟨G, p * 2, none⟩) (Nat.lt_succ_self _) x⟩⟩
theorem Arr.setB {G c p : Nat} {R : Nat → Rw} {f : Nat → Value × Value} {W : World} (h : Arr G c R p f W) (hp : p < c) (hf : (f p).1 = .int .i64 (R p).1) {y : Value} (hy : Own W (G + 1) y (R p).2) :
    Arr G c R (p + 1) (fun t => if t = p then ((f t).1, y) else f t) (W.setCell ⟨G, p * 2 + 1, none⟩ y) :=
  ⟨h.1.setB hp y, fun i hi => by
    by_cases e : i = p
    · subst e
      exact ⟨y, by show (if i = i then _ else _) = _; rw [if_pos rfl, hf], ownsRow_setCell_below hy (a := ⟨G, i * 2 + 1, none⟩) (Nat.lt_succ_self _) y⟩
    · obtain ⟨v, e1, o⟩ := h.2 i (by omega)
      exact ⟨v, by show (if i = p then _ else _) = _; rw [if_neg e]; exact e1, ownsRow_setCell_below o (a := ⟨G, p * 2 + 1, none⟩) (Nat.lt_succ_self _) y⟩⟩
theorem Arr.gb {G c p : Nat} {R : Nat → Rw} {f : Nat → Value × Value} {W W' : World} (h : Arr G c R p f W) (g : Gb W W') : Arr G c R p f W' :=
  ⟨h.1.block (g.block G h.1.lt), fun i hi => by
    obtain ⟨v, e, o⟩ := h.2 i hi
    exact ⟨v, e, o.gb g⟩⟩
theorem Arr.rd {G d c : Nat} {l : List UInt8} {f : Nat → Value × Value} {W : World} (h : Arr G c (rwI d l) c f W) : RdW W (.slice (some ⟨G, 0, none⟩) c c) (rsO d c l) := by
  refine ⟨_, c, by rw [rsO_length], fun i hi => ?_⟩
  rw [rsO_length] at hi
  obtain ⟨v, e, o⟩ := h.2 i hi
  have hc := h.1.cell hi
  rw [e] at hc
  rw [rsO_get hi]
  exact ⟨G, 0, v, rfl, by rw [Nat.zero_add]; exact hc.1, by rw [Nat.zero_add]; exact hc.2, o.rd⟩
theorem wf_small {x : Int} (h0 : 0 ≤ x) (h : x < 4294967296) : (Lit.int .i64 x).wf = true := by
  simp [Lit.wf, IntKind.min, IntKind.max, IntKind.signed, IntKind.bits]
  exact ⟨by omega, by omega⟩
theorem rsO_wf (d c : Nat) (l : List UInt8) (hc : c ≤ 65535) : WfR (rsO d c l) := by
  refine ⟨by rw [rsO_length]; omega, fun i hi => ?_⟩
  rw [rsO_length] at hi
  rw [rsO_get hi]
  exact wf_small (by unfold rwI rwO; omega) (by have := tk_lt 4 (l.drop (i * (4 + 4 * d))); unfold rwI rwO; omega)
end Go.Proofs.Ytmlincnmhjkjgaa
