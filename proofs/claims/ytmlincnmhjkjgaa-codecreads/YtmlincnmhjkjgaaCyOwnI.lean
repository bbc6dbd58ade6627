/- Lists of numbers in memory of the call's own; slices.Sort and slices.Clone at them (the shelf's contracts, laid at this program). -/
import Derived.Test.YtmlincnmhjkjgaaCyReg
import Derived.Maps.OwnSet
import Derived.Maps.AppendAt
import Derived.Laws.MakeOwn
import Derived.Shelf.Sort.Plain
import Derived.Shelf.Slices.In.SortNone
import Derived.Shelf.Slices.Clone
import Derived.Shelf.Lay
import Derived.Ground.NamesProg
import Derived.Ground.Names2Prog
import Derived.Lib.OwnBridge
import Derived.Sort.OwnSortedInts
namespace Go.Proofs.Ytmlincnmhjkjgaa
open Go.Shelf Go.RowKit Go.Lib Go.Sort
shelf_lay Lays.n189 Nm 189 at Try as Try.laysSort
shelf_lay Lays2.n15 Nm2 15 at Try as Try.laysClone

/-- The call owns, in blocks from base on, a slice v of these numbers. -/
def Own (w : World) (base : Nat) (v : Value) (l : List Int) : Prop := w.ownsRow base 3 1 v l.length (l.map (Value.int .i64))
theorem Own.kept {w w' : World} {base : Nat} {v : Value} {l : List Int} {row : Option Nat} (h : Own w base v l) (hg : w.grownBy w' row) (hne : v.ownBlock = none ∨ v.ownBlock ≠ row) : Own w' base v l := World.ownsRow.kept h hg hne
theorem Own.gb {w w' : World} {base : Nat} {v : Value} {l : List Int} (h : Own w base v l) (g : Gb w w') : Own w' base v l :=
  h.kept (row := none) ⟨g.os, g.tape, g.output, g.size, fun k hk _ => g.block k hk⟩ (by cases hv : v.ownBlock <;> simp)
theorem Own.mono {w : World} {b b' : Nat} {v : Value} {l : List Int} (h : Own w b v l) (hb : b' ≤ b) : Own w b' v l := by
  refine ⟨h.1, ?_⟩
  rcases h.2 with h | ⟨g, cap, cur, e, h1, r⟩
  · exact .inl h
  · exact .inr ⟨g, cap, cur, e, by omega, r⟩
theorem Own.rd {w : World} {base : Nat} {v : Value} {l : List Int} (h : Own w base v l) : RdI w v l := by
  rcases h.2 with ⟨rfl, h0⟩ | ⟨g, cap, cur, rfl, _⟩
  · refine ⟨none, 0, by rw [h0], fun i hi => by omega⟩
  · refine ⟨_, cap, rfl, fun i hi => ⟨g, 0, rfl, ?_⟩⟩
    have := World.ownsRow.cells h (g := g) rfl i (.int .i64 l[i]!) (by rw [List.getElem?_map, getElem!_pos l i hi, List.getElem?_eq_getElem hi]; rfl)
    rwa [Addr.add_lit] at this
theorem own_nil (w : World) (base : Nat) : Own w base (.slice none 0 0) [] := World.ownsRow_nil w base 3 1
theorem below_grown {B : Nat} {w0 w w' : World} {row : Option Nat} (h : Below B w0 w) (g : w.grownBy w' row) (hr : ∀ k, row = some k → B ≤ k) (hB : B ≤ w.heap.size) : Below B w0 w' :=
  h.grown g hB (fun k e => hr k e)

/-- Numbers, rising. -/
def srt (l : List Int) : List Int := l.mergeSort fun x y => decide (x ≤ y)
theorem srt_len (l : List Int) : (srt l).length = l.length := List.length_mergeSort l
theorem sort_c {w : World} {base : Nat} {v : Value} {l : List Int} (h : Own w base v l) (hn : l.length ≤ 100000) (hb : base ≤ w.heap.size) :
    Calls Try.prog 45 #[v] w fun e w' => e = .returned (.tuple #[]) ∧ Own w' base v (srt l) ∧ Below base w w' := by
  rcases h.2 with ⟨rfl, h0⟩ | ⟨g, cap, cur, rfl, hg, hh, h1, h2, h3, h4⟩
  · have hc := Any.slices_Sort_int_none Try.laysSort none 0 w
    change Calls Try.prog 45 _ _ _ at hc
    refine hc.mono ?_
    rintro e w' ⟨rfl, e2⟩
    subst e2
    refine ⟨rfl, ?_, Below.refl _ _⟩
    have : l = [] := List.eq_nil_of_length_eq_zero h0
    subst this
    rw [show srt [] = [] by simp [srt]]
    exact own_nil _ _
  · have hH : Holds (Value.int .i64) w g 0 l.toArray := holds_of_blockI hh (by rw [Nat.mul_one] at h4; exact h4)
    have hc := Any.slices_Sort_int Try.laysSort g 0 cap l w hH (Array.getElem?_eq_some_iff.1 hh).1 (by omega)
    change Calls Try.prog 45 _ _ _ at hc
    refine hc.mono ?_
    rintro e w' ⟨rfl, n, os, rfl⟩
    refine ⟨rfl, ?_, ?_⟩
    · have := ownsRow_sortedI (n := n) (os := os) (ts := srt l) (srt_len l) hg hh h1 h2 h3
      unfold Own
      rw [srt_len]; exact this
    · exact below_grown (Below.refl _ _) (grownBy_sortedI _) (fun k e => by cases e; exact hg) hb

theorem clone_c {w : World} {v : Value} {l : List Int} (h : RdI w v l) (hn : l.length ≤ 100000) (h0 : 1 ≤ l.length) :
    Calls Try.prog 43 #[v] w fun e w' => ∃ v', e = .returned v' ∧ Own w' w.heap.size v' l ∧ Gb w w' := by
  obtain ⟨a, cap, rfl, ha⟩ := h
  obtain ⟨b, o, rfl, _⟩ := ha 0 (by omega)
  have hc := Any.slices_Clone_int Try.laysClone b o l.length cap l w (Nat.le_refl _) (by omega) (fun j hj => by
    obtain ⟨b', o', e, hcell⟩ := ha j hj
    cases e
    rw [hcell, getElem!_pos l j hj, List.getD, List.getElem?_eq_getElem hj]; rfl)
  change Calls Try.prog 43 _ _ _ at hc
  refine hc.mono ?_
  rintro e w' ⟨v', rfl, ho, _, hb⟩
  rw [List.take_of_length_le (Nat.le_refl _)] at ho
  exact ⟨v', rfl, ho, hb⟩
end Go.Proofs.Ytmlincnmhjkjgaa
