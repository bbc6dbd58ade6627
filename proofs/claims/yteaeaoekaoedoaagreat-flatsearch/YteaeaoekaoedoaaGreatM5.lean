/- Regions as they are read; vec.isId, idsRise, usesItsFields, checkCorners. -/
import Derived.Test.YteaeaoekaoedoaaGreatDist
import Derived.Maps.OwnSet
import Derived.Maps.AppendAt
import Derived.Laws.MakeOwn
import Derived.Shelf.Sort.Plain
import Derived.Shelf.Slices.In.SortNone
import Derived.Shelf.Slices.Clone
import Derived.Shelf.Lay
import Derived.Ground.NamesProg
import Derived.Ground.Names2Prog
import Derived.Lib.OwnBridge
import Derived.Sort.OwnSortedInts
namespace Go.Proofs.YteaeaoekaoedoaaGreat
open Go.RowKit

/-- A region: shape, Lo, Hi, Radius, Ids. -/
structure Reg where
  S : Int
  L : List Int
  H : List Int
  R : Nat
  I : List Int
abbrev rv (r : Reg) (vl vh vi : Value) : Value := .agg #[.int .i64 r.S, vl, vh, .int .u64 (hi r.R), .int .u64 (lo r.R), vi]
/-- The value v reads as this region. -/
def RdR (w : World) (v : Value) (r : Reg) : Prop := ∃ vl vh vi, v = rv r vl vh vi ∧ RdI w vl r.L ∧ RdI w vh r.H ∧ RdI w vi r.I
theorem RdR.gb {w w' : World} {v : Value} {r : Reg} (h : RdR w v r) (g : Gb w w') : RdR w' v r := by
  obtain ⟨vl, vh, vi, e, h1, h2, h3⟩ := h
  exact ⟨vl, vh, vi, e, h1.gb g, h2.gb g, h3.gb g⟩

theorem wd_run (a b c d : Int) (W : World) : (binOp .eql 39 (.agg #[.int .u64 a, .int .u64 b]) (.agg #[.int .u64 c, .int .u64 d])).run Tryz.prog W = .ok (.bool (a == c && b == d)) W := by
  have u24 := Tryz.underlying37
  have a24 := Tryz.isAgg37
  have z24 := Tryz.sizeOf37
  have hS : Tryz.prog.underlying 39 = some (.struct (Tryz.prog.fieldsOf 39)) := by kernel_rfl
  have hp : Tryz.prog.stoodInHeld 39 = false := by kernel_rfl
  have h : (Op.equalIn 10000 39 (.agg #[.int .u64 a, .int .u64 b]) (.agg #[.int .u64 c, .int .u64 d])).run Tryz.prog W = .ok (a == c && b == d) W := by
    rw [show (10000 : Nat) = 9999 + 1 from rfl, run_equalIn_agg W 9999 39 _ _ hS hp]
    simp only [Program.fieldsOf, Tryz.underlying39]
    go_simp
    by_cases h1 : a = c <;> by_cases h2 : b = d <;> simp [h1, h2]
  rw [run_eql_struct, h]; rfl
theorem wd_inj {a b : Nat} (h : hi a = hi b) (k : lo a = lo b) : a = b := by unfold hi at h; unfold lo at k; omega
theorem wd_eq (a b : Nat) (W : World) : (binOp .eql 39 (Wd a) (Wd b)).run Tryz.prog W = .ok (.bool (decide (a = b))) W := by
  rw [wd_run]
  have : (hi a == hi b && lo a == lo b) = decide (a = b) := by
    by_cases h : a = b
    · subst h; simp
    · rw [decide_eq_false h, Bool.and_eq_false_iff, beq_eq_false_iff_ne, beq_eq_false_iff_ne]
      by_cases h1 : hi a = hi b
      · right; intro h2; exact h (wd_inj h1 h2)
      · exact .inl h1
  rw [this]
theorem wd_eq0 (a : Nat) (r : Bool) (h : decide (a = 0) = r) (W : World) : (binOp .eql 39 (.agg #[.int .u64 (hi a), .int .u64 (lo a)]) (.agg #[.int .u64 0, .int .u64 0])).run Tryz.prog W = .ok (.bool r) W := by
  subst h; exact wd_eq a 0 W

/-- An id that may be. -/
def okId (x : Int) : Bool := decide (1 ≤ x) && decide (x ≤ 1000000000)
theorem okId_iff (x : Int) : okId x = true ↔ 1 ≤ x ∧ x ≤ 1000000000 := by simp [okId]
theorem isId_c (x : Int) (w : World) : Calls Tryz.prog 75 #[.int .i64 x] w fun e w' => e = .returned (.bool (okId x)) ∧ w = w' := by
  by_cases h : 1 ≤ x
  · by_cases h2 : x ≤ 1000000000
    · have E : Hid (okId x = true) := (okId_iff x).2 ⟨h, h2⟩
      go_enter Tryz.func75, Tryz.ntmps75
      go_wp2
      go_ret
      exact ⟨by rw [E.out]; rfl, rfl⟩
    · have E : Hid (okId x = false) := by unfold Hid; rw [← Bool.not_eq_true, okId_iff]; omega
      go_enter Tryz.func75, Tryz.ntmps75
      go_wp2
      go_ret
      exact ⟨by rw [E.out]; rfl, rfl⟩
  · have E : Hid (okId x = false) := by unfold Hid; rw [← Bool.not_eq_true, okId_iff]; omega
    go_enter Tryz.func75, Tryz.ntmps75
    go_wp2
    go_ret
    exact ⟨by rw [E.out]; rfl, rfl⟩
theorem isId_v (x : Int) (b : Bool) (h : okId x = b) (w : World) : Calls Tryz.prog 75 #[.int .i64 x] w fun e w' => e = .returned (.bool b) ∧ w = w' := by
  subst h; exact isId_c x w

/-- The first q ids may be, and rise. -/
def okAt (l : List Int) (i : Nat) : Bool := okId l[i]! && (i == 0 || decide (l[i - 1]! < l[i]!))
def riseTo (l : List Int) : Nat → Bool
  | 0 => true
  | q + 1 => riseTo l q && okAt l q
def rise (l : List Int) : Bool := riseTo l l.length
theorem riseTo_le {l : List Int} {p q : Nat} (h : p ≤ q) (hp : riseTo l p = false) : riseTo l q = false := by
  induction q with
  | zero => have : p = 0 := by omega
            subst this; exact hp
  | succ q ih =>
    by_cases e : p = q + 1
    · subst e; exact hp
    · simp only [riseTo]; rw [ih (by omega)]; rfl
theorem rise_no {l : List Int} {q : Nat} (hq : q < l.length) (h : okAt l q = false) : rise l = false :=
  riseTo_le (p := q + 1) (by omega) (by simp only [riseTo]; rw [h, Bool.and_false])

/-- Does a region's shape use all that is not zero? -/
def uses (r : Reg) : Bool := if r.S = 1 then decide (r.L.length = 0) && decide (r.H.length = 0) && decide (r.R = 0) else if r.S = 2 then decide (r.R = 0) else if r.S = 3 then decide (r.H.length = 0) else false

/-- A region in a variable. -/
structure RegAt (w : World) (b : Nat) (r : Reg) (vl vh vi : Value) : Prop where
  c0 : w.cell? ⟨b, 0, none⟩ = some (.int .i64 r.S)
  c1 : w.cell? ⟨b, 1, none⟩ = some vl
  c2 : w.cell? ⟨b, 2, none⟩ = some vh
  c3 : w.cell? ⟨b, 3, none⟩ = some (.int .u64 (hi r.R))
  c4 : w.cell? ⟨b, 4, none⟩ = some (.int .u64 (lo r.R))
  c5 : w.cell? ⟨b, 5, none⟩ = some vi
theorem RegAt.gb {w w' : World} {b : Nat} {r : Reg} {vl vh vi : Value} (h : RegAt w b r vl vh vi) (g : Gb w w') : RegAt w' b r vl vh vi :=
  ⟨gb_keeps g h.c0, gb_keeps g h.c1, gb_keeps g h.c2, gb_keeps g h.c3, gb_keeps g h.c4, gb_keeps g h.c5⟩
abbrev rc (r : Reg) (vl vh vi : Value) : Obj := .cells #[.int .i64 r.S, vl, vh, .int .u64 (hi r.R), .int .u64 (lo r.R), vi] 63
theorem RegAt.new (w : World) (r : Reg) (vl vh vi : Value) : RegAt (w.alloc (rc r vl vh vi)) w.heap.size r vl vh vi :=
  ⟨by simp [go_sem], by simp [go_sem], by simp [go_sem], by simp [go_sem], by simp [go_sem], by simp [go_sem]⟩

/-- No coordinate of the first q of l is above h's. -/
def below (l h : List Int) : Nat → Bool
  | 0 => true
  | q + 1 => below l h q && decide (l[q]! ≤ h[q]!)
theorem below_le {l h : List Int} {p q : Nat} (hpq : p ≤ q) (hp : below l h p = false) : below l h q = false := by
  induction q with
  | zero => have : p = 0 := by omega
            subst this; exact hp
  | succ q ih =>
    by_cases e : p = q + 1
    · subst e; exact hp
    · simp only [below]; rw [ih (by omega)]; rfl
theorem below_get {l h : List Int} {q : Nat} (hb : below l h q = true) {i : Nat} (hi : i < q) : l[i]! ≤ h[i]! := by
  induction q with
  | zero => omega
  | succ q ih =>
    simp only [below, Bool.and_eq_true, decide_eq_true_eq] at hb
    by_cases e : i = q
    · subst e; exact hb.2
    · exact ih hb.1 (by omega)
/-- What checkCorners answers. -/
def cornE (l h : List Int) (d : Int) : Int := if chk l d = 0 then (if chk h d = 0 then (if below l h l.length = true then 0 else 32) else chk h d) else chk l d

end Go.Proofs.YteaeaoekaoedoaaGreat

/- Lists of numbers in memory of the call's own; slices.Sort and slices.Clone at them (the shelf's contracts, laid at this program). -/
namespace Go.Proofs.YteaeaoekaoedoaaGreat
open Go.Shelf Go.RowKit Go.Lib Go.Sort
shelf_lay Lays.n189 Nm 189 at Tryz as Tryz.laysSort
shelf_lay Lays2.n15 Nm2 15 at Tryz as Tryz.laysClone

/-- The call owns, in blocks from base on, a slice v of these numbers. -/
def Own (w : World) (base : Nat) (v : Value) (l : List Int) : Prop := w.ownsRow base 3 1 v l.length (l.map (Value.int .i64))
theorem Own.kept {w w' : World} {base : Nat} {v : Value} {l : List Int} {row : Option Nat} (h : Own w base v l) (hg : w.grownBy w' row) (hne : v.ownBlock = none ∨ v.ownBlock ≠ row) : Own w' base v l := World.ownsRow.kept h hg hne
theorem Own.gb {w w' : World} {base : Nat} {v : Value} {l : List Int} (h : Own w base v l) (g : Gb w w') : Own w' base v l :=
  h.kept (row := none) ⟨g.os, g.tape, g.output, g.size, fun k hk _ => g.block k hk⟩ (by cases hv : v.ownBlock <;> simp)
theorem Own.mono {w : World} {b b' : Nat} {v : Value} {l : List Int} (h : Own w b v l) (hb : b' ≤ b) : Own w b' v l := by
  refine ⟨h.1, ?_⟩
  rcases h.2 with h | ⟨g, cap, cur, e, h1, r⟩
  · exact .inl h
  · exact .inr ⟨g, cap, cur, e, by omega, r⟩
theorem Own.rd {w : World} {base : Nat} {v : Value} {l : List Int} (h : Own w base v l) : RdI w v l := by
  rcases h.2 with ⟨rfl, h0⟩ | ⟨g, cap, cur, rfl, _⟩
  · refine ⟨none, 0, by rw [h0], fun i hi => by omega⟩
  · refine ⟨_, cap, rfl, fun i hi => ⟨g, 0, rfl, ?_⟩⟩
    have := World.ownsRow.cells h (g := g) rfl i (.int .i64 l[i]!) (by rw [List.getElem?_map, getElem!_pos l i hi, List.getElem?_eq_getElem hi]; rfl)
    rwa [Addr.add_lit] at this
theorem own_nil (w : World) (base : Nat) : Own w base (.slice none 0 0) [] := World.ownsRow_nil w base 3 1
theorem below_grown {B : Nat} {w0 w w' : World} {row : Option Nat} (h : Below B w0 w) (g : w.grownBy w' row) (hr : ∀ k, row = some k → B ≤ k) (hB : B ≤ w.heap.size) : Below B w0 w' :=
  h.grown g hB (fun k e => hr k e)

/-- Numbers, rising. -/
def srt (l : List Int) : List Int := l.mergeSort fun x y => decide (x ≤ y)
theorem srt_len (l : List Int) : (srt l).length = l.length := List.length_mergeSort l
theorem sort_c {w : World} {base : Nat} {v : Value} {l : List Int} (h : Own w base v l) (hn : l.length ≤ 100000) (hb : base ≤ w.heap.size) :
    Calls Tryz.prog 66 #[v] w fun e w' => e = .returned (.tuple #[]) ∧ Own w' base v (srt l) ∧ Below base w w' := by
  rcases h.2 with ⟨rfl, h0⟩ | ⟨g, cap, cur, rfl, hg, hh, h1, h2, h3, h4⟩
  · have hc := Any.slices_Sort_int_none Tryz.laysSort none 0 w
    change Calls Tryz.prog 66 _ _ _ at hc
    refine hc.mono ?_
    rintro e w' ⟨rfl, e2⟩
    subst e2
    refine ⟨rfl, ?_, Below.refl _ _⟩
    have : l = [] := List.eq_nil_of_length_eq_zero h0
    subst this
    rw [show srt [] = [] by simp [srt]]
    exact own_nil _ _
  · have hH : Holds (Value.int .i64) w g 0 l.toArray := holds_of_blockI hh (by rw [Nat.mul_one] at h4; exact h4)
    have hc := Any.slices_Sort_int Tryz.laysSort g 0 cap l w hH (Array.getElem?_eq_some_iff.1 hh).1 (by omega)
    change Calls Tryz.prog 66 _ _ _ at hc
    refine hc.mono ?_
    rintro e w' ⟨rfl, n, os, rfl⟩
    refine ⟨rfl, ?_, ?_⟩
    · have := ownsRow_sortedI (n := n) (os := os) (ts := srt l) (srt_len l) hg hh h1 h2 h3
      unfold Own
      rw [srt_len]; exact this
    · exact below_grown (Below.refl _ _) (grownBy_sortedI _) (fun k e => by cases e; exact hg) hb

theorem clone_c {w : World} {v : Value} {l : List Int} (h : RdI w v l) (hn : l.length ≤ 100000) (h0 : 1 ≤ l.length) :
    Calls Tryz.prog 53 #[v] w fun e w' => ∃ v', e = .returned v' ∧ Own w' w.heap.size v' l ∧ Gb w w' := by
  obtain ⟨a, cap, rfl, ha⟩ := h
  obtain ⟨b, o, rfl, _⟩ := ha 0 (by omega)
  have hc := Any.slices_Clone_int Tryz.laysClone b o l.length cap l w (Nat.le_refl _) (by omega) (fun j hj => by
    obtain ⟨b', o', e, hcell⟩ := ha j hj
    cases e
    rw [hcell, getElem!_pos l j hj, List.getD, List.getElem?_eq_getElem hj]; rfl)
  change Calls Tryz.prog 53 _ _ _ at hc
  refine hc.mono ?_
  rintro e w' ⟨v', rfl, ho, _, hb⟩
  rw [List.take_of_length_le (Nat.le_refl _)] at ho
  exact ⟨v', rfl, ho, hb⟩
end Go.Proofs.YteaeaoekaoedoaaGreat
