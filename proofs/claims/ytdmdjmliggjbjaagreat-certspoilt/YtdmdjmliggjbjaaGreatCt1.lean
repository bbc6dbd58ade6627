import Derived.Test.YtdmdjmliggjbjaaGreatProg
import Derived.WalkKit
import Derived.WalkSpells
import Derived.WalkLawsBesides
import Derived.RowKit3
import Derived.WalkSmall
import Derived.Deep.RegionHeld3
import Derived.Deep.RegionWith
import Derived.Handy
import Derived.Sort.Grow
/- Hits as triples of numbers, their order, and what a call that turns nothing old may do to memory. -/
namespace Go.Proofs.YtdmdjmliggjbjaaGreat.Tk
open Go.RowKit Go.Sort

/-- A hit: its id, and the two words of its distance. -/
abbrev Ht : Type := Int × Int × Int
abbrev Ht.id (x : Ht) : Int := x.1
abbrev Ht.hi (x : Ht) : Int := x.2.1
abbrev Ht.lo (x : Ht) : Int := x.2.2
theorem Ht.ext' {a b : Ht} (h1 : a.id = b.id) (h2 : a.hi = b.hi) (h3 : a.lo = b.lo) : a = b := by
  exact Prod.ext h1 (Prod.ext h2 h3)

/-- Its three cells, and it as a value. -/
def enc (x : Ht) : List Value := [.int .i64 x.id, .int .u64 x.hi, .int .u64 x.lo]
abbrev hv (x : Ht) : Value := .agg #[.int .i64 x.id, .int .u64 x.hi, .int .u64 x.lo]

/-- What the program's own order tells. -/
def cw (a b c d : Int) : Int := if a = c ∧ b = d then 0 else if a < c ∨ a = c ∧ b < d then -1 else 1
def ci (a b : Int) : Int := if a < b then -1 else if b < a then 1 else 0
def cor (x y : Int) : Int := if x = 0 then y else x
def cf (x y : Ht) : Int := cor (cw x.hi x.lo y.hi y.lo) (ci x.id y.id)
def hlt (x y : Ht) : Bool := decide (cf x y < 0)
theorem hlt_iff (x y : Ht) : hlt x y = true ↔ (x.hi < y.hi ∨ x.hi = y.hi ∧ (x.lo < y.lo ∨ x.lo = y.lo ∧ x.id < y.id)) := by
  unfold hlt cf cor cw ci
  simp only [decide_eq_true_eq]
  (repeat' split) <;> omega
theorem hlt_f (x y : Ht) : hlt x y = false ↔ ¬ (x.hi < y.hi ∨ x.hi = y.hi ∧ (x.lo < y.lo ∨ x.lo = y.lo ∧ x.id < y.id)) := by
  rw [← hlt_iff, Bool.not_eq_true]
theorem hlt_irrefl (x : Ht) : hlt x x = false := by rw [hlt_f]; omega
theorem hlt_trans {x y z : Ht} (h1 : hlt x y = true) (h2 : hlt y z = true) : hlt x z = true := by rw [hlt_iff] at *; omega
theorem hlt_ntrans {x y z : Ht} (h1 : hlt x y = false) (h2 : hlt y z = false) : hlt x z = false := by rw [hlt_f] at *; omega
theorem hlt_asymm {x y : Ht} (h : hlt x y = true) : hlt y x = false := by rw [hlt_iff] at h; rw [hlt_f]; omega
theorem hlt_tot {x y : Ht} (h1 : hlt x y = false) (h2 : hlt y x = false) : x = y := by
  rw [hlt_f] at *; exact Ht.ext' (by omega) (by omega) (by omega)

/-- Nothing that was there has turned. -/
abbrev Gr (w w' : World) : Prop := Below w.heap.size w w'
/-- .. and all that came are draws and new blocks. -/
def Gw (w w' : World) : Prop := ∃ q os, w' = grow (w.drewN q) os
theorem Gw.refl (w : World) : Gw w w := ⟨0, #[], by rw [grow_empty]; rfl⟩
theorem Gw.alloc {a w : World} (h : Gw a w) (o : Obj) : Gw a (w.alloc o) := by
  obtain ⟨q, os, rfl⟩ := h
  exact ⟨q, os ++ #[o], by rw [alloc_eq_grow, grow_grow]⟩
theorem Gw.drew {a w : World} (h : Gw a w) : Gw a w.drew := by
  obtain ⟨q, os, rfl⟩ := h
  exact ⟨q + 1, os, rfl⟩
theorem Gw.trans {a b c : World} (h : Gw a b) (k : Gw b c) : Gw a c := by
  obtain ⟨q, os, rfl⟩ := h
  obtain ⟨p, os', rfl⟩ := k
  refine ⟨q + p, os ++ os', ?_⟩
  show grow (grow ((a.drewN q).drewN p) os) os' = _
  rw [grow_grow, World.drewN_drewN]
theorem Gw.gr {a b : World} (h : Gw a b) : Gr a b := by
  obtain ⟨q, os, rfl⟩ := h
  exact ⟨rfl, rfl, rfl, by simp [World.drewN], fun k hk => heap_grow_old _ _ hk⟩
theorem gr_trans {a b c : World} (h : Gr a b) (k : Gr b c) : Gr a c := h.trans (k.mono h.size)
theorem gr_alloc {a w : World} (h : Gr a w) (o : Obj) : Gr a (w.alloc o) := h.alloc h.size o
theorem gr_keeps {a b : World} (h : Gr a b) {p : Addr} {v : Value} (hc : a.cell? p = some v) : b.cell? p = some v :=
  (h.cell (World.block_lt_of_cell? a p hc)).trans hc
theorem alloc_keeps {a : World} {p : Addr} {v : Value} (hc : a.cell? p = some v) (o : Obj) : (a.alloc o).cell? p = some v :=
  (World.cell?_alloc_lt _ _ _ (World.block_lt_of_cell? a p hc)).trans hc

set_option maxHeartbeats 400000 in
theorem cmpw_eq (ah al : Int) (w : World) :
    Calls Tryz.prog 67 #[.agg #[.int .u64 ah, .int .u64 al], .agg #[.int .u64 ah, .int .u64 al]] w fun e w' => e = .returned (.int .i64 0) ∧ Gw w w' := by
  go_enter Tryz.func67, Tryz.ntmps67
  go_wp2
  go_ret
  exact ⟨rfl, ((Gw.refl _).alloc _).alloc _⟩
set_option maxHeartbeats 400000 in
theorem cmpw_hi (ah al bh bl : Int) (h : ah < bh) (w : World) :
    Calls Tryz.prog 67 #[.agg #[.int .u64 ah, .int .u64 al], .agg #[.int .u64 bh, .int .u64 bl]] w fun e w' => e = .returned (.int .i64 (-1)) ∧ Gw w w' := by
  have h1 : (ah == bh) = false := by rw [beq_eq_false_iff_ne]; omega
  go_enter Tryz.func67, Tryz.ntmps67
  go_wp2
  go_ret
  exact ⟨rfl, ((Gw.refl _).alloc _).alloc _⟩
set_option maxHeartbeats 400000 in
theorem cmpw_hi' (ah al bh bl : Int) (h : bh < ah) (w : World) :
    Calls Tryz.prog 67 #[.agg #[.int .u64 ah, .int .u64 al], .agg #[.int .u64 bh, .int .u64 bl]] w fun e w' => e = .returned (.int .i64 1) ∧ Gw w w' := by
  have h1 : (ah == bh) = false := by rw [beq_eq_false_iff_ne]; omega
  go_enter Tryz.func67, Tryz.ntmps67
  go_wp2
  go_ret
  exact ⟨rfl, ((Gw.refl _).alloc _).alloc _⟩
set_option maxHeartbeats 400000 in
theorem cmpw_lo (ah al bl : Int) (h : al < bl) (w : World) :
    Calls Tryz.prog 67 #[.agg #[.int .u64 ah, .int .u64 al], .agg #[.int .u64 ah, .int .u64 bl]] w fun e w' => e = .returned (.int .i64 (-1)) ∧ Gw w w' := by
  have h1 : (al == bl) = false := by rw [beq_eq_false_iff_ne]; omega
  go_enter Tryz.func67, Tryz.ntmps67
  go_wp2
  go_ret
  exact ⟨rfl, ((Gw.refl _).alloc _).alloc _⟩
set_option maxHeartbeats 400000 in
theorem cmpw_lo' (ah al bl : Int) (h : bl < al) (w : World) :
    Calls Tryz.prog 67 #[.agg #[.int .u64 ah, .int .u64 al], .agg #[.int .u64 ah, .int .u64 bl]] w fun e w' => e = .returned (.int .i64 1) ∧ Gw w w' := by
  have h1 : (al == bl) = false := by rw [beq_eq_false_iff_ne]; omega
  go_enter Tryz.func67, Tryz.ntmps67
  go_wp2
  go_ret
  exact ⟨rfl, ((Gw.refl _).alloc _).alloc _⟩
theorem cmpw (a b c d : Int) (w : World) :
    Calls Tryz.prog 67 #[.agg #[.int .u64 a, .int .u64 b], .agg #[.int .u64 c, .int .u64 d]] w fun e w' => e = .returned (.int .i64 (cw a b c d)) ∧ Gw w w' := by
  by_cases h1 : a < c
  · rw [show cw a b c d = -1 by unfold cw; rw [if_neg (by omega), if_pos (by omega)]]; exact cmpw_hi _ _ _ _ h1 w
  by_cases h2 : c < a
  · rw [show cw a b c d = 1 by unfold cw; rw [if_neg (by omega), if_neg (by omega)]]; exact cmpw_hi' _ _ _ _ h2 w
  obtain rfl : a = c := by omega
  by_cases h4 : b < d
  · rw [show cw a b a d = -1 by unfold cw; rw [if_neg (by omega), if_pos (by omega)]]; exact cmpw_lo _ _ _ h4 w
  by_cases h5 : d < b
  · rw [show cw a b a d = 1 by unfold cw; rw [if_neg (by omega), if_neg (by omega)]]; exact cmpw_lo' _ _ _ h5 w
  obtain rfl : b = d := by omega
  rw [show cw a b a b = 0 by unfold cw; rw [if_pos (by omega)]]; exact cmpw_eq _ _ w

theorem isNaN_c (x : Int) (w : World) : Calls Tryz.prog 90 #[.int .i64 x] w fun e w' => e = .returned (.bool false) ∧ w' = w := by
  go_enter Tryz.func90, Tryz.ntmps90
  go_wp2
  go_ret
  exact ⟨by simp, rfl⟩
set_option maxHeartbeats 400000 in
theorem compare_c (a b : Int) (w : World) : Calls Tryz.prog 113 #[.int .i64 a, .int .i64 b] w fun e w' => e = .returned (.int .i64 (ci a b)) ∧ w' = w := by
  by_cases h1 : a < b
  · rw [show ci a b = -1 by unfold ci; rw [if_pos h1]]
    go_enter Tryz.func113, Tryz.ntmps113
    go_wp2_with (go_at_call 90; refine (isNaN_c _ _).mono ?_; rintro e w' ⟨rfl, rfl⟩)
    go_ret
    exact ⟨rfl, rfl⟩
  by_cases h2 : b < a
  · rw [show ci a b = 1 by unfold ci; rw [if_neg h1, if_pos h2]]
    go_enter Tryz.func113, Tryz.ntmps113
    go_wp2_with (go_at_call 90; refine (isNaN_c _ _).mono ?_; rintro e w' ⟨rfl, rfl⟩)
    go_ret
    exact ⟨rfl, rfl⟩
  rw [show ci a b = 0 by unfold ci; rw [if_neg h1, if_neg h2]]
  go_enter Tryz.func113, Tryz.ntmps113
  go_wp2_with (go_at_call 90; refine (isNaN_c _ _).mono ?_; rintro e w' ⟨rfl, rfl⟩)
  go_ret
  exact ⟨rfl, rfl⟩

set_option maxHeartbeats 1000000 in
/-- cmp.Or of two. -/
theorem or_c (b : Nat) (x y : Int) (w : World) (h0 : w.cell? ⟨b, 0, none⟩ = some (.int .i64 x)) (h1 : w.cell? ⟨b, 1, none⟩ = some (.int .i64 y)) :
    Calls Tryz.prog 112 #[.slice (some ⟨b, 0, none⟩) 2 2] w fun e w' => e = .returned (.int .i64 (cor x y)) ∧ w' = w := by
  by_cases hx : x = 0
  · subst hx
    rw [show cor 0 y = y by simp [cor]]
    by_cases hy : y = 0
    · subst hy
      go_enter Tryz.func112, Tryz.ntmps112
      go_wp2
      refine wp_loop_rounds 3 ?_
      repeat (rw [rounds_succ]; go_wp2)
      go_ret
      exact ⟨rfl, rfl⟩
    · go_enter Tryz.func112, Tryz.ntmps112
      go_wp2
      refine wp_loop_rounds 2 ?_
      repeat (rw [rounds_succ]; go_wp2)
      go_ret
      exact ⟨rfl, rfl⟩
  · rw [show cor x y = x by simp [cor, hx]]
    go_enter Tryz.func112, Tryz.ntmps112
    go_wp2
    refine wp_loop_rounds 1 ?_
    repeat (rw [rounds_succ]; go_wp2)
    go_ret
    exact ⟨rfl, rfl⟩
end Go.Proofs.YtdmdjmliggjbjaaGreat.Tk

/- The program's order of two hits, and the reference's. -/
namespace Go.Proofs.YtdmdjmliggjbjaaGreat.Tk
open Go.RowKit Go.Sort

theorem six_call {w0 W w' : World} {p0 p1 p2 p3 p4 p5 : Addr} {v0 v1 v2 v3 v4 v5 : Value} (g : Gw W w')
    (h : Gw w0 W ∧ W.cell? p0 = some v0 ∧ W.cell? p1 = some v1 ∧ W.cell? p2 = some v2 ∧ W.cell? p3 = some v3 ∧ W.cell? p4 = some v4 ∧ W.cell? p5 = some v5) :
    Gw w0 w' ∧ w'.cell? p0 = some v0 ∧ w'.cell? p1 = some v1 ∧ w'.cell? p2 = some v2 ∧ w'.cell? p3 = some v3 ∧ w'.cell? p4 = some v4 ∧ w'.cell? p5 = some v5 := by
  obtain ⟨a, b0, b1, b2, b3, b4, b5⟩ := h
  exact ⟨a.trans g, gr_keeps g.gr b0, gr_keeps g.gr b1, gr_keeps g.gr b2, gr_keeps g.gr b3, gr_keeps g.gr b4, gr_keeps g.gr b5⟩
theorem six_alloc {w0 W : World} {o : Obj} {p0 p1 p2 p3 p4 p5 : Addr} {v0 v1 v2 v3 v4 v5 : Value}
    (h : Gw w0 W ∧ W.cell? p0 = some v0 ∧ W.cell? p1 = some v1 ∧ W.cell? p2 = some v2 ∧ W.cell? p3 = some v3 ∧ W.cell? p4 = some v4 ∧ W.cell? p5 = some v5) :
    Gw w0 (W.alloc o) ∧ (W.alloc o).cell? p0 = some v0 ∧ (W.alloc o).cell? p1 = some v1 ∧ (W.alloc o).cell? p2 = some v2 ∧ (W.alloc o).cell? p3 = some v3 ∧ (W.alloc o).cell? p4 = some v4 ∧ (W.alloc o).cell? p5 = some v5 :=
  six_call ((Gw.refl _).alloc _) h

theorem or_new (x y : Int) (W : World) :
    Calls Tryz.prog 112 #[.slice (some ⟨W.heap.size, 0, none⟩) 2 2] (W.alloc (.cells #[.int .i64 x, .int .i64 y] 3)) fun e w' => e = .returned (.int .i64 (cor x y)) ∧ w' = W.alloc (.cells #[.int .i64 x, .int .i64 y] 3) :=
  or_c _ x y _ (by simp [go_sem]) (by simp [go_sem])

set_option maxHeartbeats 2000000 in
theorem order_c (x y : Ht) (w : World) : Calls Tryz.prog 89 #[hv x, hv y] w fun e w' => e = .returned (.int .i64 (cf x y)) ∧ Gw w w' := by
  obtain ⟨a0, a1, a2⟩ := x
  obtain ⟨b0, b1, b2⟩ := y
  show Calls Tryz.prog 89 #[.agg #[.int .i64 a0, .int .u64 a1, .int .u64 a2], .agg #[.int .i64 b0, .int .u64 b1, .int .u64 b2]] w fun e w' => e = .returned (.int .i64 (cor (cw a1 a2 b1 b2) (ci a0 b0))) ∧ Gw w w'
  go_enter Tryz.func89, Tryz.ntmps89
  go_wp2
  have C : Gw w ((w.alloc (.cells #[.int .i64 a0, .int .u64 a1, .int .u64 a2] 43)).alloc (.cells #[.int .i64 b0, .int .u64 b1, .int .u64 b2] 43)) := ((Gw.refl _).alloc _).alloc _
  go_region_held3 (fun w' => Gw w w' ∧ w'.cell? ⟨w.heap.size, 0, none⟩ = some (.int .i64 a0) ∧ w'.cell? ⟨w.heap.size, 1, none⟩ = some (.int .u64 a1) ∧ w'.cell? ⟨w.heap.size, 2, none⟩ = some (.int .u64 a2) ∧ w'.cell? ⟨w.heap.size + 1, 0, none⟩ = some (.int .i64 b0) ∧ w'.cell? ⟨w.heap.size + 1, 1, none⟩ = some (.int .u64 b1) ∧ w'.cell? ⟨w.heap.size + 1, 2, none⟩ = some (.int .u64 b2)) (first | (with_reducible exact six_call (by assumption) (by assumption)) | (with_reducible assumption) | (with_reducible exact six_alloc (by assumption)) | exact ⟨C.drew, by simp [go_sem], by simp [go_sem], by simp [go_sem], by simp [go_sem], by simp [go_sem], by simp [go_sem]⟩) (first | (go_at_call 67; refine (cmpw _ _ _ _ _).mono ?_; rintro e w' ⟨rfl, hg⟩) | (go_at_call 113; refine (compare_c _ _ _).mono ?_; rintro e w' ⟨rfl, rfl⟩) | (go_at_call 112; refine (or_new _ _ _).mono ?_; rintro e w' ⟨rfl, rfl⟩))
  all_goals
    go_wp2
    go_ret
    exact ⟨rfl, And.left (by assumption)⟩

set_option maxHeartbeats 1000000 in
theorem less_c (x y : Ht) (w : World) : Calls Tryz.prog 85 #[hv x, hv y] w fun e w' => e = .returned (.bool (hlt x y)) ∧ Gw w w' := by
  have ho := fun w => order_c x y w
  unfold hlt
  generalize cf x y = r at ho ⊢
  go_enter Tryz.func85, Tryz.ntmps85
  go_wp2_with (go_at_call 89; refine (ho _).mono ?_; rintro e w' ⟨rfl, hg⟩)
  go_ret
  exact ⟨rfl, (((Gw.refl _).alloc _).alloc _).trans hg⟩

end Go.Proofs.YtdmdjmliggjbjaaGreat.Tk
