import Derived.Test.YtbnljabeccebiaaGreatProg
import Derived.WalkKit
import Derived.WalkSpells
import Derived.WalkLawsBesides
import Derived.RowKit3
import Derived.WalkSmall
import Derived.Deep.RegionHeld3
import Derived.Deep.RegionWith
import Derived.Handy
import Derived.Sort.Grow
import Derived.Shelf.GgSortFunc.RowK
import Derived.Shelf.GgSortFunc.InsertionK
import Derived.Deep.AppendLies
import Derived.Deep.DrawnRows
/- Hits as triples of numbers, their order, and what a call that turns nothing old may do to memory. -/
namespace Go.Proofs.YtbnljabeccebiaaGreat.Tk
open Go.RowKit Go.Sort

/-- A hit: its id, and the two words of its distance. -/
abbrev Ht : Type := Int × Int × Int
abbrev Ht.id (x : Ht) : Int := x.1
abbrev Ht.hi (x : Ht) : Int := x.2.1
abbrev Ht.lo (x : Ht) : Int := x.2.2
theorem Ht.ext' {a b : Ht} (h1 : a.id = b.id) (h2 : a.hi = b.hi) (h3 : a.lo = b.lo) : a = b := by
  exact Prod.ext h1 (Prod.ext h2 h3)

/-- Its three cells, and it as a value. -/
def enc (x : Ht) : List Value := [.int .i64 x.id, .int .u64 x.hi, .int .u64 x.lo]
abbrev hv (x : Ht) : Value := .agg #[.int .i64 x.id, .int .u64 x.hi, .int .u64 x.lo]

/-- What the program's own order tells. -/
def cw (a b c d : Int) : Int := if a = c ∧ b = d then 0 else if a < c ∨ a = c ∧ b < d then -1 else 1
def ci (a b : Int) : Int := if a < b then -1 else if b < a then 1 else 0
def cor (x y : Int) : Int := if x = 0 then y else x
def cf (x y : Ht) : Int := cor (cw x.hi x.lo y.hi y.lo) (ci x.id y.id)
def hlt (x y : Ht) : Bool := decide (cf x y < 0)
theorem hlt_iff (x y : Ht) : hlt x y = true ↔ (x.hi < y.hi ∨ x.hi = y.hi ∧ (x.lo < y.lo ∨ x.lo = y.lo ∧ x.id < y.id)) := by
  unfold hlt cf cor cw ci
  simp only [decide_eq_true_eq]
  (repeat' split) <;> omega
theorem hlt_f (x y : Ht) : hlt x y = false ↔ ¬ (x.hi < y.hi ∨ x.hi = y.hi ∧ (x.lo < y.lo ∨ x.lo = y.lo ∧ x.id < y.id)) := by
  rw [← hlt_iff, Bool.not_eq_true]
theorem hlt_irrefl (x : Ht) : hlt x x = false := by rw [hlt_f]; omega
theorem hlt_trans {x y z : Ht} (h1 : hlt x y = true) (h2 : hlt y z = true) : hlt x z = true := by rw [hlt_iff] at *; omega
theorem hlt_ntrans {x y z : Ht} (h1 : hlt x y = false) (h2 : hlt y z = false) : hlt x z = false := by rw [hlt_f] at *; omega
theorem hlt_asymm {x y : Ht} (h : hlt x y = true) : hlt y x = false := by rw [hlt_iff] at h; rw [hlt_f]; omega
theorem hlt_tot {x y : Ht} (h1 : hlt x y = false) (h2 : hlt y x = false) : x = y := by
  rw [hlt_f] at *; exact Ht.ext' (by omega) (by omega) (by omega)

/-- Nothing that was there has turned. -/
abbrev Gr (w w' : World) : Prop := Below w.heap.size w w'
/-- .. and all that came are draws and new blocks. -/
def Gw (w w' : World) : Prop := ∃ q os, w' = grow (w.drewN q) os
theorem Gw.refl (w : World) : Gw w w := ⟨0, #[], by rw [grow_empty]; rfl⟩
theorem Gw.alloc {a w : World} (h : Gw a w) (o : Obj) : Gw a (w.alloc o) := by
  obtain ⟨q, os, rfl⟩ := h
  exact ⟨q, os ++ #[o], by rw [alloc_eq_grow, grow_grow]⟩
theorem Gw.drew {a w : World} (h : Gw a w) : Gw a w.drew := by
  obtain ⟨q, os, rfl⟩ := h
  exact ⟨q + 1, os, rfl⟩
theorem Gw.trans {a b c : World} (h : Gw a b) (k : Gw b c) : Gw a c := by
  obtain ⟨q, os, rfl⟩ := h
  obtain ⟨p, os', rfl⟩ := k
  refine ⟨q + p, os ++ os', ?_⟩
  show grow (grow ((a.drewN q).drewN p) os) os' = _
  rw [grow_grow, World.drewN_drewN]
theorem Gw.gr {a b : World} (h : Gw a b) : Gr a b := by
  obtain ⟨q, os, rfl⟩ := h
  exact ⟨rfl, rfl, rfl, by simp [World.drewN], fun k hk => heap_grow_old _ _ hk⟩
theorem gr_trans {a b c : World} (h : Gr a b) (k : Gr b c) : Gr a c := h.trans (k.mono h.size)
theorem gr_alloc {a w : World} (h : Gr a w) (o : Obj) : Gr a (w.alloc o) := h.alloc h.size o
theorem gr_keeps {a b : World} (h : Gr a b) {p : Addr} {v : Value} (hc : a.cell? p = some v) : b.cell? p = some v :=
  (h.cell (World.block_lt_of_cell? a p hc)).trans hc
theorem alloc_keeps {a : World} {p : Addr} {v : Value} (hc : a.cell? p = some v) (o : Obj) : (a.alloc o).cell? p = some v :=
  (World.cell?_alloc_lt _ _ _ (World.block_lt_of_cell? a p hc)).trans hc

set_option maxHeartbeats 400000 in
theorem cmpw_eq (ah al : Int) (w : World) :
    Calls Tryz.prog 104 #[.agg #[.int .u64 ah, .int .u64 al], .agg #[.int .u64 ah, .int .u64 al]] w fun e w' => e = .returned (.int .i64 0) ∧ Gw w w' := by
  go_enter Tryz.func104, Tryz.ntmps104
  go_wp2
  go_ret
  exact ⟨rfl, ((Gw.refl _).alloc _).alloc _⟩
set_option maxHeartbeats 400000 in
theorem cmpw_hi (ah al bh bl : Int) (h : ah < bh) (w : World) :
    Calls Tryz.prog 104 #[.agg #[.int .u64 ah, .int .u64 al], .agg #[.int .u64 bh, .int .u64 bl]] w fun e w' => e = .returned (.int .i64 (-1)) ∧ Gw w w' := by
  have h1 : (ah == bh) = false := by rw [beq_eq_false_iff_ne]; omega
  go_enter Tryz.func104, Tryz.ntmps104
  go_wp2
  go_ret
  exact ⟨rfl, ((Gw.refl _).alloc _).alloc _⟩
set_option maxHeartbeats 400000 in
theorem cmpw_hi' (ah al bh bl : Int) (h : bh < ah) (w : World) :
    Calls Tryz.prog 104 #[.agg #[.int .u64 ah, .int .u64 al], .agg #[.int .u64 bh, .int .u64 bl]] w fun e w' => e = .returned (.int .i64 1) ∧ Gw w w' := by
  have h1 : (ah == bh) = false := by rw [beq_eq_false_iff_ne]; omega
  go_enter Tryz.func104, Tryz.ntmps104
  go_wp2
  go_ret
  exact ⟨rfl, ((Gw.refl _).alloc _).alloc _⟩
set_option maxHeartbeats 400000 in
theorem cmpw_lo (ah al bl : Int) (h : al < bl) (w : World) :
    Calls Tryz.prog 104 #[.agg #[.int .u64 ah, .int .u64 al], .agg #[.int .u64 ah, .int .u64 bl]] w fun e w' => e = .returned (.int .i64 (-1)) ∧ Gw w w' := by
  have h1 : (al == bl) = false := by rw [beq_eq_false_iff_ne]; omega
  go_enter Tryz.func104, Tryz.ntmps104
  go_wp2
  go_ret
  exact ⟨rfl, ((Gw.refl _).alloc _).alloc _⟩
set_option maxHeartbeats 400000 in
theorem cmpw_lo' (ah al bl : Int) (h : bl < al) (w : World) :
    Calls Tryz.prog 104 #[.agg #[.int .u64 ah, .int .u64 al], .agg #[.int .u64 ah, .int .u64 bl]] w fun e w' => e = .returned (.int .i64 1) ∧ Gw w w' := by
  have h1 : (al == bl) = false := by rw [beq_eq_false_iff_ne]; omega
  go_enter Tryz.func104, Tryz.ntmps104
  go_wp2
  go_ret
  exact ⟨rfl, ((Gw.refl _).alloc _).alloc _⟩
theorem cmpw (a b c d : Int) (w : World) :
    Calls Tryz.prog 104 #[.agg #[.int .u64 a, .int .u64 b], .agg #[.int .u64 c, .int .u64 d]] w fun e w' => e = .returned (.int .i64 (cw a b c d)) ∧ Gw w w' := by
  by_cases h1 : a < c
  · rw [show cw a b c d = -1 by unfold cw; rw [if_neg (by omega), if_pos (by omega)]]; exact cmpw_hi _ _ _ _ h1 w
  by_cases h2 : c < a
  · rw [show cw a b c d = 1 by unfold cw; rw [if_neg (by omega), if_neg (by omega)]]; exact cmpw_hi' _ _ _ _ h2 w
  obtain rfl : a = c := by omega
  by_cases h4 : b < d
  · rw [show cw a b a d = -1 by unfold cw; rw [if_neg (by omega), if_pos (by omega)]]; exact cmpw_lo _ _ _ h4 w
  by_cases h5 : d < b
  · rw [show cw a b a d = 1 by unfold cw; rw [if_neg (by omega), if_neg (by omega)]]; exact cmpw_lo' _ _ _ h5 w
  obtain rfl : b = d := by omega
  rw [show cw a b a b = 0 by unfold cw; rw [if_pos (by omega)]]; exact cmpw_eq _ _ w

theorem isNaN_c (x : Int) (w : World) : Calls Tryz.prog 92 #[.int .i64 x] w fun e w' => e = .returned (.bool false) ∧ w' = w := by
  go_enter Tryz.func92, Tryz.ntmps92
  go_wp2
  go_ret
  exact ⟨by simp, rfl⟩
set_option maxHeartbeats 400000 in
theorem compare_c (a b : Int) (w : World) : Calls Tryz.prog 57 #[.int .i64 a, .int .i64 b] w fun e w' => e = .returned (.int .i64 (ci a b)) ∧ w' = w := by
  by_cases h1 : a < b
  · rw [show ci a b = -1 by unfold ci; rw [if_pos h1]]
    go_enter Tryz.func57, Tryz.ntmps57
    go_wp2_with (go_at_call 92; refine (isNaN_c _ _).mono ?_; rintro e w' ⟨rfl, rfl⟩)
    go_ret
    exact ⟨rfl, rfl⟩
  by_cases h2 : b < a
  · rw [show ci a b = 1 by unfold ci; rw [if_neg h1, if_pos h2]]
    go_enter Tryz.func57, Tryz.ntmps57
    go_wp2_with (go_at_call 92; refine (isNaN_c _ _).mono ?_; rintro e w' ⟨rfl, rfl⟩)
    go_ret
    exact ⟨rfl, rfl⟩
  rw [show ci a b = 0 by unfold ci; rw [if_neg h1, if_neg h2]]
  go_enter Tryz.func57, Tryz.ntmps57
  go_wp2_with (go_at_call 92; refine (isNaN_c _ _).mono ?_; rintro e w' ⟨rfl, rfl⟩)
  go_ret
  exact ⟨rfl, rfl⟩

set_option maxHeartbeats 1000000 in
/-- cmp.Or of two. -/
theorem or_c (b : Nat) (x y : Int) (w : World) (h0 : w.cell? ⟨b, 0, none⟩ = some (.int .i64 x)) (h1 : w.cell? ⟨b, 1, none⟩ = some (.int .i64 y)) :
    Calls Tryz.prog 103 #[.slice (some ⟨b, 0, none⟩) 2 2] w fun e w' => e = .returned (.int .i64 (cor x y)) ∧ w' = w := by
  by_cases hx : x = 0
  · subst hx
    rw [show cor 0 y = y by simp [cor]]
    by_cases hy : y = 0
    · subst hy
      go_enter Tryz.func103, Tryz.ntmps103
      go_wp2
      refine wp_loop_rounds 3 ?_
      repeat (rw [rounds_succ]; go_wp2)
      go_ret
      exact ⟨rfl, rfl⟩
    · go_enter Tryz.func103, Tryz.ntmps103
      go_wp2
      refine wp_loop_rounds 2 ?_
      repeat (rw [rounds_succ]; go_wp2)
      go_ret
      exact ⟨rfl, rfl⟩
  · rw [show cor x y = x by simp [cor, hx]]
    go_enter Tryz.func103, Tryz.ntmps103
    go_wp2
    refine wp_loop_rounds 1 ?_
    repeat (rw [rounds_succ]; go_wp2)
    go_ret
    exact ⟨rfl, rfl⟩
end Go.Proofs.YtbnljabeccebiaaGreat.Tk

/- The program's order of two hits, and the reference's. -/
namespace Go.Proofs.YtbnljabeccebiaaGreat.Tk
open Go.RowKit Go.Sort

theorem six_call {w0 W w' : World} {p0 p1 p2 p3 p4 p5 : Addr} {v0 v1 v2 v3 v4 v5 : Value} (g : Gw W w')
    (h : Gw w0 W ∧ W.cell? p0 = some v0 ∧ W.cell? p1 = some v1 ∧ W.cell? p2 = some v2 ∧ W.cell? p3 = some v3 ∧ W.cell? p4 = some v4 ∧ W.cell? p5 = some v5) :
    Gw w0 w' ∧ w'.cell? p0 = some v0 ∧ w'.cell? p1 = some v1 ∧ w'.cell? p2 = some v2 ∧ w'.cell? p3 = some v3 ∧ w'.cell? p4 = some v4 ∧ w'.cell? p5 = some v5 := by
  obtain ⟨a, b0, b1, b2, b3, b4, b5⟩ := h
  exact ⟨a.trans g, gr_keeps g.gr b0, gr_keeps g.gr b1, gr_keeps g.gr b2, gr_keeps g.gr b3, gr_keeps g.gr b4, gr_keeps g.gr b5⟩
theorem six_alloc {w0 W : World} {o : Obj} {p0 p1 p2 p3 p4 p5 : Addr} {v0 v1 v2 v3 v4 v5 : Value}
    (h : Gw w0 W ∧ W.cell? p0 = some v0 ∧ W.cell? p1 = some v1 ∧ W.cell? p2 = some v2 ∧ W.cell? p3 = some v3 ∧ W.cell? p4 = some v4 ∧ W.cell? p5 = some v5) :
    Gw w0 (W.alloc o) ∧ (W.alloc o).cell? p0 = some v0 ∧ (W.alloc o).cell? p1 = some v1 ∧ (W.alloc o).cell? p2 = some v2 ∧ (W.alloc o).cell? p3 = some v3 ∧ (W.alloc o).cell? p4 = some v4 ∧ (W.alloc o).cell? p5 = some v5 :=
  six_call ((Gw.refl _).alloc _) h

theorem or_new (x y : Int) (W : World) :
    Calls Tryz.prog 103 #[.slice (some ⟨W.heap.size, 0, none⟩) 2 2] (W.alloc (.cells #[.int .i64 x, .int .i64 y] 3)) fun e w' => e = .returned (.int .i64 (cor x y)) ∧ w' = W.alloc (.cells #[.int .i64 x, .int .i64 y] 3) :=
  or_c _ x y _ (by simp [go_sem]) (by simp [go_sem])

set_option maxHeartbeats 2000000 in
theorem order_c (x y : Ht) (w : World) : Calls Tryz.prog 115 #[hv x, hv y] w fun e w' => e = .returned (.int .i64 (cf x y)) ∧ Gw w w' := by
  obtain ⟨a0, a1, a2⟩ := x
  obtain ⟨b0, b1, b2⟩ := y
  show Calls Tryz.prog 115 #[.agg #[.int .i64 a0, .int .u64 a1, .int .u64 a2], .agg #[.int .i64 b0, .int .u64 b1, .int .u64 b2]] w fun e w' => e = .returned (.int .i64 (cor (cw a1 a2 b1 b2) (ci a0 b0))) ∧ Gw w w'
  go_enter Tryz.func115, Tryz.ntmps115
  go_wp2
  have C : Gw w ((w.alloc (.cells #[.int .i64 a0, .int .u64 a1, .int .u64 a2] 68)).alloc (.cells #[.int .i64 b0, .int .u64 b1, .int .u64 b2] 68)) := ((Gw.refl _).alloc _).alloc _
  go_region_held3 (fun w' => Gw w w' ∧ w'.cell? ⟨w.heap.size, 0, none⟩ = some (.int .i64 a0) ∧ w'.cell? ⟨w.heap.size, 1, none⟩ = some (.int .u64 a1) ∧ w'.cell? ⟨w.heap.size, 2, none⟩ = some (.int .u64 a2) ∧ w'.cell? ⟨w.heap.size + 1, 0, none⟩ = some (.int .i64 b0) ∧ w'.cell? ⟨w.heap.size + 1, 1, none⟩ = some (.int .u64 b1) ∧ w'.cell? ⟨w.heap.size + 1, 2, none⟩ = some (.int .u64 b2)) (first | (with_reducible exact six_call (by assumption) (by assumption)) | (with_reducible assumption) | (with_reducible exact six_alloc (by assumption)) | exact ⟨C.drew, by simp [go_sem], by simp [go_sem], by simp [go_sem], by simp [go_sem], by simp [go_sem], by simp [go_sem]⟩) (first | (go_at_call 104; refine (cmpw _ _ _ _ _).mono ?_; rintro e w' ⟨rfl, hg⟩) | (go_at_call 57; refine (compare_c _ _ _).mono ?_; rintro e w' ⟨rfl, rfl⟩) | (go_at_call 103; refine (or_new _ _ _).mono ?_; rintro e w' ⟨rfl, rfl⟩))
  all_goals
    go_wp2
    go_ret
    exact ⟨rfl, And.left (by assumption)⟩

set_option maxHeartbeats 1000000 in
theorem less_c (x y : Ht) (w : World) : Calls Tryz.prog 118 #[hv x, hv y] w fun e w' => e = .returned (.bool (hlt x y)) ∧ Gw w w' := by
  have ho := fun w => order_c x y w
  unfold hlt
  generalize cf x y = r at ho ⊢
  go_enter Tryz.func118, Tryz.ntmps118
  go_wp2_with (go_at_call 115; refine (ho _).mono ?_; rintro e w' ⟨rfl, hg⟩)
  go_ret
  exact ⟨rfl, (((Gw.refl _).alloc _).alloc _).trans hg⟩

end Go.Proofs.YtbnljabeccebiaaGreat.Tk

/- A row of hits that the program owns: where it lies, what it holds, and what may turn beside it. -/
namespace Go.Proofs.YtbnljabeccebiaaGreat.Tk
open Go.RowKit Go.Sort

/-- The cells of some hits, one behind the other. -/
def fl (l : List Ht) : List Value := l.flatMap enc
theorem fl_len (l : List Ht) : (fl l).length = l.length * 3 := by
  induction l with
  | nil => rfl
  | cons a r ih => simp only [fl, List.flatMap_cons, List.length_append, List.length_cons] at *; rw [ih]; simp [enc]; omega
theorem fl_app (a b : List Ht) : fl (a ++ b) = fl a ++ fl b := by simp [fl]
theorem fl_one (x : Ht) : fl [x] = enc x := by simp [fl]
theorem fl_get (l : List Ht) (i c : Nat) (hi : i < l.length) (hc : c < 3) : (fl l)[i * 3 + c]? = (enc (l[i]'hi))[c]? := by
  induction l generalizing i with
  | nil => exact absurd hi (Nat.not_lt_zero _)
  | cons a r ih =>
    have e : fl (a :: r) = enc a ++ fl r := by simp [fl]
    rw [e]
    cases i with
    | zero =>
      rw [List.getElem?_append_left (by simp [enc]; omega)]
      simp
    | succ i =>
      rw [List.getElem?_append_right (by simp [enc]; omega)]
      have : (i + 1) * 3 + c - (enc a).length = i * 3 + c := by simp [enc]; omega
      rw [this, ih i (by simpa using hi)]
      simp
theorem fl_one_cell (l : List Ht) : ∀ u ∈ fl l, u.oneCell' = true := by
  intro u hu
  simp only [fl, List.mem_flatMap, enc, List.mem_cons, List.not_mem_nil, or_false] at hu
  obtain ⟨x, _, rfl | rfl | rfl⟩ := hu <;> rfl
theorem enc_len (x : Ht) : (enc x).length = 3 := rfl
theorem enc_one (x : Ht) : ∀ v ∈ enc x, v.oneCell' = true := by
  intro v hv; simp only [enc, List.mem_cons, List.not_mem_nil, or_false] at hv; rcases hv with rfl | rfl | rfl <;> rfl
theorem flatK_fl (d : Array Ht) : (flatK enc 3 d).toList = fl d.toList := by
  apply List.ext_getElem?
  intro t
  by_cases h : t < d.size * 3
  · have hi : t / 3 < d.size := by omega
    have h2 := fl_get d.toList (t / 3) (t % 3) (by simpa using hi) (Nat.mod_lt _ (by omega))
    rw [show t / 3 * 3 + t % 3 = t by omega] at h2
    rw [h2]
    have h3 := get_flatK enc 3 d t h
    rw [getElem!_pos (flatK enc 3 d) t (by simpa using h)] at h3
    rw [List.getElem?_eq_getElem (by simpa using h)]
    simp only [Array.getElem_toList]
    rw [h3, getElem!_pos d (t / 3) hi]
    have hm : t % 3 < (enc d[t / 3]).length := by rw [enc_len]; exact Nat.mod_lt _ (by omega)
    rw [getElem!_pos (enc d[t / 3]) (t % 3) hm, List.getElem?_eq_getElem hm]
  · rw [List.getElem?_eq_none (by simp; omega), List.getElem?_eq_none (by rw [fl_len]; simp; omega)]

/-- The program owns a slice v of these hits. -/
def Own (w : World) (v : Value) (d : Array Ht) : Prop := w.ownsRow 0 68 3 v d.size (fl d.toList)
theorem own_nil (w : World) : Own w (.slice none 0 0) #[] := World.ownsRow_nil w 0 68 3
theorem own_form {w : World} {v : Value} {d : Array Ht} (h : Own w v d) (hn : 0 < d.size) :
    ∃ g cap cur, v = .slice (some ⟨g, 0, none⟩) d.size cap ∧ w.heap[g]? = some (.cells cur 68 (0, 0)) ∧ d.size ≤ cap ∧ cap ≤ maxLen ∧ cur.size = cap * 3 ∧ cur.toList.take (d.size * 3) = fl d.toList := by
  rcases h.2 with ⟨_, h2⟩ | ⟨g, cap, cur, rfl, _, r⟩
  · omega
  · exact ⟨g, cap, cur, rfl, r⟩
theorem own_kept {w w' : World} {g n cap : Nat} {d : Array Ht} (h : Own w (.slice (some ⟨g, 0, none⟩) n cap) d) (hb : w'.heap[g]? = w.heap[g]?) : Own w' (.slice (some ⟨g, 0, none⟩) n cap) d := by
  refine ⟨h.1, ?_⟩
  rcases h.2 with ⟨h1, _⟩ | ⟨g', cap', cur, e, hb', hh, r⟩
  · cases h1
  · cases e
    exact .inr ⟨_, _, cur, rfl, hb', by rw [hb]; exact hh, r⟩
theorem own_gr {w w' : World} {v : Value} {d : Array Ht} (h : Own w v d) (g : Gr w w') : Own w' v d := by
  refine ⟨h.1, ?_⟩
  rcases h.2 with h1 | ⟨g', cap', cur, e, hb', hh, r⟩
  · exact .inl h1
  · exact .inr ⟨g', cap', cur, e, hb', by rw [g.block g' (Array.getElem?_eq_some_iff.1 hh).1]; exact hh, r⟩
theorem own_lt {w : World} {v : Value} {d : Array Ht} (h : Own w v d) {g : Nat} (hg : v.ownBlock = some g) : g < w.heap.size := (h.lt g hg).2
/-- One hit's cells. -/
theorem own_cell {w : World} {g n cap : Nat} {d : Array Ht} (h : Own w (.slice (some ⟨g, 0, none⟩) n cap) d) {i : Nat} (hi : i < d.size) :
    w.cell? ⟨g, i * 3, none⟩ = some (.int .i64 d[i]!.id) ∧ w.cell? ⟨g, i * 3 + 1, none⟩ = some (.int .u64 d[i]!.hi) ∧ w.cell? ⟨g, i * 3 + 2, none⟩ = some (.int .u64 d[i]!.lo) := by
  have hc := h.cells (g := g) rfl
  have e : d[i]! = d.toList[i]'(by simpa using hi) := by rw [getElem!_pos d i hi]; simp
  have hh : ∀ c, c < 3 → ∀ u, (enc d[i]!)[c]? = some u → w.cell? ⟨g, i * 3 + c, none⟩ = some u := by
    intro c hc3 u hu
    have := hc (i * 3 + c) u (by rw [fl_get _ _ _ (by simpa using hi) hc3, ← e]; exact hu)
    rw [Addr.add_lit, Nat.zero_add] at this; exact this
  exact ⟨hh 0 (by omega) _ rfl, hh 1 (by omega) _ rfl, hh 2 (by omega) _ rfl⟩
theorem own_froz {w : World} {g n cap : Nat} {d : Array Ht} (h : Own w (.slice (some ⟨g, 0, none⟩) n cap) d) (o : Nat) : w.frozen? ⟨g, o, none⟩ = false := by
  rcases h.2 with ⟨h1, _⟩ | ⟨g', cap', cur, e, _, hh, _⟩
  · cases h1
  · cases e
    simp [World.frozen?, hh]
theorem own_holds {w : World} {g n cap : Nat} {d : Array Ht} (h : Own w (.slice (some ⟨g, 0, none⟩) n cap) d) : HoldsK enc 3 w g 0 d := by
  intro t ht
  have ht' : t < d.size * 3 := by simpa using ht
  refine ⟨?_, own_froz h _⟩
  have hc := h.cells (g := g) rfl t ((flatK enc 3 d)[t]!) (by
    rw [← flatK_fl, getElem!_pos (flatK enc 3 d) t ht, List.getElem?_eq_getElem (by simpa using ht')]; simp)
  rw [Addr.add_lit] at hc; exact hc
theorem heap_putRow (w : World) (g m : Nat) (d : Array Ht) (cur : Array Value) (hh : w.heap[g]? = some (.cells cur 68 (0, 0))) :
    (putRowK enc 3 (Sort.ahead w m) g 0 d).heap[g]? = some (.cells (putCells id 0 (flatK enc 3 d) cur) 68 (0, 0)) := by
  simp [putRowK, putRow, mapBlock, Array.getElem?_modify, hh, onCells]
theorem own_put {w : World} {g n cap : Nat} {d : Array Ht} (h : Own w (.slice (some ⟨g, 0, none⟩) n cap) d) (m : Nat) (d' : Array Ht) (hs : d'.size = d.size) :
    Own (putRowK enc 3 (Sort.ahead w m) g 0 d') (.slice (some ⟨g, 0, none⟩) n cap) d' := by
  refine ⟨by rw [fl_len]; simp, ?_⟩
  rcases h.2 with ⟨h1, _⟩ | ⟨g', cap', cur, e, hb', hh, hle, hmx, hsz, htk⟩
  · cases h1
  · cases e
    refine .inr ⟨_, _, _, by rw [hs], hb', heap_putRow w g m d' cur hh, by rw [hs]; exact hle, hmx, by simp [putCells, hsz], ?_⟩
    rw [← flatK_fl]
    apply List.ext_getElem?
    intro t
    by_cases ht : t < d'.size * 3
    · have ht2 : t < cur.size := by rw [hsz]; have := Nat.mul_le_mul_right 3 hle; omega
      rw [List.getElem?_take, if_pos ht, List.getElem?_eq_getElem (by simpa [putCells] using ht2), List.getElem?_eq_getElem (by simpa using ht)]
      simp only [Array.getElem_toList, putCells, Array.getElem_mapIdx]
      rw [if_pos ⟨by omega, by simp; omega⟩]
      simp [getElem!_pos, ht]
    · rw [List.getElem?_eq_none (by simp; omega), List.getElem?_eq_none (by simp; omega)]

/-- Nothing that was there has turned but in the blocks that S tells. -/
structure Kp (S : Nat → Prop) (w w' : World) : Prop where
  os : w'.os = w.os
  tape : w'.tape = w.tape
  output : w'.output = w.output
  size : w.heap.size ≤ w'.heap.size
  block : ∀ k, k < w.heap.size → ¬ S k → w'.heap[k]? = w.heap[k]?
theorem Kp.refl (S : Nat → Prop) (w : World) : Kp S w w := ⟨rfl, rfl, rfl, Nat.le_refl _, fun _ _ _ => rfl⟩
theorem Kp.trans {S : Nat → Prop} {a b c : World} (h : Kp S a b) (k : Kp S b c) : Kp S a c :=
  ⟨k.os.trans h.os, k.tape.trans h.tape, k.output.trans h.output, Nat.le_trans h.size k.size, fun i hi hn => (k.block i (Nat.lt_of_lt_of_le hi h.size) hn).trans (h.block i hi hn)⟩
theorem Kp.mono {S T : Nat → Prop} {a b : World} (h : Kp S a b) (hst : ∀ k, k < a.heap.size → S k → T k) : Kp T a b :=
  ⟨h.os, h.tape, h.output, h.size, fun i hi hn => h.block i hi (fun hs => hn (hst i hi hs))⟩
theorem Kp.of_gr {S : Nat → Prop} {a b : World} (h : Gr a b) : Kp S a b := ⟨h.os, h.tape, h.output, h.size, fun i hi _ => h.block i hi⟩
theorem Kp.gr {S : Nat → Prop} {a b : World} (h : Kp S a b) {B : Nat} (hB : B ≤ a.heap.size) (hS : ∀ k, S k → B ≤ k) : Below B a b :=
  ⟨h.os, h.tape, h.output, h.size, fun i hi => h.block i (by omega) (fun hs => by have := hS i hs; omega)⟩
theorem Kp.grown {a b : World} {r : Option Nat} (h : a.grownBy b r) : Kp (fun k => some k = r) a b := ⟨h.os, h.tape, h.output, h.size, fun i hi hn => h.block i hi hn⟩
theorem Kp.setCell {S : Nat → Prop} {a w : World} (h : Kp S a w) {p : Addr} (hp : S p.block ∨ a.heap.size ≤ p.block) (u : Value) : Kp S a (w.setCell p u) :=
  ⟨h.os, h.tape, h.output, by simpa [World.setCell] using h.size, fun k hk hn => (Below.heap_setCell _ _ _ _ (by rintro rfl; rcases hp with hp | hp; exact hn hp; omega)).trans (h.block k hk hn)⟩
theorem Kp.put {g m : Nat} (w : World) (d : Array Ht) : Kp (fun k => k = g) w (putRowK enc 3 (Sort.ahead w m) g 0 d) := by
  refine ⟨rfl, rfl, rfl, by simp [putRowK], fun k _ hn => ?_⟩
  simp [putRowK, putRow, mapBlock, Array.getElem?_modify, Ne.symm hn]
theorem Kp.cell {S : Nat → Prop} {a b : World} (h : Kp S a b) {p : Addr} {v : Value} (hc : a.cell? p = some v) (hn : ¬ S p.block) : b.cell? p = some v :=
  (World.cell?_of_block (h.block p.block (World.block_lt_of_cell? a p hc) hn)).trans hc
theorem own_kp {S : Nat → Prop} {w w' : World} {v : Value} {d : Array Ht} (h : Own w v d) (k : Kp S w w') (hn : ∀ g, v.ownBlock = some g → ¬ S g) : Own w' v d := by
  refine ⟨h.1, ?_⟩
  rcases h.2 with h1 | ⟨g', cap', cur, rfl, hb', hh, r⟩
  · exact .inl h1
  · exact .inr ⟨g', cap', cur, rfl, hb', by rw [k.block g' (Array.getElem?_eq_some_iff.1 hh).1 (hn _ rfl)]; exact hh, r⟩
end Go.Proofs.YtbnljabeccebiaaGreat.Tk
