import Derived.Test.YtepjbdklljlecaaGreatVbTkBase
import Derived.Test.YtepjbdklljlecaaGreatVbNum
import Derived.BigQuiet
/- The program's order of two hits, and the reference's. -/
namespace Go.Proofs.YtepjbdklljlecaaGreat.Tk
open Go.RowKit Go.Sort

theorem six_call {w0 W w' : World} {p0 p1 p2 p3 p4 p5 : Addr} {v0 v1 v2 v3 v4 v5 : Value} (g : Gw W w')
    (h : Gw w0 W ∧ W.cell? p0 = some v0 ∧ W.cell? p1 = some v1 ∧ W.cell? p2 = some v2 ∧ W.cell? p3 = some v3 ∧ W.cell? p4 = some v4 ∧ W.cell? p5 = some v5) :
    Gw w0 w' ∧ w'.cell? p0 = some v0 ∧ w'.cell? p1 = some v1 ∧ w'.cell? p2 = some v2 ∧ w'.cell? p3 = some v3 ∧ w'.cell? p4 = some v4 ∧ w'.cell? p5 = some v5 := by
  obtain ⟨a, b0, b1, b2, b3, b4, b5⟩ := h
  exact ⟨a.trans g, gr_keeps g.gr b0, gr_keeps g.gr b1, gr_keeps g.gr b2, gr_keeps g.gr b3, gr_keeps g.gr b4, gr_keeps g.gr b5⟩
theorem six_alloc {w0 W : World} {o : Obj} {p0 p1 p2 p3 p4 p5 : Addr} {v0 v1 v2 v3 v4 v5 : Value}
    (h : Gw w0 W ∧ W.cell? p0 = some v0 ∧ W.cell? p1 = some v1 ∧ W.cell? p2 = some v2 ∧ W.cell? p3 = some v3 ∧ W.cell? p4 = some v4 ∧ W.cell? p5 = some v5) :
    Gw w0 (W.alloc o) ∧ (W.alloc o).cell? p0 = some v0 ∧ (W.alloc o).cell? p1 = some v1 ∧ (W.alloc o).cell? p2 = some v2 ∧ (W.alloc o).cell? p3 = some v3 ∧ (W.alloc o).cell? p4 = some v4 ∧ (W.alloc o).cell? p5 = some v5 :=
  six_call ((Gw.refl _).alloc _) h

theorem or_new (x y : Int) (W : World) :
    Calls Tryz.prog 136 #[.slice (some ⟨W.heap.size, 0, none⟩) 2 2] (W.alloc (.cells #[.int .i64 x, .int .i64 y] 3)) fun e w' => e = .returned (.int .i64 (cor x y)) ∧ w' = W.alloc (.cells #[.int .i64 x, .int .i64 y] 3) :=
  or_c _ x y _ (by simp [go_sem]) (by simp [go_sem])

set_option maxHeartbeats 2000000 in
theorem order_c (x y : Ht) (w : World) : Calls Tryz.prog 112 #[hv x, hv y] w fun e w' => e = .returned (.int .i64 (cf x y)) ∧ Gw w w' := by
  obtain ⟨a0, a1, a2⟩ := x
  obtain ⟨b0, b1, b2⟩ := y
  show Calls Tryz.prog 112 #[.agg #[.int .i64 a0, .int .u64 a1, .int .u64 a2], .agg #[.int .i64 b0, .int .u64 b1, .int .u64 b2]] w fun e w' => e = .returned (.int .i64 (cor (cw a1 a2 b1 b2) (ci a0 b0))) ∧ Gw w w'
  go_enter Tryz.func112, Tryz.ntmps112
  go_wp2
  have C : Gw w ((w.alloc (.cells #[.int .i64 a0, .int .u64 a1, .int .u64 a2] 68)).alloc (.cells #[.int .i64 b0, .int .u64 b1, .int .u64 b2] 68)) := ((Gw.refl _).alloc _).alloc _
  go_region_held3 (fun w' => Gw w w' ∧ w'.cell? ⟨w.heap.size, 0, none⟩ = some (.int .i64 a0) ∧ w'.cell? ⟨w.heap.size, 1, none⟩ = some (.int .u64 a1) ∧ w'.cell? ⟨w.heap.size, 2, none⟩ = some (.int .u64 a2) ∧ w'.cell? ⟨w.heap.size + 1, 0, none⟩ = some (.int .i64 b0) ∧ w'.cell? ⟨w.heap.size + 1, 1, none⟩ = some (.int .u64 b1) ∧ w'.cell? ⟨w.heap.size + 1, 2, none⟩ = some (.int .u64 b2)) (first | (with_reducible exact six_call (by assumption) (by assumption)) | (with_reducible assumption) | (with_reducible exact six_alloc (by assumption)) | exact ⟨C.drew, by simp [go_sem], by simp [go_sem], by simp [go_sem], by simp [go_sem], by simp [go_sem], by simp [go_sem]⟩) (first | (go_at_call 70; refine (cmpw _ _ _ _ _).mono ?_; rintro e w' ⟨rfl, hg⟩) | (go_at_call 58; refine (compare_c _ _ _).mono ?_; rintro e w' ⟨rfl, rfl⟩) | (go_at_call 136; refine (or_new _ _ _).mono ?_; rintro e w' ⟨rfl, rfl⟩))
  all_goals
    go_wp2
    go_ret
    exact ⟨rfl, And.left (by assumption)⟩

set_option maxHeartbeats 1000000 in
theorem less_c (x y : Ht) (w : World) : Calls Tryz.prog 115 #[hv x, hv y] w fun e w' => e = .returned (.bool (hlt x y)) ∧ Gw w w' := by
  have ho := fun w => order_c x y w
  unfold hlt
  generalize cf x y = r at ho ⊢
  go_enter Tryz.func115, Tryz.ntmps115
  go_wp2_with (go_at_call 112; refine (ho _).mono ?_; rintro e w' ⟨rfl, hg⟩)
  go_ret
  exact ⟨rfl, (((Gw.refl _).alloc _).alloc _).trans hg⟩

end Go.Proofs.YtepjbdklljlecaaGreat.Tk

/- The reference's plus, as a contract. -/
namespace Go.Proofs.YtepjbdklljlecaaGreat
open Go.RowKit

end Go.Proofs.YtepjbdklljlecaaGreat

/- The reference's Cmp and Less, as contracts. -/
namespace Go.Proofs.YtepjbdklljlecaaGreat
open Go.RowKit

end Go.Proofs.YtepjbdklljlecaaGreat

/- The reference's Wide and Add, as contracts. -/
namespace Go.Proofs.YtepjbdklljlecaaGreat
open Go.RowKit

end Go.Proofs.YtepjbdklljlecaaGreat
