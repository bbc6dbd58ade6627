/- flat.order, slices.SortFunc by it, Range. -/
import Derived.Test.YteaeaoekaoedoaaGreatFNear
import Derived.Maps.OwnIn
namespace Go.Proofs.YteaeaoekaoedoaaGreat
open Go.RowKit Go.Shelf Go.Sort Go.Lib
attribute [local go_sem] Oper.semAt_some

theorem cf_is (x y : Tk.Ht) : Tk.cf x y = if Tk.hlt x y = true then -1 else if Tk.hlt y x = true then 1 else 0 := by
  simp only [Tk.hlt_iff]
  unfold Tk.cf Tk.cor Tk.cw Tk.ci
  (repeat' split) <;> first | omega | rfl
set_option maxHeartbeats 1000000 in
theorem forder_c (x y : Tk.Ht) (w : World) : Calls Tryz.prog 42 #[Tk.hv x, Tk.hv y] w fun e w' => e = .returned (.int .i64 (Tk.cf x y)) ∧ Tk.Gw w w' := by
  have l1 := fun w => Tk.less_c x y w
  have l2 := fun w => Tk.less_c y x w
  rw [cf_is]
  generalize Tk.hlt x y = b1 at *
  generalize Tk.hlt y x = b2 at *
  obtain ⟨x0, x1, x2⟩ := x
  obtain ⟨y0, y1, y2⟩ := y
  have G0 : Tk.Gw w ((w.alloc (.cells #[.int .i64 x0, .int .u64 x1, .int .u64 x2] 57)).alloc (.cells #[.int .i64 y0, .int .u64 y1, .int .u64 y2] 57)) := ((Tk.Gw.refl _).alloc _).alloc _
  have kx : ((w.alloc (.cells #[.int .i64 x0, .int .u64 x1, .int .u64 x2] 57)).alloc (.cells #[.int .i64 y0, .int .u64 y1, .int .u64 y2] 57)).cell? ⟨w.heap.size, 0, none⟩ = some (.int .i64 x0) ∧ ((w.alloc (.cells #[.int .i64 x0, .int .u64 x1, .int .u64 x2] 57)).alloc (.cells #[.int .i64 y0, .int .u64 y1, .int .u64 y2] 57)).cell? ⟨w.heap.size, 1, none⟩ = some (.int .u64 x1) ∧ ((w.alloc (.cells #[.int .i64 x0, .int .u64 x1, .int .u64 x2] 57)).alloc (.cells #[.int .i64 y0, .int .u64 y1, .int .u64 y2] 57)).cell? ⟨w.heap.size, 2, none⟩ = some (.int .u64 x2) := by
    refine ⟨?_, ?_, ?_⟩ <;> simp [go_sem]
  have ky : ((w.alloc (.cells #[.int .i64 x0, .int .u64 x1, .int .u64 x2] 57)).alloc (.cells #[.int .i64 y0, .int .u64 y1, .int .u64 y2] 57)).cell? ⟨w.heap.size + 1, 0, none⟩ = some (.int .i64 y0) ∧ ((w.alloc (.cells #[.int .i64 x0, .int .u64 x1, .int .u64 x2] 57)).alloc (.cells #[.int .i64 y0, .int .u64 y1, .int .u64 y2] 57)).cell? ⟨w.heap.size + 1, 1, none⟩ = some (.int .u64 y1) ∧ ((w.alloc (.cells #[.int .i64 x0, .int .u64 x1, .int .u64 x2] 57)).alloc (.cells #[.int .i64 y0, .int .u64 y1, .int .u64 y2] 57)).cell? ⟨w.heap.size + 1, 2, none⟩ = some (.int .u64 y2) := by
    refine ⟨?_, ?_, ?_⟩ <;> simp [go_sem]
  obtain ⟨kx0, kx1, kx2⟩ := kx
  obtain ⟨ky0, ky1, ky2⟩ := ky
  cases b1
  · go_enter Tryz.func42, Tryz.ntmps42
    go_wp2_with fail
    refine (l1 _).mono ?_
    rintro e w1 ⟨rfl, g1⟩
    have x0' := Tk.gr_keeps g1.gr kx0
    have x1' := Tk.gr_keeps g1.gr kx1
    have x2' := Tk.gr_keeps g1.gr kx2
    have y0' := Tk.gr_keeps g1.gr ky0
    have y1' := Tk.gr_keeps g1.gr ky1
    have y2' := Tk.gr_keeps g1.gr ky2
    clear l1
    go_wp2_with fail
    refine (l2 _).mono ?_
    rintro e w2 ⟨rfl, g2⟩
    cases b2
    · go_wp2
      go_ret
      exact ⟨rfl, (G0.trans g1).trans g2⟩
    · go_wp2
      go_ret
      exact ⟨rfl, (G0.trans g1).trans g2⟩
  · go_enter Tryz.func42, Tryz.ntmps42
    go_wp2_with fail
    refine (l1 _).mono ?_
    rintro e w1 ⟨rfl, g1⟩
    clear l1 l2
    go_wp2
    go_ret
    exact ⟨rfl, G0.trans g1⟩

theorem fcmpH (blk off size : Nat) (w : World) : CmpLays Tryz.prog 42 #[] Tk.enc 3 Tk.cf blk off size w := fun _ _ _ _ x y => forder_c x y _
theorem fsort_c {w : World} {v : Value} {d : Array Tk.Ht} (h : Tk.Own w v d) (hn : d.size ≤ 4000) :
    Calls Tryz.prog 41 #[v, .func (.func 42) #[] #[]] w fun e w' => e = .returned (.tuple #[]) ∧ Tk.Own w' v (Tk.srt d.toList).toArray ∧ Tk.Kp (fun b => some b = v.ownBlock) w w' := by
  have h' := h
  rcases h.2 with ⟨rfl, h0⟩ | ⟨g, cap, cur, rfl, _, hh, r⟩
  · obtain rfl := Array.eq_empty_of_size_eq_zero h0
    refine (AnyF.slices_SortFunc_none Tk.Tryz.laidSort none 0 _ w).mono ?_
    rintro e w' ⟨rfl, rfl⟩
    exact ⟨rfl, by simpa [Tk.srt] using h', Tk.Kp.refl _ _⟩
  · have eg : ∀ args w, (callFunc 42 args).run Tryz.prog w = .ok (.enter 42 args) w := enters_of Tryz.func42 (by kernel_rfl) rfl
    have hc := AnyQ.slices_SortFunc_total Tk.Tryz.laidSort 3 Tryz.isAgg57 Tryz.sizeOf57 Tk.enc Tk.enc_len Tk.enc_one Tk.cf Tk.swoH 42 #[] g 0 cap d w eg (fcmpH g 0 d.size w) (Tk.own_holds h') (Tk.own_lt h' rfl) (by omega) (fun x y h1 h2 => Tk.hlt_tot h1 h2)
    change Calls Tryz.prog 41 _ _ _ at hc
    refine hc.mono ?_
    rintro e w' ⟨rfl, q, os, rfl⟩
    have hsz : ((d.toList.mergeSort fun x y => !(ltOf Tk.cf) y x).toArray).size = d.size := by simp
    refine ⟨rfl, ?_, ?_⟩
    · exact Tk.own_gr (Tk.own_put h' q _ hsz) (Tk.gr_grow _ _)
    · refine ((Tk.Kp.put w _).trans (Tk.Kp.of_gr (Tk.gr_grow _ _))).mono ?_
      intro k _ e
      simp [Value.ownBlock, e]
end Go.Proofs.YteaeaoekaoedoaaGreat
