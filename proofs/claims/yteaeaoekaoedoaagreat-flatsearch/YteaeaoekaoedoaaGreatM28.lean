/- Hits in a block of the call's own, by their places. -/
import Derived.Test.YteaeaoekaoedoaaGreatFNear
import Derived.Test.YteaeaoekaoedoaaGreatTkSame
import Derived.Maps.OwnIn
namespace Go.Proofs.YteaeaoekaoedoaaGreat
open Go.RowKit Go.Sort

/-- Block g holds, at its head, the hits f 0 .. f (n - 1). -/
def HA (W : World) (g n cap : Nat) (f : Nat → Tk.Ht) : Prop :=
  ∃ cur : Array Value, W.heap[g]? = some (.cells cur 57 (0, 0)) ∧ cur.size = cap * 3 ∧ n ≤ cap ∧ cap ≤ maxLen ∧ ∀ i, i < n → cur[i * 3]? = some (.int .i64 (f i).1) ∧ cur[i * 3 + 1]? = some (.int .u64 (f i).2.1) ∧ cur[i * 3 + 2]? = some (.int .u64 (f i).2.2)
theorem HA.lt {W : World} {g n cap : Nat} {f : Nat → Tk.Ht} (h : HA W g n cap f) : g < W.heap.size := by
  obtain ⟨cur, h1, _⟩ := h; exact (Array.getElem?_eq_some_iff.1 h1).1
theorem HA.cell {W : World} {g n cap : Nat} {f : Nat → Tk.Ht} (h : HA W g n cap f) {i : Nat} (hi : i < n) : W.cell? ⟨g, i * 3, none⟩ = some (.int .i64 (f i).1) ∧ W.cell? ⟨g, i * 3 + 1, none⟩ = some (.int .u64 (f i).2.1) ∧ W.cell? ⟨g, i * 3 + 2, none⟩ = some (.int .u64 (f i).2.2) := by
  obtain ⟨cur, h1, _, _, _, h4⟩ := h
  obtain ⟨a, b, c⟩ := h4 i hi
  simp [World.cell?, h1, a, b, c]
theorem HA.frozen {W : World} {g n cap : Nat} {f : Nat → Tk.Ht} (h : HA W g n cap f) (o : Nat) : W.frozen? ⟨g, o, none⟩ = false := by
  obtain ⟨cur, h1, _⟩ := h
  simp [World.frozen?, h1]
theorem HA.block {W W' : World} {g n cap : Nat} {f : Nat → Tk.Ht} (h : HA W g n cap f) (e : W'.heap[g]? = W.heap[g]?) : HA W' g n cap f := by
  obtain ⟨cur, h1, h2⟩ := h
  exact ⟨cur, e.trans h1, h2⟩
theorem HA.congr {W : World} {g n cap : Nat} {f f' : Nat → Tk.Ht} (h : HA W g n cap f) (e : ∀ i, i < n → f i = f' i) : HA W g n cap f' := by
  obtain ⟨cur, h1, h2, h3, h4, h5⟩ := h
  exact ⟨cur, h1, h2, h3, h4, fun i hi => by rw [← e i hi]; exact h5 i hi⟩
theorem HA.set {W : World} {g n cap : Nat} {f : Nat → Tk.Ht} (h : HA W g n cap f) {i : Nat} (hi : i < n) (x : Tk.Ht) :
    HA (((W.setCell ⟨g, i * 3, none⟩ (.int .i64 x.1)).setCell ⟨g, i * 3 + 1, none⟩ (.int .u64 x.2.1)).setCell ⟨g, i * 3 + 2, none⟩ (.int .u64 x.2.2)) g n cap (fun t => if t = i then x else f t) := by
  obtain ⟨cur, h1, h2, h3, h4, h5⟩ := h
  refine ⟨((cur.setIfInBounds (i * 3) (.int .i64 x.1)).setIfInBounds (i * 3 + 1) (.int .u64 x.2.1)).setIfInBounds (i * 3 + 2) (.int .u64 x.2.2), ?_, by simpa using h2, h3, h4, fun t ht => ?_⟩
  · simp [World.setCell, Array.getElem?_modify, h1]
  · by_cases e : t = i
    · subst e
      simp only [if_true]
      refine ⟨?_, ?_, ?_⟩
      · rw [Array.getElem?_setIfInBounds_ne (by omega), Array.getElem?_setIfInBounds_ne (by omega), Array.getElem?_setIfInBounds_self_of_lt (by omega)]
      · rw [Array.getElem?_setIfInBounds_ne (by omega), Array.getElem?_setIfInBounds_self_of_lt (by simp; omega)]
      · rw [Array.getElem?_setIfInBounds_self_of_lt (by simp; omega)]
    · simp only [if_neg e]
      obtain ⟨a, b, c⟩ := h5 t ht
      refine ⟨?_, ?_, ?_⟩
      · rw [Array.getElem?_setIfInBounds_ne (by omega), Array.getElem?_setIfInBounds_ne (by omega), Array.getElem?_setIfInBounds_ne (by omega)]; exact a
      · rw [Array.getElem?_setIfInBounds_ne (by omega), Array.getElem?_setIfInBounds_ne (by omega), Array.getElem?_setIfInBounds_ne (by omega)]; exact b
      · rw [Array.getElem?_setIfInBounds_ne (by omega), Array.getElem?_setIfInBounds_ne (by omega), Array.getElem?_setIfInBounds_ne (by omega)]; exact c
theorem ha_of_own {W : World} {g n cap : Nat} {d : Array Tk.Ht} (h : Tk.Own W (.slice (some ⟨g, 0, none⟩) n cap) d) : n = d.size ∧ HA W g d.size cap (fun i => d.toList[i]!) := by
  rcases h.2 with ⟨e, _⟩ | ⟨g', cap', cur, e, _, h2, h3, h4, h5, h6⟩
  · cases e
  · cases e
    refine ⟨rfl, cur, h2, h5, h3, h4, fun i hi => ?_⟩
    have hl : i < d.toList.length := by simpa using hi
    have key : ∀ c, c < 3 → cur[i * 3 + c]? = (Tk.enc d.toList[i]!)[c]? := fun c hc => by
      have h7 := Tk.fl_get d.toList i c hl hc
      rw [← h6, List.getElem?_take_of_lt (by omega), Array.getElem?_toList] at h7
      rw [h7, getElem!_pos d.toList i hl]
    have k0 := key 0 (by omega)
    have k1 := key 1 (by omega)
    have k2 := key 2 (by omega)
    rw [Nat.add_zero] at k0
    exact ⟨k0.trans rfl, k1.trans rfl, k2.trans rfl⟩
theorem own_of_ha {W : World} {g cap : Nat} {l : List Tk.Ht} {f : Nat → Tk.Ht} (h : HA W g l.length cap f) (e : ∀ i, i < l.length → f i = l[i]!) : Tk.Own W (.slice (some ⟨g, 0, none⟩) l.length cap) l.toArray := by
  obtain ⟨cur, h1, h2, h3, h4, h5⟩ := h
  refine ⟨by rw [Tk.fl_len]; simp, .inr ⟨g, cap, cur, by simp, Nat.zero_le _, h1, by simpa using h3, h4, h2, ?_⟩⟩
  simp only [List.size_toArray]
  apply List.ext_getElem?
  intro j
  by_cases hj : j < l.length * 3
  · obtain ⟨i, c, hc, rfl⟩ : ∃ i c, c < 3 ∧ j = i * 3 + c := ⟨j / 3, j % 3, by omega, by omega⟩
    have hi : i < l.length := by omega
    rw [List.getElem?_take_of_lt hj, Array.getElem?_toList, Tk.fl_get l i c hi hc]
    obtain ⟨a, b, d⟩ := h5 i hi
    rw [e i hi, getElem!_pos l i hi] at a b d
    rcases c with _ | _ | _ | c
    · rw [Nat.add_zero]; exact a
    · exact b
    · exact d
    · omega
  · rw [List.getElem?_eq_none (by rw [List.length_take]; omega), List.getElem?_eq_none (by rw [Tk.fl_len]; simpa using hj)]
end Go.Proofs.YteaeaoekaoedoaaGreat

/- flat.order, slices.SortFunc by it, Range. -/
namespace Go.Proofs.YteaeaoekaoedoaaGreat
open Go.RowKit Go.Shelf Go.Sort Go.Lib
attribute [local go_sem] Oper.semAt_some

theorem cf_is (x y : Tk.Ht) : Tk.cf x y = if Tk.hlt x y = true then -1 else if Tk.hlt y x = true then 1 else 0 := by
  simp only [Tk.hlt_iff]
  unfold Tk.cf Tk.cor Tk.cw Tk.ci
  (repeat' split) <;> first | omega | rfl
set_option maxHeartbeats 1000000 in
theorem forder_c (x y : Tk.Ht) (w : World) : Calls Tryz.prog 42 #[Tk.hv x, Tk.hv y] w fun e w' => e = .returned (.int .i64 (Tk.cf x y)) ∧ Tk.Gw w w' := by
  have l1 := fun w => Tk.less_c x y w
  have l2 := fun w => Tk.less_c y x w
  rw [cf_is]
  generalize Tk.hlt x y = b1 at *
  generalize Tk.hlt y x = b2 at *
  obtain ⟨x0, x1, x2⟩ := x
  obtain ⟨y0, y1, y2⟩ := y
  have G0 : Tk.Gw w ((w.alloc (.cells #[.int .i64 x0, .int .u64 x1, .int .u64 x2] 57)).alloc (.cells #[.int .i64 y0, .int .u64 y1, .int .u64 y2] 57)) := ((Tk.Gw.refl _).alloc _).alloc _
  have kx : ((w.alloc (.cells #[.int .i64 x0, .int .u64 x1, .int .u64 x2] 57)).alloc (.cells #[.int .i64 y0, .int .u64 y1, .int .u64 y2] 57)).cell? ⟨w.heap.size, 0, none⟩ = some (.int .i64 x0) ∧ ((w.alloc (.cells #[.int .i64 x0, .int .u64 x1, .int .u64 x2] 57)).alloc (.cells #[.int .i64 y0, .int .u64 y1, .int .u64 y2] 57)).cell? ⟨w.heap.size, 1, none⟩ = some (.int .u64 x1) ∧ ((w.alloc (.cells #[.int .i64 x0, .int .u64 x1, .int .u64 x2] 57)).alloc (.cells #[.int .i64 y0, .int .u64 y1, .int .u64 y2] 57)).cell? ⟨w.heap.size, 2, none⟩ = some (.int .u64 x2) := by
    refine ⟨?_, ?_, ?_⟩ <;> simp [go_sem]
  have ky : ((w.alloc (.cells #[.int .i64 x0, .int .u64 x1, .int .u64 x2] 57)).alloc (.cells #[.int .i64 y0, .int .u64 y1, .int .u64 y2] 57)).cell? ⟨w.heap.size + 1, 0, none⟩ = some (.int .i64 y0) ∧ ((w.alloc (.cells #[.int .i64 x0, .int .u64 x1, .int .u64 x2] 57)).alloc (.cells #[.int .i64 y0, .int .u64 y1, .int .u64 y2] 57)).cell? ⟨w.heap.size + 1, 1, none⟩ = some (.int .u64 y1) ∧ ((w.alloc (.cells #[.int .i64 x0, .int .u64 x1, .int .u64 x2] 57)).alloc (.cells #[.int .i64 y0, .int .u64 y1, .int .u64 y2] 57)).cell? ⟨w.heap.size + 1, 2, none⟩ = some (.int .u64 y2) := by
    refine ⟨?_, ?_, ?_⟩ <;> simp [go_sem]
  obtain ⟨kx0, kx1, kx2⟩ := kx
  obtain ⟨ky0, ky1, ky2⟩ := ky
  cases b1
  · go_enter Tryz.func42, Tryz.ntmps42
    go_wp2_with fail
    refine (l1 _).mono ?_
    rintro e w1 ⟨rfl, g1⟩
    have x0' := Tk.gr_keeps g1.gr kx0
    have x1' := Tk.gr_keeps g1.gr kx1
    have x2' := Tk.gr_keeps g1.gr kx2
    have y0' := Tk.gr_keeps g1.gr ky0
    have y1' := Tk.gr_keeps g1.gr ky1
    have y2' := Tk.gr_keeps g1.gr ky2
    clear l1
    go_wp2_with fail
    refine (l2 _).mono ?_
    rintro e w2 ⟨rfl, g2⟩
    cases b2
    · go_wp2
      go_ret
      exact ⟨rfl, (G0.trans g1).trans g2⟩
    · go_wp2
      go_ret
      exact ⟨rfl, (G0.trans g1).trans g2⟩
  · go_enter Tryz.func42, Tryz.ntmps42
    go_wp2_with fail
    refine (l1 _).mono ?_
    rintro e w1 ⟨rfl, g1⟩
    clear l1 l2
    go_wp2
    go_ret
    exact ⟨rfl, G0.trans g1⟩

theorem fcmpH (blk off size : Nat) (w : World) : CmpLays Tryz.prog 42 #[] Tk.enc 3 Tk.cf blk off size w := fun _ _ _ _ x y => forder_c x y _
theorem fsort_c {w : World} {v : Value} {d : Array Tk.Ht} (h : Tk.Own w v d) (hn : d.size ≤ 4000) :
    Calls Tryz.prog 41 #[v, .func (.func 42) #[] #[]] w fun e w' => e = .returned (.tuple #[]) ∧ Tk.Own w' v (Tk.srt d.toList).toArray ∧ Tk.Kp (fun b => some b = v.ownBlock) w w' := by
  have h' := h
  rcases h.2 with ⟨rfl, h0⟩ | ⟨g, cap, cur, rfl, _, hh, r⟩
  · obtain rfl := Array.eq_empty_of_size_eq_zero h0
    refine (AnyF.slices_SortFunc_none Tk.Tryz.laidSort none 0 _ w).mono ?_
    rintro e w' ⟨rfl, rfl⟩
    exact ⟨rfl, by simpa [Tk.srt] using h', Tk.Kp.refl _ _⟩
  · have eg : ∀ args w, (callFunc 42 args).run Tryz.prog w = .ok (.enter 42 args) w := enters_of Tryz.func42 (by kernel_rfl) rfl
    have hc := AnyQ.slices_SortFunc_total Tk.Tryz.laidSort 3 Tryz.isAgg57 Tryz.sizeOf57 Tk.enc Tk.enc_len Tk.enc_one Tk.cf Tk.swoH 42 #[] g 0 cap d w eg (fcmpH g 0 d.size w) (Tk.own_holds h') (Tk.own_lt h' rfl) (by omega) (fun x y h1 h2 => Tk.hlt_tot h1 h2)
    change Calls Tryz.prog 41 _ _ _ at hc
    refine hc.mono ?_
    rintro e w' ⟨rfl, q, os, rfl⟩
    have hsz : ((d.toList.mergeSort fun x y => !(ltOf Tk.cf) y x).toArray).size = d.size := by simp
    refine ⟨rfl, ?_, ?_⟩
    · exact Tk.own_gr (Tk.own_put h' q _ hsz) (Tk.gr_grow _ _)
    · refine ((Tk.Kp.put w _).trans (Tk.Kp.of_gr (Tk.gr_grow _ _))).mono ?_
      intro k _ e
      simp [Value.ownBlock, e]
end Go.Proofs.YteaeaoekaoedoaaGreat
