import Derived.Test.YtbnljabeccebiabGreatKs7
import Derived.Shelf.SlSortCmp.NoneTotal
import Derived.Shelf.SlicesE.Clone
import Derived.Shelf.SlGeneric
import Derived.Shelf.Lay
import Derived.Ground.SlsfProg
import Derived.Ground.SlgnProg
/- Offer: which hits are kept. -/
namespace Go.Proofs.YtbnljabeccebiabGreat.Tk
open Go.RowKit Go.Sort
attribute [local go_sem ↓] Go.wp_at_zero Go.wp_at_succ

theorem Hp.heap {w w' : World} {hb : Nat} {k : Int} {v : Value} {d : Array Ht} (h : Hp w hb k v d) (e : w'.heap = w.heap) : Hp w' hb k v d :=
  ⟨by rw [e]; exact h.blk, by have := h.own; unfold Own World.ownsRow at *; rw [e]; exact this, h.ne⟩
theorem More.before {w w0 w' : World} {hb : Nat} {k : Int} {v : Value} {d : Array Ht} {x : Ht} (G : Gr w w0) (h : More w0 w' hb k v d x) : More w w' hb k v d x := by
  obtain ⟨g, cap, d', h1, h2, h3, h4, h5⟩ := h
  refine ⟨g, cap, d', h1, h2, h3, (Kp.of_gr G).trans h4, ?_⟩
  rcases h5 with h5 | h5
  · exact .inl h5
  · exact .inr (Nat.le_trans G.size h5)
theorem offer_nil (x : Ht) (w : World) : Calls Tryz.prog 59 #[.pointer none, hv x] w fun e w' => e = .returned (.bool false) ∧ Gr w w' := by
  go_enter Tryz.func59, Tryz.ntmps59
  go_wp2
  go_ret
  exact ⟨rfl, by go_grown⟩

set_option maxHeartbeats 2000000 in
set_option maxRecDepth 100000 in
theorem offer_more {w : World} {hb : Nat} {k : Int} {v : Value} {d : Array Ht} (h : Hp w hb k v d) (hm : MaxH d) (hk : (d.size : Int) < k) (hn : d.size ≤ 3000) (x : Ht) :
    Calls Tryz.prog 59 #[.pointer (some ⟨hb, 0, none⟩), hv x] w fun e w' => e = .returned (.bool true) ∧ More w w' hb k v d x := by
  have G : Gr w (w.alloc (.cells #[.int .i64 x.id, .int .u64 x.hi, .int .u64 x.lo] 60)) := by go_grown
  have hA : Hid (Hp (w.alloc (.cells #[.int .i64 x.id, .int .u64 x.hi, .int .u64 x.lo] 60)) hb k v d ∧ MaxH d ∧ d.size ≤ 3000 ∧ Hp w hb k v d) := ⟨h.gr G, hm, hn, h⟩
  have c0 := hA.out.1.cell0
  have c1 := hA.out.1.cell1
  obtain ⟨a, cap, rfl⟩ := h.form
  obtain ⟨n, hN⟩ : ∃ n, n = d.size := ⟨_, rfl⟩
  have N : Hid (n = d.size) := hN
  rw [← hN] at c1 hk
  clear h hm hn hN
  go_enter Tryz.func59, Tryz.ntmps59
  go_wp2
  go_quiet (fail)
  go_wp2
  go_region_with (go_at_call 97; refine (push25 (hA.out.1.heap (by rfl)) hA.out.2.1 hA.out.2.2.1 x).mono ?_; rintro e w' ⟨rfl, hM⟩)
  all_goals
    have M : Hid (More w w' hb k (.slice a d.size cap) d x) := More.before (G.trans (below_drewN (Below.refl _ _) _)) hM
    clear hM
    go_wp2
    go_ret
    exact ⟨rfl, M.out⟩

/-- What a heap is behind a hit in the worst one's place. -/
def Repl (w w' : World) (hb : Nat) (k : Int) (v : Value) (d : Array Ht) (x : Ht) : Prop :=
  ∃ d', d'.toList.Perm (d.setIfInBounds 0 x).toList ∧ MaxH d' ∧ Hp w' hb k v d' ∧ Kp (fun b => b = hb ∨ some b = v.ownBlock) w w'
theorem flat_set (d : Array Ht) (x : Ht) (hd : 0 < d.size) : setMany (flatK enc 3 d) 0 (enc x) = flatK enc 3 (d.setIfInBounds 0 x) := by
  refine ext_get! (by simp) fun t ht => ?_
  have ht' : t < d.size * 3 := by simpa using ht
  rw [get_setMany _ _ _ t (by simpa using ht'), get_flatK _ _ _ t ht', get_flatK _ _ _ t (by simpa using ht'), enc_len]
  by_cases h : t < 3
  · rw [if_pos (by omega), show t / 3 = 0 by omega, getElem!_set_same d 0 x hd, show t % 3 = t by omega, Nat.sub_zero]
  · rw [if_neg (by omega), getElem!_set_other d 0 _ x (by omega)]
theorem store_first {w : World} {g n cap : Nat} {d : Array Ht} (h : Own w (.slice (some ⟨g, 0, none⟩) n cap) d) (x : Ht) (hd : 0 < d.size) :
    ((w.setCell ⟨g, 0, none⟩ (.int .i64 x.id)).setCell ⟨g, 1, none⟩ (.int .u64 x.hi)).setCell ⟨g, 2, none⟩ (.int .u64 x.lo) = putRowK enc 3 (Sort.ahead w 0) g 0 (d.setIfInBounds 0 x) := by
  have h1 := setCells_putRow w g 0 (enc x) 0 (flatK enc 3 d) (by rw [enc_len, size_flatK]; omega)
  rw [putRow_self id w g 0 _ (own_holds h), flat_set d x hd] at h1
  exact h1

set_option maxHeartbeats 2000000 in
set_option maxRecDepth 100000 in
theorem offer_repl {w : World} {hb : Nat} {k : Int} {v : Value} {d : Array Ht} (h : Hp w hb k v d) (hm : MaxH d) (hk : (d.size : Int) = k) (hn : d.size ≤ 3000) (hd : 0 < d.size) (x : Ht) (hx : hlt x d[0]! = true) :
    Calls Tryz.prog 59 #[.pointer (some ⟨hb, 0, none⟩), hv x] w fun e w' => e = .returned (.bool true) ∧ Repl w w' hb k v d x := by
  subst hk
  obtain ⟨g, cap, cur, rfl, _⟩ := own_form h.own hd
  have G : Gr w (w.alloc (.cells #[.int .i64 x.id, .int .u64 x.hi, .int .u64 x.lo] 60)) := by go_grown
  have hA : Hid (Hp (w.alloc (.cells #[.int .i64 x.id, .int .u64 x.hi, .int .u64 x.lo] 60)) hb (d.size : Nat) (.slice (some ⟨g, 0, none⟩) d.size cap) d ∧ MaxH d ∧ d.size ≤ 3000 ∧ 0 < d.size ∧ hlt x d[0]! = true) := ⟨h.gr G, hm, hn, hd, hx⟩
  have c0 := hA.out.1.cell0
  have c1 := hA.out.1.cell1
  obtain ⟨n, hN⟩ : ∃ n, n = d.size := ⟨_, rfl⟩
  have N : Hid (n = d.size) := hN
  rw [← hN] at c1 c0 hn hd
  clear h hm hN hx
  go_enter Tryz.func59, Tryz.ntmps59
  go_wp2
  go_quiet (fail)
  clear c0 c1
  go_wp2_with fail
  refine (worst15 (hA.out.1.heap (by rfl)) hA.out.2.2.2.1 (by have := hA.out.2.2.1; omega)).mono ?_
  rintro e w1 ⟨rfl, g1⟩
  have b0 : w1.cell? ⟨w.heap.size, 0, none⟩ = some (.int .i64 x.id) := gr_keeps g1 (by simp [go_sem])
  have b1 : w1.cell? ⟨w.heap.size, 1, none⟩ = some (.int .u64 x.hi) := gr_keeps g1 (by simp [go_sem])
  have b2 : w1.cell? ⟨w.heap.size, 2, none⟩ = some (.int .u64 x.lo) := gr_keeps g1 (by simp [go_sem])
  have G1 : Gr w w1 := gr_trans (G.trans (below_drewN (Below.refl _ _) _)) g1
  have hB : Hid (Hp w1 hb (d.size : Nat) (.slice (some ⟨g, 0, none⟩) d.size cap) d) := (hA.out.1.heap (by rfl)).gr g1
  obtain ⟨y, hy⟩ : ∃ y, y = d[0]! := ⟨_, rfl⟩
  have Y : Hid (y = d[0]!) := hy
  rw [← hy]
  clear hy g1 G
  have hl := fun W => less_c x y W
  rw [show hlt x y = true by rw [Y.out]; exact hA.out.2.2.2.2] at hl
  replace b0 := alloc_keeps b0 (.cells #[.int .i64 y.id, .int .u64 y.hi, .int .u64 y.lo] 60)
  replace b1 := alloc_keeps b1 (.cells #[.int .i64 y.id, .int .u64 y.hi, .int .u64 y.lo] 60)
  replace b2 := alloc_keeps b2 (.cells #[.int .i64 y.id, .int .u64 y.hi, .int .u64 y.lo] 60)
  go_wp2_with fail
  refine (hl _).mono ?_
  rintro e w2 ⟨rfl, g2⟩
  have G2 : Gr w w2 := gr_trans (gr_alloc G1 _) g2.gr
  have hC : Hid (Hp w2 hb (d.size : Nat) (.slice (some ⟨g, 0, none⟩) d.size cap) d) := (hB.out.gr (gr_alloc (Below.refl _ _) _)).gr g2.gr
  replace b0 := gr_keeps g2.gr b0
  replace b1 := gr_keeps g2.gr b1
  replace b2 := gr_keeps g2.gr b2
  have c1 := hC.out.cell1
  have cc := own_cell hC.out.own hA.out.2.2.2.1
  rw [Nat.zero_mul] at cc
  obtain ⟨x0, x1, x2⟩ := cc
  have f0 := own_froz hC.out.own 0
  have f1 := own_froz hC.out.own 1
  have f2 := own_froz hC.out.own 2
  rw [← N.out] at c1
  clear g2 G1 hB hl
  go_wp2
  go_region
  have hw := store_first hC.out.own x hA.out.2.2.2.1
  rw [hw]
  have hD : Hid (Hp (putRowK enc 3 (Sort.ahead w2 0) g 0 (d.setIfInBounds 0 x)).drew hb (d.size : Nat) (.slice (some ⟨g, 0, none⟩) d.size cap) (d.setIfInBounds 0 x) ∧ Kp (fun b => b = g) w2 (putRowK enc 3 (Sort.ahead w2 0) g 0 (d.setIfInBounds 0 x)).drew) := by
    have K0 := Kp.put (g := g) (m := 0) w2 (d.setIfInBounds 0 x)
    refine ⟨⟨?_, own_put hC.out.own 0 _ (by simp), hC.out.ne⟩, ⟨K0.os, K0.tape, K0.output, K0.size, K0.block⟩⟩
    show (putRowK enc 3 (Sort.ahead w2 0) g 0 (d.setIfInBounds 0 x)).heap[hb]? = _
    rw [K0.block hb hC.out.lt (by have := hC.out.ne; simp [Value.ownBlock] at this; omega)]
    exact hC.out.blk
  clear hw b0 b1 b2 c1 x0 x1 x2 f0 f1 f2
  generalize (putRowK enc 3 (Sort.ahead w2 0) g 0 (d.setIfInBounds 0 x)).drew = w3 at *
  have hf := fix26 hD.out.1 (by simp) (by have := hA.out.2.2.1; omega) hA.out.2.2.2.1 (down_set hA.out.2.1 x)
  go_wp2_with fail
  refine hf.mono ?_
  rintro e w4 ⟨rfl, d', p1, p2, p3, p4⟩
  have Z : Hid (Repl w w4 hb (d.size : Nat) (.slice (some ⟨g, 0, none⟩) d.size cap) d x) :=
    ⟨d', p1, p2, p3, ((Kp.of_gr G2).trans' hD.out.2 (fun i _ e => .inr (by rw [e]; rfl))).trans' p4 (fun i _ e => .inr (by rw [e]; rfl))⟩
  clear p1 p2 p3 p4 hf
  go_wp2
  go_ret
  exact ⟨rfl, Z.out⟩

set_option maxHeartbeats 2000000 in
set_option maxRecDepth 100000 in
theorem offer_no {w : World} {hb : Nat} {k : Int} {v : Value} {d : Array Ht} (h : Hp w hb k v d) (hk : (d.size : Int) = k) (hn : d.size ≤ 3000) (hd : 0 < d.size) (x : Ht) (hx : hlt x d[0]! = false) :
    Calls Tryz.prog 59 #[.pointer (some ⟨hb, 0, none⟩), hv x] w fun e w' => e = .returned (.bool false) ∧ Gr w w' := by
  subst hk
  obtain ⟨g, cap, cur, rfl, _⟩ := own_form h.own hd
  have G : Gr w (w.alloc (.cells #[.int .i64 x.id, .int .u64 x.hi, .int .u64 x.lo] 60)) := by go_grown
  have hA : Hid (Hp (w.alloc (.cells #[.int .i64 x.id, .int .u64 x.hi, .int .u64 x.lo] 60)) hb (d.size : Nat) (.slice (some ⟨g, 0, none⟩) d.size cap) d ∧ d.size ≤ 3000 ∧ 0 < d.size ∧ hlt x d[0]! = false) := ⟨h.gr G, hn, hd, hx⟩
  have c0 := hA.out.1.cell0
  have c1 := hA.out.1.cell1
  obtain ⟨n, hN⟩ : ∃ n, n = d.size := ⟨_, rfl⟩
  rw [← hN] at c1 c0 hn hd
  clear h hN hx
  go_enter Tryz.func59, Tryz.ntmps59
  go_wp2
  go_quiet (fail)
  clear c0 c1
  go_wp2_with fail
  refine (worst15 (hA.out.1.heap (by rfl)) hA.out.2.2.1 (by have := hA.out.2.1; omega)).mono ?_
  rintro e w1 ⟨rfl, g1⟩
  have b0 : w1.cell? ⟨w.heap.size, 0, none⟩ = some (.int .i64 x.id) := gr_keeps g1 (by simp [go_sem])
  have b1 : w1.cell? ⟨w.heap.size, 1, none⟩ = some (.int .u64 x.hi) := gr_keeps g1 (by simp [go_sem])
  have b2 : w1.cell? ⟨w.heap.size, 2, none⟩ = some (.int .u64 x.lo) := gr_keeps g1 (by simp [go_sem])
  have G1 : Gr w w1 := gr_trans (G.trans (below_drewN (Below.refl _ _) _)) g1
  obtain ⟨y, hy⟩ : ∃ y, y = d[0]! := ⟨_, rfl⟩
  have Y : Hid (y = d[0]!) := hy
  rw [← hy]
  clear hy g1 G
  have hl := fun W => less_c x y W
  rw [show hlt x y = false by rw [Y.out]; exact hA.out.2.2.2] at hl
  replace b0 := alloc_keeps b0 (.cells #[.int .i64 y.id, .int .u64 y.hi, .int .u64 y.lo] 60)
  replace b1 := alloc_keeps b1 (.cells #[.int .i64 y.id, .int .u64 y.hi, .int .u64 y.lo] 60)
  replace b2 := alloc_keeps b2 (.cells #[.int .i64 y.id, .int .u64 y.hi, .int .u64 y.lo] 60)
  go_wp2_with fail
  refine (hl _).mono ?_
  rintro e w2 ⟨rfl, g2⟩
  have G2 : Gr w w2 := gr_trans (gr_alloc G1 _) g2.gr
  clear g2 G1 hl b0 b1 b2
  go_wp2
  go_ret
  exact ⟨rfl, G2⟩
end Go.Proofs.YtbnljabeccebiabGreat.Tk

/- slices.Clone and slices.SortFunc at hits (the shelf's contracts, laid at this program); List. -/
namespace Go.Proofs.YtbnljabeccebiabGreat.Tk
open Go.Shelf Go.RowKit Go.Lib Go.Sort
shelf_lay_g SlLaysF0.n6 Slsf 6 at Tryz 92 as Tryz.laidSort
shelf_lay_g SlLaysE0.n41 Slgn 41 at Tryz 91 as Tryz.laidClone

/-- Hits in their order. -/
def srt (l : List Ht) : List Ht := l.mergeSort fun x y => !hlt y x
theorem srt_perm (l : List Ht) : (srt l).Perm l := List.mergeSort_perm _ _
theorem srt_len (l : List Ht) : (srt l).length = l.length := (srt_perm l).length_eq

theorem swoH : SWO (ltOf cf) := ⟨hlt_irrefl, fun _ _ _ => hlt_trans, fun _ _ _ => hlt_ntrans⟩
theorem cmpH (blk off size : Nat) (w : World) : CmpLays Tryz.prog 93 #[] enc 3 cf blk off size w := fun _ _ _ _ x y => order_c x y _

theorem gr_grow (w : World) (os : Array Obj) : Gr w (grow w os) := ⟨rfl, rfl, rfl, by rw [size_grow]; omega, fun _ hk => heap_grow_old _ _ hk⟩
theorem clone28 {w : World} {g n cap : Nat} {d : Array Ht} (h : Own w (.slice (some ⟨g, 0, none⟩) n cap) d) (hs : d.size = n) (hn : n ≤ 4000) :
    Calls Tryz.prog 91 #[.slice (some ⟨g, 0, none⟩) n cap] w fun e w' => ∃ g' cap', e = .returned (.slice (some ⟨g', 0, none⟩) n cap') ∧ w.heap.size ≤ g' ∧ Own w' (.slice (some ⟨g', 0, none⟩) n cap') d ∧ Gr w w' := by
  obtain ⟨i0, z0, hi0, hz0, hz1, hz2, hz3⟩ := info60
  have hc := AnyE.slices_Clone Tryz.laidClone i0 z0 3 24 hi0 hz0 hz1 hz2 hz3 (by omega) Tryz.sizeOf60 g 0 n cap (fl d.toList) w (by rw [fl_len]; simp [hs]) (by simp only [maxLen]; omega) (by omega)
    (fun j u hu => by have := h.cells (g := g) rfl j u hu; rwa [Addr.add_lit] at this) (fl_one_cell _)
  change Calls Tryz.prog 91 _ _ _ at hc
  refine hc.mono ?_
  rintro e w' ⟨v', rfl, ho, hv, hb⟩
  rcases ho.2 with ⟨h1, _⟩ | ⟨g', cap', cur, rfl, hb', hh, r⟩
  · exact absurd h1 hv
  · refine ⟨g', cap', rfl, hb', ?_, hb⟩
    unfold Own
    rw [hs]
    exact ⟨ho.1, .inr ⟨g', cap', cur, rfl, Nat.zero_le _, hh, r⟩⟩
theorem clone28_nil (w : World) : Calls Tryz.prog 91 #[.slice none 0 0] w fun e w' => e = .returned (.slice none 0 0) ∧ w' = w := by
  have hc := AnyE.slices_Clone_nil Tryz.laidClone 0 0 w
  exact hc

theorem sort29 {w : World} {g n cap : Nat} {d : Array Ht} (h : Own w (.slice (some ⟨g, 0, none⟩) n cap) d) (hs : d.size = n) (hn : n ≤ 4000) :
    Calls Tryz.prog 92 #[.slice (some ⟨g, 0, none⟩) n cap, .func (.func 93) #[] #[]] w fun e w' => e = .returned (.tuple #[]) ∧ Own w' (.slice (some ⟨g, 0, none⟩) n cap) (srt d.toList).toArray ∧ Kp (fun b => b = g) w w' := by
  subst hs
  have eg : ∀ args w, (callFunc 93 args).run Tryz.prog w = .ok (.enter 93 args) w := enters_of Tryz.func93 (by kernel_rfl) rfl
  have hc := AnyQ.slices_SortFunc_total Tryz.laidSort 3 Tryz.isAgg60 Tryz.sizeOf60 enc enc_len enc_one cf swoH 93 #[] g 0 cap d w eg (cmpH g 0 d.size w) (own_holds h) (own_lt h rfl) (by omega) (fun x y h1 h2 => hlt_tot h1 h2)
  change Calls Tryz.prog 92 _ _ _ at hc
  refine hc.mono ?_
  rintro e w' ⟨rfl, q, os, rfl⟩
  have hsz : ((d.toList.mergeSort fun x y => !(ltOf cf) y x).toArray).size = d.size := by simp
  refine ⟨rfl, ?_, ?_⟩
  · exact own_gr (own_put h q _ hsz) (gr_grow _ _)
  · exact (Kp.put w _).trans (Kp.of_gr (gr_grow _ _))
theorem sort29_nil (fv : Value) (w : World) : Calls Tryz.prog 92 #[.slice none 0 0, fv] w fun e w' => e = .returned (.tuple #[]) ∧ w' = w := by
  have hc := AnyF.slices_SortFunc_none Tryz.laidSort none 0 fv w
  exact hc

/-- A list that came out: its hits, in memory of its own. -/
def Out (w w' : World) (v : Value) (l : List Ht) : Prop := Own w' v l.toArray ∧ Gr w w' ∧ ∀ g, v.ownBlock = some g → w.heap.size ≤ g

set_option maxHeartbeats 2000000 in
theorem list16 {w : World} {hb : Nat} {k : Int} {v : Value} {d : Array Ht} (h : Hp w hb k v d) (hn : d.size ≤ 4000) :
    Calls Tryz.prog 49 #[.pointer (some ⟨hb, 0, none⟩)] w fun e w' => ∃ v', e = .returned v' ∧ Out w w' v' (srt d.toList) := by
  have c1 := h.cell1
  have H : Hid (Own w v d ∧ d.size ≤ 4000) := ⟨h.own, hn⟩
  rcases h.own.2 with ⟨rfl, h0⟩ | ⟨g, cap, cur, rfl, _⟩
  · have D : Hid (d = #[]) := Array.eq_empty_of_size_eq_zero h0
    clear h hn h0
    go_enter Tryz.func49, Tryz.ntmps49
    go_wp2_with fail
    refine (clone28_nil _).mono ?_
    rintro e w' ⟨rfl, e2⟩
    subst e2
    go_wp2_with fail
    refine (sort29_nil _ _).mono ?_
    rintro e w2 ⟨rfl, e2⟩
    subst e2
    go_wp2
    go_ret
    refine ⟨.slice none 0 0, rfl, ?_, Below.refl _ _, by simp [Value.ownBlock]⟩
    rw [D.out, show srt (#[] : Array Ht).toList = [] by simp [srt]]
    exact own_nil _
  · obtain ⟨n, hN⟩ : ∃ n, n = d.size := ⟨_, rfl⟩
    have N : Hid (d.size = n) := hN.symm
    rw [← hN] at c1
    have H2 : Hid (Own w (.slice (some ⟨g, 0, none⟩) n cap) d ∧ n ≤ 4000) := by rw [hN]; exact H
    clear h hn hN H
    go_enter Tryz.func49, Tryz.ntmps49
    go_wp2_with fail
    refine (clone28 H2.out.1 N.out H2.out.2).mono ?_
    rintro e w1 ⟨g', cap', rfl, hg, ho, hG⟩
    have X : Hid (Own w1 (.slice (some ⟨g', 0, none⟩) n cap') d ∧ Gr w w1 ∧ w.heap.size ≤ g') := ⟨ho, hG, hg⟩
    clear hg ho hG c1
    go_wp2_with fail
    refine (sort29 X.out.1 N.out H2.out.2).mono ?_
    rintro e w2 ⟨rfl, ho, hK⟩
    have Y : Hid (Own w2 (.slice (some ⟨g', 0, none⟩) n cap') (srt d.toList).toArray ∧ Kp (fun b => b = g') w1 w2) := ⟨ho, hK⟩
    clear ho hK
    go_wp2
    go_ret
    refine ⟨.slice (some ⟨g', 0, none⟩) n cap', rfl, Y.out.1, X.out.2.1.trans (Y.out.2.gr X.out.2.1.size (fun k e => by rw [e]; exact X.out.2.2)), ?_⟩
    intro g2 e
    simp [Value.ownBlock] at e
    rw [← e]; exact X.out.2.2
theorem list16_nil (w : World) : Calls Tryz.prog 49 #[.pointer none] w fun e w' => e = .returned (.slice none 0 0) ∧ w' = w := by
  go_enter Tryz.func49, Tryz.ntmps49
  go_wp2
  go_ret
  exact ⟨rfl, rfl⟩
end Go.Proofs.YtbnljabeccebiabGreat.Tk

/- Sorted lists of hits, plainly: a hit more, the first k. -/
namespace Go.Proofs.YtbnljabeccebiabGreat.Tk
open Go.RowKit Go.Sort

/-- None behind a later one. -/
def Srtd (l : List Ht) : Prop := l.Pairwise fun x y => hlt y x = false
theorem srt_srtd (l : List Ht) : Srtd (srt l) := by
  have h := List.pairwise_mergeSort (le := fun x y => !hlt y x) (fun a b c h1 h2 => by
    simp only [Bool.not_eq_true'] at *; exact hlt_ntrans h2 h1) (fun a b => by
    cases h : hlt b a
    · simp
    · simp [hlt_asymm h]) l
  exact h.imp (fun h => by simpa using h)
theorem srtd_unique : ∀ (l l' : List Ht), Srtd l → Srtd l' → l.Perm l' → l = l'
  | [], l', _, _, p => (List.Perm.nil_eq p)
  | a :: r, [], _, _, p => absurd p.length_eq (by simp)
  | a :: r, b :: r', h, h', p => by
    have hb : b ∈ a :: r := p.symm.subset List.mem_cons_self
    have ha : a ∈ b :: r' := p.subset List.mem_cons_self
    have e : a = b := by
      rcases List.mem_cons.1 hb with e | hb
      · exact e.symm
      rcases List.mem_cons.1 ha with e | ha
      · exact e
      have h1 := List.rel_of_pairwise_cons h hb
      have h2 := List.rel_of_pairwise_cons h' ha
      exact hlt_tot h2 h1
    subst e
    rw [srtd_unique r r' (List.Pairwise.of_cons h) (List.Pairwise.of_cons h') (List.Perm.cons_inv p)]
theorem srt_of_srtd {l : List Ht} (h : Srtd l) : srt l = l := srtd_unique _ _ (srt_srtd l) h (srt_perm l)
theorem srt_of_perm {l m : List Ht} (h : Srtd m) (p : l.Perm m) : srt l = m := srtd_unique _ _ (srt_srtd l) h ((srt_perm l).trans p)

/-- A sorted list with one more. -/
def ins (x : Ht) : List Ht → List Ht
  | [] => [x]
  | y :: r => if hlt x y = true then x :: y :: r else y :: ins x r
theorem ins_perm (x : Ht) : ∀ l, (ins x l).Perm (x :: l)
  | [] => List.Perm.refl _
  | y :: r => by
    unfold ins
    split
    · exact List.Perm.refl _
    · exact ((ins_perm x r).cons y).trans (List.Perm.swap x y r)
theorem ins_len (x : Ht) (l : List Ht) : (ins x l).length = l.length + 1 := by rw [(ins_perm x l).length_eq]; rfl
theorem ins_srtd (x : Ht) : ∀ l, Srtd l → Srtd (ins x l)
  | [], _ => List.pairwise_singleton _ _
  | y :: r, h => by
    unfold ins
    split
    · rename_i hx
      refine List.Pairwise.cons ?_ h
      intro z hz
      rcases List.mem_cons.1 hz with rfl | hz
      · exact hlt_asymm hx
      · exact hlt_ntrans (List.rel_of_pairwise_cons h hz) (hlt_asymm hx)
    · rename_i hx
      refine List.Pairwise.cons ?_ (ins_srtd x r (List.Pairwise.of_cons h))
      intro z hz
      rcases List.mem_cons.1 ((ins_perm x r).subset hz) with rfl | hz
      · simpa using hx
      · exact List.rel_of_pairwise_cons h hz
theorem srt_snoc (l : List Ht) (x : Ht) : srt (l ++ [x]) = ins x (srt l) := by
  refine srt_of_perm (ins_srtd x _ (srt_srtd l)) ?_
  refine List.Perm.trans ?_ (ins_perm x _).symm
  exact (List.perm_append_singleton x l).trans ((srt_perm l).symm.cons x)

/-- A heap's hits behind one more. -/
def keep (k : Nat) (m : List Ht) (x : Ht) : List Ht := (ins x m).take k
def kept (k : Nat) (m : List Ht) (x : Ht) : Bool := decide (m.length < k) || hlt x m[k - 1]!
theorem take_ins (x : Ht) : ∀ (k : Nat) (l : List Ht), (ins x l).take k = (ins x (l.take k)).take k
  | 0, _ => by simp
  | k + 1, [] => by simp
  | k + 1, y :: r => by
    simp only [List.take_succ_cons]
    unfold ins
    split
    · simp only [List.take_succ_cons]
      cases k with
      | zero => simp
      | succ k => simp [List.take_succ_cons, List.take_take, Nat.min_eq_left (Nat.le_succ k)]
    · simp only [List.take_succ_cons]
      rw [take_ins x k r]
/-- The first k of some hits. -/
def firsts (k : Nat) (l : List Ht) : List Ht := (srt l).take k
theorem firsts_snoc (k : Nat) (l : List Ht) (x : Ht) : firsts k (l ++ [x]) = keep k (firsts k l) x := by
  unfold firsts keep
  rw [srt_snoc, take_ins]
theorem firsts_nil (k : Nat) : firsts k [] = [] := by simp [firsts, srt]
theorem firsts_srtd (k : Nat) (l : List Ht) : Srtd (firsts k l) := (srt_srtd l).sublist (List.take_sublist k _)
theorem firsts_len (k : Nat) (l : List Ht) : (firsts k l).length = min k l.length := by simp [firsts, srt_len]
theorem firsts_perm (k : Nat) {l l' : List Ht} (p : l.Perm l') : firsts k l = firsts k l' := by
  unfold firsts; rw [srt_of_perm (srt_srtd l') (p.trans (srt_perm l').symm)]
theorem keep_srtd (k : Nat) {m : List Ht} (x : Ht) (h : Srtd m) : Srtd (keep k m x) := (ins_srtd x m h).sublist (List.take_sublist k _)
theorem keep_more {k : Nat} {m : List Ht} (x : Ht) (h : m.length < k) : keep k m x = ins x m := by
  unfold keep; rw [List.take_of_length_le (by rw [ins_len]; omega)]
theorem last_worst {m : List Ht} (h : Srtd m) (k : Nat) (hk : m.length = k) : ∀ y ∈ m, hlt m[k - 1]! y = false := by
  intro y hy
  subst hk
  obtain ⟨i, hi, rfl⟩ := List.mem_iff_getElem.1 hy
  rw [getElem!_pos m (m.length - 1) (by omega)]
  by_cases e : i = m.length - 1
  · subst e; exact hlt_irrefl _
  · exact List.pairwise_iff_getElem.1 h i (m.length - 1) hi (by omega) (by omega)
theorem ins_no (x : Ht) : ∀ (m : List Ht), (∀ y ∈ m, hlt x y = false) → ins x m = m ++ [x]
  | [], _ => rfl
  | y :: r, h => by
    unfold ins
    rw [if_neg (by rw [h y List.mem_cons_self]; simp), ins_no x r (fun z hz => h z (List.mem_cons_of_mem _ hz))]
    rfl
theorem keep_no {k : Nat} {m : List Ht} {x : Ht} (hs : Srtd m) (h : m.length = k) (hx : hlt x m[k - 1]! = false) : keep k m x = m := by
  unfold keep
  rw [ins_no x m (fun y hy => hlt_ntrans hx (last_worst hs k h y hy)), List.take_append_of_le_length (by omega), List.take_of_length_le (by omega)]
theorem ins_app (x : Ht) (z : Ht) (hx : hlt x z = true) : ∀ (m : List Ht), ins x (m ++ [z]) = ins x m ++ [z]
  | [] => by simp [ins, hx]
  | y :: r => by
    simp only [List.cons_append]
    unfold ins
    split
    · rfl
    · rw [ins_app x z hx r]; rfl
theorem keep_repl {k : Nat} {m : List Ht} {x : Ht} (hk : 0 < k) (h : m.length = k) (hx : hlt x m[k - 1]! = true) : (keep k m x).Perm (x :: m.dropLast) := by
  have hne : m ≠ [] := by intro e; subst e; simp at h; omega
  obtain ⟨a, z, rfl⟩ : ∃ a z, m = a ++ [z] := ⟨m.dropLast, m.getLast hne, (List.dropLast_concat_getLast hne).symm⟩
  simp only [List.length_append, List.length_cons, List.length_nil] at h
  have e : (a ++ [z])[k - 1]! = z := by
    rw [getElem!_pos (a ++ [z]) (k - 1) (by simp; omega), List.getElem_append_right (by omega)]
    simp
  rw [e] at hx
  have hl : (ins x a).length = k := by rw [ins_len]; omega
  unfold keep
  rw [ins_app x z hx, List.take_append_of_le_length (by rw [hl]; exact Nat.le_refl _), List.take_of_length_le (by rw [hl]; exact Nat.le_refl _), List.dropLast_concat]
  exact ins_perm x _
end Go.Proofs.YtbnljabeccebiabGreat.Tk
