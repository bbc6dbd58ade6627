import Derived.Test.YtdmdjmliggjbjaaGreatCt4
import Derived.Test.YtdmdjmliggjbjaaGreatCt14
import Derived.Shelf.SlSortCmp.NoneTotal
import Derived.Shelf.SlicesE.Clone
import Derived.Shelf.SlGeneric
import Derived.Shelf.Lay
import Derived.Ground.SlsfProg
import Derived.Ground.SlgnProg
/- Where ids are told to stand, plainly. -/
namespace Go.Proofs.YtdmdjmliggjbjaaGreat
open Go.RowKit Go.Sort

theorem nd_perm {α : Type} [DecidableEq α] : ∀ {l m : List α}, l.Nodup → m.Nodup → (∀ x, x ∈ l ↔ x ∈ m) → l.Perm m
  | [], m, _, _, h => by
    cases m with
    | nil => exact List.Perm.refl _
    | cons a r => exact absurd ((h a).2 List.mem_cons_self) (by simp)
  | x :: r, m, hl, hm, h => by
    have hx : x ∈ m := (h x).1 List.mem_cons_self
    refine List.Perm.trans ?_ (List.perm_cons_erase hx).symm
    refine (nd_perm (List.nodup_cons.1 hl).2 (hm.erase x) (fun y => ?_)).cons x
    constructor
    · intro hy
      have hyx : y ≠ x := fun e => (List.nodup_cons.1 hl).1 (e ▸ hy)
      exact (List.mem_erase_of_ne hyx).2 ((h y).1 (List.mem_cons_of_mem _ hy))
    · intro hy
      have hyx : y ≠ x := fun e => by subst e; exact (List.Nodup.not_mem_erase hm) hy
      rcases List.mem_cons.1 ((h y).2 (List.mem_of_mem_erase hy)) with e | e
      · exact absurd e hyx
      · exact e
theorem nd_full {α : Type} [DecidableEq α] : ∀ {l m : List α}, l.Nodup → (∀ x ∈ l, x ∈ m) → l.length = m.length → l.Perm m
  | [], m, _, _, h => by
    cases m with
    | nil => exact List.Perm.refl _
    | cons a r => simp at h
  | x :: r, m, hl, hs, h => by
    have hx : x ∈ m := hs x List.mem_cons_self
    refine List.Perm.trans ?_ (List.perm_cons_erase hx).symm
    refine (nd_full (List.nodup_cons.1 hl).2 (fun y hy => ?_) ?_).cons x
    · have hyx : y ≠ x := fun e => (List.nodup_cons.1 hl).1 (e ▸ hy)
      exact (List.mem_erase_of_ne hyx).2 (hs y (List.mem_cons_of_mem _ hy))
    · rw [List.length_erase_of_mem hx]
      simp only [List.length_cons] at h
      omega

/-- Ids are told to stand at a place: each that is known and stands nowhere. -/
def stand (ids : List Int) (p : Int) : List Int → (Int → Int) → Option (Int → Int)
  | [], g => some g
  | x :: r, g => if x ∈ ids ∧ g x = 0 then stand ids p r (fun y => if y = x then p else g y) else none
theorem stand_app (ids : List Int) (p : Int) : ∀ (l m : List Int) (g : Int → Int), stand ids p (l ++ m) g = (stand ids p l g).bind (stand ids p m)
  | [], m, g => rfl
  | x :: r, m, g => by
    simp only [List.cons_append, stand]
    split
    · exact stand_app ids p r m _
    · rfl
theorem stand_snoc {ids : List Int} {p : Int} {l : List Int} {g g' : Int → Int} (h : stand ids p l g = some g') (x : Int) : stand ids p (l ++ [x]) g = if x ∈ ids ∧ g' x = 0 then some (fun y => if y = x then p else g' y) else none := by
  rw [stand_app, h]
  rfl
theorem stand_more {ids : List Int} {p : Int} {l m : List Int} {g : Int → Int} (h : stand ids p l g = none) : stand ids p (l ++ m) g = none := by
  rw [stand_app, h]; rfl
theorem stand_some {ids : List Int} {p : Int} (hp : p ≠ 0) : ∀ (l : List Int) (g g' : Int → Int), stand ids p l g = some g' → l.Nodup ∧ (∀ x ∈ l, x ∈ ids ∧ g x = 0) ∧ (∀ x ∈ l, g' x = p) ∧ (∀ x, x ∉ l → g' x = g x)
  | [], g, g', h => by
    injection h with h; subst h
    exact ⟨List.nodup_nil, by simp, by simp, fun _ _ => rfl⟩
  | x :: r, g, g', h => by
    simp only [stand] at h
    split at h
    · rename_i hx
      obtain ⟨h1, h2, h3, h4⟩ := stand_some hp r _ g' h
      have hxr : x ∉ r := fun hm => by
        have := (h2 x hm).2
        rw [if_pos rfl] at this
        exact hp this
      refine ⟨List.nodup_cons.2 ⟨hxr, h1⟩, ?_, ?_, ?_⟩
      · intro y hy
        rcases List.mem_cons.1 hy with rfl | hy
        · exact hx
        · have hne : y ≠ x := fun e => hxr (e ▸ hy)
          have := h2 y hy
          rw [if_neg hne] at this
          exact this
      · intro y hy
        by_cases hyr : y ∈ r
        · exact h3 y hyr
        · rw [h4 y hyr]
          rcases List.mem_cons.1 hy with rfl | hy
          · exact if_pos rfl
          · exact absurd hy hyr
      · intro y hy
        rw [h4 y (fun hm => hy (List.mem_cons_of_mem _ hm)), if_neg (fun e => hy (by rw [e]; exact List.mem_cons_self))]
    · cases h
theorem stand_ex {ids : List Int} {p : Int} : ∀ (l : List Int) (g : Int → Int), l.Nodup → (∀ x ∈ l, x ∈ ids ∧ g x = 0) → ∃ g', stand ids p l g = some g'
  | [], g, _, _ => ⟨g, rfl⟩
  | x :: r, g, hn, h => by
    simp only [stand]
    rw [if_pos (h x List.mem_cons_self)]
    refine stand_ex r _ (List.nodup_cons.1 hn).2 (fun y hy => ?_)
    have hne : y ≠ x := fun e => (List.nodup_cons.1 hn).1 (e ▸ hy)
    rw [if_neg hne]
    exact h y (List.mem_cons_of_mem _ hy)

end Go.Proofs.YtdmdjmliggjbjaaGreat

/- Offer: which hits are kept. -/
namespace Go.Proofs.YtdmdjmliggjbjaaGreat.Tk
open Go.RowKit Go.Sort
attribute [local go_sem ↓] Go.wp_at_zero Go.wp_at_succ

theorem Hp.heap {w w' : World} {hb : Nat} {k : Int} {v : Value} {d : Array Ht} (h : Hp w hb k v d) (e : w'.heap = w.heap) : Hp w' hb k v d :=
  ⟨by rw [e]; exact h.blk, by have := h.own; unfold Own World.ownsRow at *; rw [e]; exact this, h.ne⟩
theorem More.before {w w0 w' : World} {hb : Nat} {k : Int} {v : Value} {d : Array Ht} {x : Ht} (G : Gr w w0) (h : More w0 w' hb k v d x) : More w w' hb k v d x := by
  obtain ⟨g, cap, d', h1, h2, h3, h4, h5⟩ := h
  refine ⟨g, cap, d', h1, h2, h3, (Kp.of_gr G).trans h4, ?_⟩
  rcases h5 with h5 | h5
  · exact .inl h5
  · exact .inr (Nat.le_trans G.size h5)
theorem offer_nil (x : Ht) (w : World) : Calls Tryz.prog 57 #[.pointer none, hv x] w fun e w' => e = .returned (.bool false) ∧ Gr w w' := by
  go_enter Tryz.func57, Tryz.ntmps57
  go_wp2
  go_ret
  exact ⟨rfl, by go_grown⟩

set_option maxHeartbeats 2000000 in
set_option maxRecDepth 100000 in
theorem offer_more {w : World} {hb : Nat} {k : Int} {v : Value} {d : Array Ht} (h : Hp w hb k v d) (hm : MaxH d) (hk : (d.size : Int) < k) (hn : d.size ≤ 3000) (x : Ht) :
    Calls Tryz.prog 57 #[.pointer (some ⟨hb, 0, none⟩), hv x] w fun e w' => e = .returned (.bool true) ∧ More w w' hb k v d x := by
  have G : Gr w (w.alloc (.cells #[.int .i64 x.id, .int .u64 x.hi, .int .u64 x.lo] 43)) := by go_grown
  have hA : Hid (Hp (w.alloc (.cells #[.int .i64 x.id, .int .u64 x.hi, .int .u64 x.lo] 43)) hb k v d ∧ MaxH d ∧ d.size ≤ 3000 ∧ Hp w hb k v d) := ⟨h.gr G, hm, hn, h⟩
  have c0 := hA.out.1.cell0
  have c1 := hA.out.1.cell1
  obtain ⟨a, cap, rfl⟩ := h.form
  obtain ⟨n, hN⟩ : ∃ n, n = d.size := ⟨_, rfl⟩
  have N : Hid (n = d.size) := hN
  rw [← hN] at c1 hk
  clear h hm hn hN
  go_enter Tryz.func57, Tryz.ntmps57
  go_wp2
  go_quiet (fail)
  go_wp2
  go_region_with (go_at_call 83; refine (push25 (hA.out.1.heap (by rfl)) hA.out.2.1 hA.out.2.2.1 x).mono ?_; rintro e w' ⟨rfl, hM⟩)
  all_goals
    have M : Hid (More w w' hb k (.slice a d.size cap) d x) := More.before (G.trans (below_drewN (Below.refl _ _) _)) hM
    clear hM
    go_wp2
    go_ret
    exact ⟨rfl, M.out⟩

/-- What a heap is behind a hit in the worst one's place. -/
def Repl (w w' : World) (hb : Nat) (k : Int) (v : Value) (d : Array Ht) (x : Ht) : Prop :=
  ∃ d', d'.toList.Perm (d.setIfInBounds 0 x).toList ∧ MaxH d' ∧ Hp w' hb k v d' ∧ Kp (fun b => b = hb ∨ some b = v.ownBlock) w w'
theorem flat_set (d : Array Ht) (x : Ht) (hd : 0 < d.size) : setMany (flatK enc 3 d) 0 (enc x) = flatK enc 3 (d.setIfInBounds 0 x) := by
  refine ext_get! (by simp) fun t ht => ?_
  have ht' : t < d.size * 3 := by simpa using ht
  rw [get_setMany _ _ _ t (by simpa using ht'), get_flatK _ _ _ t ht', get_flatK _ _ _ t (by simpa using ht'), enc_len]
  by_cases h : t < 3
  · rw [if_pos (by omega), show t / 3 = 0 by omega, getElem!_set_same d 0 x hd, show t % 3 = t by omega, Nat.sub_zero]
  · rw [if_neg (by omega), getElem!_set_other d 0 _ x (by omega)]
theorem store_first {w : World} {g n cap : Nat} {d : Array Ht} (h : Own w (.slice (some ⟨g, 0, none⟩) n cap) d) (x : Ht) (hd : 0 < d.size) :
    ((w.setCell ⟨g, 0, none⟩ (.int .i64 x.id)).setCell ⟨g, 1, none⟩ (.int .u64 x.hi)).setCell ⟨g, 2, none⟩ (.int .u64 x.lo) = putRowK enc 3 (Sort.ahead w 0) g 0 (d.setIfInBounds 0 x) := by
  have h1 := setCells_putRow w g 0 (enc x) 0 (flatK enc 3 d) (by rw [enc_len, size_flatK]; omega)
  rw [putRow_self id w g 0 _ (own_holds h), flat_set d x hd] at h1
  exact h1

set_option maxHeartbeats 2000000 in
set_option maxRecDepth 100000 in
theorem offer_repl {w : World} {hb : Nat} {k : Int} {v : Value} {d : Array Ht} (h : Hp w hb k v d) (hm : MaxH d) (hk : (d.size : Int) = k) (hn : d.size ≤ 3000) (hd : 0 < d.size) (x : Ht) (hx : hlt x d[0]! = true) :
    Calls Tryz.prog 57 #[.pointer (some ⟨hb, 0, none⟩), hv x] w fun e w' => e = .returned (.bool true) ∧ Repl w w' hb k v d x := by
  subst hk
  obtain ⟨g, cap, cur, rfl, _⟩ := own_form h.own hd
  have G : Gr w (w.alloc (.cells #[.int .i64 x.id, .int .u64 x.hi, .int .u64 x.lo] 43)) := by go_grown
  have hA : Hid (Hp (w.alloc (.cells #[.int .i64 x.id, .int .u64 x.hi, .int .u64 x.lo] 43)) hb (d.size : Nat) (.slice (some ⟨g, 0, none⟩) d.size cap) d ∧ MaxH d ∧ d.size ≤ 3000 ∧ 0 < d.size ∧ hlt x d[0]! = true) := ⟨h.gr G, hm, hn, hd, hx⟩
  have c0 := hA.out.1.cell0
  have c1 := hA.out.1.cell1
  obtain ⟨n, hN⟩ : ∃ n, n = d.size := ⟨_, rfl⟩
  have N : Hid (n = d.size) := hN
  rw [← hN] at c1 c0 hn hd
  clear h hm hN hx
  go_enter Tryz.func57, Tryz.ntmps57
  go_wp2
  go_quiet (fail)
  clear c0 c1
  go_wp2_with fail
  refine (worst15 (hA.out.1.heap (by rfl)) hA.out.2.2.2.1 (by have := hA.out.2.2.1; omega)).mono ?_
  rintro e w1 ⟨rfl, g1⟩
  have b0 : w1.cell? ⟨w.heap.size, 0, none⟩ = some (.int .i64 x.id) := gr_keeps g1 (by simp [go_sem])
  have b1 : w1.cell? ⟨w.heap.size, 1, none⟩ = some (.int .u64 x.hi) := gr_keeps g1 (by simp [go_sem])
  have b2 : w1.cell? ⟨w.heap.size, 2, none⟩ = some (.int .u64 x.lo) := gr_keeps g1 (by simp [go_sem])
  have G1 : Gr w w1 := gr_trans (G.trans (below_drewN (Below.refl _ _) _)) g1
  have hB : Hid (Hp w1 hb (d.size : Nat) (.slice (some ⟨g, 0, none⟩) d.size cap) d) := (hA.out.1.heap (by rfl)).gr g1
  obtain ⟨y, hy⟩ : ∃ y, y = d[0]! := ⟨_, rfl⟩
  have Y : Hid (y = d[0]!) := hy
  rw [← hy]
  clear hy g1 G
  have hl := fun W => less_c x y W
  rw [show hlt x y = true by rw [Y.out]; exact hA.out.2.2.2.2] at hl
  replace b0 := alloc_keeps b0 (.cells #[.int .i64 y.id, .int .u64 y.hi, .int .u64 y.lo] 43)
  replace b1 := alloc_keeps b1 (.cells #[.int .i64 y.id, .int .u64 y.hi, .int .u64 y.lo] 43)
  replace b2 := alloc_keeps b2 (.cells #[.int .i64 y.id, .int .u64 y.hi, .int .u64 y.lo] 43)
  go_wp2_with fail
  refine (hl _).mono ?_
  rintro e w2 ⟨rfl, g2⟩
  have G2 : Gr w w2 := gr_trans (gr_alloc G1 _) g2.gr
  have hC : Hid (Hp w2 hb (d.size : Nat) (.slice (some ⟨g, 0, none⟩) d.size cap) d) := (hB.out.gr (gr_alloc (Below.refl _ _) _)).gr g2.gr
  replace b0 := gr_keeps g2.gr b0
  replace b1 := gr_keeps g2.gr b1
  replace b2 := gr_keeps g2.gr b2
  have c1 := hC.out.cell1
  have cc := own_cell hC.out.own hA.out.2.2.2.1
  rw [Nat.zero_mul] at cc
  obtain ⟨x0, x1, x2⟩ := cc
  have f0 := own_froz hC.out.own 0
  have f1 := own_froz hC.out.own 1
  have f2 := own_froz hC.out.own 2
  rw [← N.out] at c1
  clear g2 G1 hB hl
  go_wp2
  go_region
  have hw := store_first hC.out.own x hA.out.2.2.2.1
  rw [hw]
  have hD : Hid (Hp (putRowK enc 3 (Sort.ahead w2 0) g 0 (d.setIfInBounds 0 x)).drew hb (d.size : Nat) (.slice (some ⟨g, 0, none⟩) d.size cap) (d.setIfInBounds 0 x) ∧ Kp (fun b => b = g) w2 (putRowK enc 3 (Sort.ahead w2 0) g 0 (d.setIfInBounds 0 x)).drew) := by
    have K0 := Kp.put (g := g) (m := 0) w2 (d.setIfInBounds 0 x)
    refine ⟨⟨?_, own_put hC.out.own 0 _ (by simp), hC.out.ne⟩, ⟨K0.os, K0.tape, K0.output, K0.size, K0.block⟩⟩
    show (putRowK enc 3 (Sort.ahead w2 0) g 0 (d.setIfInBounds 0 x)).heap[hb]? = _
    rw [K0.block hb hC.out.lt (by have := hC.out.ne; simp [Value.ownBlock] at this; omega)]
    exact hC.out.blk
  clear hw b0 b1 b2 c1 x0 x1 x2 f0 f1 f2
  generalize (putRowK enc 3 (Sort.ahead w2 0) g 0 (d.setIfInBounds 0 x)).drew = w3 at *
  have hf := fix26 hD.out.1 (by simp) (by have := hA.out.2.2.1; omega) hA.out.2.2.2.1 (down_set hA.out.2.1 x)
  go_wp2_with fail
  refine hf.mono ?_
  rintro e w4 ⟨rfl, d', p1, p2, p3, p4⟩
  have Z : Hid (Repl w w4 hb (d.size : Nat) (.slice (some ⟨g, 0, none⟩) d.size cap) d x) :=
    ⟨d', p1, p2, p3, ((Kp.of_gr G2).trans' hD.out.2 (fun i _ e => .inr (by rw [e]; rfl))).trans' p4 (fun i _ e => .inr (by rw [e]; rfl))⟩
  clear p1 p2 p3 p4 hf
  go_wp2
  go_ret
  exact ⟨rfl, Z.out⟩

set_option maxHeartbeats 2000000 in
set_option maxRecDepth 100000 in
theorem offer_no {w : World} {hb : Nat} {k : Int} {v : Value} {d : Array Ht} (h : Hp w hb k v d) (hk : (d.size : Int) = k) (hn : d.size ≤ 3000) (hd : 0 < d.size) (x : Ht) (hx : hlt x d[0]! = false) :
    Calls Tryz.prog 57 #[.pointer (some ⟨hb, 0, none⟩), hv x] w fun e w' => e = .returned (.bool false) ∧ Gr w w' := by
  subst hk
  obtain ⟨g, cap, cur, rfl, _⟩ := own_form h.own hd
  have G : Gr w (w.alloc (.cells #[.int .i64 x.id, .int .u64 x.hi, .int .u64 x.lo] 43)) := by go_grown
  have hA : Hid (Hp (w.alloc (.cells #[.int .i64 x.id, .int .u64 x.hi, .int .u64 x.lo] 43)) hb (d.size : Nat) (.slice (some ⟨g, 0, none⟩) d.size cap) d ∧ d.size ≤ 3000 ∧ 0 < d.size ∧ hlt x d[0]! = false) := ⟨h.gr G, hn, hd, hx⟩
  have c0 := hA.out.1.cell0
  have c1 := hA.out.1.cell1
  obtain ⟨n, hN⟩ : ∃ n, n = d.size := ⟨_, rfl⟩
  rw [← hN] at c1 c0 hn hd
  clear h hN hx
  go_enter Tryz.func57, Tryz.ntmps57
  go_wp2
  go_quiet (fail)
  clear c0 c1
  go_wp2_with fail
  refine (worst15 (hA.out.1.heap (by rfl)) hA.out.2.2.1 (by have := hA.out.2.1; omega)).mono ?_
  rintro e w1 ⟨rfl, g1⟩
  have b0 : w1.cell? ⟨w.heap.size, 0, none⟩ = some (.int .i64 x.id) := gr_keeps g1 (by simp [go_sem])
  have b1 : w1.cell? ⟨w.heap.size, 1, none⟩ = some (.int .u64 x.hi) := gr_keeps g1 (by simp [go_sem])
  have b2 : w1.cell? ⟨w.heap.size, 2, none⟩ = some (.int .u64 x.lo) := gr_keeps g1 (by simp [go_sem])
  have G1 : Gr w w1 := gr_trans (G.trans (below_drewN (Below.refl _ _) _)) g1
  obtain ⟨y, hy⟩ : ∃ y, y = d[0]! := ⟨_, rfl⟩
  have Y : Hid (y = d[0]!) := hy
  rw [← hy]
  clear hy g1 G
  have hl := fun W => less_c x y W
  rw [show hlt x y = false by rw [Y.out]; exact hA.out.2.2.2] at hl
  replace b0 := alloc_keeps b0 (.cells #[.int .i64 y.id, .int .u64 y.hi, .int .u64 y.lo] 43)
  replace b1 := alloc_keeps b1 (.cells #[.int .i64 y.id, .int .u64 y.hi, .int .u64 y.lo] 43)
  replace b2 := alloc_keeps b2 (.cells #[.int .i64 y.id, .int .u64 y.hi, .int .u64 y.lo] 43)
  go_wp2_with fail
  refine (hl _).mono ?_
  rintro e w2 ⟨rfl, g2⟩
  have G2 : Gr w w2 := gr_trans (gr_alloc G1 _) g2.gr
  clear g2 G1 hl b0 b1 b2
  go_wp2
  go_ret
  exact ⟨rfl, G2⟩
end Go.Proofs.YtdmdjmliggjbjaaGreat.Tk

/- slices.Clone and slices.SortFunc at hits (the shelf's contracts, laid at this program); List. -/
namespace Go.Proofs.YtdmdjmliggjbjaaGreat.Tk
open Go.Shelf Go.RowKit Go.Lib Go.Sort
shelf_lay_g SlLaysF0.n6 Slsf 6 at Tryz 88 as Tryz.laidSort
shelf_lay_g SlLaysE0.n41 Slgn 41 at Tryz 87 as Tryz.laidClone

/-- Hits in their order. -/
def srt (l : List Ht) : List Ht := l.mergeSort fun x y => !hlt y x
theorem srt_perm (l : List Ht) : (srt l).Perm l := List.mergeSort_perm _ _
theorem srt_len (l : List Ht) : (srt l).length = l.length := (srt_perm l).length_eq

theorem swoH : SWO (ltOf cf) := ⟨hlt_irrefl, fun _ _ _ => hlt_trans, fun _ _ _ => hlt_ntrans⟩
theorem cmpH (blk off size : Nat) (w : World) : CmpLays Tryz.prog 89 #[] enc 3 cf blk off size w := fun _ _ _ _ x y => order_c x y _

theorem gr_grow (w : World) (os : Array Obj) : Gr w (grow w os) := ⟨rfl, rfl, rfl, by rw [size_grow]; omega, fun _ hk => heap_grow_old _ _ hk⟩
theorem clone28 {w : World} {g n cap : Nat} {d : Array Ht} (h : Own w (.slice (some ⟨g, 0, none⟩) n cap) d) (hs : d.size = n) (hn : n ≤ 4000) :
    Calls Tryz.prog 87 #[.slice (some ⟨g, 0, none⟩) n cap] w fun e w' => ∃ g' cap', e = .returned (.slice (some ⟨g', 0, none⟩) n cap') ∧ w.heap.size ≤ g' ∧ Own w' (.slice (some ⟨g', 0, none⟩) n cap') d ∧ Gr w w' := by
  obtain ⟨i0, z0, hi0, hz0, hz1, hz2, hz3⟩ := info43
  have hc := AnyE.slices_Clone Tryz.laidClone i0 z0 3 24 hi0 hz0 hz1 hz2 hz3 (by omega) Tryz.sizeOf43 g 0 n cap (fl d.toList) w (by rw [fl_len]; simp [hs]) (by simp only [maxLen]; omega) (by omega)
    (fun j u hu => by have := h.cells (g := g) rfl j u hu; rwa [Addr.add_lit] at this) (fl_one_cell _)
  change Calls Tryz.prog 87 _ _ _ at hc
  refine hc.mono ?_
  rintro e w' ⟨v', rfl, ho, hv, hb⟩
  rcases ho.2 with ⟨h1, _⟩ | ⟨g', cap', cur, rfl, hb', hh, r⟩
  · exact absurd h1 hv
  · refine ⟨g', cap', rfl, hb', ?_, hb⟩
    unfold Own
    rw [hs]
    exact ⟨ho.1, .inr ⟨g', cap', cur, rfl, Nat.zero_le _, hh, r⟩⟩
theorem clone28_nil (w : World) : Calls Tryz.prog 87 #[.slice none 0 0] w fun e w' => e = .returned (.slice none 0 0) ∧ w' = w := by
  have hc := AnyE.slices_Clone_nil Tryz.laidClone 0 0 w
  exact hc

theorem sort29 {w : World} {g n cap : Nat} {d : Array Ht} (h : Own w (.slice (some ⟨g, 0, none⟩) n cap) d) (hs : d.size = n) (hn : n ≤ 4000) :
    Calls Tryz.prog 88 #[.slice (some ⟨g, 0, none⟩) n cap, .func (.func 89) #[] #[]] w fun e w' => e = .returned (.tuple #[]) ∧ Own w' (.slice (some ⟨g, 0, none⟩) n cap) (srt d.toList).toArray ∧ Kp (fun b => b = g) w w' := by
  subst hs
  have eg : ∀ args w, (callFunc 89 args).run Tryz.prog w = .ok (.enter 89 args) w := enters_of Tryz.func89 (by kernel_rfl) rfl
  have hc := AnyQ.slices_SortFunc_total Tryz.laidSort 3 Tryz.isAgg43 Tryz.sizeOf43 enc enc_len enc_one cf swoH 89 #[] g 0 cap d w eg (cmpH g 0 d.size w) (own_holds h) (own_lt h rfl) (by omega) (fun x y h1 h2 => hlt_tot h1 h2)
  change Calls Tryz.prog 88 _ _ _ at hc
  refine hc.mono ?_
  rintro e w' ⟨rfl, q, os, rfl⟩
  have hsz : ((d.toList.mergeSort fun x y => !(ltOf cf) y x).toArray).size = d.size := by simp
  refine ⟨rfl, ?_, ?_⟩
  · exact own_gr (own_put h q _ hsz) (gr_grow _ _)
  · exact (Kp.put w _).trans (Kp.of_gr (gr_grow _ _))
theorem sort29_nil (fv : Value) (w : World) : Calls Tryz.prog 88 #[.slice none 0 0, fv] w fun e w' => e = .returned (.tuple #[]) ∧ w' = w := by
  have hc := AnyF.slices_SortFunc_none Tryz.laidSort none 0 fv w
  exact hc

/-- A list that came out: its hits, in memory of its own. -/
def Out (w w' : World) (v : Value) (l : List Ht) : Prop := Own w' v l.toArray ∧ Gr w w' ∧ ∀ g, v.ownBlock = some g → w.heap.size ≤ g

set_option maxHeartbeats 2000000 in
theorem list16 {w : World} {hb : Nat} {k : Int} {v : Value} {d : Array Ht} (h : Hp w hb k v d) (hn : d.size ≤ 4000) :
    Calls Tryz.prog 58 #[.pointer (some ⟨hb, 0, none⟩)] w fun e w' => ∃ v', e = .returned v' ∧ Out w w' v' (srt d.toList) := by
  have c1 := h.cell1
  have H : Hid (Own w v d ∧ d.size ≤ 4000) := ⟨h.own, hn⟩
  rcases h.own.2 with ⟨rfl, h0⟩ | ⟨g, cap, cur, rfl, _⟩
  · have D : Hid (d = #[]) := Array.eq_empty_of_size_eq_zero h0
    clear h hn h0
    go_enter Tryz.func58, Tryz.ntmps58
    go_wp2_with fail
    refine (clone28_nil _).mono ?_
    rintro e w' ⟨rfl, e2⟩
    subst e2
    go_wp2_with fail
    refine (sort29_nil _ _).mono ?_
    rintro e w2 ⟨rfl, e2⟩
    subst e2
    go_wp2
    go_ret
    refine ⟨.slice none 0 0, rfl, ?_, Below.refl _ _, by simp [Value.ownBlock]⟩
    rw [D.out, show srt (#[] : Array Ht).toList = [] by simp [srt]]
    exact own_nil _
  · obtain ⟨n, hN⟩ : ∃ n, n = d.size := ⟨_, rfl⟩
    have N : Hid (d.size = n) := hN.symm
    rw [← hN] at c1
    have H2 : Hid (Own w (.slice (some ⟨g, 0, none⟩) n cap) d ∧ n ≤ 4000) := by rw [hN]; exact H
    clear h hn hN H
    go_enter Tryz.func58, Tryz.ntmps58
    go_wp2_with fail
    refine (clone28 H2.out.1 N.out H2.out.2).mono ?_
    rintro e w1 ⟨g', cap', rfl, hg, ho, hG⟩
    have X : Hid (Own w1 (.slice (some ⟨g', 0, none⟩) n cap') d ∧ Gr w w1 ∧ w.heap.size ≤ g') := ⟨ho, hG, hg⟩
    clear hg ho hG c1
    go_wp2_with fail
    refine (sort29 X.out.1 N.out H2.out.2).mono ?_
    rintro e w2 ⟨rfl, ho, hK⟩
    have Y : Hid (Own w2 (.slice (some ⟨g', 0, none⟩) n cap') (srt d.toList).toArray ∧ Kp (fun b => b = g') w1 w2) := ⟨ho, hK⟩
    clear ho hK
    go_wp2
    go_ret
    refine ⟨.slice (some ⟨g', 0, none⟩) n cap', rfl, Y.out.1, X.out.2.1.trans (Y.out.2.gr X.out.2.1.size (fun k e => by rw [e]; exact X.out.2.2)), ?_⟩
    intro g2 e
    simp [Value.ownBlock] at e
    rw [← e]; exact X.out.2.2
theorem list16_nil (w : World) : Calls Tryz.prog 58 #[.pointer none] w fun e w' => e = .returned (.slice none 0 0) ∧ w' = w := by
  go_enter Tryz.func58, Tryz.ntmps58
  go_wp2
  go_ret
  exact ⟨rfl, rfl⟩
end Go.Proofs.YtdmdjmliggjbjaaGreat.Tk
