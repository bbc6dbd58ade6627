import Derived.Test.YtepjbdklljlecaaGreatVaTkDown
import Derived.BigQuiet
import Derived.Shelf.SlSortCmp.NoneTotal
import Derived.Shelf.SlicesE.Clone
import Derived.Shelf.SlGeneric
import Derived.Shelf.Lay
import Derived.Ground.SlsfProg
import Derived.Ground.SlgnProg
import Derived.Test.YtepjbdklljlecaaGreatProg
import Derived.RangeFuncNested
import Derived.RangeFuncBound
import Derived.RangeFuncCalls
import Derived.RangeFuncLeaves
import Derived.Shelf.Abstract
import Derived.Shelf.RegionOpen
import Derived.WalkKit
import Derived.OwnWalkIn
import Derived.TacticsInMore
import Derived.LoopNIn
import Derived.LoopIn
/- container/heap's Push and Fix. -/
namespace Go.Proofs.YtepjbdklljlecaaGreat.Tk
open Go.RowKit Go.Sort

theorem Kp.trans' {S T : Nat → Prop} {a b c : World} (h : Kp S a b) (k : Kp T b c) (hT : ∀ i, i < a.heap.size → T i → S i) : Kp S a c :=
  ⟨k.os.trans h.os, k.tape.trans h.tape, k.output.trans h.output, Nat.le_trans h.size k.size, fun i hi hn => (k.block i (Nat.lt_of_lt_of_le hi h.size) (fun t => hn (hT i hi t))).trans (h.block i hi hn)⟩

/-- What a heap is behind a hit more. -/
def More (w w' : World) (hb : Nat) (k : Int) (v : Value) (d : Array Ht) (x : Ht) : Prop :=
  ∃ g cap d', d'.toList.Perm (d.toList ++ [x]) ∧ MaxH d' ∧ Hp w' hb k (.slice (some ⟨g, 0, none⟩) (d.size + 1) cap) d' ∧ Kp (fun b => b = hb ∨ some b = v.ownBlock) w w' ∧ (v.ownBlock = some g ∨ w.heap.size ≤ g)

set_option maxHeartbeats 2000000 in
set_option maxRecDepth 100000 in
theorem push25 {w : World} {hb : Nat} {k : Int} {v : Value} {d : Array Ht} (h : Hp w hb k v d) (hm : MaxH d) (hn : d.size ≤ 3000) (x : Ht) :
    Calls Tryz.prog 114 #[.iface 166 (.pointer (some ⟨hb, 1, none⟩)), .iface 68 (hv x)] w fun e w' => e = .returned (.tuple #[]) ∧ More w w' hb k v d x := by
  have H : Hid (Hp w hb k v d ∧ MaxH d) := ⟨h, hm⟩
  have hp := push75 h (by omega) x
  have hi := inv_push hb w
  obtain ⟨n, hN⟩ : ∃ n, n = d.size := ⟨_, rfl⟩
  have N : Hid (n = d.size) := hN
  rw [← hN] at hn
  clear h hm hN
  go_enter Tryz.func114, Tryz.ntmps114
  go_wp2_with fail
  refine hp.mono ?_
  rintro e w1 ⟨rfl, g, cap, h1, k1, hg⟩
  have hu := up_push H.out.2 x
  have e1 := N.out
  have X : Hid (Hp w1 hb k (.slice (some ⟨g, 0, none⟩) (n + 1) cap) (d.push x) ∧ UpInv (d.push x) n ∧ (d.push x).size = n + 1) := ⟨by rw [e1]; exact h1, by rw [e1]; exact hu, by rw [Array.size_push, e1]⟩
  have K1 : Hid (Kp (fun b => b = hb ∨ some b = v.ownBlock) w w1 ∧ (v.ownBlock = some g ∨ w.heap.size ≤ g)) := ⟨k1, hg⟩
  clear hp hi h1 k1 hg hu e1
  have hi := inv_len hb _ w1 X.out.1.cell1
  go_wp2_with fail
  refine (len72 _ _ _ _).mono ?_
  rintro e w2 ⟨rfl, e2⟩
  subst e2
  have e3 : ((n + 1 : Nat) : Int) - 1 = (n : Int) := by omega
  clear hi
  go_wp2_with fail
  refine (up_c X.out.1 X.out.2.2 (by omega) n (by omega) X.out.2.1).mono ?_
  rintro e w3 ⟨rfl, d', p1, p2, p3, p4⟩
  have Y : Hid (d'.toList.Perm (d.push x).toList ∧ MaxH d' ∧ Hp w3 hb k (.slice (some ⟨g, 0, none⟩) (n + 1) cap) d' ∧ Kp (fun b => b = g) w2 w3) := ⟨p1, p2, p3, p4⟩
  clear p1 p2 p3 p4
  go_wp2
  go_end0
  obtain ⟨p1, p2, p3, p4⟩ := Y.out
  obtain ⟨k1, hg⟩ := K1.out
  refine ⟨rfl, g, cap, d', by simpa using p1, p2, by rw [← N.out]; exact p3, k1.trans' p4 ?_, hg⟩
  rintro i hi rfl
  rcases hg with hg | hg
  · exact .inr hg.symm
  · omega

set_option maxHeartbeats 2000000 in
set_option maxRecDepth 100000 in
theorem fix26 {w : World} {hb g n cap : Nat} {k : Int} {d : Array Ht} (h : Hp w hb k (.slice (some ⟨g, 0, none⟩) n cap) d) (hs : d.size = n) (hn : n ≤ 4000) (hn0 : 0 < n) (hu : DownInv d 0) :
    Calls Tryz.prog 116 #[.iface 166 (.pointer (some ⟨hb, 1, none⟩)), .int .i64 0] w fun e w' => e = .returned (.tuple #[]) ∧ Fixed w w' hb g n cap k d := by
  have H : Hid (Hp w hb k (.slice (some ⟨g, 0, none⟩) n cap) d ∧ DownInv d 0 ∧ d.size = n) := ⟨h, hu, hs⟩
  have hi := inv_len hb _ w h.cell1
  clear h hs hu
  go_enter Tryz.func116, Tryz.ntmps116
  go_wp2_with fail
  refine (len72 _ _ _ _).mono ?_
  rintro e w2 ⟨rfl, e2⟩
  subst e2
  clear hi
  go_wp2_with fail
  refine (down_c H.out.1 H.out.2.2 hn 0 hn0 H.out.2.1).mono ?_
  rintro e w3 ⟨⟨b, rfl⟩, d', p1, p2, p3, p4⟩
  have Y : Hid (d'.toList.Perm d.toList ∧ MaxH d' ∧ Hp w3 hb k (.slice (some ⟨g, 0, none⟩) n cap) d' ∧ Kp (fun b => b = g) w2 w3) := ⟨p1, p2, p3, p4⟩
  clear p1 p2 p3 p4
  cases b with
  | true =>
    go_wp2
    go_end0
    exact ⟨rfl, d', Y.out⟩
  | false =>
    go_wp2_with fail
    refine (up_c (d := d') Y.out.2.2.1 (by have := Y.out.1.length_eq; have := H.out.2.2; simp at *; omega) hn 0 hn0 ⟨fun i h0 h1 _ => Y.out.2.1 i h0 h1, fun _ _ _ _ h0 => absurd h0 (Nat.lt_irrefl _)⟩).mono ?_
    rintro e w4 ⟨rfl, d'', p1, p2, p3, p4⟩
    have Y2 : Hid (d''.toList.Perm d'.toList ∧ MaxH d'' ∧ Hp w4 hb k (.slice (some ⟨g, 0, none⟩) n cap) d'' ∧ Kp (fun b => b = g) w3 w4) := ⟨p1, p2, p3, p4⟩
    clear p1 p2 p3 p4
    go_wp2
    go_end0
    exact ⟨rfl, d'', Y2.out.1.trans Y.out.1, Y2.out.2.1, Y2.out.2.2.1, Y.out.2.2.2.trans Y2.out.2.2.2⟩
end Go.Proofs.YtepjbdklljlecaaGreat.Tk

/- The heap's own calls: New, Len, Full, Worst, Offer. -/
namespace Go.Proofs.YtepjbdklljlecaaGreat.Tk
open Go.RowKit Go.Sort
attribute [local go_sem ↓] Go.wp_at_zero Go.wp_at_succ

set_option maxHeartbeats 1000000 in
theorem new_lo (k : Int) (hk : k < 1) (w : World) : Calls Tryz.prog 40 #[.int .i64 k] w fun e w' => e = .returned (.tuple #[.pointer none, .int .i64 1]) ∧ w' = w := by
  go_enter Tryz.func40, Tryz.ntmps40
  go_wp2
  go_ret2
  exact ⟨rfl, rfl⟩
set_option maxHeartbeats 1000000 in
theorem new_hi (k : Int) (hk : 64 < k) (w : World) : Calls Tryz.prog 40 #[.int .i64 k] w fun e w' => e = .returned (.tuple #[.pointer none, .int .i64 1]) ∧ w' = w := by
  have h0 : ¬ k < 1 := by omega
  go_enter Tryz.func40, Tryz.ntmps40
  go_wp2
  go_ret2
  exact ⟨rfl, rfl⟩
set_option maxHeartbeats 1000000 in
theorem new_ok (k : Int) (h1 : 1 ≤ k) (h2 : k ≤ 64) (w : World) : Calls Tryz.prog 40 #[.int .i64 k] w fun e w' => e = .returned (.tuple #[.pointer (some ⟨w.heap.size, 0, none⟩), .int .i64 0]) ∧ w' = w.alloc (.cells #[.int .i64 k, .slice none 0 0] 113) := by
  have h0 : ¬ k < 1 := by omega
  have h3 : ¬ 64 < k := by omega
  go_enter Tryz.func40, Tryz.ntmps40
  go_wp2
  go_ret2
  exact ⟨rfl, rfl⟩
theorem new_hp (k : Int) (w : World) : Hp (w.alloc (.cells #[.int .i64 k, .slice none 0 0] 113)) w.heap.size k (.slice none 0 0) #[] :=
  ⟨heap_alloc_new w _, own_nil _, by simp [Value.ownBlock]⟩

theorem Hp.form {w : World} {hb : Nat} {k : Int} {v : Value} {d : Array Ht} (h : Hp w hb k v d) : ∃ a cap, v = .slice a d.size cap := by
  rcases h.own.2 with ⟨rfl, h0⟩ | ⟨g, cap, cur, rfl, _⟩
  · exact ⟨none, 0, by rw [h0]⟩
  · exact ⟨_, _, rfl⟩

set_option maxHeartbeats 1000000 in
theorem len17 {w : World} {hb : Nat} {k : Int} {v : Value} {d : Array Ht} (h : Hp w hb k v d) : Calls Tryz.prog 152 #[.pointer (some ⟨hb, 0, none⟩)] w fun e w' => e = .returned (.int .i64 (d.size : Nat)) ∧ w' = w := by
  have c1 := h.cell1
  obtain ⟨a, cap, rfl⟩ := h.form
  clear h
  generalize d.size = n at c1 ⊢
  go_enter Tryz.func152, Tryz.ntmps152
  go_wp2
  go_ret
  exact ⟨rfl, rfl⟩
set_option maxHeartbeats 1000000 in
theorem worst15_none (p : Value) (w : World) (hl : ∀ W, Gr w W → Calls Tryz.prog 152 #[p] W fun e w' => e = .returned (.int .i64 0) ∧ w' = W) :
    Calls Tryz.prog 104 #[p] w fun e w' => e = .returned (.tuple #[hv ⟨0, 0, 0⟩, .bool false]) ∧ Gr w w' := by
  go_enter Tryz.func104, Tryz.ntmps104
  go_wp2_with fail
  refine (hl _ (by go_grown)).mono ?_
  rintro e w' ⟨rfl, rfl⟩
  clear hl
  go_wp2
  refine bodyPost_ret (v := .tuple #[hv ⟨0, 0, 0⟩, .bool false]) (by simp [results, Tryz.results104, go_sem]) rfl ?_
  exact ⟨rfl, by go_grown⟩

set_option maxHeartbeats 1000000 in
theorem worst15 {w : World} {hb : Nat} {k : Int} {v : Value} {d : Array Ht} (h : Hp w hb k v d) (hd : 0 < d.size) (hn : d.size ≤ 4000) : Calls Tryz.prog 104 #[.pointer (some ⟨hb, 0, none⟩)] w fun e w' => e = .returned (.tuple #[hv d[0]!, .bool true]) ∧ Gr w w' := by
  obtain ⟨g, cap, cur, rfl, _⟩ := own_form h.own hd
  have hA : Hid (Hp (w.alloc (.cells #[.int .i64 0, .int .u64 0, .int .u64 0] 68)) hb k (.slice (some ⟨g, 0, none⟩) d.size cap) d) := h.gr (by go_grown)
  have hl := len17 hA.out
  have c1 := hA.out.cell1
  have cc := own_cell hA.out.own hd
  rw [Nat.zero_mul] at cc
  obtain ⟨x0, x1, x2⟩ := cc
  generalize d[0]! = x at *
  obtain ⟨n, hN⟩ : ∃ n, n = d.size := ⟨_, rfl⟩
  rw [← hN] at *
  clear h hN hA
  go_enter Tryz.func104, Tryz.ntmps104
  go_wp2_with fail
  refine hl.mono ?_
  rintro e w' ⟨rfl, rfl⟩
  clear hl
  go_wp2
  refine bodyPost_ret (v := .tuple #[hv x, .bool true]) (by simp [results, Tryz.results104, go_sem]) rfl ?_
  exact ⟨rfl, by go_grown⟩
end Go.Proofs.YtepjbdklljlecaaGreat.Tk

/- Offer: which hits are kept. -/
namespace Go.Proofs.YtepjbdklljlecaaGreat.Tk
open Go.RowKit Go.Sort
attribute [local go_sem ↓] Go.wp_at_zero Go.wp_at_succ

theorem Hp.heap {w w' : World} {hb : Nat} {k : Int} {v : Value} {d : Array Ht} (h : Hp w hb k v d) (e : w'.heap = w.heap) : Hp w' hb k v d :=
  ⟨by rw [e]; exact h.blk, by have := h.own; unfold Own World.ownsRow at *; rw [e]; exact this, h.ne⟩
theorem More.before {w w0 w' : World} {hb : Nat} {k : Int} {v : Value} {d : Array Ht} {x : Ht} (G : Gr w w0) (h : More w0 w' hb k v d x) : More w w' hb k v d x := by
  obtain ⟨g, cap, d', h1, h2, h3, h4, h5⟩ := h
  refine ⟨g, cap, d', h1, h2, h3, (Kp.of_gr G).trans h4, ?_⟩
  rcases h5 with h5 | h5
  · exact .inl h5
  · exact .inr (Nat.le_trans G.size h5)
set_option maxHeartbeats 2000000 in
set_option maxRecDepth 100000 in
theorem offer_more {w : World} {hb : Nat} {k : Int} {v : Value} {d : Array Ht} (h : Hp w hb k v d) (hm : MaxH d) (hk : (d.size : Int) < k) (hn : d.size ≤ 3000) (x : Ht) :
    Calls Tryz.prog 81 #[.pointer (some ⟨hb, 0, none⟩), hv x] w fun e w' => e = .returned (.bool true) ∧ More w w' hb k v d x := by
  have G : Gr w (w.alloc (.cells #[.int .i64 x.id, .int .u64 x.hi, .int .u64 x.lo] 68)) := by go_grown
  have hA : Hid (Hp (w.alloc (.cells #[.int .i64 x.id, .int .u64 x.hi, .int .u64 x.lo] 68)) hb k v d ∧ MaxH d ∧ d.size ≤ 3000 ∧ Hp w hb k v d) := ⟨h.gr G, hm, hn, h⟩
  have c0 := hA.out.1.cell0
  have c1 := hA.out.1.cell1
  obtain ⟨a, cap, rfl⟩ := h.form
  obtain ⟨n, hN⟩ : ∃ n, n = d.size := ⟨_, rfl⟩
  have N : Hid (n = d.size) := hN
  rw [← hN] at c1 hk
  clear h hm hn hN
  go_enter Tryz.func81, Tryz.ntmps81
  go_wp2
  go_quiet (fail)
  go_wp2
  go_region_with (go_at_call 114; refine (push25 (hA.out.1.heap (by rfl)) hA.out.2.1 hA.out.2.2.1 x).mono ?_; rintro e w' ⟨rfl, hM⟩)
  all_goals
    have M : Hid (More w w' hb k (.slice a d.size cap) d x) := More.before (G.trans (below_drewN (Below.refl _ _) _)) hM
    clear hM
    go_wp2
    go_ret
    exact ⟨rfl, M.out⟩

/-- What a heap is behind a hit in the worst one's place. -/
def Repl (w w' : World) (hb : Nat) (k : Int) (v : Value) (d : Array Ht) (x : Ht) : Prop :=
  ∃ d', d'.toList.Perm (d.setIfInBounds 0 x).toList ∧ MaxH d' ∧ Hp w' hb k v d' ∧ Kp (fun b => b = hb ∨ some b = v.ownBlock) w w'
theorem flat_set (d : Array Ht) (x : Ht) (hd : 0 < d.size) : setMany (flatK enc 3 d) 0 (enc x) = flatK enc 3 (d.setIfInBounds 0 x) := by
  refine ext_get! (by simp) fun t ht => ?_
  have ht' : t < d.size * 3 := by simpa using ht
  rw [get_setMany _ _ _ t (by simpa using ht'), get_flatK _ _ _ t ht', get_flatK _ _ _ t (by simpa using ht'), enc_len]
  by_cases h : t < 3
  · rw [if_pos (by omega), show t / 3 = 0 by omega, getElem!_set_same d 0 x hd, show t % 3 = t by omega, Nat.sub_zero]
  · rw [if_neg (by omega), getElem!_set_other d 0 _ x (by omega)]
theorem store_first {w : World} {g n cap : Nat} {d : Array Ht} (h : Own w (.slice (some ⟨g, 0, none⟩) n cap) d) (x : Ht) (hd : 0 < d.size) :
    ((w.setCell ⟨g, 0, none⟩ (.int .i64 x.id)).setCell ⟨g, 1, none⟩ (.int .u64 x.hi)).setCell ⟨g, 2, none⟩ (.int .u64 x.lo) = putRowK enc 3 (Sort.ahead w 0) g 0 (d.setIfInBounds 0 x) := by
  have h1 := setCells_putRow w g 0 (enc x) 0 (flatK enc 3 d) (by rw [enc_len, size_flatK]; omega)
  rw [putRow_self id w g 0 _ (own_holds h), flat_set d x hd] at h1
  exact h1

set_option maxHeartbeats 2000000 in
set_option maxRecDepth 100000 in
theorem offer_repl {w : World} {hb : Nat} {k : Int} {v : Value} {d : Array Ht} (h : Hp w hb k v d) (hm : MaxH d) (hk : (d.size : Int) = k) (hn : d.size ≤ 3000) (hd : 0 < d.size) (x : Ht) (hx : hlt x d[0]! = true) :
    Calls Tryz.prog 81 #[.pointer (some ⟨hb, 0, none⟩), hv x] w fun e w' => e = .returned (.bool true) ∧ Repl w w' hb k v d x := by
  subst hk
  obtain ⟨g, cap, cur, rfl, _⟩ := own_form h.own hd
  have G : Gr w (w.alloc (.cells #[.int .i64 x.id, .int .u64 x.hi, .int .u64 x.lo] 68)) := by go_grown
  have hA : Hid (Hp (w.alloc (.cells #[.int .i64 x.id, .int .u64 x.hi, .int .u64 x.lo] 68)) hb (d.size : Nat) (.slice (some ⟨g, 0, none⟩) d.size cap) d ∧ MaxH d ∧ d.size ≤ 3000 ∧ 0 < d.size ∧ hlt x d[0]! = true) := ⟨h.gr G, hm, hn, hd, hx⟩
  have c0 := hA.out.1.cell0
  have c1 := hA.out.1.cell1
  obtain ⟨n, hN⟩ : ∃ n, n = d.size := ⟨_, rfl⟩
  have N : Hid (n = d.size) := hN
  rw [← hN] at c1 c0 hn hd
  clear h hm hN hx
  go_enter Tryz.func81, Tryz.ntmps81
  go_wp2
  go_quiet (fail)
  clear c0 c1
  go_wp2_with fail
  refine (worst15 (hA.out.1.heap (by rfl)) hA.out.2.2.2.1 (by have := hA.out.2.2.1; omega)).mono ?_
  rintro e w1 ⟨rfl, g1⟩
  have b0 : w1.cell? ⟨w.heap.size, 0, none⟩ = some (.int .i64 x.id) := gr_keeps g1 (by simp [go_sem])
  have b1 : w1.cell? ⟨w.heap.size, 1, none⟩ = some (.int .u64 x.hi) := gr_keeps g1 (by simp [go_sem])
  have b2 : w1.cell? ⟨w.heap.size, 2, none⟩ = some (.int .u64 x.lo) := gr_keeps g1 (by simp [go_sem])
  have G1 : Gr w w1 := gr_trans (G.trans (below_drewN (Below.refl _ _) _)) g1
  have hB : Hid (Hp w1 hb (d.size : Nat) (.slice (some ⟨g, 0, none⟩) d.size cap) d) := (hA.out.1.heap (by rfl)).gr g1
  obtain ⟨y, hy⟩ : ∃ y, y = d[0]! := ⟨_, rfl⟩
  have Y : Hid (y = d[0]!) := hy
  rw [← hy]
  clear hy g1 G
  have hl := fun W => less_c x y W
  rw [show hlt x y = true by rw [Y.out]; exact hA.out.2.2.2.2] at hl
  replace b0 := alloc_keeps b0 (.cells #[.int .i64 y.id, .int .u64 y.hi, .int .u64 y.lo] 68)
  replace b1 := alloc_keeps b1 (.cells #[.int .i64 y.id, .int .u64 y.hi, .int .u64 y.lo] 68)
  replace b2 := alloc_keeps b2 (.cells #[.int .i64 y.id, .int .u64 y.hi, .int .u64 y.lo] 68)
  go_wp2_with fail
  refine (hl _).mono ?_
  rintro e w2 ⟨rfl, g2⟩
  have G2 : Gr w w2 := gr_trans (gr_alloc G1 _) g2.gr
  have hC : Hid (Hp w2 hb (d.size : Nat) (.slice (some ⟨g, 0, none⟩) d.size cap) d) := (hB.out.gr (gr_alloc (Below.refl _ _) _)).gr g2.gr
  replace b0 := gr_keeps g2.gr b0
  replace b1 := gr_keeps g2.gr b1
  replace b2 := gr_keeps g2.gr b2
  have c1 := hC.out.cell1
  have cc := own_cell hC.out.own hA.out.2.2.2.1
  rw [Nat.zero_mul] at cc
  obtain ⟨x0, x1, x2⟩ := cc
  have f0 := own_froz hC.out.own 0
  have f1 := own_froz hC.out.own 1
  have f2 := own_froz hC.out.own 2
  rw [← N.out] at c1
  clear g2 G1 hB hl
  go_wp2
  go_region
  have hw := store_first hC.out.own x hA.out.2.2.2.1
  rw [hw]
  have hD : Hid (Hp (putRowK enc 3 (Sort.ahead w2 0) g 0 (d.setIfInBounds 0 x)).drew hb (d.size : Nat) (.slice (some ⟨g, 0, none⟩) d.size cap) (d.setIfInBounds 0 x) ∧ Kp (fun b => b = g) w2 (putRowK enc 3 (Sort.ahead w2 0) g 0 (d.setIfInBounds 0 x)).drew) := by
    have K0 := Kp.put (g := g) (m := 0) w2 (d.setIfInBounds 0 x)
    refine ⟨⟨?_, own_put hC.out.own 0 _ (by simp), hC.out.ne⟩, ⟨K0.os, K0.tape, K0.output, K0.size, K0.block⟩⟩
    show (putRowK enc 3 (Sort.ahead w2 0) g 0 (d.setIfInBounds 0 x)).heap[hb]? = _
    rw [K0.block hb hC.out.lt (by have := hC.out.ne; simp [Value.ownBlock] at this; omega)]
    exact hC.out.blk
  clear hw b0 b1 b2 c1 x0 x1 x2 f0 f1 f2
  generalize (putRowK enc 3 (Sort.ahead w2 0) g 0 (d.setIfInBounds 0 x)).drew = w3 at *
  have hf := fix26 hD.out.1 (by simp) (by have := hA.out.2.2.1; omega) hA.out.2.2.2.1 (down_set hA.out.2.1 x)
  go_wp2_with fail
  refine hf.mono ?_
  rintro e w4 ⟨rfl, d', p1, p2, p3, p4⟩
  have Z : Hid (Repl w w4 hb (d.size : Nat) (.slice (some ⟨g, 0, none⟩) d.size cap) d x) :=
    ⟨d', p1, p2, p3, ((Kp.of_gr G2).trans' hD.out.2 (fun i _ e => .inr (by rw [e]; rfl))).trans' p4 (fun i _ e => .inr (by rw [e]; rfl))⟩
  clear p1 p2 p3 p4 hf
  go_wp2
  go_ret
  exact ⟨rfl, Z.out⟩

set_option maxHeartbeats 2000000 in
set_option maxRecDepth 100000 in
theorem offer_no {w : World} {hb : Nat} {k : Int} {v : Value} {d : Array Ht} (h : Hp w hb k v d) (hk : (d.size : Int) = k) (hn : d.size ≤ 3000) (hd : 0 < d.size) (x : Ht) (hx : hlt x d[0]! = false) :
    Calls Tryz.prog 81 #[.pointer (some ⟨hb, 0, none⟩), hv x] w fun e w' => e = .returned (.bool false) ∧ Gr w w' := by
  subst hk
  obtain ⟨g, cap, cur, rfl, _⟩ := own_form h.own hd
  have G : Gr w (w.alloc (.cells #[.int .i64 x.id, .int .u64 x.hi, .int .u64 x.lo] 68)) := by go_grown
  have hA : Hid (Hp (w.alloc (.cells #[.int .i64 x.id, .int .u64 x.hi, .int .u64 x.lo] 68)) hb (d.size : Nat) (.slice (some ⟨g, 0, none⟩) d.size cap) d ∧ d.size ≤ 3000 ∧ 0 < d.size ∧ hlt x d[0]! = false) := ⟨h.gr G, hn, hd, hx⟩
  have c0 := hA.out.1.cell0
  have c1 := hA.out.1.cell1
  obtain ⟨n, hN⟩ : ∃ n, n = d.size := ⟨_, rfl⟩
  rw [← hN] at c1 c0 hn hd
  clear h hN hx
  go_enter Tryz.func81, Tryz.ntmps81
  go_wp2
  go_quiet (fail)
  clear c0 c1
  go_wp2_with fail
  refine (worst15 (hA.out.1.heap (by rfl)) hA.out.2.2.1 (by have := hA.out.2.1; omega)).mono ?_
  rintro e w1 ⟨rfl, g1⟩
  have b0 : w1.cell? ⟨w.heap.size, 0, none⟩ = some (.int .i64 x.id) := gr_keeps g1 (by simp [go_sem])
  have b1 : w1.cell? ⟨w.heap.size, 1, none⟩ = some (.int .u64 x.hi) := gr_keeps g1 (by simp [go_sem])
  have b2 : w1.cell? ⟨w.heap.size, 2, none⟩ = some (.int .u64 x.lo) := gr_keeps g1 (by simp [go_sem])
  have G1 : Gr w w1 := gr_trans (G.trans (below_drewN (Below.refl _ _) _)) g1
  obtain ⟨y, hy⟩ : ∃ y, y = d[0]! := ⟨_, rfl⟩
  have Y : Hid (y = d[0]!) := hy
  rw [← hy]
  clear hy g1 G
  have hl := fun W => less_c x y W
  rw [show hlt x y = false by rw [Y.out]; exact hA.out.2.2.2] at hl
  replace b0 := alloc_keeps b0 (.cells #[.int .i64 y.id, .int .u64 y.hi, .int .u64 y.lo] 68)
  replace b1 := alloc_keeps b1 (.cells #[.int .i64 y.id, .int .u64 y.hi, .int .u64 y.lo] 68)
  replace b2 := alloc_keeps b2 (.cells #[.int .i64 y.id, .int .u64 y.hi, .int .u64 y.lo] 68)
  go_wp2_with fail
  refine (hl _).mono ?_
  rintro e w2 ⟨rfl, g2⟩
  have G2 : Gr w w2 := gr_trans (gr_alloc G1 _) g2.gr
  clear g2 G1 hl b0 b1 b2
  go_wp2
  go_ret
  exact ⟨rfl, G2⟩
end Go.Proofs.YtepjbdklljlecaaGreat.Tk

/- slices.Clone and slices.SortFunc at hits (the shelf's contracts, laid at this program); List. -/
namespace Go.Proofs.YtepjbdklljlecaaGreat.Tk
open Go.Shelf Go.RowKit Go.Lib Go.Sort
shelf_lay_g SlLaysF0.n6 Slsf 6 at Tryz 111 as Tryz.laidSort
shelf_lay_g SlLaysE0.n41 Slgn 41 at Tryz 110 as Tryz.laidClone

/-- Hits in their order. -/
def srt (l : List Ht) : List Ht := l.mergeSort fun x y => !hlt y x
theorem srt_perm (l : List Ht) : (srt l).Perm l := List.mergeSort_perm _ _
theorem srt_len (l : List Ht) : (srt l).length = l.length := (srt_perm l).length_eq

theorem swoH : SWO (ltOf cf) := ⟨hlt_irrefl, fun _ _ _ => hlt_trans, fun _ _ _ => hlt_ntrans⟩
theorem cmpH (blk off size : Nat) (w : World) : CmpLays Tryz.prog 112 #[] enc 3 cf blk off size w := fun _ _ _ _ x y => order_c x y _

theorem gr_grow (w : World) (os : Array Obj) : Gr w (grow w os) := ⟨rfl, rfl, rfl, by rw [size_grow]; omega, fun _ hk => heap_grow_old _ _ hk⟩
theorem clone28 {w : World} {g n cap : Nat} {d : Array Ht} (h : Own w (.slice (some ⟨g, 0, none⟩) n cap) d) (hs : d.size = n) (hn : n ≤ 4000) :
    Calls Tryz.prog 110 #[.slice (some ⟨g, 0, none⟩) n cap] w fun e w' => ∃ g' cap', e = .returned (.slice (some ⟨g', 0, none⟩) n cap') ∧ w.heap.size ≤ g' ∧ Own w' (.slice (some ⟨g', 0, none⟩) n cap') d ∧ Gr w w' := by
  obtain ⟨i0, z0, hi0, hz0, hz1, hz2, hz3⟩ := info68
  have hc := AnyE.slices_Clone Tryz.laidClone i0 z0 3 24 hi0 hz0 hz1 hz2 hz3 (by omega) Tryz.sizeOf68 g 0 n cap (fl d.toList) w (by rw [fl_len]; simp [hs]) (by simp only [maxLen]; omega) (by omega)
    (fun j u hu => by have := h.cells (g := g) rfl j u hu; rwa [Addr.add_lit] at this) (fl_one_cell _)
  change Calls Tryz.prog 110 _ _ _ at hc
  refine hc.mono ?_
  rintro e w' ⟨v', rfl, ho, hv, hb⟩
  rcases ho.2 with ⟨h1, _⟩ | ⟨g', cap', cur, rfl, hb', hh, r⟩
  · exact absurd h1 hv
  · refine ⟨g', cap', rfl, hb', ?_, hb⟩
    unfold Own
    rw [hs]
    exact ⟨ho.1, .inr ⟨g', cap', cur, rfl, Nat.zero_le _, hh, r⟩⟩
theorem clone28_nil (w : World) : Calls Tryz.prog 110 #[.slice none 0 0] w fun e w' => e = .returned (.slice none 0 0) ∧ w' = w := by
  have hc := AnyE.slices_Clone_nil Tryz.laidClone 0 0 w
  exact hc

theorem sort29 {w : World} {g n cap : Nat} {d : Array Ht} (h : Own w (.slice (some ⟨g, 0, none⟩) n cap) d) (hs : d.size = n) (hn : n ≤ 4000) :
    Calls Tryz.prog 111 #[.slice (some ⟨g, 0, none⟩) n cap, .func (.func 112) #[] #[]] w fun e w' => e = .returned (.tuple #[]) ∧ Own w' (.slice (some ⟨g, 0, none⟩) n cap) (srt d.toList).toArray ∧ Kp (fun b => b = g) w w' := by
  subst hs
  have eg : ∀ args w, (callFunc 112 args).run Tryz.prog w = .ok (.enter 112 args) w := enters_of Tryz.func112 (by kernel_rfl) rfl
  have hc := AnyQ.slices_SortFunc_total Tryz.laidSort 3 Tryz.isAgg68 Tryz.sizeOf68 enc enc_len enc_one cf swoH 112 #[] g 0 cap d w eg (cmpH g 0 d.size w) (own_holds h) (own_lt h rfl) (by omega) (fun x y h1 h2 => hlt_tot h1 h2)
  change Calls Tryz.prog 111 _ _ _ at hc
  refine hc.mono ?_
  rintro e w' ⟨rfl, q, os, rfl⟩
  have hsz : ((d.toList.mergeSort fun x y => !(ltOf cf) y x).toArray).size = d.size := by simp
  refine ⟨rfl, ?_, ?_⟩
  · exact own_gr (own_put h q _ hsz) (gr_grow _ _)
  · exact (Kp.put w _).trans (Kp.of_gr (gr_grow _ _))
theorem sort29_nil (fv : Value) (w : World) : Calls Tryz.prog 111 #[.slice none 0 0, fv] w fun e w' => e = .returned (.tuple #[]) ∧ w' = w := by
  have hc := AnyF.slices_SortFunc_none Tryz.laidSort none 0 fv w
  exact hc

/-- A list that came out: its hits, in memory of its own. -/
def Out (w w' : World) (v : Value) (l : List Ht) : Prop := Own w' v l.toArray ∧ Gr w w' ∧ ∀ g, v.ownBlock = some g → w.heap.size ≤ g

set_option maxHeartbeats 2000000 in
theorem list16 {w : World} {hb : Nat} {k : Int} {v : Value} {d : Array Ht} (h : Hp w hb k v d) (hn : d.size ≤ 4000) :
    Calls Tryz.prog 78 #[.pointer (some ⟨hb, 0, none⟩)] w fun e w' => ∃ v', e = .returned v' ∧ Out w w' v' (srt d.toList) := by
  have c1 := h.cell1
  have H : Hid (Own w v d ∧ d.size ≤ 4000) := ⟨h.own, hn⟩
  rcases h.own.2 with ⟨rfl, h0⟩ | ⟨g, cap, cur, rfl, _⟩
  · have D : Hid (d = #[]) := Array.eq_empty_of_size_eq_zero h0
    clear h hn h0
    go_enter Tryz.func78, Tryz.ntmps78
    go_wp2_with fail
    refine (clone28_nil _).mono ?_
    rintro e w' ⟨rfl, e2⟩
    subst e2
    go_wp2_with fail
    refine (sort29_nil _ _).mono ?_
    rintro e w2 ⟨rfl, e2⟩
    subst e2
    go_wp2
    go_ret
    refine ⟨.slice none 0 0, rfl, ?_, Below.refl _ _, by simp [Value.ownBlock]⟩
    rw [D.out, show srt (#[] : Array Ht).toList = [] by simp [srt]]
    exact own_nil _
  · obtain ⟨n, hN⟩ : ∃ n, n = d.size := ⟨_, rfl⟩
    have N : Hid (d.size = n) := hN.symm
    rw [← hN] at c1
    have H2 : Hid (Own w (.slice (some ⟨g, 0, none⟩) n cap) d ∧ n ≤ 4000) := by rw [hN]; exact H
    clear h hn hN H
    go_enter Tryz.func78, Tryz.ntmps78
    go_wp2_with fail
    refine (clone28 H2.out.1 N.out H2.out.2).mono ?_
    rintro e w1 ⟨g', cap', rfl, hg, ho, hG⟩
    have X : Hid (Own w1 (.slice (some ⟨g', 0, none⟩) n cap') d ∧ Gr w w1 ∧ w.heap.size ≤ g') := ⟨ho, hG, hg⟩
    clear hg ho hG c1
    go_wp2_with fail
    refine (sort29 X.out.1 N.out H2.out.2).mono ?_
    rintro e w2 ⟨rfl, ho, hK⟩
    have Y : Hid (Own w2 (.slice (some ⟨g', 0, none⟩) n cap') (srt d.toList).toArray ∧ Kp (fun b => b = g') w1 w2) := ⟨ho, hK⟩
    clear ho hK
    go_wp2
    go_ret
    refine ⟨.slice (some ⟨g', 0, none⟩) n cap', rfl, Y.out.1, X.out.2.1.trans (Y.out.2.gr X.out.2.1.size (fun k e => by rw [e]; exact X.out.2.2)), ?_⟩
    intro g2 e
    simp [Value.ownBlock] at e
    rw [← e]; exact X.out.2.2
end Go.Proofs.YtepjbdklljlecaaGreat.Tk

/- The source's state and what it draws: the plain functions of layer 4, and the calls that touch no state. -/
namespace Go.Proofs.YtepjbdklljlecaaGreat.Rn
open Go.RowKit Go.Shelf

/-- A number of 64 bits. -/
abbrev U (z : Int) : Prop := 0 ≤ z ∧ z < 18446744073709551616
theorem u_wrap (z : Int) : U (IntKind.u64.wrap z) := by
  rw [IntKind.wrap_u64]; exact ⟨Int.emod_nonneg _ (by decide), Int.emod_lt_of_pos _ (by decide)⟩
theorem u_bits (o : BinOp) (x y : Int) : U (bits o .u64 x y) := by
  unfold bits; exact u_wrap _
/-- P4.1: what a state becomes, and the number that it tells. -/
def stp (x : Int) : Int := IntKind.u64.wrap (x + 11400714819323198485)
def sh (z m c : Int) : Int := IntKind.u64.wrap (bits .xor .u64 z (z / m) * c)
def mx0 (z : Int) : Int := bits .xor .u64 z (z / 2147483648)
def mx (z : Int) : Int := mx0 (sh (sh z 1073741824 13787848793156543929) 134217728 10723151780598845931)
theorem u_stp (x : Int) : U (stp x) := u_wrap _
theorem u_mx (z : Int) : U (mx z) := by unfold mx mx0; exact u_bits _ _ _
/-- The state behind k draws. -/
def stN (x : Int) : Nat → Int
  | 0 => x
  | k + 1 => stp (stN x k)
theorem stN_succ (x : Int) (k : Nat) : stN x (k + 1) = IntKind.u64.wrap (stN x k + 11400714819323198485) := rfl
set_option maxHeartbeats 400000 in
theorem mix_c (z : Int) (w : World) (h : U z) :
    Calls Tryz.prog 227 #[.int .u64 z] w fun e w' => e = .returned (.int .u64 (mx z)) ∧ w = w' := by
  obtain ⟨h0, h1⟩ := h
  go_enter Tryz.func227, Tryz.ntmps227
  go_wp2
  go_ret
  exact ⟨rfl, rfl⟩
set_option maxHeartbeats 400000 in
theorem rest_c (z n : Int) (w : World) (h : U z) (hn : 1 ≤ n) (hm : n ≤ 1000000000) :
    Calls Tryz.prog 175 #[.int .u64 z, .int .i64 n] w fun e w' => e = .returned (.int .i64 (z % n)) ∧ w = w' := by
  obtain ⟨h0, h1⟩ := h
  have e1 : wrap64 (z % n) = z % n := by
    have := Int.emod_nonneg z (b := n) (by omega)
    have := Int.emod_lt_of_pos z (b := n) (by omega)
    simp only [wrap64]; omega
  go_enter Tryz.func175, Tryz.ntmps175
  go_wp2
  go_ret
  exact ⟨by simp [e1], rfl⟩
set_option maxHeartbeats 400000 in
theorem new_c (x : Int) (w : World) :
    Calls Tryz.prog 55 #[.int .u64 x] w fun e w' => e = .returned (.pointer (some ⟨w.heap.size, 0, none⟩)) ∧ w' = w.alloc (.cells #[.int .u64 x] 144) := by
  go_enter Tryz.func55, Tryz.ntmps55
  go_wp2
  go_ret
  exact ⟨rfl, rfl⟩
set_option maxHeartbeats 400000 in
theorem draws_c (p : Option Addr) (k : Int) (w : World) :
    Calls Tryz.prog 208 #[.pointer p, .int .i64 k] w fun e w' => e = .returned (.func (.func 226) #[] #[.pointer (some ⟨w.heap.size, 0, none⟩), .pointer (some ⟨w.heap.size + 1, 0, none⟩)]) ∧ w' = (w.alloc (.cells #[.pointer p] 81)).alloc (.cells #[.int .i64 k] 3) := by
  go_enter Tryz.func208, Tryz.ntmps208
  go_wp2
  go_ret
  exact ⟨rfl, rfl⟩

/-- What keeps a source from drawing for n. -/
def ckE (n lo hi : Int) : Int := if n < lo ∨ hi < n then 1 else 0
set_option maxHeartbeats 400000 in
theorem check_c (a : Addr) (n lo hi : Int) (w : World) :
    Calls Tryz.prog 174 #[.pointer (some a), .int .i64 n, .int .i64 lo, .int .i64 hi] w fun e w' => e = .returned (.int .i64 (ckE n lo hi)) ∧ w = w' := by
  unfold ckE
  by_cases h1 : n < lo
  · rw [if_pos (.inl h1)]
    go_enter Tryz.func174, Tryz.ntmps174
    go_wp2
    go_ret
    exact ⟨rfl, rfl⟩
  · by_cases h2 : hi < n
    · rw [if_pos (.inr h2)]
      go_enter Tryz.func174, Tryz.ntmps174
      go_wp2
      go_ret
      exact ⟨rfl, rfl⟩
    · rw [if_neg (by omega)]
      go_enter Tryz.func174, Tryz.ntmps174
      go_wp2
      go_ret
      exact ⟨rfl, rfl⟩

end Go.Proofs.YtepjbdklljlecaaGreat.Rn
