import Derived.Test.YtepjbdklljlecaaGreatVb4
import Derived.SizedLaws
import Derived.Test.YtepjbdklljlecaaGreatVb10
import Derived.Shelf.SlSortCmp.NoneTotal
import Derived.Shelf.SlicesE.Clone
import Derived.Shelf.SlGeneric
import Derived.Shelf.Lay
import Derived.Ground.SlsfProg
import Derived.Ground.SlgnProg
import Derived.Laws.AppendOwnNone
import Derived.Test.YtepjbdklljlecaaGreatProg
import Derived.RangeFuncNested
import Derived.RangeFuncBound
import Derived.RangeFuncCalls
import Derived.RangeFuncLeaves
import Derived.Shelf.Abstract
import Derived.Shelf.RegionOpen
import Derived.WalkKit
import Derived.OwnWalkIn
import Derived.TacticsInMore
import Derived.LoopNIn
import Derived.LoopIn
import Derived.Test.YtepjbdklljlecaaGreatVb11
import Derived.Test.YtepjbdklljlecaaGreatVb3
/- Rows that came in, with the form's own reach: none is longer than its memory. -/
namespace Go.Proofs.YtepjbdklljlecaaGreat
open Go.ChangeShapes Go.WideShapes Go.ChangeAt Go.RowKit Go.Joins Go.Deep

theorem Tryz.bytesI : Tryz.prog.bytesOf 3 = 8 := by kernel_rfl
theorem Tryz.bytesR : Tryz.prog.bytesOf 43 = 32 := by kernel_rfl
theorem weights_in {H : Type} {e : TypeId} {d : DataW H} : ∀ {l : List (DataW H)}, d ∈ l → ∀ n ∈ d.weights Tryz.prog e, n ∈ DataW.weightsAll Tryz.prog e l
  | x :: r, h, n, hn => by
    simp only [DataW.weightsAll, List.mem_append]
    cases List.mem_cons.1 h with
    | inl h => subst h; exact .inl hn
    | inr h => exact .inr (weights_in h n hn)
theorem trodI_sz {H : Type} {enc : TypeId × Value → H} {W : World} {base fuel : Nat} {hd : Bool} {v : Value} {l : List Int} {x : DataW H × List MemPlace}
    (h : DataW.trod enc Tryz.prog W base (fun _ => true) hd fuel 41 [v] = some x) (hr : RdI W v l) (hw : ∀ n ∈ x.1.weights Tryz.prog 41, n ≤ reachBytes) : l.length ≤ reachBytes := by
  rcases open_slice Tryz.underlying41 h with ⟨e, _⟩ | ⟨a, len, cap, m, n, D, Pl, e, _, hlc, hcm, _, rfl, _⟩
  · cases e
    obtain ⟨_, _, e, _⟩ := hr
    injection e with _ e2 _
    omega
  · cases e
    have h1 := hw ((((List.range len).map D).length + ((List.range (m - len)).map fun j => D (len + j)).length) * Tryz.prog.bytesOf 3) (by simp [DataW.weights, Tryz.underlying41])
    rw [Tryz.bytesI] at h1
    simp only [List.length_map, List.length_range] at h1
    obtain ⟨_, _, e, _⟩ := hr
    injection e with _ e2 _
    omega
set_option maxRecDepth 100000 in
theorem open_rows_sz {H : Type} {enc : TypeId × Value → H} {W : World} {b0 : Nat} {r : Reach} {v : Value} {d : DataW H} {p : List MemPlace}
    (hv' : Value.okWide Tryz.prog W r b0 22 v) (h : DataW.Trod enc Tryz.prog W 0 (fun _ => true) true 22 v d p) (hw : ∀ n ∈ d.weights Tryz.prog 22, n ≤ reachBytes) :
    ∃ rs : List Rw, RdW W v rs ∧ rs.length ≤ reachBytes ∧ (∀ i, i < rs.length → (Lit.int .i64 rs[i]!.1).wf = true) ∧ (∀ i, i < rs.length → rs[i]!.2.length ≤ reachBytes) ∧ ∀ a n c, v = .slice a n c → n ≤ c := by
  obtain ⟨a0, len, cap, rfl⟩ := okWide_slice Tryz.underlying22 hv'
  obtain ⟨fuel, hf⟩ := h
  rcases open_slice Tryz.underlying22 (by simpa [Value.cells] using hf) with ⟨e, _⟩ | ⟨a, len, cap, m, n, D, Pl, e, _, hlc, hcm, hm, hD, hx⟩
  · cases e
    exact ⟨[], ⟨none, 0, rfl, fun i hi => absurd hi (Nat.not_lt_zero _)⟩, Nat.zero_le _, fun i hi => absurd hi (Nat.not_lt_zero _), fun i hi => absurd hi (Nat.not_lt_zero _), fun a n c e => by cases e; exact Nat.le_refl _⟩
  · cases e
    rw [if_pos rfl] at hm
    subst hm
    have hd : d = .slice ((List.range len).map D) ((List.range (m - len)).map fun j => D (len + j)) := congrArg Prod.fst hD
    subst hd
    have hw0 := hw ((((List.range len).map D).length + ((List.range (m - len)).map fun j => D (len + j)).length) * Tryz.prog.bytesOf 43) (by simp [DataW.weights, Tryz.underlying22])
    rw [Tryz.bytesR] at hw0
    simp only [List.length_map, List.length_range] at hw0
    have hy : ∀ i, i < len → ∃ y : Rw, (∃ u, W.cell? (a.add (i * 2)) = some (.int .i64 y.1) ∧ W.cell? ((a.add (i * 2)).add 1) = some u ∧ RdI W u y.2) ∧ (Lit.int .i64 y.1).wf = true ∧ y.2.length ≤ reachBytes := by
      intro i hi
      obtain ⟨cs, hc, ht⟩ := hx i (by omega)
      obtain ⟨z0, z1, k, hz, hl1, j0, j1⟩ := trod_struct2 Tryz.underlying43 ht
      rw [Tryz.cells43] at hl1 hc
      match cs, hl1 with
      | [c0, c1], _ =>
        obtain ⟨x, e5, _, wx⟩ := DataW.trod_int Tryz.underlying3 j0
        obtain ⟨u, l, e6, rl, ll⟩ := trod22 j1
        have j2 := j1
        rw [e6] at j2
        simp [Tryz.cells3, Tryz.cells41] at e5 e6
        subst e5 e6
        obtain ⟨_, _, hcc⟩ := World.cells?_some hc
        have q0 := hcc 0 (by omega)
        have q1 := hcc 1 (by omega)
        refine ⟨(x, l), ⟨_, by simpa [Addr.add] using q0, by simpa using q1, rl⟩, wx, trodI_sz j2 rl (fun n hn => hw n ?_)⟩
        have hz' : D i = .agg [z0.1, z1.1] := congrArg Prod.fst hz
        simp only [DataW.weights, Tryz.underlying22, List.mem_cons, List.mem_append]
        refine .inr (.inl (weights_in (d := D i) (List.mem_map.2 ⟨i, List.mem_range.2 hi, rfl⟩) n ?_))
        rw [hz']
        simp only [DataW.weights, Tryz.underlying43, List.map_cons, List.map_nil, DataW.weightsEach, List.mem_append]
        exact .inr (.inl hn)
    obtain ⟨Y, hY⟩ := choose_lt (α := Rw) (p := fun i y => (∃ u, W.cell? (a.add (i * 2)) = some (.int .i64 y.1) ∧ W.cell? ((a.add (i * 2)).add 1) = some u ∧ RdI W u y.2) ∧ (Lit.int .i64 y.1).wf = true ∧ y.2.length ≤ reachBytes) hy
    have hg : ∀ i, i < len → ((List.range len).map Y)[i]! = Y i := by
      intro i hi
      rw [getElem!_pos _ i (by simpa using hi)]; simp
    refine ⟨(List.range len).map Y, ⟨some a, m, by simp, fun i hi => ?_⟩, by simp; omega, fun i hi => ?_, fun i hi => ?_, fun a n c e => by cases e; exact hlc⟩
    · have hi' : i < len := by simpa using hi
      obtain ⟨⟨u0, q0, _⟩, _⟩ := hY 0 (by omega)
      have ha : a = ⟨a.block, a.off, none⟩ := spot_none (by simpa [Addr.add] using q0)
      obtain ⟨⟨u, q1, q2, q3⟩, _⟩ := hY i hi'
      rw [hg i hi']
      rw [ha, Addr.add_lit] at q1
      rw [ha, Addr.add_lit, Addr.add_lit] at q2
      exact ⟨a.block, a.off, u, by rw [← ha], q1, q2, q3⟩
    · have hi' : i < len := by simpa using hi
      rw [hg i hi']; exact (hY i hi').2.1
    · have hi' : i < len := by simpa using hi
      rw [hg i hi']; exact (hY i hi').2.2
end Go.Proofs.YtepjbdklljlecaaGreat

/- slices.Clone and slices.SortFunc at hits (the shelf's contracts, laid at this program); List. -/
namespace Go.Proofs.YtepjbdklljlecaaGreat.Tk
open Go.Shelf Go.RowKit Go.Lib Go.Sort
shelf_lay_g SlLaysF0.n6 Slsf 6 at Tryz 111 as Tryz.laidSort
shelf_lay_g SlLaysE0.n41 Slgn 41 at Tryz 110 as Tryz.laidClone

/-- Hits in their order. -/
def srt (l : List Ht) : List Ht := l.mergeSort fun x y => !hlt y x
theorem srt_perm (l : List Ht) : (srt l).Perm l := List.mergeSort_perm _ _
theorem srt_len (l : List Ht) : (srt l).length = l.length := (srt_perm l).length_eq

theorem swoH : SWO (ltOf cf) := ⟨hlt_irrefl, fun _ _ _ => hlt_trans, fun _ _ _ => hlt_ntrans⟩
theorem cmpH (blk off size : Nat) (w : World) : CmpLays Tryz.prog 112 #[] enc 3 cf blk off size w := fun _ _ _ _ x y => order_c x y _

theorem gr_grow (w : World) (os : Array Obj) : Gr w (grow w os) := ⟨rfl, rfl, rfl, by rw [size_grow]; omega, fun _ hk => heap_grow_old _ _ hk⟩
theorem clone28 {w : World} {g n cap : Nat} {d : Array Ht} (h : Own w (.slice (some ⟨g, 0, none⟩) n cap) d) (hs : d.size = n) (hn : n ≤ 4000) :
    Calls Tryz.prog 110 #[.slice (some ⟨g, 0, none⟩) n cap] w fun e w' => ∃ g' cap', e = .returned (.slice (some ⟨g', 0, none⟩) n cap') ∧ w.heap.size ≤ g' ∧ Own w' (.slice (some ⟨g', 0, none⟩) n cap') d ∧ Gr w w' := by
  obtain ⟨i0, z0, hi0, hz0, hz1, hz2, hz3⟩ := info68
  have hc := AnyE.slices_Clone Tryz.laidClone i0 z0 3 24 hi0 hz0 hz1 hz2 hz3 (by omega) Tryz.sizeOf68 g 0 n cap (fl d.toList) w (by rw [fl_len]; simp [hs]) (by simp only [maxLen]; omega) (by omega)
    (fun j u hu => by have := h.cells (g := g) rfl j u hu; rwa [Addr.add_lit] at this) (fl_one_cell _)
  change Calls Tryz.prog 110 _ _ _ at hc
  refine hc.mono ?_
  rintro e w' ⟨v', rfl, ho, hv, hb⟩
  rcases ho.2 with ⟨h1, _⟩ | ⟨g', cap', cur, rfl, hb', hh, r⟩
  · exact absurd h1 hv
  · refine ⟨g', cap', rfl, hb', ?_, hb⟩
    unfold Own
    rw [hs]
    exact ⟨ho.1, .inr ⟨g', cap', cur, rfl, Nat.zero_le _, hh, r⟩⟩
theorem clone28_nil (w : World) : Calls Tryz.prog 110 #[.slice none 0 0] w fun e w' => e = .returned (.slice none 0 0) ∧ w' = w := by
  have hc := AnyE.slices_Clone_nil Tryz.laidClone 0 0 w
  exact hc

theorem sort29 {w : World} {g n cap : Nat} {d : Array Ht} (h : Own w (.slice (some ⟨g, 0, none⟩) n cap) d) (hs : d.size = n) (hn : n ≤ 4000) :
    Calls Tryz.prog 111 #[.slice (some ⟨g, 0, none⟩) n cap, .func (.func 112) #[] #[]] w fun e w' => e = .returned (.tuple #[]) ∧ Own w' (.slice (some ⟨g, 0, none⟩) n cap) (srt d.toList).toArray ∧ Kp (fun b => b = g) w w' := by
  subst hs
  have eg : ∀ args w, (callFunc 112 args).run Tryz.prog w = .ok (.enter 112 args) w := enters_of Tryz.func112 (by kernel_rfl) rfl
  have hc := AnyQ.slices_SortFunc_total Tryz.laidSort 3 Tryz.isAgg68 Tryz.sizeOf68 enc enc_len enc_one cf swoH 112 #[] g 0 cap d w eg (cmpH g 0 d.size w) (own_holds h) (own_lt h rfl) (by omega) (fun x y h1 h2 => hlt_tot h1 h2)
  change Calls Tryz.prog 111 _ _ _ at hc
  refine hc.mono ?_
  rintro e w' ⟨rfl, q, os, rfl⟩
  have hsz : ((d.toList.mergeSort fun x y => !(ltOf cf) y x).toArray).size = d.size := by simp
  refine ⟨rfl, ?_, ?_⟩
  · exact own_gr (own_put h q _ hsz) (gr_grow _ _)
  · exact (Kp.put w _).trans (Kp.of_gr (gr_grow _ _))
theorem sort29_nil (fv : Value) (w : World) : Calls Tryz.prog 111 #[.slice none 0 0, fv] w fun e w' => e = .returned (.tuple #[]) ∧ w' = w := by
  have hc := AnyF.slices_SortFunc_none Tryz.laidSort none 0 fv w
  exact hc

/-- A list that came out: its hits, in memory of its own. -/
def Out (w w' : World) (v : Value) (l : List Ht) : Prop := Own w' v l.toArray ∧ Gr w w' ∧ ∀ g, v.ownBlock = some g → w.heap.size ≤ g

set_option maxHeartbeats 2000000 in
theorem list16 {w : World} {hb : Nat} {k : Int} {v : Value} {d : Array Ht} (h : Hp w hb k v d) (hn : d.size ≤ 4000) :
    Calls Tryz.prog 78 #[.pointer (some ⟨hb, 0, none⟩)] w fun e w' => ∃ v', e = .returned v' ∧ Out w w' v' (srt d.toList) := by
  have c1 := h.cell1
  have H : Hid (Own w v d ∧ d.size ≤ 4000) := ⟨h.own, hn⟩
  rcases h.own.2 with ⟨rfl, h0⟩ | ⟨g, cap, cur, rfl, _⟩
  · have D : Hid (d = #[]) := Array.eq_empty_of_size_eq_zero h0
    clear h hn h0
    go_enter Tryz.func78, Tryz.ntmps78
    go_wp2_with fail
    refine (clone28_nil _).mono ?_
    rintro e w' ⟨rfl, e2⟩
    subst e2
    go_wp2_with fail
    refine (sort29_nil _ _).mono ?_
    rintro e w2 ⟨rfl, e2⟩
    subst e2
    go_wp2
    go_ret
    refine ⟨.slice none 0 0, rfl, ?_, Below.refl _ _, by simp [Value.ownBlock]⟩
    rw [D.out, show srt (#[] : Array Ht).toList = [] by simp [srt]]
    exact own_nil _
  · obtain ⟨n, hN⟩ : ∃ n, n = d.size := ⟨_, rfl⟩
    have N : Hid (d.size = n) := hN.symm
    rw [← hN] at c1
    have H2 : Hid (Own w (.slice (some ⟨g, 0, none⟩) n cap) d ∧ n ≤ 4000) := by rw [hN]; exact H
    clear h hn hN H
    go_enter Tryz.func78, Tryz.ntmps78
    go_wp2_with fail
    refine (clone28 H2.out.1 N.out H2.out.2).mono ?_
    rintro e w1 ⟨g', cap', rfl, hg, ho, hG⟩
    have X : Hid (Own w1 (.slice (some ⟨g', 0, none⟩) n cap') d ∧ Gr w w1 ∧ w.heap.size ≤ g') := ⟨ho, hG, hg⟩
    clear hg ho hG c1
    go_wp2_with fail
    refine (sort29 X.out.1 N.out H2.out.2).mono ?_
    rintro e w2 ⟨rfl, ho, hK⟩
    have Y : Hid (Own w2 (.slice (some ⟨g', 0, none⟩) n cap') (srt d.toList).toArray ∧ Kp (fun b => b = g') w1 w2) := ⟨ho, hK⟩
    clear ho hK
    go_wp2
    go_ret
    refine ⟨.slice (some ⟨g', 0, none⟩) n cap', rfl, Y.out.1, X.out.2.1.trans (Y.out.2.gr X.out.2.1.size (fun k e => by rw [e]; exact X.out.2.2)), ?_⟩
    intro g2 e
    simp [Value.ownBlock] at e
    rw [← e]; exact X.out.2.2
end Go.Proofs.YtepjbdklljlecaaGreat.Tk

/- Sorted lists of hits, plainly: a hit more, the first k. -/
namespace Go.Proofs.YtepjbdklljlecaaGreat.Tk
open Go.RowKit Go.Sort

/-- None behind a later one. -/
def Srtd (l : List Ht) : Prop := l.Pairwise fun x y => hlt y x = false
theorem srt_srtd (l : List Ht) : Srtd (srt l) := by
  have h := List.pairwise_mergeSort (le := fun x y => !hlt y x) (fun a b c h1 h2 => by
    simp only [Bool.not_eq_true'] at *; exact hlt_ntrans h2 h1) (fun a b => by
    cases h : hlt b a
    · simp
    · simp [hlt_asymm h]) l
  exact h.imp (fun h => by simpa using h)
theorem srtd_unique : ∀ (l l' : List Ht), Srtd l → Srtd l' → l.Perm l' → l = l'
  | [], l', _, _, p => (List.Perm.nil_eq p)
  | a :: r, [], _, _, p => absurd p.length_eq (by simp)
  | a :: r, b :: r', h, h', p => by
    have hb : b ∈ a :: r := p.symm.subset List.mem_cons_self
    have ha : a ∈ b :: r' := p.subset List.mem_cons_self
    have e : a = b := by
      rcases List.mem_cons.1 hb with e | hb
      · exact e.symm
      rcases List.mem_cons.1 ha with e | ha
      · exact e
      have h1 := List.rel_of_pairwise_cons h hb
      have h2 := List.rel_of_pairwise_cons h' ha
      exact hlt_tot h2 h1
    subst e
    rw [srtd_unique r r' (List.Pairwise.of_cons h) (List.Pairwise.of_cons h') (List.Perm.cons_inv p)]
theorem srt_of_perm {l m : List Ht} (h : Srtd m) (p : l.Perm m) : srt l = m := srtd_unique _ _ (srt_srtd l) h ((srt_perm l).trans p)

/-- A sorted list with one more. -/
def ins (x : Ht) : List Ht → List Ht
  | [] => [x]
  | y :: r => if hlt x y = true then x :: y :: r else y :: ins x r
theorem ins_perm (x : Ht) : ∀ l, (ins x l).Perm (x :: l)
  | [] => List.Perm.refl _
  | y :: r => by
    unfold ins
    split
    · exact List.Perm.refl _
    · exact ((ins_perm x r).cons y).trans (List.Perm.swap x y r)
theorem ins_len (x : Ht) (l : List Ht) : (ins x l).length = l.length + 1 := by rw [(ins_perm x l).length_eq]; rfl
theorem ins_srtd (x : Ht) : ∀ l, Srtd l → Srtd (ins x l)
  | [], _ => List.pairwise_singleton _ _
  | y :: r, h => by
    unfold ins
    split
    · rename_i hx
      refine List.Pairwise.cons ?_ h
      intro z hz
      rcases List.mem_cons.1 hz with rfl | hz
      · exact hlt_asymm hx
      · exact hlt_ntrans (List.rel_of_pairwise_cons h hz) (hlt_asymm hx)
    · rename_i hx
      refine List.Pairwise.cons ?_ (ins_srtd x r (List.Pairwise.of_cons h))
      intro z hz
      rcases List.mem_cons.1 ((ins_perm x r).subset hz) with rfl | hz
      · simpa using hx
      · exact List.rel_of_pairwise_cons h hz
theorem srt_snoc (l : List Ht) (x : Ht) : srt (l ++ [x]) = ins x (srt l) := by
  refine srt_of_perm (ins_srtd x _ (srt_srtd l)) ?_
  refine List.Perm.trans ?_ (ins_perm x _).symm
  exact (List.perm_append_singleton x l).trans ((srt_perm l).symm.cons x)

/-- A heap's hits behind one more. -/
def keep (k : Nat) (m : List Ht) (x : Ht) : List Ht := (ins x m).take k
def kept (k : Nat) (m : List Ht) (x : Ht) : Bool := decide (m.length < k) || hlt x m[k - 1]!
theorem take_ins (x : Ht) : ∀ (k : Nat) (l : List Ht), (ins x l).take k = (ins x (l.take k)).take k
  | 0, _ => by simp
  | k + 1, [] => by simp
  | k + 1, y :: r => by
    simp only [List.take_succ_cons]
    unfold ins
    split
    · simp only [List.take_succ_cons]
      cases k with
      | zero => simp
      | succ k => simp [List.take_succ_cons, List.take_take, Nat.min_eq_left (Nat.le_succ k)]
    · simp only [List.take_succ_cons]
      rw [take_ins x k r]
/-- The first k of some hits. -/
def firsts (k : Nat) (l : List Ht) : List Ht := (srt l).take k
theorem firsts_snoc (k : Nat) (l : List Ht) (x : Ht) : firsts k (l ++ [x]) = keep k (firsts k l) x := by
  unfold firsts keep
  rw [srt_snoc, take_ins]
theorem firsts_nil (k : Nat) : firsts k [] = [] := by simp [firsts, srt]
theorem firsts_srtd (k : Nat) (l : List Ht) : Srtd (firsts k l) := (srt_srtd l).sublist (List.take_sublist k _)
theorem firsts_perm (k : Nat) {l l' : List Ht} (p : l.Perm l') : firsts k l = firsts k l' := by
  unfold firsts; rw [srt_of_perm (srt_srtd l') (p.trans (srt_perm l').symm)]
theorem keep_srtd (k : Nat) {m : List Ht} (x : Ht) (h : Srtd m) : Srtd (keep k m x) := (ins_srtd x m h).sublist (List.take_sublist k _)
theorem keep_more {k : Nat} {m : List Ht} (x : Ht) (h : m.length < k) : keep k m x = ins x m := by
  unfold keep; rw [List.take_of_length_le (by rw [ins_len]; omega)]
theorem last_worst {m : List Ht} (h : Srtd m) (k : Nat) (hk : m.length = k) : ∀ y ∈ m, hlt m[k - 1]! y = false := by
  intro y hy
  subst hk
  obtain ⟨i, hi, rfl⟩ := List.mem_iff_getElem.1 hy
  rw [getElem!_pos m (m.length - 1) (by omega)]
  by_cases e : i = m.length - 1
  · subst e; exact hlt_irrefl _
  · exact List.pairwise_iff_getElem.1 h i (m.length - 1) hi (by omega) (by omega)
theorem ins_no (x : Ht) : ∀ (m : List Ht), (∀ y ∈ m, hlt x y = false) → ins x m = m ++ [x]
  | [], _ => rfl
  | y :: r, h => by
    unfold ins
    rw [if_neg (by rw [h y List.mem_cons_self]; simp), ins_no x r (fun z hz => h z (List.mem_cons_of_mem _ hz))]
    rfl
theorem keep_no {k : Nat} {m : List Ht} {x : Ht} (hs : Srtd m) (h : m.length = k) (hx : hlt x m[k - 1]! = false) : keep k m x = m := by
  unfold keep
  rw [ins_no x m (fun y hy => hlt_ntrans hx (last_worst hs k h y hy)), List.take_append_of_le_length (by omega), List.take_of_length_le (by omega)]
theorem ins_app (x : Ht) (z : Ht) (hx : hlt x z = true) : ∀ (m : List Ht), ins x (m ++ [z]) = ins x m ++ [z]
  | [] => by simp [ins, hx]
  | y :: r => by
    simp only [List.cons_append]
    unfold ins
    split
    · rfl
    · rw [ins_app x z hx r]; rfl
theorem keep_repl {k : Nat} {m : List Ht} {x : Ht} (hk : 0 < k) (h : m.length = k) (hx : hlt x m[k - 1]! = true) : (keep k m x).Perm (x :: m.dropLast) := by
  have hne : m ≠ [] := by intro e; subst e; simp at h; omega
  obtain ⟨a, z, rfl⟩ : ∃ a z, m = a ++ [z] := ⟨m.dropLast, m.getLast hne, (List.dropLast_concat_getLast hne).symm⟩
  simp only [List.length_append, List.length_cons, List.length_nil] at h
  have e : (a ++ [z])[k - 1]! = z := by
    rw [getElem!_pos (a ++ [z]) (k - 1) (by simp; omega), List.getElem_append_right (by omega)]
    simp
  rw [e] at hx
  have hl : (ins x a).length = k := by rw [ins_len]; omega
  unfold keep
  rw [ins_app x z hx, List.take_append_of_le_length (by rw [hl]; exact Nat.le_refl _), List.take_of_length_le (by rw [hl]; exact Nat.le_refl _), List.dropLast_concat]
  exact ins_perm x _
end Go.Proofs.YtepjbdklljlecaaGreat.Tk

/- What flat answers, plainly: the hits of rows, their errors, the first k. -/
namespace Go.Proofs.YtepjbdklljlecaaGreat
open Go.RowKit Go.Sort

/-- A row's hit for q; all rows'. -/
abbrev hitOf (q : List Int) (r : Rw) : Tk.Ht := (r.1, hi (dst q r.2), lo (dst q r.2))
def hitsOf (q : List Int) (rs : List Rw) : List Tk.Ht := rs.map (hitOf q)
/-- What flat.Check answers; checkAll; begin; Search. -/
def flatE (rs : List Rw) (d : Int) : Int := if 1 ≤ d ∧ d ≤ 64 then idsE rs d else 30
theorem chk_is (l : List Int) (d : Int) : chk l d = 0 ∨ chk l d = 30 ∨ chk l d = 31 := by
  unfold chk vErr; (repeat' split) <;> simp
theorem rowE_is (rs : List Rw) (d : Int) (i : Nat) : rowE rs d i = 0 ∨ rowE rs d i = 30 ∨ rowE rs d i = 31 ∨ rowE rs d i = 50 := by
  unfold rowE
  split
  · rcases chk_is rs[i]!.2 d with h | h | h
    · exact .inl h
    · exact .inr (.inl h)
    · exact .inr (.inr (.inl h))
  · exact .inr (.inr (.inr rfl))
theorem rowsTo_is (rs : List Rw) (d : Int) : ∀ q, rowsTo rs d q = 0 ∨ rowsTo rs d q = 30 ∨ rowsTo rs d q = 31 ∨ rowsTo rs d q = 50
  | 0 => .inl rfl
  | q + 1 => by
    rw [rowsTo]
    split
    · exact rowE_is rs d q
    · exact rowsTo_is rs d q
theorem idsE_ne (rs : List Rw) (d : Int) : idsE rs d ≠ 1 := by
  unfold idsE
  split
  · rcases rowsTo_is rs d rs.length with h | h | h | h <;> rw [h] <;> decide
  · decide
theorem idsE_nil (d : Int) : idsE [] d = 0 := rfl
theorem flatE_box (rs : List Rw) (d : Int) : flatE rs d = if boxE rs d = 1 then 0 else boxE rs d := by
  unfold flatE boxE
  by_cases h : 1 ≤ d ∧ d ≤ 64
  · rw [if_pos h, if_pos h]
    by_cases h0 : rs.length = 0
    · obtain rfl := List.length_eq_zero_iff.1 h0
      rw [if_pos h0]; simp [idsE_nil]
    · rw [if_neg h0, if_neg (idsE_ne rs d)]
  · rw [if_neg h, if_neg h]; decide

theorem rowsTo_zero {rs : List Rw} {d : Int} : ∀ q, rowsTo rs d q = 0 ↔ ∀ i, i < q → rowE rs d i = 0
  | 0 => ⟨fun _ i hi => absurd hi (Nat.not_lt_zero _), fun _ => rfl⟩
  | q + 1 => by
    rw [rowsTo]
    constructor
    · intro h
      split at h
      · rename_i h0
        intro i hi
        by_cases e : i = q
        · subst e; exact h
        · exact (rowsTo_zero q).1 h0 i (by omega)
      · rename_i h0; exact absurd h h0
    · intro h
      rw [if_pos ((rowsTo_zero q).2 fun i hi => h i (by omega))]
      exact h q (by omega)
/-- Rows that may be. -/
structure RowsOk (rs : List Rw) (d : Int) : Prop where
  few : rs.length ≤ 512
  ids : (idsOf rs).Pairwise (· ≠ ·)
  row : ∀ r ∈ rs, okId r.1 = true ∧ chk r.2 d = 0
theorem rowE_zero {rs : List Rw} {d : Int} {i : Nat} : rowE rs d i = 0 ↔ ((idsOf rs).take i).contains rs[i]!.1 = false ∧ okId rs[i]!.1 = true ∧ chk rs[i]!.2 d = 0 := by
  unfold rowE
  split
  · rename_i h; exact ⟨fun e => ⟨h.1, h.2, e⟩, fun e => e.2.2⟩
  · rename_i h; exact ⟨fun e => by simp at e, fun e => absurd ⟨e.1, e.2.1⟩ h⟩
theorem ids_get {rs : List Rw} {i : Nat} (hi : i < rs.length) : (idsOf rs)[i]'(by simpa [idsOf] using hi) = rs[i]!.1 := by
  rw [getElem!_pos rs i hi]; simp [idsOf]
theorem idsE_zero {rs : List Rw} {d : Int} : idsE rs d = 0 ↔ RowsOk rs d := by
  unfold idsE
  constructor
  · intro h
    split at h
    · rename_i hn
      have h1 := (rowsTo_zero _).1 h
      refine ⟨hn, ?_, fun r hr => ?_⟩
      · rw [List.pairwise_iff_getElem]
        intro i j hi hj hij e
        have hi' : i < rs.length := by simpa [idsOf] using hi
        have hj' : j < rs.length := by simpa [idsOf] using hj
        have h2 := (rowE_zero.1 (h1 j hj')).1
        rw [← ids_get hj', ← e] at h2
        have : ((idsOf rs).take j).contains (idsOf rs)[i] = true := by
          rw [List.contains_iff_mem]
          exact List.mem_iff_getElem.2 ⟨i, by simp [idsOf]; omega, by simp⟩
        rw [this] at h2; cases h2
      · obtain ⟨i, hi, rfl⟩ := List.mem_iff_getElem.1 hr
        have h2 := rowE_zero.1 (h1 i hi)
        rw [getElem!_pos rs i hi] at h2
        exact h2.2
    · cases h
  · rintro ⟨h1, h2, h3⟩
    rw [if_pos h1, rowsTo_zero]
    intro i hi
    have h4 := h3 rs[i] (List.getElem_mem hi)
    rw [rowE_zero, getElem!_pos rs i hi]
    refine ⟨?_, h4⟩
    rw [← Bool.not_eq_true, List.contains_iff_mem]
    intro hm
    obtain ⟨j, hj, e⟩ := List.mem_iff_getElem.1 hm
    have hji : j < i := by have := hj; simp at this; omega
    have := List.pairwise_iff_getElem.1 h2 j i (by simp [idsOf]; omega) (by simp [idsOf]; omega) hji
    apply this
    rw [List.getElem_take] at e
    rw [e, ids_get hi, getElem!_pos rs i hi]
theorem RowsOk.perm {rs rs' : List Rw} {d : Int} (h : RowsOk rs d) (p : rs.Perm rs') : RowsOk rs' d :=
  ⟨by rw [← p.length_eq]; exact h.few, (List.Perm.pairwise_iff (fun h => Ne.symm h) (p.map _)).1 h.ids, fun r hr => h.row r (p.mem_iff.2 hr)⟩
theorem RowsOk.sub {rs rs' : List Rw} {d : Int} (h : RowsOk rs d) (p : rs'.Sublist rs) : RowsOk rs' d :=
  ⟨Nat.le_trans p.length_le h.few, h.ids.sublist (p.map _), fun r hr => h.row r (p.subset hr)⟩
theorem flatE_zero {rs : List Rw} {d : Int} : flatE rs d = 0 ↔ (1 ≤ d ∧ d ≤ 64) ∧ RowsOk rs d := by
  unfold flatE
  split
  · rename_i h; rw [idsE_zero]; exact ⟨fun e => ⟨h, e⟩, fun e => e.2⟩
  · rename_i h; exact ⟨fun e => by simp at e, fun e => absurd e.1 h⟩
end Go.Proofs.YtepjbdklljlecaaGreat

/- The reference's With: a rising list with one more. -/
namespace Go.Proofs.YtepjbdklljlecaaGreat
open Go.RowKit Go.Sort Go.Maps

def SrtI (l : List Int) : Prop := l.Pairwise fun x y => x ≤ y
theorem srt_perm (l : List Int) : (srt l).Perm l := List.mergeSort_perm l _
theorem srt_srtI (l : List Int) : SrtI (srt l) := by
  have h := List.pairwise_mergeSort (le := fun x y : Int => decide (x ≤ y)) (fun a b c h1 h2 => by
    simp only [decide_eq_true_eq] at *; omega) (fun a b => by
    by_cases h : a ≤ b
    · simp [h]
    · have : b ≤ a := by omega
      simp [this]) l
  exact h.imp (fun h => by simpa using h)
theorem srtI_unique : ∀ (l l' : List Int), SrtI l → SrtI l' → l.Perm l' → l = l'
  | [], l', _, _, p => (List.Perm.nil_eq p)
  | a :: r, [], _, _, p => absurd p.length_eq (by simp)
  | a :: r, b :: r', h, h', p => by
    have hb : b ∈ a :: r := p.symm.subset List.mem_cons_self
    have ha : a ∈ b :: r' := p.subset List.mem_cons_self
    have e : a = b := by
      rcases List.mem_cons.1 hb with e | hb
      · exact e.symm
      rcases List.mem_cons.1 ha with e | ha
      · exact e
      have h1 := List.rel_of_pairwise_cons h hb
      have h2 := List.rel_of_pairwise_cons h' ha
      omega
    subst e
    rw [srtI_unique r r' (List.Pairwise.of_cons h) (List.Pairwise.of_cons h') (List.Perm.cons_inv p)]
def insI (x : Int) : List Int → List Int
  | [] => [x]
  | y :: r => if y < x then y :: insI x r else x :: y :: r
theorem insI_perm (x : Int) : ∀ l, (insI x l).Perm (x :: l)
  | [] => List.Perm.refl _
  | y :: r => by
    unfold insI
    split
    · exact ((insI_perm x r).cons y).trans (List.Perm.swap x y r)
    · exact List.Perm.refl _
theorem insI_len (x : Int) (l : List Int) : (insI x l).length = l.length + 1 := by rw [(insI_perm x l).length_eq]; rfl
theorem insI_srtI (x : Int) : ∀ l, SrtI l → SrtI (insI x l)
  | [], _ => List.pairwise_singleton _ _
  | y :: r, h => by
    unfold insI
    split
    · rename_i hx
      refine List.Pairwise.cons ?_ (insI_srtI x r (List.Pairwise.of_cons h))
      intro z hz
      rcases List.mem_cons.1 ((insI_perm x r).subset hz) with rfl | hz
      · omega
      · exact List.rel_of_pairwise_cons h hz
    · rename_i hx
      refine List.Pairwise.cons ?_ h
      intro z hz
      rcases List.mem_cons.1 hz with rfl | hz
      · omega
      · have := List.rel_of_pairwise_cons h hz; omega
theorem srt_snocI (l : List Int) (x : Int) : srt (l ++ [x]) = insI x (srt l) := by
  refine srtI_unique _ _ (srt_srtI _) (insI_srtI x _ (srt_srtI l)) ?_
  refine (srt_perm _).trans (List.Perm.trans ?_ (insI_perm x _).symm)
  exact (List.perm_append_singleton x l).trans ((srt_perm l).symm.cons x)
theorem insI_at (x : Int) : ∀ (l : List Int) (q : Nat), (∀ i, i < q → l[i]! < x) → q ≤ l.length → (q < l.length → ¬ l[q]! < x) → insI x l = l.take q ++ [x] ++ l.drop q
  | [], q, _, hq, _ => by
    obtain rfl : q = 0 := by simpa using hq
    rfl
  | y :: r, 0, _, _, h => by
    have := h (by simp)
    simp only [List.getElem!_cons_zero] at this
    unfold insI
    rw [if_neg this]; rfl
  | y :: r, q + 1, h1, h2, h3 => by
    have h0 := h1 0 (by omega)
    simp only [List.getElem!_cons_zero] at h0
    unfold insI
    rw [if_pos h0, insI_at x r q (fun i hi => by have := h1 (i + 1) (by omega); simpa using this) (by simpa using h2) (fun hq => by have := h3 (by simpa using hq); simpa using this)]
    rfl
theorem news_take {w : World} {g cap : Nat} {l : List Int} (h : RdI w (.slice (some ⟨g, 0, none⟩) l.length cap) l) (q : Nat) : ∀ j u, ((l.take q).map (Value.int .i64))[j]? = some u → w.cell? ((⟨g, 0, none⟩ : Addr).add j) = some u := by
  intro j u hj
  rw [List.getElem?_map] at hj
  obtain ⟨y, hy, rfl⟩ := Option.map_eq_some_iff.1 hj
  obtain ⟨hjl, hy⟩ := List.getElem?_eq_some_iff.1 hy
  obtain ⟨a', c', e, ha⟩ := h
  cases e
  have hj' : j < l.length := by rw [List.length_take] at hjl; omega
  obtain ⟨b', o', e, hc⟩ := ha j hj'
  cases e
  rw [Addr.add_lit, hc, getElem!_pos l j hj', ← hy]; simp
theorem news_drop {w : World} {g cap : Nat} {l : List Int} (h : RdI w (.slice (some ⟨g, 0, none⟩) l.length cap) l) (q : Nat) : ∀ j u, ((l.drop q).map (Value.int .i64))[j]? = some u → w.cell? ((⟨g, q, none⟩ : Addr).add j) = some u := by
  intro j u hj
  rw [List.getElem?_map] at hj
  obtain ⟨y, hy, rfl⟩ := Option.map_eq_some_iff.1 hj
  obtain ⟨hjl, hy⟩ := List.getElem?_eq_some_iff.1 hy
  obtain ⟨a', c', e, ha⟩ := h
  cases e
  have hj' : q + j < l.length := by rw [List.length_drop] at hjl; omega
  obtain ⟨b', o', e, hc⟩ := ha (q + j) hj'
  cases e
  rw [Nat.zero_add] at hc
  rw [Addr.add_lit, hc, getElem!_pos l (q + j) hj', ← hy]; simp

theorem rwith_gb {w W w1 w2 : World} {o : Obj} {v1 : Value} {n : Nat} {xs : List Value} (G : Gb w W) (h1 : W.grownBy w1 (Value.ownBlock (.slice none 0 0))) (ho : w1.ownsRow w.heap.size 3 1 v1 n xs) (h2 : (w1.alloc o).grownBy w2 v1.ownBlock) : Gb w w2 := by
  have g1 : Gb w w1 := below_grown G h1 (fun k e => by cases e) G.size
  exact below_grown (gb_alloc g1 o) h2 (fun k e => (ho.lt k e).1) (gb_alloc g1 o).size
theorem rwith_fin {w w2 w3 : World} {v2 v3 : Value} {n m q : Nat} {xs : List Value} {x : Int} {l : List Int} (G : Gb w w2) (h3 : w3.ownsRow w.heap.size 3 1 v3 (n + m) ([] ++ (l.take q).map (Value.int .i64) ++ [.int .i64 x] ++ (l.drop q).map (Value.int .i64)))
    (h2 : w2.ownsRow w.heap.size 3 1 v2 n xs) (hg : w2.grownBy w3 v2.ownBlock) (hi : insI x l = l.take q ++ [x] ++ l.drop q) (hs : n + m = l.length + 1) : Own w3 w.heap.size v3 (insI x l) ∧ Gb w w3 := by
  refine ⟨?_, below_grown G hg (fun k e => (h2.lt k e).1) G.size⟩
  unfold Own
  rw [insI_len, ← hs, hi]
  simpa using h3

set_option maxHeartbeats 4000000 in
set_option maxRecDepth 100000 in
theorem rwith_c {w : World} {B : Nat} {v : Value} {l : List Int} (h : Own w B v l) (hn : l.length ≤ 4000) (x : Int) :
    Calls Tryz.prog 137 #[v, .int .i64 x] w fun e w' => ∃ v', e = .returned v' ∧ Own w' w.heap.size v' (insI x l) ∧ Gb w w' := by
  obtain ⟨i0, hi, hz0, hz1, hz2⟩ := info_parts Tryz.info3
  have II : Hid (Tryz.prog.info? 3 = some i0 ∧ i0.zero = some (.int .i64 0) ∧ i0.size = 1 ∧ i0.bytes = 8) := ⟨hi, hz0, hz1, hz2⟩
  clear hi hz0 hz1 hz2
  rcases h.2 with ⟨rfl, h0⟩ | ⟨g, cap, cur, rfl, _, _, hnc, _⟩
  · have D : Hid (l = []) := List.eq_nil_of_length_eq_zero h0
    clear h h0 hn
    go_enter Tryz.func137, Tryz.ntmps137
    go_wp2
    refine wp_loop_rounds 1 ?_
    rw [rounds_succ]
    go_wp2_with (first
      | (at_builtin; refine wpList_append_own _ rfl _ _ 41 rfl w.heap.size 3 i0 (.int .i64 0) 1 8 Tryz.underlying41 II.out.1 II.out.2.1 II.out.2.2.1 II.out.2.2.2 rfl (by decide) (.slice none 0 0) 0 [] rfl (World.ownsRow_nil _ _ _ _) ⟨w.heap.size, 0, none⟩ 1 1 [.int .i64 x] rfl rfl (cell_one_new _ _ _) (by simp [Value.oneCell']) (by decide) (by omega) (by rw [World.size_alloc]; omega) ?_; intro v1 w1 ho1 hg1 _)
      | (at_builtin; refine wpList_append_own_none rfl _ _ 41 rfl w.heap.size 3 i0 1 Tryz.underlying41 II.out.1 v1 _ _ rfl ho1 rfl ?_))
    go_ret
    refine ⟨v1, rfl, ?_, ?_⟩
    · rw [D.out]; exact ho1
    · exact below_grown (gb_alloc (Below.refl _ _) _) hg1 (fun k e => by cases e) (by simp)
  · have LL : Hid (RdI w (.slice (some ⟨g, 0, none⟩) l.length cap) l) := h.rd
    obtain ⟨n, hN⟩ : ∃ n, n = l.length := ⟨_, rfl⟩
    have N : Hid (n = l.length) := hN
    have CC : n ≤ cap := by rw [hN]; exact hnc
    rw [← hN] at hn ⊢
    clear h hN hnc
    go_enter Tryz.func137, Tryz.ntmps137
    go_wp2
    go_loopw [5] (fun iv w' => ∃ q : Nat, iv = .int .i64 (q : Int) ∧ q ≤ n ∧ Hid ((∀ i, i < q → l[i]! < x) ∧ Gb w w')) (fun iv _ => n - (intOf iv).toNat)
    case atStart => exact ⟨0, rfl, Nat.zero_le _, ⟨fun i hi => absurd hi (Nat.not_lt_zero _), Below.refl _ _⟩⟩
    case round =>
      obtain ⟨q, rfl, hq, X⟩ := hrel
      by_cases hqn : q < n
      · have hqi : (q : Int) < (n : Int) := by omega
        obtain ⟨_, _, e, hc⟩ := LL.out
        cases e
        obtain ⟨_, _, e, hc⟩ := hc q (by have := N.out; omega)
        cases e
        rw [Nat.zero_add] at hc
        replace hc := gb_keeps X.out.2 hc
        by_cases hlt : l[q]! < x
        · have R : Hid (∀ i, i < q + 1 → l[i]! < x) := fun i hi => by
            by_cases e : i = q
            · rw [e]; exact hlt
            · exact X.out.1 i (by omega)
          generalize l[q]! = y at *
          go_wp2
          go_roundw
          case rel => exact ⟨q + 1, by simp, hqn, R.out, X.out.2⟩
          case measure => simp [intOf]; omega
        · have IA : Hid (insI x l = l.take q ++ [x] ++ l.drop q) := insI_at x _ q X.out.1 (by have := N.out; omega) (fun _ => hlt)
          generalize l[q]! = y at *
          have GW : Hid (Gb w wr) := X.out.2
          have hqc : q ≤ cap := by omega
          have hq0 : (0 : Int) ≤ (q : Int) := by omega
          have hq1 : (q : Int) ≤ (cap : Int) := by omega
          have hq2 : (q : Int) ≤ (n : Int) := by omega
          have hq3 : (n : Int) ≤ (cap : Int) := by omega
          clear X
          go_wp2_with (first
            | (at_builtin; refine wpList_append_own _ rfl _ _ 41 rfl w.heap.size 3 i0 (.int .i64 0) 1 8 Tryz.underlying41 II.out.1 II.out.2.1 II.out.2.2.1 II.out.2.2.2 rfl (by decide) (.slice none 0 0) 0 [] rfl (World.ownsRow_nil _ _ _ _) ⟨g, 0, none⟩ q cap ((l.take q).map (Value.int .i64)) rfl (by rw [List.length_map, List.length_take]; have := N.out; omega) (news_take (LL.out.gb GW.out) q) (ints_oneCell .i64 _) (by simp only [maxLen]; omega) (by omega) GW.out.size ?_; intro v1 w1 ho1 hg1 _)
            | (at_builtin; refine wpList_append_own _ rfl _ _ 41 rfl w.heap.size 3 i0 (.int .i64 0) 1 8 Tryz.underlying41 II.out.1 II.out.2.1 II.out.2.2.1 II.out.2.2.2 rfl (by decide) v1 (0 + q) ([] ++ (l.take q).map (Value.int .i64)) rfl (ho1.alloc _) ⟨w1.heap.size, 0, none⟩ 1 1 [.int .i64 x] rfl rfl (cell_one_new _ _ _) (by simp [Value.oneCell']) (by simp only [maxLen]; omega) (by omega) (by have h1 := GW.out.size; have h2 := hg1.size; simp <;> omega) ?_; intro v2 w2 ho2 hg2 _)
            | (at_builtin; refine wpList_append_own _ rfl _ _ 41 rfl w.heap.size 3 i0 (.int .i64 0) 1 8 Tryz.underlying41 II.out.1 II.out.2.1 II.out.2.2.1 II.out.2.2.2 rfl (by decide) v2 (0 + q + 1) ([] ++ (l.take q).map (Value.int .i64) ++ [.int .i64 x]) rfl ho2 ⟨g, q, none⟩ (n - q) (cap - q) ((l.drop q).map (Value.int .i64)) rfl (by rw [List.length_map, List.length_drop]; have := N.out; omega) (news_drop (LL.out.gb (rwith_gb GW.out hg1 ho1 hg2)) q) (ints_oneCell .i64 _) (by simp only [maxLen]; omega) (by omega) (rwith_gb GW.out hg1 ho1 hg2).size ?_; intro v3 w3 ho3 hg3 _)
            | go_in)
          go_ret
          exact ⟨v3, rfl, rwith_fin (rwith_gb GW.out hg1 ho1 hg2) ho3 ho2 hg3 IA.out (by have := N.out; omega)⟩
      · have hqi : ¬ (q : Int) < (n : Int) := by omega
        have IA : Hid (insI x l = l.take q ++ [x] ++ l.drop q) := insI_at x _ q X.out.1 (by have := N.out; omega) (fun h => by have := N.out; omega)
        by_cases hcap : q < cap
        · have hcap' : (q : Int) < (cap : Int) := by omega
          have GW : Hid (Gb w wr) := X.out.2
          have hqc : q ≤ cap := by omega
          have hq0 : (0 : Int) ≤ (q : Int) := by omega
          have hq1 : (q : Int) ≤ (cap : Int) := by omega
          have hq2 : (q : Int) ≤ (n : Int) := by omega
          have hq3 : (n : Int) ≤ (cap : Int) := by omega
          clear X
          go_wp2_with (first
            | (at_builtin; refine wpList_append_own _ rfl _ _ 41 rfl w.heap.size 3 i0 (.int .i64 0) 1 8 Tryz.underlying41 II.out.1 II.out.2.1 II.out.2.2.1 II.out.2.2.2 rfl (by decide) (.slice none 0 0) 0 [] rfl (World.ownsRow_nil _ _ _ _) ⟨g, 0, none⟩ q cap ((l.take q).map (Value.int .i64)) rfl (by rw [List.length_map, List.length_take]; have := N.out; omega) (news_take (LL.out.gb GW.out) q) (ints_oneCell .i64 _) (by simp only [maxLen]; omega) (by omega) GW.out.size ?_; intro v1 w1 ho1 hg1 _)
            | (at_builtin; refine wpList_append_own _ rfl _ _ 41 rfl w.heap.size 3 i0 (.int .i64 0) 1 8 Tryz.underlying41 II.out.1 II.out.2.1 II.out.2.2.1 II.out.2.2.2 rfl (by decide) v1 (0 + q) ([] ++ (l.take q).map (Value.int .i64)) rfl (ho1.alloc _) ⟨w1.heap.size, 0, none⟩ 1 1 [.int .i64 x] rfl rfl (cell_one_new _ _ _) (by simp [Value.oneCell']) (by simp only [maxLen]; omega) (by omega) (by have h1 := GW.out.size; have h2 := hg1.size; simp <;> omega) ?_; intro v2 w2 ho2 hg2 _)
            | (at_builtin; refine wpList_append_own _ rfl _ _ 41 rfl w.heap.size 3 i0 (.int .i64 0) 1 8 Tryz.underlying41 II.out.1 II.out.2.1 II.out.2.2.1 II.out.2.2.2 rfl (by decide) v2 (0 + q + 1) ([] ++ (l.take q).map (Value.int .i64) ++ [.int .i64 x]) rfl ho2 ⟨g, q, none⟩ (n - q) (cap - q) ((l.drop q).map (Value.int .i64)) rfl (by rw [List.length_map, List.length_drop]; have := N.out; omega) (news_drop (LL.out.gb (rwith_gb GW.out hg1 ho1 hg2)) q) (ints_oneCell .i64 _) (by simp only [maxLen]; omega) (by omega) (rwith_gb GW.out hg1 ho1 hg2).size ?_; intro v3 w3 ho3 hg3 _)
            | go_in)
          go_ret
          exact ⟨v3, rfl, rwith_fin (rwith_gb GW.out hg1 ho1 hg2) ho3 ho2 hg3 IA.out (by have := N.out; omega)⟩
        · have hce : q = cap := by omega
          have DR : Hid ((l.drop q).map (Value.int .i64) = []) := by
            have := N.out
            unfold Hid
            rw [List.drop_of_length_le (by omega)]; rfl
          have hne' : q = n := by omega
          subst hce
          subst hne'
          clear hcap
          have GW : Hid (Gb w wr) := X.out.2
          have hqc : q ≤ q := by omega
          have hq0 : (0 : Int) ≤ (q : Int) := by omega
          have hq1 : (q : Int) ≤ (q : Int) := by omega
          have hq2 : (q : Int) ≤ (q : Int) := by omega
          have hq3 : (q : Int) ≤ (q : Int) := by omega
          clear X
          go_wp2_with (first
            | (at_builtin; refine wpList_append_own _ rfl _ _ 41 rfl w.heap.size 3 i0 (.int .i64 0) 1 8 Tryz.underlying41 II.out.1 II.out.2.1 II.out.2.2.1 II.out.2.2.2 rfl (by decide) (.slice none 0 0) 0 [] rfl (World.ownsRow_nil _ _ _ _) ⟨g, 0, none⟩ q q ((l.take q).map (Value.int .i64)) rfl (by rw [List.length_map, List.length_take]; have := N.out; omega) (news_take (LL.out.gb GW.out) q) (ints_oneCell .i64 _) (by simp only [maxLen]; omega) (by omega) GW.out.size ?_; intro v1 w1 ho1 hg1 _)
            | (at_builtin; refine wpList_append_own _ rfl _ _ 41 rfl w.heap.size 3 i0 (.int .i64 0) 1 8 Tryz.underlying41 II.out.1 II.out.2.1 II.out.2.2.1 II.out.2.2.2 rfl (by decide) v1 (0 + q) ([] ++ (l.take q).map (Value.int .i64)) rfl (ho1.alloc _) ⟨w1.heap.size, 0, none⟩ 1 1 [.int .i64 x] rfl rfl (cell_one_new _ _ _) (by simp [Value.oneCell']) (by simp only [maxLen]; omega) (by omega) (by have h1 := GW.out.size; have h2 := hg1.size; simp <;> omega) ?_; intro v2 w2 ho2 hg2 _)
            | (at_builtin; refine wpList_append_own _ rfl _ _ 41 rfl w.heap.size 3 i0 (.int .i64 0) 1 8 Tryz.underlying41 II.out.1 II.out.2.1 II.out.2.2.1 II.out.2.2.2 rfl (by decide) v2 (0 + q + 1) ([] ++ (l.take q).map (Value.int .i64) ++ [.int .i64 x]) rfl ho2 _ 0 _ [] rfl (by simp) (by simp) (by simp) (by simp only [maxLen]; omega) (by omega) (rwith_gb GW.out hg1 ho1 hg2).size ?_; intro v3 w3 ho3 hg3 _)
            | go_in)
          go_ret
          exact ⟨v3, rfl, rwith_fin (rwith_gb GW.out hg1 ho1 hg2) (by rw [DR.out]; exact ho3) ho2 hg3 IA.out (by have := N.out; omega)⟩
end Go.Proofs.YtepjbdklljlecaaGreat

/- The source's state and what it draws: the plain functions of layer 4, and the calls that touch no state. -/
namespace Go.Proofs.YtepjbdklljlecaaGreat.Rn
open Go.RowKit Go.Shelf

/-- A number of 64 bits. -/
abbrev U (z : Int) : Prop := 0 ≤ z ∧ z < 18446744073709551616
theorem u_wrap (z : Int) : U (IntKind.u64.wrap z) := by
  rw [IntKind.wrap_u64]; exact ⟨Int.emod_nonneg _ (by decide), Int.emod_lt_of_pos _ (by decide)⟩
theorem u_bits (o : BinOp) (x y : Int) : U (bits o .u64 x y) := by
  unfold bits; exact u_wrap _
/-- P4.1: what a state becomes, and the number that it tells. -/
def stp (x : Int) : Int := IntKind.u64.wrap (x + 11400714819323198485)
def sh (z m c : Int) : Int := IntKind.u64.wrap (bits .xor .u64 z (z / m) * c)
def mx0 (z : Int) : Int := bits .xor .u64 z (z / 2147483648)
def mx (z : Int) : Int := mx0 (sh (sh z 1073741824 13787848793156543929) 134217728 10723151780598845931)
theorem u_stp (x : Int) : U (stp x) := u_wrap _
theorem u_mx (z : Int) : U (mx z) := by unfold mx mx0; exact u_bits _ _ _
/-- The state behind k draws. -/
def stN (x : Int) : Nat → Int
  | 0 => x
  | k + 1 => stp (stN x k)
theorem stN_succ (x : Int) (k : Nat) : stN x (k + 1) = IntKind.u64.wrap (stN x k + 11400714819323198485) := rfl
set_option maxHeartbeats 400000 in
theorem mix_c (z : Int) (w : World) (h : U z) :
    Calls Tryz.prog 227 #[.int .u64 z] w fun e w' => e = .returned (.int .u64 (mx z)) ∧ w = w' := by
  obtain ⟨h0, h1⟩ := h
  go_enter Tryz.func227, Tryz.ntmps227
  go_wp2
  go_ret
  exact ⟨rfl, rfl⟩
set_option maxHeartbeats 400000 in
theorem rest_c (z n : Int) (w : World) (h : U z) (hn : 1 ≤ n) (hm : n ≤ 1000000000) :
    Calls Tryz.prog 175 #[.int .u64 z, .int .i64 n] w fun e w' => e = .returned (.int .i64 (z % n)) ∧ w = w' := by
  obtain ⟨h0, h1⟩ := h
  have e1 : wrap64 (z % n) = z % n := by
    have := Int.emod_nonneg z (b := n) (by omega)
    have := Int.emod_lt_of_pos z (b := n) (by omega)
    simp only [wrap64]; omega
  go_enter Tryz.func175, Tryz.ntmps175
  go_wp2
  go_ret
  exact ⟨by simp [e1], rfl⟩
set_option maxHeartbeats 400000 in
theorem new_c (x : Int) (w : World) :
    Calls Tryz.prog 55 #[.int .u64 x] w fun e w' => e = .returned (.pointer (some ⟨w.heap.size, 0, none⟩)) ∧ w' = w.alloc (.cells #[.int .u64 x] 144) := by
  go_enter Tryz.func55, Tryz.ntmps55
  go_wp2
  go_ret
  exact ⟨rfl, rfl⟩
set_option maxHeartbeats 400000 in
theorem draws_c (p : Option Addr) (k : Int) (w : World) :
    Calls Tryz.prog 208 #[.pointer p, .int .i64 k] w fun e w' => e = .returned (.func (.func 226) #[] #[.pointer (some ⟨w.heap.size, 0, none⟩), .pointer (some ⟨w.heap.size + 1, 0, none⟩)]) ∧ w' = (w.alloc (.cells #[.pointer p] 81)).alloc (.cells #[.int .i64 k] 3) := by
  go_enter Tryz.func208, Tryz.ntmps208
  go_wp2
  go_ret
  exact ⟨rfl, rfl⟩

/-- What keeps a source from drawing for n. -/
def ckE (n lo hi : Int) : Int := if n < lo ∨ hi < n then 1 else 0
set_option maxHeartbeats 400000 in
theorem check_c (a : Addr) (n lo hi : Int) (w : World) :
    Calls Tryz.prog 174 #[.pointer (some a), .int .i64 n, .int .i64 lo, .int .i64 hi] w fun e w' => e = .returned (.int .i64 (ckE n lo hi)) ∧ w = w' := by
  unfold ckE
  by_cases h1 : n < lo
  · rw [if_pos (.inl h1)]
    go_enter Tryz.func174, Tryz.ntmps174
    go_wp2
    go_ret
    exact ⟨rfl, rfl⟩
  · by_cases h2 : hi < n
    · rw [if_pos (.inr h2)]
      go_enter Tryz.func174, Tryz.ntmps174
      go_wp2
      go_ret
      exact ⟨rfl, rfl⟩
    · rw [if_neg (by omega)]
      go_enter Tryz.func174, Tryz.ntmps174
      go_wp2
      go_ret
      exact ⟨rfl, rfl⟩

end Go.Proofs.YtepjbdklljlecaaGreat.Rn

/- A heap that has just these hits: its calls. -/
namespace Go.Proofs.YtepjbdklljlecaaGreat.Tk
open Go.RowKit Go.Sort

/-- The heap of size k has the hits m, in their order. -/
def Has (w : World) (hb k : Nat) (v : Value) (m : List Ht) : Prop :=
  ∃ d, Hp w hb (k : Int) v d ∧ MaxH d ∧ d.toList.Perm m ∧ Srtd m ∧ m.length ≤ k ∧ 1 ≤ k ∧ k ≤ 64
theorem Has.gr {w w' : World} {hb k : Nat} {v : Value} {m : List Ht} (h : Has w hb k v m) (g : Gr w w') : Has w' hb k v m := by
  obtain ⟨d, h1, r⟩ := h; exact ⟨d, h1.gr g, r⟩
theorem Has.kp {S : Nat → Prop} {w w' : World} {hb k : Nat} {v : Value} {m : List Ht} (h : Has w hb k v m) (K : Kp S w w') (h1 : ¬ S hb) (h2 : ∀ g, v.ownBlock = some g → ¬ S g) : Has w' hb k v m := by
  obtain ⟨d, hd, r⟩ := h; exact ⟨d, hd.kp K h1 h2, r⟩
theorem Has.lt {w : World} {hb k : Nat} {v : Value} {m : List Ht} (h : Has w hb k v m) : hb < w.heap.size := by obtain ⟨d, h1, _⟩ := h; exact h1.lt
theorem Has.own_lt {w : World} {hb k : Nat} {v : Value} {m : List Ht} (h : Has w hb k v m) {g : Nat} (hg : v.ownBlock = some g) : g < w.heap.size := by
  obtain ⟨d, h1, _⟩ := h; exact YtepjbdklljlecaaGreat.Tk.own_lt h1.own hg
theorem new_has (k : Nat) (h1 : 1 ≤ k) (h2 : k ≤ 64) (w : World) : Has (w.alloc (.cells #[.int .i64 (k : Int), .slice none 0 0] 113)) w.heap.size k (.slice none 0 0) [] :=
  ⟨#[], new_hp _ w, fun _ _ h => absurd h (Nat.not_lt_zero _), List.Perm.refl _, List.Pairwise.nil, Nat.zero_le _, h1, h2⟩

theorem root_last {d : Array Ht} {m : List Ht} (hm : MaxH d) (p : d.toList.Perm m) (hs : Srtd m) {k : Nat} (hk : m.length = k) (h0 : 0 < k) : d[0]! = m[k - 1]! := by
  have hd : d.size = k := by have := p.length_eq; simp at this; omega
  have a1 : d[0]! ∈ m := p.subset (by rw [getElem!_pos d 0 (by omega)]; exact Array.mem_toList_iff.2 (Array.getElem_mem _))
  have a2 : m[k - 1]! ∈ d.toList := p.symm.subset (by rw [getElem!_pos m (k - 1) (by omega)]; exact List.getElem_mem _)
  have b1 := last_worst hs k hk _ a1
  obtain ⟨i, hi, e⟩ := List.mem_iff_getElem.1 a2
  have b2 := maxh_root hm i (by simpa using hi)
  rw [getElem!_pos d i (by simpa using hi)] at b2
  simp only [Array.getElem_toList] at e
  rw [e] at b2
  exact hlt_tot b2 b1

/-- What Offer leaves. -/
def Offered (w w' : World) (hb k : Nat) (v : Value) (m : List Ht) (x : Ht) : Prop :=
  ∃ v', Has w' hb k v' (keep k m x) ∧ Kp (fun b => b = hb ∨ some b = v.ownBlock) w w' ∧ (v'.ownBlock = v.ownBlock ∨ ∀ g, v'.ownBlock = some g → w.heap.size ≤ g)

theorem offer_has {w : World} {hb k : Nat} {v : Value} {m : List Ht} (h : Has w hb k v m) (x : Ht) :
    Calls Tryz.prog 81 #[.pointer (some ⟨hb, 0, none⟩), hv x] w fun e w' => e = .returned (.bool (kept k m x)) ∧ Offered w w' hb k v m x := by
  have h' := h
  obtain ⟨d, hp, hm, pm, hs, hl, k1, k2⟩ := h
  have hd : d.size = m.length := by have := pm.length_eq; simpa using this
  by_cases c : m.length < k
  · have e : kept k m x = true := by unfold kept; rw [decide_eq_true c]; rfl
    rw [e]
    refine (offer_more hp hm (by omega) (by omega) x).mono ?_
    rintro e w' ⟨rfl, g, cap, d', p1, p2, p3, p4, p5⟩
    refine ⟨rfl, _, ⟨d', p3, p2, ?_, keep_srtd k x hs, by unfold keep; rw [List.length_take]; omega, k1, k2⟩, p4, ?_⟩
    · rw [keep_more x c]
      refine p1.trans ((List.perm_append_singleton x d.toList).trans ((pm.cons x).trans (ins_perm x m).symm))
    · rcases p5 with p5 | p5
      · exact .inl p5.symm
      · right; intro g' hg'; simp [Value.ownBlock] at hg'; omega
  have hk : m.length = k := by omega
  have er := root_last hm pm hs hk (by omega)
  by_cases cx : hlt x m[k - 1]! = true
  · have e : kept k m x = true := by unfold kept; rw [cx]; simp
    rw [e]
    refine (offer_repl hp hm (by omega) (by omega) (by omega) x (by rw [er]; exact cx)).mono ?_
    rintro e w' ⟨rfl, d', p1, p2, p3, p4⟩
    refine ⟨rfl, v, ⟨d', p3, p2, ?_, keep_srtd k x hs, by unfold keep; rw [List.length_take]; omega, k1, k2⟩, p4, .inl rfl⟩
    refine (p1.trans ?_).trans (keep_repl (by omega) hk cx).symm
    -- the set's hits are x and those of m but the last
    have hne : m ≠ [] := by intro e0; subst e0; simp at hk; omega
    obtain ⟨a, z, rfl⟩ : ∃ a z, m = a ++ [z] := ⟨m.dropLast, m.getLast hne, (List.dropLast_concat_getLast hne).symm⟩
    have ez : (a ++ [z])[k - 1]! = z := by
      simp only [List.length_append, List.length_cons, List.length_nil] at hk
      rw [getElem!_pos (a ++ [z]) (k - 1) (by simp; omega), List.getElem_append_right (by omega)]
      simp
    rw [ez] at er
    rw [List.dropLast_concat]
    cases hdl : d.toList with
    | nil =>
      have q0 : d.toList.length = 0 := by rw [hdl]; rfl
      rw [Array.length_toList] at q0; omega
    | cons y r =>
      have hy : d[0]! = y := by
        have hz : 0 < d.size := by omega
        rw [getElem!_pos d 0 hz, ← Array.getElem_toList hz]
        simp [hdl]
      rw [Array.toList_setIfInBounds, hdl, List.set_cons_zero]
      refine List.Perm.cons x ?_
      have q : (y :: r).Perm (z :: a) := by rw [← hdl]; exact pm.trans (List.perm_append_singleton z a)
      rw [← hy, er] at q
      exact List.Perm.cons_inv q
  · have cx' : hlt x m[k - 1]! = false := by simpa using cx
    have e : kept k m x = false := by unfold kept; rw [cx', decide_eq_false c]; rfl
    rw [e]
    refine (offer_no hp (by omega) (by omega) (by omega) x (by rw [er]; exact cx')).mono ?_
    rintro e w' ⟨rfl, g⟩
    refine ⟨rfl, v, ?_, Kp.of_gr g, .inl rfl⟩
    rw [keep_no hs hk cx']
    exact h'.gr g

theorem len_has {w : World} {hb k : Nat} {v : Value} {m : List Ht} (h : Has w hb k v m) : Calls Tryz.prog 152 #[.pointer (some ⟨hb, 0, none⟩)] w fun e w' => e = .returned (.int .i64 (m.length : Nat)) ∧ w' = w := by
  obtain ⟨d, hp, hm, pm, hs, hl, k1, k2⟩ := h
  have := len17 hp
  rwa [show d.size = m.length by have := pm.length_eq; simpa using this] at this
theorem worst_has {w : World} {hb k : Nat} {v : Value} {m : List Ht} (h : Has w hb k v m) (h0 : 0 < m.length) : Calls Tryz.prog 104 #[.pointer (some ⟨hb, 0, none⟩)] w fun e w' => e = .returned (.tuple #[hv m[m.length - 1]!, .bool true]) ∧ Gr w w' := by
  obtain ⟨d, hp, hm, pm, hs, hl, k1, k2⟩ := h
  have hd : d.size = m.length := by have := pm.length_eq; simpa using this
  have := worst15 hp (by omega) (by omega)
  rwa [root_last hm pm hs rfl h0] at this
theorem worst_has_none {w : World} {hb k : Nat} {v : Value} {m : List Ht} (h : Has w hb k v m) (h0 : m.length = 0) : Calls Tryz.prog 104 #[.pointer (some ⟨hb, 0, none⟩)] w fun e w' => e = .returned (.tuple #[hv ⟨0, 0, 0⟩, .bool false]) ∧ Gr w w' := by
  refine worst15_none _ w fun W g => ?_
  have := len_has (h.gr g)
  rwa [h0] at this
theorem list_has {w : World} {hb k : Nat} {v : Value} {m : List Ht} (h : Has w hb k v m) : Calls Tryz.prog 78 #[.pointer (some ⟨hb, 0, none⟩)] w fun e w' => ∃ v', e = .returned v' ∧ Out w w' v' m := by
  obtain ⟨d, hp, hm, pm, hs, hl, k1, k2⟩ := h
  have hd : d.size = m.length := by have := pm.length_eq; simpa using this
  have := list16 hp (by omega)
  rwa [srt_of_perm hs pm] at this
end Go.Proofs.YtepjbdklljlecaaGreat.Tk

/- A loop over a function that is ranged over, where that function turns nothing old: the law. -/
namespace Go.Proofs.YtepjbdklljlecaaGreat
open Go.RowKit Go.Shelf
attribute [local go_sem] Oper.semAt_some

theorem grown_of_gb {a b : World} (h : Gb a b) : a.grownBy b none := ⟨h.os, h.tape, h.output, h.size, fun k hk _ => h.block k hk⟩
theorem gb_same {a b : World} (h : Gb a b) {k : Nat} {o : Obj} (hk : a.heap[k]? = some o) : b.heap[k]? = some o :=
  (h.block k (Array.getElem?_eq_some_iff.1 hk).1).trans hk

/-- How a round's body may be left: on, alone. -/
def leftOn (I : Nat → World → Prop) (k : Nat) (W : World) : Exit → Act → World → Prop
  | .normal, _, W' => KeepsOthers W W' ∧ I k W'
  | _, _, _ => False

/-- The contract of what is ranged over: N rounds, between them nothing old turns. -/
def Gives (n : Nat) (P : Program) (gf : Nat) (lb : Array Value) (N : Nat) (arg : Nat → Value) (I : Nat → World → Prop) : Prop :=
  ∀ (l : Nat) (J : Nat → World → Prop) (W : World), (∀ k W, J k W → I k W) →
    (∀ k W W', J k W → Gb W W' → J k W') →
    (∀ k W, k < N → J k W → YieldAt Fence.wide (n - 1) P l #[arg k] W fun e W' => e = .returned (.bool true) ∧ J (k + 1) W') →
    J 0 W →
    CallsIn Fence.wide n P gf (#[.func (.yield l) #[] #[]] ++ lb) W fun e W' => (∃ v, e = .returned v) ∧ J N W'

theorem range_c {n : Nat} {P : Program} {g : Operand} {ps : Array Tmp} {assign body : Code} {Q : Exit → Act → World → Prop} {a : Act} {w : World}
    {gf : Nat} {lb : Array Value} (hg : a.eval g = .func (.func gf) #[] lb) (eg : ∀ args w, (callFunc gf args).run P w = .ok (.enter gf args) w)
    (hps : ps.size = 1) (N : Nat) (arg : Nat → Value) (I : Nat → World → Prop) (I1 : Nat → Nat → World → Prop) (ob : Nat → Obj)
    (hI : OwnFrom w.heap.size I) (hI1 : ∀ p, OwnFrom w.heap.size (fun k => I1 k p)) (h0 : I 0 w) (hst : ∀ k W, k < N → I k W → I1 k W.heap.size (W.alloc (ob k)))
    (hit : Gives (n - 1) P gf lb N arg I) (a₁ : Nat → Nat → Act)
    (hassign : ∀ (l k : Nat) (W : World) (K : Act → World → Prop), K (a₁ k W.heap.size) (W.alloc (ob k)) →
      assign.wpIn (Fence.wide.inRound l) (n - 1 - 1) P (Exit.then K (fun _ _ _ => False)) { tmps := (ps.zip #[arg k]).foldl (fun t (p, v) => t.setIfInBounds p v) a.tmps, defers := [] } W)
    (hbody : ∀ (l k p : Nat) (W : World), k < N → I1 k p W → body.wpIn (Fence.wide.inRound l) (n - 1 - 1) P (leftOn I (k + 1) W) (a₁ k p) W)
    (hdone : ∀ (D : Nat) (W : World), w.heap.size ≤ D → I N W → W.heap[D]? = some (.deferred (some [])) → Q .normal { a with defers := { target := .collected D, args := #[] } :: a.defers } W) :
    (Code.rangeFunc g ps assign body).wpIn Fence.wide n P Q a w := by
  refine wpIn_rangeFunc fun fn hfn => ?_
  -- the record of the loop, in its states
  obtain ⟨rc, hrc⟩ : ∃ rc : LoopState → Option Code → Loop, rc = fun s p => { state := s, pending := p, fn := fn, tmps := a.tmps, params := ps, assign := assign, body := body, defers := w.heap.size } := ⟨_, rfl⟩
  obtain ⟨V, hV⟩ : ∃ V, (w.alloc (.deferred (some []))).alloc (.loop (rc .ready none)) = V := ⟨_, rfl⟩
  have hlV : V.heap[w.heap.size + 1]? = some (.loop (rc .ready none)) := by
    rw [← hV]; have := World.alloc_heap_new (w.alloc (.deferred (some []))) (.loop (rc .ready none)); rwa [World.size_alloc] at this
  have hdV : V.heap[w.heap.size]? = some (.deferred (some [])) := by
    rw [← hV]; exact (Below.heap_alloc _ _ _ (by simp)).trans (World.alloc_heap_new w _)
  have hIV : I 0 V := by rw [← hV]; exact hI.alloc _ (hI.alloc _ h0)
  refine ⟨w.heap.size + 1, [{ target := .collected w.heap.size, args := #[] }], V, { target := .fn (.func gf) lb, args := #[.func (.yield (w.heap.size + 1)) #[] #[]] }, V, gf,
    #[.func (.yield (w.heap.size + 1)) #[] #[]] ++ lb, V, ?_, ?_, fun _ _ => trivial, ?_, fun h => by simp [Fence.wide] at h, ?_⟩
  · rw [← hV, hrc]; exact run_enterLoop_outer _ _ _ _ _
  · simp only [resolve, hg]
    simp [go_sem]
  · simp [invoke, go_sem, eg]
  refine (hit (w.heap.size + 1)
    (fun k W => I k W ∧ W.heap[w.heap.size + 1]? = some (.loop (rc .ready none)) ∧ W.heap[w.heap.size]? = some (.deferred (some [])))
    V (fun _ _ h => h.1) (fun k W W' h g => ⟨hI k W W' none h.1 (grown_of_gb g) (fun r e => by cases e), gb_same g h.2.1, gb_same g h.2.2⟩) ?_ ⟨hIV, hlV, hdV⟩).mono ?_
  · -- one round
    rintro k W hk ⟨hi, hl, hd⟩
    have hlt : w.heap.size + 1 < W.heap.size := (Array.getElem?_eq_some_iff.1 hl).1
    have hy := run_yield (P := P) (args := #[arg k]) hl (by rw [hrc]; simp [hps])
    rw [hrc] at hy
    obtain ⟨p, hp0⟩ : ∃ p, p = W.heap.size := ⟨_, rfl⟩
    obtain ⟨Wa, hWa⟩ : ∃ Wa, W.alloc (ob k) = Wa := ⟨_, rfl⟩
    have gA : Gb W Wa := by rw [← hWa]; exact gb_alloc (Below.refl _ _) _
    have hla := gb_same gA hl
    have hda := gb_same gA hd
    have hlta : w.heap.size + 1 < Wa.heap.size := (Array.getElem?_eq_some_iff.1 hla).1
    have hia : I1 k p Wa := by rw [← hWa, hp0]; exact hst k W hk hi
    refine ⟨fn, _, assign, body, hy, roundIn_of_wpIn hfn (hassign _ k W _ ?_)⟩
    rw [hWa, ← hp0]
    refine ⟨_, run_beginRound hla (by rw [hrc]), ?_⟩
    clear hy hi hl hd hlt
    obtain ⟨W2, hW2⟩ : ∃ W2, Wa.putObj (w.heap.size + 1) (.loop { rc .ready none with state := .busy }) = W2 := ⟨_, rfl⟩
    rw [hW2]
    have hl2 : W2.heap[w.heap.size + 1]? = some (.loop { rc .ready none with state := .busy }) := by rw [← hW2]; exact World.putObj_heap_same hlta
    have hd2 : W2.heap[w.heap.size]? = some (.deferred (some [])) := by rw [← hW2]; exact (World.putObj_heap_other (by omega)).trans hda
    have hi2 : I1 k p W2 := by rw [← hW2]; exact (hI1 p).putObj _ hia (by omega) hla rfl
    refine wpIn_mono (hbody _ k p W2 hk hi2) ?_
    have fin : ∀ (j : Option Code) (W3 : World), KeepsOthers W2 W3 →
        (Instr.endRound (w.heap.size + 1) j).run P W3 = .ok (.bool j.isNone) (W3.putObj (w.heap.size + 1) (.loop (rc (if j.isNone then .ready else .done) j))) ∧
        W3.heap[w.heap.size + 1]? = some (.loop { rc .ready none with state := .busy }) ∧
        (W3.putObj (w.heap.size + 1) (.loop (rc (if j.isNone then .ready else .done) j))).heap[w.heap.size + 1]? = some (.loop (rc (if j.isNone then .ready else .done) j)) ∧
        (W3.putObj (w.heap.size + 1) (.loop (rc (if j.isNone then .ready else .done) j))).heap[w.heap.size]? = some (.deferred (some [])) := fun j W3 hk3 => by
      have hl3 := hk3.same _ _ hl2 rfl
      have := run_endRound (P := P) j hl3
      rw [hrc] at this ⊢
      exact ⟨this, by rw [hrc] at hl3; exact hl3, World.putObj_heap_same (Array.getElem?_eq_some_iff.1 hl3).1, (World.putObj_heap_other (by omega)).trans (hk3.same _ _ hd2 rfl)⟩
    rintro e a3 W3 hp
    cases e with
    | normal =>
      obtain ⟨hk3, hi3⟩ := hp
      obtain ⟨hr, hl3, hl4, hd4⟩ := fin none W3 hk3
      exact ⟨_, _, hr, rfl, hI.putObj _ hi3 (by omega) hl3 rfl, hl4, hd4⟩
    | ret => exact hp.elim
    | exit id => exact hp.elim
    | goto t => exact hp.elim
    | panic ch => exact hp.elim
    | outgrown => exact hp.elim
  · -- behind it
    rintro e W2 ⟨⟨v, rfl⟩, hi, hl, hd⟩
    exact ⟨none, _, by have := run_endLoop (P := P) hl (by rw [hrc]; simp); rw [hrc] at this; exact this, hdone _ _ (Nat.le_refl _) (hI.putObj _ hi (by omega) hl rfl) ((World.putObj_heap_other (by omega)).trans hd)⟩

end Go.Proofs.YtepjbdklljlecaaGreat

/- The reference's Id, ids and form. -/
namespace Go.Proofs.YtepjbdklljlecaaGreat
open Go.RowKit

theorem rid_c (x : Int) (w : World) : Calls Tryz.prog 60 #[.int .i64 x] w fun e w' => e = .returned (.bool (okId x)) ∧ w = w' := by
  by_cases h : 1 ≤ x
  · by_cases h2 : x ≤ 1000000000
    · have E : Hid (okId x = true) := (okId_iff x).2 ⟨h, h2⟩
      go_enter Tryz.func60, Tryz.ntmps60
      go_wp2
      go_ret
      exact ⟨by rw [E.out]; rfl, rfl⟩
    · have E : Hid (okId x = false) := by unfold Hid; rw [← Bool.not_eq_true, okId_iff]; omega
      go_enter Tryz.func60, Tryz.ntmps60
      go_wp2
      go_ret
      exact ⟨by rw [E.out]; rfl, rfl⟩
  · have E : Hid (okId x = false) := by unfold Hid; rw [← Bool.not_eq_true, okId_iff]; omega
    go_enter Tryz.func60, Tryz.ntmps60
    go_wp2
    go_ret
    exact ⟨by rw [E.out]; rfl, rfl⟩
theorem rid_v (x : Int) (b : Bool) (h : okId x = b) (w : World) : Calls Tryz.prog 60 #[.int .i64 x] w fun e w' => e = .returned (.bool b) ∧ w = w' := by
  subst h; exact rid_c x w

end Go.Proofs.YtepjbdklljlecaaGreat

/- The reference's find. -/
namespace Go.Proofs.YtepjbdklljlecaaGreat
open Go.RowKit Go.Sort

end Go.Proofs.YtepjbdklljlecaaGreat

/- Rows and ids by their order. -/
namespace Go.Proofs.YtepjbdklljlecaaGreat
open Go.RowKit Go.Sort

end Go.Proofs.YtepjbdklljlecaaGreat
