import Derived.Test.YteaeaoekaoedoaaGreatTkKeep
import Derived.Shelf.SlSortCmp.NoneTotal
import Derived.Shelf.SlicesE.Clone
import Derived.Shelf.SlGeneric
import Derived.Shelf.Lay
import Derived.Ground.SlsfProg
import Derived.Ground.SlgnProg
/- slices.Clone and slices.SortFunc at hits (the shelf's contracts, laid at this program); List. -/
namespace Go.Proofs.YteaeaoekaoedoaaGreat.Tk
open Go.Shelf Go.RowKit Go.Lib Go.Sort
shelf_lay_g SlLaysF0.n6 Slsf 6 at Tryz 41 as Tryz.laidSort
shelf_lay_g SlLaysE0.n41 Slgn 41 at Tryz 79 as Tryz.laidClone

/-- Hits in their order. -/
def srt (l : List Ht) : List Ht := l.mergeSort fun x y => !hlt y x
theorem srt_perm (l : List Ht) : (srt l).Perm l := List.mergeSort_perm _ _
theorem srt_len (l : List Ht) : (srt l).length = l.length := (srt_perm l).length_eq

theorem swoH : SWO (ltOf cf) := ⟨hlt_irrefl, fun _ _ _ => hlt_trans, fun _ _ _ => hlt_ntrans⟩
theorem cmpH (blk off size : Nat) (w : World) : CmpLays Tryz.prog 80 #[] enc 3 cf blk off size w := fun _ _ _ _ x y => order_c x y _

theorem gr_grow (w : World) (os : Array Obj) : Gr w (grow w os) := ⟨rfl, rfl, rfl, by rw [size_grow]; omega, fun _ hk => heap_grow_old _ _ hk⟩
theorem clone28 {w : World} {g n cap : Nat} {d : Array Ht} (h : Own w (.slice (some ⟨g, 0, none⟩) n cap) d) (hs : d.size = n) (hn : n ≤ 4000) :
    Calls Tryz.prog 79 #[.slice (some ⟨g, 0, none⟩) n cap] w fun e w' => ∃ g' cap', e = .returned (.slice (some ⟨g', 0, none⟩) n cap') ∧ w.heap.size ≤ g' ∧ Own w' (.slice (some ⟨g', 0, none⟩) n cap') d ∧ Gr w w' := by
  obtain ⟨i0, z0, hi0, hz0, hz1, hz2, hz3⟩ := info57
  have hc := AnyE.slices_Clone Tryz.laidClone i0 z0 3 24 hi0 hz0 hz1 hz2 hz3 (by omega) Tryz.sizeOf57 g 0 n cap (fl d.toList) w (by rw [fl_len]; simp [hs]) (by simp only [maxLen]; omega) (by omega)
    (fun j u hu => by have := h.cells (g := g) rfl j u hu; rwa [Addr.add_lit] at this) (fl_one_cell _)
  change Calls Tryz.prog 79 _ _ _ at hc
  refine hc.mono ?_
  rintro e w' ⟨v', rfl, ho, hv, hb⟩
  rcases ho.2 with ⟨h1, _⟩ | ⟨g', cap', cur, rfl, hb', hh, r⟩
  · exact absurd h1 hv
  · refine ⟨g', cap', rfl, hb', ?_, hb⟩
    unfold Own
    rw [hs]
    exact ⟨ho.1, .inr ⟨g', cap', cur, rfl, Nat.zero_le _, hh, r⟩⟩
theorem clone28_nil (w : World) : Calls Tryz.prog 79 #[.slice none 0 0] w fun e w' => e = .returned (.slice none 0 0) ∧ w' = w := by
  have hc := AnyE.slices_Clone_nil Tryz.laidClone 0 0 w
  exact hc

theorem sort29 {w : World} {g n cap : Nat} {d : Array Ht} (h : Own w (.slice (some ⟨g, 0, none⟩) n cap) d) (hs : d.size = n) (hn : n ≤ 4000) :
    Calls Tryz.prog 41 #[.slice (some ⟨g, 0, none⟩) n cap, .func (.func 80) #[] #[]] w fun e w' => e = .returned (.tuple #[]) ∧ Own w' (.slice (some ⟨g, 0, none⟩) n cap) (srt d.toList).toArray ∧ Kp (fun b => b = g) w w' := by
  subst hs
  have eg : ∀ args w, (callFunc 80 args).run Tryz.prog w = .ok (.enter 80 args) w := enters_of Tryz.func80 (by kernel_rfl) rfl
  have hc := AnyQ.slices_SortFunc_total Tryz.laidSort 3 Tryz.isAgg57 Tryz.sizeOf57 enc enc_len enc_one cf swoH 80 #[] g 0 cap d w eg (cmpH g 0 d.size w) (own_holds h) (own_lt h rfl) (by omega) (fun x y h1 h2 => hlt_tot h1 h2)
  change Calls Tryz.prog 41 _ _ _ at hc
  refine hc.mono ?_
  rintro e w' ⟨rfl, q, os, rfl⟩
  have hsz : ((d.toList.mergeSort fun x y => !(ltOf cf) y x).toArray).size = d.size := by simp
  refine ⟨rfl, ?_, ?_⟩
  · exact own_gr (own_put h q _ hsz) (gr_grow _ _)
  · exact (Kp.put w _).trans (Kp.of_gr (gr_grow _ _))
theorem sort29_nil (fv : Value) (w : World) : Calls Tryz.prog 41 #[.slice none 0 0, fv] w fun e w' => e = .returned (.tuple #[]) ∧ w' = w := by
  have hc := AnyF.slices_SortFunc_none Tryz.laidSort none 0 fv w
  exact hc

/-- A list that came out: its hits, in memory of its own. -/
def Out (w w' : World) (v : Value) (l : List Ht) : Prop := Own w' v l.toArray ∧ Gr w w' ∧ ∀ g, v.ownBlock = some g → w.heap.size ≤ g

set_option maxHeartbeats 2000000 in
theorem list16 {w : World} {hb : Nat} {k : Int} {v : Value} {d : Array Ht} (h : Hp w hb k v d) (hn : d.size ≤ 4000) :
    Calls Tryz.prog 56 #[.pointer (some ⟨hb, 0, none⟩)] w fun e w' => ∃ v', e = .returned v' ∧ Out w w' v' (srt d.toList) := by
  have c1 := h.cell1
  have H : Hid (Own w v d ∧ d.size ≤ 4000) := ⟨h.own, hn⟩
  rcases h.own.2 with ⟨rfl, h0⟩ | ⟨g, cap, cur, rfl, _⟩
  · have D : Hid (d = #[]) := Array.eq_empty_of_size_eq_zero h0
    clear h hn h0
    go_enter Tryz.func56, Tryz.ntmps56
    go_wp2_with fail
    refine (clone28_nil _).mono ?_
    rintro e w' ⟨rfl, e2⟩
    subst e2
    go_wp2_with fail
    refine (sort29_nil _ _).mono ?_
    rintro e w2 ⟨rfl, e2⟩
    subst e2
    go_wp2
    go_ret
    refine ⟨.slice none 0 0, rfl, ?_, Below.refl _ _, by simp [Value.ownBlock]⟩
    rw [D.out, show srt (#[] : Array Ht).toList = [] by simp [srt]]
    exact own_nil _
  · obtain ⟨n, hN⟩ : ∃ n, n = d.size := ⟨_, rfl⟩
    have N : Hid (d.size = n) := hN.symm
    rw [← hN] at c1
    have H2 : Hid (Own w (.slice (some ⟨g, 0, none⟩) n cap) d ∧ n ≤ 4000) := by rw [hN]; exact H
    clear h hn hN H
    go_enter Tryz.func56, Tryz.ntmps56
    go_wp2_with fail
    refine (clone28 H2.out.1 N.out H2.out.2).mono ?_
    rintro e w1 ⟨g', cap', rfl, hg, ho, hG⟩
    have X : Hid (Own w1 (.slice (some ⟨g', 0, none⟩) n cap') d ∧ Gr w w1 ∧ w.heap.size ≤ g') := ⟨ho, hG, hg⟩
    clear hg ho hG c1
    go_wp2_with fail
    refine (sort29 X.out.1 N.out H2.out.2).mono ?_
    rintro e w2 ⟨rfl, ho, hK⟩
    have Y : Hid (Own w2 (.slice (some ⟨g', 0, none⟩) n cap') (srt d.toList).toArray ∧ Kp (fun b => b = g') w1 w2) := ⟨ho, hK⟩
    clear ho hK
    go_wp2
    go_ret
    refine ⟨.slice (some ⟨g', 0, none⟩) n cap', rfl, Y.out.1, X.out.2.1.trans (Y.out.2.gr X.out.2.1.size (fun k e => by rw [e]; exact X.out.2.2)), ?_⟩
    intro g2 e
    simp [Value.ownBlock] at e
    rw [← e]; exact X.out.2.2
theorem list16_nil (w : World) : Calls Tryz.prog 56 #[.pointer none] w fun e w' => e = .returned (.slice none 0 0) ∧ w' = w := by
  go_enter Tryz.func56, Tryz.ntmps56
  go_wp2
  go_ret
  exact ⟨rfl, rfl⟩
end Go.Proofs.YteaeaoekaoedoaaGreat.Tk

/- Sorted lists of hits, plainly: a hit more, the first k. -/
namespace Go.Proofs.YteaeaoekaoedoaaGreat.Tk
open Go.RowKit Go.Sort

/-- None behind a later one. -/
def Srtd (l : List Ht) : Prop := l.Pairwise fun x y => hlt y x = false
theorem srt_srtd (l : List Ht) : Srtd (srt l) := by
  have h := List.pairwise_mergeSort (le := fun x y => !hlt y x) (fun a b c h1 h2 => by
    simp only [Bool.not_eq_true'] at *; exact hlt_ntrans h2 h1) (fun a b => by
    cases h : hlt b a
    · simp
    · simp [hlt_asymm h]) l
  exact h.imp (fun h => by simpa using h)
theorem srtd_unique : ∀ (l l' : List Ht), Srtd l → Srtd l' → l.Perm l' → l = l'
  | [], l', _, _, p => (List.Perm.nil_eq p)
  | a :: r, [], _, _, p => absurd p.length_eq (by simp)
  | a :: r, b :: r', h, h', p => by
    have hb : b ∈ a :: r := p.symm.subset List.mem_cons_self
    have ha : a ∈ b :: r' := p.subset List.mem_cons_self
    have e : a = b := by
      rcases List.mem_cons.1 hb with e | hb
      · exact e.symm
      rcases List.mem_cons.1 ha with e | ha
      · exact e
      have h1 := List.rel_of_pairwise_cons h hb
      have h2 := List.rel_of_pairwise_cons h' ha
      exact hlt_tot h2 h1
    subst e
    rw [srtd_unique r r' (List.Pairwise.of_cons h) (List.Pairwise.of_cons h') (List.Perm.cons_inv p)]
theorem srt_of_srtd {l : List Ht} (h : Srtd l) : srt l = l := srtd_unique _ _ (srt_srtd l) h (srt_perm l)
theorem srt_of_perm {l m : List Ht} (h : Srtd m) (p : l.Perm m) : srt l = m := srtd_unique _ _ (srt_srtd l) h ((srt_perm l).trans p)

/-- A sorted list with one more. -/
def ins (x : Ht) : List Ht → List Ht
  | [] => [x]
  | y :: r => if hlt x y = true then x :: y :: r else y :: ins x r
theorem ins_perm (x : Ht) : ∀ l, (ins x l).Perm (x :: l)
  | [] => List.Perm.refl _
  | y :: r => by
    unfold ins
    split
    · exact List.Perm.refl _
    · exact ((ins_perm x r).cons y).trans (List.Perm.swap x y r)
theorem ins_len (x : Ht) (l : List Ht) : (ins x l).length = l.length + 1 := by rw [(ins_perm x l).length_eq]; rfl
theorem ins_srtd (x : Ht) : ∀ l, Srtd l → Srtd (ins x l)
  | [], _ => List.pairwise_singleton _ _
  | y :: r, h => by
    unfold ins
    split
    · rename_i hx
      refine List.Pairwise.cons ?_ h
      intro z hz
      rcases List.mem_cons.1 hz with rfl | hz
      · exact hlt_asymm hx
      · exact hlt_ntrans (List.rel_of_pairwise_cons h hz) (hlt_asymm hx)
    · rename_i hx
      refine List.Pairwise.cons ?_ (ins_srtd x r (List.Pairwise.of_cons h))
      intro z hz
      rcases List.mem_cons.1 ((ins_perm x r).subset hz) with rfl | hz
      · simpa using hx
      · exact List.rel_of_pairwise_cons h hz
theorem srt_snoc (l : List Ht) (x : Ht) : srt (l ++ [x]) = ins x (srt l) := by
  refine srt_of_perm (ins_srtd x _ (srt_srtd l)) ?_
  refine List.Perm.trans ?_ (ins_perm x _).symm
  exact (List.perm_append_singleton x l).trans ((srt_perm l).symm.cons x)

/-- A heap's hits behind one more. -/
def keep (k : Nat) (m : List Ht) (x : Ht) : List Ht := (ins x m).take k
def kept (k : Nat) (m : List Ht) (x : Ht) : Bool := decide (m.length < k) || hlt x m[k - 1]!
theorem take_ins (x : Ht) : ∀ (k : Nat) (l : List Ht), (ins x l).take k = (ins x (l.take k)).take k
  | 0, _ => by simp
  | k + 1, [] => by simp
  | k + 1, y :: r => by
    simp only [List.take_succ_cons]
    unfold ins
    split
    · simp only [List.take_succ_cons]
      cases k with
      | zero => simp
      | succ k => simp [List.take_succ_cons, List.take_take, Nat.min_eq_left (Nat.le_succ k)]
    · simp only [List.take_succ_cons]
      rw [take_ins x k r]
/-- The first k of some hits. -/
def firsts (k : Nat) (l : List Ht) : List Ht := (srt l).take k
theorem firsts_snoc (k : Nat) (l : List Ht) (x : Ht) : firsts k (l ++ [x]) = keep k (firsts k l) x := by
  unfold firsts keep
  rw [srt_snoc, take_ins]
theorem firsts_nil (k : Nat) : firsts k [] = [] := by simp [firsts, srt]
theorem firsts_srtd (k : Nat) (l : List Ht) : Srtd (firsts k l) := (srt_srtd l).sublist (List.take_sublist k _)
theorem firsts_len (k : Nat) (l : List Ht) : (firsts k l).length = min k l.length := by simp [firsts, srt_len]
theorem firsts_perm (k : Nat) {l l' : List Ht} (p : l.Perm l') : firsts k l = firsts k l' := by
  unfold firsts; rw [srt_of_perm (srt_srtd l') (p.trans (srt_perm l').symm)]
theorem keep_srtd (k : Nat) {m : List Ht} (x : Ht) (h : Srtd m) : Srtd (keep k m x) := (ins_srtd x m h).sublist (List.take_sublist k _)
theorem keep_more {k : Nat} {m : List Ht} (x : Ht) (h : m.length < k) : keep k m x = ins x m := by
  unfold keep; rw [List.take_of_length_le (by rw [ins_len]; omega)]
theorem last_worst {m : List Ht} (h : Srtd m) (k : Nat) (hk : m.length = k) : ∀ y ∈ m, hlt m[k - 1]! y = false := by
  intro y hy
  subst hk
  obtain ⟨i, hi, rfl⟩ := List.mem_iff_getElem.1 hy
  rw [getElem!_pos m (m.length - 1) (by omega)]
  by_cases e : i = m.length - 1
  · subst e; exact hlt_irrefl _
  · exact List.pairwise_iff_getElem.1 h i (m.length - 1) hi (by omega) (by omega)
theorem ins_no (x : Ht) : ∀ (m : List Ht), (∀ y ∈ m, hlt x y = false) → ins x m = m ++ [x]
  | [], _ => rfl
  | y :: r, h => by
    unfold ins
    rw [if_neg (by rw [h y List.mem_cons_self]; simp), ins_no x r (fun z hz => h z (List.mem_cons_of_mem _ hz))]
    rfl
theorem keep_no {k : Nat} {m : List Ht} {x : Ht} (hs : Srtd m) (h : m.length = k) (hx : hlt x m[k - 1]! = false) : keep k m x = m := by
  unfold keep
  rw [ins_no x m (fun y hy => hlt_ntrans hx (last_worst hs k h y hy)), List.take_append_of_le_length (by omega), List.take_of_length_le (by omega)]
theorem ins_app (x : Ht) (z : Ht) (hx : hlt x z = true) : ∀ (m : List Ht), ins x (m ++ [z]) = ins x m ++ [z]
  | [] => by simp [ins, hx]
  | y :: r => by
    simp only [List.cons_append]
    unfold ins
    split
    · rfl
    · rw [ins_app x z hx r]; rfl
theorem keep_repl {k : Nat} {m : List Ht} {x : Ht} (hk : 0 < k) (h : m.length = k) (hx : hlt x m[k - 1]! = true) : (keep k m x).Perm (x :: m.dropLast) := by
  have hne : m ≠ [] := by intro e; subst e; simp at h; omega
  obtain ⟨a, z, rfl⟩ : ∃ a z, m = a ++ [z] := ⟨m.dropLast, m.getLast hne, (List.dropLast_concat_getLast hne).symm⟩
  simp only [List.length_append, List.length_cons, List.length_nil] at h
  have e : (a ++ [z])[k - 1]! = z := by
    rw [getElem!_pos (a ++ [z]) (k - 1) (by simp; omega), List.getElem_append_right (by omega)]
    simp
  rw [e] at hx
  have hl : (ins x a).length = k := by rw [ins_len]; omega
  unfold keep
  rw [ins_app x z hx, List.take_append_of_le_length (by rw [hl]; exact Nat.le_refl _), List.take_of_length_le (by rw [hl]; exact Nat.le_refl _), List.dropLast_concat]
  exact ins_perm x _
end Go.Proofs.YteaeaoekaoedoaaGreat.Tk
