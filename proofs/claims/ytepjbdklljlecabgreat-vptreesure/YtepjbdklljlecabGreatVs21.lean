import Derived.Test.YtepjbdklljlecabGreatVs12
import Derived.Shelf.SlSortCmp.NoneTotal
import Derived.Shelf.SlicesE.Clone
import Derived.Shelf.SlGeneric
import Derived.Shelf.Lay
import Derived.Ground.SlsfProg
import Derived.Ground.SlgnProg
import Derived.Test.YtepjbdklljlecabGreatVs4
import Derived.Laws.AppendOwnNone
import Derived.Test.YtepjbdklljlecabGreatVsInB
import Derived.Test.YtepjbdklljlecabGreatVs20
import Derived.Test.YtepjbdklljlecabGreatVs3
/- slices.Clone and slices.SortFunc at hits (the shelf's contracts, laid at this program); List. -/
namespace Go.Proofs.YtepjbdklljlecabGreat.Tk
open Go.Shelf Go.RowKit Go.Lib Go.Sort
shelf_lay_g SlLaysF0.n6 Slsf 6 at Tryz 89 as Tryz.laidSort
shelf_lay_g SlLaysE0.n41 Slgn 41 at Tryz 88 as Tryz.laidClone

/-- Hits in their order. -/
def srt (l : List Ht) : List Ht := l.mergeSort fun x y => !hlt y x
theorem srt_perm (l : List Ht) : (srt l).Perm l := List.mergeSort_perm _ _
theorem srt_len (l : List Ht) : (srt l).length = l.length := (srt_perm l).length_eq

theorem swoH : SWO (ltOf cf) := ⟨hlt_irrefl, fun _ _ _ => hlt_trans, fun _ _ _ => hlt_ntrans⟩
theorem cmpH (blk off size : Nat) (w : World) : CmpLays Tryz.prog 90 #[] enc 3 cf blk off size w := fun _ _ _ _ x y => order_c x y _

theorem gr_grow (w : World) (os : Array Obj) : Gr w (grow w os) := ⟨rfl, rfl, rfl, by rw [size_grow]; omega, fun _ hk => heap_grow_old _ _ hk⟩
theorem clone28 {w : World} {g n cap : Nat} {d : Array Ht} (h : Own w (.slice (some ⟨g, 0, none⟩) n cap) d) (hs : d.size = n) (hn : n ≤ 4000) :
    Calls Tryz.prog 88 #[.slice (some ⟨g, 0, none⟩) n cap] w fun e w' => ∃ g' cap', e = .returned (.slice (some ⟨g', 0, none⟩) n cap') ∧ w.heap.size ≤ g' ∧ Own w' (.slice (some ⟨g', 0, none⟩) n cap') d ∧ Gr w w' := by
  obtain ⟨i0, z0, hi0, hz0, hz1, hz2, hz3⟩ := info60
  have hc := AnyE.slices_Clone Tryz.laidClone i0 z0 3 24 hi0 hz0 hz1 hz2 hz3 (by omega) Tryz.sizeOf60 g 0 n cap (fl d.toList) w (by rw [fl_len]; simp [hs]) (by simp only [maxLen]; omega) (by omega)
    (fun j u hu => by have := h.cells (g := g) rfl j u hu; rwa [Addr.add_lit] at this) (fl_one_cell _)
  change Calls Tryz.prog 88 _ _ _ at hc
  refine hc.mono ?_
  rintro e w' ⟨v', rfl, ho, hv, hb⟩
  rcases ho.2 with ⟨h1, _⟩ | ⟨g', cap', cur, rfl, hb', hh, r⟩
  · exact absurd h1 hv
  · refine ⟨g', cap', rfl, hb', ?_, hb⟩
    unfold Own
    rw [hs]
    exact ⟨ho.1, .inr ⟨g', cap', cur, rfl, Nat.zero_le _, hh, r⟩⟩
theorem clone28_nil (w : World) : Calls Tryz.prog 88 #[.slice none 0 0] w fun e w' => e = .returned (.slice none 0 0) ∧ w' = w := by
  have hc := AnyE.slices_Clone_nil Tryz.laidClone 0 0 w
  exact hc

theorem sort29 {w : World} {g n cap : Nat} {d : Array Ht} (h : Own w (.slice (some ⟨g, 0, none⟩) n cap) d) (hs : d.size = n) (hn : n ≤ 4000) :
    Calls Tryz.prog 89 #[.slice (some ⟨g, 0, none⟩) n cap, .func (.func 90) #[] #[]] w fun e w' => e = .returned (.tuple #[]) ∧ Own w' (.slice (some ⟨g, 0, none⟩) n cap) (srt d.toList).toArray ∧ Kp (fun b => b = g) w w' := by
  subst hs
  have eg : ∀ args w, (callFunc 90 args).run Tryz.prog w = .ok (.enter 90 args) w := enters_of Tryz.func90 (by kernel_rfl) rfl
  have hc := AnyQ.slices_SortFunc_total Tryz.laidSort 3 Tryz.isAgg60 Tryz.sizeOf60 enc enc_len enc_one cf swoH 90 #[] g 0 cap d w eg (cmpH g 0 d.size w) (own_holds h) (own_lt h rfl) (by omega) (fun x y h1 h2 => hlt_tot h1 h2)
  change Calls Tryz.prog 89 _ _ _ at hc
  refine hc.mono ?_
  rintro e w' ⟨rfl, q, os, rfl⟩
  have hsz : ((d.toList.mergeSort fun x y => !(ltOf cf) y x).toArray).size = d.size := by simp
  refine ⟨rfl, ?_, ?_⟩
  · exact own_gr (own_put h q _ hsz) (gr_grow _ _)
  · exact (Kp.put w _).trans (Kp.of_gr (gr_grow _ _))
theorem sort29_nil (fv : Value) (w : World) : Calls Tryz.prog 89 #[.slice none 0 0, fv] w fun e w' => e = .returned (.tuple #[]) ∧ w' = w := by
  have hc := AnyF.slices_SortFunc_none Tryz.laidSort none 0 fv w
  exact hc

/-- A list that came out: its hits, in memory of its own. -/
def Out (w w' : World) (v : Value) (l : List Ht) : Prop := Own w' v l.toArray ∧ Gr w w' ∧ ∀ g, v.ownBlock = some g → w.heap.size ≤ g

set_option maxHeartbeats 2000000 in
theorem list16 {w : World} {hb : Nat} {k : Int} {v : Value} {d : Array Ht} (h : Hp w hb k v d) (hn : d.size ≤ 4000) :
    Calls Tryz.prog 51 #[.pointer (some ⟨hb, 0, none⟩)] w fun e w' => ∃ v', e = .returned v' ∧ Out w w' v' (srt d.toList) := by
  have c1 := h.cell1
  have H : Hid (Own w v d ∧ d.size ≤ 4000) := ⟨h.own, hn⟩
  rcases h.own.2 with ⟨rfl, h0⟩ | ⟨g, cap, cur, rfl, _⟩
  · have D : Hid (d = #[]) := Array.eq_empty_of_size_eq_zero h0
    clear h hn h0
    go_enter Tryz.func51, Tryz.ntmps51
    go_wp2_with fail
    refine (clone28_nil _).mono ?_
    rintro e w' ⟨rfl, e2⟩
    subst e2
    go_wp2_with fail
    refine (sort29_nil _ _).mono ?_
    rintro e w2 ⟨rfl, e2⟩
    subst e2
    go_wp2
    go_ret
    refine ⟨.slice none 0 0, rfl, ?_, Below.refl _ _, by simp [Value.ownBlock]⟩
    rw [D.out, show srt (#[] : Array Ht).toList = [] by simp [srt]]
    exact own_nil _
  · obtain ⟨n, hN⟩ : ∃ n, n = d.size := ⟨_, rfl⟩
    have N : Hid (d.size = n) := hN.symm
    rw [← hN] at c1
    have H2 : Hid (Own w (.slice (some ⟨g, 0, none⟩) n cap) d ∧ n ≤ 4000) := by rw [hN]; exact H
    clear h hn hN H
    go_enter Tryz.func51, Tryz.ntmps51
    go_wp2_with fail
    refine (clone28 H2.out.1 N.out H2.out.2).mono ?_
    rintro e w1 ⟨g', cap', rfl, hg, ho, hG⟩
    have X : Hid (Own w1 (.slice (some ⟨g', 0, none⟩) n cap') d ∧ Gr w w1 ∧ w.heap.size ≤ g') := ⟨ho, hG, hg⟩
    clear hg ho hG c1
    go_wp2_with fail
    refine (sort29 X.out.1 N.out H2.out.2).mono ?_
    rintro e w2 ⟨rfl, ho, hK⟩
    have Y : Hid (Own w2 (.slice (some ⟨g', 0, none⟩) n cap') (srt d.toList).toArray ∧ Kp (fun b => b = g') w1 w2) := ⟨ho, hK⟩
    clear ho hK
    go_wp2
    go_ret
    refine ⟨.slice (some ⟨g', 0, none⟩) n cap', rfl, Y.out.1, X.out.2.1.trans (Y.out.2.gr X.out.2.1.size (fun k e => by rw [e]; exact X.out.2.2)), ?_⟩
    intro g2 e
    simp [Value.ownBlock] at e
    rw [← e]; exact X.out.2.2
end Go.Proofs.YtepjbdklljlecabGreat.Tk

/- Sorted lists of hits, plainly: a hit more, the first k. -/
namespace Go.Proofs.YtepjbdklljlecabGreat.Tk
open Go.RowKit Go.Sort

/-- None behind a later one. -/
def Srtd (l : List Ht) : Prop := l.Pairwise fun x y => hlt y x = false
theorem srt_srtd (l : List Ht) : Srtd (srt l) := by
  have h := List.pairwise_mergeSort (le := fun x y => !hlt y x) (fun a b c h1 h2 => by
    simp only [Bool.not_eq_true'] at *; exact hlt_ntrans h2 h1) (fun a b => by
    cases h : hlt b a
    · simp
    · simp [hlt_asymm h]) l
  exact h.imp (fun h => by simpa using h)
theorem srtd_unique : ∀ (l l' : List Ht), Srtd l → Srtd l' → l.Perm l' → l = l'
  | [], l', _, _, p => (List.Perm.nil_eq p)
  | a :: r, [], _, _, p => absurd p.length_eq (by simp)
  | a :: r, b :: r', h, h', p => by
    have hb : b ∈ a :: r := p.symm.subset List.mem_cons_self
    have ha : a ∈ b :: r' := p.subset List.mem_cons_self
    have e : a = b := by
      rcases List.mem_cons.1 hb with e | hb
      · exact e.symm
      rcases List.mem_cons.1 ha with e | ha
      · exact e
      have h1 := List.rel_of_pairwise_cons h hb
      have h2 := List.rel_of_pairwise_cons h' ha
      exact hlt_tot h2 h1
    subst e
    rw [srtd_unique r r' (List.Pairwise.of_cons h) (List.Pairwise.of_cons h') (List.Perm.cons_inv p)]
theorem srt_of_perm {l m : List Ht} (h : Srtd m) (p : l.Perm m) : srt l = m := srtd_unique _ _ (srt_srtd l) h ((srt_perm l).trans p)

/-- A sorted list with one more. -/
def ins (x : Ht) : List Ht → List Ht
  | [] => [x]
  | y :: r => if hlt x y = true then x :: y :: r else y :: ins x r
theorem ins_perm (x : Ht) : ∀ l, (ins x l).Perm (x :: l)
  | [] => List.Perm.refl _
  | y :: r => by
    unfold ins
    split
    · exact List.Perm.refl _
    · exact ((ins_perm x r).cons y).trans (List.Perm.swap x y r)
theorem ins_len (x : Ht) (l : List Ht) : (ins x l).length = l.length + 1 := by rw [(ins_perm x l).length_eq]; rfl
theorem ins_srtd (x : Ht) : ∀ l, Srtd l → Srtd (ins x l)
  | [], _ => List.pairwise_singleton _ _
  | y :: r, h => by
    unfold ins
    split
    · rename_i hx
      refine List.Pairwise.cons ?_ h
      intro z hz
      rcases List.mem_cons.1 hz with rfl | hz
      · exact hlt_asymm hx
      · exact hlt_ntrans (List.rel_of_pairwise_cons h hz) (hlt_asymm hx)
    · rename_i hx
      refine List.Pairwise.cons ?_ (ins_srtd x r (List.Pairwise.of_cons h))
      intro z hz
      rcases List.mem_cons.1 ((ins_perm x r).subset hz) with rfl | hz
      · simpa using hx
      · exact List.rel_of_pairwise_cons h hz
theorem srt_snoc (l : List Ht) (x : Ht) : srt (l ++ [x]) = ins x (srt l) := by
  refine srt_of_perm (ins_srtd x _ (srt_srtd l)) ?_
  refine List.Perm.trans ?_ (ins_perm x _).symm
  exact (List.perm_append_singleton x l).trans ((srt_perm l).symm.cons x)

/-- A heap's hits behind one more. -/
def keep (k : Nat) (m : List Ht) (x : Ht) : List Ht := (ins x m).take k
def kept (k : Nat) (m : List Ht) (x : Ht) : Bool := decide (m.length < k) || hlt x m[k - 1]!
theorem take_ins (x : Ht) : ∀ (k : Nat) (l : List Ht), (ins x l).take k = (ins x (l.take k)).take k
  | 0, _ => by simp
  | k + 1, [] => by simp
  | k + 1, y :: r => by
    simp only [List.take_succ_cons]
    unfold ins
    split
    · simp only [List.take_succ_cons]
      cases k with
      | zero => simp
      | succ k => simp [List.take_succ_cons, List.take_take, Nat.min_eq_left (Nat.le_succ k)]
    · simp only [List.take_succ_cons]
      rw [take_ins x k r]
/-- The first k of some hits. -/
def firsts (k : Nat) (l : List Ht) : List Ht := (srt l).take k
theorem firsts_snoc (k : Nat) (l : List Ht) (x : Ht) : firsts k (l ++ [x]) = keep k (firsts k l) x := by
  unfold firsts keep
  rw [srt_snoc, take_ins]
theorem firsts_nil (k : Nat) : firsts k [] = [] := by simp [firsts, srt]
theorem firsts_srtd (k : Nat) (l : List Ht) : Srtd (firsts k l) := (srt_srtd l).sublist (List.take_sublist k _)
theorem firsts_len (k : Nat) (l : List Ht) : (firsts k l).length = min k l.length := by simp [firsts, srt_len]
theorem firsts_perm (k : Nat) {l l' : List Ht} (p : l.Perm l') : firsts k l = firsts k l' := by
  unfold firsts; rw [srt_of_perm (srt_srtd l') (p.trans (srt_perm l').symm)]
theorem keep_srtd (k : Nat) {m : List Ht} (x : Ht) (h : Srtd m) : Srtd (keep k m x) := (ins_srtd x m h).sublist (List.take_sublist k _)
theorem keep_more {k : Nat} {m : List Ht} (x : Ht) (h : m.length < k) : keep k m x = ins x m := by
  unfold keep; rw [List.take_of_length_le (by rw [ins_len]; omega)]
theorem last_worst {m : List Ht} (h : Srtd m) (k : Nat) (hk : m.length = k) : ∀ y ∈ m, hlt m[k - 1]! y = false := by
  intro y hy
  subst hk
  obtain ⟨i, hi, rfl⟩ := List.mem_iff_getElem.1 hy
  rw [getElem!_pos m (m.length - 1) (by omega)]
  by_cases e : i = m.length - 1
  · subst e; exact hlt_irrefl _
  · exact List.pairwise_iff_getElem.1 h i (m.length - 1) hi (by omega) (by omega)
theorem ins_no (x : Ht) : ∀ (m : List Ht), (∀ y ∈ m, hlt x y = false) → ins x m = m ++ [x]
  | [], _ => rfl
  | y :: r, h => by
    unfold ins
    rw [if_neg (by rw [h y List.mem_cons_self]; simp), ins_no x r (fun z hz => h z (List.mem_cons_of_mem _ hz))]
    rfl
theorem keep_no {k : Nat} {m : List Ht} {x : Ht} (hs : Srtd m) (h : m.length = k) (hx : hlt x m[k - 1]! = false) : keep k m x = m := by
  unfold keep
  rw [ins_no x m (fun y hy => hlt_ntrans hx (last_worst hs k h y hy)), List.take_append_of_le_length (by omega), List.take_of_length_le (by omega)]
theorem ins_app (x : Ht) (z : Ht) (hx : hlt x z = true) : ∀ (m : List Ht), ins x (m ++ [z]) = ins x m ++ [z]
  | [] => by simp [ins, hx]
  | y :: r => by
    simp only [List.cons_append]
    unfold ins
    split
    · rfl
    · rw [ins_app x z hx r]; rfl
theorem keep_repl {k : Nat} {m : List Ht} {x : Ht} (hk : 0 < k) (h : m.length = k) (hx : hlt x m[k - 1]! = true) : (keep k m x).Perm (x :: m.dropLast) := by
  have hne : m ≠ [] := by intro e; subst e; simp at h; omega
  obtain ⟨a, z, rfl⟩ : ∃ a z, m = a ++ [z] := ⟨m.dropLast, m.getLast hne, (List.dropLast_concat_getLast hne).symm⟩
  simp only [List.length_append, List.length_cons, List.length_nil] at h
  have e : (a ++ [z])[k - 1]! = z := by
    rw [getElem!_pos (a ++ [z]) (k - 1) (by simp; omega), List.getElem_append_right (by omega)]
    simp
  rw [e] at hx
  have hl : (ins x a).length = k := by rw [ins_len]; omega
  unfold keep
  rw [ins_app x z hx, List.take_append_of_le_length (by rw [hl]; exact Nat.le_refl _), List.take_of_length_le (by rw [hl]; exact Nat.le_refl _), List.dropLast_concat]
  exact ins_perm x _
end Go.Proofs.YtepjbdklljlecabGreat.Tk

/- What flat answers, plainly: the hits of rows, their errors, the first k. -/
namespace Go.Proofs.YtepjbdklljlecabGreat
open Go.RowKit Go.Sort

/-- A row's hit for q; all rows'. -/
abbrev hitOf (q : List Int) (r : Rw) : Tk.Ht := (r.1, hi (dst q r.2), lo (dst q r.2))
def hitsOf (q : List Int) (rs : List Rw) : List Tk.Ht := rs.map (hitOf q)
/-- What flat.Check answers; checkAll; begin; Search. -/
def flatE (rs : List Rw) (d : Int) : Int := if 1 ≤ d ∧ d ≤ 64 then idsE rs d else 30
def askE (rs : List Rw) (q : List Int) : Int := if chk q (q.length : Int) = 0 then flatE rs (q.length : Int) else chk q (q.length : Int)
def topE (rs : List Rw) (q : List Int) (k : Int) : Int := if askE rs q = 0 then (if 1 ≤ k ∧ k ≤ 64 then 0 else 1) else askE rs q

theorem chk_is (l : List Int) (d : Int) : chk l d = 0 ∨ chk l d = 30 ∨ chk l d = 31 := by
  unfold chk vErr; (repeat' split) <;> simp
theorem rowE_is (rs : List Rw) (d : Int) (i : Nat) : rowE rs d i = 0 ∨ rowE rs d i = 30 ∨ rowE rs d i = 31 ∨ rowE rs d i = 50 := by
  unfold rowE
  split
  · rcases chk_is rs[i]!.2 d with h | h | h
    · exact .inl h
    · exact .inr (.inl h)
    · exact .inr (.inr (.inl h))
  · exact .inr (.inr (.inr rfl))
theorem rowsTo_is (rs : List Rw) (d : Int) : ∀ q, rowsTo rs d q = 0 ∨ rowsTo rs d q = 30 ∨ rowsTo rs d q = 31 ∨ rowsTo rs d q = 50
  | 0 => .inl rfl
  | q + 1 => by
    rw [rowsTo]
    split
    · exact rowE_is rs d q
    · exact rowsTo_is rs d q
theorem idsE_ne (rs : List Rw) (d : Int) : idsE rs d ≠ 1 := by
  unfold idsE
  split
  · rcases rowsTo_is rs d rs.length with h | h | h | h <;> rw [h] <;> decide
  · decide
theorem idsE_nil (d : Int) : idsE [] d = 0 := rfl
theorem flatE_box (rs : List Rw) (d : Int) : flatE rs d = if boxE rs d = 1 then 0 else boxE rs d := by
  unfold flatE boxE
  by_cases h : 1 ≤ d ∧ d ≤ 64
  · rw [if_pos h, if_pos h]
    by_cases h0 : rs.length = 0
    · obtain rfl := List.length_eq_zero_iff.1 h0
      rw [if_pos h0]; simp [idsE_nil]
    · rw [if_neg h0, if_neg (idsE_ne rs d)]
  · rw [if_neg h, if_neg h]; decide

theorem rowsTo_zero {rs : List Rw} {d : Int} : ∀ q, rowsTo rs d q = 0 ↔ ∀ i, i < q → rowE rs d i = 0
  | 0 => ⟨fun _ i hi => absurd hi (Nat.not_lt_zero _), fun _ => rfl⟩
  | q + 1 => by
    rw [rowsTo]
    constructor
    · intro h
      split at h
      · rename_i h0
        intro i hi
        by_cases e : i = q
        · subst e; exact h
        · exact (rowsTo_zero q).1 h0 i (by omega)
      · rename_i h0; exact absurd h h0
    · intro h
      rw [if_pos ((rowsTo_zero q).2 fun i hi => h i (by omega))]
      exact h q (by omega)
/-- Rows that may be. -/
structure RowsOk (rs : List Rw) (d : Int) : Prop where
  few : rs.length ≤ 512
  ids : (idsOf rs).Pairwise (· ≠ ·)
  row : ∀ r ∈ rs, okId r.1 = true ∧ chk r.2 d = 0
theorem rowE_zero {rs : List Rw} {d : Int} {i : Nat} : rowE rs d i = 0 ↔ ((idsOf rs).take i).contains rs[i]!.1 = false ∧ okId rs[i]!.1 = true ∧ chk rs[i]!.2 d = 0 := by
  unfold rowE
  split
  · rename_i h; exact ⟨fun e => ⟨h.1, h.2, e⟩, fun e => e.2.2⟩
  · rename_i h; exact ⟨fun e => by simp at e, fun e => absurd ⟨e.1, e.2.1⟩ h⟩
theorem ids_get {rs : List Rw} {i : Nat} (hi : i < rs.length) : (idsOf rs)[i]'(by simpa [idsOf] using hi) = rs[i]!.1 := by
  rw [getElem!_pos rs i hi]; simp [idsOf]
theorem idsE_zero {rs : List Rw} {d : Int} : idsE rs d = 0 ↔ RowsOk rs d := by
  unfold idsE
  constructor
  · intro h
    split at h
    · rename_i hn
      have h1 := (rowsTo_zero _).1 h
      refine ⟨hn, ?_, fun r hr => ?_⟩
      · rw [List.pairwise_iff_getElem]
        intro i j hi hj hij e
        have hi' : i < rs.length := by simpa [idsOf] using hi
        have hj' : j < rs.length := by simpa [idsOf] using hj
        have h2 := (rowE_zero.1 (h1 j hj')).1
        rw [← ids_get hj', ← e] at h2
        have : ((idsOf rs).take j).contains (idsOf rs)[i] = true := by
          rw [List.contains_iff_mem]
          exact List.mem_iff_getElem.2 ⟨i, by simp [idsOf]; omega, by simp⟩
        rw [this] at h2; cases h2
      · obtain ⟨i, hi, rfl⟩ := List.mem_iff_getElem.1 hr
        have h2 := rowE_zero.1 (h1 i hi)
        rw [getElem!_pos rs i hi] at h2
        exact h2.2
    · cases h
  · rintro ⟨h1, h2, h3⟩
    rw [if_pos h1, rowsTo_zero]
    intro i hi
    have h4 := h3 rs[i] (List.getElem_mem hi)
    rw [rowE_zero, getElem!_pos rs i hi]
    refine ⟨?_, h4⟩
    rw [← Bool.not_eq_true, List.contains_iff_mem]
    intro hm
    obtain ⟨j, hj, e⟩ := List.mem_iff_getElem.1 hm
    have hji : j < i := by have := hj; simp at this; omega
    have := List.pairwise_iff_getElem.1 h2 j i (by simp [idsOf]; omega) (by simp [idsOf]; omega) hji
    apply this
    rw [List.getElem_take] at e
    rw [e, ids_get hi, getElem!_pos rs i hi]
theorem RowsOk.perm {rs rs' : List Rw} {d : Int} (h : RowsOk rs d) (p : rs.Perm rs') : RowsOk rs' d :=
  ⟨by rw [← p.length_eq]; exact h.few, (List.Perm.pairwise_iff (fun h => Ne.symm h) (p.map _)).1 h.ids, fun r hr => h.row r (p.mem_iff.2 hr)⟩
theorem RowsOk.sub {rs rs' : List Rw} {d : Int} (h : RowsOk rs d) (p : rs'.Sublist rs) : RowsOk rs' d :=
  ⟨Nat.le_trans p.length_le h.few, h.ids.sublist (p.map _), fun r hr => h.row r (p.subset hr)⟩
theorem flatE_zero {rs : List Rw} {d : Int} : flatE rs d = 0 ↔ (1 ≤ d ∧ d ≤ 64) ∧ RowsOk rs d := by
  unfold flatE
  split
  · rename_i h; rw [idsE_zero]; exact ⟨fun e => ⟨h, e⟩, fun e => e.2⟩
  · rename_i h; exact ⟨fun e => by simp at e, fun e => absurd e.1 h⟩
theorem askE_zero {rs : List Rw} {q : List Int} : askE rs q = 0 ↔ chk q (q.length : Int) = 0 ∧ RowsOk rs (q.length : Int) := by
  unfold askE
  split
  · rename_i h
    have := chk_ok h
    rw [flatE_zero]
    exact ⟨fun e => ⟨h, e.2⟩, fun e => ⟨⟨by omega, by omega⟩, e.2⟩⟩
  · rename_i h; exact ⟨fun e => absurd e h, fun e => absurd e.1 h⟩
theorem topE_zero {rs : List Rw} {q : List Int} {k : Int} : topE rs q k = 0 ↔ askE rs q = 0 ∧ 1 ≤ k ∧ k ≤ 64 := by
  unfold topE
  split
  · rename_i h
    split
    · rename_i h1; simp [h, h1]
    · rename_i h1; simp [h]; omega
  · rename_i h; exact ⟨fun e => absurd e h, fun e => absurd e.1 h⟩
theorem row_dist {rs : List Rw} {q : List Int} (h : askE rs q = 0) {r : Rw} (hr : r ∈ rs) : distE q r.2 = 0 ∧ distV q r.2 = dst q r.2 := by
  obtain ⟨h1, h2⟩ := askE_zero.1 h
  have e : distE q r.2 = 0 := by unfold distE; rw [if_pos h1]; exact (h2.row r hr).2
  exact ⟨e, by unfold distV; rw [if_pos e]⟩

theorem hitsOf_perm (q : List Int) {rs rs' : List Rw} (p : rs.Perm rs') : (hitsOf q rs).Perm (hitsOf q rs') := p.map _
theorem hitsOf_app (q : List Int) (a b : List Rw) : hitsOf q (a ++ b) = hitsOf q a ++ hitsOf q b := by simp [hitsOf]
theorem hitsOf_snoc (q : List Int) {rs : List Rw} {i : Nat} (hi' : i < rs.length) : hitsOf q (rs.take (i + 1)) = hitsOf q (rs.take i) ++ [hitOf q rs[i]!] := by
  rw [List.take_succ_eq_append_getElem hi', hitsOf_app, getElem!_pos rs i hi']; rfl
end Go.Proofs.YtepjbdklljlecabGreat

/- The reference's With: a rising list with one more. -/
namespace Go.Proofs.YtepjbdklljlecabGreat
open Go.RowKit Go.Sort Go.Maps

def SrtI (l : List Int) : Prop := l.Pairwise fun x y => x ≤ y
theorem srt_perm (l : List Int) : (srt l).Perm l := List.mergeSort_perm l _
theorem srt_srtI (l : List Int) : SrtI (srt l) := by
  have h := List.pairwise_mergeSort (le := fun x y : Int => decide (x ≤ y)) (fun a b c h1 h2 => by
    simp only [decide_eq_true_eq] at *; omega) (fun a b => by
    by_cases h : a ≤ b
    · simp [h]
    · have : b ≤ a := by omega
      simp [this]) l
  exact h.imp (fun h => by simpa using h)
theorem srtI_unique : ∀ (l l' : List Int), SrtI l → SrtI l' → l.Perm l' → l = l'
  | [], l', _, _, p => (List.Perm.nil_eq p)
  | a :: r, [], _, _, p => absurd p.length_eq (by simp)
  | a :: r, b :: r', h, h', p => by
    have hb : b ∈ a :: r := p.symm.subset List.mem_cons_self
    have ha : a ∈ b :: r' := p.subset List.mem_cons_self
    have e : a = b := by
      rcases List.mem_cons.1 hb with e | hb
      · exact e.symm
      rcases List.mem_cons.1 ha with e | ha
      · exact e
      have h1 := List.rel_of_pairwise_cons h hb
      have h2 := List.rel_of_pairwise_cons h' ha
      omega
    subst e
    rw [srtI_unique r r' (List.Pairwise.of_cons h) (List.Pairwise.of_cons h') (List.Perm.cons_inv p)]
end Go.Proofs.YtepjbdklljlecabGreat

/- Plain facts on distances: both ways the same, nought just of a list and itself, the way round by a third one. -/
namespace Go.Proofs.YtepjbdklljlecabGreat

theorem gap_abs (x y : Int) : gap x x y = (x - y).natAbs := by unfold gap; split <;> (try split) <;> omega
theorem gap_comm (x y : Int) : gap x x y = gap y y x := by rw [gap_abs, gap_abs]; omega
theorem sumN_ext {f g : Nat → Nat} {n : Nat} (h : ∀ i, i < n → f i = g i) : sumN f n = sumN g n := by
  induction n with
  | zero => rfl
  | succ n ih => simp only [sumN]; rw [ih (fun i hi => h i (by omega)), h n (by omega)]
theorem sumN_mono {f g : Nat → Nat} {n : Nat} (h : ∀ i, i < n → f i ≤ g i) : sumN f n ≤ sumN g n := by
  induction n with
  | zero => exact Nat.le_refl _
  | succ n ih =>
    have := ih (fun i hi => h i (by omega))
    have := h n (by omega)
    simp only [sumN]; omega
theorem sumN_zero {f : Nat → Nat} {n : Nat} (h : sumN f n = 0) {i : Nat} (hi : i < n) : f i = 0 := by
  induction n with
  | zero => omega
  | succ n ih =>
    simp only [sumN] at h
    by_cases e : i = n
    · subst e; omega
    · exact ih (by omega) (by omega)
theorem sumN_mul (f : Nat → Nat) (c n : Nat) : sumN (fun i => c * f i) n = c * sumN f n := by
  induction n with
  | zero => rfl
  | succ n ih => simp only [sumN]; rw [ih, Nat.mul_add]
theorem sumN_add (f g : Nat → Nat) (n : Nat) : sumN (fun i => f i + g i) n = sumN f n + sumN g n := by
  induction n with
  | zero => rfl
  | succ n ih => simp only [sumN]; rw [ih]; omega
theorem dst_comm {a b : List Int} (h : a.length = b.length) : dst a b = dst b a := by
  unfold dst; rw [h]
  exact sumN_ext (fun i _ => by rw [gap_comm])
/-- One coordinate of the way round. -/
theorem tri_one (x y z : Int) (t u : Nat) : t * u * (gap x x z * gap x x z) ≤ u * (t + u) * (gap x x y * gap x x y) + t * (t + u) * (gap y y z * gap y y z) := by
  rw [gap_abs, gap_abs, gap_abs]
  have e1 : ((x - z).natAbs : Int) * ((x - z).natAbs : Int) = (x - z) * (x - z) := by rw [Int.natAbs_mul_self' (x - z)]
  have e2 : ((x - y).natAbs : Int) * ((x - y).natAbs : Int) = (x - y) * (x - y) := by rw [Int.natAbs_mul_self' (x - y)]
  have e3 : ((y - z).natAbs : Int) * ((y - z).natAbs : Int) = (y - z) * (y - z) := by rw [Int.natAbs_mul_self' (y - z)]
  apply Int.ofNat_le.1
  simp only [Int.natCast_mul, Int.natCast_add]
  rw [e1, e2, e3]
  have h : 0 ≤ ((u : Int) * (x - y) - (t : Int) * (y - z)) * ((u : Int) * (x - y) - (t : Int) * (y - z)) := by
    rcases Int.le_total 0 ((u : Int) * (x - y) - (t : Int) * (y - z)) with h | h
    · exact Int.mul_nonneg h h
    · exact Int.mul_nonneg_of_nonpos_of_nonpos h h
  have h2 : (t : Int) * u * ((x - z) * (x - z)) + ((u : Int) * (x - y) - (t : Int) * (y - z)) * ((u : Int) * (x - y) - (t : Int) * (y - z)) = (u : Int) * (t + u) * ((x - y) * (x - y)) + (t : Int) * (t + u) * ((y - z) * (y - z)) := by
    grind
  omega
theorem tri_sum (a b c : List Int) (hab : a.length = b.length) (t u : Nat) : t * u * dst a c ≤ u * (t + u) * dst a b + t * (t + u) * dst b c := by
  unfold dst
  rw [← hab, ← sumN_mul, ← sumN_mul, ← sumN_mul, ← sumN_add]
  exact sumN_mono (fun i _ => tri_one _ _ _ t u)
/-- If a and b are nearer than t, b and c nearer than u, then a and c are nearer than both. -/
theorem tri_lt {a b c : List Int} (hab : a.length = b.length) {t u : Nat} (h1 : dst a b ≤ t * t) (h2 : dst b c < u * u) : dst a c < (t + u) * (t + u) := by
  by_cases ht : t = 0
  · subst ht
    have hA : dst a b = 0 := by omega
    have h := tri_sum a b c hab 1 (dst b c + 1)
    rw [hA] at h
    apply Nat.lt_of_le_of_lt _ (show dst b c < (0 + u) * (0 + u) by simpa using h2)
    apply Nat.le_of_not_lt
    intro hc
    have h3 : (dst b c + 1) * (dst b c + 1) ≤ (dst b c + 1) * dst a c := Nat.mul_le_mul_left _ hc
    simp only [Nat.one_mul, Nat.mul_zero, Nat.zero_add] at h
    have h4 : (dst b c + 1) * (dst b c + 1) ≤ (1 + (dst b c + 1)) * dst b c := Nat.le_trans h3 h
    rw [Nat.add_mul 1, Nat.mul_add] at h4
    omega
  · have hu : u ≠ 0 := by rintro rfl; simp at h2
    have h := tri_sum a b c hab t u
    have k1 : u * (t + u) * dst a b ≤ u * (t + u) * (t * t) := Nat.mul_le_mul_left _ h1
    have k2 : t * (t + u) * dst b c < t * (t + u) * (u * u) := Nat.mul_lt_mul_of_pos_left h2 (Nat.mul_pos (by omega) (by omega))
    have k3 : u * (t + u) * (t * t) + t * (t + u) * (u * u) = t * u * ((t + u) * (t + u)) := by grind
    exact Nat.lt_of_mul_lt_mul_left (a := t * u) (by omega)
/-- A ball's bound. -/
theorem ball_bound {l v q : List Int} (hlv : l.length = v.length) {R : Nat} (h : dst l v ≤ R) : ballV (dst l q) R ≤ dst v q := by
  unfold ballV
  split
  · exact Nat.zero_le _
  · rename_i h0
    apply Nat.le_of_not_lt
    intro hc
    have hR : R ≤ rup R * rup R := by
      unfold rup; split
      · rename_i e; omega
      · have := (rt_is R).2; omega
    have hu : rup R < rt (dst l q) := by
      apply Nat.lt_of_not_le; intro hle
      rw [Nat.sub_eq_zero_of_le hle] at hc; simp at hc
    have := tri_lt (c := q) hlv (t := rup R) (u := rt (dst l q) - rup R) (by omega) hc
    rw [Nat.add_sub_cancel' (by omega)] at this
    have := (rt_is (dst l q)).1
    omega
theorem gap_out {l h x y : Int} (h1 : gap l h x = 0) : gap l h y ≤ gap x x y := by
  unfold gap at *; split at h1 <;> (try split at h1) <;> split <;> (try split) <;> (try split) <;> (try split) <;> omega
/-- THE BOUND: whatever lies in a region is at least as far away. -/
theorem bound_le {r : Reg} {v q : List Int} (h1 : ckB r v = 0) (h2 : ckB r q = 0) (hin : inV r v = true) : bdV r q ≤ dst v q := by
  unfold bdV
  unfold inV at hin
  split
  · rename_i s
    rw [if_pos s] at hin
    obtain ⟨a1, a2, a3, a4, a5, a6, a7⟩ := box_ok h1 s
    obtain ⟨b1, b2, b3, b4, b5, b6, b7⟩ := box_ok h2 s
    have h0 : bx r.L r.H v = 0 := by simpa using hin
    have e : v.length = q.length := by omega
    unfold bx bxN at h0 ⊢
    unfold dst
    rw [e] at h0 ⊢
    refine sumN_mono (fun i hi => ?_)
    have h3 := sumN_zero h0 hi
    have h4 : gap r.L[i]! r.H[i]! v[i]! = 0 := by
      rcases Nat.mul_eq_zero.1 h3 with h | h <;> exact h
    exact Nat.mul_le_mul (gap_out h4) (gap_out h4)
  · rename_i s
    rw [if_neg s] at hin
    split
    · rename_i s3
      rw [if_pos s3] at hin
      obtain ⟨a1, _⟩ := ball_ok h1 s3
      exact ball_bound a1 (by simpa using hin)
    · exact Nat.zero_le _
end Go.Proofs.YtepjbdklljlecabGreat

/- theodolitekeep.Spoil: what it writes over is the answer's own. -/
namespace Go.Proofs.YtepjbdklljlecabGreat
open Go.RowKit Go.Sort

/-- No block of cells has turned but of these types; those keep their size, and numbers stay numbers. -/
structure Shp (P : TypeId → Prop) (W W' : World) : Prop where
  keep : ∀ (k : Nat) (cur : Array Value) (t : TypeId) (f : Nat × Nat), W.heap[k]? = some (.cells cur t f) → ¬ P t → W'.heap[k]? = W.heap[k]?
  size : ∀ (k : Nat) (cur : Array Value) (t : TypeId) (f : Nat × Nat), W.heap[k]? = some (.cells cur t f) → ∃ cur', W'.heap[k]? = some (.cells cur' t f) ∧ cur'.size = cur.size ∧ (t = 3 → ∀ (i : Nat) (x : Int), cur[i]? = some (.int .i64 x) → ∃ y : Int, cur'[i]? = some (.int .i64 y))
theorem Shp.refl (P : TypeId → Prop) (W : World) : Shp P W W := ⟨fun _ _ _ _ _ _ => rfl, fun _ cur _ _ h => ⟨cur, h, rfl, fun _ _ x hx => ⟨x, hx⟩⟩⟩
theorem Shp.trans {P : TypeId → Prop} {a b c : World} (h : Shp P a b) (g : Shp P b c) : Shp P a c := by
  refine ⟨fun k cur t f e n => ?_, fun k cur t f e => ?_⟩
  · have h1 := h.keep k cur t f e n
    exact (g.keep k cur t f (h1.trans e) n).trans h1
  · obtain ⟨c1, e1, s1, i1⟩ := h.size k cur t f e
    obtain ⟨c2, e2, s2, i2⟩ := g.size k c1 t f e1
    refine ⟨c2, e2, s2.trans s1, fun e3 i x hx => ?_⟩
    obtain ⟨y, hy⟩ := i1 e3 i x hx
    exact i2 e3 i y hy
theorem Shp.mono {P Q : TypeId → Prop} {a b : World} (h : Shp P a b) (hp : ∀ t, P t → Q t) : Shp Q a b := ⟨fun k cur t f e n => h.keep k cur t f e fun p => n (hp t p), h.size⟩
theorem Shp.gb {P : TypeId → Prop} {a b : World} (g : Gb a b) : Shp P a b :=
  ⟨fun k _ _ _ e _ => g.block k (Array.getElem?_eq_some_iff.1 e).1, fun k cur _ _ e => ⟨cur, (g.block k (Array.getElem?_eq_some_iff.1 e).1).trans e, rfl, fun _ _ x hx => ⟨x, hx⟩⟩⟩
theorem heap_set {W : World} {g o : Nat} {x : Value} {cur : Array Value} {t : TypeId} {f : Nat × Nat} (h : W.heap[g]? = some (.cells cur t f)) : (W.setCell ⟨g, o, none⟩ x).heap[g]? = some (.cells (cur.setIfInBounds o x) t f) := by
  simp [World.setCell, Array.getElem?_modify, h]
theorem Shp.set {P : TypeId → Prop} {W : World} {g : Nat} {cur : Array Value} {t : TypeId} {f : Nat × Nat} (h : W.heap[g]? = some (.cells cur t f)) (hp : P t) (o : Nat) (x : Value) (hx : t = 3 → ∃ y : Int, x = .int .i64 y) : Shp P W (W.setCell ⟨g, o, none⟩ x) := by
  refine ⟨fun k cur' t' f' e n => ?_, fun k cur' t' f' e => ?_⟩
  · by_cases hk : k = g
    · subst hk; rw [h] at e; cases e; exact absurd hp n
    · exact Below.heap_setCell _ _ _ _ (by dsimp only; exact hk)
  · by_cases hk : k = g
    · subst hk
      rw [h] at e; cases e
      refine ⟨_, heap_set h, by simp, fun e3 i z hz => ?_⟩
      by_cases hi : i = o
      · subst hi
        obtain ⟨y, rfl⟩ := hx e3
        have hlt : i < cur.size := (Array.getElem?_eq_some_iff.1 hz).1
        exact ⟨y, by rw [Array.getElem?_setIfInBounds_self_of_lt hlt]⟩
      · exact ⟨z, by rw [Array.getElem?_setIfInBounds_ne (fun e => hi e.symm)]; exact hz⟩
    · exact ⟨cur', (Below.heap_setCell _ _ _ _ (by dsimp only; exact hk)).trans e, rfl, fun _ _ z hz => ⟨z, hz⟩⟩
/-- Nothing has turned but in the blocks from B on below T, and these only so. -/
structure MS (P : TypeId → Prop) (B T : Nat) (W W' : World) : Prop where
  mid : Mid B T W W'
  shp : Shp P W W'
theorem Mid.trans {B T : Nat} {a b c : World} (h : Mid B T a b) (g : Mid B T b c) : Mid B T a c :=
  ⟨g.os.trans h.os, g.tape.trans h.tape, g.output.trans h.output, Nat.le_trans h.size g.size, fun k hk hb => (g.block k (Nat.lt_of_lt_of_le hk h.size) hb).trans (h.block k hk hb)⟩
theorem mid_gb {B T : Nat} {a b : World} (g : Gb a b) : Mid B T a b := ⟨g.os, g.tape, g.output, g.size, fun k hk _ => g.block k hk⟩
theorem MS.refl (P : TypeId → Prop) (B T : Nat) (W : World) : MS P B T W W := ⟨Mid.refl _ _ _, Shp.refl _ _⟩
theorem MS.trans {P : TypeId → Prop} {B T : Nat} {a b c : World} (h : MS P B T a b) (g : MS P B T b c) : MS P B T a c := ⟨h.mid.trans g.mid, h.shp.trans g.shp⟩
theorem MS.mono {P Q : TypeId → Prop} {B T : Nat} {a b : World} (h : MS P B T a b) (hp : ∀ t, P t → Q t) : MS Q B T a b := ⟨h.mid, h.shp.mono hp⟩
theorem ms_gb {P : TypeId → Prop} {B T : Nat} {a b : World} (g : Gb a b) : MS P B T a b := ⟨mid_gb g, Shp.gb g⟩
theorem MS.set {P : TypeId → Prop} {B T g : Nat} {W0 W : World} {cur : Array Value} {t : TypeId} {f : Nat × Nat} (m : MS P B T W0 W) (h1 : B ≤ g) (h2 : g < T) (h : W.heap[g]? = some (.cells cur t f)) (hp : P t) (o : Nat) (x : Value) (hx : t = 3 → ∃ y : Int, x = .int .i64 y) : MS P B T W0 (W.setCell ⟨g, o, none⟩ x) :=
  ⟨⟨m.mid.os, m.mid.tape, m.mid.output, by simpa [World.setCell] using m.mid.size, fun k hk hb => (Below.heap_setCell _ _ _ _ (by dsimp only; omega)).trans (m.mid.block k hk hb)⟩, m.shp.trans (Shp.set h hp o x hx)⟩
theorem MS.cell {P : TypeId → Prop} {B T b o : Nat} {W W' : World} {v : Value} (m : MS P B T W W') (hb : T ≤ b) (h : W.cell? ⟨b, o, none⟩ = some v) : W'.cell? ⟨b, o, none⟩ = some v :=
  (World.cell?_of_block (a := ⟨b, o, none⟩) (m.mid.block b (World.block_lt_of_cell? W _ h) (.inr hb))).trans h
/-- A list of cells, k a place, that may be written over. -/
def WL (W : World) (B T : Nat) (ty : TypeId) (k : Nat) (a : Option Addr) (n : Nat) : Prop := n = 0 ∨ ∃ g cur, a = some ⟨g, 0, none⟩ ∧ B ≤ g ∧ g < T ∧ W.heap[g]? = some (.cells cur ty (0, 0)) ∧ n * k ≤ cur.size
theorem WL.ms {P : TypeId → Prop} {W W' : World} {B T B' T' : Nat} {ty : TypeId} {k : Nat} {a : Option Addr} {n : Nat} (h : WL W B T ty k a n) (m : MS P B' T' W W') : WL W' B T ty k a n := by
  rcases h with h | ⟨g, cur, e, h1, h2, h3, h4⟩
  · exact .inl h
  · obtain ⟨c1, e1, s1, _⟩ := m.shp.size g cur ty (0, 0) h3
    exact .inr ⟨g, c1, e, h1, h2, e1, by omega⟩
/-- A list of numbers that may be written over. -/
def WI (W : World) (B T : Nat) (v : Value) : Prop := ∃ a n c, v = .slice a n c ∧ n ≤ 4611686018427387904 ∧ (n = 0 ∨ ∃ g cur, a = some ⟨g, 0, none⟩ ∧ B ≤ g ∧ g < T ∧ W.heap[g]? = some (.cells cur 3 (0, 0)) ∧ ∀ i, i < n → ∃ x : Int, cur[i]? = some (.int .i64 x))
theorem WI.ms {P : TypeId → Prop} {W W' : World} {B T B' T' : Nat} {v : Value} (h : WI W B T v) (m : MS P B' T' W W') : WI W' B T v := by
  obtain ⟨a, n, c, rfl, hn, h⟩ := h
  refine ⟨a, n, c, rfl, hn, ?_⟩
  rcases h with h | ⟨g, cur, e, h1, h2, h3, h4⟩
  · exact .inl h
  · obtain ⟨c1, e1, s1, i1⟩ := m.shp.size g cur 3 (0, 0) h3
    exact .inr ⟨g, c1, e, h1, h2, e1, fun i hi => by obtain ⟨x, hx⟩ := h4 i hi; exact i1 rfl i x hx⟩
theorem wi_own {W : World} {B T : Nat} {v : Value} {l : List Int} (h : Own W B v l) (hn : l.length ≤ 4611686018427387904) (hT : ∀ g, v.ownBlock = some g → g < T) : WI W B T v := by
  rcases h.2 with ⟨rfl, h0⟩ | ⟨g, cap, cur, rfl, hb, hh, hc, _, hs, ht⟩
  · exact ⟨none, 0, 0, rfl, Nat.zero_le _, .inl rfl⟩
  · refine ⟨_, _, _, rfl, hn, .inr ⟨g, cur, rfl, hb, hT g rfl, hh, fun i hi => ?_⟩⟩
    have h1 : (cur.toList.take (l.length * 1))[i]? = (l.map (Value.int .i64))[i]? := by rw [ht]
    rw [List.getElem?_take_of_lt (by omega), List.getElem?_map, List.getElem?_eq_getElem hi] at h1
    exact ⟨l[i], by simpa using h1⟩
/-- An answer that may be written over. -/
structure OwnA (W : World) (B T : Nat) (vh vs vr : Value) : Prop where
  top : T ≤ W.heap.size
  hits : ∃ a n c, vh = .slice a n c ∧ n ≤ 4611686018427387904 ∧ WL W B T 60 3 a n
  seen : WI W B T vs
  rest : ∃ a n c, vr = .slice a n c ∧ n ≤ 4611686018427387904 ∧ (n = 0 ∨ ∃ g cur, a = some ⟨g, 0, none⟩ ∧ B ≤ g ∧ g < T ∧ W.heap[g]? = some (.cells cur 79 (0, 0)) ∧
    ∀ i, i < n → ∃ (S : Int) (vl vu : Value) (h l : Int) (vi : Value), cur[i * 6]? = some (.int .i64 S) ∧ cur[i * 6 + 1]? = some vl ∧ cur[i * 6 + 2]? = some vu ∧ cur[i * 6 + 3]? = some (.int .u64 h) ∧ cur[i * 6 + 4]? = some (.int .u64 l) ∧ cur[i * 6 + 5]? = some vi ∧ WI W B T vl ∧ WI W B T vu ∧ WI W B T vi)
theorem OwnA.gb {W W' : World} {B T : Nat} {vh vs vr : Value} (h : OwnA W B T vh vs vr) (g : Gb W W') : OwnA W' B T vh vs vr := by
  have m : MS (fun _ => False) B T W W' := ms_gb g
  obtain ⟨a, n, c, e, hn, hl⟩ := h.hits
  obtain ⟨a', n', c', e', hn', hl'⟩ := h.rest
  refine ⟨Nat.le_trans h.top g.size, ⟨a, n, c, e, hn, hl.ms m⟩, h.seen.ms m, ⟨a', n', c', e', hn', ?_⟩⟩
  rcases hl' with h0 | ⟨x, cur, h1, h2, h3, h4, h5⟩
  · exact .inl h0
  · refine .inr ⟨x, cur, h1, h2, h3, (g.block x (Array.getElem?_eq_some_iff.1 h4).1).trans h4, fun i hi => ?_⟩
    obtain ⟨S, vl, vu, p, l, vi, d0, d1, d2, d3, d4, d5, w1, w2, w3⟩ := h5 i hi
    exact ⟨S, vl, vu, p, l, vi, d0, d1, d2, d3, d4, d5, w1.ms m, w2.ms m, w3.ms m⟩
end Go.Proofs.YtepjbdklljlecabGreat
