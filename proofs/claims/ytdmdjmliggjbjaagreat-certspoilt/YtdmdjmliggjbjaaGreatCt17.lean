import Derived.Test.YtdmdjmliggjbjaaGreatCt16
import Derived.Test.YtdmdjmliggjbjaaGreatCt11
import Derived.RangeFuncNested
import Derived.RangeFuncBound
import Derived.RangeFuncCalls
import Derived.RangeFuncLeaves
import Derived.Shelf.Abstract
import Derived.Shelf.RegionOpen
import Derived.WalkKit
import Derived.OwnWalkIn
import Derived.TacticsInMore
import Derived.LoopNIn
import Derived.LoopIn
import Derived.Test.YtdmdjmliggjbjaaGreatCtInB
/- Sorted lists of hits, plainly: a hit more, the first k. -/
namespace Go.Proofs.YtdmdjmliggjbjaaGreat.Tk
open Go.RowKit Go.Sort

/-- None behind a later one. -/
def Srtd (l : List Ht) : Prop := l.Pairwise fun x y => hlt y x = false
theorem srt_srtd (l : List Ht) : Srtd (srt l) := by
  have h := List.pairwise_mergeSort (le := fun x y => !hlt y x) (fun a b c h1 h2 => by
    simp only [Bool.not_eq_true'] at *; exact hlt_ntrans h2 h1) (fun a b => by
    cases h : hlt b a
    · simp
    · simp [hlt_asymm h]) l
  exact h.imp (fun h => by simpa using h)
theorem srtd_unique : ∀ (l l' : List Ht), Srtd l → Srtd l' → l.Perm l' → l = l'
  | [], l', _, _, p => (List.Perm.nil_eq p)
  | a :: r, [], _, _, p => absurd p.length_eq (by simp)
  | a :: r, b :: r', h, h', p => by
    have hb : b ∈ a :: r := p.symm.subset List.mem_cons_self
    have ha : a ∈ b :: r' := p.subset List.mem_cons_self
    have e : a = b := by
      rcases List.mem_cons.1 hb with e | hb
      · exact e.symm
      rcases List.mem_cons.1 ha with e | ha
      · exact e
      have h1 := List.rel_of_pairwise_cons h hb
      have h2 := List.rel_of_pairwise_cons h' ha
      exact hlt_tot h2 h1
    subst e
    rw [srtd_unique r r' (List.Pairwise.of_cons h) (List.Pairwise.of_cons h') (List.Perm.cons_inv p)]
theorem srt_of_srtd {l : List Ht} (h : Srtd l) : srt l = l := srtd_unique _ _ (srt_srtd l) h (srt_perm l)
theorem srt_of_perm {l m : List Ht} (h : Srtd m) (p : l.Perm m) : srt l = m := srtd_unique _ _ (srt_srtd l) h ((srt_perm l).trans p)

/-- A sorted list with one more. -/
def ins (x : Ht) : List Ht → List Ht
  | [] => [x]
  | y :: r => if hlt x y = true then x :: y :: r else y :: ins x r
theorem ins_perm (x : Ht) : ∀ l, (ins x l).Perm (x :: l)
  | [] => List.Perm.refl _
  | y :: r => by
    unfold ins
    split
    · exact List.Perm.refl _
    · exact ((ins_perm x r).cons y).trans (List.Perm.swap x y r)
theorem ins_len (x : Ht) (l : List Ht) : (ins x l).length = l.length + 1 := by rw [(ins_perm x l).length_eq]; rfl
theorem ins_srtd (x : Ht) : ∀ l, Srtd l → Srtd (ins x l)
  | [], _ => List.pairwise_singleton _ _
  | y :: r, h => by
    unfold ins
    split
    · rename_i hx
      refine List.Pairwise.cons ?_ h
      intro z hz
      rcases List.mem_cons.1 hz with rfl | hz
      · exact hlt_asymm hx
      · exact hlt_ntrans (List.rel_of_pairwise_cons h hz) (hlt_asymm hx)
    · rename_i hx
      refine List.Pairwise.cons ?_ (ins_srtd x r (List.Pairwise.of_cons h))
      intro z hz
      rcases List.mem_cons.1 ((ins_perm x r).subset hz) with rfl | hz
      · simpa using hx
      · exact List.rel_of_pairwise_cons h hz
theorem srt_snoc (l : List Ht) (x : Ht) : srt (l ++ [x]) = ins x (srt l) := by
  refine srt_of_perm (ins_srtd x _ (srt_srtd l)) ?_
  refine List.Perm.trans ?_ (ins_perm x _).symm
  exact (List.perm_append_singleton x l).trans ((srt_perm l).symm.cons x)

/-- A heap's hits behind one more. -/
def keep (k : Nat) (m : List Ht) (x : Ht) : List Ht := (ins x m).take k
def kept (k : Nat) (m : List Ht) (x : Ht) : Bool := decide (m.length < k) || hlt x m[k - 1]!
theorem take_ins (x : Ht) : ∀ (k : Nat) (l : List Ht), (ins x l).take k = (ins x (l.take k)).take k
  | 0, _ => by simp
  | k + 1, [] => by simp
  | k + 1, y :: r => by
    simp only [List.take_succ_cons]
    unfold ins
    split
    · simp only [List.take_succ_cons]
      cases k with
      | zero => simp
      | succ k => simp [List.take_succ_cons, List.take_take, Nat.min_eq_left (Nat.le_succ k)]
    · simp only [List.take_succ_cons]
      rw [take_ins x k r]
/-- The first k of some hits. -/
def firsts (k : Nat) (l : List Ht) : List Ht := (srt l).take k
theorem firsts_snoc (k : Nat) (l : List Ht) (x : Ht) : firsts k (l ++ [x]) = keep k (firsts k l) x := by
  unfold firsts keep
  rw [srt_snoc, take_ins]
theorem firsts_nil (k : Nat) : firsts k [] = [] := by simp [firsts, srt]
theorem firsts_srtd (k : Nat) (l : List Ht) : Srtd (firsts k l) := (srt_srtd l).sublist (List.take_sublist k _)
theorem firsts_len (k : Nat) (l : List Ht) : (firsts k l).length = min k l.length := by simp [firsts, srt_len]
theorem firsts_perm (k : Nat) {l l' : List Ht} (p : l.Perm l') : firsts k l = firsts k l' := by
  unfold firsts; rw [srt_of_perm (srt_srtd l') (p.trans (srt_perm l').symm)]
theorem keep_srtd (k : Nat) {m : List Ht} (x : Ht) (h : Srtd m) : Srtd (keep k m x) := (ins_srtd x m h).sublist (List.take_sublist k _)
theorem keep_more {k : Nat} {m : List Ht} (x : Ht) (h : m.length < k) : keep k m x = ins x m := by
  unfold keep; rw [List.take_of_length_le (by rw [ins_len]; omega)]
theorem last_worst {m : List Ht} (h : Srtd m) (k : Nat) (hk : m.length = k) : ∀ y ∈ m, hlt m[k - 1]! y = false := by
  intro y hy
  subst hk
  obtain ⟨i, hi, rfl⟩ := List.mem_iff_getElem.1 hy
  rw [getElem!_pos m (m.length - 1) (by omega)]
  by_cases e : i = m.length - 1
  · subst e; exact hlt_irrefl _
  · exact List.pairwise_iff_getElem.1 h i (m.length - 1) hi (by omega) (by omega)
theorem ins_no (x : Ht) : ∀ (m : List Ht), (∀ y ∈ m, hlt x y = false) → ins x m = m ++ [x]
  | [], _ => rfl
  | y :: r, h => by
    unfold ins
    rw [if_neg (by rw [h y List.mem_cons_self]; simp), ins_no x r (fun z hz => h z (List.mem_cons_of_mem _ hz))]
    rfl
theorem keep_no {k : Nat} {m : List Ht} {x : Ht} (hs : Srtd m) (h : m.length = k) (hx : hlt x m[k - 1]! = false) : keep k m x = m := by
  unfold keep
  rw [ins_no x m (fun y hy => hlt_ntrans hx (last_worst hs k h y hy)), List.take_append_of_le_length (by omega), List.take_of_length_le (by omega)]
theorem ins_app (x : Ht) (z : Ht) (hx : hlt x z = true) : ∀ (m : List Ht), ins x (m ++ [z]) = ins x m ++ [z]
  | [] => by simp [ins, hx]
  | y :: r => by
    simp only [List.cons_append]
    unfold ins
    split
    · rfl
    · rw [ins_app x z hx r]; rfl
theorem keep_repl {k : Nat} {m : List Ht} {x : Ht} (hk : 0 < k) (h : m.length = k) (hx : hlt x m[k - 1]! = true) : (keep k m x).Perm (x :: m.dropLast) := by
  have hne : m ≠ [] := by intro e; subst e; simp at h; omega
  obtain ⟨a, z, rfl⟩ : ∃ a z, m = a ++ [z] := ⟨m.dropLast, m.getLast hne, (List.dropLast_concat_getLast hne).symm⟩
  simp only [List.length_append, List.length_cons, List.length_nil] at h
  have e : (a ++ [z])[k - 1]! = z := by
    rw [getElem!_pos (a ++ [z]) (k - 1) (by simp; omega), List.getElem_append_right (by omega)]
    simp
  rw [e] at hx
  have hl : (ins x a).length = k := by rw [ins_len]; omega
  unfold keep
  rw [ins_app x z hx, List.take_append_of_le_length (by rw [hl]; exact Nat.le_refl _), List.take_of_length_le (by rw [hl]; exact Nat.le_refl _), List.dropLast_concat]
  exact ins_perm x _
end Go.Proofs.YtdmdjmliggjbjaaGreat.Tk

/- What flat answers, plainly: the hits of rows, their errors, the first k. -/
namespace Go.Proofs.YtdmdjmliggjbjaaGreat
open Go.RowKit Go.Sort

/-- A row's hit for q; all rows'. -/
abbrev hitOf (q : List Int) (r : Rw) : Tk.Ht := (r.1, hi (dst q r.2), lo (dst q r.2))
def hitsOf (q : List Int) (rs : List Rw) : List Tk.Ht := rs.map (hitOf q)
/-- What flat.Check answers; checkAll; begin; Search. -/
def flatE (rs : List Rw) (d : Int) : Int := if 1 ≤ d ∧ d ≤ 64 then idsE rs d else 30
def askE (rs : List Rw) (q : List Int) : Int := if chk q (q.length : Int) = 0 then flatE rs (q.length : Int) else chk q (q.length : Int)
def topE (rs : List Rw) (q : List Int) (k : Int) : Int := if askE rs q = 0 then (if 1 ≤ k ∧ k ≤ 64 then 0 else 1) else askE rs q

theorem chk_is (l : List Int) (d : Int) : chk l d = 0 ∨ chk l d = 30 ∨ chk l d = 31 := by
  unfold chk vErr; (repeat' split) <;> simp
theorem rowE_is (rs : List Rw) (d : Int) (i : Nat) : rowE rs d i = 0 ∨ rowE rs d i = 30 ∨ rowE rs d i = 31 ∨ rowE rs d i = 50 := by
  unfold rowE
  split
  · rcases chk_is rs[i]!.2 d with h | h | h
    · exact .inl h
    · exact .inr (.inl h)
    · exact .inr (.inr (.inl h))
  · exact .inr (.inr (.inr rfl))
theorem rowsTo_is (rs : List Rw) (d : Int) : ∀ q, rowsTo rs d q = 0 ∨ rowsTo rs d q = 30 ∨ rowsTo rs d q = 31 ∨ rowsTo rs d q = 50
  | 0 => .inl rfl
  | q + 1 => by
    rw [rowsTo]
    split
    · exact rowE_is rs d q
    · exact rowsTo_is rs d q
theorem idsE_ne (rs : List Rw) (d : Int) : idsE rs d ≠ 1 := by
  unfold idsE
  split
  · rcases rowsTo_is rs d rs.length with h | h | h | h <;> rw [h] <;> decide
  · decide
theorem idsE_nil (d : Int) : idsE [] d = 0 := rfl
theorem flatE_box (rs : List Rw) (d : Int) : flatE rs d = if boxE rs d = 1 then 0 else boxE rs d := by
  unfold flatE boxE
  by_cases h : 1 ≤ d ∧ d ≤ 64
  · rw [if_pos h, if_pos h]
    by_cases h0 : rs.length = 0
    · obtain rfl := List.length_eq_zero_iff.1 h0
      rw [if_pos h0]; simp [idsE_nil]
    · rw [if_neg h0, if_neg (idsE_ne rs d)]
  · rw [if_neg h, if_neg h]; decide

theorem rowsTo_zero {rs : List Rw} {d : Int} : ∀ q, rowsTo rs d q = 0 ↔ ∀ i, i < q → rowE rs d i = 0
  | 0 => ⟨fun _ i hi => absurd hi (Nat.not_lt_zero _), fun _ => rfl⟩
  | q + 1 => by
    rw [rowsTo]
    constructor
    · intro h
      split at h
      · rename_i h0
        intro i hi
        by_cases e : i = q
        · subst e; exact h
        · exact (rowsTo_zero q).1 h0 i (by omega)
      · rename_i h0; exact absurd h h0
    · intro h
      rw [if_pos ((rowsTo_zero q).2 fun i hi => h i (by omega))]
      exact h q (by omega)
/-- Rows that may be. -/
structure RowsOk (rs : List Rw) (d : Int) : Prop where
  few : rs.length ≤ 512
  ids : (idsOf rs).Pairwise (· ≠ ·)
  row : ∀ r ∈ rs, okId r.1 = true ∧ chk r.2 d = 0
theorem rowE_zero {rs : List Rw} {d : Int} {i : Nat} : rowE rs d i = 0 ↔ ((idsOf rs).take i).contains rs[i]!.1 = false ∧ okId rs[i]!.1 = true ∧ chk rs[i]!.2 d = 0 := by
  unfold rowE
  split
  · rename_i h; exact ⟨fun e => ⟨h.1, h.2, e⟩, fun e => e.2.2⟩
  · rename_i h; exact ⟨fun e => by simp at e, fun e => absurd ⟨e.1, e.2.1⟩ h⟩
theorem ids_get {rs : List Rw} {i : Nat} (hi : i < rs.length) : (idsOf rs)[i]'(by simpa [idsOf] using hi) = rs[i]!.1 := by
  rw [getElem!_pos rs i hi]; simp [idsOf]
theorem idsE_zero {rs : List Rw} {d : Int} : idsE rs d = 0 ↔ RowsOk rs d := by
  unfold idsE
  constructor
  · intro h
    split at h
    · rename_i hn
      have h1 := (rowsTo_zero _).1 h
      refine ⟨hn, ?_, fun r hr => ?_⟩
      · rw [List.pairwise_iff_getElem]
        intro i j hi hj hij e
        have hi' : i < rs.length := by simpa [idsOf] using hi
        have hj' : j < rs.length := by simpa [idsOf] using hj
        have h2 := (rowE_zero.1 (h1 j hj')).1
        rw [← ids_get hj', ← e] at h2
        have : ((idsOf rs).take j).contains (idsOf rs)[i] = true := by
          rw [List.contains_iff_mem]
          exact List.mem_iff_getElem.2 ⟨i, by simp [idsOf]; omega, by simp⟩
        rw [this] at h2; cases h2
      · obtain ⟨i, hi, rfl⟩ := List.mem_iff_getElem.1 hr
        have h2 := rowE_zero.1 (h1 i hi)
        rw [getElem!_pos rs i hi] at h2
        exact h2.2
    · cases h
  · rintro ⟨h1, h2, h3⟩
    rw [if_pos h1, rowsTo_zero]
    intro i hi
    have h4 := h3 rs[i] (List.getElem_mem hi)
    rw [rowE_zero, getElem!_pos rs i hi]
    refine ⟨?_, h4⟩
    rw [← Bool.not_eq_true, List.contains_iff_mem]
    intro hm
    obtain ⟨j, hj, e⟩ := List.mem_iff_getElem.1 hm
    have hji : j < i := by have := hj; simp at this; omega
    have := List.pairwise_iff_getElem.1 h2 j i (by simp [idsOf]; omega) (by simp [idsOf]; omega) hji
    apply this
    rw [List.getElem_take] at e
    rw [e, ids_get hi, getElem!_pos rs i hi]
theorem RowsOk.perm {rs rs' : List Rw} {d : Int} (h : RowsOk rs d) (p : rs.Perm rs') : RowsOk rs' d :=
  ⟨by rw [← p.length_eq]; exact h.few, (List.Perm.pairwise_iff (fun h => Ne.symm h) (p.map _)).1 h.ids, fun r hr => h.row r (p.mem_iff.2 hr)⟩
theorem RowsOk.sub {rs rs' : List Rw} {d : Int} (h : RowsOk rs d) (p : rs'.Sublist rs) : RowsOk rs' d :=
  ⟨Nat.le_trans p.length_le h.few, h.ids.sublist (p.map _), fun r hr => h.row r (p.subset hr)⟩
theorem flatE_zero {rs : List Rw} {d : Int} : flatE rs d = 0 ↔ (1 ≤ d ∧ d ≤ 64) ∧ RowsOk rs d := by
  unfold flatE
  split
  · rename_i h; rw [idsE_zero]; exact ⟨fun e => ⟨h, e⟩, fun e => e.2⟩
  · rename_i h; exact ⟨fun e => by simp at e, fun e => absurd e.1 h⟩
theorem askE_zero {rs : List Rw} {q : List Int} : askE rs q = 0 ↔ chk q (q.length : Int) = 0 ∧ RowsOk rs (q.length : Int) := by
  unfold askE
  split
  · rename_i h
    have := chk_ok h
    rw [flatE_zero]
    exact ⟨fun e => ⟨h, e.2⟩, fun e => ⟨⟨by omega, by omega⟩, e.2⟩⟩
  · rename_i h; exact ⟨fun e => absurd e h, fun e => absurd e.1 h⟩
theorem topE_zero {rs : List Rw} {q : List Int} {k : Int} : topE rs q k = 0 ↔ askE rs q = 0 ∧ 1 ≤ k ∧ k ≤ 64 := by
  unfold topE
  split
  · rename_i h
    split
    · rename_i h1; simp [h, h1]
    · rename_i h1; simp [h]; omega
  · rename_i h; exact ⟨fun e => absurd e h, fun e => absurd e.1 h⟩
theorem row_dist {rs : List Rw} {q : List Int} (h : askE rs q = 0) {r : Rw} (hr : r ∈ rs) : distE q r.2 = 0 ∧ distV q r.2 = dst q r.2 := by
  obtain ⟨h1, h2⟩ := askE_zero.1 h
  have e : distE q r.2 = 0 := by unfold distE; rw [if_pos h1]; exact (h2.row r hr).2
  exact ⟨e, by unfold distV; rw [if_pos e]⟩

/-- The order of hits with distances that are numbers. -/
theorem hlt_hit (i j : Int) (m n : Nat) : Tk.hlt (i, hi m, lo m) (j, hi n, lo n) = true ↔ m < n ∨ m = n ∧ i < j := by
  rw [Tk.hlt_iff]
  unfold Tk.Ht.hi Tk.Ht.lo Tk.Ht.id hi lo
  dsimp only
  omega
theorem wd_one {m n : Nat} (h : hi m = hi n) (h' : lo m = lo n) : m = n := by
  unfold hi lo at *; omega
theorem hitsOf_len (q : List Int) (rs : List Rw) : (hitsOf q rs).length = rs.length := by simp [hitsOf]
theorem hitsOf_perm (q : List Int) {rs rs' : List Rw} (p : rs.Perm rs') : (hitsOf q rs).Perm (hitsOf q rs') := p.map _
theorem hitsOf_app (q : List Int) (a b : List Rw) : hitsOf q (a ++ b) = hitsOf q a ++ hitsOf q b := by simp [hitsOf]
theorem hitsOf_snoc (q : List Int) {rs : List Rw} {i : Nat} (hi' : i < rs.length) : hitsOf q (rs.take (i + 1)) = hitsOf q (rs.take i) ++ [hitOf q rs[i]!] := by
  rw [List.take_succ_eq_append_getElem hi', hitsOf_app, getElem!_pos rs i hi']; rfl
theorem hits_ids (q : List Int) (rs : List Rw) : (hitsOf q rs).map (·.1) = idsOf rs := by simp [hitsOf, idsOf]
theorem first_more (k : Nat) (l : List Tk.Ht) : Tk.firsts k l = (Tk.firsts (k + 1) l).take k := by
  unfold Tk.firsts; rw [List.take_take, Nat.min_eq_left (Nat.le_succ k)]

/-- The first k of two parts' first k. -/
theorem firsts_fold (k : Nat) (l m : List Tk.Ht) : Tk.firsts k (l ++ m) = Tk.firsts k (Tk.firsts k l ++ m) := by
  obtain ⟨r, hr⟩ : ∃ r, m = r.reverse := ⟨m.reverse, by simp⟩
  subst hr
  induction r with
  | nil =>
    rw [List.reverse_nil, List.append_nil, List.append_nil]
    unfold Tk.firsts
    rw [Tk.srt_of_srtd ((Tk.srt_srtd l).sublist (List.take_sublist k _)), List.take_take, Nat.min_self]
  | cons x r ih => rw [List.reverse_cons, ← List.append_assoc, Tk.firsts_snoc, ih, ← List.append_assoc, Tk.firsts_snoc]
theorem firsts_parts (k : Nat) (l m : List Tk.Ht) : Tk.firsts k (Tk.firsts k l ++ Tk.firsts k m) = Tk.firsts k (l ++ m) := by
  rw [← firsts_fold, Tk.firsts_perm k (List.perm_append_comm), ← firsts_fold, Tk.firsts_perm k (List.perm_append_comm)]
end Go.Proofs.YtdmdjmliggjbjaaGreat

/- A loop over a function that is ranged over, where that function turns nothing old: the law. -/
namespace Go.Proofs.YtdmdjmliggjbjaaGreat
open Go.RowKit Go.Shelf
attribute [local go_sem] Oper.semAt_some

theorem grown_of_gb {a b : World} (h : Gb a b) : a.grownBy b none := ⟨h.os, h.tape, h.output, h.size, fun k hk _ => h.block k hk⟩
theorem gb_same {a b : World} (h : Gb a b) {k : Nat} {o : Obj} (hk : a.heap[k]? = some o) : b.heap[k]? = some o :=
  (h.block k (Array.getElem?_eq_some_iff.1 hk).1).trans hk

/-- How a round's body may be left: on, alone. -/
def leftOn (I : Nat → World → Prop) (k : Nat) (W : World) : Exit → Act → World → Prop
  | .normal, _, W' => KeepsOthers W W' ∧ I k W'
  | _, _, _ => False

/-- The contract of what is ranged over: N rounds, between them nothing old turns. -/
def Gives (n : Nat) (P : Program) (gf : Nat) (lb : Array Value) (N : Nat) (arg : Nat → Value) (I : Nat → World → Prop) : Prop :=
  ∀ (l : Nat) (J : Nat → World → Prop) (W : World), (∀ k W, J k W → I k W) →
    (∀ k W W', J k W → Gb W W' → J k W') →
    (∀ k W, k < N → J k W → YieldAt Fence.wide (n - 1) P l #[arg k] W fun e W' => e = .returned (.bool true) ∧ J (k + 1) W') →
    J 0 W →
    CallsIn Fence.wide n P gf (#[.func (.yield l) #[] #[]] ++ lb) W fun e W' => (∃ v, e = .returned v) ∧ J N W'

theorem range_c {n : Nat} {P : Program} {g : Operand} {ps : Array Tmp} {assign body : Code} {Q : Exit → Act → World → Prop} {a : Act} {w : World}
    {gf : Nat} {lb : Array Value} (hg : a.eval g = .func (.func gf) #[] lb) (eg : ∀ args w, (callFunc gf args).run P w = .ok (.enter gf args) w)
    (hps : ps.size = 1) (N : Nat) (arg : Nat → Value) (I : Nat → World → Prop) (I1 : Nat → Nat → World → Prop) (ob : Nat → Obj)
    (hI : OwnFrom w.heap.size I) (hI1 : ∀ p, OwnFrom w.heap.size (fun k => I1 k p)) (h0 : I 0 w) (hst : ∀ k W, k < N → I k W → I1 k W.heap.size (W.alloc (ob k)))
    (hit : Gives (n - 1) P gf lb N arg I) (a₁ : Nat → Nat → Act)
    (hassign : ∀ (l k : Nat) (W : World) (K : Act → World → Prop), K (a₁ k W.heap.size) (W.alloc (ob k)) →
      assign.wpIn (Fence.wide.inRound l) (n - 1 - 1) P (Exit.then K (fun _ _ _ => False)) { tmps := (ps.zip #[arg k]).foldl (fun t (p, v) => t.setIfInBounds p v) a.tmps, defers := [] } W)
    (hbody : ∀ (l k p : Nat) (W : World), k < N → I1 k p W → body.wpIn (Fence.wide.inRound l) (n - 1 - 1) P (leftOn I (k + 1) W) (a₁ k p) W)
    (hdone : ∀ (D : Nat) (W : World), w.heap.size ≤ D → I N W → W.heap[D]? = some (.deferred (some [])) → Q .normal { a with defers := { target := .collected D, args := #[] } :: a.defers } W) :
    (Code.rangeFunc g ps assign body).wpIn Fence.wide n P Q a w := by
  refine wpIn_rangeFunc fun fn hfn => ?_
  -- the record of the loop, in its states
  obtain ⟨rc, hrc⟩ : ∃ rc : LoopState → Option Code → Loop, rc = fun s p => { state := s, pending := p, fn := fn, tmps := a.tmps, params := ps, assign := assign, body := body, defers := w.heap.size } := ⟨_, rfl⟩
  obtain ⟨V, hV⟩ : ∃ V, (w.alloc (.deferred (some []))).alloc (.loop (rc .ready none)) = V := ⟨_, rfl⟩
  have hlV : V.heap[w.heap.size + 1]? = some (.loop (rc .ready none)) := by
    rw [← hV]; have := World.alloc_heap_new (w.alloc (.deferred (some []))) (.loop (rc .ready none)); rwa [World.size_alloc] at this
  have hdV : V.heap[w.heap.size]? = some (.deferred (some [])) := by
    rw [← hV]; exact (Below.heap_alloc _ _ _ (by simp)).trans (World.alloc_heap_new w _)
  have hIV : I 0 V := by rw [← hV]; exact hI.alloc _ (hI.alloc _ h0)
  refine ⟨w.heap.size + 1, [{ target := .collected w.heap.size, args := #[] }], V, { target := .fn (.func gf) lb, args := #[.func (.yield (w.heap.size + 1)) #[] #[]] }, V, gf,
    #[.func (.yield (w.heap.size + 1)) #[] #[]] ++ lb, V, ?_, ?_, fun _ _ => trivial, ?_, fun h => by simp [Fence.wide] at h, ?_⟩
  · rw [← hV, hrc]; exact run_enterLoop_outer _ _ _ _ _
  · simp only [resolve, hg]
    simp [go_sem]
  · simp [invoke, go_sem, eg]
  refine (hit (w.heap.size + 1)
    (fun k W => I k W ∧ W.heap[w.heap.size + 1]? = some (.loop (rc .ready none)) ∧ W.heap[w.heap.size]? = some (.deferred (some [])))
    V (fun _ _ h => h.1) (fun k W W' h g => ⟨hI k W W' none h.1 (grown_of_gb g) (fun r e => by cases e), gb_same g h.2.1, gb_same g h.2.2⟩) ?_ ⟨hIV, hlV, hdV⟩).mono ?_
  · -- one round
    rintro k W hk ⟨hi, hl, hd⟩
    have hlt : w.heap.size + 1 < W.heap.size := (Array.getElem?_eq_some_iff.1 hl).1
    have hy := run_yield (P := P) (args := #[arg k]) hl (by rw [hrc]; simp [hps])
    rw [hrc] at hy
    obtain ⟨p, hp0⟩ : ∃ p, p = W.heap.size := ⟨_, rfl⟩
    obtain ⟨Wa, hWa⟩ : ∃ Wa, W.alloc (ob k) = Wa := ⟨_, rfl⟩
    have gA : Gb W Wa := by rw [← hWa]; exact gb_alloc (Below.refl _ _) _
    have hla := gb_same gA hl
    have hda := gb_same gA hd
    have hlta : w.heap.size + 1 < Wa.heap.size := (Array.getElem?_eq_some_iff.1 hla).1
    have hia : I1 k p Wa := by rw [← hWa, hp0]; exact hst k W hk hi
    refine ⟨fn, _, assign, body, hy, roundIn_of_wpIn hfn (hassign _ k W _ ?_)⟩
    rw [hWa, ← hp0]
    refine ⟨_, run_beginRound hla (by rw [hrc]), ?_⟩
    clear hy hi hl hd hlt
    obtain ⟨W2, hW2⟩ : ∃ W2, Wa.putObj (w.heap.size + 1) (.loop { rc .ready none with state := .busy }) = W2 := ⟨_, rfl⟩
    rw [hW2]
    have hl2 : W2.heap[w.heap.size + 1]? = some (.loop { rc .ready none with state := .busy }) := by rw [← hW2]; exact World.putObj_heap_same hlta
    have hd2 : W2.heap[w.heap.size]? = some (.deferred (some [])) := by rw [← hW2]; exact (World.putObj_heap_other (by omega)).trans hda
    have hi2 : I1 k p W2 := by rw [← hW2]; exact (hI1 p).putObj _ hia (by omega) hla rfl
    refine wpIn_mono (hbody _ k p W2 hk hi2) ?_
    have fin : ∀ (j : Option Code) (W3 : World), KeepsOthers W2 W3 →
        (Instr.endRound (w.heap.size + 1) j).run P W3 = .ok (.bool j.isNone) (W3.putObj (w.heap.size + 1) (.loop (rc (if j.isNone then .ready else .done) j))) ∧
        W3.heap[w.heap.size + 1]? = some (.loop { rc .ready none with state := .busy }) ∧
        (W3.putObj (w.heap.size + 1) (.loop (rc (if j.isNone then .ready else .done) j))).heap[w.heap.size + 1]? = some (.loop (rc (if j.isNone then .ready else .done) j)) ∧
        (W3.putObj (w.heap.size + 1) (.loop (rc (if j.isNone then .ready else .done) j))).heap[w.heap.size]? = some (.deferred (some [])) := fun j W3 hk3 => by
      have hl3 := hk3.same _ _ hl2 rfl
      have := run_endRound (P := P) j hl3
      rw [hrc] at this ⊢
      exact ⟨this, by rw [hrc] at hl3; exact hl3, World.putObj_heap_same (Array.getElem?_eq_some_iff.1 hl3).1, (World.putObj_heap_other (by omega)).trans (hk3.same _ _ hd2 rfl)⟩
    rintro e a3 W3 hp
    cases e with
    | normal =>
      obtain ⟨hk3, hi3⟩ := hp
      obtain ⟨hr, hl3, hl4, hd4⟩ := fin none W3 hk3
      exact ⟨_, _, hr, rfl, hI.putObj _ hi3 (by omega) hl3 rfl, hl4, hd4⟩
    | ret => exact hp.elim
    | exit id => exact hp.elim
    | goto t => exact hp.elim
    | panic ch => exact hp.elim
    | outgrown => exact hp.elim
  · -- behind it
    rintro e W2 ⟨⟨v, rfl⟩, hi, hl, hd⟩
    exact ⟨none, _, by have := run_endLoop (P := P) hl (by rw [hrc]; simp); rw [hrc] at this; exact this, hdone _ _ (Nat.le_refl _) (hI.putObj _ hi (by omega) hl rfl) ((World.putObj_heap_other (by omega)).trans hd)⟩

end Go.Proofs.YtdmdjmliggjbjaaGreat

/- A heap that has just these hits: its calls. -/
namespace Go.Proofs.YtdmdjmliggjbjaaGreat.Tk
open Go.RowKit Go.Sort

/-- The heap of size k has the hits m, in their order. -/
def Has (w : World) (hb k : Nat) (v : Value) (m : List Ht) : Prop :=
  ∃ d, Hp w hb (k : Int) v d ∧ MaxH d ∧ d.toList.Perm m ∧ Srtd m ∧ m.length ≤ k ∧ 1 ≤ k ∧ k ≤ 64
theorem Has.gr {w w' : World} {hb k : Nat} {v : Value} {m : List Ht} (h : Has w hb k v m) (g : Gr w w') : Has w' hb k v m := by
  obtain ⟨d, h1, r⟩ := h; exact ⟨d, h1.gr g, r⟩
theorem Has.kp {S : Nat → Prop} {w w' : World} {hb k : Nat} {v : Value} {m : List Ht} (h : Has w hb k v m) (K : Kp S w w') (h1 : ¬ S hb) (h2 : ∀ g, v.ownBlock = some g → ¬ S g) : Has w' hb k v m := by
  obtain ⟨d, hd, r⟩ := h; exact ⟨d, hd.kp K h1 h2, r⟩
theorem Has.lt {w : World} {hb k : Nat} {v : Value} {m : List Ht} (h : Has w hb k v m) : hb < w.heap.size := by obtain ⟨d, h1, _⟩ := h; exact h1.lt
theorem Has.own_lt {w : World} {hb k : Nat} {v : Value} {m : List Ht} (h : Has w hb k v m) {g : Nat} (hg : v.ownBlock = some g) : g < w.heap.size := by
  obtain ⟨d, h1, _⟩ := h; exact YtdmdjmliggjbjaaGreat.Tk.own_lt h1.own hg
theorem new_has (k : Nat) (h1 : 1 ≤ k) (h2 : k ≤ 64) (w : World) : Has (w.alloc (.cells #[.int .i64 (k : Int), .slice none 0 0] 115)) w.heap.size k (.slice none 0 0) [] :=
  ⟨#[], new_hp _ w, fun _ _ h => absurd h (Nat.not_lt_zero _), List.Perm.refl _, List.Pairwise.nil, Nat.zero_le _, h1, h2⟩

theorem root_last {d : Array Ht} {m : List Ht} (hm : MaxH d) (p : d.toList.Perm m) (hs : Srtd m) {k : Nat} (hk : m.length = k) (h0 : 0 < k) : d[0]! = m[k - 1]! := by
  have hd : d.size = k := by have := p.length_eq; simp at this; omega
  have a1 : d[0]! ∈ m := p.subset (by rw [getElem!_pos d 0 (by omega)]; exact Array.mem_toList_iff.2 (Array.getElem_mem _))
  have a2 : m[k - 1]! ∈ d.toList := p.symm.subset (by rw [getElem!_pos m (k - 1) (by omega)]; exact List.getElem_mem _)
  have b1 := last_worst hs k hk _ a1
  obtain ⟨i, hi, e⟩ := List.mem_iff_getElem.1 a2
  have b2 := maxh_root hm i (by simpa using hi)
  rw [getElem!_pos d i (by simpa using hi)] at b2
  simp only [Array.getElem_toList] at e
  rw [e] at b2
  exact hlt_tot b2 b1

/-- What Offer leaves. -/
def Offered (w w' : World) (hb k : Nat) (v : Value) (m : List Ht) (x : Ht) : Prop :=
  ∃ v', Has w' hb k v' (keep k m x) ∧ Kp (fun b => b = hb ∨ some b = v.ownBlock) w w' ∧ (v'.ownBlock = v.ownBlock ∨ ∀ g, v'.ownBlock = some g → w.heap.size ≤ g)

theorem offer_has {w : World} {hb k : Nat} {v : Value} {m : List Ht} (h : Has w hb k v m) (x : Ht) :
    Calls Tryz.prog 57 #[.pointer (some ⟨hb, 0, none⟩), hv x] w fun e w' => e = .returned (.bool (kept k m x)) ∧ Offered w w' hb k v m x := by
  have h' := h
  obtain ⟨d, hp, hm, pm, hs, hl, k1, k2⟩ := h
  have hd : d.size = m.length := by have := pm.length_eq; simpa using this
  by_cases c : m.length < k
  · have e : kept k m x = true := by unfold kept; rw [decide_eq_true c]; rfl
    rw [e]
    refine (offer_more hp hm (by omega) (by omega) x).mono ?_
    rintro e w' ⟨rfl, g, cap, d', p1, p2, p3, p4, p5⟩
    refine ⟨rfl, _, ⟨d', p3, p2, ?_, keep_srtd k x hs, by unfold keep; rw [List.length_take]; omega, k1, k2⟩, p4, ?_⟩
    · rw [keep_more x c]
      refine p1.trans ((List.perm_append_singleton x d.toList).trans ((pm.cons x).trans (ins_perm x m).symm))
    · rcases p5 with p5 | p5
      · exact .inl p5.symm
      · right; intro g' hg'; simp [Value.ownBlock] at hg'; omega
  have hk : m.length = k := by omega
  have er := root_last hm pm hs hk (by omega)
  by_cases cx : hlt x m[k - 1]! = true
  · have e : kept k m x = true := by unfold kept; rw [cx]; simp
    rw [e]
    refine (offer_repl hp hm (by omega) (by omega) (by omega) x (by rw [er]; exact cx)).mono ?_
    rintro e w' ⟨rfl, d', p1, p2, p3, p4⟩
    refine ⟨rfl, v, ⟨d', p3, p2, ?_, keep_srtd k x hs, by unfold keep; rw [List.length_take]; omega, k1, k2⟩, p4, .inl rfl⟩
    refine (p1.trans ?_).trans (keep_repl (by omega) hk cx).symm
    -- the set's hits are x and those of m but the last
    have hne : m ≠ [] := by intro e0; subst e0; simp at hk; omega
    obtain ⟨a, z, rfl⟩ : ∃ a z, m = a ++ [z] := ⟨m.dropLast, m.getLast hne, (List.dropLast_concat_getLast hne).symm⟩
    have ez : (a ++ [z])[k - 1]! = z := by
      simp only [List.length_append, List.length_cons, List.length_nil] at hk
      rw [getElem!_pos (a ++ [z]) (k - 1) (by simp; omega), List.getElem_append_right (by omega)]
      simp
    rw [ez] at er
    rw [List.dropLast_concat]
    cases hdl : d.toList with
    | nil =>
      have q0 : d.toList.length = 0 := by rw [hdl]; rfl
      rw [Array.length_toList] at q0; omega
    | cons y r =>
      have hy : d[0]! = y := by
        have hz : 0 < d.size := by omega
        rw [getElem!_pos d 0 hz, ← Array.getElem_toList hz]
        simp [hdl]
      rw [Array.toList_setIfInBounds, hdl, List.set_cons_zero]
      refine List.Perm.cons x ?_
      have q : (y :: r).Perm (z :: a) := by rw [← hdl]; exact pm.trans (List.perm_append_singleton z a)
      rw [← hy, er] at q
      exact List.Perm.cons_inv q
  · have cx' : hlt x m[k - 1]! = false := by simpa using cx
    have e : kept k m x = false := by unfold kept; rw [cx', decide_eq_false c]; rfl
    rw [e]
    refine (offer_no hp (by omega) (by omega) (by omega) x (by rw [er]; exact cx')).mono ?_
    rintro e w' ⟨rfl, g⟩
    refine ⟨rfl, v, ?_, Kp.of_gr g, .inl rfl⟩
    rw [keep_no hs hk cx']
    exact h'.gr g

theorem len_has {w : World} {hb k : Nat} {v : Value} {m : List Ht} (h : Has w hb k v m) : Calls Tryz.prog 108 #[.pointer (some ⟨hb, 0, none⟩)] w fun e w' => e = .returned (.int .i64 (m.length : Nat)) ∧ w' = w := by
  obtain ⟨d, hp, hm, pm, hs, hl, k1, k2⟩ := h
  have := len17 hp
  rwa [show d.size = m.length by have := pm.length_eq; simpa using this] at this
theorem worst_has {w : World} {hb k : Nat} {v : Value} {m : List Ht} (h : Has w hb k v m) (h0 : 0 < m.length) : Calls Tryz.prog 84 #[.pointer (some ⟨hb, 0, none⟩)] w fun e w' => e = .returned (.tuple #[hv m[m.length - 1]!, .bool true]) ∧ Gr w w' := by
  obtain ⟨d, hp, hm, pm, hs, hl, k1, k2⟩ := h
  have hd : d.size = m.length := by have := pm.length_eq; simpa using this
  have := worst15 hp (by omega) (by omega)
  rwa [root_last hm pm hs rfl h0] at this
theorem worst_has_none {w : World} {hb k : Nat} {v : Value} {m : List Ht} (h : Has w hb k v m) (h0 : m.length = 0) : Calls Tryz.prog 84 #[.pointer (some ⟨hb, 0, none⟩)] w fun e w' => e = .returned (.tuple #[hv ⟨0, 0, 0⟩, .bool false]) ∧ Gr w w' := by
  refine worst15_none _ w fun W g => ?_
  have := len_has (h.gr g)
  rwa [h0] at this
theorem list_has {w : World} {hb k : Nat} {v : Value} {m : List Ht} (h : Has w hb k v m) : Calls Tryz.prog 58 #[.pointer (some ⟨hb, 0, none⟩)] w fun e w' => ∃ v', e = .returned v' ∧ Out w w' v' m := by
  obtain ⟨d, hp, hm, pm, hs, hl, k1, k2⟩ := h
  have hd : d.size = m.length := by have := pm.length_eq; simpa using this
  have := list16 hp (by omega)
  rwa [srt_of_perm hs pm] at this
end Go.Proofs.YtdmdjmliggjbjaaGreat.Tk

/- Slices of hits that are read; the reference's Same. -/
namespace Go.Proofs.YtdmdjmliggjbjaaGreat.Tk
open Go.RowKit Go.Sort
attribute [local go_sem ↓] Go.wp_at_zero Go.wp_at_succ

/-- These hits lie in block b from o on. -/
def Lies (w : World) (b o : Nat) (l : List Ht) : Prop := ∀ i, i < l.length →
  w.cell? ⟨b, o + i * 3, none⟩ = some (.int .i64 l[i]!.id) ∧ w.cell? ⟨b, o + i * 3 + 1, none⟩ = some (.int .u64 l[i]!.hi) ∧ w.cell? ⟨b, o + i * 3 + 2, none⟩ = some (.int .u64 l[i]!.lo)
/-- The slice v reads as these hits. -/
def Rd (w : World) (v : Value) (l : List Ht) : Prop := (v = .slice none 0 0 ∧ l = []) ∨ (∃ a cap, v = .slice (some a) 0 cap ∧ l = []) ∨ ∃ b o cap, v = .slice (some ⟨b, o, none⟩) l.length cap ∧ Lies w b o l
theorem Lies.gr {w w' : World} {b o : Nat} {l : List Ht} (h : Lies w b o l) (g : Gr w w') : Lies w' b o l := fun i hi => by
  obtain ⟨h0, h1, h2⟩ := h i hi; exact ⟨gr_keeps g h0, gr_keeps g h1, gr_keeps g h2⟩
theorem Lies.kp {S : Nat → Prop} {w w' : World} {b o : Nat} {l : List Ht} (h : Lies w b o l) (g : Kp S w w') (hn : ¬ S b) : Lies w' b o l := fun i hi => by
  obtain ⟨h0, h1, h2⟩ := h i hi; exact ⟨g.cell h0 hn, g.cell h1 hn, g.cell h2 hn⟩
theorem Rd.gr {w w' : World} {v : Value} {l : List Ht} (h : Rd w v l) (g : Gr w w') : Rd w' v l := by
  rcases h with h | h | ⟨b, o, cap, e2, h⟩
  · exact .inl h
  · exact .inr (.inl h)
  · exact .inr (.inr ⟨b, o, cap, e2, h.gr g⟩)
theorem own_lies {w : World} {g n cap : Nat} {d : Array Ht} (h : Own w (.slice (some ⟨g, 0, none⟩) n cap) d) : Lies w g 0 d.toList := fun i hi => by
  have hi' : i < d.size := by simpa using hi
  have := own_cell h hi'
  rw [Nat.zero_add]
  have e : d.toList[i]! = d[i]! := by rw [getElem!_pos d.toList i hi, getElem!_pos d i hi']; simp
  rw [e]; exact this
theorem own_rd {w : World} {v : Value} {d : Array Ht} (h : Own w v d) : Rd w v d.toList := by
  rcases h.2 with ⟨rfl, h0⟩ | ⟨g, cap, cur, rfl, r⟩
  · exact .inl ⟨rfl, by rw [Array.eq_empty_of_size_eq_zero h0]⟩
  · exact .inr (.inr ⟨g, 0, cap, by simp, own_lies h⟩)
theorem Rd.form {w : World} {v : Value} {l : List Ht} (h : Rd w v l) : ∃ a cap, v = .slice a l.length cap ∧ ∀ i, i < l.length → ∃ b o, a = some ⟨b, o, none⟩ ∧ Lies w b o l := by
  rcases h with ⟨rfl, rfl⟩ | ⟨a, cap, rfl, rfl⟩ | ⟨b, o, cap, rfl, h⟩
  · exact ⟨none, 0, rfl, fun i hi => absurd hi (Nat.not_lt_zero _)⟩
  · exact ⟨_, cap, rfl, fun i hi => absurd hi (Nat.not_lt_zero _)⟩
  · exact ⟨_, cap, rfl, fun _ _ => ⟨b, o, rfl, h⟩⟩

theorem hv_in (x y : Ht) (W : World) : (Op.equalIn 10000 43 (hv x) (hv y)).run Tryz.prog W = .ok (decide (x = y)) W := by
  have u3 := Tryz.underlying3
  have a3 := Tryz.isAgg3
  have z3 := Tryz.sizeOf3
  have u22 := Tryz.underlying39
  have a22 := Tryz.isAgg39
  have z22 := Tryz.sizeOf39
  have a24 := Tryz.isAgg41
  have z24 := Tryz.sizeOf41
  have hS : Tryz.prog.underlying 43 = some (.struct (Tryz.prog.fieldsOf 43)) := by kernel_rfl
  have hp : Tryz.prog.stoodInHeld 43 = false := by kernel_rfl
  have hS2 : Tryz.prog.underlying 41 = some (.struct (Tryz.prog.fieldsOf 41)) := by kernel_rfl
  have hp2 : Tryz.prog.stoodInHeld 41 = false := by kernel_rfl
  have h24 : ∀ (a b c d : Int) W, (Op.equalIn 9999 41 (.agg #[.int .u64 a, .int .u64 b]) (.agg #[.int .u64 c, .int .u64 d])).run Tryz.prog W = .ok (a == c && b == d) W := by
    intro a b c d W
    rw [show (9999 : Nat) = 9998 + 1 from rfl, run_equalIn_agg W 9998 41 _ _ hS2 hp2]
    simp only [Program.fieldsOf, Tryz.underlying41]
    go_simp
    by_cases h1 : a = c <;> by_cases h2 : b = d <;> simp [h1, h2]
  rw [show (10000 : Nat) = 9999 + 1 from rfl, run_equalIn_agg W 9999 43 _ _ hS hp]
  simp only [Program.fieldsOf, Tryz.underlying43]
  go_simp
  obtain ⟨a, b, c⟩ := x
  obtain ⟨a', b', c'⟩ := y
  by_cases h1 : a = a' <;> by_cases h2 : b = b' <;> by_cases h3 : c = c' <;> simp [h1, h2, h3]
theorem hv_eq (x y : Ht) (W : World) : (binOp .eql 43 (hv x) (hv y)).run Tryz.prog W = .ok (.bool (decide (x = y))) W := by
  rw [run_eql_struct, hv_in]; rfl
theorem hv_ne (x y : Ht) (W : World) : (binOp .neq 43 (hv x) (hv y)).run Tryz.prog W = .ok (.bool (!decide (x = y))) W := by
  rw [run_neq_struct, hv_in]; rfl

set_option maxHeartbeats 2000000 in
set_option maxRecDepth 100000 in
theorem same_c {w : World} {u v : Value} {l m : List Ht} (hu : Rd w u l) (hv' : Rd w v m) (hlen : l.length ≤ 4000) :
    Calls Tryz.prog 16 #[u, v] w fun e w' => e = .returned (.bool (decide (l = m))) ∧ Gr w w' := by
  obtain ⟨a, ca, rfl, ha⟩ := hu.form
  obtain ⟨b, cb, rfl, hb⟩ := hv'.form
  clear hu hv'
  by_cases hlm : l.length = m.length
  · have A : Hid (∀ i, i < l.length → ∃ b o, a = some ⟨b, o, none⟩ ∧ Lies w b o l) := ha
    have B : Hid (∀ i, i < m.length → ∃ b' o, b = some ⟨b', o, none⟩ ∧ Lies w b' o m) := hb
    have L : Hid (l.length = m.length) := hlm
    rw [← hlm]
    obtain ⟨n, hN⟩ : ∃ n, n = l.length := ⟨_, rfl⟩
    have N : Hid (n = l.length) := hN
    rw [← hN] at hlen ⊢
    clear ha hb hlm hN
    go_enter Tryz.func16, Tryz.ntmps16
    go_wp2
    go_loopw [5] (fun iv w' => ∃ q : Nat, iv = .int .i64 (q : Int) ∧ q ≤ n ∧ Hid (l.take q = m.take q ∧ Gr w w')) (fun iv _ => n - (intOf iv).toNat)
    case atStart => exact ⟨0, rfl, Nat.zero_le _, ⟨by simp, Below.refl _ _⟩⟩
    case round =>
      obtain ⟨q, rfl, hq, X⟩ := hrel
      by_cases hqn : q < n
      · obtain ⟨b1, o1, ea, h1⟩ := A.out q (by have := N.out; omega)
        obtain ⟨b2, o2, eb, h2⟩ := B.out q (by have := L.out; have := N.out; omega)
        obtain ⟨x0, x1, x2⟩ := (h1.gr X.out.2) q (by have := N.out; omega)
        obtain ⟨y0, y1, y2⟩ := (h2.gr X.out.2) q (by have := L.out; have := N.out; omega)
        subst ea; subst eb
        have Q : Hid (q < l.length ∧ q < m.length) := ⟨by have := N.out; omega, by have := L.out; have := N.out; omega⟩
        obtain ⟨x, hx⟩ : ∃ x, x = l[q]! := ⟨_, rfl⟩
        obtain ⟨y, hy⟩ : ∃ y, y = m[q]! := ⟨_, rfl⟩
        have XY : Hid (x = l[q]! ∧ y = m[q]!) := ⟨hx, hy⟩
        rw [← hx] at x0 x1 x2
        rw [← hy] at y0 y1 y2
        clear hx hy h1 h2
        have hne := fun W => hv_ne x y W
        by_cases hxy : x = y
        · have E : Hid (x = y) := hxy
          rw [decide_eq_true hxy] at hne
          clear hxy
          go_wp2
          go_quiet (fail)
          go_wp2
          go_roundw
          case rel =>
            refine ⟨q + 1, by simp, hqn, ⟨?_, X.out.2.trans (below_drewN (Below.refl _ _) _)⟩⟩
            obtain ⟨e1, e2⟩ := XY.out
            have e3 := E.out
            rw [e1, e2, getElem!_pos l q Q.out.1, getElem!_pos m q Q.out.2] at e3
            rw [List.take_succ_eq_append_getElem Q.out.1, List.take_succ_eq_append_getElem Q.out.2, X.out.1, e3]
          case measure => simp [intOf]; omega
        · have E : Hid (l ≠ m) := by
            intro e
            obtain ⟨e1, e2⟩ := XY.out
            exact hxy (by rw [e1, e2, e])
          rw [decide_eq_false hxy] at hne
          have R : Hid (decide (l = m) = false) := decide_eq_false E.out
          clear hxy
          go_wp2
          go_quiet (fail)
          go_wp2
          go_ret
          exact ⟨by rw [R.out]; rfl, X.out.2.trans (below_drewN (Below.refl _ _) _)⟩
      · have R : Hid (decide (l = m) = true) := by
          have e := X.out.1
          have h1 := N.out
          have h2 := L.out
          rw [List.take_of_length_le (by omega), List.take_of_length_le (by omega)] at e
          exact decide_eq_true e
        go_wp2
        go_ret
        exact ⟨by rw [R.out]; rfl, X.out.2⟩
  · have R : Hid (decide (l = m) = false) := decide_eq_false (fun e => hlm (by rw [e]))
    have hne : ((l.length : Int) == (m.length : Int)) = false := by rw [beq_eq_false_iff_ne]; omega
    generalize l.length = n1 at *
    generalize m.length = n2 at *
    clear ha hb hlm
    go_enter Tryz.func16, Tryz.ntmps16
    go_wp2
    go_ret
    exact ⟨by rw [R.out]; rfl, Below.refl _ _⟩
end Go.Proofs.YtdmdjmliggjbjaaGreat.Tk

/- Plain facts on distances: both ways the same, nought just of a list and itself, the way round by a third one. -/
namespace Go.Proofs.YtdmdjmliggjbjaaGreat

theorem gap_abs (x y : Int) : gap x x y = (x - y).natAbs := by unfold gap; split <;> (try split) <;> omega
theorem gap_comm (x y : Int) : gap x x y = gap y y x := by rw [gap_abs, gap_abs]; omega
theorem gap_move (x y n : Int) : gap (x + n) (x + n) (y + n) = gap x x y := by rw [gap_abs, gap_abs]; omega
theorem gap_two (x y : Int) : gap (2 * x) (2 * x) (2 * y) = 2 * gap x x y := by rw [gap_abs, gap_abs]; omega
theorem sumN_ext {f g : Nat → Nat} {n : Nat} (h : ∀ i, i < n → f i = g i) : sumN f n = sumN g n := by
  induction n with
  | zero => rfl
  | succ n ih => simp only [sumN]; rw [ih (fun i hi => h i (by omega)), h n (by omega)]
theorem sumN_mono {f g : Nat → Nat} {n : Nat} (h : ∀ i, i < n → f i ≤ g i) : sumN f n ≤ sumN g n := by
  induction n with
  | zero => exact Nat.le_refl _
  | succ n ih =>
    have := ih (fun i hi => h i (by omega))
    have := h n (by omega)
    simp only [sumN]; omega
theorem sumN_zero {f : Nat → Nat} {n : Nat} (h : sumN f n = 0) {i : Nat} (hi : i < n) : f i = 0 := by
  induction n with
  | zero => omega
  | succ n ih =>
    simp only [sumN] at h
    by_cases e : i = n
    · subst e; omega
    · exact ih (by omega) (by omega)
theorem sumN_mul (f : Nat → Nat) (c n : Nat) : sumN (fun i => c * f i) n = c * sumN f n := by
  induction n with
  | zero => rfl
  | succ n ih => simp only [sumN]; rw [ih, Nat.mul_add]
theorem sumN_add (f g : Nat → Nat) (n : Nat) : sumN (fun i => f i + g i) n = sumN f n + sumN g n := by
  induction n with
  | zero => rfl
  | succ n ih => simp only [sumN]; rw [ih]; omega
theorem dst_comm {a b : List Int} (h : a.length = b.length) : dst a b = dst b a := by
  unfold dst; rw [h]
  exact sumN_ext (fun i _ => by rw [gap_comm])
theorem dst_zero {a b : List Int} (h : a.length = b.length) : dst a b = 0 ↔ a = b := by
  constructor
  · intro h0
    apply List.ext_getElem h
    intro i h1 h2
    have h3 := sumN_zero h0 h1
    have h4 : gap a[i]! a[i]! b[i]! = 0 := by
      rcases Nat.mul_eq_zero.1 h3 with h | h <;> exact h
    rw [gap_abs, getElem!_pos a i h1, getElem!_pos b i h2] at h4
    omega
  · rintro rfl
    unfold dst
    have : sumN (fun i => gap a[i]! a[i]! a[i]! * gap a[i]! a[i]! a[i]!) a.length = sumN (fun _ => 0) a.length := sumN_ext (fun i _ => by rw [gap_abs]; simp)
    rw [this]
    have h2 := sumN_le (fun _ => 0) 0 a.length (fun _ _ => Nat.le_refl _)
    omega
/-- One coordinate of the way round. -/
theorem tri_one (x y z : Int) (t u : Nat) : t * u * (gap x x z * gap x x z) ≤ u * (t + u) * (gap x x y * gap x x y) + t * (t + u) * (gap y y z * gap y y z) := by
  rw [gap_abs, gap_abs, gap_abs]
  have e1 : ((x - z).natAbs : Int) * ((x - z).natAbs : Int) = (x - z) * (x - z) := by rw [Int.natAbs_mul_self' (x - z)]
  have e2 : ((x - y).natAbs : Int) * ((x - y).natAbs : Int) = (x - y) * (x - y) := by rw [Int.natAbs_mul_self' (x - y)]
  have e3 : ((y - z).natAbs : Int) * ((y - z).natAbs : Int) = (y - z) * (y - z) := by rw [Int.natAbs_mul_self' (y - z)]
  apply Int.ofNat_le.1
  simp only [Int.natCast_mul, Int.natCast_add]
  rw [e1, e2, e3]
  have h : 0 ≤ ((u : Int) * (x - y) - (t : Int) * (y - z)) * ((u : Int) * (x - y) - (t : Int) * (y - z)) := by
    rcases Int.le_total 0 ((u : Int) * (x - y) - (t : Int) * (y - z)) with h | h
    · exact Int.mul_nonneg h h
    · exact Int.mul_nonneg_of_nonpos_of_nonpos h h
  have h2 : (t : Int) * u * ((x - z) * (x - z)) + ((u : Int) * (x - y) - (t : Int) * (y - z)) * ((u : Int) * (x - y) - (t : Int) * (y - z)) = (u : Int) * (t + u) * ((x - y) * (x - y)) + (t : Int) * (t + u) * ((y - z) * (y - z)) := by
    grind
  omega
theorem tri_sum (a b c : List Int) (hab : a.length = b.length) (t u : Nat) : t * u * dst a c ≤ u * (t + u) * dst a b + t * (t + u) * dst b c := by
  unfold dst
  rw [← hab, ← sumN_mul, ← sumN_mul, ← sumN_mul, ← sumN_add]
  exact sumN_mono (fun i _ => tri_one _ _ _ t u)
/-- If a and b are nearer than t, b and c nearer than u, then a and c are nearer than both. -/
theorem tri_lt {a b c : List Int} (hab : a.length = b.length) {t u : Nat} (h1 : dst a b ≤ t * t) (h2 : dst b c < u * u) : dst a c < (t + u) * (t + u) := by
  by_cases ht : t = 0
  · subst ht
    have hA : dst a b = 0 := by omega
    have h := tri_sum a b c hab 1 (dst b c + 1)
    rw [hA] at h
    apply Nat.lt_of_le_of_lt _ (show dst b c < (0 + u) * (0 + u) by simpa using h2)
    apply Nat.le_of_not_lt
    intro hc
    have h3 : (dst b c + 1) * (dst b c + 1) ≤ (dst b c + 1) * dst a c := Nat.mul_le_mul_left _ hc
    simp only [Nat.one_mul, Nat.mul_zero, Nat.zero_add] at h
    have h4 : (dst b c + 1) * (dst b c + 1) ≤ (1 + (dst b c + 1)) * dst b c := Nat.le_trans h3 h
    rw [Nat.add_mul 1, Nat.mul_add] at h4
    omega
  · have hu : u ≠ 0 := by rintro rfl; simp at h2
    have h := tri_sum a b c hab t u
    have k1 : u * (t + u) * dst a b ≤ u * (t + u) * (t * t) := Nat.mul_le_mul_left _ h1
    have k2 : t * (t + u) * dst b c < t * (t + u) * (u * u) := Nat.mul_lt_mul_of_pos_left h2 (Nat.mul_pos (by omega) (by omega))
    have k3 : u * (t + u) * (t * t) + t * (t + u) * (u * u) = t * u * ((t + u) * (t + u)) := by grind
    exact Nat.lt_of_mul_lt_mul_left (a := t * u) (by omega)
/-- A ball's bound. -/
theorem ball_bound {l v q : List Int} (hlv : l.length = v.length) {R : Nat} (h : dst l v ≤ R) : ballV (dst l q) R ≤ dst v q := by
  unfold ballV
  split
  · exact Nat.zero_le _
  · rename_i h0
    apply Nat.le_of_not_lt
    intro hc
    have hR : R ≤ rup R * rup R := by
      unfold rup; split
      · rename_i e; omega
      · have := (rt_is R).2; omega
    have hu : rup R < rt (dst l q) := by
      apply Nat.lt_of_not_le; intro hle
      rw [Nat.sub_eq_zero_of_le hle] at hc; simp at hc
    have := tri_lt (c := q) hlv (t := rup R) (u := rt (dst l q) - rup R) (by omega) hc
    rw [Nat.add_sub_cancel' (by omega)] at this
    have := (rt_is (dst l q)).1
    omega
theorem gap_out {l h x y : Int} (h1 : gap l h x = 0) : gap l h y ≤ gap x x y := by
  unfold gap at *; split at h1 <;> (try split at h1) <;> split <;> (try split) <;> (try split) <;> (try split) <;> omega
/-- THE BOUND: whatever lies in a region is at least as far away. -/
theorem bound_le {r : Reg} {v q : List Int} (h1 : ckB r v = 0) (h2 : ckB r q = 0) (hin : inV r v = true) : bdV r q ≤ dst v q := by
  unfold bdV
  unfold inV at hin
  split
  · rename_i s
    rw [if_pos s] at hin
    obtain ⟨a1, a2, a3, a4, a5, a6, a7⟩ := box_ok h1 s
    obtain ⟨b1, b2, b3, b4, b5, b6, b7⟩ := box_ok h2 s
    have h0 : bx r.L r.H v = 0 := by simpa using hin
    have e : v.length = q.length := by omega
    unfold bx bxN at h0 ⊢
    unfold dst
    rw [e] at h0 ⊢
    refine sumN_mono (fun i hi => ?_)
    have h3 := sumN_zero h0 hi
    have h4 : gap r.L[i]! r.H[i]! v[i]! = 0 := by
      rcases Nat.mul_eq_zero.1 h3 with h | h <;> exact h
    exact Nat.mul_le_mul (gap_out h4) (gap_out h4)
  · rename_i s
    rw [if_neg s] at hin
    split
    · rename_i s3
      rw [if_pos s3] at hin
      obtain ⟨a1, _⟩ := ball_ok h1 s3
      exact ball_bound a1 (by simpa using hin)
    · exact Nat.zero_le _
/-- The way round by a third vector, in roots. -/
theorem root_tri {a b c : List Int} (hab : a.length = b.length) : rt (dst a c) ≤ rt (dst a b) + rt (dst b c) + 1 := by
  apply Nat.le_of_not_lt; intro hc
  have h1 := (rt_is (dst a b)).2
  have h2 := (rt_is (dst b c)).2
  have h3 := (rt_is (dst a c)).1
  have h4 := tri_lt (c := c) hab (Nat.le_of_lt h1) h2
  have h5 := sq_le (show rt (dst a b) + 1 + (rt (dst b c) + 1) ≤ rt (dst a c) by omega)
  omega
end Go.Proofs.YtdmdjmliggjbjaaGreat
