/- factory.read's closures, spell by them, read. -/
import Derived.Test.YtjblfjghbpcheaaDoorFS
namespace Go.Proofs.YtjblfjghbpcheaaDoor
open Go.Shelf Go.RowKit

/-- A string value of these bytes. -/
abbrev Str (l : Bs) : Value := .string ⟨l.toArray⟩
/-- A text that is being read: what is left lies in block bt, whether it could be in bc. -/
structure RdAt (bt bc : Nat) (st : St) (w : World) : Prop where
  txt : w.heap[bt]? = some (.cells #[Str st.1] 9 (0, 0))
  cld : w.heap[bc]? = some (.cells #[.bool st.2] 4 (0, 0))
  len : st.1.length ≤ 65536
theorem RdAt.ne {bt bc : Nat} {st : St} {w : World} (h : RdAt bt bc st w) : bt ≠ bc := by
  intro e; subst e
  have := h.txt.symm.trans h.cld
  simp at this
theorem RdAt.later {bt bc : Nat} {st : St} {w w' : World} (h : RdAt bt bc st w) (b : Below w.heap.size w w') : RdAt bt bc st w' :=
  ⟨(b.block bt (Array.getElem?_eq_some_iff.1 h.txt).1).trans h.txt, (b.block bc (Array.getElem?_eq_some_iff.1 h.cld).1).trans h.cld, h.len⟩
/-- Nothing but these two blocks, and what is new, has turned. -/
structure Kp2 (bt bc : Nat) (w w' : World) : Prop where
  os : w'.os = w.os
  tape : w'.tape = w.tape
  out : w'.output = w.output
  size : w.heap.size ≤ w'.heap.size
  blk : ∀ k, k < w.heap.size → k ≠ bt → k ≠ bc → w'.heap[k]? = w.heap[k]?
theorem Kp2.refl (bt bc : Nat) (w : World) : Kp2 bt bc w w := ⟨rfl, rfl, rfl, Nat.le_refl _, fun _ _ _ _ => rfl⟩
theorem Kp2.trans {bt bc : Nat} {a b c : World} (h : Kp2 bt bc a b) (k : Kp2 bt bc b c) : Kp2 bt bc a c :=
  ⟨k.os.trans h.os, k.tape.trans h.tape, k.out.trans h.out, Nat.le_trans h.size k.size, fun i hi h1 h2 => (k.blk i (Nat.lt_of_lt_of_le hi h.size) h1 h2).trans (h.blk i hi h1 h2)⟩
theorem Kp2.of {bt bc : Nat} {a b : World} (h : Below a.heap.size a b) : Kp2 bt bc a b := ⟨h.os, h.tape, h.output, h.size, fun i hi _ _ => h.block i hi⟩
theorem Kp2.setCell {bt bc : Nat} {a w : World} (h : Kp2 bt bc a w) (p : Addr) (hp : p.block = bt ∨ p.block = bc ∨ a.heap.size ≤ p.block) (v : Value) : Kp2 bt bc a (w.setCell p v) := by
  refine ⟨h.os, h.tape, h.out, by simpa [World.setCell] using h.size, fun i hi h1 h2 => ?_⟩
  rw [Below.heap_setCell _ _ _ _ (fun e => by omega)]
  exact h.blk i hi h1 h2
theorem Kp2.alloc {bt bc : Nat} {a w : World} (h : Kp2 bt bc a w) (o : Obj) : Kp2 bt bc a (w.alloc o) :=
  ⟨h.os, h.tape, h.out, by have := h.size; simp; omega, fun i hi h1 h2 => (Lib.alloc_old w o i (by have := h.size; omega)).trans (h.blk i hi h1 h2)⟩
theorem Kp2.drew {bt bc : Nat} {a w : World} (h : Kp2 bt bc a w) : Kp2 bt bc a w.drew := ⟨h.os, h.tape, h.out, h.size, h.blk⟩
theorem Kp2.below {bt bc B : Nat} {a w : World} (h : Kp2 bt bc a w) (h1 : B ≤ bt) (h2 : B ≤ bc) (hB : B ≤ a.heap.size) : Below B a w :=
  ⟨h.os, h.tape, h.out, h.size, fun i hi => h.blk i (by omega) (by omega) (by omega)⟩
theorem Kp2.err {bt bc : Nat} {a w : World} (h : Kp2 bt bc a w) (hE : ErrV a) (h1 : 2 ≤ bt) (h2 : 2 ≤ bc) : ErrV w := by
  obtain ⟨⟨p, q, e1⟩, ⟨r, s, e2⟩⟩ := hE
  have l1 := World.block_lt_of_cell? _ _ e1
  have l2 := World.block_lt_of_cell? _ _ e2
  refine ⟨⟨p, q, ?_⟩, ⟨r, s, ?_⟩⟩
  · rw [← e1]; simp only [World.cell?]; rw [h.blk _ l1 (show 0 ≠ bt by omega) (show 0 ≠ bc by omega)]
  · rw [← e2]; simp only [World.cell?]; rw [h.blk _ l2 (show 1 ≠ bt by omega) (show 1 ≠ bc by omega)]

theorem RdAt.put {bt bc : Nat} {st st' : St} {w : World} (h : RdAt bt bc st w) (hl : st'.1.length ≤ 65536) :
    RdAt bt bc st' ((w.setCell ⟨bt, 0, none⟩ (Str st'.1)).setCell ⟨bc, 0, none⟩ (.bool st'.2)) := by
  have hne := h.ne
  refine ⟨?_, ?_, hl⟩
  · rw [Below.heap_setCell _ _ _ _ (by simpa using hne)]
    simp [World.setCell, Array.getElem?_modify, h.txt]
  · simp [World.setCell, Array.getElem?_modify, h.cld, hne]
theorem RdAt.cells {bt bc : Nat} {st : St} {w : World} (h : RdAt bt bc st w) : w.cell? ⟨bt, 0, none⟩ = some (Str st.1) ∧ w.cell? ⟨bc, 0, none⟩ = some (.bool st.2) ∧ w.frozen? ⟨bt, 0, none⟩ = false ∧ w.frozen? ⟨bc, 0, none⟩ = false :=
  ⟨by rw [Lib.cell_of_heap h.txt]; rfl, by rw [Lib.cell_of_heap h.cld]; rfl, Lib.frozen_of_heap h.txt 0, Lib.frozen_of_heap h.cld 0⟩
theorem cutS_len (st : St) (p : Bs) (h : st.1.length ≤ 65536) : (cutS st p).1.length ≤ 65536 := by
  unfold cutS; split
  · simp; omega
  · exact h
theorem cutS_eq (st : St) (p : Bs) : cutS st p = (Lib.trimPrefix st.1 p, st.2 && Lib.hasPrefix st.1 p) := by
  unfold cutS Lib.trimPrefix Lib.hasPrefix
  split <;> rename_i h <;> simp [h]

set_option maxHeartbeats 1000000 in
theorem cut_c (bt bc : Nat) (st : St) (p : ByteArray) (w : World) (h : RdAt bt bc st w) :
    Calls Tryd.prog 21 #[.string p, .pointer (some ⟨bt, 0, none⟩), .pointer (some ⟨bc, 0, none⟩)] w fun e w' => e = .returned (.tuple #[]) ∧ RdAt bt bc (cutS st p.data.toList) w' ∧ Kp2 bt bc w w' := by
  have hn := h.put (st' := cutS st p.data.toList) (cutS_len st _ h.len)
  have K : Kp2 bt bc w ((w.setCell ⟨bt, 0, none⟩ (Str (cutS st p.data.toList).1)).setCell ⟨bc, 0, none⟩ (.bool (cutS st p.data.toList).2)) :=
    ((Kp2.refl bt bc w).setCell _ (Or.inl rfl) _).setCell _ (Or.inr (Or.inl rfl)) _
  obtain ⟨c1, c2, f1, f2⟩ := h.cells
  have hne := h.ne
  have cp := cutPrefix_c ⟨st.1.toArray⟩ p w
  rw [show (⟨st.1.toArray⟩ : ByteArray).data.toList = st.1 from rfl] at cp
  rw [cutS_eq] at hn K ⊢
  clear h
  obtain ⟨t, b⟩ := st
  simp only at *
  generalize Lib.trimPrefix t p.data.toList = t' at *
  generalize Lib.hasPrefix t p.data.toList = q at *
  cases b <;>
  · go_enter Tryd.func21, Tryd.ntmps21
    go_wp2_with fail
    refine cp.mono ?_
    rintro e w' ⟨rfl, rfl⟩
    go_wp2
    go_end0
    exact ⟨rfl, hn, K⟩

theorem size_mk (l : Bs) : (⟨l.toArray⟩ : ByteArray).size = l.length := by simp [ByteArray.size]
theorem ext_take (l : Bs) (k : Nat) : (⟨l.toArray⟩ : ByteArray).extract 0 k = ⟨(l.take k).toArray⟩ := by
  have : ((⟨l.toArray⟩ : ByteArray).extract 0 k).data.toList = l.take k := by simp
  cases h : (⟨l.toArray⟩ : ByteArray).extract 0 k with
  | mk d => rw [h] at this; simp only at this; rw [← this]
theorem pre_take (l : Bs) (k : Nat) : cutS (l, true) (l.take k) = (l.drop (min k l.length), true) := by
  unfold cutS
  have : (l.take k).isPrefixOf l = true := by rw [List.isPrefixOf_iff_prefix]; exact List.take_prefix k l
  simp [this]

set_option maxHeartbeats 1000000 in
/-- read's number: what it tells is what Atoi tells of the digits in front. -/
theorem number_c (bt bc bf : Nat) (st : St) (n : Int) (w : World) (h : RdAt bt bc st w) (hE : ErrV w) (h1 : 2 ≤ bt) (h2 : 2 ≤ bc)
    (hf : w.heap[bf]? = some (.cells #[.func (.func 21) #[] #[.pointer (some ⟨bt, 0, none⟩), .pointer (some ⟨bc, 0, none⟩)]] 47 (0, 0))) :
    Calls Tryd.prog 23 #[.int .i64 n, .pointer (some ⟨bt, 0, none⟩), .pointer (some ⟨bc, 0, none⟩), .pointer (some ⟨bf, 0, none⟩)] w fun e w' => e = .returned (.int .i64 (numV st)) ∧ RdAt bt bc (numS st) w' ∧ Kp2 bt bc w w' := by
  obtain ⟨t, b⟩ := st
  have hlen := h.len
  simp only at hlen
  have hnd := nd_le t
  have dc : ∀ w', Calls Tryd.prog 24 #[Str t] w' fun e w'' => e = .returned (.int .i64 (nd t : Int)) ∧ w'' = w' := fun w' => by
    have := digitsOf_c ⟨t.toArray⟩ w' (by rw [size_mk]; exact hlen)
    exact this
  have hsz := size_mk t
  have hext := ext_take t (nd t)
  have nc : ∀ w', Calls Tryd.prog 25 #[Str (t.take (nd t))] w' fun e w'' => e = .returned (.bool (isN (t.take (nd t)))) ∧ w'' = w' := fun w' =>
    isNumber_c ⟨(t.take (nd t)).toArray⟩ w' (by rw [size_mk]; simp; omega)
  have ac : ∀ w', ErrV w' → Calls Tryd.prog 26 #[Str (t.take (nd t))] w' fun e w'' => (∃ x : Value, e = .returned (.tuple #[.int .i64 (numV (t, b)), x]) ∧ x ≠ undef) ∧ Below w'.heap.size w' w'' := fun w' hE' =>
    atoi_c ⟨(t.take (nd t)).toArray⟩ (by rw [size_mk]; simp; omega) w' hE'
  have hN : numS (t, b) = cutS (t, b && isN (t.take (nd t))) (t.take (nd t)) := by
    have := pre_take t (nd t)
    unfold cutS at this ⊢
    have hp : (t.take (nd t)).isPrefixOf t = true := by rw [List.isPrefixOf_iff_prefix]; exact List.take_prefix _ t
    simp [numS, hp, Nat.min_eq_left hnd]
  obtain ⟨c1, c2, f1, f2⟩ := h.cells
  simp only at c1 c2
  have cf : w.cell? ⟨bf, 0, none⟩ = some (.func (.func 21) #[] #[.pointer (some ⟨bt, 0, none⟩), .pointer (some ⟨bc, 0, none⟩)]) := by rw [Lib.cell_of_heap hf]; rfl
  have hbc : bf ≠ bc := by
    intro e; subst e
    have := hf.symm.trans h.cld
    simp at this
  have hnz : (0 : Int) ≤ (nd t : Int) ∧ (nd t : Int) ≤ (t.length : Int) := by omega
  generalize nd t = N at *
  go_enter Tryd.func23, Tryd.ntmps23
  go_wp2
  go_quiet ((go_at_call 24; refine Calls.quiet_of_same (dc _)))
  generalize hW : w.drewN nq = W
  have hB : Below w.heap.size w W := by rw [← hW]; exact below_drewN (Below.refl _ _) nq
  have h' : RdAt bt bc (t, b) W := h.later hB
  have hE' : ErrV W := hE.below (Nat.le_refl _) hB
  have K0 : Kp2 bt bc w W := Kp2.of hB
  have d1 : W.cell? ⟨bt, 0, none⟩ = some (Str t) := h'.cells.1
  have d2 : W.cell? ⟨bc, 0, none⟩ = some (.bool b) := h'.cells.2.1
  have d3 : W.frozen? ⟨bc, 0, none⟩ = false := h'.cells.2.2.2
  have d4 : W.cell? ⟨bf, 0, none⟩ = some (.func (.func 21) #[] #[.pointer (some ⟨bt, 0, none⟩), .pointer (some ⟨bc, 0, none⟩)]) := by
    rw [hB.cell (World.block_lt_of_cell? _ _ cf)]; exact cf
  clear c1 c2 f1 f2 cf
  -- behind the store of could
  have h2' : RdAt bt bc (t, b && isN (t.take N)) (W.setCell ⟨bc, 0, none⟩ (.bool (b && isN (t.take N)))) := by
    refine ⟨?_, ?_, hlen⟩
    · rw [Below.heap_setCell _ _ _ _ (by simpa using h'.ne)]
      exact h'.txt
    · simp [World.setCell, Array.getElem?_modify, h'.cld]
  have K1 : Kp2 bt bc W (W.setCell ⟨bc, 0, none⟩ (.bool (b && isN (t.take N)))) := (Kp2.refl bt bc W).setCell ⟨bc, 0, none⟩ (Or.inr (Or.inl rfl)) _
  have hE2 : ErrV (W.setCell ⟨bc, 0, none⟩ (.bool (b && isN (t.take N)))) := K1.err hE' h1 h2
  have cc := cut_c bt bc (t, b && isN (t.take N)) ⟨(t.take N).toArray⟩ _ h2'
  rw [show (⟨(t.take N).toArray⟩ : ByteArray).data.toList = t.take N from rfl, ← hN] at cc
  clear hN h2' hext hnd
  have HV : ∃ V, Hid (numV (t, b) = V) := ⟨_, rfl⟩
  obtain ⟨V, HV⟩ := HV
  rw [HV.out] at ac
  generalize isN (t.take N) = q at *
  have fin : ∀ {x : Value} {w2 w3 : World}, RdAt bt bc (numS (t, b)) w2 → Kp2 bt bc (W.setCell ⟨bc, 0, none⟩ (.bool (b && q))) w2 → Below w2.heap.size w2 w3 → RdAt bt bc (numS (t, b)) w3 ∧ Kp2 bt bc w w3 :=
    fun r k b3 => ⟨r.later b3, ((K0.trans K1).trans k).trans (Kp2.of b3)⟩
  cases b with
  | false =>
    simp only [Bool.false_and] at cc hE2 fin K1
    clear hW
    go_wp2_with fail
    refine cc.mono ?_
    rintro e w2 ⟨rfl, r2, k2⟩
    go_wp2_with fail
    refine (ac _ (k2.err hE2 h1 h2)).mono ?_
    rintro e w3 ⟨⟨x, rfl, hx⟩, b3⟩
    go_wp2
    go_ret
    exact ⟨by rw [HV.out]; rfl, fin (x := x) r2 k2 b3⟩
  | true =>
    simp only [Bool.true_and] at cc hE2 fin K1
    clear hW
    go_wp2_with fail
    refine (nc _).mono ?_
    rintro e w2 ⟨rfl, rfl⟩
    go_wp2_with fail
    refine cc.mono ?_
    rintro e w2 ⟨rfl, r2, k2⟩
    go_wp2_with fail
    refine (ac _ (k2.err hE2 h1 h2)).mono ?_
    rintro e w3 ⟨⟨x, rfl, hx⟩, b3⟩
    go_wp2
    go_ret
    exact ⟨by rw [HV.out]; rfl, fin (x := x) r2 k2 b3⟩

/-- What a spec's box holds. -/
abbrev SpC (k n p c : Int) : Obj := .cells #[.int .i64 k, .int .i64 n, .int .i64 p, .int .i64 c] 24 (0, 0)
theorem box_cells {w : World} {b : Nat} {k n p c : Int} (h : w.heap[b]? = some (SpC k n p c)) : (w.cell? ⟨b, 0, none⟩ = some (.int .i64 k) ∧ w.cell? ⟨b, 1, none⟩ = some (.int .i64 n) ∧ w.cell? ⟨b, 2, none⟩ = some (.int .i64 p) ∧ w.cell? ⟨b, 3, none⟩ = some (.int .i64 c))
    ∧ (w.frozen? ⟨b, 0, none⟩ = false ∧ w.frozen? ⟨b, 1, none⟩ = false ∧ w.frozen? ⟨b, 2, none⟩ = false ∧ w.frozen? ⟨b, 3, none⟩ = false) :=
  ⟨⟨by rw [Lib.cell_of_heap h]; rfl, by rw [Lib.cell_of_heap h]; rfl, by rw [Lib.cell_of_heap h]; rfl, by rw [Lib.cell_of_heap h]; rfl⟩,
   Lib.frozen_of_heap h 0, Lib.frozen_of_heap h 1, Lib.frozen_of_heap h 2, Lib.frozen_of_heap h 3⟩

end Go.Proofs.YtjblfjghbpcheaaDoor
