/- vector. -/
import Derived.Test.YtmlincnmhjkjgaaCyCoH
namespace Go.Proofs.Ytmlincnmhjkjgaa
open Go.RowKit

/-- A coordinate's number; so many from the beginning on. -/
def cvI (n : Nat) : Int := if n < 2147483648 then (n : Int) else (n : Int) - 4294967296
def cvN (l : List UInt8) : Int := cvI (leN (tk 4 l))
theorem cvI_wrap {n : Nat} (h : n < 4294967296) : wrap64 (wrap32 (n : Int)) = cvI n := by
  unfold cvI wrap64 wrap32; split <;> omega
def vecOf : Nat → List UInt8 → List Int
  | 0, _ => []
  | k + 1, l => vecOf k l ++ [cvN (l.drop (4 * k))]
theorem vecOf_length (k : Nat) (l : List UInt8) : (vecOf k l).length = k := by
  induction k with
  | zero => rfl
  | succ k ih => rw [vecOf, List.length_append, ih]; rfl
/-- vector under way. -/
structure VecI (w0 w : World) (bt bs : Nat) (l : List UInt8) (sh : Bool) (k q : Nat) (w' : World) : Prop where
  tk : TkAt w0 bt bs (l.drop (4 * q)) (sh || decide (l.length < 4 * q)) w'
  kp : Kp2 bt bs w w'
  lt : w.heap.size < w'.heap.size
  blk : w'.heap[w.heap.size]? = some (.cells (((vecOf q l).map (Value.int .i64) ++ List.replicate (k - q) (Value.int .i64 0)).toArray) 3 (0, 0))
theorem VecI.next {w0 w w1 w2 : World} {bt bs : Nat} {l : List UInt8} {sh : Bool} {k q : Nat} (h : VecI w0 w bt bs l sh k q w1) (hq : q < k) (h1 : bt < w.heap.size) (h2 : bs < w.heap.size)
    (t : TkAt w0 bt bs ((l.drop (4 * q)).drop 4) ((sh || decide (l.length < 4 * q)) || decide ((l.drop (4 * q)).length < 4)) w2) (p : Kp2 bt bs w1 w2) :
    VecI w0 w bt bs l sh k (q + 1) (w2.setCell ⟨w.heap.size, q, none⟩ (.int .i64 (cvN (l.drop (4 * q))))) := by
  have hb : w2.heap[w.heap.size]? = some (.cells (((vecOf q l).map (Value.int .i64) ++ List.replicate (k - q) (Value.int .i64 0)).toArray) 3 (0, 0)) := (p.blk _ h.lt (by omega) (by omega)).trans h.blk
  refine ⟨?_, (h.kp.trans p).setCell ⟨w.heap.size, q, none⟩ (.inr (.inr (Nat.le_refl _))) _, by rw [World.size_setCell]; have := h.lt; have := p.size; omega, ?_⟩
  · have e1 : (l.drop (4 * q)).drop 4 = l.drop (4 * (q + 1)) := by rw [List.drop_drop, Nat.mul_add]
    have e2 : ((sh || decide (l.length < 4 * q)) || decide ((l.drop (4 * q)).length < 4)) = (sh || decide (l.length < 4 * (q + 1))) := by
      rw [Bool.or_assoc, List.length_drop, ← Bool.decide_or]
      congr 1
      apply decide_eq_decide.2; omega
    rw [e1, e2] at t
    obtain ⟨v, t1, t2⟩ := t.txt
    exact ⟨gb_set t.gb (Nat.le_trans (Nat.le_trans t.tl (Nat.le_of_lt h1)) (Nat.le_refl _)) _, t.tl, t.sl, ⟨v, (Below.heap_setCell _ _ _ _ (by show bt ≠ w.heap.size; omega)).trans t1, t2⟩, (Below.heap_setCell _ _ _ _ (by show bs ≠ w.heap.size; omega)).trans t.sht⟩
  · rw [heap_set0 hb]
    congr 2
    apply Array.ext'
    rw [Array.toList_setIfInBounds]
    show ((vecOf q l).map (Value.int .i64) ++ List.replicate (k - q) (Value.int .i64 0)).set q (Value.int .i64 (cvN (l.drop (4 * q)))) = (vecOf (q + 1) l).map (Value.int .i64) ++ List.replicate (k - (q + 1)) (Value.int .i64 0)
    have hl := vecOf_length q l
    rw [vecOf, show k - q = (k - (q + 1)) + 1 by omega, List.replicate_succ, List.set_append_right _ _ (by rw [List.length_map, hl]; exact Nat.le_refl _), List.length_map, hl, Nat.sub_self]
    simp
theorem VecI.own {w0 w w1 : World} {bt bs : Nat} {l : List UInt8} {sh : Bool} {k : Nat} (h : VecI w0 w bt bs l sh k k w1) (hk : k ≤ 255) : Own w1 w.heap.size (.slice (some ⟨w.heap.size, 0, none⟩) k k) (vecOf k l) := by
  have hl := vecOf_length k l
  have hb := h.blk
  rw [Nat.sub_self, List.replicate_zero, List.append_nil] at hb
  refine ⟨by rw [List.length_map, Nat.mul_one], .inr ⟨w.heap.size, k, _, by rw [hl], Nat.le_refl _, hb, by rw [hl]; exact Nat.le_refl _, by unfold maxLen; omega, by rw [List.size_toArray, List.length_map, hl, Nat.mul_one], ?_⟩⟩
  show ((vecOf k l).map (Value.int .i64)).take _ = _
  rw [List.take_of_length_le (by rw [List.length_map, Nat.mul_one]; exact Nat.le_refl _)]
set_option maxHeartbeats 2000000 in
set_option maxRecDepth 100000 in
theorem vector_c {w0 : World} {bt bs : Nat} {l : List UInt8} {sh : Bool} {w : World} (h : TkAt w0 bt bs l sh w) (k : Nat) (hk : k ≤ 255) (hl : l.length ≤ 4611686018427387904) :
    Calls Try.prog 13 #[TK bt bs, .int .i64 (k : Int)] w fun e w' => ∃ v', e = .returned v' ∧ Own w' w.heap.size v' (vecOf k l) ∧ TkAt w0 bt bs (l.drop (4 * k)) (sh || decide (l.length < 4 * k)) w' ∧ Kp2 bt bs w w' := by
  obtain ⟨_, _, lt1, lt2, _⟩ := h.cells
  have hmk := run_make_row' (P := Try.prog) 23 3 (.int .i64 0) 8 Try.underlying23 Try.info3 rfl .i64 .i64 k (by omega) (by omega) w
  have I0 : Hid (VecI w0 w bt bs l sh k 0 (w.alloc (.cells (madeCells #[.int .i64 0] k) 3))) := by
    refine ⟨by simpa using h.later (gb_alloc (Below.refl _ w) _), Kp2.of (gb_alloc (Below.refl _ w) _), by simp, ?_⟩
    rw [heap_alloc_new]
    congr 2
    apply Array.ext'
    rw [toList_madeCells_one]
    simp [vecOf]
  have HL : Hid (l.length ≤ 4611686018427387904) := hl
  have LT : Hid (bt < w.heap.size ∧ bs < w.heap.size) := ⟨lt1, lt2⟩
  clear h lt1 lt2 hl
  unfold TK
  go_enter Try.func13, Try.ntmps13
  go_wp2
  go_loopw [11] (fun iv w' => ∃ q : Nat, iv = .int .i64 (q : Int) ∧ q ≤ k ∧ Hid (VecI w0 w bt bs l sh k q w')) (fun iv _ => k - (intOf iv).toNat)
  case atStart => exact ⟨0, rfl, Nat.zero_le _, I0.out⟩
  case round =>
    obtain ⟨q, rfl, hq, X⟩ := hrel
    by_cases hqk : q < k
    · have hqi : (q : Int) < (k : Int) := by omega
      have t1 := take_c X.out.tk 4 (by decide) (by rw [List.length_drop]; have := HL.out; omega)
      go_wp2_with fail
      refine t1.mono ?_
      rintro e w2 ⟨v2, rfl, o2, T2, K2⟩
      have Y := X.out.next hqk LT.out.1 LT.out.2 T2 K2
      have hb2 : w2.heap[w.heap.size]? = some (.cells (((vecOf q l).map (Value.int .i64) ++ List.replicate (k - q) (Value.int .i64 0)).toArray) 3 (0, 0)) := (K2.blk _ X.out.lt (by have := LT.out.1; omega) (by have := LT.out.2; omega)).trans X.out.blk
      have CV : Hid (wrap64 (wrap32 (leN (tk 4 (l.drop (4 * q))) : Int)) = cvN (l.drop (4 * q))) := cvI_wrap (tk_lt 4 _)
      have c2 := tkn_c o2 (by decide)
      have hfz : w2.frozen? ⟨w.heap.size, q, none⟩ = false := by simp [World.frozen?, hb2]
      obtain ⟨z, hc⟩ : ∃ z, w2.cell? ⟨w.heap.size, q, none⟩ = some z := by
        have := vecOf_length q l
        have hlt : q < ((vecOf q l).map (Value.int .i64) ++ List.replicate (k - q) (Value.int .i64 0)).length := by
          rw [List.length_append, List.length_map, List.length_replicate, this]; omega
        refine ⟨((vecOf q l).map (Value.int .i64) ++ List.replicate (k - q) (Value.int .i64 0))[q], ?_⟩
        simp only [World.cell?, hb2]
        simp [List.getElem?_eq_getElem hlt]
      clear hb2 t1
      go_wp2_with fail
      refine c2.mono ?_
      rintro e w' ⟨rfl, rfl⟩
      generalize leN (tk 4 (l.drop (4 * q))) = m at *
      go_wp2
      rw [CV.out]
      exact ⟨⟨q + 1, by simp, hqk, Y⟩, by simp [intOf]; omega⟩
    · have e : q = k := by omega
      subst e
      go_wp2
      go_ret
      exact ⟨_, rfl, X.out.own hk, X.out.tk, X.out.kp⟩
end Go.Proofs.Ytmlincnmhjkjgaa
