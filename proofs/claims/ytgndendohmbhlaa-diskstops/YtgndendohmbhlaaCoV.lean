/- withNumber and number above what was there; withVector, coord; checkChange. -/
import Derived.Test.YtgndendohmbhlaaCoO
namespace Go.Proofs.Ytgndendohmbhlaa
open Go.RowKit

theorem OwnB.below {w1 w w' : World} {v v' : Value} {l : List UInt8} (g : Gb w1 w) (h : OwnB w w1.heap.size v l) (k : GrB w w' v v') : Gb w1 w' :=
  g.trans (k.below (fun i e => (h.lo i e).1) g.size)
/-- A coordinate's bytes; a vector's. -/
def co1 (x : Int) : List UInt8 := leB (x % 4294967296).toNat 4
def coB (v : List Int) : List UInt8 := v.flatMap co1
theorem co1_length (x : Int) : (co1 x).length = 4 := leB_length _ _
theorem coB_length (v : List Int) : (coB v).length = 4 * v.length := by
  unfold coB
  induction v with
  | nil => rfl
  | cons x v ih => rw [List.flatMap_cons, List.length_append, co1_length, ih, List.length_cons]; omega
theorem coB_take {v : List Int} {q : Nat} (hq : q < v.length) : coB (v.take (q + 1)) = coB (v.take q) ++ co1 v[q]! := by
  unfold coB
  rw [List.take_succ_eq_append_getElem hq, List.flatMap_append, getElem!_pos v q hq]; simp
/-- A change as a value; what keeps it from having a text; its text. -/
def Ch (k id : Int) (u : Value) : Value := .agg #[.int .i64 k, .int .i64 id, u]
def chE (k id : Int) (v : List Int) : Int := if k ≠ 1 ∧ k ≠ 2 then 160 else if id < 1 ∨ 1000000000 < id then 50 else if k = 1 then chk v v.length else if 0 < v.length then 1 else 0
def chT (k id : Int) (v : List Int) : List UInt8 := leB k.toNat 1 ++ leB id.toNat 4 ++ (if k = 1 then leB v.length 1 ++ coB v else [])
/-- These bytes as a string. -/
def sb (l : List UInt8) : ByteArray := ⟨l.toArray⟩
theorem str_of {w : World} {v : Value} {l : List UInt8} (h : RdB w v l) : (convert 33 9 v).run Try.prog w = .ok (.string (sb l)) w := by
  obtain ⟨a, cap, rfl, _, ha⟩ := h
  by_cases hl : l = []
  · subst hl
    rcases a with _ | a
    · exact run_convert_bytes_nil w 33 5 Try.underlying33 Try.underlying5 0 cap 9 Try.underlying9
    · obtain ⟨b, o, r⟩ := a
      rw [run_convert_bytes_string w 33 9 5 _ _ cap Try.underlying33 Try.underlying5 Try.underlying9]
      simp [Conv.bytesToString, loadCells]
      rfl
  · have h0 : 0 < l.length := List.length_pos_iff.2 hl
    obtain ⟨b, o, rfl, _⟩ := ha 0 h0
    have := run_convert_bytes_arg w 33 5 Try.underlying33 Try.underlying5 b o l.length cap (l.map fun x => (x.toNat : Int)) (by simp) (fun i hi => by
      obtain ⟨b', o', e, hc⟩ := ha i hi
      cases e
      rw [hc]; simp [List.getD, hi]) 9 Try.underlying9
    have e : (l.map (fun x => (x.toNat : Int))).map (fun n => UInt8.ofNat n.toNat) = l := by
      rw [List.map_map]
      conv => rhs; rw [← List.map_id l]
      apply List.map_congr_left
      intro x _
      simp
    unfold strOfNums at this
    rw [e] at this
    exact this
end Go.Proofs.Ytgndendohmbhlaa
