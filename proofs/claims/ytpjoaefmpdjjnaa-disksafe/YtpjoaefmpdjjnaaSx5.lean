import Derived.Test.YtpjoaefmpdjjnaaSx4
import Derived.Maps.AppendAt
import Derived.Maps.OwnSet
/- Bytes in memory of the call's own, to which is appended: codec.withNumber, the reference's number and coord. -/
namespace Go.Proofs.Ytpjoaefmpdjjnaa
open Go.RowKit

/-- A byte as a value. -/
def bv (x : UInt8) : Value := .int .u8 (x.toNat : Int)
/-- The call owns, in blocks from base on, a slice v of these bytes. -/
def OwnB (w : World) (base : Nat) (v : Value) (l : List UInt8) : Prop := w.ownsRow base 5 1 v l.length (l.map bv)
/-- Nothing that was there has turned but in v's block; v' lies there, or in a new one. -/
structure GrB (w w' : World) (v v' : Value) : Prop where
  grown : w.grownBy w' v.ownBlock
  blk : v'.ownBlock = v.ownBlock ∨ ∃ k, v'.ownBlock = some k ∧ w.heap.size ≤ k
theorem GrB.refl (w : World) (v : Value) : GrB w w v v := ⟨⟨rfl, rfl, rfl, Nat.le_refl _, fun _ _ _ => rfl⟩, .inl rfl⟩
theorem GrB.trans {a b c : World} {u v z : Value} (h : GrB a b u v) (k : GrB b c v z) : GrB a c u z := by
  refine ⟨⟨k.grown.os.trans h.grown.os, k.grown.tape.trans h.grown.tape, k.grown.output.trans h.grown.output, Nat.le_trans h.grown.size k.grown.size, fun i hi hne => ?_⟩, ?_⟩
  · refine (k.grown.block i (Nat.lt_of_lt_of_le hi h.grown.size) ?_).trans (h.grown.block i hi hne)
    rcases h.blk with e | ⟨m, e, hm⟩
    · rw [e]; exact hne
    · rw [e]; intro e2; injection e2; omega
  · rcases k.blk with e | ⟨m, e, hm⟩
    · rw [e]; exact h.blk
    · exact .inr ⟨m, e, Nat.le_trans h.grown.size hm⟩
theorem GrB.alloc {a b : World} {u v : Value} (h : GrB a b u v) (o : Obj) : GrB a (b.alloc o) u v := by
  refine ⟨⟨by rw [← h.grown.os]; rfl, by rw [← h.grown.tape]; rfl, by rw [← h.grown.output]; rfl, by rw [World.size_alloc]; have := h.grown.size; omega, fun i hi hne => ?_⟩, h.blk⟩
  rw [← h.grown.block i hi hne]
  exact heap_alloc_old b o (Nat.lt_of_lt_of_le hi h.grown.size)
theorem GrB.gb {w w' : World} (g : Gb w w') (v : Value) : GrB w w' v v := ⟨⟨g.os, g.tape, g.output, g.size, fun k hk _ => g.block k hk⟩, .inl rfl⟩
theorem GrB.below {w w' : World} {v v' : Value} {B : Nat} (h : GrB w w' v v') (hv : ∀ k, v.ownBlock = some k → B ≤ k) (hB : B ≤ w.heap.size) : Below B w w' :=
  ⟨h.grown.os, h.grown.tape, h.grown.output, h.grown.size, fun i hi => h.grown.block i (by omega) (fun e => by have := hv i e.symm; omega)⟩
theorem below_grown' {w0 w w' : World} {row : Option Nat} (h : Gb w0 w) (g : w.grownBy w' row) (hr : ∀ k, row = some k → w0.heap.size ≤ k) : Gb w0 w' :=
  ⟨g.os.trans h.os, g.tape.trans h.tape, g.output.trans h.output, Nat.le_trans h.size g.size, fun i hi => (g.block i (Nat.lt_of_lt_of_le hi h.size) (fun e => by have := hr i e.symm; omega)).trans (h.block i hi)⟩
theorem OwnB.lo {w : World} {B : Nat} {v : Value} {l : List UInt8} (h : OwnB w B v l) : ∀ k, v.ownBlock = some k → B ≤ k ∧ k < w.heap.size := by
  intro k e
  have h1 := World.ownsRow.lt h k e
  exact ⟨h1.1, h1.2⟩
theorem OwnB.kept {w w' : World} {base : Nat} {v : Value} {l : List UInt8} {row : Option Nat} (h : OwnB w base v l) (hg : w.grownBy w' row) (hne : v.ownBlock = none ∨ v.ownBlock ≠ row) : OwnB w' base v l := World.ownsRow.kept h hg hne
theorem OwnB.gb {w w' : World} {base : Nat} {v : Value} {l : List UInt8} (h : OwnB w base v l) (g : Gb w w') : OwnB w' base v l :=
  h.kept (row := none) ⟨g.os, g.tape, g.output, g.size, fun k hk _ => g.block k hk⟩ (by cases hv : v.ownBlock <;> simp)
theorem OwnB.mono {w : World} {b b' : Nat} {v : Value} {l : List UInt8} (h : OwnB w b v l) (hb : b' ≤ b) : OwnB w b' v l := by
  refine ⟨h.1, ?_⟩
  rcases h.2 with h | ⟨g, cap, cur, e, h1, r⟩
  · exact .inl h
  · exact .inr ⟨g, cap, cur, e, by omega, r⟩
theorem OwnB.rd {w : World} {base : Nat} {v : Value} {l : List UInt8} (h : OwnB w base v l) : RdB w v l := by
  rcases h.2 with ⟨rfl, h0⟩ | ⟨g, cap, cur, rfl, _, _, hcap, _⟩
  · exact ⟨none, 0, by rw [h0], by omega, fun i hi => by omega⟩
  · refine ⟨_, cap, rfl, by simpa using hcap, fun i hi => ⟨g, 0, rfl, ?_⟩⟩
    have := World.ownsRow.cells h (g := g) rfl i (bv l[i]!) (by rw [List.getElem?_map, getElem!_pos l i hi, List.getElem?_eq_getElem hi]; rfl)
    rwa [Addr.add_lit] at this
theorem ownb_nil (w : World) (base : Nat) : OwnB w base (.slice none 0 0) [] := World.ownsRow_nil w base 5 1
theorem Try.infoB : (Try.prog.info? 5).map (fun i => (i.zero, i.size, i.bytes)) = some (some (.int .u8 0), 1, 1) := by kernel_rfl
theorem info5 : ∃ i, Try.prog.info? 5 = some i ∧ i.zero = some (.int .u8 0) ∧ i.size = 1 ∧ i.bytes = 1 := info_parts Try.infoB
theorem ofNat_val (n : Nat) : (((UInt8.ofNat n).toNat : Nat) : Int) = (n : Int) % 256 := by simp
theorem own_app {w1 w' : World} {B : Nat} {v v' : Value} {l : List UInt8} {x : UInt8} {z : Int} (hz : (x.toNat : Int) = z)
    (ho : w'.ownsRow B 5 1 v' (l.length + 1) (l.map bv ++ [.int .u8 z])) (hg : w1.grownBy w' v.ownBlock) (hb : v'.ownBlock = v.ownBlock ∨ v'.ownBlock = some w1.heap.size) : OwnB w' B v' (l ++ [x]) ∧ GrB w1 w' v v' := by
  refine ⟨?_, hg, ?_⟩
  · subst hz
    unfold OwnB
    rw [List.length_append, List.map_append]
    exact ho
  · rcases hb with e | e
    · exact .inl e
    · exact .inr ⟨_, e, Nat.le_refl _⟩

end Go.Proofs.Ytpjoaefmpdjjnaa

/- withNumber and number above what was there; withVector, coord; checkChange. -/
namespace Go.Proofs.Ytpjoaefmpdjjnaa
open Go.RowKit

theorem OwnB.below {w1 w w' : World} {v v' : Value} {l : List UInt8} (g : Gb w1 w) (h : OwnB w w1.heap.size v l) (k : GrB w w' v v') : Gb w1 w' :=
  g.trans (k.below (fun i e => (h.lo i e).1) g.size)
/-- A coordinate's bytes; a vector's. -/
def co1 (x : Int) : List UInt8 := leB (x % 4294967296).toNat 4
def coB (v : List Int) : List UInt8 := v.flatMap co1
theorem co1_length (x : Int) : (co1 x).length = 4 := leB_length _ _
theorem coB_length (v : List Int) : (coB v).length = 4 * v.length := by
  unfold coB
  induction v with
  | nil => rfl
  | cons x v ih => rw [List.flatMap_cons, List.length_append, co1_length, ih, List.length_cons]; omega
theorem coB_take {v : List Int} {q : Nat} (hq : q < v.length) : coB (v.take (q + 1)) = coB (v.take q) ++ co1 v[q]! := by
  unfold coB
  rw [List.take_succ_eq_append_getElem hq, List.flatMap_append, getElem!_pos v q hq]; simp
/-- A change as a value; what keeps it from having a text; its text. -/
def Ch (k id : Int) (u : Value) : Value := .agg #[.int .i64 k, .int .i64 id, u]
def chE (k id : Int) (v : List Int) : Int := if k ≠ 1 ∧ k ≠ 2 then 160 else if id < 1 ∨ 1000000000 < id then 50 else if k = 1 then chk v v.length else if 0 < v.length then 1 else 0
def chT (k id : Int) (v : List Int) : List UInt8 := leB k.toNat 1 ++ leB id.toNat 4 ++ (if k = 1 then leB v.length 1 ++ coB v else [])
/-- These bytes as a string. -/
def sb (l : List UInt8) : ByteArray := ⟨l.toArray⟩
theorem str_of {w : World} {v : Value} {l : List UInt8} (h : RdB w v l) : (convert 33 9 v).run Try.prog w = .ok (.string (sb l)) w := by
  obtain ⟨a, cap, rfl, _, ha⟩ := h
  by_cases hl : l = []
  · subst hl
    rcases a with _ | a
    · exact run_convert_bytes_nil w 33 5 Try.underlying33 Try.underlying5 0 cap 9 Try.underlying9
    · obtain ⟨b, o, r⟩ := a
      rw [run_convert_bytes_string w 33 9 5 _ _ cap Try.underlying33 Try.underlying5 Try.underlying9]
      simp [Conv.bytesToString, loadCells]
      rfl
  · have h0 : 0 < l.length := List.length_pos_iff.2 hl
    obtain ⟨b, o, rfl, _⟩ := ha 0 h0
    have := run_convert_bytes_arg w 33 5 Try.underlying33 Try.underlying5 b o l.length cap (l.map fun x => (x.toNat : Int)) (by simp) (fun i hi => by
      obtain ⟨b', o', e, hc⟩ := ha i hi
      cases e
      rw [hc]; simp [List.getD, hi]) 9 Try.underlying9
    have e : (l.map (fun x => (x.toNat : Int))).map (fun n => UInt8.ofNat n.toNat) = l := by
      rw [List.map_map]
      conv => rhs; rw [← List.map_id l]
      apply List.map_congr_left
      intro x _
      simp
    unfold strOfNums at this
    rw [e] at this
    exact this
end Go.Proofs.Ytpjoaefmpdjjnaa
