import Derived.Test.YtkagnoinifffdaaRx0
import Derived.Maps.AppendAt
import Derived.Maps.OwnSet
import Derived.Laws.CopyOwn
import Derived.Laws.OwnMore
import Derived.Deep.OwnRows
/- Bytes in memory of the call's own, to which is appended: codec.withNumber, the reference's number and coord. -/
namespace Go.Proofs.Ytkagnoinifffdaa
open Go.RowKit

/-- A byte as a value. -/
def bv (x : UInt8) : Value := .int .u8 (x.toNat : Int)
/-- The call owns, in blocks from base on, a slice v of these bytes. -/
def OwnB (w : World) (base : Nat) (v : Value) (l : List UInt8) : Prop := w.ownsRow base 5 1 v l.length (l.map bv)
/-- Nothing that was there has turned but in v's block; v' lies there, or in a new one. -/
structure GrB (w w' : World) (v v' : Value) : Prop where
  grown : w.grownBy w' v.ownBlock
  blk : v'.ownBlock = v.ownBlock ∨ ∃ k, v'.ownBlock = some k ∧ w.heap.size ≤ k
theorem GrB.refl (w : World) (v : Value) : GrB w w v v := ⟨⟨rfl, rfl, rfl, Nat.le_refl _, fun _ _ _ => rfl⟩, .inl rfl⟩
theorem GrB.trans {a b c : World} {u v z : Value} (h : GrB a b u v) (k : GrB b c v z) : GrB a c u z := by
  refine ⟨⟨k.grown.os.trans h.grown.os, k.grown.tape.trans h.grown.tape, k.grown.output.trans h.grown.output, Nat.le_trans h.grown.size k.grown.size, fun i hi hne => ?_⟩, ?_⟩
  · refine (k.grown.block i (Nat.lt_of_lt_of_le hi h.grown.size) ?_).trans (h.grown.block i hi hne)
    rcases h.blk with e | ⟨m, e, hm⟩
    · rw [e]; exact hne
    · rw [e]; intro e2; injection e2; omega
  · rcases k.blk with e | ⟨m, e, hm⟩
    · rw [e]; exact h.blk
    · exact .inr ⟨m, e, Nat.le_trans h.grown.size hm⟩
theorem GrB.alloc {a b : World} {u v : Value} (h : GrB a b u v) (o : Obj) : GrB a (b.alloc o) u v := by
  refine ⟨⟨by rw [← h.grown.os]; rfl, by rw [← h.grown.tape]; rfl, by rw [← h.grown.output]; rfl, by rw [World.size_alloc]; have := h.grown.size; omega, fun i hi hne => ?_⟩, h.blk⟩
  rw [← h.grown.block i hi hne]
  exact heap_alloc_old b o (Nat.lt_of_lt_of_le hi h.grown.size)
theorem GrB.gb {w w' : World} (g : Gb w w') (v : Value) : GrB w w' v v := ⟨⟨g.os, g.tape, g.output, g.size, fun k hk _ => g.block k hk⟩, .inl rfl⟩
theorem GrB.below {w w' : World} {v v' : Value} {B : Nat} (h : GrB w w' v v') (hv : ∀ k, v.ownBlock = some k → B ≤ k) (hB : B ≤ w.heap.size) : Below B w w' :=
  ⟨h.grown.os, h.grown.tape, h.grown.output, h.grown.size, fun i hi => h.grown.block i (by omega) (fun e => by have := hv i e.symm; omega)⟩
theorem below_grown' {w0 w w' : World} {row : Option Nat} (h : Gb w0 w) (g : w.grownBy w' row) (hr : ∀ k, row = some k → w0.heap.size ≤ k) : Gb w0 w' :=
  ⟨g.os.trans h.os, g.tape.trans h.tape, g.output.trans h.output, Nat.le_trans h.size g.size, fun i hi => (g.block i (Nat.lt_of_lt_of_le hi h.size) (fun e => by have := hr i e.symm; omega)).trans (h.block i hi)⟩
theorem OwnB.lo {w : World} {B : Nat} {v : Value} {l : List UInt8} (h : OwnB w B v l) : ∀ k, v.ownBlock = some k → B ≤ k ∧ k < w.heap.size := by
  intro k e
  have h1 := World.ownsRow.lt h k e
  exact ⟨h1.1, h1.2⟩
theorem OwnB.kept {w w' : World} {base : Nat} {v : Value} {l : List UInt8} {row : Option Nat} (h : OwnB w base v l) (hg : w.grownBy w' row) (hne : v.ownBlock = none ∨ v.ownBlock ≠ row) : OwnB w' base v l := World.ownsRow.kept h hg hne
theorem OwnB.gb {w w' : World} {base : Nat} {v : Value} {l : List UInt8} (h : OwnB w base v l) (g : Gb w w') : OwnB w' base v l :=
  h.kept (row := none) ⟨g.os, g.tape, g.output, g.size, fun k hk _ => g.block k hk⟩ (by cases hv : v.ownBlock <;> simp)
theorem OwnB.mono {w : World} {b b' : Nat} {v : Value} {l : List UInt8} (h : OwnB w b v l) (hb : b' ≤ b) : OwnB w b' v l := by
  refine ⟨h.1, ?_⟩
  rcases h.2 with h | ⟨g, cap, cur, e, h1, r⟩
  · exact .inl h
  · exact .inr ⟨g, cap, cur, e, by omega, r⟩
theorem OwnB.rd {w : World} {base : Nat} {v : Value} {l : List UInt8} (h : OwnB w base v l) : RdB w v l := by
  rcases h.2 with ⟨rfl, h0⟩ | ⟨g, cap, cur, rfl, _, _, hcap, _⟩
  · exact ⟨none, 0, by rw [h0], by omega, fun i hi => by omega⟩
  · refine ⟨_, cap, rfl, by simpa using hcap, fun i hi => ⟨g, 0, rfl, ?_⟩⟩
    have := World.ownsRow.cells h (g := g) rfl i (bv l[i]!) (by rw [List.getElem?_map, getElem!_pos l i hi, List.getElem?_eq_getElem hi]; rfl)
    rwa [Addr.add_lit] at this
theorem ownb_nil (w : World) (base : Nat) : OwnB w base (.slice none 0 0) [] := World.ownsRow_nil w base 5 1
theorem Try.infoB : (Try.prog.info? 5).map (fun i => (i.zero, i.size, i.bytes)) = some (some (.int .u8 0), 1, 1) := by kernel_rfl
theorem info5 : ∃ i, Try.prog.info? 5 = some i ∧ i.zero = some (.int .u8 0) ∧ i.size = 1 ∧ i.bytes = 1 := info_parts Try.infoB
theorem ofNat_val (n : Nat) : (((UInt8.ofNat n).toNat : Nat) : Int) = (n : Int) % 256 := by simp
theorem own_app {w1 w' : World} {B : Nat} {v v' : Value} {l : List UInt8} {x : UInt8} {z : Int} (hz : (x.toNat : Int) = z)
    (ho : w'.ownsRow B 5 1 v' (l.length + 1) (l.map bv ++ [.int .u8 z])) (hg : w1.grownBy w' v.ownBlock) (hb : v'.ownBlock = v.ownBlock ∨ v'.ownBlock = some w1.heap.size) : OwnB w' B v' (l ++ [x]) ∧ GrB w1 w' v v' := by
  refine ⟨?_, hg, ?_⟩
  · subst hz
    unfold OwnB
    rw [List.length_append, List.map_append]
    exact ho
  · rcases hb with e | e
    · exact .inl e
    · exact .inr ⟨_, e, Nat.le_refl _⟩

end Go.Proofs.Ytkagnoinifffdaa

/- withNumber and number above what was there; withVector, coord; checkChange. -/
namespace Go.Proofs.Ytkagnoinifffdaa
open Go.RowKit

theorem OwnB.below {w1 w w' : World} {v v' : Value} {l : List UInt8} (g : Gb w1 w) (h : OwnB w w1.heap.size v l) (k : GrB w w' v v') : Gb w1 w' :=
  g.trans (k.below (fun i e => (h.lo i e).1) g.size)
/-- A coordinate's bytes; a vector's. -/
def co1 (x : Int) : List UInt8 := leB (x % 4294967296).toNat 4
def coB (v : List Int) : List UInt8 := v.flatMap co1
theorem co1_length (x : Int) : (co1 x).length = 4 := leB_length _ _
theorem coB_length (v : List Int) : (coB v).length = 4 * v.length := by
  unfold coB
  induction v with
  | nil => rfl
  | cons x v ih => rw [List.flatMap_cons, List.length_append, co1_length, ih, List.length_cons]; omega
theorem coB_take {v : List Int} {q : Nat} (hq : q < v.length) : coB (v.take (q + 1)) = coB (v.take q) ++ co1 v[q]! := by
  unfold coB
  rw [List.take_succ_eq_append_getElem hq, List.flatMap_append, getElem!_pos v q hq]; simp
/-- A change as a value; what keeps it from having a text; its text. -/
def Ch (k id : Int) (u : Value) : Value := .agg #[.int .i64 k, .int .i64 id, u]
def chE (k id : Int) (v : List Int) : Int := if k ≠ 1 ∧ k ≠ 2 then 160 else if id < 1 ∨ 1000000000 < id then 50 else if k = 1 then chk v v.length else if 0 < v.length then 1 else 0
def chT (k id : Int) (v : List Int) : List UInt8 := leB k.toNat 1 ++ leB id.toNat 4 ++ (if k = 1 then leB v.length 1 ++ coB v else [])
/-- These bytes as a string. -/
def sb (l : List UInt8) : ByteArray := ⟨l.toArray⟩
theorem str_of {w : World} {v : Value} {l : List UInt8} (h : RdB w v l) : (convert 33 9 v).run Try.prog w = .ok (.string (sb l)) w := by
  obtain ⟨a, cap, rfl, _, ha⟩ := h
  by_cases hl : l = []
  · subst hl
    rcases a with _ | a
    · exact run_convert_bytes_nil w 33 5 Try.underlying33 Try.underlying5 0 cap 9 Try.underlying9
    · obtain ⟨b, o, r⟩ := a
      rw [run_convert_bytes_string w 33 9 5 _ _ cap Try.underlying33 Try.underlying5 Try.underlying9]
      simp [Conv.bytesToString, loadCells]
      rfl
  · have h0 : 0 < l.length := List.length_pos_iff.2 hl
    obtain ⟨b, o, rfl, _⟩ := ha 0 h0
    have := run_convert_bytes_arg w 33 5 Try.underlying33 Try.underlying5 b o l.length cap (l.map fun x => (x.toNat : Int)) (by simp) (fun i hi => by
      obtain ⟨b', o', e, hc⟩ := ha i hi
      cases e
      rw [hc]; simp [List.getD, hi]) 9 Try.underlying9
    have e : (l.map (fun x => (x.toNat : Int))).map (fun n => UInt8.ofNat n.toNat) = l := by
      rw [List.map_map]
      conv => rhs; rw [← List.map_id l]
      apply List.map_congr_left
      intro x _
      simp
    unfold strOfNums at this
    rw [e] at this
    exact this
end Go.Proofs.Ytkagnoinifffdaa

/- PutChange. -/
namespace Go.Proofs.Ytkagnoinifffdaa
open Go.RowKit

theorem chE_zero {k id : Int} {v : List Int} (h : chE k id v = 0) : (1 ≤ id ∧ id ≤ 1000000000) ∧ (k = 1 ∧ chk v v.length = 0 ∧ 1 ≤ v.length ∧ v.length ≤ 64 ∨ k = 2 ∧ v = []) := by
  unfold chE at h
  split at h
  · omega
  split at h
  · omega
  refine ⟨by omega, ?_⟩
  split at h
  · rename_i hk
    refine .inl ⟨hk, h, ?_⟩
    unfold chk at h
    split at h
    · omega
    · omega
  · split at h
    · omega
    · exact .inr ⟨by omega, List.eq_nil_of_length_eq_zero (by omega)⟩
/-- What PutChange tells. -/
def pcV (k id : Int) (v : List Int) : Value := .tuple #[.string (sb (if chE k id v = 0 then chT k id v else [])), .int .i64 (chE k id v)]
end Go.Proofs.Ytkagnoinifffdaa

/- Strings and bytes; Encode. -/
namespace Go.Proofs.Ytkagnoinifffdaa
open Go.RowKit Go.Lib

theorem sb_size (l : List UInt8) : (sb l).size = l.length := by simp [sb, ByteArray.size]
theorem sb_of (s : ByteArray) : s = sb s.data.toList := by cases s; simp [sb]
theorem sb_inj {l m : List UInt8} (h : sb l = sb m) : l = m := by
  have := congrArg (fun s => s.data.toList) h
  simpa [sb] using this
theorem gb_bytes (w : World) (e : TypeId) (s : ByteArray) : Gb w (bytesWorld w e s) := ⟨rfl, rfl, rfl, by rw [bytesWorld_size]; omega, fun k hk => bytesWorld_at_old w e s k hk⟩
theorem rdb_bytes (w : World) (l : List UInt8) : RdB (bytesWorld w 5 (sb l)) (.slice (some ⟨w.heap.size, 0, none⟩) l.length (grownCap w l.length 0 5)) l := by
  refine ⟨_, _, rfl, grownCap_ge _ _ _ _, fun i hi => ⟨w.heap.size, 0, rfl, ?_⟩⟩
  have := bytesWorld_cell w 5 (sb l) i (by rw [sb_size]; exact hi)
  rw [Nat.zero_add, this]
  simp [sb, List.getD, hi]
theorem conv_bytes (w : World) (l : List UInt8) : (convert 9 33 (.string (sb l))).run Try.prog w = .ok (.slice (some ⟨w.heap.size, 0, none⟩) l.length (grownCap w l.length 0 5)) (bytesWorld w 5 (sb l)) := by
  have := Go.Lib.run_convert_string_bytes (P := Try.prog) w 9 33 5 (sb l) Try.underlying9 Try.underlying33 Try.underlying5
  rw [sb_size] at this; exact this
theorem strCells_sb (l : List UInt8) : strCells (sb l) = l.map bv := by simp [strCells, sb, bv]
/-- What Encode tells: the error, the record. -/
def enE (k : Int) (n : Nat) : Int := if k < 1 ∨ 255 < k then 160 else if 262144 < n then 2 else 0
def enT (k : Nat) (l : List UInt8) : List UInt8 := leB k 1 ++ leB l.length 4 ++ leB (crc (UInt8.ofNat k :: l)).toNat 4 ++ l
def enP (w w' : World) (e : Ending) (k : Int) (l : List UInt8) : Prop := ∃ v', e = .returned (.tuple #[v', .int .i64 (enE k l.length)]) ∧ Gb w w' ∧ OwnB w' w.heap.size v' (if enE k l.length = 0 then enT k.toNat l else [])
end Go.Proofs.Ytkagnoinifffdaa

/- The closures of taker. -/
namespace Go.Proofs.Ytkagnoinifffdaa
open Go.RowKit Go.Lib

/-- The first n bytes, noughts for those that are missing. -/
def tk (n : Nat) (l : List UInt8) : List UInt8 := l.take n ++ List.replicate (n - l.length) 0
theorem tk_length (n : Nat) (l : List UInt8) : (tk n l).length = n := by simp [tk]; omega
theorem made5 (n : Nat) : (madeCells #[Value.int .u8 0] n).toList = List.replicate n (bv 0) := by rw [toList_madeCells_one]; rfl
theorem copy_in {w : World} {a : Option Addr} {cap : Nat} {l : List UInt8} (h : RdB w (.slice a l.length cap) l) (n : Nat) (hn : n ≤ 4611686018427387904) (ty : TypeId) :
    ∃ V : World, (Builtin.copy_ #[33, 33] ty #[.slice (some ⟨w.heap.size, 0, none⟩) n n, .slice a l.length cap]).run Try.prog (w.alloc (.cells (madeCells #[Value.int .u8 0] n) 5)) = .ok (goInt (Nat.min l.length n)) V ∧
      V.heap[w.heap.size]? = some (.cells ((tk n l).map bv).toArray 5 (0, 0)) ∧ Gb w V ∧ V.heap.size = w.heap.size + 1 := by
  have hsz : (Try.prog.info? 5).map (·.size) = some 1 := by kernel_rfl
  have G0 : Gb w (w.alloc (.cells (madeCells #[Value.int .u8 0] n) 5)) := gb_alloc (Below.refl _ _) _
  have hblk : (w.alloc (.cells (madeCells #[Value.int .u8 0] n) 5)).heap[w.heap.size]? = some (.cells (madeCells #[Value.int .u8 0] n) 5 (0, 0)) := heap_alloc_new _ _
  by_cases h0 : Nat.min l.length n = 0
  · refine ⟨_, by rw [h0]; exact run_copy_none (P := Try.prog) _ 33 33 ty 5 _ a n n l.length cap Try.underlying33 hsz h0, ?_, G0, by simp⟩
    rw [hblk]
    suffices e : madeCells #[Value.int .u8 0] n = ((tk n l).map bv).toArray by rw [e]
    apply Array.ext'
    rw [made5]
    have : l.take n = [] := by
      rcases Nat.min_eq_zero_iff.1 h0 with e | e
      · rw [List.eq_nil_of_length_eq_zero e]; simp
      · rw [e]; simp
    unfold tk
    rw [this]
    simp
    rcases Nat.min_eq_zero_iff.1 h0 with e | e <;> omega
  · obtain ⟨a', cap', e, hcap, ha⟩ := h
    cases e
    have hm0 : 0 < Nat.min l.length n := Nat.pos_of_ne_zero h0
    obtain ⟨b, o, ea, _⟩ := ha 0 (Nat.lt_of_lt_of_le hm0 (Nat.min_le_left _ _))
    subst ea
    have hcs : ((l.take n).map bv).length = Nat.min l.length n := by rw [List.length_map, List.length_take, Nat.min_comm]
    have hsrc : ∀ j v, ((l.take n).map bv)[j]? = some v → (w.alloc (.cells (madeCells #[Value.int .u8 0] n) 5)).cell? ((⟨b, o, none⟩ : Addr).add j) = some v := by
      intro j v hj
      rw [List.getElem?_map] at hj
      obtain ⟨y, hy, rfl⟩ := Option.map_eq_some_iff.1 hj
      obtain ⟨hjl, hy⟩ := List.getElem?_eq_some_iff.1 hy
      have hjl' : j < l.length := by rw [List.length_take] at hjl; omega
      obtain ⟨b', o', e, hc⟩ := ha j hjl'
      cases e
      rw [Addr.add_lit]
      have := gb_keeps G0 hc
      rw [this, getElem!_pos l j hjl', ← hy, List.getElem_take]; rfl
    have hcp := run_copy_row (P := Try.prog) (w.alloc (.cells (madeCells #[Value.int .u8 0] n) 5)) 33 33 ty 5 w.heap.size 0 n n ⟨b, o, none⟩ l.length cap _ 5 ((l.take n).map bv) Try.underlying33 hsz hblk hcs hsrc (by rw [size_madeCells, List.length_map, List.length_take]; omega) (by intro v hv; obtain ⟨x, _, rfl⟩ := List.mem_map.1 hv; simp [bv, Value.oneCell'])
    rw [hcs] at hcp
    refine ⟨_, hcp, ?_, below_setRow G0 (Nat.le_refl _) _, by simp [World.setRow]⟩
    rw [setRow_heap _ _ _ _ _ _ hblk]
    suffices e : (madeCells #[Value.int .u8 0] n).toList.take 0 ++ (l.take n).map bv ++ (madeCells #[Value.int .u8 0] n).toList.drop (0 + Nat.min l.length n) = (tk n l).map bv by rw [e]
    rw [made5]
    unfold tk
    rw [List.take_zero, List.nil_append, Nat.zero_add, List.drop_replicate, List.map_append, List.map_replicate]
    have e2 : n - Nat.min l.length n = n - l.length := by show n - min l.length n = _; omega
    rw [e2]
/-- What a taker has in memory: bytes that lay there in w0, of which these are left, and whether there were too few. -/
structure TkAt (w0 : World) (bt bs : Nat) (l : List UInt8) (sh : Bool) (w : World) : Prop where
  gb : Gb w0 w
  tl : w0.heap.size ≤ bt
  sl : w0.heap.size ≤ bs
  txt : ∃ v, w.heap[bt]? = some (.cells #[v] 33 (0, 0)) ∧ RdB w0 v l
  sht : w.heap[bs]? = some (.cells #[.bool sh] 4 (0, 0))
theorem TkAt.ne {w0 : World} {bt bs : Nat} {l : List UInt8} {sh : Bool} {w : World} (h : TkAt w0 bt bs l sh w) : bt ≠ bs := by
  intro e; subst e
  obtain ⟨v, h1, _⟩ := h.txt
  have := h1.symm.trans h.sht
  simp at this
theorem TkAt.later {w0 : World} {bt bs : Nat} {l : List UInt8} {sh : Bool} {w w' : World} (h : TkAt w0 bt bs l sh w) (b : Gb w w') : TkAt w0 bt bs l sh w' := by
  obtain ⟨v, h1, h2⟩ := h.txt
  exact ⟨gb_trans h.gb b, h.tl, h.sl, ⟨v, (b.block bt (Array.getElem?_eq_some_iff.1 h1).1).trans h1, h2⟩, (b.block bs (Array.getElem?_eq_some_iff.1 h.sht).1).trans h.sht⟩
/-- Nothing but these two blocks, and what is new, has turned. -/
structure Kp2 (bt bc : Nat) (w w' : World) : Prop where
  os : w'.os = w.os
  tape : w'.tape = w.tape
  out : w'.output = w.output
  size : w.heap.size ≤ w'.heap.size
  blk : ∀ k, k < w.heap.size → k ≠ bt → k ≠ bc → w'.heap[k]? = w.heap[k]?
theorem Kp2.refl (bt bc : Nat) (w : World) : Kp2 bt bc w w := ⟨rfl, rfl, rfl, Nat.le_refl _, fun _ _ _ _ => rfl⟩
theorem Kp2.trans {bt bc : Nat} {a b c : World} (h : Kp2 bt bc a b) (k : Kp2 bt bc b c) : Kp2 bt bc a c :=
  ⟨k.os.trans h.os, k.tape.trans h.tape, k.out.trans h.out, Nat.le_trans h.size k.size, fun i hi h1 h2 => (k.blk i (Nat.lt_of_lt_of_le hi h.size) h1 h2).trans (h.blk i hi h1 h2)⟩
theorem Kp2.of {bt bc : Nat} {a b : World} (h : Gb a b) : Kp2 bt bc a b := ⟨h.os, h.tape, h.output, h.size, fun i hi _ _ => h.block i hi⟩
theorem Kp2.setCell {bt bc : Nat} {a w : World} (h : Kp2 bt bc a w) (p : Addr) (hp : p.block = bt ∨ p.block = bc ∨ a.heap.size ≤ p.block) (v : Value) : Kp2 bt bc a (w.setCell p v) := by
  refine ⟨h.os, h.tape, h.out, by simpa [World.setCell] using h.size, fun i hi h1 h2 => ?_⟩
  rw [Below.heap_setCell _ _ _ _ (fun e => by omega)]
  exact h.blk i hi h1 h2
theorem Kp2.below {bt bc B : Nat} {a w : World} (h : Kp2 bt bc a w) (h1 : B ≤ bt) (h2 : B ≤ bc) (hB : B ≤ a.heap.size) : Below B a w :=
  ⟨h.os, h.tape, h.out, h.size, fun i hi => h.blk i (by omega) (by omega) (by omega)⟩
theorem TkAt.cells {w0 : World} {bt bs : Nat} {l : List UInt8} {sh : Bool} {w : World} (h : TkAt w0 bt bs l sh w) : w.cell? ⟨bs, 0, none⟩ = some (.bool sh) ∧ w.frozen? ⟨bs, 0, none⟩ = false ∧ bt < w.heap.size ∧ bs < w.heap.size ∧ ∃ v, w.cell? ⟨bt, 0, none⟩ = some v ∧ w.frozen? ⟨bt, 0, none⟩ = false ∧ RdB w0 v l := by
  obtain ⟨v, h1, h2⟩ := h.txt
  exact ⟨by simp [World.cell?, h.sht], by simp [World.frozen?, h.sht], (Array.getElem?_eq_some_iff.1 h1).1, (Array.getElem?_eq_some_iff.1 h.sht).1, v, by simp [World.cell?, h1], by simp [World.frozen?, h1], h2⟩
theorem heap_set0 {W : World} {g o : Nat} {x : Value} {cur : Array Value} {t : TypeId} {f : Nat × Nat} (h : W.heap[g]? = some (.cells cur t f)) : (W.setCell ⟨g, o, none⟩ x).heap[g]? = some (.cells (cur.setIfInBounds o x) t f) := by
  simp only [World.setCell, Array.getElem?_modify]; rw [h]; simp
theorem rdb_drop {w0 : World} {a : Option Addr} {cap : Nat} {l : List UInt8} (h : ∀ i, i < l.length → ∃ b o, a = some ⟨b, o, none⟩ ∧ w0.cell? ⟨b, o + i, none⟩ = some (.int .u8 (l[i]!.toNat : Int))) {g : Nat} (hg : g ≤ l.length) (hc : l.length ≤ cap) : RdB w0 (.slice (Option.map (fun x => x.add g) a) (l.length - g) (cap - g)) (l.drop g) := by
  refine ⟨_, cap - g, by rw [List.length_drop], by rw [List.length_drop]; omega, fun i hi => ?_⟩
  rw [List.length_drop] at hi
  obtain ⟨b, o, rfl, hcell⟩ := h (g + i) (by omega)
  refine ⟨b, o + g, by rw [Option.map_some, Addr.add_lit], ?_⟩
  rw [Nat.add_assoc, hcell, getElem!_pos l (g + i) (by omega), getElem!_pos (l.drop g) i (by rw [List.length_drop]; omega), List.getElem_drop]
theorem take_fin {w0 w V : World} {bt bs : Nat} {l : List UInt8} {sh : Bool} {n : Nat} (h : TkAt w0 bt bs l sh V) (hV : V.heap[w.heap.size]? = some (.cells ((tk n l).map bv).toArray 5 (0, 0))) (gV : Gb w V) (hn : n ≤ maxLen) (lt1 : bt < w.heap.size) (lt2 : bs < w.heap.size) {x : Value} (hx : RdB w0 x (l.drop n)) (s' : Bool) :
    OwnB ((V.setCell ⟨bt, 0, none⟩ x).setCell ⟨bs, 0, none⟩ (.bool s')) w.heap.size (.slice (some ⟨w.heap.size, 0, none⟩) n n) (tk n l) ∧ TkAt w0 bt bs (l.drop n) s' ((V.setCell ⟨bt, 0, none⟩ x).setCell ⟨bs, 0, none⟩ (.bool s')) ∧ Kp2 bt bs w ((V.setCell ⟨bt, 0, none⟩ x).setCell ⟨bs, 0, none⟩ (.bool s')) := by
  have hne := h.ne
  obtain ⟨v, h1, h2⟩ := h.txt
  have e1 : ((V.setCell ⟨bt, 0, none⟩ x).setCell ⟨bs, 0, none⟩ (.bool s')).heap[bt]? = some (.cells #[x] 33 (0, 0)) := by
    rw [Below.heap_setCell _ _ _ _ hne]; simpa using heap_set0 (x := x) (o := 0) h1
  have e2 : ((V.setCell ⟨bt, 0, none⟩ x).setCell ⟨bs, 0, none⟩ (.bool s')).heap[bs]? = some (.cells #[.bool s'] 4 (0, 0)) := by
    have := (Below.heap_setCell V ⟨bt, 0, none⟩ x bs (Ne.symm hne)).trans h.sht
    simpa using heap_set0 (x := .bool s') (o := 0) this
  have e3 : ((V.setCell ⟨bt, 0, none⟩ x).setCell ⟨bs, 0, none⟩ (.bool s')).heap[w.heap.size]? = some (.cells ((tk n l).map bv).toArray 5 (0, 0)) := by
    rw [Below.heap_setCell _ _ _ _ (by show w.heap.size ≠ bs; omega), Below.heap_setCell _ _ _ _ (by show w.heap.size ≠ bt; omega), hV]
  refine ⟨⟨by simp, .inr ⟨_, n, _, by rw [tk_length], Nat.le_refl _, e3, by rw [tk_length]; exact Nat.le_refl _, hn, by simp [tk_length], by rw [List.take_of_length_le (by simp)]⟩⟩, ⟨gb_set (gb_set h.gb h.tl x) h.sl _, h.tl, h.sl, ⟨x, e1, hx⟩, e2⟩, ((Kp2.of gV).setCell ⟨bt, 0, none⟩ (.inl rfl) _).setCell ⟨bs, 0, none⟩ (.inr (.inl rfl)) _⟩
end Go.Proofs.Ytkagnoinifffdaa
