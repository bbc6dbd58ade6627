/- Bytes in memory of the call's own, to which is appended: codec.withNumber, the reference's number and coord. -/
import Derived.Test.YtcbhhdjjanekaaaGreatDoorWx3
import Derived.Maps.AppendAt
import Derived.Maps.OwnSet
namespace Go.Proofs.YtcbhhdjjanekaaaGreatDoor
open Go.RowKit

/-- A byte as a value. -/
def bv (x : UInt8) : Value := .int .u8 (x.toNat : Int)
/-- The call owns, in blocks from base on, a slice v of these bytes. -/
def OwnB (w : World) (base : Nat) (v : Value) (l : List UInt8) : Prop := w.ownsRow base 5 1 v l.length (l.map bv)
/-- Nothing that was there has turned but in v's block; v' lies there, or in a new one. -/
structure GrB (w w' : World) (v v' : Value) : Prop where
  grown : w.grownBy w' v.ownBlock
  blk : v'.ownBlock = v.ownBlock ∨ ∃ k, v'.ownBlock = some k ∧ w.heap.size ≤ k
theorem GrB.refl (w : World) (v : Value) : GrB w w v v := ⟨⟨rfl, rfl, rfl, Nat.le_refl _, fun _ _ _ => rfl⟩, .inl rfl⟩
theorem GrB.trans {a b c : World} {u v z : Value} (h : GrB a b u v) (k : GrB b c v z) : GrB a c u z := by
  refine ⟨⟨k.grown.os.trans h.grown.os, k.grown.tape.trans h.grown.tape, k.grown.output.trans h.grown.output, Nat.le_trans h.grown.size k.grown.size, fun i hi hne => ?_⟩, ?_⟩
  · refine (k.grown.block i (Nat.lt_of_lt_of_le hi h.grown.size) ?_).trans (h.grown.block i hi hne)
    rcases h.blk with e | ⟨m, e, hm⟩
    · rw [e]; exact hne
    · rw [e]; intro e2; injection e2; omega
  · rcases k.blk with e | ⟨m, e, hm⟩
    · rw [e]; exact h.blk
    · exact .inr ⟨m, e, Nat.le_trans h.grown.size hm⟩
theorem GrB.alloc {a b : World} {u v : Value} (h : GrB a b u v) (o : Obj) : GrB a (b.alloc o) u v := by
  refine ⟨⟨by rw [← h.grown.os]; rfl, by rw [← h.grown.tape]; rfl, by rw [← h.grown.output]; rfl, by rw [World.size_alloc]; have := h.grown.size; omega, fun i hi hne => ?_⟩, h.blk⟩
  rw [← h.grown.block i hi hne]
  exact heap_alloc_old b o (Nat.lt_of_lt_of_le hi h.grown.size)
theorem GrB.gb {w w' : World} (g : Gb w w') (v : Value) : GrB w w' v v := ⟨⟨g.os, g.tape, g.output, g.size, fun k hk _ => g.block k hk⟩, .inl rfl⟩
theorem GrB.below {w w' : World} {v v' : Value} {B : Nat} (h : GrB w w' v v') (hv : ∀ k, v.ownBlock = some k → B ≤ k) (hB : B ≤ w.heap.size) : Below B w w' :=
  ⟨h.grown.os, h.grown.tape, h.grown.output, h.grown.size, fun i hi => h.grown.block i (by omega) (fun e => by have := hv i e.symm; omega)⟩
theorem below_grown' {w0 w w' : World} {row : Option Nat} (h : Gb w0 w) (g : w.grownBy w' row) (hr : ∀ k, row = some k → w0.heap.size ≤ k) : Gb w0 w' :=
  ⟨g.os.trans h.os, g.tape.trans h.tape, g.output.trans h.output, Nat.le_trans h.size g.size, fun i hi => (g.block i (Nat.lt_of_lt_of_le hi h.size) (fun e => by have := hr i e.symm; omega)).trans (h.block i hi)⟩
theorem OwnB.lo {w : World} {B : Nat} {v : Value} {l : List UInt8} (h : OwnB w B v l) : ∀ k, v.ownBlock = some k → B ≤ k ∧ k < w.heap.size := by
  intro k e
  have h1 := World.ownsRow.lt h k e
  exact ⟨h1.1, h1.2⟩
theorem OwnB.kept {w w' : World} {base : Nat} {v : Value} {l : List UInt8} {row : Option Nat} (h : OwnB w base v l) (hg : w.grownBy w' row) (hne : v.ownBlock = none ∨ v.ownBlock ≠ row) : OwnB w' base v l := World.ownsRow.kept h hg hne
theorem OwnB.gb {w w' : World} {base : Nat} {v : Value} {l : List UInt8} (h : OwnB w base v l) (g : Gb w w') : OwnB w' base v l :=
  h.kept (row := none) ⟨g.os, g.tape, g.output, g.size, fun k hk _ => g.block k hk⟩ (by cases hv : v.ownBlock <;> simp)
theorem OwnB.mono {w : World} {b b' : Nat} {v : Value} {l : List UInt8} (h : OwnB w b v l) (hb : b' ≤ b) : OwnB w b' v l := by
  refine ⟨h.1, ?_⟩
  rcases h.2 with h | ⟨g, cap, cur, e, h1, r⟩
  · exact .inl h
  · exact .inr ⟨g, cap, cur, e, by omega, r⟩
theorem OwnB.rd {w : World} {base : Nat} {v : Value} {l : List UInt8} (h : OwnB w base v l) : RdB w v l := by
  rcases h.2 with ⟨rfl, h0⟩ | ⟨g, cap, cur, rfl, _, _, hcap, _⟩
  · exact ⟨none, 0, by rw [h0], by omega, fun i hi => by omega⟩
  · refine ⟨_, cap, rfl, by simpa using hcap, fun i hi => ⟨g, 0, rfl, ?_⟩⟩
    have := World.ownsRow.cells h (g := g) rfl i (bv l[i]!) (by rw [List.getElem?_map, getElem!_pos l i hi, List.getElem?_eq_getElem hi]; rfl)
    rwa [Addr.add_lit] at this
theorem ownb_nil (w : World) (base : Nat) : OwnB w base (.slice none 0 0) [] := World.ownsRow_nil w base 5 1
theorem Tryz.infoB : (Tryz.prog.info? 5).map (fun i => (i.zero, i.size, i.bytes)) = some (some (.int .u8 0), 1, 1) := by kernel_rfl
theorem info5 : ∃ i, Tryz.prog.info? 5 = some i ∧ i.zero = some (.int .u8 0) ∧ i.size = 1 ∧ i.bytes = 1 := info_parts Tryz.infoB
theorem ofNat_val (n : Nat) : (((UInt8.ofNat n).toNat : Nat) : Int) = (n : Int) % 256 := by simp
theorem own_app {w1 w' : World} {B : Nat} {v v' : Value} {l : List UInt8} {x : UInt8} {z : Int} (hz : (x.toNat : Int) = z)
    (ho : w'.ownsRow B 5 1 v' (l.length + 1) (l.map bv ++ [.int .u8 z])) (hg : w1.grownBy w' v.ownBlock) (hb : v'.ownBlock = v.ownBlock ∨ v'.ownBlock = some w1.heap.size) : OwnB w' B v' (l ++ [x]) ∧ GrB w1 w' v v' := by
  refine ⟨?_, hg, ?_⟩
  · subst hz
    unfold OwnB
    rw [List.length_append, List.map_append]
    exact ho
  · rcases hb with e | e
    · exact .inl e
    · exact .inr ⟨_, e, Nat.le_refl _⟩

set_option maxHeartbeats 1000000 in
theorem withNumber_c {w : World} {v : Value} {l : List UInt8} {B : Nat} (h : OwnB w B v l) (hB : B ≤ w.heap.size) (m k : Nat) (hm : m < 4294967296) (hl : l.length + k ≤ 140737488355328) :
    Calls Tryz.prog 68 #[v, .int .u32 (m : Int), .int .i64 (k : Int)] w fun e w' => ∃ v', e = .returned v' ∧ OwnB w' B v' (l ++ leB m k) ∧ GrB w w' v v' := by
  obtain ⟨i0, II⟩ := info5
  have O : Hid (OwnB w B v l) := h
  have L : Hid (l.length + k ≤ 140737488355328) := hl
  clear h hl
  have hk : k ≤ 140737488355328 := by have := L.out; omega
  go_enter Tryz.func68, Tryz.ntmps68
  go_wp2
  go_loopw [0, 1, 8] (fun bb nv iv w' => ∃ q : Nat, iv = .int .i64 (q : Int) ∧ q ≤ k ∧ nv = .int .u32 ((m / 256 ^ q : Nat) : Int) ∧ Hid (OwnB w' B bb (l ++ leB m q) ∧ GrB w w' v bb)) (fun _ _ iv _ => k - (intOf iv).toNat)
  case atStart => exact ⟨0, rfl, Nat.zero_le _, by simp, by simpa [leB] using O.out, GrB.refl _ _⟩
  case round =>
    obtain ⟨q, rfl, hq, rfl, X⟩ := hrel
    by_cases hqk : q < k
    · have hqi : (q : Int) < (k : Int) := by omega
      have S : Hid (leB m (q + 1) = leB m q ++ [UInt8.ofNat (m / 256 ^ q)]) := leB_succ m q
      have D : Hid ((m / 256 ^ (q + 1)) = (m / 256 ^ q) / 256) := by unfold Hid; rw [Nat.pow_succ, Nat.div_div_eq_div_mul]
      have hd : m / 256 ^ q < 4294967296 := Nat.lt_of_le_of_lt (Nat.div_le_self _ _) hm
      generalize m / 256 ^ q = d at *
      have hLn : (l ++ leB m q).length + 1 ≤ 140737488355328 := by rw [List.length_append, leB_length]; have := L.out; omega
      have LQ : Hid ((l ++ leB m q) ++ [UInt8.ofNat d] = l ++ leB m (q + 1)) := by unfold Hid; rw [S.out, List.append_assoc]
      generalize l ++ leB m q = lq at *
      have hrow := X.out.1
      unfold OwnB at hrow
      have hsz := X.out.2.grown.size
      go_wp2_with (first
        | (at_builtin; refine wpList_append_own_at _ rfl _ _ 59 rfl B 5 i0 (.int .u8 0) 1 1 Tryz.underlying59 II.1 II.2.1 II.2.2.1 II.2.2.2 rfl (by decide) _ _ _ rfl (World.ownsRow.alloc hrow _) ⟨wr.heap.size, 0, none⟩ 1 1 [.int .u8 _] rfl rfl (cell_one_new _ _ _) (ints_oneCell .u8 [_]) (by unfold maxLen; omega) (by omega) (by simp; omega) ?_; intro v' w2 hown' hgrow2 hnil2 hloc)
        | go_in)
      obtain ⟨a1, a2⟩ := own_app (x := UInt8.ofNat d) (ofNat_val d) hown' hgrow2 hloc
      rw [LQ.out] at a1
      exact ⟨⟨q + 1, by simp, hqk, by rw [D.out]; simp, a1, X.out.2.trans (((GrB.refl _ _).alloc _).trans a2)⟩, by simp [intOf]; omega⟩
    · have e : q = k := by omega
      subst e
      go_wp2
      go_ret
      exact ⟨_, rfl, X.out.1, X.out.2⟩

end Go.Proofs.YtcbhhdjjanekaaaGreatDoor
