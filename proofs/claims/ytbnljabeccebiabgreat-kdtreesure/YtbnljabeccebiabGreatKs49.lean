import Derived.Test.YtbnljabeccebiabGreatKs45
import Derived.Test.YtbnljabeccebiabGreatKs47
import Derived.Test.YtbnljabeccebiabGreatKs42
import Derived.Deep.OwnRows
import Derived.Laws.CopyOwn
import Derived.Laws.OwnMore
import Derived.Test.YtbnljabeccebiabGreatKs3
import Derived.Test.YtbnljabeccebiabGreatKsReg
/- theodolitekeep.Region and Answer: of two that read as the same. -/
namespace Go.Proofs.YtbnljabeccebiabGreat
open Go.RowKit Go.Sort

/-- What the region holds while it draws: two variables' lists, two regions' cells. -/
structure Tw (W : World) (B : Nat) (va vb : Value) (p r : Addr) (S x1 x2 x3 y1 y2 y3 R1 R2 : Value) : Prop where
  v0 : W.cell? ⟨B, 2, none⟩ = some va
  v1 : W.cell? ⟨B + 1, 2, none⟩ = some vb
  a0 : W.cell? p = some S
  a1 : W.cell? ⟨p.block, p.off + 1, none⟩ = some x1
  a2 : W.cell? ⟨p.block, p.off + 2, none⟩ = some x2
  a3 : W.cell? ⟨p.block, p.off + 3, none⟩ = some R1
  a4 : W.cell? ⟨p.block, p.off + 4, none⟩ = some R2
  a5 : W.cell? ⟨p.block, p.off + 5, none⟩ = some x3
  b0 : W.cell? r = some S
  b1 : W.cell? ⟨r.block, r.off + 1, none⟩ = some y1
  b2 : W.cell? ⟨r.block, r.off + 2, none⟩ = some y2
  b3 : W.cell? ⟨r.block, r.off + 3, none⟩ = some R1
  b4 : W.cell? ⟨r.block, r.off + 4, none⟩ = some R2
  b5 : W.cell? ⟨r.block, r.off + 5, none⟩ = some y3
theorem Tw.gb {W W' : World} {B : Nat} {va vb : Value} {p r : Addr} {S x1 x2 x3 y1 y2 y3 R1 R2 : Value} (h : Tw W B va vb p r S x1 x2 x3 y1 y2 y3 R1 R2) (g : Gb W W') : Tw W' B va vb p r S x1 x2 x3 y1 y2 y3 R1 R2 :=
  ⟨gb_keeps g h.v0, gb_keeps g h.v1, gb_keeps g h.a0, gb_keeps g h.a1, gb_keeps g h.a2, gb_keeps g h.a3, gb_keeps g h.a4, gb_keeps g h.a5, gb_keeps g h.b0, gb_keeps g h.b1, gb_keeps g h.b2, gb_keeps g h.b3, gb_keeps g h.b4, gb_keeps g h.b5⟩
/-- What bounds an answer's lists. -/
structure Few (a : Ans) : Prop where
  hits : a.hits.length ≤ 4000
  seen : a.seen.length ≤ 4611686018427387904
  rest : a.rest.length ≤ 4611686018427387904
  reg : ∀ r ∈ a.rest, r.L.length ≤ 4611686018427387904 ∧ r.H.length ≤ 4611686018427387904 ∧ r.I.length ≤ 4611686018427387904

end Go.Proofs.YtbnljabeccebiabGreat

/- theodolitekeep.Lend and Back; theodoliteref03.Dist. -/
namespace Go.Proofs.YtbnljabeccebiabGreat
open Go.RowKit Go.Sort Go.Maps

/-- Numbers that were lent: block g, with the mark behind them. -/
def Lent (W : World) (B g : Nat) (l : List Int) : Prop := B ≤ g ∧ W.heap[g]? = some (.cells (l.map (Value.int .i64) ++ [Value.int .i64 (-77)]).toArray 3 (0, 0))
theorem Lent.gb {W W' : World} {B g : Nat} {l : List Int} (h : Lent W B g l) (k : Gb W W') : Lent W' B g l :=
  ⟨h.1, by rw [k.block g (Array.getElem?_eq_some_iff.1 h.2).1]; exact h.2⟩
theorem Lent.far {W W' : World} {B g g' : Nat} {l : List Int} (h : Lent W B g l) (k : W.grownBy W' (some g')) (hne : g ≠ g') : Lent W' B g l :=
  ⟨h.1, by rw [k.block g (Array.getElem?_eq_some_iff.1 h.2).1 (by simpa using hne)]; exact h.2⟩
theorem Lent.rd {W : World} {B g : Nat} {l : List Int} (h : Lent W B g l) : RdI W (.slice (some ⟨g, 0, none⟩) l.length (l.length + 1)) l := by
  refine ⟨_, _, rfl, fun i hi => ⟨g, 0, rfl, ?_⟩⟩
  simp only [World.cell?, h.2, Nat.zero_add]
  simp only [Option.isSome_none, Bool.false_eq_true, if_false, List.getElem?_toArray]
  rw [List.getElem?_append_left (by simpa using hi)]
  simp [hi]
theorem Lent.mark {W : World} {B g : Nat} {l : List Int} (h : Lent W B g l) : W.cell? ⟨g, l.length, none⟩ = some (.int .i64 (-77)) := by
  simp only [World.cell?, h.2]
  simp
theorem Lent.own {W : World} {B g : Nat} {l : List Int} (h : Lent W B g l) (hl : l.length ≤ 65536) : Own W B (.slice (some ⟨g, 0, none⟩) (l.length + 1) (l.length + 1)) (tab (fun i => if i < l.length then l[i]! else -77) (l.length + 1)) := by
  unfold Own
  rw [tab_len]
  refine ⟨by simp [tab], .inr ⟨g, _, _, rfl, h.1, h.2, Nat.le_refl _, by simp only [maxLen]; omega, by simp, ?_⟩⟩
  apply List.ext_getElem?
  intro t
  by_cases ht : t < l.length + 1
  · rw [Nat.mul_one, List.getElem?_take_of_lt ht]
    by_cases h2 : t < l.length
    · simp [tab, ht, h2]
    · have e : t = l.length := by omega
      subst e
      simp [tab]
  · rw [List.getElem?_eq_none (by simp; omega), List.getElem?_eq_none (by simp [tab]; omega)]

end Go.Proofs.YtbnljabeccebiabGreat

/- theodolitekeep.LendRows: rows in memory of the call's own, with a mark behind. -/
namespace Go.Proofs.YtbnljabeccebiabGreat
open Go.RowKit Go.Sort Go.Maps

/-- Rows in memory, by the index: two cells each. -/
def RA (W : World) (g n : Nat) (f : Nat → Value × Value) : Prop :=
  ∃ cur : Array Value, W.heap[g]? = some (.cells cur 49 (0, 0)) ∧ cur.size = n * 2 ∧ ∀ i, i < n → cur[i * 2]? = some (f i).1 ∧ cur[i * 2 + 1]? = some (f i).2
theorem RA.lt {W : World} {g n : Nat} {f : Nat → Value × Value} (h : RA W g n f) : g < W.heap.size := by
  obtain ⟨cur, h1, _⟩ := h; exact (Array.getElem?_eq_some_iff.1 h1).1
theorem RA.cell {W : World} {g n : Nat} {f : Nat → Value × Value} (h : RA W g n f) {i : Nat} (hi : i < n) : W.cell? ⟨g, i * 2, none⟩ = some (f i).1 ∧ W.cell? ⟨g, i * 2 + 1, none⟩ = some (f i).2 := by
  obtain ⟨cur, h1, _, h4⟩ := h
  obtain ⟨a, b⟩ := h4 i hi
  simp [World.cell?, h1, a, b]
theorem RA.frozen {W : World} {g n : Nat} {f : Nat → Value × Value} (h : RA W g n f) (o : Nat) : W.frozen? ⟨g, o, none⟩ = false := by
  obtain ⟨cur, h1, _⟩ := h
  simp [World.frozen?, h1]
theorem RA.block {W W' : World} {g n : Nat} {f : Nat → Value × Value} (h : RA W g n f) (e : W'.heap[g]? = W.heap[g]?) : RA W' g n f := by
  obtain ⟨cur, h1, h2⟩ := h
  exact ⟨cur, e.trans h1, h2⟩
theorem RA.set {W : World} {g n : Nat} {f : Nat → Value × Value} (h : RA W g n f) {i : Nat} (hi : i < n) (x y : Value) :
    RA ((W.setCell ⟨g, i * 2, none⟩ x).setCell ⟨g, i * 2 + 1, none⟩ y) g n (fun t => if t = i then (x, y) else f t) := by
  obtain ⟨cur, h1, h2, h5⟩ := h
  refine ⟨(cur.setIfInBounds (i * 2) x).setIfInBounds (i * 2 + 1) y, ?_, by simpa using h2, fun t ht => ?_⟩
  · simp [World.setCell, Array.getElem?_modify, h1]
  · by_cases e : t = i
    · subst e
      simp only [if_true]
      refine ⟨?_, ?_⟩
      · rw [Array.getElem?_setIfInBounds_ne (by omega), Array.getElem?_setIfInBounds_self_of_lt (by omega)]
      · rw [Array.getElem?_setIfInBounds_self_of_lt (by simp; omega)]
    · simp only [if_neg e]
      obtain ⟨a, b⟩ := h5 t ht
      refine ⟨?_, ?_⟩
      · rw [Array.getElem?_setIfInBounds_ne (by omega), Array.getElem?_setIfInBounds_ne (by omega)]; exact a
      · rw [Array.getElem?_setIfInBounds_ne (by omega), Array.getElem?_setIfInBounds_ne (by omega)]; exact b
theorem ra_made (w : World) (n : Nat) : RA (w.alloc (.cells (madeCells #[.int .i64 0, .slice none 0 0] (n * 2)) 49)) w.heap.size n (fun _ => (.int .i64 0, .slice none 0 0)) := by
  refine ⟨_, heap_alloc_new _ _, size_madeCells _ _, fun i hi => ⟨?_, ?_⟩⟩
  · simp [madeCells, show i * 2 < n * 2 by omega]
  · simp [madeCells, show i * 2 + 1 < n * 2 by omega, show (i * 2 + 1) % 2 = 1 by omega]
theorem Tryz.infoR : (Tryz.prog.info? 49).map (fun i => (i.zero, i.size, i.bytes)) = some (some (.agg #[.int .i64 0, .slice none 0 0]), 2, 32) := by kernel_rfl
theorem run_make_two (n : Nat) (hn : n ≤ 65537) (w : World) : (Instr.makeSlice 22 (.int .i64 (n : Int)) (.int .i64 (n : Int))).run Tryz.prog w = .ok (.slice (some ⟨w.heap.size, 0, none⟩) n n) (w.alloc (.cells (madeCells #[.int .i64 0, .slice none 0 0] (n * 2)) 49)) := by
  obtain ⟨i, hi, hzz⟩ := Option.map_eq_some_iff.1 Tryz.infoR
  simp only [Prod.mk.injEq] at hzz
  obtain ⟨hz, hs, hb⟩ := hzz
  have hr := run_make (P := Tryz.prog) w 22 49 i _ Tryz.underlying22 hi hz .i64 .i64 n n (by omega) (Int.le_refl _) (by rw [hb]; omega) (by omega)
  simp only [Int.toNat_natCast, hs] at hr
  exact hr

/-- What is laid of rows that are lent: block G, n places, p of them done. -/
structure Lr (w W : World) (G n : Nat) (rs : List Rw) (p : Nat) (z : Prop) (f : Nat → Value × Value) : Prop where
  gb : Gb w W
  hG : w.heap.size ≤ G
  arr : RA W G n f
  lent : ∃ gs : Nat → Nat, ∀ i, i < p → f i = (.int .i64 rs[i]!.1, .slice (some ⟨gs i, 0, none⟩) rs[i]!.2.length (rs[i]!.2.length + 1)) ∧ Lent W (G + 1) (gs i) rs[i]!.2 ∧ ∀ j, j < i → gs j ≠ gs i
  end' : z
theorem Lr.gr {w W W' : World} {G n p : Nat} {rs : List Rw} {z : Prop} {f : Nat → Value × Value} (h : Lr w W G n rs p z f) (g : Gb W W') : Lr w W' G n rs p z f := by
  obtain ⟨gs, hl⟩ := h.lent
  exact ⟨gb_trans h.gb g, h.hG, h.arr.block (g.block _ h.arr.lt), ⟨gs, fun i hi => ⟨(hl i hi).1, (hl i hi).2.1.gb g, (hl i hi).2.2⟩⟩, h.end'⟩
theorem two_far {g b : Nat} {W : World} (hn : b ≠ g) (o1 o2 : Nat) (x y : Value) : ((W.setCell ⟨g, o1, none⟩ x).setCell ⟨g, o2, none⟩ y).heap[b]? = W.heap[b]? :=
  (Below.heap_setCell _ _ _ _ (by dsimp only; exact hn)).trans (Below.heap_setCell _ _ _ _ (by dsimp only; exact hn))
theorem two_gb {g : Nat} {w W : World} (h : Gb w W) (hg : w.heap.size ≤ g) (o1 o2 : Nat) (x y : Value) : Gb w ((W.setCell ⟨g, o1, none⟩ x).setCell ⟨g, o2, none⟩ y) :=
  gb_set (gb_set h (by dsimp only; exact hg) _) (by dsimp only; exact hg) _
theorem Lent.block {W W' : World} {B g : Nat} {l : List Int} (h : Lent W B g l) (e : W'.heap[g]? = W.heap[g]?) : Lent W' B g l := ⟨h.1, e.trans h.2⟩
theorem Lent.lt {W : World} {B g : Nat} {l : List Int} (h : Lent W B g l) : g < W.heap.size := (Array.getElem?_eq_some_iff.1 h.2).1
/-- One more row. -/
theorem Lr.step {w W W2 : World} {G n p g : Nat} {rs : List Rw} {f : Nat → Value × Value} (h : Lr w W G n rs p True f) (hp : p < n) (g2 : Gb W W2) (L : Lent W2 W.heap.size g rs[p]!.2) :
    ∃ f', Lr w ((W2.setCell ⟨G, p * 2, none⟩ (.int .i64 rs[p]!.1)).setCell ⟨G, p * 2 + 1, none⟩ (.slice (some ⟨g, 0, none⟩) rs[p]!.2.length (rs[p]!.2.length + 1))) G n rs (p + 1) True f' := by
  have hGW := h.arr.lt
  have h2 := h.gr g2
  obtain ⟨gs, hl⟩ := h2.lent
  obtain ⟨gs0, hl0⟩ := h.lent
  have hgs : ∀ i, i < p → gs i < W.heap.size := fun i hi => by
    have e := (hl i hi).1.symm.trans (hl0 i hi).1
    simp at e
    rw [e]
    exact (hl0 i hi).2.1.lt
  have hg := L.1
  refine ⟨_, two_gb h2.gb h2.hG _ _ _ _, h.hG, h2.arr.set hp _ _, ⟨fun i => if i = p then g else gs i, fun i hi => ?_⟩, trivial⟩
  by_cases e : i = p
  · subst e
    simp only [if_true]
    refine ⟨trivial, ⟨by omega, (two_far (by omega) _ _ _ _).trans L.2⟩, fun j hj => ?_⟩
    rw [if_neg (by omega)]
    have := hgs j hj
    omega
  · simp only [if_neg e]
    obtain ⟨a, b, c⟩ := hl i (by omega)
    refine ⟨a, b.block (two_far (by have := b.1; omega) _ _ _ _), fun j hj => ?_⟩
    rw [if_neg (by omega)]
    exact c j hj
/-- Rows that were lent. -/
def LentR (w W : World) (G : Nat) (rs : List Rw) : Prop := ∃ f, Lr w W G (rs.length + 1) rs rs.length (f rs.length = (.int .i64 (-77), .slice none 0 0)) f
theorem Lr.mark {w W : World} {G n : Nat} {rs : List Rw} {f : Nat → Value × Value} (h : Lr w W G (n + 1) rs n True f) (hn : n = rs.length) :
    LentR w ((W.setCell ⟨G, n * 2, none⟩ (.int .i64 (-77))).setCell ⟨G, n * 2 + 1, none⟩ (.slice none 0 0)) G rs := by
  subst hn
  obtain ⟨gs, hl⟩ := h.lent
  refine ⟨_, two_gb h.gb h.hG _ _ _ _, h.hG, h.arr.set (Nat.lt_succ_self _) _ _, ⟨gs, fun i hi => ?_⟩, by simp⟩
  obtain ⟨a, b, c⟩ := hl i hi
  exact ⟨by rw [if_neg (by omega)]; exact a, b.block (two_far (by have := b.1; omega) _ _ _ _), c⟩
theorem LentR.gr {w W W' : World} {G : Nat} {rs : List Rw} (h : LentR w W G rs) (g : Gb W W') : LentR w W' G rs := by
  obtain ⟨f, h⟩ := h
  exact ⟨f, h.gr g⟩
theorem LentR.rd {w W : World} {G : Nat} {rs : List Rw} (h : LentR w W G rs) : RdW W (.slice (some ⟨G, 0, none⟩) rs.length (rs.length + 1)) rs := by
  obtain ⟨f, h⟩ := h
  obtain ⟨gs, hl⟩ := h.lent
  refine ⟨_, _, rfl, fun i hi => ?_⟩
  obtain ⟨a, b, _⟩ := hl i hi
  have hc := h.arr.cell (i := i) (by omega)
  rw [a] at hc
  exact ⟨G, 0, _, rfl, by rw [Nat.zero_add]; exact hc.1, by rw [Nat.zero_add]; exact hc.2, b.rd⟩
/-- What the region holds while it draws. -/
structure Rs (w W : World) (a b : Addr) (u v : Value) : Prop where
  gb : Gb w W
  ca : W.cell? a = some u
  cb : W.cell? b = some v
  la : a.block < w.heap.size
  lb : b.block < w.heap.size
theorem Rs.gr {w W W' : World} {a b : Addr} {u v : Value} (h : Rs w W a b u v) (g : Gb W W') : Rs w W' a b u v := ⟨gb_trans h.gb g, gb_keeps g h.ca, gb_keeps g h.cb, h.la, h.lb⟩
theorem Rs.set {w W : World} {a b : Addr} {u v : Value} {B : Nat} (h : Rs w W a b u v) (hB : w.heap.size ≤ B) (o1 o2 : Nat) (x y : Value) : Rs w ((W.setCell ⟨B, o1, none⟩ x).setCell ⟨B, o2, none⟩ y) a b u v := by
  have ha := h.la
  have hb := h.lb
  exact ⟨two_gb h.gb hB _ _ _ _, (World.cell?_of_block (two_far (by omega) _ _ _ _)).trans h.ca, (World.cell?_of_block (two_far (by omega) _ _ _ _)).trans h.cb, h.la, h.lb⟩
end Go.Proofs.YtbnljabeccebiabGreat

/- theodolitekeep.Back; theodoliteref03.Dist; VecDists: the walk. -/
namespace Go.Proofs.YtbnljabeccebiabGreat
open Go.RowKit Go.Sort Go.Maps

theorem grown_set {w W : World} {g i : Nat} (h : w.grownBy W (some g)) (u : Value) : w.grownBy (W.setCell ⟨g, i, none⟩ u) (some g) :=
  ⟨h.os, h.tape, h.output, by simpa [World.setCell] using h.size, fun k hk hn => (Below.heap_setCell _ _ _ _ (fun e => hn (by rw [e]))).trans (h.block k hk hn)⟩
theorem grown_gb {w W : World} {g : Nat} (h : Gb w W) : w.grownBy W (some g) := ⟨h.os, h.tape, h.output, h.size, fun k hk _ => h.block k hk⟩

end Go.Proofs.YtbnljabeccebiabGreat

/- theodolitekeep.BackRows: rows that were lent are as they were. -/
namespace Go.Proofs.YtbnljabeccebiabGreat
open Go.RowKit Go.Sort Go.Maps

/-- Nothing has turned but in the blocks from B on below T. -/
structure Mid (B T : Nat) (w W : World) : Prop where
  os : W.os = w.os
  tape : W.tape = w.tape
  output : W.output = w.output
  size : w.heap.size ≤ W.heap.size
  block : ∀ k, k < w.heap.size → (k < B ∨ T ≤ k) → W.heap[k]? = w.heap[k]?
theorem Mid.refl (B T : Nat) (w : World) : Mid B T w w := ⟨rfl, rfl, rfl, Nat.le_refl _, fun _ _ _ => rfl⟩
theorem Mid.gb {B T : Nat} {w0 w W : World} (h : Mid B T w W) (g : Gb w0 w) (hB : w0.heap.size ≤ B) : Gb w0 W := by
  have hs := g.size
  exact ⟨h.os.trans g.os, h.tape.trans g.tape, h.output.trans g.output, Nat.le_trans g.size h.size, fun k hk => (h.block k (by omega) (.inl (by omega))).trans (g.block k hk)⟩
theorem Mid.drew {B T : Nat} {w W : World} (h : Mid B T w W) : Mid B T w W.drew := ⟨h.os, h.tape, h.output, h.size, h.block⟩
theorem Mid.grown {B T g : Nat} {w W W' : World} (h : Mid B T w W) (k : W.grownBy W' (some g)) (h1 : B ≤ g) (h2 : g < T) : Mid B T w W' :=
  ⟨k.os.trans h.os, k.tape.trans h.tape, k.output.trans h.output, Nat.le_trans h.size k.size, fun j hj hb => (k.block j (Nat.lt_of_lt_of_le hj h.size) (by simp; omega)).trans (h.block j hj hb)⟩
theorem Mid.set {B T g : Nat} {w W : World} (h : Mid B T w W) (h1 : B ≤ g) (h2 : g < T) (o1 o2 : Nat) (x y : Value) : Mid B T w ((W.setCell ⟨g, o1, none⟩ x).setCell ⟨g, o2, none⟩ y) :=
  ⟨h.os, h.tape, h.output, by simpa [World.setCell] using h.size, fun j hj hb => (two_far (by omega) _ _ _ _).trans (h.block j hj hb)⟩
/-- Rows that were lent, in blocks from B on below T. -/
structure LT (B T : Nat) (W : World) (G : Nat) (rs : List Rw) (f : Nat → Value × Value) (gs : Nat → Nat) : Prop where
  lo : B ≤ G
  hi : G < T
  arr : RA W G (rs.length + 1) f
  mark : f rs.length = (.int .i64 (-77), .slice none 0 0)
  row : ∀ i, i < rs.length → f i = (.int .i64 rs[i]!.1, .slice (some ⟨gs i, 0, none⟩) rs[i]!.2.length (rs[i]!.2.length + 1)) ∧ Lent W (G + 1) (gs i) rs[i]!.2 ∧ gs i < T ∧ ∀ j, j < i → gs j ≠ gs i
theorem LentR.lt {w W : World} {G : Nat} {rs : List Rw} (h : LentR w W G rs) : ∃ f gs, LT w.heap.size W.heap.size W G rs f gs := by
  obtain ⟨f, h⟩ := h
  obtain ⟨gs, hl⟩ := h.lent
  exact ⟨f, gs, h.hG, h.arr.lt, h.arr, h.end', fun i hi => ⟨(hl i hi).1, (hl i hi).2.1, (hl i hi).2.1.lt, (hl i hi).2.2⟩⟩
theorem LT.keep {B T G : Nat} {W W' : World} {rs : List Rw} {f : Nat → Value × Value} {gs : Nat → Nat} (h : LT B T W G rs f gs) (e : ∀ k, B ≤ k → k < T → W'.heap[k]? = W.heap[k]?) : LT B T W' G rs f gs :=
  ⟨h.lo, h.hi, h.arr.block (e _ h.lo h.hi), h.mark, fun i hi => by
    obtain ⟨a, b, c, d⟩ := h.row i hi
    exact ⟨a, b.block (e _ (by have := b.1; have := h.lo; omega) c), c, d⟩⟩
/-- p rows are back. -/
structure Bk (B T : Nat) (w W : World) (G : Nat) (rs : List Rw) (f : Nat → Value × Value) (gs : Nat → Nat) (p : Nat) : Prop where
  mid : Mid B T w W
  arr : ∃ f', RA W G (rs.length + 1) f' ∧ ∀ i, p ≤ i → f' i = f i
  lent : ∀ i, p ≤ i → i < rs.length → Lent W (G + 1) (gs i) rs[i]!.2
theorem LT.bk {B T G : Nat} {W : World} {rs : List Rw} {f : Nat → Value × Value} {gs : Nat → Nat} (h : LT B T W G rs f gs) : Bk B T W W G rs f gs 0 :=
  ⟨Mid.refl _ _ _, ⟨f, h.arr, fun _ _ => rfl⟩, fun i _ hi => (h.row i hi).2.1⟩
theorem Bk.drew {B T G p : Nat} {w W : World} {rs : List Rw} {f : Nat → Value × Value} {gs : Nat → Nat} (h : Bk B T w W G rs f gs p) : Bk B T w W.drew G rs f gs p :=
  ⟨h.mid.drew, h.arr, h.lent⟩
/-- One more row is back. -/
theorem Bk.step {B T G p : Nat} {w W W2 : World} {rs : List Rw} {f : Nat → Value × Value} {gs : Nat → Nat} (h : Bk B T w W G rs f gs p) (L : LT B T w G rs f gs) (hp : p < rs.length) (k : W.grownBy W2 (some (gs p))) (x y : Value) :
    Bk B T w ((W2.setCell ⟨G, p * 2, none⟩ x).setCell ⟨G, p * 2 + 1, none⟩ y) G rs f gs (p + 1) := by
  obtain ⟨_, b, c, _⟩ := L.row p hp
  have hb := b.1
  have hlo := L.lo
  obtain ⟨f', h1, h2⟩ := h.arr
  refine ⟨(h.mid.grown k (by omega) c).set L.lo L.hi _ _ _ _, ⟨_, (h1.block (k.block G h1.lt (by simp; omega))).set (i := p) (by omega) x y, fun i hi => ?_⟩, fun i hi hl => ?_⟩
  · rw [if_neg (by omega)]; exact h2 i (by omega)
  · have h3 := h.lent i (by omega) hl
    have hne := (L.row i hl).2.2.2 p (by omega)
    exact h3.block ((two_far (by have := h3.1; omega) _ _ _ _).trans (k.block _ h3.lt (by simp; omega)))
/-- What the region holds while it draws: four cells. -/
structure Qs (W : World) (a b c d : Addr) (u v x y : Value) : Prop where
  ca : W.cell? a = some u
  cb : W.cell? b = some v
  cc : W.cell? c = some x
  cd : W.cell? d = some y
theorem Qs.grown {W W' : World} {a b c d : Addr} {u v x y : Value} {g : Nat} (h : Qs W a b c d u v x y) (k : W.grownBy W' (some g)) (ha : a.block ≠ g) (hb : b.block ≠ g) (hc : c.block ≠ g) (hd : d.block ≠ g) : Qs W' a b c d u v x y := by
  have far : ∀ {p : Addr} {q : Value}, p.block ≠ g → W.cell? p = some q → W'.cell? p = some q := fun {p q} hp hq =>
    (World.cell?_of_block (k.block _ (World.block_lt_of_cell? W _ hq) (by simp; omega))).trans hq
  exact ⟨far ha h.ca, far hb h.cb, far hc h.cc, far hd h.cd⟩
end Go.Proofs.YtbnljabeccebiabGreat

/- theodolitekeep.Spoil: what it writes over is the answer's own. -/
namespace Go.Proofs.YtbnljabeccebiabGreat
open Go.RowKit Go.Sort

/-- No block of cells has turned but of these types; those keep their size, and numbers stay numbers. -/
structure Shp (P : TypeId → Prop) (W W' : World) : Prop where
  keep : ∀ (k : Nat) (cur : Array Value) (t : TypeId) (f : Nat × Nat), W.heap[k]? = some (.cells cur t f) → ¬ P t → W'.heap[k]? = W.heap[k]?
  size : ∀ (k : Nat) (cur : Array Value) (t : TypeId) (f : Nat × Nat), W.heap[k]? = some (.cells cur t f) → ∃ cur', W'.heap[k]? = some (.cells cur' t f) ∧ cur'.size = cur.size ∧ (t = 3 → ∀ (i : Nat) (x : Int), cur[i]? = some (.int .i64 x) → ∃ y : Int, cur'[i]? = some (.int .i64 y))
theorem Shp.refl (P : TypeId → Prop) (W : World) : Shp P W W := ⟨fun _ _ _ _ _ _ => rfl, fun _ cur _ _ h => ⟨cur, h, rfl, fun _ _ x hx => ⟨x, hx⟩⟩⟩
theorem Shp.trans {P : TypeId → Prop} {a b c : World} (h : Shp P a b) (g : Shp P b c) : Shp P a c := by
  refine ⟨fun k cur t f e n => ?_, fun k cur t f e => ?_⟩
  · have h1 := h.keep k cur t f e n
    exact (g.keep k cur t f (h1.trans e) n).trans h1
  · obtain ⟨c1, e1, s1, i1⟩ := h.size k cur t f e
    obtain ⟨c2, e2, s2, i2⟩ := g.size k c1 t f e1
    refine ⟨c2, e2, s2.trans s1, fun e3 i x hx => ?_⟩
    obtain ⟨y, hy⟩ := i1 e3 i x hx
    exact i2 e3 i y hy
theorem Shp.mono {P Q : TypeId → Prop} {a b : World} (h : Shp P a b) (hp : ∀ t, P t → Q t) : Shp Q a b := ⟨fun k cur t f e n => h.keep k cur t f e fun p => n (hp t p), h.size⟩
theorem Shp.gb {P : TypeId → Prop} {a b : World} (g : Gb a b) : Shp P a b :=
  ⟨fun k _ _ _ e _ => g.block k (Array.getElem?_eq_some_iff.1 e).1, fun k cur _ _ e => ⟨cur, (g.block k (Array.getElem?_eq_some_iff.1 e).1).trans e, rfl, fun _ _ x hx => ⟨x, hx⟩⟩⟩
theorem heap_set {W : World} {g o : Nat} {x : Value} {cur : Array Value} {t : TypeId} {f : Nat × Nat} (h : W.heap[g]? = some (.cells cur t f)) : (W.setCell ⟨g, o, none⟩ x).heap[g]? = some (.cells (cur.setIfInBounds o x) t f) := by
  simp [World.setCell, Array.getElem?_modify, h]
theorem Shp.set {P : TypeId → Prop} {W : World} {g : Nat} {cur : Array Value} {t : TypeId} {f : Nat × Nat} (h : W.heap[g]? = some (.cells cur t f)) (hp : P t) (o : Nat) (x : Value) (hx : t = 3 → ∃ y : Int, x = .int .i64 y) : Shp P W (W.setCell ⟨g, o, none⟩ x) := by
  refine ⟨fun k cur' t' f' e n => ?_, fun k cur' t' f' e => ?_⟩
  · by_cases hk : k = g
    · subst hk; rw [h] at e; cases e; exact absurd hp n
    · exact Below.heap_setCell _ _ _ _ (by dsimp only; exact hk)
  · by_cases hk : k = g
    · subst hk
      rw [h] at e; cases e
      refine ⟨_, heap_set h, by simp, fun e3 i z hz => ?_⟩
      by_cases hi : i = o
      · subst hi
        obtain ⟨y, rfl⟩ := hx e3
        have hlt : i < cur.size := (Array.getElem?_eq_some_iff.1 hz).1
        exact ⟨y, by rw [Array.getElem?_setIfInBounds_self_of_lt hlt]⟩
      · exact ⟨z, by rw [Array.getElem?_setIfInBounds_ne (fun e => hi e.symm)]; exact hz⟩
    · exact ⟨cur', (Below.heap_setCell _ _ _ _ (by dsimp only; exact hk)).trans e, rfl, fun _ _ z hz => ⟨z, hz⟩⟩
/-- Nothing has turned but in the blocks from B on below T, and these only so. -/
structure MS (P : TypeId → Prop) (B T : Nat) (W W' : World) : Prop where
  mid : Mid B T W W'
  shp : Shp P W W'
theorem Mid.trans {B T : Nat} {a b c : World} (h : Mid B T a b) (g : Mid B T b c) : Mid B T a c :=
  ⟨g.os.trans h.os, g.tape.trans h.tape, g.output.trans h.output, Nat.le_trans h.size g.size, fun k hk hb => (g.block k (Nat.lt_of_lt_of_le hk h.size) hb).trans (h.block k hk hb)⟩
theorem mid_gb {B T : Nat} {a b : World} (g : Gb a b) : Mid B T a b := ⟨g.os, g.tape, g.output, g.size, fun k hk _ => g.block k hk⟩
theorem MS.refl (P : TypeId → Prop) (B T : Nat) (W : World) : MS P B T W W := ⟨Mid.refl _ _ _, Shp.refl _ _⟩
theorem MS.trans {P : TypeId → Prop} {B T : Nat} {a b c : World} (h : MS P B T a b) (g : MS P B T b c) : MS P B T a c := ⟨h.mid.trans g.mid, h.shp.trans g.shp⟩
theorem MS.mono {P Q : TypeId → Prop} {B T : Nat} {a b : World} (h : MS P B T a b) (hp : ∀ t, P t → Q t) : MS Q B T a b := ⟨h.mid, h.shp.mono hp⟩
theorem ms_gb {P : TypeId → Prop} {B T : Nat} {a b : World} (g : Gb a b) : MS P B T a b := ⟨mid_gb g, Shp.gb g⟩
theorem MS.set {P : TypeId → Prop} {B T g : Nat} {W0 W : World} {cur : Array Value} {t : TypeId} {f : Nat × Nat} (m : MS P B T W0 W) (h1 : B ≤ g) (h2 : g < T) (h : W.heap[g]? = some (.cells cur t f)) (hp : P t) (o : Nat) (x : Value) (hx : t = 3 → ∃ y : Int, x = .int .i64 y) : MS P B T W0 (W.setCell ⟨g, o, none⟩ x) :=
  ⟨⟨m.mid.os, m.mid.tape, m.mid.output, by simpa [World.setCell] using m.mid.size, fun k hk hb => (Below.heap_setCell _ _ _ _ (by dsimp only; omega)).trans (m.mid.block k hk hb)⟩, m.shp.trans (Shp.set h hp o x hx)⟩
theorem MS.cell {P : TypeId → Prop} {B T b o : Nat} {W W' : World} {v : Value} (m : MS P B T W W') (hb : T ≤ b) (h : W.cell? ⟨b, o, none⟩ = some v) : W'.cell? ⟨b, o, none⟩ = some v :=
  (World.cell?_of_block (a := ⟨b, o, none⟩) (m.mid.block b (World.block_lt_of_cell? W _ h) (.inr hb))).trans h
/-- A list of cells, k a place, that may be written over. -/
def WL (W : World) (B T : Nat) (ty : TypeId) (k : Nat) (a : Option Addr) (n : Nat) : Prop := n = 0 ∨ ∃ g cur, a = some ⟨g, 0, none⟩ ∧ B ≤ g ∧ g < T ∧ W.heap[g]? = some (.cells cur ty (0, 0)) ∧ n * k ≤ cur.size
theorem WL.ms {P : TypeId → Prop} {W W' : World} {B T B' T' : Nat} {ty : TypeId} {k : Nat} {a : Option Addr} {n : Nat} (h : WL W B T ty k a n) (m : MS P B' T' W W') : WL W' B T ty k a n := by
  rcases h with h | ⟨g, cur, e, h1, h2, h3, h4⟩
  · exact .inl h
  · obtain ⟨c1, e1, s1, _⟩ := m.shp.size g cur ty (0, 0) h3
    exact .inr ⟨g, c1, e, h1, h2, e1, by omega⟩
/-- A list of numbers that may be written over. -/
def WI (W : World) (B T : Nat) (v : Value) : Prop := ∃ a n c, v = .slice a n c ∧ n ≤ 4611686018427387904 ∧ (n = 0 ∨ ∃ g cur, a = some ⟨g, 0, none⟩ ∧ B ≤ g ∧ g < T ∧ W.heap[g]? = some (.cells cur 3 (0, 0)) ∧ ∀ i, i < n → ∃ x : Int, cur[i]? = some (.int .i64 x))
theorem WI.ms {P : TypeId → Prop} {W W' : World} {B T B' T' : Nat} {v : Value} (h : WI W B T v) (m : MS P B' T' W W') : WI W' B T v := by
  obtain ⟨a, n, c, rfl, hn, h⟩ := h
  refine ⟨a, n, c, rfl, hn, ?_⟩
  rcases h with h | ⟨g, cur, e, h1, h2, h3, h4⟩
  · exact .inl h
  · obtain ⟨c1, e1, s1, i1⟩ := m.shp.size g cur 3 (0, 0) h3
    exact .inr ⟨g, c1, e, h1, h2, e1, fun i hi => by obtain ⟨x, hx⟩ := h4 i hi; exact i1 rfl i x hx⟩
theorem wi_own {W : World} {B T : Nat} {v : Value} {l : List Int} (h : Own W B v l) (hn : l.length ≤ 4611686018427387904) (hT : ∀ g, v.ownBlock = some g → g < T) : WI W B T v := by
  rcases h.2 with ⟨rfl, h0⟩ | ⟨g, cap, cur, rfl, hb, hh, hc, _, hs, ht⟩
  · exact ⟨none, 0, 0, rfl, Nat.zero_le _, .inl rfl⟩
  · refine ⟨_, _, _, rfl, hn, .inr ⟨g, cur, rfl, hb, hT g rfl, hh, fun i hi => ?_⟩⟩
    have h1 : (cur.toList.take (l.length * 1))[i]? = (l.map (Value.int .i64))[i]? := by rw [ht]
    rw [List.getElem?_take_of_lt (by omega), List.getElem?_map, List.getElem?_eq_getElem hi] at h1
    exact ⟨l[i], by simpa using h1⟩
/-- An answer that may be written over. -/
structure OwnA (W : World) (B T : Nat) (vh vs vr : Value) : Prop where
  top : T ≤ W.heap.size
  hits : ∃ a n c, vh = .slice a n c ∧ n ≤ 4611686018427387904 ∧ WL W B T 60 3 a n
  seen : WI W B T vs
  rest : ∃ a n c, vr = .slice a n c ∧ n ≤ 4611686018427387904 ∧ (n = 0 ∨ ∃ g cur, a = some ⟨g, 0, none⟩ ∧ B ≤ g ∧ g < T ∧ W.heap[g]? = some (.cells cur 78 (0, 0)) ∧
    ∀ i, i < n → ∃ (S : Int) (vl vu : Value) (h l : Int) (vi : Value), cur[i * 6]? = some (.int .i64 S) ∧ cur[i * 6 + 1]? = some vl ∧ cur[i * 6 + 2]? = some vu ∧ cur[i * 6 + 3]? = some (.int .u64 h) ∧ cur[i * 6 + 4]? = some (.int .u64 l) ∧ cur[i * 6 + 5]? = some vi ∧ WI W B T vl ∧ WI W B T vu ∧ WI W B T vi)
theorem OwnA.gb {W W' : World} {B T : Nat} {vh vs vr : Value} (h : OwnA W B T vh vs vr) (g : Gb W W') : OwnA W' B T vh vs vr := by
  have m : MS (fun _ => False) B T W W' := ms_gb g
  obtain ⟨a, n, c, e, hn, hl⟩ := h.hits
  obtain ⟨a', n', c', e', hn', hl'⟩ := h.rest
  refine ⟨Nat.le_trans h.top g.size, ⟨a, n, c, e, hn, hl.ms m⟩, h.seen.ms m, ⟨a', n', c', e', hn', ?_⟩⟩
  rcases hl' with h0 | ⟨x, cur, h1, h2, h3, h4, h5⟩
  · exact .inl h0
  · refine .inr ⟨x, cur, h1, h2, h3, (g.block x (Array.getElem?_eq_some_iff.1 h4).1).trans h4, fun i hi => ?_⟩
    obtain ⟨S, vl, vu, p, l, vi, d0, d1, d2, d3, d4, d5, w1, w2, w3⟩ := h5 i hi
    exact ⟨S, vl, vu, p, l, vi, d0, d1, d2, d3, d4, d5, w1.ms m, w2.ms m, w3.ms m⟩
theorem size_of_last {cur : Array Value} {o : Nat} {v : Value} (h : cur[o]? = some v) : o < cur.size := (Array.getElem?_eq_some_iff.1 h).1
theorem cell_of {W : World} {g o : Nat} {cur : Array Value} {t : TypeId} {v : Value} (h : W.heap[g]? = some (.cells cur t (0, 0))) (hc : cur[o]? = some v) : W.cell? ⟨g, o, none⟩ = some v := by simp [World.cell?, h, hc]
theorem froz_of {W : World} {g : Nat} {cur : Array Value} {t : TypeId} (h : W.heap[g]? = some (.cells cur t (0, 0))) (o : Nat) : W.frozen? ⟨g, o, none⟩ = false := by simp [World.frozen?, h]
theorem some_of {cur : Array Value} {o : Nat} (h : o < cur.size) : ∃ v, cur[o]? = some v := ⟨cur[o], Array.getElem?_eq_getElem h⟩
abbrev tHit : TypeId → Prop := fun t => t = 60
abbrev tInt : TypeId → Prop := fun t => t = 3
abbrev tHI : TypeId → Prop := fun t => t = 3 ∨ t = 60
abbrev tReg : TypeId → Prop := fun t => t = 3 ∨ t = 78 ∨ t = 60

end Go.Proofs.YtbnljabeccebiabGreat
