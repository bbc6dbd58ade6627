/- theodolitekeep.BackRows: rows that were lent are as they were. -/
import Derived.Test.YtgcinompidmliaaRCx32
namespace Go.Proofs.YtgcinompidmliaaR
open Go.RowKit Go.Sort Go.Maps

/-- Nothing has turned but in the blocks from B on below T. -/
structure Mid (B T : Nat) (w W : World) : Prop where
  os : W.os = w.os
  tape : W.tape = w.tape
  output : W.output = w.output
  size : w.heap.size ≤ W.heap.size
  block : ∀ k, k < w.heap.size → (k < B ∨ T ≤ k) → W.heap[k]? = w.heap[k]?
theorem Mid.refl (B T : Nat) (w : World) : Mid B T w w := ⟨rfl, rfl, rfl, Nat.le_refl _, fun _ _ _ => rfl⟩
theorem Mid.gb {B T : Nat} {w0 w W : World} (h : Mid B T w W) (g : Gb w0 w) (hB : w0.heap.size ≤ B) : Gb w0 W := by
  have hs := g.size
  exact ⟨h.os.trans g.os, h.tape.trans g.tape, h.output.trans g.output, Nat.le_trans g.size h.size, fun k hk => (h.block k (by omega) (.inl (by omega))).trans (g.block k hk)⟩
theorem Mid.drew {B T : Nat} {w W : World} (h : Mid B T w W) : Mid B T w W.drew := ⟨h.os, h.tape, h.output, h.size, h.block⟩
theorem Mid.grown {B T g : Nat} {w W W' : World} (h : Mid B T w W) (k : W.grownBy W' (some g)) (h1 : B ≤ g) (h2 : g < T) : Mid B T w W' :=
  ⟨k.os.trans h.os, k.tape.trans h.tape, k.output.trans h.output, Nat.le_trans h.size k.size, fun j hj hb => (k.block j (Nat.lt_of_lt_of_le hj h.size) (by simp; omega)).trans (h.block j hj hb)⟩
theorem Mid.set {B T g : Nat} {w W : World} (h : Mid B T w W) (h1 : B ≤ g) (h2 : g < T) (o1 o2 : Nat) (x y : Value) : Mid B T w ((W.setCell ⟨g, o1, none⟩ x).setCell ⟨g, o2, none⟩ y) :=
  ⟨h.os, h.tape, h.output, by simpa [World.setCell] using h.size, fun j hj hb => (two_far (by omega) _ _ _ _).trans (h.block j hj hb)⟩
/-- Rows that were lent, in blocks from B on below T. -/
structure LT (B T : Nat) (W : World) (G : Nat) (rs : List Rw) (f : Nat → Value × Value) (gs : Nat → Nat) : Prop where
  lo : B ≤ G
  hi : G < T
  arr : RA W G (rs.length + 1) f
  mark : f rs.length = (.int .i64 (-77), .slice none 0 0)
  row : ∀ i, i < rs.length → f i = (.int .i64 rs[i]!.1, .slice (some ⟨gs i, 0, none⟩) rs[i]!.2.length (rs[i]!.2.length + 1)) ∧ Lent W (G + 1) (gs i) rs[i]!.2 ∧ gs i < T ∧ ∀ j, j < i → gs j ≠ gs i
theorem LentR.lt {w W : World} {G : Nat} {rs : List Rw} (h : LentR w W G rs) : ∃ f gs, LT w.heap.size W.heap.size W G rs f gs := by
  obtain ⟨f, h⟩ := h
  obtain ⟨gs, hl⟩ := h.lent
  exact ⟨f, gs, h.hG, h.arr.lt, h.arr, h.end', fun i hi => ⟨(hl i hi).1, (hl i hi).2.1, (hl i hi).2.1.lt, (hl i hi).2.2⟩⟩
theorem LT.keep {B T G : Nat} {W W' : World} {rs : List Rw} {f : Nat → Value × Value} {gs : Nat → Nat} (h : LT B T W G rs f gs) (e : ∀ k, B ≤ k → k < T → W'.heap[k]? = W.heap[k]?) : LT B T W' G rs f gs :=
  ⟨h.lo, h.hi, h.arr.block (e _ h.lo h.hi), h.mark, fun i hi => by
    obtain ⟨a, b, c, d⟩ := h.row i hi
    exact ⟨a, b.block (e _ (by have := b.1; have := h.lo; omega) c), c, d⟩⟩
/-- p rows are back. -/
structure Bk (B T : Nat) (w W : World) (G : Nat) (rs : List Rw) (f : Nat → Value × Value) (gs : Nat → Nat) (p : Nat) : Prop where
  mid : Mid B T w W
  arr : ∃ f', RA W G (rs.length + 1) f' ∧ ∀ i, p ≤ i → f' i = f i
  lent : ∀ i, p ≤ i → i < rs.length → Lent W (G + 1) (gs i) rs[i]!.2
theorem LT.bk {B T G : Nat} {W : World} {rs : List Rw} {f : Nat → Value × Value} {gs : Nat → Nat} (h : LT B T W G rs f gs) : Bk B T W W G rs f gs 0 :=
  ⟨Mid.refl _ _ _, ⟨f, h.arr, fun _ _ => rfl⟩, fun i _ hi => (h.row i hi).2.1⟩
theorem Bk.drew {B T G p : Nat} {w W : World} {rs : List Rw} {f : Nat → Value × Value} {gs : Nat → Nat} (h : Bk B T w W G rs f gs p) : Bk B T w W.drew G rs f gs p :=
  ⟨h.mid.drew, h.arr, h.lent⟩
/-- One more row is back. -/
theorem Bk.step {B T G p : Nat} {w W W2 : World} {rs : List Rw} {f : Nat → Value × Value} {gs : Nat → Nat} (h : Bk B T w W G rs f gs p) (L : LT B T w G rs f gs) (hp : p < rs.length) (k : W.grownBy W2 (some (gs p))) (x y : Value) :
    Bk B T w ((W2.setCell ⟨G, p * 2, none⟩ x).setCell ⟨G, p * 2 + 1, none⟩ y) G rs f gs (p + 1) := by
  obtain ⟨_, b, c, _⟩ := L.row p hp
  have hb := b.1
  have hlo := L.lo
  obtain ⟨f', h1, h2⟩ := h.arr
  refine ⟨(h.mid.grown k (by omega) c).set L.lo L.hi _ _ _ _, ⟨_, (h1.block (k.block G h1.lt (by simp; omega))).set (i := p) (by omega) x y, fun i hi => ?_⟩, fun i hi hl => ?_⟩
  · rw [if_neg (by omega)]; exact h2 i (by omega)
  · have h3 := h.lent i (by omega) hl
    have hne := (L.row i hl).2.2.2 p (by omega)
    exact h3.block ((two_far (by have := h3.1; omega) _ _ _ _).trans (k.block _ h3.lt (by simp; omega)))
/-- What the region holds while it draws: four cells. -/
structure Qs (W : World) (a b c d : Addr) (u v x y : Value) : Prop where
  ca : W.cell? a = some u
  cb : W.cell? b = some v
  cc : W.cell? c = some x
  cd : W.cell? d = some y
theorem Qs.grown {W W' : World} {a b c d : Addr} {u v x y : Value} {g : Nat} (h : Qs W a b c d u v x y) (k : W.grownBy W' (some g)) (ha : a.block ≠ g) (hb : b.block ≠ g) (hc : c.block ≠ g) (hd : d.block ≠ g) : Qs W' a b c d u v x y := by
  have far : ∀ {p : Addr} {q : Value}, p.block ≠ g → W.cell? p = some q → W'.cell? p = some q := fun {p q} hp hq =>
    (World.cell?_of_block (k.block _ (World.block_lt_of_cell? W _ hq) (by simp; omega))).trans hq
  exact ⟨far ha h.ca, far hb h.cb, far hc h.cc, far hd h.cd⟩
end Go.Proofs.YtgcinompidmliaaR
