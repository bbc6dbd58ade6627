/- theodolitekeep.LendRows: rows in memory of the call's own, with a mark behind. -/
import Derived.Test.YtmlincnmhjkjgaaCyLend
import Derived.Test.YtmlincnmhjkjgaaCyIds
namespace Go.Proofs.Ytmlincnmhjkjgaa
open Go.RowKit Go.Sort Go.Maps

/-- Rows in memory, by the index: two cells each. -/
def RA (W : World) (g n : Nat) (f : Nat → Value × Value) : Prop :=
  ∃ cur : Array Value, W.heap[g]? = some (.cells cur 50 (0, 0)) ∧ cur.size = n * 2 ∧ ∀ i, i < n → cur[i * 2]? = some (f i).1 ∧ cur[i * 2 + 1]? = some (f i).2
theorem RA.lt {W : World} {g n : Nat} {f : Nat → Value × Value} (h : RA W g n f) : g < W.heap.size := by
  obtain ⟨cur, h1, _⟩ := h; exact (Array.getElem?_eq_some_iff.1 h1).1
theorem RA.cell {W : World} {g n : Nat} {f : Nat → Value × Value} (h : RA W g n f) {i : Nat} (hi : i < n) : W.cell? ⟨g, i * 2, none⟩ = some (f i).1 ∧ W.cell? ⟨g, i * 2 + 1, none⟩ = some (f i).2 := by
  obtain ⟨cur, h1, _, h4⟩ := h
  obtain ⟨a, b⟩ := h4 i hi
  simp [World.cell?, h1, a, b]
theorem RA.frozen {W : World} {g n : Nat} {f : Nat → Value × Value} (h : RA W g n f) (o : Nat) : W.frozen? ⟨g, o, none⟩ = false := by
  obtain ⟨cur, h1, _⟩ := h
  simp [World.frozen?, h1]
theorem RA.block {W W' : World} {g n : Nat} {f : Nat → Value × Value} (h : RA W g n f) (e : W'.heap[g]? = W.heap[g]?) : RA W' g n f := by
  obtain ⟨cur, h1, h2⟩ := h
  exact ⟨cur, e.trans h1, h2⟩
theorem RA.set {W : World} {g n : Nat} {f : Nat → Value × Value} (h : RA W g n f) {i : Nat} (hi : i < n) (x y : Value) :
    RA ((W.setCell ⟨g, i * 2, none⟩ x).setCell ⟨g, i * 2 + 1, none⟩ y) g n (fun t => if t = i then (x, y) else f t) := by
  obtain ⟨cur, h1, h2, h5⟩ := h
  refine ⟨(cur.setIfInBounds (i * 2) x).setIfInBounds (i * 2 + 1) y, ?_, by simpa using h2, fun t ht => ?_⟩
  · simp [World.setCell, Array.getElem?_modify, h1]
  · by_cases e : t = i
    · subst e
      simp only [if_true]
      refine ⟨?_, ?_⟩
      · rw [Array.getElem?_setIfInBounds_ne (by omega), Array.getElem?_setIfInBounds_self_of_lt (by omega)]
      · rw [Array.getElem?_setIfInBounds_self_of_lt (by simp; omega)]
    · simp only [if_neg e]
      obtain ⟨a, b⟩ := h5 t ht
      refine ⟨?_, ?_⟩
      · rw [Array.getElem?_setIfInBounds_ne (by omega), Array.getElem?_setIfInBounds_ne (by omega)]; exact a
      · rw [Array.getElem?_setIfInBounds_ne (by omega), Array.getElem?_setIfInBounds_ne (by omega)]; exact b
theorem ra_made (w : World) (n : Nat) : RA (w.alloc (.cells (madeCells #[.int .i64 0, .slice none 0 0] (n * 2)) 50)) w.heap.size n (fun _ => (.int .i64 0, .slice none 0 0)) := by
  refine ⟨_, heap_alloc_new _ _, size_madeCells _ _, fun i hi => ⟨?_, ?_⟩⟩
  · simp [madeCells, show i * 2 < n * 2 by omega]
  · simp [madeCells, show i * 2 + 1 < n * 2 by omega, show (i * 2 + 1) % 2 = 1 by omega]
theorem Try.infoR : (Try.prog.info? 50).map (fun i => (i.zero, i.size, i.bytes)) = some (some (.agg #[.int .i64 0, .slice none 0 0]), 2, 32) := by kernel_rfl
theorem run_make_two (n : Nat) (hn : n ≤ 1048577) (w : World) : (Instr.makeSlice 29 (.int .i64 (n : Int)) (.int .i64 (n : Int))).run Try.prog w = .ok (.slice (some ⟨w.heap.size, 0, none⟩) n n) (w.alloc (.cells (madeCells #[.int .i64 0, .slice none 0 0] (n * 2)) 50)) := by
  obtain ⟨i, hi, hzz⟩ := Option.map_eq_some_iff.1 Try.infoR
  simp only [Prod.mk.injEq] at hzz
  obtain ⟨hz, hs, hb⟩ := hzz
  have hr := run_make (P := Try.prog) w 29 50 i _ Try.underlying29 hi hz .i64 .i64 n n (by omega) (Int.le_refl _) (by rw [hb]; omega) (by omega)
  simp only [Int.toNat_natCast, hs] at hr
  exact hr

/-- What is laid of rows that are lent: block G, n places, p of them done. -/
structure Lr (w W : World) (G n : Nat) (rs : List Rw) (p : Nat) (z : Prop) (f : Nat → Value × Value) : Prop where
  gb : Gb w W
  hG : w.heap.size ≤ G
  arr : RA W G n f
  lent : ∃ gs : Nat → Nat, ∀ i, i < p → f i = (.int .i64 rs[i]!.1, .slice (some ⟨gs i, 0, none⟩) rs[i]!.2.length (rs[i]!.2.length + 1)) ∧ Lent W (G + 1) (gs i) rs[i]!.2 ∧ ∀ j, j < i → gs j ≠ gs i
  end' : z
theorem Lr.gr {w W W' : World} {G n p : Nat} {rs : List Rw} {z : Prop} {f : Nat → Value × Value} (h : Lr w W G n rs p z f) (g : Gb W W') : Lr w W' G n rs p z f := by
  obtain ⟨gs, hl⟩ := h.lent
  exact ⟨gb_trans h.gb g, h.hG, h.arr.block (g.block _ h.arr.lt), ⟨gs, fun i hi => ⟨(hl i hi).1, (hl i hi).2.1.gb g, (hl i hi).2.2⟩⟩, h.end'⟩
theorem two_far {g b : Nat} {W : World} (hn : b ≠ g) (o1 o2 : Nat) (x y : Value) : ((W.setCell ⟨g, o1, none⟩ x).setCell ⟨g, o2, none⟩ y).heap[b]? = W.heap[b]? :=
  (Below.heap_setCell _ _ _ _ (by dsimp only; exact hn)).trans (Below.heap_setCell _ _ _ _ (by dsimp only; exact hn))
theorem two_gb {g : Nat} {w W : World} (h : Gb w W) (hg : w.heap.size ≤ g) (o1 o2 : Nat) (x y : Value) : Gb w ((W.setCell ⟨g, o1, none⟩ x).setCell ⟨g, o2, none⟩ y) :=
  gb_set (gb_set h (by dsimp only; exact hg) _) (by dsimp only; exact hg) _
theorem Lent.block {W W' : World} {B g : Nat} {l : List Int} (h : Lent W B g l) (e : W'.heap[g]? = W.heap[g]?) : Lent W' B g l := ⟨h.1, e.trans h.2⟩
theorem Lent.lt {W : World} {B g : Nat} {l : List Int} (h : Lent W B g l) : g < W.heap.size := (Array.getElem?_eq_some_iff.1 h.2).1
/-- One more row. -/
theorem Lr.step {w W W2 : World} {G n p g : Nat} {rs : List Rw} {f : Nat → Value × Value} (h : Lr w W G n rs p True f) (hp : p < n) (g2 : Gb W W2) (L : Lent W2 W.heap.size g rs[p]!.2) :
    ∃ f', Lr w ((W2.setCell ⟨G, p * 2, none⟩ (.int .i64 rs[p]!.1)).setCell ⟨G, p * 2 + 1, none⟩ (.slice (some ⟨g, 0, none⟩) rs[p]!.2.length (rs[p]!.2.length + 1))) G n rs (p + 1) True f' := by
  have hGW := h.arr.lt
  have h2 := h.gr g2
  obtain ⟨gs, hl⟩ := h2.lent
  obtain ⟨gs0, hl0⟩ := h.lent
  have hgs : ∀ i, i < p → gs i < W.heap.size := fun i hi => by
    have e := (hl i hi).1.symm.trans (hl0 i hi).1
    simp at e
    rw [e]
    exact (hl0 i hi).2.1.lt
  have hg := L.1
  refine ⟨_, two_gb h2.gb h2.hG _ _ _ _, h.hG, h2.arr.set hp _ _, ⟨fun i => if i = p then g else gs i, fun i hi => ?_⟩, trivial⟩
  by_cases e : i = p
  · subst e
    simp only [if_true]
    refine ⟨trivial, ⟨by omega, (two_far (by omega) _ _ _ _).trans L.2⟩, fun j hj => ?_⟩
    rw [if_neg (by omega)]
    have := hgs j hj
    omega
  · simp only [if_neg e]
    obtain ⟨a, b, c⟩ := hl i (by omega)
    refine ⟨a, b.block (two_far (by have := b.1; omega) _ _ _ _), fun j hj => ?_⟩
    rw [if_neg (by omega)]
    exact c j hj
/-- Rows that were lent. -/
def LentR (w W : World) (G : Nat) (rs : List Rw) : Prop := ∃ f, Lr w W G (rs.length + 1) rs rs.length (f rs.length = (.int .i64 (-77), .slice none 0 0)) f
theorem Lr.mark {w W : World} {G n : Nat} {rs : List Rw} {f : Nat → Value × Value} (h : Lr w W G (n + 1) rs n True f) (hn : n = rs.length) :
    LentR w ((W.setCell ⟨G, n * 2, none⟩ (.int .i64 (-77))).setCell ⟨G, n * 2 + 1, none⟩ (.slice none 0 0)) G rs := by
  subst hn
  obtain ⟨gs, hl⟩ := h.lent
  refine ⟨_, two_gb h.gb h.hG _ _ _ _, h.hG, h.arr.set (Nat.lt_succ_self _) _ _, ⟨gs, fun i hi => ?_⟩, by simp⟩
  obtain ⟨a, b, c⟩ := hl i hi
  exact ⟨by rw [if_neg (by omega)]; exact a, b.block (two_far (by have := b.1; omega) _ _ _ _), c⟩
theorem LentR.gr {w W W' : World} {G : Nat} {rs : List Rw} (h : LentR w W G rs) (g : Gb W W') : LentR w W' G rs := by
  obtain ⟨f, h⟩ := h
  exact ⟨f, h.gr g⟩
theorem LentR.rd {w W : World} {G : Nat} {rs : List Rw} (h : LentR w W G rs) : RdW W (.slice (some ⟨G, 0, none⟩) rs.length (rs.length + 1)) rs := by
  obtain ⟨f, h⟩ := h
  obtain ⟨gs, hl⟩ := h.lent
  refine ⟨_, _, rfl, fun i hi => ?_⟩
  obtain ⟨a, b, _⟩ := hl i hi
  have hc := h.arr.cell (i := i) (by omega)
  rw [a] at hc
  exact ⟨G, 0, _, rfl, by rw [Nat.zero_add]; exact hc.1, by rw [Nat.zero_add]; exact hc.2, b.rd⟩
/-- What the region holds while it draws. -/
structure Rs (w W : World) (a b : Addr) (u v : Value) : Prop where
  gb : Gb w W
  ca : W.cell? a = some u
  cb : W.cell? b = some v
  la : a.block < w.heap.size
  lb : b.block < w.heap.size
theorem Rs.gr {w W W' : World} {a b : Addr} {u v : Value} (h : Rs w W a b u v) (g : Gb W W') : Rs w W' a b u v := ⟨gb_trans h.gb g, gb_keeps g h.ca, gb_keeps g h.cb, h.la, h.lb⟩
theorem Rs.set {w W : World} {a b : Addr} {u v : Value} {B : Nat} (h : Rs w W a b u v) (hB : w.heap.size ≤ B) (o1 o2 : Nat) (x y : Value) : Rs w ((W.setCell ⟨B, o1, none⟩ x).setCell ⟨B, o2, none⟩ y) a b u v := by
  have ha := h.la
  have hb := h.lb
  exact ⟨two_gb h.gb hB _ _ _ _, (World.cell?_of_block (two_far (by omega) _ _ _ _)).trans h.ca, (World.cell?_of_block (two_far (by omega) _ _ _ _)).trans h.cb, h.la, h.lb⟩
end Go.Proofs.Ytmlincnmhjkjgaa
