import Derived.Test.YteaeaoekaoedoaaGreatM44
import Derived.Test.YteaeaoekaoedoaaGreatFar
import Derived.Deep.OwnRows
import Derived.Laws.CopyOwn
import Derived.Laws.OwnMore
import Derived.Test.YteaeaoekaoedoaaGreatIds
/- theodolitekeep.Lend and Back; theodoliteref03.Dist. -/
namespace Go.Proofs.YteaeaoekaoedoaaGreat
open Go.RowKit Go.Sort Go.Maps

/-- Numbers that were lent: block g, with the mark behind them. -/
def Lent (W : World) (B g : Nat) (l : List Int) : Prop := B ≤ g ∧ W.heap[g]? = some (.cells (l.map (Value.int .i64) ++ [Value.int .i64 (-77)]).toArray 3 (0, 0))
theorem Lent.gb {W W' : World} {B g : Nat} {l : List Int} (h : Lent W B g l) (k : Gb W W') : Lent W' B g l :=
  ⟨h.1, by rw [k.block g (Array.getElem?_eq_some_iff.1 h.2).1]; exact h.2⟩
theorem Lent.far {W W' : World} {B g g' : Nat} {l : List Int} (h : Lent W B g l) (k : W.grownBy W' (some g')) (hne : g ≠ g') : Lent W' B g l :=
  ⟨h.1, by rw [k.block g (Array.getElem?_eq_some_iff.1 h.2).1 (by simpa using hne)]; exact h.2⟩
theorem Lent.rd {W : World} {B g : Nat} {l : List Int} (h : Lent W B g l) : RdI W (.slice (some ⟨g, 0, none⟩) l.length (l.length + 1)) l := by
  refine ⟨_, _, rfl, fun i hi => ⟨g, 0, rfl, ?_⟩⟩
  simp only [World.cell?, h.2, Nat.zero_add]
  simp only [Option.isSome_none, Bool.false_eq_true, if_false, List.getElem?_toArray]
  rw [List.getElem?_append_left (by simpa using hi)]
  simp [hi]
theorem Lent.mark {W : World} {B g : Nat} {l : List Int} (h : Lent W B g l) : W.cell? ⟨g, l.length, none⟩ = some (.int .i64 (-77)) := by
  simp only [World.cell?, h.2]
  simp
theorem Lent.own {W : World} {B g : Nat} {l : List Int} (h : Lent W B g l) (hl : l.length ≤ 65536) : Own W B (.slice (some ⟨g, 0, none⟩) (l.length + 1) (l.length + 1)) (tab (fun i => if i < l.length then l[i]! else -77) (l.length + 1)) := by
  unfold Own
  rw [tab_len]
  refine ⟨by simp [tab], .inr ⟨g, _, _, rfl, h.1, h.2, Nat.le_refl _, by simp only [maxLen]; omega, by simp, ?_⟩⟩
  apply List.ext_getElem?
  intro t
  by_cases ht : t < l.length + 1
  · rw [Nat.mul_one, List.getElem?_take_of_lt ht]
    by_cases h2 : t < l.length
    · simp [tab, ht, h2]
    · have e : t = l.length := by omega
      subst e
      simp [tab]
  · rw [List.getElem?_eq_none (by simp; omega), List.getElem?_eq_none (by simp [tab]; omega)]

set_option maxHeartbeats 2000000 in
set_option maxRecDepth 100000 in
theorem lend_c {w : World} {u : Value} {l : List Int} (hu : RdI w u l) (hn : l.length ≤ 65536) :
    Calls Tryz.prog 9 #[u] w fun e w' => ∃ g, e = .returned (.slice (some ⟨g, 0, none⟩) l.length (l.length + 1)) ∧ Lent w' w.heap.size g l ∧ Gb w w' := by
  obtain ⟨a, cap, rfl, ha⟩ := hu
  obtain ⟨n, hN⟩ : ∃ n, n = l.length := ⟨_, rfl⟩
  have N : Hid (n = l.length) := hN
  obtain ⟨m, hM⟩ : ∃ m, m = n + 1 := ⟨_, rfl⟩
  have M : Hid (m = n + 1) := hM
  have hm : (n : Int) + 1 = (m : Int) := by omega
  have hnm : (n : Int) < (m : Int) := by omega
  have hnm2 : n ≤ m := by omega
  have hmb : m ≤ 65537 := by omega
  have hmk := run_make_row' (P := Tryz.prog) 23 3 (.int .i64 0) 8 Tryz.underlying23 Tryz.info3 rfl .i64 .i64 m (by omega) (by omega) w
  have hsz : (Tryz.prog.info? 3).map (·.size) = some 1 := by kernel_rfl
  have HR : Hid (∀ V : World, V.heap[w.heap.size]? = some (.cells (l.map (Value.int .i64) ++ [Value.int .i64 0]).toArray 3 (0, 0)) → Gb w V → V.cell? ⟨w.heap.size, n, none⟩ = some (.int .i64 0) ∧ V.frozen? ⟨w.heap.size, n, none⟩ = false ∧ Lent (V.setCell ⟨w.heap.size, n, none⟩ (.int .i64 (-77))) w.heap.size w.heap.size l ∧ Gb w (V.setCell ⟨w.heap.size, n, none⟩ (.int .i64 (-77)))) := by
    intro V hV hg
    refine ⟨?_, by simp [World.frozen?, hV], ⟨Nat.le_refl _, ?_⟩, gb_set hg (Nat.le_refl _) _⟩
    · rw [hN]; simp only [World.cell?, hV]; simp
    · rw [hN]
      simp only [World.setCell, Array.getElem?_modify, hV]
      simp
  have hmc : madeCells #[Value.int .i64 0] (0 + 1) = #[Value.int .i64 0] := by apply Array.ext'; rw [toList_madeCells_one]; rfl
  have G0 : Gb w (w.alloc (.cells (madeCells #[Value.int .i64 0] m) 3)) := gb_alloc (Below.refl _ _) _
  by_cases h0 : l.length = 0
  · have hl : l = [] := List.eq_nil_of_length_eq_zero h0
    have hnz : n = 0 := by omega
    have hVV := HR.out (w.alloc (.cells (madeCells #[Value.int .i64 0] m) 3)) (by rw [heap_alloc_new, hl, hM, hnz, hmc]; rfl) G0
    obtain ⟨c0, f0, L0, G1⟩ := hVV
    have F : Hid (Lent ((w.alloc (.cells (madeCells #[Value.int .i64 0] m) 3)).setCell ⟨w.heap.size, n, none⟩ (.int .i64 (-77))) w.heap.size w.heap.size l ∧ Gb w ((w.alloc (.cells (madeCells #[Value.int .i64 0] m) 3)).setCell ⟨w.heap.size, n, none⟩ (.int .i64 (-77)))) := ⟨L0, G1⟩
    rw [← hN, ← hM]
    have hmin : Nat.min n m = 0 := by rw [hnz]; exact Nat.zero_min _
    have hcp := run_copy_none (P := Tryz.prog) (w.alloc (.cells (madeCells #[Value.int .i64 0] m) 3)) 23 23 3 3 (some ⟨w.heap.size, 0, none⟩) a m m n cap Tryz.underlying23 hsz hmin
    clear HR L0 G1 G0 ha hN hM hn h0 hl hnz hmc hmin hsz
    generalize w.alloc (.cells (madeCells #[Value.int .i64 0] m) 3) = V at *
    go_enter Tryz.func9, Tryz.ntmps9
    go_wp2
    go_ret
    exact ⟨w.heap.size, rfl, F.out.1, F.out.2⟩
  · obtain ⟨b, o, ea, _⟩ := ha 0 (by omega)
    subst ea
    have hcs : (l.map (Value.int .i64)).length = Nat.min n m := by rw [List.length_map, ← hN]; exact (Nat.min_eq_left hnm2).symm
    have hsrc : ∀ j v, (l.map (Value.int .i64))[j]? = some v → (w.alloc (.cells (madeCells #[Value.int .i64 0] m) 3)).cell? ((⟨b, o, none⟩ : Addr).add j) = some v := by
      intro j v hj
      rw [List.getElem?_map] at hj
      obtain ⟨y, hy, rfl⟩ := Option.map_eq_some_iff.1 hj
      obtain ⟨hjl, hy⟩ := List.getElem?_eq_some_iff.1 hy
      obtain ⟨b', o', e, hc⟩ := ha j hjl
      cases e
      rw [Addr.add_lit]
      have := gb_keeps G0 hc
      rw [this, getElem!_pos l j hjl, hy]
    have hblk : (w.alloc (.cells (madeCells #[Value.int .i64 0] m) 3)).heap[w.heap.size]? = some (.cells (madeCells #[Value.int .i64 0] m) 3 (0, 0)) := heap_alloc_new _ _
    have hVV := HR.out ((w.alloc (.cells (madeCells #[Value.int .i64 0] m) 3)).setRow w.heap.size ((madeCells #[Value.int .i64 0] m).toList.take 0 ++ l.map (Value.int .i64) ++ (madeCells #[Value.int .i64 0] m).toList.drop (0 + (l.map (Value.int .i64)).length)).toArray) (by
      rw [setRow_heap _ _ _ _ _ _ hblk]
      congr 2
      rw [toList_madeCells_one, List.length_map, Nat.zero_add, ← hN, hM]
      simp) (below_setRow G0 (Nat.le_refl _) _)
    obtain ⟨c0, f0, L0, G1⟩ := hVV
    have hcp := run_copy_row (P := Tryz.prog) (w.alloc (.cells (madeCells #[Value.int .i64 0] m) 3)) 23 23 3 3 w.heap.size 0 m m ⟨b, o, none⟩ n cap _ 3 (l.map (Value.int .i64)) Tryz.underlying23 hsz hblk hcs hsrc (by rw [size_madeCells, List.length_map]; omega) (ints_oneCell .i64 l)
    generalize hV : (w.alloc (.cells (madeCells #[Value.int .i64 0] m) 3)).setRow w.heap.size ((madeCells #[Value.int .i64 0] m).toList.take 0 ++ l.map (Value.int .i64) ++ (madeCells #[Value.int .i64 0] m).toList.drop (0 + (l.map (Value.int .i64)).length)).toArray = V at *
    rw [List.length_map, ← hN] at hcp
    have F : Hid (Lent (V.setCell ⟨w.heap.size, n, none⟩ (.int .i64 (-77))) w.heap.size w.heap.size l ∧ Gb w (V.setCell ⟨w.heap.size, n, none⟩ (.int .i64 (-77)))) := ⟨L0, G1⟩
    rw [← hN, ← hM]
    clear HR L0 G1 G0 ha hN hM hn h0 hcs hsrc hblk hmc hV hsz
    go_enter Tryz.func9, Tryz.ntmps9
    go_wp2
    go_ret
    exact ⟨w.heap.size, rfl, F.out.1, F.out.2⟩
end Go.Proofs.YteaeaoekaoedoaaGreat

/- theodolitekeep.LendRows: rows in memory of the call's own, with a mark behind. -/
namespace Go.Proofs.YteaeaoekaoedoaaGreat
open Go.RowKit Go.Sort Go.Maps

/-- Rows in memory, by the index: two cells each. -/
def RA (W : World) (g n : Nat) (f : Nat → Value × Value) : Prop :=
  ∃ cur : Array Value, W.heap[g]? = some (.cells cur 55 (0, 0)) ∧ cur.size = n * 2 ∧ ∀ i, i < n → cur[i * 2]? = some (f i).1 ∧ cur[i * 2 + 1]? = some (f i).2
theorem RA.lt {W : World} {g n : Nat} {f : Nat → Value × Value} (h : RA W g n f) : g < W.heap.size := by
  obtain ⟨cur, h1, _⟩ := h; exact (Array.getElem?_eq_some_iff.1 h1).1
theorem RA.cell {W : World} {g n : Nat} {f : Nat → Value × Value} (h : RA W g n f) {i : Nat} (hi : i < n) : W.cell? ⟨g, i * 2, none⟩ = some (f i).1 ∧ W.cell? ⟨g, i * 2 + 1, none⟩ = some (f i).2 := by
  obtain ⟨cur, h1, _, h4⟩ := h
  obtain ⟨a, b⟩ := h4 i hi
  simp [World.cell?, h1, a, b]
theorem RA.frozen {W : World} {g n : Nat} {f : Nat → Value × Value} (h : RA W g n f) (o : Nat) : W.frozen? ⟨g, o, none⟩ = false := by
  obtain ⟨cur, h1, _⟩ := h
  simp [World.frozen?, h1]
theorem RA.block {W W' : World} {g n : Nat} {f : Nat → Value × Value} (h : RA W g n f) (e : W'.heap[g]? = W.heap[g]?) : RA W' g n f := by
  obtain ⟨cur, h1, h2⟩ := h
  exact ⟨cur, e.trans h1, h2⟩
theorem RA.set {W : World} {g n : Nat} {f : Nat → Value × Value} (h : RA W g n f) {i : Nat} (hi : i < n) (x y : Value) :
    RA ((W.setCell ⟨g, i * 2, none⟩ x).setCell ⟨g, i * 2 + 1, none⟩ y) g n (fun t => if t = i then (x, y) else f t) := by
  obtain ⟨cur, h1, h2, h5⟩ := h
  refine ⟨(cur.setIfInBounds (i * 2) x).setIfInBounds (i * 2 + 1) y, ?_, by simpa using h2, fun t ht => ?_⟩
  · simp [World.setCell, Array.getElem?_modify, h1]
  · by_cases e : t = i
    · subst e
      simp only [if_true]
      refine ⟨?_, ?_⟩
      · rw [Array.getElem?_setIfInBounds_ne (by omega), Array.getElem?_setIfInBounds_self_of_lt (by omega)]
      · rw [Array.getElem?_setIfInBounds_self_of_lt (by simp; omega)]
    · simp only [if_neg e]
      obtain ⟨a, b⟩ := h5 t ht
      refine ⟨?_, ?_⟩
      · rw [Array.getElem?_setIfInBounds_ne (by omega), Array.getElem?_setIfInBounds_ne (by omega)]; exact a
      · rw [Array.getElem?_setIfInBounds_ne (by omega), Array.getElem?_setIfInBounds_ne (by omega)]; exact b
theorem ra_made (w : World) (n : Nat) : RA (w.alloc (.cells (madeCells #[.int .i64 0, .slice none 0 0] (n * 2)) 55)) w.heap.size n (fun _ => (.int .i64 0, .slice none 0 0)) := by
  refine ⟨_, heap_alloc_new _ _, size_madeCells _ _, fun i hi => ⟨?_, ?_⟩⟩
  · simp [madeCells, show i * 2 < n * 2 by omega]
  · simp [madeCells, show i * 2 + 1 < n * 2 by omega, show (i * 2 + 1) % 2 = 1 by omega]
theorem Tryz.infoR : (Tryz.prog.info? 55).map (fun i => (i.zero, i.size, i.bytes)) = some (some (.agg #[.int .i64 0, .slice none 0 0]), 2, 32) := by kernel_rfl
theorem run_make_two (n : Nat) (hn : n ≤ 65537) (w : World) : (Instr.makeSlice 22 (.int .i64 (n : Int)) (.int .i64 (n : Int))).run Tryz.prog w = .ok (.slice (some ⟨w.heap.size, 0, none⟩) n n) (w.alloc (.cells (madeCells #[.int .i64 0, .slice none 0 0] (n * 2)) 55)) := by
  obtain ⟨i, hi, hzz⟩ := Option.map_eq_some_iff.1 Tryz.infoR
  simp only [Prod.mk.injEq] at hzz
  obtain ⟨hz, hs, hb⟩ := hzz
  have hr := run_make (P := Tryz.prog) w 22 55 i _ Tryz.underlying22 hi hz .i64 .i64 n n (by omega) (Int.le_refl _) (by rw [hb]; omega) (by omega)
  simp only [Int.toNat_natCast, hs] at hr
  exact hr

/-- What is laid of rows that are lent: block G, n places, p of them done. -/
structure Lr (w W : World) (G n : Nat) (rs : List Rw) (p : Nat) (z : Prop) (f : Nat → Value × Value) : Prop where
  gb : Gb w W
  hG : w.heap.size ≤ G
  arr : RA W G n f
  lent : ∃ gs : Nat → Nat, ∀ i, i < p → f i = (.int .i64 rs[i]!.1, .slice (some ⟨gs i, 0, none⟩) rs[i]!.2.length (rs[i]!.2.length + 1)) ∧ Lent W (G + 1) (gs i) rs[i]!.2 ∧ ∀ j, j < i → gs j ≠ gs i
  end' : z
theorem Lr.gr {w W W' : World} {G n p : Nat} {rs : List Rw} {z : Prop} {f : Nat → Value × Value} (h : Lr w W G n rs p z f) (g : Gb W W') : Lr w W' G n rs p z f := by
  obtain ⟨gs, hl⟩ := h.lent
  exact ⟨gb_trans h.gb g, h.hG, h.arr.block (g.block _ h.arr.lt), ⟨gs, fun i hi => ⟨(hl i hi).1, (hl i hi).2.1.gb g, (hl i hi).2.2⟩⟩, h.end'⟩
theorem two_far {g b : Nat} {W : World} (hn : b ≠ g) (o1 o2 : Nat) (x y : Value) : ((W.setCell ⟨g, o1, none⟩ x).setCell ⟨g, o2, none⟩ y).heap[b]? = W.heap[b]? :=
  (Below.heap_setCell _ _ _ _ (by dsimp only; exact hn)).trans (Below.heap_setCell _ _ _ _ (by dsimp only; exact hn))
theorem two_gb {g : Nat} {w W : World} (h : Gb w W) (hg : w.heap.size ≤ g) (o1 o2 : Nat) (x y : Value) : Gb w ((W.setCell ⟨g, o1, none⟩ x).setCell ⟨g, o2, none⟩ y) :=
  gb_set (gb_set h (by dsimp only; exact hg) _) (by dsimp only; exact hg) _
theorem Lent.block {W W' : World} {B g : Nat} {l : List Int} (h : Lent W B g l) (e : W'.heap[g]? = W.heap[g]?) : Lent W' B g l := ⟨h.1, e.trans h.2⟩
theorem Lent.lt {W : World} {B g : Nat} {l : List Int} (h : Lent W B g l) : g < W.heap.size := (Array.getElem?_eq_some_iff.1 h.2).1
/-- One more row. -/
theorem Lr.step {w W W2 : World} {G n p g : Nat} {rs : List Rw} {f : Nat → Value × Value} (h : Lr w W G n rs p True f) (hp : p < n) (g2 : Gb W W2) (L : Lent W2 W.heap.size g rs[p]!.2) :
    ∃ f', Lr w ((W2.setCell ⟨G, p * 2, none⟩ (.int .i64 rs[p]!.1)).setCell ⟨G, p * 2 + 1, none⟩ (.slice (some ⟨g, 0, none⟩) rs[p]!.2.length (rs[p]!.2.length + 1))) G n rs (p + 1) True f' := by
  have hGW := h.arr.lt
  have h2 := h.gr g2
  obtain ⟨gs, hl⟩ := h2.lent
  obtain ⟨gs0, hl0⟩ := h.lent
  have hgs : ∀ i, i < p → gs i < W.heap.size := fun i hi => by
    have e := (hl i hi).1.symm.trans (hl0 i hi).1
    simp at e
    rw [e]
    exact (hl0 i hi).2.1.lt
  have hg := L.1
  refine ⟨_, two_gb h2.gb h2.hG _ _ _ _, h.hG, h2.arr.set hp _ _, ⟨fun i => if i = p then g else gs i, fun i hi => ?_⟩, trivial⟩
  by_cases e : i = p
  · subst e
    simp only [if_true]
    refine ⟨trivial, ⟨by omega, (two_far (by omega) _ _ _ _).trans L.2⟩, fun j hj => ?_⟩
    rw [if_neg (by omega)]
    have := hgs j hj
    omega
  · simp only [if_neg e]
    obtain ⟨a, b, c⟩ := hl i (by omega)
    refine ⟨a, b.block (two_far (by have := b.1; omega) _ _ _ _), fun j hj => ?_⟩
    rw [if_neg (by omega)]
    exact c j hj
/-- Rows that were lent. -/
def LentR (w W : World) (G : Nat) (rs : List Rw) : Prop := ∃ f, Lr w W G (rs.length + 1) rs rs.length (f rs.length = (.int .i64 (-77), .slice none 0 0)) f
theorem Lr.mark {w W : World} {G n : Nat} {rs : List Rw} {f : Nat → Value × Value} (h : Lr w W G (n + 1) rs n True f) (hn : n = rs.length) :
    LentR w ((W.setCell ⟨G, n * 2, none⟩ (.int .i64 (-77))).setCell ⟨G, n * 2 + 1, none⟩ (.slice none 0 0)) G rs := by
  subst hn
  obtain ⟨gs, hl⟩ := h.lent
  refine ⟨_, two_gb h.gb h.hG _ _ _ _, h.hG, h.arr.set (Nat.lt_succ_self _) _ _, ⟨gs, fun i hi => ?_⟩, by simp⟩
  obtain ⟨a, b, c⟩ := hl i hi
  exact ⟨by rw [if_neg (by omega)]; exact a, b.block (two_far (by have := b.1; omega) _ _ _ _), c⟩
theorem LentR.gr {w W W' : World} {G : Nat} {rs : List Rw} (h : LentR w W G rs) (g : Gb W W') : LentR w W' G rs := by
  obtain ⟨f, h⟩ := h
  exact ⟨f, h.gr g⟩
theorem LentR.rd {w W : World} {G : Nat} {rs : List Rw} (h : LentR w W G rs) : RdW W (.slice (some ⟨G, 0, none⟩) rs.length (rs.length + 1)) rs := by
  obtain ⟨f, h⟩ := h
  obtain ⟨gs, hl⟩ := h.lent
  refine ⟨_, _, rfl, fun i hi => ?_⟩
  obtain ⟨a, b, _⟩ := hl i hi
  have hc := h.arr.cell (i := i) (by omega)
  rw [a] at hc
  exact ⟨G, 0, _, rfl, by rw [Nat.zero_add]; exact hc.1, by rw [Nat.zero_add]; exact hc.2, b.rd⟩
/-- What the region holds while it draws. -/
structure Rs (w W : World) (a b : Addr) (u v : Value) : Prop where
  gb : Gb w W
  ca : W.cell? a = some u
  cb : W.cell? b = some v
  la : a.block < w.heap.size
  lb : b.block < w.heap.size
theorem Rs.gr {w W W' : World} {a b : Addr} {u v : Value} (h : Rs w W a b u v) (g : Gb W W') : Rs w W' a b u v := ⟨gb_trans h.gb g, gb_keeps g h.ca, gb_keeps g h.cb, h.la, h.lb⟩
theorem Rs.set {w W : World} {a b : Addr} {u v : Value} {B : Nat} (h : Rs w W a b u v) (hB : w.heap.size ≤ B) (o1 o2 : Nat) (x y : Value) : Rs w ((W.setCell ⟨B, o1, none⟩ x).setCell ⟨B, o2, none⟩ y) a b u v := by
  have ha := h.la
  have hb := h.lb
  exact ⟨two_gb h.gb hB _ _ _ _, (World.cell?_of_block (two_far (by omega) _ _ _ _)).trans h.ca, (World.cell?_of_block (two_far (by omega) _ _ _ _)).trans h.cb, h.la, h.lb⟩
end Go.Proofs.YteaeaoekaoedoaaGreat
