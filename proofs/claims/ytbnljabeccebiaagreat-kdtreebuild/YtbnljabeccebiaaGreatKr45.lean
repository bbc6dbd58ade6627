import Derived.Test.YtbnljabeccebiaaGreatKr43
import Derived.Test.YtbnljabeccebiaaGreatKr40
import Derived.Test.YtbnljabeccebiaaGreatKr44
import Derived.Test.YtbnljabeccebiaaGreatKr13
import Derived.BigQuiet
import Derived.Test.YtbnljabeccebiaaGreatKr11
import Derived.Deep.OwnRows
import Derived.Laws.CopyOwn
import Derived.Laws.OwnMore
import Derived.Test.YtbnljabeccebiaaGreatKr3
/- The law's examples. -/
namespace Go.Proofs.YtbnljabeccebiaaGreat
open Go.RowKit Go.Shelf Go.Sort Go.Lib
attribute [local go_sem] Oper.semAt_some

end Go.Proofs.YtbnljabeccebiaaGreat

/- The reference's Check, Asked, Range. -/
namespace Go.Proofs.YtbnljabeccebiaaGreat
open Go.RowKit Go.Sort Go.Maps

set_option maxHeartbeats 1000000 in
theorem rflat_c {w : World} {v : Value} {rs : List Rw} (hv : RdW w v rs) (hlen : rs.length ≤ 4611686018427387904) (d : Int) :
    Calls Tryz.prog 29 #[v, .int .i64 d] w fun e w' => e = .returned (.int .i64 (flatE rs d)) ∧ Gr w w' := by
  have c := rrows_c hv d hlen
  obtain ⟨a, cap, rfl, _⟩ := hv
  unfold flatE
  generalize rs.length = n at *
  generalize idsE rs d = z at *
  by_cases h1 : d < 1
  · rw [if_neg (by omega)]
    go_enter Tryz.func29, Tryz.ntmps29
    go_wp2
    go_ret
    exact ⟨rfl, Gr.refl _⟩
  · by_cases h2 : 64 < d
    · rw [if_neg (by omega)]
      go_enter Tryz.func29, Tryz.ntmps29
      go_wp2
      go_ret
      exact ⟨rfl, Gr.refl _⟩
    · rw [if_pos (by omega)]
      go_enter Tryz.func29, Tryz.ntmps29
      go_wp2_with (go_at_call 53; refine c.mono ?_; rintro e w' ⟨rfl, g⟩)
      go_ret
      exact ⟨rfl, g⟩
end Go.Proofs.YtbnljabeccebiaaGreat

/- The reference's Range. -/
namespace Go.Proofs.YtbnljabeccebiaaGreat
open Go.RowKit Go.Sort Go.Maps

end Go.Proofs.YtbnljabeccebiaaGreat

/- The reference's First and TopK. -/
namespace Go.Proofs.YtbnljabeccebiaaGreat
open Go.RowKit Go.Sort Go.Maps

end Go.Proofs.YtbnljabeccebiaaGreat

/- The reference's Ints and Same. -/
namespace Go.Proofs.YtbnljabeccebiaaGreat
open Go.RowKit Go.Sort Go.Maps

end Go.Proofs.YtbnljabeccebiaaGreat

/- The reference's Sound: of an answer that is. -/
namespace Go.Proofs.YtbnljabeccebiaaGreat
open Go.RowKit Go.Sort Go.Maps

end Go.Proofs.YtbnljabeccebiaaGreat

/- The reference's Certain. -/
namespace Go.Proofs.YtbnljabeccebiaaGreat
open Go.RowKit Go.Sort

end Go.Proofs.YtbnljabeccebiaaGreat

/- theodolitekeep.Region and Answer: of two that read as the same. -/
namespace Go.Proofs.YtbnljabeccebiaaGreat
open Go.RowKit Go.Sort

/-- What the region holds while it draws: two variables' lists, two regions' cells. -/
structure Tw (W : World) (B : Nat) (va vb : Value) (p r : Addr) (S x1 x2 x3 y1 y2 y3 R1 R2 : Value) : Prop where
  v0 : W.cell? ⟨B, 2, none⟩ = some va
  v1 : W.cell? ⟨B + 1, 2, none⟩ = some vb
  a0 : W.cell? p = some S
  a1 : W.cell? ⟨p.block, p.off + 1, none⟩ = some x1
  a2 : W.cell? ⟨p.block, p.off + 2, none⟩ = some x2
  a3 : W.cell? ⟨p.block, p.off + 3, none⟩ = some R1
  a4 : W.cell? ⟨p.block, p.off + 4, none⟩ = some R2
  a5 : W.cell? ⟨p.block, p.off + 5, none⟩ = some x3
  b0 : W.cell? r = some S
  b1 : W.cell? ⟨r.block, r.off + 1, none⟩ = some y1
  b2 : W.cell? ⟨r.block, r.off + 2, none⟩ = some y2
  b3 : W.cell? ⟨r.block, r.off + 3, none⟩ = some R1
  b4 : W.cell? ⟨r.block, r.off + 4, none⟩ = some R2
  b5 : W.cell? ⟨r.block, r.off + 5, none⟩ = some y3
theorem Tw.gb {W W' : World} {B : Nat} {va vb : Value} {p r : Addr} {S x1 x2 x3 y1 y2 y3 R1 R2 : Value} (h : Tw W B va vb p r S x1 x2 x3 y1 y2 y3 R1 R2) (g : Gb W W') : Tw W' B va vb p r S x1 x2 x3 y1 y2 y3 R1 R2 :=
  ⟨gb_keeps g h.v0, gb_keeps g h.v1, gb_keeps g h.a0, gb_keeps g h.a1, gb_keeps g h.a2, gb_keeps g h.a3, gb_keeps g h.a4, gb_keeps g h.a5, gb_keeps g h.b0, gb_keeps g h.b1, gb_keeps g h.b2, gb_keeps g h.b3, gb_keeps g h.b4, gb_keeps g h.b5⟩
/-- What bounds an answer's lists. -/
structure Few (a : Ans) : Prop where
  hits : a.hits.length ≤ 4000
  seen : a.seen.length ≤ 4611686018427387904
  rest : a.rest.length ≤ 4611686018427387904
  reg : ∀ r ∈ a.rest, r.L.length ≤ 4611686018427387904 ∧ r.H.length ≤ 4611686018427387904 ∧ r.I.length ≤ 4611686018427387904

end Go.Proofs.YtbnljabeccebiaaGreat

/- theodolitekeep.Lend and Back; theodoliteref03.Dist. -/
namespace Go.Proofs.YtbnljabeccebiaaGreat
open Go.RowKit Go.Sort Go.Maps

/-- Numbers that were lent: block g, with the mark behind them. -/
def Lent (W : World) (B g : Nat) (l : List Int) : Prop := B ≤ g ∧ W.heap[g]? = some (.cells (l.map (Value.int .i64) ++ [Value.int .i64 (-77)]).toArray 3 (0, 0))
theorem Lent.gb {W W' : World} {B g : Nat} {l : List Int} (h : Lent W B g l) (k : Gb W W') : Lent W' B g l :=
  ⟨h.1, by rw [k.block g (Array.getElem?_eq_some_iff.1 h.2).1]; exact h.2⟩
theorem Lent.far {W W' : World} {B g g' : Nat} {l : List Int} (h : Lent W B g l) (k : W.grownBy W' (some g')) (hne : g ≠ g') : Lent W' B g l :=
  ⟨h.1, by rw [k.block g (Array.getElem?_eq_some_iff.1 h.2).1 (by simpa using hne)]; exact h.2⟩
theorem Lent.rd {W : World} {B g : Nat} {l : List Int} (h : Lent W B g l) : RdI W (.slice (some ⟨g, 0, none⟩) l.length (l.length + 1)) l := by
  refine ⟨_, _, rfl, fun i hi => ⟨g, 0, rfl, ?_⟩⟩
  simp only [World.cell?, h.2, Nat.zero_add]
  simp only [Option.isSome_none, Bool.false_eq_true, if_false, List.getElem?_toArray]
  rw [List.getElem?_append_left (by simpa using hi)]
  simp [hi]
theorem Lent.mark {W : World} {B g : Nat} {l : List Int} (h : Lent W B g l) : W.cell? ⟨g, l.length, none⟩ = some (.int .i64 (-77)) := by
  simp only [World.cell?, h.2]
  simp
theorem Lent.own {W : World} {B g : Nat} {l : List Int} (h : Lent W B g l) (hl : l.length ≤ 65536) : Own W B (.slice (some ⟨g, 0, none⟩) (l.length + 1) (l.length + 1)) (tab (fun i => if i < l.length then l[i]! else -77) (l.length + 1)) := by
  unfold Own
  rw [tab_len]
  refine ⟨by simp [tab], .inr ⟨g, _, _, rfl, h.1, h.2, Nat.le_refl _, by simp only [maxLen]; omega, by simp, ?_⟩⟩
  apply List.ext_getElem?
  intro t
  by_cases ht : t < l.length + 1
  · rw [Nat.mul_one, List.getElem?_take_of_lt ht]
    by_cases h2 : t < l.length
    · simp [tab, ht, h2]
    · have e : t = l.length := by omega
      subst e
      simp [tab]
  · rw [List.getElem?_eq_none (by simp; omega), List.getElem?_eq_none (by simp [tab]; omega)]

set_option maxHeartbeats 2000000 in
set_option maxRecDepth 100000 in
theorem lend_c {w : World} {u : Value} {l : List Int} (hu : RdI w u l) (hn : l.length ≤ 65536) :
    Calls Tryz.prog 31 #[u] w fun e w' => ∃ g, e = .returned (.slice (some ⟨g, 0, none⟩) l.length (l.length + 1)) ∧ Lent w' w.heap.size g l ∧ Gb w w' := by
  obtain ⟨a, cap, rfl, ha⟩ := hu
  obtain ⟨n, hN⟩ : ∃ n, n = l.length := ⟨_, rfl⟩
  have N : Hid (n = l.length) := hN
  obtain ⟨m, hM⟩ : ∃ m, m = n + 1 := ⟨_, rfl⟩
  have M : Hid (m = n + 1) := hM
  have hm : (n : Int) + 1 = (m : Int) := by omega
  have hnm : (n : Int) < (m : Int) := by omega
  have hnm2 : n ≤ m := by omega
  have hmb : m ≤ 65537 := by omega
  have hmk := run_make_row' (P := Tryz.prog) 41 3 (.int .i64 0) 8 Tryz.underlying41 Tryz.info3 rfl .i64 .i64 m (by omega) (by omega) w
  have hsz : (Tryz.prog.info? 3).map (·.size) = some 1 := by kernel_rfl
  have HR : Hid (∀ V : World, V.heap[w.heap.size]? = some (.cells (l.map (Value.int .i64) ++ [Value.int .i64 0]).toArray 3 (0, 0)) → Gb w V → V.cell? ⟨w.heap.size, n, none⟩ = some (.int .i64 0) ∧ V.frozen? ⟨w.heap.size, n, none⟩ = false ∧ Lent (V.setCell ⟨w.heap.size, n, none⟩ (.int .i64 (-77))) w.heap.size w.heap.size l ∧ Gb w (V.setCell ⟨w.heap.size, n, none⟩ (.int .i64 (-77)))) := by
    intro V hV hg
    refine ⟨?_, by simp [World.frozen?, hV], ⟨Nat.le_refl _, ?_⟩, gb_set hg (Nat.le_refl _) _⟩
    · rw [hN]; simp only [World.cell?, hV]; simp
    · rw [hN]
      simp only [World.setCell, Array.getElem?_modify, hV]
      simp
  have hmc : madeCells #[Value.int .i64 0] (0 + 1) = #[Value.int .i64 0] := by apply Array.ext'; rw [toList_madeCells_one]; rfl
  have G0 : Gb w (w.alloc (.cells (madeCells #[Value.int .i64 0] m) 3)) := gb_alloc (Below.refl _ _) _
  by_cases h0 : l.length = 0
  · have hl : l = [] := List.eq_nil_of_length_eq_zero h0
    have hnz : n = 0 := by omega
    have hVV := HR.out (w.alloc (.cells (madeCells #[Value.int .i64 0] m) 3)) (by rw [heap_alloc_new, hl, hM, hnz, hmc]; rfl) G0
    obtain ⟨c0, f0, L0, G1⟩ := hVV
    have F : Hid (Lent ((w.alloc (.cells (madeCells #[Value.int .i64 0] m) 3)).setCell ⟨w.heap.size, n, none⟩ (.int .i64 (-77))) w.heap.size w.heap.size l ∧ Gb w ((w.alloc (.cells (madeCells #[Value.int .i64 0] m) 3)).setCell ⟨w.heap.size, n, none⟩ (.int .i64 (-77)))) := ⟨L0, G1⟩
    rw [← hN, ← hM]
    have hmin : Nat.min n m = 0 := by rw [hnz]; exact Nat.zero_min _
    have hcp := run_copy_none (P := Tryz.prog) (w.alloc (.cells (madeCells #[Value.int .i64 0] m) 3)) 41 41 3 3 (some ⟨w.heap.size, 0, none⟩) a m m n cap Tryz.underlying41 hsz hmin
    clear HR L0 G1 G0 ha hN hM hn h0 hl hnz hmc hmin hsz
    generalize w.alloc (.cells (madeCells #[Value.int .i64 0] m) 3) = V at *
    go_enter Tryz.func31, Tryz.ntmps31
    go_wp2
    go_ret
    exact ⟨w.heap.size, rfl, F.out.1, F.out.2⟩
  · obtain ⟨b, o, ea, _⟩ := ha 0 (by omega)
    subst ea
    have hcs : (l.map (Value.int .i64)).length = Nat.min n m := by rw [List.length_map, ← hN]; exact (Nat.min_eq_left hnm2).symm
    have hsrc : ∀ j v, (l.map (Value.int .i64))[j]? = some v → (w.alloc (.cells (madeCells #[Value.int .i64 0] m) 3)).cell? ((⟨b, o, none⟩ : Addr).add j) = some v := by
      intro j v hj
      rw [List.getElem?_map] at hj
      obtain ⟨y, hy, rfl⟩ := Option.map_eq_some_iff.1 hj
      obtain ⟨hjl, hy⟩ := List.getElem?_eq_some_iff.1 hy
      obtain ⟨b', o', e, hc⟩ := ha j hjl
      cases e
      rw [Addr.add_lit]
      have := gb_keeps G0 hc
      rw [this, getElem!_pos l j hjl, hy]
    have hblk : (w.alloc (.cells (madeCells #[Value.int .i64 0] m) 3)).heap[w.heap.size]? = some (.cells (madeCells #[Value.int .i64 0] m) 3 (0, 0)) := heap_alloc_new _ _
    have hVV := HR.out ((w.alloc (.cells (madeCells #[Value.int .i64 0] m) 3)).setRow w.heap.size ((madeCells #[Value.int .i64 0] m).toList.take 0 ++ l.map (Value.int .i64) ++ (madeCells #[Value.int .i64 0] m).toList.drop (0 + (l.map (Value.int .i64)).length)).toArray) (by
      rw [setRow_heap _ _ _ _ _ _ hblk]
      congr 2
      rw [toList_madeCells_one, List.length_map, Nat.zero_add, ← hN, hM]
      simp) (below_setRow G0 (Nat.le_refl _) _)
    obtain ⟨c0, f0, L0, G1⟩ := hVV
    have hcp := run_copy_row (P := Tryz.prog) (w.alloc (.cells (madeCells #[Value.int .i64 0] m) 3)) 41 41 3 3 w.heap.size 0 m m ⟨b, o, none⟩ n cap _ 3 (l.map (Value.int .i64)) Tryz.underlying41 hsz hblk hcs hsrc (by rw [size_madeCells, List.length_map]; omega) (ints_oneCell .i64 l)
    generalize hV : (w.alloc (.cells (madeCells #[Value.int .i64 0] m) 3)).setRow w.heap.size ((madeCells #[Value.int .i64 0] m).toList.take 0 ++ l.map (Value.int .i64) ++ (madeCells #[Value.int .i64 0] m).toList.drop (0 + (l.map (Value.int .i64)).length)).toArray = V at *
    rw [List.length_map, ← hN] at hcp
    have F : Hid (Lent (V.setCell ⟨w.heap.size, n, none⟩ (.int .i64 (-77))) w.heap.size w.heap.size l ∧ Gb w (V.setCell ⟨w.heap.size, n, none⟩ (.int .i64 (-77)))) := ⟨L0, G1⟩
    rw [← hN, ← hM]
    clear HR L0 G1 G0 ha hN hM hn h0 hcs hsrc hblk hmc hV hsz
    go_enter Tryz.func31, Tryz.ntmps31
    go_wp2
    go_ret
    exact ⟨w.heap.size, rfl, F.out.1, F.out.2⟩
end Go.Proofs.YtbnljabeccebiaaGreat

/- theodolitekeep.LendRows: rows in memory of the call's own, with a mark behind. -/
namespace Go.Proofs.YtbnljabeccebiaaGreat
open Go.RowKit Go.Sort Go.Maps

/-- Rows in memory, by the index: two cells each. -/
def RA (W : World) (g n : Nat) (f : Nat → Value × Value) : Prop :=
  ∃ cur : Array Value, W.heap[g]? = some (.cells cur 43 (0, 0)) ∧ cur.size = n * 2 ∧ ∀ i, i < n → cur[i * 2]? = some (f i).1 ∧ cur[i * 2 + 1]? = some (f i).2
theorem RA.lt {W : World} {g n : Nat} {f : Nat → Value × Value} (h : RA W g n f) : g < W.heap.size := by
  obtain ⟨cur, h1, _⟩ := h; exact (Array.getElem?_eq_some_iff.1 h1).1
theorem RA.cell {W : World} {g n : Nat} {f : Nat → Value × Value} (h : RA W g n f) {i : Nat} (hi : i < n) : W.cell? ⟨g, i * 2, none⟩ = some (f i).1 ∧ W.cell? ⟨g, i * 2 + 1, none⟩ = some (f i).2 := by
  obtain ⟨cur, h1, _, h4⟩ := h
  obtain ⟨a, b⟩ := h4 i hi
  simp [World.cell?, h1, a, b]
theorem RA.frozen {W : World} {g n : Nat} {f : Nat → Value × Value} (h : RA W g n f) (o : Nat) : W.frozen? ⟨g, o, none⟩ = false := by
  obtain ⟨cur, h1, _⟩ := h
  simp [World.frozen?, h1]
theorem RA.block {W W' : World} {g n : Nat} {f : Nat → Value × Value} (h : RA W g n f) (e : W'.heap[g]? = W.heap[g]?) : RA W' g n f := by
  obtain ⟨cur, h1, h2⟩ := h
  exact ⟨cur, e.trans h1, h2⟩
theorem RA.set {W : World} {g n : Nat} {f : Nat → Value × Value} (h : RA W g n f) {i : Nat} (hi : i < n) (x y : Value) :
    RA ((W.setCell ⟨g, i * 2, none⟩ x).setCell ⟨g, i * 2 + 1, none⟩ y) g n (fun t => if t = i then (x, y) else f t) := by
  obtain ⟨cur, h1, h2, h5⟩ := h
  refine ⟨(cur.setIfInBounds (i * 2) x).setIfInBounds (i * 2 + 1) y, ?_, by simpa using h2, fun t ht => ?_⟩
  · simp [World.setCell, Array.getElem?_modify, h1]
  · by_cases e : t = i
    · subst e
      simp only [if_true]
      refine ⟨?_, ?_⟩
      · rw [Array.getElem?_setIfInBounds_ne (by omega), Array.getElem?_setIfInBounds_self_of_lt (by omega)]
      · rw [Array.getElem?_setIfInBounds_self_of_lt (by simp; omega)]
    · simp only [if_neg e]
      obtain ⟨a, b⟩ := h5 t ht
      refine ⟨?_, ?_⟩
      · rw [Array.getElem?_setIfInBounds_ne (by omega), Array.getElem?_setIfInBounds_ne (by omega)]; exact a
      · rw [Array.getElem?_setIfInBounds_ne (by omega), Array.getElem?_setIfInBounds_ne (by omega)]; exact b
theorem ra_made (w : World) (n : Nat) : RA (w.alloc (.cells (madeCells #[.int .i64 0, .slice none 0 0] (n * 2)) 43)) w.heap.size n (fun _ => (.int .i64 0, .slice none 0 0)) := by
  refine ⟨_, heap_alloc_new _ _, size_madeCells _ _, fun i hi => ⟨?_, ?_⟩⟩
  · simp [madeCells, show i * 2 < n * 2 by omega]
  · simp [madeCells, show i * 2 + 1 < n * 2 by omega, show (i * 2 + 1) % 2 = 1 by omega]
theorem Tryz.infoR : (Tryz.prog.info? 43).map (fun i => (i.zero, i.size, i.bytes)) = some (some (.agg #[.int .i64 0, .slice none 0 0]), 2, 32) := by kernel_rfl
theorem run_make_two (n : Nat) (hn : n ≤ 65537) (w : World) : (Instr.makeSlice 22 (.int .i64 (n : Int)) (.int .i64 (n : Int))).run Tryz.prog w = .ok (.slice (some ⟨w.heap.size, 0, none⟩) n n) (w.alloc (.cells (madeCells #[.int .i64 0, .slice none 0 0] (n * 2)) 43)) := by
  obtain ⟨i, hi, hzz⟩ := Option.map_eq_some_iff.1 Tryz.infoR
  simp only [Prod.mk.injEq] at hzz
  obtain ⟨hz, hs, hb⟩ := hzz
  have hr := run_make (P := Tryz.prog) w 22 43 i _ Tryz.underlying22 hi hz .i64 .i64 n n (by omega) (Int.le_refl _) (by rw [hb]; omega) (by omega)
  simp only [Int.toNat_natCast, hs] at hr
  exact hr

/-- What is laid of rows that are lent: block G, n places, p of them done. -/
structure Lr (w W : World) (G n : Nat) (rs : List Rw) (p : Nat) (z : Prop) (f : Nat → Value × Value) : Prop where
  gb : Gb w W
  hG : w.heap.size ≤ G
  arr : RA W G n f
  lent : ∃ gs : Nat → Nat, ∀ i, i < p → f i = (.int .i64 rs[i]!.1, .slice (some ⟨gs i, 0, none⟩) rs[i]!.2.length (rs[i]!.2.length + 1)) ∧ Lent W (G + 1) (gs i) rs[i]!.2 ∧ ∀ j, j < i → gs j ≠ gs i
  end' : z
theorem Lr.gr {w W W' : World} {G n p : Nat} {rs : List Rw} {z : Prop} {f : Nat → Value × Value} (h : Lr w W G n rs p z f) (g : Gb W W') : Lr w W' G n rs p z f := by
  obtain ⟨gs, hl⟩ := h.lent
  exact ⟨gb_trans h.gb g, h.hG, h.arr.block (g.block _ h.arr.lt), ⟨gs, fun i hi => ⟨(hl i hi).1, (hl i hi).2.1.gb g, (hl i hi).2.2⟩⟩, h.end'⟩
theorem two_far {g b : Nat} {W : World} (hn : b ≠ g) (o1 o2 : Nat) (x y : Value) : ((W.setCell ⟨g, o1, none⟩ x).setCell ⟨g, o2, none⟩ y).heap[b]? = W.heap[b]? :=
  (Below.heap_setCell _ _ _ _ (by dsimp only; exact hn)).trans (Below.heap_setCell _ _ _ _ (by dsimp only; exact hn))
theorem two_gb {g : Nat} {w W : World} (h : Gb w W) (hg : w.heap.size ≤ g) (o1 o2 : Nat) (x y : Value) : Gb w ((W.setCell ⟨g, o1, none⟩ x).setCell ⟨g, o2, none⟩ y) :=
  gb_set (gb_set h (by dsimp only; exact hg) _) (by dsimp only; exact hg) _
theorem Lent.block {W W' : World} {B g : Nat} {l : List Int} (h : Lent W B g l) (e : W'.heap[g]? = W.heap[g]?) : Lent W' B g l := ⟨h.1, e.trans h.2⟩
theorem Lent.lt {W : World} {B g : Nat} {l : List Int} (h : Lent W B g l) : g < W.heap.size := (Array.getElem?_eq_some_iff.1 h.2).1
/-- One more row. -/
theorem Lr.step {w W W2 : World} {G n p g : Nat} {rs : List Rw} {f : Nat → Value × Value} (h : Lr w W G n rs p True f) (hp : p < n) (g2 : Gb W W2) (L : Lent W2 W.heap.size g rs[p]!.2) :
    ∃ f', Lr w ((W2.setCell ⟨G, p * 2, none⟩ (.int .i64 rs[p]!.1)).setCell ⟨G, p * 2 + 1, none⟩ (.slice (some ⟨g, 0, none⟩) rs[p]!.2.length (rs[p]!.2.length + 1))) G n rs (p + 1) True f' := by
  have hGW := h.arr.lt
  have h2 := h.gr g2
  obtain ⟨gs, hl⟩ := h2.lent
  obtain ⟨gs0, hl0⟩ := h.lent
  have hgs : ∀ i, i < p → gs i < W.heap.size := fun i hi => by
    have e := (hl i hi).1.symm.trans (hl0 i hi).1
    simp at e
    rw [e]
    exact (hl0 i hi).2.1.lt
  have hg := L.1
  refine ⟨_, two_gb h2.gb h2.hG _ _ _ _, h.hG, h2.arr.set hp _ _, ⟨fun i => if i = p then g else gs i, fun i hi => ?_⟩, trivial⟩
  by_cases e : i = p
  · subst e
    simp only [if_true]
    refine ⟨trivial, ⟨by omega, (two_far (by omega) _ _ _ _).trans L.2⟩, fun j hj => ?_⟩
    rw [if_neg (by omega)]
    have := hgs j hj
    omega
  · simp only [if_neg e]
    obtain ⟨a, b, c⟩ := hl i (by omega)
    refine ⟨a, b.block (two_far (by have := b.1; omega) _ _ _ _), fun j hj => ?_⟩
    rw [if_neg (by omega)]
    exact c j hj
/-- Rows that were lent. -/
def LentR (w W : World) (G : Nat) (rs : List Rw) : Prop := ∃ f, Lr w W G (rs.length + 1) rs rs.length (f rs.length = (.int .i64 (-77), .slice none 0 0)) f
theorem Lr.mark {w W : World} {G n : Nat} {rs : List Rw} {f : Nat → Value × Value} (h : Lr w W G (n + 1) rs n True f) (hn : n = rs.length) :
    LentR w ((W.setCell ⟨G, n * 2, none⟩ (.int .i64 (-77))).setCell ⟨G, n * 2 + 1, none⟩ (.slice none 0 0)) G rs := by
  subst hn
  obtain ⟨gs, hl⟩ := h.lent
  refine ⟨_, two_gb h.gb h.hG _ _ _ _, h.hG, h.arr.set (Nat.lt_succ_self _) _ _, ⟨gs, fun i hi => ?_⟩, by simp⟩
  obtain ⟨a, b, c⟩ := hl i hi
  exact ⟨by rw [if_neg (by omega)]; exact a, b.block (two_far (by have := b.1; omega) _ _ _ _), c⟩
theorem LentR.gr {w W W' : World} {G : Nat} {rs : List Rw} (h : LentR w W G rs) (g : Gb W W') : LentR w W' G rs := by
  obtain ⟨f, h⟩ := h
  exact ⟨f, h.gr g⟩
theorem LentR.rd {w W : World} {G : Nat} {rs : List Rw} (h : LentR w W G rs) : RdW W (.slice (some ⟨G, 0, none⟩) rs.length (rs.length + 1)) rs := by
  obtain ⟨f, h⟩ := h
  obtain ⟨gs, hl⟩ := h.lent
  refine ⟨_, _, rfl, fun i hi => ?_⟩
  obtain ⟨a, b, _⟩ := hl i hi
  have hc := h.arr.cell (i := i) (by omega)
  rw [a] at hc
  exact ⟨G, 0, _, rfl, by rw [Nat.zero_add]; exact hc.1, by rw [Nat.zero_add]; exact hc.2, b.rd⟩
/-- What the region holds while it draws. -/
structure Rs (w W : World) (a b : Addr) (u v : Value) : Prop where
  gb : Gb w W
  ca : W.cell? a = some u
  cb : W.cell? b = some v
  la : a.block < w.heap.size
  lb : b.block < w.heap.size
theorem Rs.gr {w W W' : World} {a b : Addr} {u v : Value} (h : Rs w W a b u v) (g : Gb W W') : Rs w W' a b u v := ⟨gb_trans h.gb g, gb_keeps g h.ca, gb_keeps g h.cb, h.la, h.lb⟩
theorem Rs.set {w W : World} {a b : Addr} {u v : Value} {B : Nat} (h : Rs w W a b u v) (hB : w.heap.size ≤ B) (o1 o2 : Nat) (x y : Value) : Rs w ((W.setCell ⟨B, o1, none⟩ x).setCell ⟨B, o2, none⟩ y) a b u v := by
  have ha := h.la
  have hb := h.lb
  exact ⟨two_gb h.gb hB _ _ _ _, (World.cell?_of_block (two_far (by omega) _ _ _ _)).trans h.ca, (World.cell?_of_block (two_far (by omega) _ _ _ _)).trans h.cb, h.la, h.lb⟩
end Go.Proofs.YtbnljabeccebiaaGreat

/- theodolitekeep.Back; theodoliteref03.Dist; VecDists: the walk. -/
namespace Go.Proofs.YtbnljabeccebiaaGreat
open Go.RowKit Go.Sort Go.Maps

theorem grown_set {w W : World} {g i : Nat} (h : w.grownBy W (some g)) (u : Value) : w.grownBy (W.setCell ⟨g, i, none⟩ u) (some g) :=
  ⟨h.os, h.tape, h.output, by simpa [World.setCell] using h.size, fun k hk hn => (Below.heap_setCell _ _ _ _ (fun e => hn (by rw [e]))).trans (h.block k hk hn)⟩
theorem grown_gb {w W : World} {g : Nat} (h : Gb w W) : w.grownBy W (some g) := ⟨h.os, h.tape, h.output, h.size, fun k hk _ => h.block k hk⟩

set_option maxHeartbeats 4000000 in
set_option maxRecDepth 100000 in
theorem back_c {w : World} {B g : Nat} {v : Value} {l : List Int} (hg : Lent w B g l) (hv : RdI w v l) (hn : l.length ≤ 65536) :
    Calls Tryz.prog 33 #[.slice (some ⟨g, 0, none⟩) l.length (l.length + 1), v] w fun e w' => e = .returned (.bool true) ∧ w.grownBy w' (some g) := by
  have c32 := ints_v hg.rd hv (by omega) true (by simp)
  have mk := hg.mark
  have HG : Hid (Lent w B g l) := hg
  obtain ⟨a, cap, rfl, _⟩ := hv
  have OW : Hid (∀ W, Gb w W → Own W B (.slice (some ⟨g, 0, none⟩) (l.length + 1) (l.length + 1)) (tab (fun i => if i < l.length then l[i]! else -77) (l.length + 1))) := fun W k => (HG.out.gb k).own hn
  obtain ⟨n, hN⟩ : ∃ n, n = l.length := ⟨_, rfl⟩
  rw [← hN] at c32 mk hn OW ⊢
  obtain ⟨m, hM⟩ : ∃ m, m = n + 1 := ⟨_, rfl⟩
  have hm : (n : Int) + 1 = (m : Int) := by omega
  have hnm : (n : Int) < (m : Int) := by omega
  have hnm2 : n < m := by omega
  have hmb : m ≤ 65537 := by omega
  rw [← hM] at c32 OW ⊢
  clear HG hN hg hM
  go_enter Tryz.func33, Tryz.ntmps33
  go_wp2_with fail
  refine c32.mono ?_
  rintro e w1 ⟨rfl, g1⟩
  have mk1 := gb_keeps g1.gb mk
  clear mk c32
  go_wp2
  go_loopw [6] (fun iv w' => ∃ q : Nat, ∃ f : Nat → Int, iv = .int .i64 (q : Int) ∧ q ≤ m ∧ Hid (Own w' B (.slice (some ⟨g, 0, none⟩) m m) (tab f m) ∧ w.grownBy w' (some g))) (fun iv _ => m - (intOf iv).toNat)
  case atStart => exact ⟨0, _, rfl, Nat.zero_le _, OW.out w1 g1.gb, grown_gb g1.gb⟩
  case round =>
    clear mk1 OW g1
    obtain ⟨q, f, rfl, hq, X⟩ := hrel
    by_cases hqm : q < m
    · have hqi : (q : Int) < (m : Int) := by omega
      obtain ⟨c0, f0⟩ := X.out.1.at hqm
      go_wp2
      refine ⟨⟨q + 1, _, by go_num, hqm, own_set X.out.1 hqm _, grown_set X.out.2 _⟩, by simp [intOf]; omega⟩
    · have hqi : ¬ (q : Int) < (m : Int) := by omega
      go_wp2
      go_ret
      exact ⟨rfl, X.out.2⟩
end Go.Proofs.YtbnljabeccebiaaGreat

/- theodolitekeep.BackRows: rows that were lent are as they were. -/
namespace Go.Proofs.YtbnljabeccebiaaGreat
open Go.RowKit Go.Sort Go.Maps

/-- Nothing has turned but in the blocks from B on below T. -/
structure Mid (B T : Nat) (w W : World) : Prop where
  os : W.os = w.os
  tape : W.tape = w.tape
  output : W.output = w.output
  size : w.heap.size ≤ W.heap.size
  block : ∀ k, k < w.heap.size → (k < B ∨ T ≤ k) → W.heap[k]? = w.heap[k]?
theorem Mid.refl (B T : Nat) (w : World) : Mid B T w w := ⟨rfl, rfl, rfl, Nat.le_refl _, fun _ _ _ => rfl⟩
theorem Mid.gb {B T : Nat} {w0 w W : World} (h : Mid B T w W) (g : Gb w0 w) (hB : w0.heap.size ≤ B) : Gb w0 W := by
  have hs := g.size
  exact ⟨h.os.trans g.os, h.tape.trans g.tape, h.output.trans g.output, Nat.le_trans g.size h.size, fun k hk => (h.block k (by omega) (.inl (by omega))).trans (g.block k hk)⟩
theorem Mid.drew {B T : Nat} {w W : World} (h : Mid B T w W) : Mid B T w W.drew := ⟨h.os, h.tape, h.output, h.size, h.block⟩
theorem Mid.grown {B T g : Nat} {w W W' : World} (h : Mid B T w W) (k : W.grownBy W' (some g)) (h1 : B ≤ g) (h2 : g < T) : Mid B T w W' :=
  ⟨k.os.trans h.os, k.tape.trans h.tape, k.output.trans h.output, Nat.le_trans h.size k.size, fun j hj hb => (k.block j (Nat.lt_of_lt_of_le hj h.size) (by simp; omega)).trans (h.block j hj hb)⟩
theorem Mid.set {B T g : Nat} {w W : World} (h : Mid B T w W) (h1 : B ≤ g) (h2 : g < T) (o1 o2 : Nat) (x y : Value) : Mid B T w ((W.setCell ⟨g, o1, none⟩ x).setCell ⟨g, o2, none⟩ y) :=
  ⟨h.os, h.tape, h.output, by simpa [World.setCell] using h.size, fun j hj hb => (two_far (by omega) _ _ _ _).trans (h.block j hj hb)⟩
/-- Rows that were lent, in blocks from B on below T. -/
structure LT (B T : Nat) (W : World) (G : Nat) (rs : List Rw) (f : Nat → Value × Value) (gs : Nat → Nat) : Prop where
  lo : B ≤ G
  hi : G < T
  arr : RA W G (rs.length + 1) f
  mark : f rs.length = (.int .i64 (-77), .slice none 0 0)
  row : ∀ i, i < rs.length → f i = (.int .i64 rs[i]!.1, .slice (some ⟨gs i, 0, none⟩) rs[i]!.2.length (rs[i]!.2.length + 1)) ∧ Lent W (G + 1) (gs i) rs[i]!.2 ∧ gs i < T ∧ ∀ j, j < i → gs j ≠ gs i
theorem LentR.lt {w W : World} {G : Nat} {rs : List Rw} (h : LentR w W G rs) : ∃ f gs, LT w.heap.size W.heap.size W G rs f gs := by
  obtain ⟨f, h⟩ := h
  obtain ⟨gs, hl⟩ := h.lent
  exact ⟨f, gs, h.hG, h.arr.lt, h.arr, h.end', fun i hi => ⟨(hl i hi).1, (hl i hi).2.1, (hl i hi).2.1.lt, (hl i hi).2.2⟩⟩
theorem LT.keep {B T G : Nat} {W W' : World} {rs : List Rw} {f : Nat → Value × Value} {gs : Nat → Nat} (h : LT B T W G rs f gs) (e : ∀ k, B ≤ k → k < T → W'.heap[k]? = W.heap[k]?) : LT B T W' G rs f gs :=
  ⟨h.lo, h.hi, h.arr.block (e _ h.lo h.hi), h.mark, fun i hi => by
    obtain ⟨a, b, c, d⟩ := h.row i hi
    exact ⟨a, b.block (e _ (by have := b.1; have := h.lo; omega) c), c, d⟩⟩
/-- p rows are back. -/
structure Bk (B T : Nat) (w W : World) (G : Nat) (rs : List Rw) (f : Nat → Value × Value) (gs : Nat → Nat) (p : Nat) : Prop where
  mid : Mid B T w W
  arr : ∃ f', RA W G (rs.length + 1) f' ∧ ∀ i, p ≤ i → f' i = f i
  lent : ∀ i, p ≤ i → i < rs.length → Lent W (G + 1) (gs i) rs[i]!.2
theorem LT.bk {B T G : Nat} {W : World} {rs : List Rw} {f : Nat → Value × Value} {gs : Nat → Nat} (h : LT B T W G rs f gs) : Bk B T W W G rs f gs 0 :=
  ⟨Mid.refl _ _ _, ⟨f, h.arr, fun _ _ => rfl⟩, fun i _ hi => (h.row i hi).2.1⟩
theorem Bk.drew {B T G p : Nat} {w W : World} {rs : List Rw} {f : Nat → Value × Value} {gs : Nat → Nat} (h : Bk B T w W G rs f gs p) : Bk B T w W.drew G rs f gs p :=
  ⟨h.mid.drew, h.arr, h.lent⟩
/-- One more row is back. -/
theorem Bk.step {B T G p : Nat} {w W W2 : World} {rs : List Rw} {f : Nat → Value × Value} {gs : Nat → Nat} (h : Bk B T w W G rs f gs p) (L : LT B T w G rs f gs) (hp : p < rs.length) (k : W.grownBy W2 (some (gs p))) (x y : Value) :
    Bk B T w ((W2.setCell ⟨G, p * 2, none⟩ x).setCell ⟨G, p * 2 + 1, none⟩ y) G rs f gs (p + 1) := by
  obtain ⟨_, b, c, _⟩ := L.row p hp
  have hb := b.1
  have hlo := L.lo
  obtain ⟨f', h1, h2⟩ := h.arr
  refine ⟨(h.mid.grown k (by omega) c).set L.lo L.hi _ _ _ _, ⟨_, (h1.block (k.block G h1.lt (by simp; omega))).set (i := p) (by omega) x y, fun i hi => ?_⟩, fun i hi hl => ?_⟩
  · rw [if_neg (by omega)]; exact h2 i (by omega)
  · have h3 := h.lent i (by omega) hl
    have hne := (L.row i hl).2.2.2 p (by omega)
    exact h3.block ((two_far (by have := h3.1; omega) _ _ _ _).trans (k.block _ h3.lt (by simp; omega)))
/-- What the region holds while it draws: four cells. -/
structure Qs (W : World) (a b c d : Addr) (u v x y : Value) : Prop where
  ca : W.cell? a = some u
  cb : W.cell? b = some v
  cc : W.cell? c = some x
  cd : W.cell? d = some y
theorem Qs.grown {W W' : World} {a b c d : Addr} {u v x y : Value} {g : Nat} (h : Qs W a b c d u v x y) (k : W.grownBy W' (some g)) (ha : a.block ≠ g) (hb : b.block ≠ g) (hc : c.block ≠ g) (hd : d.block ≠ g) : Qs W' a b c d u v x y := by
  have far : ∀ {p : Addr} {q : Value}, p.block ≠ g → W.cell? p = some q → W'.cell? p = some q := fun {p q} hp hq =>
    (World.cell?_of_block (k.block _ (World.block_lt_of_cell? W _ hq) (by simp; omega))).trans hq
  exact ⟨far ha h.ca, far hb h.cb, far hc h.cc, far hd h.cd⟩
end Go.Proofs.YtbnljabeccebiaaGreat
