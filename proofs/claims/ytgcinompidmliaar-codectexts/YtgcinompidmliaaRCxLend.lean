/- theodolitekeep.Lend and Back; theodoliteref03.Dist. -/
import Derived.Test.YtgcinompidmliaaRCxKeep
import Derived.Test.YtgcinompidmliaaRCx30
import Derived.Deep.OwnRows
import Derived.Laws.CopyOwn
import Derived.Laws.OwnMore
namespace Go.Proofs.YtgcinompidmliaaR
open Go.RowKit Go.Sort Go.Maps

/-- Numbers that were lent: block g, with the mark behind them. -/
def Lent (W : World) (B g : Nat) (l : List Int) : Prop := B ≤ g ∧ W.heap[g]? = some (.cells (l.map (Value.int .i64) ++ [Value.int .i64 (-77)]).toArray 3 (0, 0))
theorem Lent.gb {W W' : World} {B g : Nat} {l : List Int} (h : Lent W B g l) (k : Gb W W') : Lent W' B g l :=
  ⟨h.1, by rw [k.block g (Array.getElem?_eq_some_iff.1 h.2).1]; exact h.2⟩
theorem Lent.far {W W' : World} {B g g' : Nat} {l : List Int} (h : Lent W B g l) (k : W.grownBy W' (some g')) (hne : g ≠ g') : Lent W' B g l :=
  ⟨h.1, by rw [k.block g (Array.getElem?_eq_some_iff.1 h.2).1 (by simpa using hne)]; exact h.2⟩
theorem Lent.rd {W : World} {B g : Nat} {l : List Int} (h : Lent W B g l) : RdI W (.slice (some ⟨g, 0, none⟩) l.length (l.length + 1)) l := by
  refine ⟨_, _, rfl, fun i hi => ⟨g, 0, rfl, ?_⟩⟩
  simp only [World.cell?, h.2, Nat.zero_add]
  simp only [Option.isSome_none, Bool.false_eq_true, if_false, List.getElem?_toArray]
  rw [List.getElem?_append_left (by simpa using hi)]
  simp [hi]
theorem Lent.mark {W : World} {B g : Nat} {l : List Int} (h : Lent W B g l) : W.cell? ⟨g, l.length, none⟩ = some (.int .i64 (-77)) := by
  simp only [World.cell?, h.2]
  simp
theorem Lent.own {W : World} {B g : Nat} {l : List Int} (h : Lent W B g l) (hl : l.length ≤ 1048576) : Own W B (.slice (some ⟨g, 0, none⟩) (l.length + 1) (l.length + 1)) (tab (fun i => if i < l.length then l[i]! else -77) (l.length + 1)) := by
  unfold Own
  rw [tab_len]
  refine ⟨by simp [tab], .inr ⟨g, _, _, rfl, h.1, h.2, Nat.le_refl _, by simp only [maxLen]; omega, by simp, ?_⟩⟩
  apply List.ext_getElem?
  intro t
  by_cases ht : t < l.length + 1
  · rw [Nat.mul_one, List.getElem?_take_of_lt ht]
    by_cases h2 : t < l.length
    · simp [tab, ht, h2]
    · have e : t = l.length := by omega
      subst e
      simp [tab]
  · rw [List.getElem?_eq_none (by simp; omega), List.getElem?_eq_none (by simp [tab]; omega)]

set_option maxHeartbeats 2000000 in
set_option maxRecDepth 100000 in
theorem lend_c {w : World} {u : Value} {l : List Int} (hu : RdI w u l) (hn : l.length ≤ 1048576) :
    Calls Try.prog 18 #[u] w fun e w' => ∃ g, e = .returned (.slice (some ⟨g, 0, none⟩) l.length (l.length + 1)) ∧ Lent w' w.heap.size g l ∧ Gb w w' := by
  obtain ⟨a, cap, rfl, ha⟩ := hu
  obtain ⟨n, hN⟩ : ∃ n, n = l.length := ⟨_, rfl⟩
  have N : Hid (n = l.length) := hN
  obtain ⟨m, hM⟩ : ∃ m, m = n + 1 := ⟨_, rfl⟩
  have M : Hid (m = n + 1) := hM
  have hm : (n : Int) + 1 = (m : Int) := by omega
  have hnm : (n : Int) < (m : Int) := by omega
  have hnm2 : n ≤ m := by omega
  have hmb : m ≤ 1048577 := by omega
  have hmk := run_make_row' (P := Try.prog) 35 3 (.int .i64 0) 8 Try.underlying35 Try.info3 rfl .i64 .i64 m (by omega) (by omega) w
  have hsz : (Try.prog.info? 3).map (·.size) = some 1 := by kernel_rfl
  have HR : Hid (∀ V : World, V.heap[w.heap.size]? = some (.cells (l.map (Value.int .i64) ++ [Value.int .i64 0]).toArray 3 (0, 0)) → Gb w V → V.cell? ⟨w.heap.size, n, none⟩ = some (.int .i64 0) ∧ V.frozen? ⟨w.heap.size, n, none⟩ = false ∧ Lent (V.setCell ⟨w.heap.size, n, none⟩ (.int .i64 (-77))) w.heap.size w.heap.size l ∧ Gb w (V.setCell ⟨w.heap.size, n, none⟩ (.int .i64 (-77)))) := by
    intro V hV hg
    refine ⟨?_, by simp [World.frozen?, hV], ⟨Nat.le_refl _, ?_⟩, gb_set hg (Nat.le_refl _) _⟩
    · rw [hN]; simp only [World.cell?, hV]; simp
    · rw [hN]
      simp only [World.setCell, Array.getElem?_modify, hV]
      simp
  have hmc : madeCells #[Value.int .i64 0] (0 + 1) = #[Value.int .i64 0] := by apply Array.ext'; rw [toList_madeCells_one]; rfl
  have G0 : Gb w (w.alloc (.cells (madeCells #[Value.int .i64 0] m) 3)) := gb_alloc (Below.refl _ _) _
  by_cases h0 : l.length = 0
  · have hl : l = [] := List.eq_nil_of_length_eq_zero h0
    have hnz : n = 0 := by omega
    have hVV := HR.out (w.alloc (.cells (madeCells #[Value.int .i64 0] m) 3)) (by rw [heap_alloc_new, hl, hM, hnz, hmc]; rfl) G0
    obtain ⟨c0, f0, L0, G1⟩ := hVV
    have F : Hid (Lent ((w.alloc (.cells (madeCells #[Value.int .i64 0] m) 3)).setCell ⟨w.heap.size, n, none⟩ (.int .i64 (-77))) w.heap.size w.heap.size l ∧ Gb w ((w.alloc (.cells (madeCells #[Value.int .i64 0] m) 3)).setCell ⟨w.heap.size, n, none⟩ (.int .i64 (-77)))) := ⟨L0, G1⟩
    rw [← hN, ← hM]
    have hmin : Nat.min n m = 0 := by rw [hnz]; exact Nat.zero_min _
    have hcp := run_copy_none (P := Try.prog) (w.alloc (.cells (madeCells #[Value.int .i64 0] m) 3)) 35 35 3 3 (some ⟨w.heap.size, 0, none⟩) a m m n cap Try.underlying35 hsz hmin
    clear HR L0 G1 G0 ha hN hM hn h0 hl hnz hmc hmin hsz
    generalize w.alloc (.cells (madeCells #[Value.int .i64 0] m) 3) = V at *
    go_enter Try.func18, Try.ntmps18
    go_wp2
    go_ret
    exact ⟨w.heap.size, rfl, F.out.1, F.out.2⟩
  · obtain ⟨b, o, ea, _⟩ := ha 0 (by omega)
    subst ea
    have hcs : (l.map (Value.int .i64)).length = Nat.min n m := by rw [List.length_map, ← hN]; exact (Nat.min_eq_left hnm2).symm
    have hsrc : ∀ j v, (l.map (Value.int .i64))[j]? = some v → (w.alloc (.cells (madeCells #[Value.int .i64 0] m) 3)).cell? ((⟨b, o, none⟩ : Addr).add j) = some v := by
      intro j v hj
      rw [List.getElem?_map] at hj
      obtain ⟨y, hy, rfl⟩ := Option.map_eq_some_iff.1 hj
      obtain ⟨hjl, hy⟩ := List.getElem?_eq_some_iff.1 hy
      obtain ⟨b', o', e, hc⟩ := ha j hjl
      cases e
      rw [Addr.add_lit]
      have := gb_keeps G0 hc
      rw [this, getElem!_pos l j hjl, hy]
    have hblk : (w.alloc (.cells (madeCells #[Value.int .i64 0] m) 3)).heap[w.heap.size]? = some (.cells (madeCells #[Value.int .i64 0] m) 3 (0, 0)) := heap_alloc_new _ _
    have hVV := HR.out ((w.alloc (.cells (madeCells #[Value.int .i64 0] m) 3)).setRow w.heap.size ((madeCells #[Value.int .i64 0] m).toList.take 0 ++ l.map (Value.int .i64) ++ (madeCells #[Value.int .i64 0] m).toList.drop (0 + (l.map (Value.int .i64)).length)).toArray) (by
      rw [setRow_heap _ _ _ _ _ _ hblk]
      congr 2
      rw [toList_madeCells_one, List.length_map, Nat.zero_add, ← hN, hM]
      simp) (below_setRow G0 (Nat.le_refl _) _)
    obtain ⟨c0, f0, L0, G1⟩ := hVV
    have hcp := run_copy_row (P := Try.prog) (w.alloc (.cells (madeCells #[Value.int .i64 0] m) 3)) 35 35 3 3 w.heap.size 0 m m ⟨b, o, none⟩ n cap _ 3 (l.map (Value.int .i64)) Try.underlying35 hsz hblk hcs hsrc (by rw [size_madeCells, List.length_map]; omega) (ints_oneCell .i64 l)
    generalize hV : (w.alloc (.cells (madeCells #[Value.int .i64 0] m) 3)).setRow w.heap.size ((madeCells #[Value.int .i64 0] m).toList.take 0 ++ l.map (Value.int .i64) ++ (madeCells #[Value.int .i64 0] m).toList.drop (0 + (l.map (Value.int .i64)).length)).toArray = V at *
    rw [List.length_map, ← hN] at hcp
    have F : Hid (Lent (V.setCell ⟨w.heap.size, n, none⟩ (.int .i64 (-77))) w.heap.size w.heap.size l ∧ Gb w (V.setCell ⟨w.heap.size, n, none⟩ (.int .i64 (-77)))) := ⟨L0, G1⟩
    rw [← hN, ← hM]
    clear HR L0 G1 G0 ha hN hM hn h0 hcs hsrc hblk hmc hV hsz
    go_enter Try.func18, Try.ntmps18
    go_wp2
    go_ret
    exact ⟨w.heap.size, rfl, F.out.1, F.out.2⟩
end Go.Proofs.YtgcinompidmliaaR
