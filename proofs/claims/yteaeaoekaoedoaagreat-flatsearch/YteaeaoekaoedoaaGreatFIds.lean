/- flat.risingIds, somewhere. -/
import Derived.Test.YteaeaoekaoedoaaGreatFRng
namespace Go.Proofs.YteaeaoekaoedoaaGreat
open Go.RowKit Go.Sort

/-- Behind some rounds: the list of the ids so far. -/
structure UpSt (w W : World) (v : Value) (l : List Int) : Prop where
  row : Own W w.heap.size v l
  gb : Gb w W
theorem UpSt.alloc {w W : World} {v : Value} {l : List Int} (h : UpSt w W v l) (o : Obj) : UpSt w (W.alloc o) v l :=
  ⟨World.ownsRow.alloc h.row o, gb_alloc h.gb o⟩
theorem UpSt.next {w W W2 : World} {v v' : Value} {l : List Int} {x : Int} (h : UpSt w W v l)
    (hr : W2.ownsRow w.heap.size 3 1 v' (l.length + 1) (l.map (Value.int .i64) ++ [.int .i64 x])) (hg2 : W.grownBy W2 v.ownBlock) : UpSt w W2 v' (l ++ [x]) := by
  refine ⟨?_, below_grown h.gb hg2 (fun k e => (World.ownsRow.lt h.row k e).1) h.gb.size⟩
  unfold Own
  rw [List.length_append, List.map_append]
  exact hr

set_option maxHeartbeats 4000000 in
set_option maxRecDepth 100000 in
theorem rising_c {w : World} {v : Value} {rs : List Rw} (h : RdW w v rs) (hlen : rs.length ≤ 512) :
    Calls Tryz.prog 44 #[v] w fun e w' => ∃ v', e = .returned v' ∧ Own w' w.heap.size v' (srt (idsOf rs)) ∧ Gb w w' := by
  obtain ⟨a, cap, rfl, ha⟩ := h
  have A : Hid (∀ i, i < rs.length → ∃ b o u, a = some ⟨b, o, none⟩ ∧ w.cell? ⟨b, o + i * 2, none⟩ = some (.int .i64 rs[i]!.1) ∧ w.cell? ⟨b, o + i * 2 + 1, none⟩ = some u ∧ RdI w u rs[i]!.2) := ha
  obtain ⟨n, hN⟩ : ∃ n, n = rs.length := ⟨_, rfl⟩
  have N : Hid (n = rs.length) := hN
  rw [← hN] at hlen ⊢
  clear ha hN
  obtain ⟨i0, hi, hz0, hz1, hz2⟩ := info_parts Tryz.info3
  have II : Hid (Tryz.prog.info? 3 = some i0 ∧ i0.zero = some (.int .i64 0) ∧ i0.size = 1 ∧ i0.bytes = 8) := ⟨hi, hz0, hz1, hz2⟩
  obtain ⟨w1, hmk, ho, hg⟩ := run_make_own (P := Tryz.prog) w w.heap.size 23 3 i0 (.int .i64 0) 1 Tryz.underlying23 hi hz0 hz1 .i64 .i64 n (by rw [hz2]; omega) (by simp only [maxLen]; omega) (Nat.le_refl _)
  have O : Hid (UpSt w w1 (.slice (some ⟨w.heap.size, 0, none⟩) 0 n) []) := ⟨ho, below_grown (Below.refl _ _) hg (fun k e => by cases e) (Nat.le_refl _)⟩
  clear hi hz0 hz1 hz2 ho hg
  go_enter Tryz.func44, Tryz.ntmps44
  go_wp2
  clear hmk
  go_loopw [3, 11] (fun vv iv w' => ∃ q : Nat, iv = .int .i64 (q : Int) ∧ q ≤ n ∧ Hid (UpSt w w' vv ((idsOf rs).take q))) (fun _ iv _ => n - (intOf iv).toNat)
  case atStart => exact ⟨0, rfl, Nat.zero_le _, O.out⟩
  case round =>
    clear O
    obtain ⟨q, rfl, hq, Y⟩ := hrel
    by_cases hqn : q < n
    · have hqi : (q : Int) < (n : Int) := by omega
      have hql : q < rs.length := by have := N.out; omega
      obtain ⟨b, o, u, ea, h1, h2, h3⟩ := A.out q hql
      have NX : Hid ((idsOf rs).take (q + 1) = (idsOf rs).take q ++ [rs[q]!.1]) := ids_take hql
      have LL : Hid (((idsOf rs).take q).length = q) := by unfold Hid idsOf; rw [List.length_take]; simp; omega
      have hx0 := gb_keeps Y.out.gb h1
      have hx1 := gb_keeps Y.out.gb h2
      obtain ⟨pv, cv, rfl, _⟩ := h3
      generalize rs[q]!.2.length = nv at *
      generalize rs[q]!.1 = x at *
      clear h1 h2
      subst ea
      generalize (idsOf rs).take q = L at *
      have II' := II.out
      have hrow := Y.out.row
      have hq512 : L.length ≤ 512 := by have := LL.out; omega
      have hw0 := Y.out.gb.size
      go_wp2_with (first
        | (at_builtin; refine wpList_append_own_at _ rfl _ _ 23 rfl w.heap.size 3 i0 (.int .i64 0) 1 8 Tryz.underlying23 II'.1 II'.2.1 II'.2.2.1 II'.2.2.2 rfl (by decide) _ _ _ rfl (World.ownsRow.alloc (World.ownsRow.alloc hrow _) _) ⟨wr.heap.size + 1, 0, none⟩ 1 1 [.int .i64 x] rfl rfl (by first | exact cell_one_new _ _ _ | (intro j u hu; rw [Addr.add_lit]; rcases j with _ | j <;> simp at hu; subst hu; simp [go_sem])) (ints_oneCell .i64 [x]) (by unfold maxLen; omega) (by omega) (by simp; omega) ?_; intro v' w2 hown' hgrow2 hnil2 hloc)
        | go_in)
      have YN := ((Y.out.alloc (.cells #[.int .i64 x, .slice pv nv cv] 55)).alloc (.cells #[.int .i64 x] 3)).next hown' hgrow2
      rw [← NX.out] at YN
      clear hown' hgrow2 hloc hnil2 hrow
      go_roundw
      case rel => exact ⟨q + 1, by go_num, hqn, YN⟩
      case measure => simp [intOf]; omega
    · have hqi : ¬ (q : Int) < (n : Int) := by omega
      have hL : (idsOf rs).take q = idsOf rs := List.take_of_length_le (by unfold idsOf; rw [List.length_map]; have := N.out; omega)
      have Y' := Y.out
      rw [hL] at Y'
      have c67 := sort_c Y'.row (by unfold idsOf; rw [List.length_map]; have := N.out; omega) Y'.gb.size
      have Y2 : Hid (Gb w wr) := Y'.gb
      clear Y Y' hL
      go_wp2_with fail
      refine c67.mono ?_
      rintro e w2 ⟨rfl, ho, hb⟩
      go_wp2
      go_ret
      exact ⟨_, rfl, ho, Y2.out.trans hb⟩

/-- What is not looked at: nothing, or one region with all their ids. -/
def Rest (w w' : World) (v : Value) (rs : List Rw) : Prop := Gb w w' ∧ ((rs = [] ∧ v = .slice none 0 0) ∨ rs ≠ [] ∧ ∃ vi g, v = .slice (some ⟨g, 0, none⟩) 1 1 ∧ w.heap.size ≤ g ∧
  w'.heap[g]? = some (.cells #[.int .i64 1, .slice none 0 0, .slice none 0 0, .int .u64 0, .int .u64 0, vi] 63 (0, 0)) ∧ Own w' w.heap.size vi (srt (idsOf rs)))
set_option maxHeartbeats 1000000 in
theorem somewhere_c {w : World} {v : Value} {rs : List Rw} (h : RdW w v rs) (hlen : rs.length ≤ 512) :
    Calls Tryz.prog 45 #[v] w fun e w' => ∃ v', e = .returned v' ∧ Rest w w' v' rs := by
  have c := rising_c h hlen
  obtain ⟨a, cap, rfl, _⟩ := h
  by_cases h0 : rs = []
  · subst h0
    clear c
    go_enter Tryz.func45, Tryz.ntmps45
    go_wp2
    go_ret
    exact ⟨_, rfl, Below.refl _ _, .inl ⟨rfl, rfl⟩⟩
  · have R : Hid (rs ≠ []) := h0
    have hl : rs.length ≠ 0 := fun e => h0 (List.length_eq_zero_iff.1 e)
    have hl' : ((rs.length : Int) == 0) = false := by rw [beq_eq_false_iff_ne]; omega
    clear h0
    obtain ⟨n, hN⟩ : ∃ n, n = rs.length := ⟨_, rfl⟩
    rw [← hN] at hl' c ⊢
    clear hN hl hlen
    go_enter Tryz.func45, Tryz.ntmps45
    go_wp2_with fail
    refine c.mono ?_
    rintro e w' ⟨v', rfl, o, g⟩
    obtain ⟨p1, c1, rfl, _⟩ := o.rd
    generalize (srt (idsOf rs)).length = m at *
    go_wp2
    go_ret
    refine ⟨_, rfl, gb_alloc g _, .inr ⟨R.out, _, _, rfl, g.size, World.alloc_heap_new _ _, World.ownsRow.alloc o _⟩⟩
end Go.Proofs.YteaeaoekaoedoaaGreat
