import Derived.Test.YtbnljabeccebiabGreatKs23
import Derived.Maps.AppendAt
import Derived.Test.YtbnljabeccebiabGreatKsKqPu
import Derived.Test.YtbnljabeccebiabGreatKs17
/- slices.Insert at numbers, one of them: wherever it goes, with room and without. -/
namespace Go.Proofs.YtbnljabeccebiabGreat
open Go.RowKit Go.Sort

theorem Tryz.info_insI : (Tryz.prog.info? 3).map (fun i => (i.zero, i.size, i.bytes)) = some (some (.int .i64 0), 1, 8) := by kernel_rfl
theorem info_insI : ∃ i0, Tryz.prog.info? 3 = some i0 ∧ i0.zero = some (.int .i64 0) ∧ i0.size = 1 ∧ i0.bytes = 8 := by
  have h := Tryz.info_insI
  cases hi : Tryz.prog.info? 3 with
  | none => rw [hi] at h; cases h
  | some i =>
    rw [hi] at h
    simp only [Option.map_some, Option.some.injEq, Prod.mk.injEq] at h
    exact ⟨i, rfl, h.1, h.2.1, h.2.2⟩
theorem size_insI (w : World) : (Go.sizeOf 3).run Tryz.prog w = .ok 1 w := by
  obtain ⟨i, hi, _, hs, _⟩ := info_insI
  simp [Go.sizeOf, typeInfo, hi, hs]
set_option maxHeartbeats 4000000 in
set_option maxRecDepth 100000 in
theorem insI_shift {w : World} {g n cap i vb : Nat} {cur : Array Value} {xs vs : List Value} {tv : TypeId} (hg : w.heap[g]? = some (.cells cur 3 (0, 0))) (hsz : cur.size = cap * 1) (hmx : cap ≤ 9223372036854775807) (htk : cur.toList.take (n * 1) = xs) (hi : i < n) (hroom : n + 1 ≤ cap)
    (hv : w.heap[vb]? = some (.cells vs.toArray tv (0, 0))) (hvl : vs.length = 1) (hne : vb ≠ g) (h1c : ∀ v ∈ xs, v.oneCell' = true) (h1v : ∀ v ∈ vs, v.oneCell' = true) :
    Calls Tryz.prog 42 #[.slice (some ⟨g, 0, none⟩) n cap, .int .i64 (i : Int), .slice (some ⟨vb, 0, none⟩) 1 1] w fun e w' => e = .returned (.slice (some ⟨g, 0, none⟩) (n + 1) cap) ∧ w' = (w.drew.setCells g ((i + 1)) (xs.drop (i))).setCells g (i) vs := by
  obtain ⟨i0, hi0, _, hzs, _⟩ := info_insI
  have hxl : xs.length = n * 1 := by rw [← htk, List.length_take, Array.length_toList]; omega
  have mixed : Tryz.prog.follows Departure.mixedOrders = true := by kernel_rfl
  have hz2 : ¬ ((i : Int) = (n : Int)) := by omega
  have hcell : ∀ t, t < cap * 1 → (w.cell? ⟨g, t, none⟩).isSome = true := fun t ht => some_setCells g _ _ hg (by omega)
  have hfz : ∀ t, w.frozen? ⟨g, t, none⟩ = false := fun t => by simp [World.frozen?, hg]
  have hcs : ∀ j v, xs[j]? = some v → w.cell? ⟨g, j, none⟩ = some v := fun j v hj => by
    have hjl := (List.getElem?_eq_some_iff.1 hj).1
    rw [← htk, List.getElem?_take_of_lt (by omega), Array.getElem?_toList] at hj
    simp [World.cell?, hg, hj]
  have hvs : ∀ j v, vs[j]? = some v → w.cell? ⟨vb, j, none⟩ = some v := fun j v hj => by simp [World.cell?, hv, hj]
  have hov : ∀ lb cb, (callFunc 83 #[.slice (some ⟨vb, 0, none⟩) 1 1, .slice (some ⟨g, (i + 1), none⟩) lb cb]).run Tryz.prog w = .ok (.value (.bool false)) w := fun lb cb => by
    rw [run_callFunc_extern Tryz.func83 (by kernel_rfl) (by kernel_rfl) (by kernel_rfl) (e := Extern.SlicesOverlaps.overlaps #[27, 27] #[4]) (by kernel_rfl),
      Lib.run_overlaps_apart w 27 4 3 Tryz.underlying27 1 size_insI ⟨vb, 0, none⟩ ⟨g, (i + 1), none⟩ 1 1 lb cb hne tv 3 1 (cap * 1) (by simp [World.shape?, hv, hvl]) (by simp [World.shape?, hg, hsz]) (by omega) (by simp [World.frozen?, hv]) (by simp [World.frozen?, hv])]
    rfl
  have hdl : (xs.drop (i)).length = (n - i) * 1 := by rw [List.length_drop, hxl]; omega
  have hw1 : IntKind.i64.wrap ((i : Int) + 1) = (i : Int) + 1 := by rw [IntKind.wrap_i64]; omega
  have hb1 : (0 : Int) ≤ (i : Int) + 1 := by omega
  have hin : i ≤ n := by omega
  have htn : ((i : Int) + 1).toNat = i + 1 := by omega
  have hb2 : ¬ (cap = i + 1) := by omega
  have hb3 : (i : Int) ≤ (n : Int) + 1 := by omega
  have hb4 : ¬ (cap = i) := by omega
  have hcp1 : ∀ ty dc sc, (Builtin.copy_ #[27, 27] ty #[.slice (some ⟨g, (i + 1), none⟩) (n - i) dc, .slice (some ⟨g, i, none⟩) (n + 1 - i) sc]).run Tryz.prog w.drew = .ok (goInt ((n - i : Nat))) (w.drew.setCells g ((i + 1)) (xs.drop (i))) := fun ty dc sc =>
    run_copy_k w.drew _ _ ty 3 i0 g ((i + 1)) (n - i) dc ⟨g, i, none⟩ (n + 1 - i) sc (n - i) (xs.drop (i)) Tryz.underlying27 hi0 (by simp only [Nat.min_def]; split <;> omega) (by rw [hdl, hzs])
      (fun j v hj => by rw [Addr.add_lit]; exact hcs (i + j) v (by rwa [List.getElem?_drop] at hj))
      (fun j hj => hcell _ (by omega)) (fun j hj => hfz _) (fun v hv => h1c v (List.mem_of_mem_drop hv))
  obtain ⟨W1, hW1⟩ : ∃ W1, W1 = w.drew.setCells g ((i + 1)) (xs.drop (i)) := ⟨_, rfl⟩
  obtain ⟨c1, e1, s1, _⟩ := setCells_heap g 3 (0, 0) (xs.drop (i)) ((i + 1)) w.drew cur hg (by rw [hdl]; omega)
  rw [← hW1] at e1
  have hcp2 : ∀ (W : World), (∀ x, W.cell? x = W1.cell? x) → (∀ x, W.frozen? x = W1.frozen? x) → ∀ ty dc, (Builtin.copy_ #[27, 27] ty #[.slice (some ⟨g, i, none⟩) (n + 1 - i) dc, .slice (some ⟨vb, 0, none⟩) 1 1]).run Tryz.prog W = .ok (goInt 1) (W.setCells g (i) vs) := fun W hWc hWf ty dc =>
    run_copy_k W _ _ ty 3 i0 g (i) (n + 1 - i) dc ⟨vb, 0, none⟩ 1 1 1 vs Tryz.underlying27 hi0 (by simp only [Nat.min_def]; split <;> omega) (by rw [hvl, hzs])
      (fun j v hj => by
        rw [Addr.add_lit, hWc, hW1, World.cell?_setCells_out g _ _ _ _ (fun h _ => absurd h hne), Nat.zero_add]
        exact hvs j v hj)
      (fun j hj => by rw [hWc]; exact some_setCells g _ _ e1 (by omega)) (fun j hj => by rw [hWf, hW1, World.frozen?_setCells]; exact hfz _) h1v
  rw [← hW1] at hcp1
  clear hg hv htk hxl hcs hvs hcell hfz e1 s1 hdl hsz hi0 hzs
  go_enter Tryz.func42, Tryz.ntmps42
  go_wp2_with (simp only [hov])
  go_region_law_o (refine step_copy_k rfl _ _ 27 27 rfl _ _ (by simp [Act.eval, Act.put]) (by simp [Act.eval, Act.put]) (hcp1 _ _ _) ?_)
  go_wp2_with (at_builtin; refine wp_copy_k _ rfl _ _ 27 27 rfl _ _ rfl rfl (hcp2 _ (fun _ => rfl) (fun _ => rfl) _ _) ?_)
  go_ret
  first | exact ⟨rfl, rfl⟩ | exact ⟨rfl, by rw [hW1]⟩
set_option maxHeartbeats 4000000 in
set_option maxRecDepth 100000 in
theorem insI_grow {w : World} {g n cap i vb : Nat} {cur : Array Value} {xs vs : List Value} {tv : TypeId} (hg : w.heap[g]? = some (.cells cur 3 (0, 0))) (hsz : cur.size = cap * 1) (htk : cur.toList.take (n * 1) = xs) (hi : i < n) (hnc : n ≤ cap) (hroom : cap < n + 1) (hn : n ≤ 100000)
    (hv : w.heap[vb]? = some (.cells vs.toArray tv (0, 0))) (hvl : vs.length = 1) (h1c : ∀ v ∈ xs, v.oneCell' = true) (h1v : ∀ v ∈ vs, v.oneCell' = true) :
    Calls Tryz.prog 42 #[.slice (some ⟨g, 0, none⟩) n cap, .int .i64 (i : Int), .slice (some ⟨vb, 0, none⟩) 1 1] w fun e w' => e = .returned (.slice (some ⟨w.heap.size, 0, none⟩) (n + 1) (grownCap w (n + 1) cap 3)) ∧
      w' = (((w.alloc (.cells ((xs.take (i)).toArray ++ Builtin.zeroCells (Value.cells (.int .i64 0)) (n + 1 - i) ++ Builtin.zeroCells (Value.cells (.int .i64 0)) (grownCap w (n + 1) cap 3 - (n + 1))) 3)).drew.setCells w.heap.size (i) vs).drew).setCells w.heap.size ((i + 1)) (xs.drop (i)) := by
  obtain ⟨i0, hi0, hz0, hzs, hzb⟩ := info_insI
  have hxl : xs.length = n * 1 := by rw [← htk, List.length_take, Array.length_toList]; omega
  have mixed : Tryz.prog.follows Departure.mixedOrders = true := by kernel_rfl
  have hz2 : ¬ ((i : Int) = (n : Int)) := by omega
  have hz3 : (cap : Int) < (n : Int) + 1 := by omega
  have hcs : ∀ j v, xs[j]? = some v → w.cell? ⟨g, j, none⟩ = some v := fun j v hj => by
    have hjl := (List.getElem?_eq_some_iff.1 hj).1
    rw [← htk, List.getElem?_take_of_lt (by omega), Array.getElem?_toList] at hj
    simp [World.cell?, hg, hj]
  have hvs : ∀ j v, vs[j]? = some v → w.cell? ⟨vb, j, none⟩ = some v := fun j v hj => by simp [World.cell?, hv, hj]
  have hbw : g < w.heap.size := (Array.getElem?_eq_some_iff.1 hg).1
  have hvw : vb < w.heap.size := (Array.getElem?_eq_some_iff.1 hv).1
  have hkk : (n : Int) + 1 - (i : Int) = ((n + 1 - i : Nat) : Int) := by omega
  have hik : i + (n + 1 - i) = n + 1 := by omega
  have hold : (Builtin.firstCells i0.size i (.slice (some ⟨g, 0, none⟩) i cap)).run Tryz.prog w.drew = .ok (xs.take (i)).toArray w.drew := by
    rw [hzs]
    exact run_firstCells_some w.drew 1 i ⟨g, 0, none⟩ i cap (xs.take (i)) (by rw [List.length_take]; omega) (fun j v hj => by
      rw [Addr.add_lit, Nat.zero_add]
      rw [List.getElem?_take] at hj
      split at hj
      · exact hcs j v hj
      · cases hj)
  have hrz : ∀ ty, (Builtin.append_ #[27, 3] ty #[.slice (some ⟨g, 0, none⟩) i cap, .int .i64 ((n : Int) + 1 - (i : Int))]).run Tryz.prog w =
      .ok (.slice (some ⟨w.heap.size, 0, none⟩) (n + 1) (grownCap w (n + 1) cap 3)) (w.drew.alloc (.cells ((xs.take (i)).toArray ++ Builtin.zeroCells (Value.cells (.int .i64 0)) (n + 1 - i) ++ Builtin.zeroCells (Value.cells (.int .i64 0)) (grownCap w (n + 1) cap 3 - (n + 1))) 3)) := fun ty => by
    have h := Lib.run_append_grow_zeros w 27 3 ty 3 i0 _ .i64 .i64 Tryz.underlying27 Tryz.underlying3 hi0 hz0 (some ⟨g, 0, none⟩) i cap (xs.take (i)) hold (n + 1 - i) (by omega) (by omega) (by omega) (by omega) (by rw [hzb]; omega) (by rw [hzb, hik]; exact growslice_fits hroom (by omega))
    rw [hik] at h
    rw [hkk]
    exact h
  obtain ⟨G, hG⟩ : ∃ G, G = grownCap w (n + 1) cap 3 := ⟨_, rfl⟩
  obtain ⟨ROW, hROW⟩ : ∃ ROW : Array Value, ROW = (xs.take (i)).toArray ++ Builtin.zeroCells (Value.cells (.int .i64 0)) (n + 1 - i) ++ Builtin.zeroCells (Value.cells (.int .i64 0)) (G - (n + 1)) := ⟨_, rfl⟩
  rw [← hG] at hrz ⊢
  rw [← hROW] at hrz ⊢
  have hRl : (n + 1) * 1 ≤ ROW.size := by
    rw [hROW]
    simp [Builtin.zeroCells, Value.cells]
    omega
  obtain ⟨W1, hW1⟩ : ∃ W1, W1 = w.drew.alloc (.cells ROW 3) := ⟨_, rfl⟩
  rw [← hW1] at hrz
  have hN : ∀ j, j < (n + 1) * 1 → (W1.cell? ⟨w.heap.size, j, none⟩).isSome = true := fun j hj => by
    rw [hW1, World.cell?_alloc_at (w := w.drew) ROW _ w.heap.size j rfl, Array.getElem?_eq_getElem (by omega)]; rfl
  have hNf : ∀ j, W1.frozen? ⟨w.heap.size, j, none⟩ = false := fun j => by rw [hW1]; exact World.frozen?_alloc_at (w := w.drew) ROW _ w.heap.size j rfl
  have hOb : ∀ j v, w.cell? ⟨g, j, none⟩ = some v → W1.cell? ⟨g, j, none⟩ = some v := fun j v h => by rw [hW1, World.cell?_alloc_past (w := w.drew) _ g j hbw]; exact h
  have hOv : ∀ j v, w.cell? ⟨vb, j, none⟩ = some v → W1.cell? ⟨vb, j, none⟩ = some v := fun j v h => by rw [hW1, World.cell?_alloc_past (w := w.drew) _ vb j hvw]; exact h
  have hcpA : ∀ (W : World), (∀ x, W.cell? x = W1.cell? x) → (∀ x, W.frozen? x = W1.frozen? x) → ∀ ty dc, (Builtin.copy_ #[27, 27] ty #[.slice (some ⟨w.heap.size, i, none⟩) (n + 1 - i) dc, .slice (some ⟨vb, 0, none⟩) 1 1]).run Tryz.prog W = .ok (goInt 1) (W.setCells w.heap.size (i) vs) := fun W hWc hWf ty dc =>
    run_copy_k W _ _ ty 3 i0 w.heap.size (i) (n + 1 - i) dc ⟨vb, 0, none⟩ 1 1 1 vs Tryz.underlying27 hi0 (by simp only [Nat.min_def]; split <;> omega) (by rw [hvl, hzs])
      (fun j v hj => by rw [Addr.add_lit, hWc, Nat.zero_add]; exact hOv _ v (hvs j v hj))
      (fun j hj => by rw [hWc]; exact hN _ (by omega)) (fun j hj => by rw [hWf]; exact hNf _) h1v
  have hGn : n + 1 ≤ G := by rw [hG]; exact grownCap_ge w _ _ _
  have hG63 : G ≤ 9223372036854775807 := by
    have := grownCap_le_maxLen w (n + 1) cap 3 (by unfold maxLen; omega)
    rw [← hG] at this
    unfold maxLen at this
    omega
  have hGi : ¬ (G = i) := by omega
  have hGim : ¬ (G = i + 1) := by omega
  have hci : ¬ (cap = i) := by omega
  have hbN : g ≠ w.heap.size := by omega
  have hdl : (xs.drop (i)).length = (n - i) * 1 := by rw [List.length_drop, hxl]; omega
  have hcpB : ∀ (W : World), (∀ x, W.cell? x = (W1.setCells w.heap.size (i) vs).cell? x) → (∀ x, W.frozen? x = (W1.setCells w.heap.size (i) vs).frozen? x) → ∀ ty dc sc, (Builtin.copy_ #[27, 27] ty #[.slice (some ⟨w.heap.size, (i + 1), none⟩) (n - i) dc, .slice (some ⟨g, i, none⟩) (n - i) sc]).run Tryz.prog W = .ok (goInt ((n - i : Nat))) (W.setCells w.heap.size ((i + 1)) (xs.drop (i))) := fun W hWc hWf ty dc sc =>
    run_copy_k W _ _ ty 3 i0 w.heap.size ((i + 1)) (n - i) dc ⟨g, i, none⟩ (n - i) sc (n - i) (xs.drop (i)) Tryz.underlying27 hi0 (by simp only [Nat.min_def]; split <;> omega) (by rw [hdl, hzs])
      (fun j v hj => by
        rw [Addr.add_lit, hWc, World.cell?_setCells_out _ _ _ _ _ (fun h _ => absurd h hbN)]
        exact hOb _ v (hcs (i + j) v (by rwa [List.getElem?_drop] at hj)))
      (fun j hj => by
        obtain ⟨c1, e1, s1, _⟩ := setCells_heap w.heap.size 3 (0, 0) vs (i) W1 ROW (by rw [hW1]; exact Array.getElem?_push_size) (by omega)
        rw [hWc]; exact some_setCells _ _ _ e1 (by omega))
      (fun j hj => by rw [hWf, World.frozen?_setCells]; exact hNf _) (fun v hv => h1c v (List.mem_of_mem_drop hv))
  subst hW1
  have hE1 : ∀ x, ((w.alloc (.cells ROW 3)).drew).cell? x = (w.drew.alloc (.cells ROW 3)).cell? x := fun x => rfl
  have hE2 : ∀ x, ((w.alloc (.cells ROW 3)).drew).frozen? x = (w.drew.alloc (.cells ROW 3)).frozen? x := fun x => rfl
  have hF1 : ∀ x, (((w.alloc (.cells ROW 3)).drew.setCells w.heap.size (i) vs).drew).cell? x = ((w.drew.alloc (.cells ROW 3)).setCells w.heap.size (i) vs).cell? x := fun x => rfl
  have hF2 : ∀ x, (((w.alloc (.cells ROW 3)).drew.setCells w.heap.size (i) vs).drew).frozen? x = ((w.drew.alloc (.cells ROW 3)).setCells w.heap.size (i) vs).frozen? x := fun x => rfl
  have hw1 : IntKind.i64.wrap ((i : Int) + 1) = (i : Int) + 1 := by rw [IntKind.wrap_i64]; omega
  have hb1 : (0 : Int) ≤ (i : Int) + 1 := by omega
  have hin : i ≤ n := by omega
  have htn : ((i : Int) + 1).toNat = i + 1 := by omega
  have hb3 : (i : Int) ≤ (n : Int) := by omega
  clear hkk hik hold hROW hG hRl hg hv htk hcs hvs hN hNf hOb hOv hdl hxl hsz hi0 hz0 hzs hzb
  go_enter Tryz.func42, Tryz.ntmps42
  go_wp2_with (first
    | (at_builtin; refine Lib.wpList_append_run _ rfl _ _ _ _ rfl _ _ rfl rfl _ _ (hrz _) ?_)
    | (at_builtin; refine wp_copy_k _ rfl _ _ 27 27 rfl _ _ rfl rfl (hcpA _ hE1 hE2 _ _) ?_)
    | (at_builtin; refine wp_copy_k _ rfl _ _ 27 27 rfl _ _ rfl rfl (hcpB _ (fun _ => rfl) (fun _ => rfl) _ _ _) ?_))
  go_region_law_o (refine step_copy_k rfl _ _ 27 27 rfl (.slice (some ⟨w.heap.size, (i + 1), none⟩) (n - i) (G - (i + 1))) (.slice (some ⟨g, i, none⟩) (n - i) (cap - i)) (by simp [Act.eval, Act.put]) (by simp [Act.eval, Act.put]) (hcpB _ hF1 hF2 3 (G - (i + 1)) (cap - i)) ?_)
  go_wp2
  go_ret
  exact ⟨rfl, rfl⟩

/-- What Insert tells: xs is there now, in the place that v had, or in a new one. -/
def InsO_insI (w : World) (v : Value) (n : Nat) (xs : List Value) (e : Ending) (w' : World) : Prop := ∃ g cap, e = .returned (.slice (some ⟨g, 0, none⟩) (n + 1) cap) ∧ w'.ownsRow 0 3 1 (.slice (some ⟨g, 0, none⟩) (n + 1) cap) (n + 1) xs ∧ Tk.Kp (fun b => v.ownBlock = some b) w w' ∧ (v.ownBlock = some g ∨ w.heap.size ≤ g)
set_option maxHeartbeats 4000000 in
set_option maxRecDepth 100000 in
theorem insI_end {w : World} {v : Value} {n vb : Nat} {xs vs : List Value} {tv : TypeId} (h : w.ownsRow 0 3 1 v n xs) (hn : n ≤ 100000) (hv : w.heap[vb]? = some (.cells vs.toArray tv (0, 0))) (hvl : vs.length = 1) (h1v : ∀ v ∈ vs, v.oneCell' = true) :
    Calls Tryz.prog 42 #[v, .int .i64 (n : Int), .slice (some ⟨vb, 0, none⟩) 1 1] w fun e w' => InsO_insI w v n (xs ++ vs) e w' := by
  obtain ⟨i0, hi0, hz0, hzs, hzb⟩ := info_insI
  have mixed : Tryz.prog.follows Departure.mixedOrders = true := by kernel_rfl
  have hvs : ∀ j v, vs[j]? = some v → w.cell? ((⟨vb, 0, none⟩ : Addr).add j) = some v := fun j v hj => by rw [Addr.add_lit, Nat.zero_add]; simp [World.cell?, hv, hj]
  have FO : Hid (∀ v' W', W'.ownsRow 0 3 1 v' (n + 1) (xs ++ vs) → w.grownBy W' v.ownBlock → (v' = .slice none 0 0 ↔ v = .slice none 0 0 ∧ 1 = 0) → (v'.ownBlock = v.ownBlock ∨ v'.ownBlock = some w.heap.size) → InsO_insI w v n (xs ++ vs) (.returned v') W') := by
    intro v' W' hown hgrow hnn hloc
    have h2 := hown
    rcases hown.2 with ⟨e, _⟩ | ⟨g, cap, cur, rfl, _⟩
    · exact absurd (hnn.1 e).2 (by decide)
    · refine ⟨g, cap, rfl, h2, ⟨hgrow.os, hgrow.tape, hgrow.output, hgrow.size, fun k hk hne => hgrow.block k hk (fun e => hne e.symm)⟩, ?_⟩
      rcases hloc with e | e
      · exact .inl e.symm
      · injection e with e
        exact .inr (by dsimp only at e; omega)
  obtain ⟨a, cap0, ev⟩ : ∃ a cap0, v = .slice a n cap0 := by
    rcases h.2 with ⟨rfl, h0⟩ | ⟨b, cap, cur, rfl, _⟩
    · exact ⟨none, 0, by rw [h0]⟩
    · exact ⟨_, cap, rfl⟩
  have hsp : ∃ q : Option (Nat × Nat), a = q.map fun x => ⟨x.1, x.2, none⟩ := by
    rcases h.2 with ⟨rfl, h0⟩ | ⟨b, cap, cur, rfl, _⟩
    · cases ev; exact ⟨none, rfl⟩
    · cases ev; exact ⟨some (b, 0), rfl⟩
  have hnc : n ≤ cap0 := by
    rcases h.2 with ⟨rfl, h0⟩ | ⟨b, cap, cur, rfl, _, _, hle, _⟩
    · cases ev; omega
    · cases ev; exact hle
  have hn0 : a = none → n = 0 := by
    rcases h.2 with ⟨rfl, h0⟩ | ⟨b, cap, cur, rfl, _, _, hle, _⟩
    · cases ev; exact fun _ => h0
    · cases ev; intro e; cases e
  subst ev
  have II : Hid (Tryz.prog.info? 3 = some i0 ∧ i0.zero = some (.int .i64 0) ∧ i0.size = 1 ∧ i0.bytes = 8) := ⟨hi0, hz0, hzs, hzb⟩
  have HO : Hid (w.ownsRow 0 3 1 (.slice a n cap0) n xs) := h
  clear hi0 hz0 hzs hzb h hv
  obtain ⟨q, rfl⟩ := hsp
  go_enter Tryz.func42, Tryz.ntmps42
  cases q with
  | none =>
    have h0 := hn0 rfl
    subst h0
    go_wp2_with (at_builtin; refine wpList_append_own_at _ rfl _ _ 27 rfl 0 3 i0 (.int .i64 0) 1 8 Tryz.underlying27 II.out.1 II.out.2.1 II.out.2.2.1 II.out.2.2.2 rfl (by decide) _ 0 xs rfl HO.out ⟨vb, 0, none⟩ 1 1 vs rfl hvl hvs h1v (by simp only [maxLen]; omega) (by omega) (Nat.zero_le _) ?_; intro v5 w5 hown5 hgrow5 hnil5 hloc5)
    have FF := FO.out _ _ hown5 hgrow5 hnil5 hloc5
    clear hown5 hgrow5 hnil5 hloc5 FO HO
    go_ret
    exact FF
  | some q =>
    obtain ⟨qb, qo⟩ := q
    dsimp only [Option.map] at *
    go_wp2_with (at_builtin; refine wpList_append_own_at _ rfl _ _ 27 rfl 0 3 i0 (.int .i64 0) 1 8 Tryz.underlying27 II.out.1 II.out.2.1 II.out.2.2.1 II.out.2.2.2 rfl (by decide) _ n xs rfl HO.out ⟨vb, 0, none⟩ 1 1 vs rfl hvl hvs h1v (by simp only [maxLen]; omega) (by omega) (Nat.zero_le _) ?_; intro v5 w5 hown5 hgrow5 hnil5 hloc5)
    all_goals
      have FF := FO.out _ _ hown5 hgrow5 hnil5 hloc5
      clear hown5 hgrow5 hnil5 hloc5 FO HO
      go_ret
      exact FF
theorem insI_c {w : World} {v : Value} {n vb i : Nat} {xs vs : List Value} {tv : TypeId} (h : w.ownsRow 0 3 1 v n xs) (hn : n ≤ 100000) (hi : i ≤ n) (hv : w.heap[vb]? = some (.cells vs.toArray tv (0, 0))) (hvl : vs.length = 1) (hne : v.ownBlock ≠ some vb) (h1c : ∀ v ∈ xs, v.oneCell' = true) (h1v : ∀ v ∈ vs, v.oneCell' = true) :
    Calls Tryz.prog 42 #[v, .int .i64 (i : Int), .slice (some ⟨vb, 0, none⟩) 1 1] w fun e w' => InsO_insI w v n (xs.take (i) ++ vs ++ xs.drop (i)) e w' := by
  by_cases hin : i = n
  · subst hin
    have hxl := h.1
    rw [List.take_of_length_le (by omega), List.drop_of_length_le (by omega), List.append_nil]
    exact insI_end h hn hv hvl h1v
  · have h0 := h
    obtain ⟨hxl, h⟩ := h
    rcases h with ⟨_, h0⟩ | ⟨g, cap, cur, rfl, _, hg, hle, hmx, hsz, htk⟩
    · omega
    · have hcur : ∀ t, t < i → cur[t]? = xs[t]? := fun t ht => by rw [← htk, List.getElem?_take_of_lt (by omega), Array.getElem?_toList]
      have hdl : (xs.drop (i)).length = (n - i) * 1 := by rw [List.length_drop, hxl]; omega
      have hea : (i + 1) = i + vs.length := by omega
      have hmx2 := hmx
      unfold maxLen at hmx2
      by_cases hr : n + 1 ≤ cap
      · refine (insI_shift hg hsz (by omega) htk (by omega) hr hv hvl (fun e => hne (by rw [e]; rfl)) h1c h1v).mono ?_
        rintro e w' ⟨rfl, rfl⟩
        obtain ⟨c1, e1, s1, f1⟩ := setCells_heap g 3 (0, 0) (xs.drop (i)) ((i + 1)) w.drew cur hg (by rw [hdl]; omega)
        obtain ⟨c2, e2, s2, f2⟩ := setCells_heap g 3 (0, 0) vs (i) _ c1 e1 (by omega)
        rw [hea] at f1
        refine ⟨g, cap, rfl, ⟨?_, .inr ⟨g, cap, c2, rfl, Nat.zero_le _, ?_, hr, hmx, by omega, ?_⟩⟩, ?_, .inl rfl⟩
        · rw [List.length_append, List.length_append, hdl, List.length_take]; omega
        · simpa using e2
        · exact ins_cells (by omega) (by omega) hcur f1 f2
        · have k0 : Tk.Kp (fun b => (Value.slice (some ⟨g, 0, none⟩) n cap).ownBlock = some b) w w.drew := ⟨rfl, rfl, rfl, Nat.le_refl _, fun _ _ _ => rfl⟩
          exact kp_setCells (S := fun b => (Value.slice (some ⟨g, 0, none⟩) n cap).ownBlock = some b) (.inl rfl) _ _ _ (kp_setCells (S := fun b => (Value.slice (some ⟨g, 0, none⟩) n cap).ownBlock = some b) (.inl rfl) _ _ _ k0)
      · refine (insI_grow hg hsz htk (by omega) hle (by omega) hn hv hvl h1c h1v).mono ?_
        rintro e w' ⟨rfl, rfl⟩
        have hG := grownCap_ge w (n + 1) cap 3
        have hG2 := grownCap_le_maxLen w (n + 1) cap 3 (by unfold maxLen; omega)
        generalize grownCap w (n + 1) cap 3 = G at *
        have hcc : ∀ t, t < i → ((xs.take (i)).toArray ++ Builtin.zeroCells (Value.cells (.int .i64 0)) (n + 1 - i) ++ Builtin.zeroCells (Value.cells (.int .i64 0)) (G - (n + 1)))[t]? = xs[t]? := fun t ht => by
          rw [Array.append_assoc, Array.getElem?_append_left (by simp; omega)]
          simp [ht]
        have hrs : ((xs.take (i)).toArray ++ Builtin.zeroCells (Value.cells (.int .i64 0)) (n + 1 - i) ++ Builtin.zeroCells (Value.cells (.int .i64 0)) (G - (n + 1))).size = G * 1 := by
          simp [Builtin.zeroCells, Value.cells]
          omega
        generalize ((xs.take (i)).toArray ++ Builtin.zeroCells (Value.cells (.int .i64 0)) (n + 1 - i) ++ Builtin.zeroCells (Value.cells (.int .i64 0)) (G - (n + 1))) = ROW at *
        obtain ⟨c1, e1, s1, f1⟩ := setCells_heap w.heap.size 3 (0, 0) vs (i) (w.alloc (.cells ROW 3)).drew ROW Array.getElem?_push_size (by omega)
        obtain ⟨c2, e2, s2, f2⟩ := setCells_heap w.heap.size 3 (0, 0) (xs.drop (i)) ((i + 1)) (((w.alloc (.cells ROW 3)).drew.setCells w.heap.size (i) vs).drew) c1 e1 (by rw [hdl]; omega)
        rw [hea] at f2
        refine ⟨w.heap.size, G, rfl, ⟨?_, .inr ⟨w.heap.size, G, c2, rfl, Nat.zero_le _, ?_, hG, hG2, by omega, ?_⟩⟩, ?_, .inr (Nat.le_refl _)⟩
        · rw [List.length_append, List.length_append, hdl, List.length_take]; omega
        · simpa using e2
        · exact ins_cells' (by omega) (by omega) hcc f1 f2
        · have k0 : Tk.Kp (fun b => (Value.slice (some ⟨g, 0, none⟩) n cap).ownBlock = some b) w (w.alloc (.cells ROW 3)).drew := Tk.Kp.of_gr ((Tk.Gw.refl w).alloc (.cells ROW 3)).gr.drew
          have k1 := kp_setCells (.inr (Nat.le_refl _)) vs (i) _ k0
          exact kp_setCells (.inr (Nat.le_refl _)) _ _ _ ⟨k1.os, k1.tape, k1.output, k1.size, k1.block⟩
end Go.Proofs.YtbnljabeccebiabGreat

/- A search of a tree, in memory. -/
namespace Go.Proofs.YtbnljabeccebiabGreat
open Go.RowKit Go.Sort

abbrev pcells (p : Pt) (vl vh vr : Value) : Array Value := #[.int .i64 2, vl, vh, .int .u64 0, .int .u64 0, .slice none 0 0, vr, .int .i64 p.cut.1, .int .i64 p.cut.2.1, .int .i64 p.cut.2.2, kidV (p.kids.map Prod.fst), kidV (p.kids.map Prod.snd)]
/-- Rows that can be read, in a slice with an address. -/
def RdWs (w : World) (v : Value) (rs : List Rw) : Prop := RdW w v rs ∧ ∃ g o cap, v = .slice (some ⟨g, o, none⟩) rs.length cap ∧ rs.length ≤ cap
/-- A tree that can be read. -/
def TrR (w0 : World) (T : Nat → Pt) : Nat → Nat → Prop
  | 0, _ => False
  | n + 1, b => ∃ vl vh vr, w0.heap[b]? = some (.cells (pcells (T b) vl vh vr) 100 (0, 0)) ∧ RdI w0 vl (T b).L ∧ RdI w0 vh (T b).H ∧ match (T b).kids with
    | none => RdWs w0 vr (T b).rs
    | some (l, h) => vr = .slice none 0 0 ∧ TrR w0 T n l ∧ TrR w0 T n h
theorem TrR.mono {w0 : World} {T : Nat → Pt} : ∀ {n b : Nat}, TrR w0 T n b → TrR w0 T (n + 1) b
  | 0, _, h => h.elim
  | n + 1, b, h => by
    obtain ⟨vl, vh, vr, h1, h2, h3, h4⟩ := h
    refine ⟨vl, vh, vr, h1, h2, h3, ?_⟩
    cases hk : (T b).kids with
    | none => rw [hk] at h4; exact h4
    | some lh =>
      obtain ⟨l, hh⟩ := lh
      rw [hk] at h4
      exact ⟨h4.1, TrR.mono h4.2.1, TrR.mono h4.2.2⟩
theorem own_rdw {Iq : Nat → Prop} {w : World} {v : Value} {d : List Rt} {g : Nat} (h : OwnRs Iq w v d) (hg : v.ownBlock = some g) : RdWs w v (d.map rwR) := by
  rcases h.row.2 with ⟨rfl, _⟩ | ⟨g', cap, cur, rfl, _, _, hle, _⟩
  · cases hg
  · have hx := (rwAt_own h.row).1.rd
    refine ⟨?_, g', 0, cap, by rw [List.length_map], by rw [List.length_map]; exact hle⟩
    exact RwRd.rdw hx (fun x hx => (h.vec x hx).rd)
theorem TrO.rd {Iq : Nat → Prop} {w : World} {T : Nat → Pt} : ∀ {n b : Nat} {F : List Nat}, TrO Iq w T n b F → TrR w T n b
  | 0, _, _, h => h.elim
  | n + 1, b, F, h => by
    obtain ⟨vl, vh, vr, hp, h⟩ := h
    refine ⟨vl, vh, vr, hp.blk, hp.low.rd, hp.high.rd, ?_⟩
    cases hk : (T b).kids with
    | none =>
      rw [hk] at h
      obtain ⟨d, g, h1, h2, h3, _⟩ := h
      rw [← h2]
      exact own_rdw h1 h3
    | some lh =>
      obtain ⟨l, hh⟩ := lh
      rw [hk] at h
      obtain ⟨h0, F1, F2, h1, h2, _⟩ := h
      exact ⟨h0, TrO.rd h1, TrO.rd h2⟩
/-- A part that the search has met, in block pb. -/
def MP (w0 W : World) (T : Nat → Pt) (N pb : Nat) (p : Pt) : Prop := ∃ vl vh vr, W.heap[pb]? = some (.cells (pcells p vl vh vr) 100 (0, 0)) ∧ RdI w0 vl p.L ∧ RdI w0 vh p.H ∧ match p.kids with
  | none => RdWs w0 vr p.rs
  | some (l, h) => vr = .slice none 0 0 ∧ TrR w0 T N l ∧ TrR w0 T N h
theorem TrR.mp {w0 W : World} {T : Nat → Pt} {N b : Nat} (h : TrR w0 T (N + 1) b) (g : Gb w0 W) : MP w0 W T N b (T b) := by
  obtain ⟨vl, vh, vr, h1, h2, h3, h4⟩ := h
  exact ⟨vl, vh, vr, by rw [g.block b (Array.getElem?_eq_some_iff.1 h1).1]; exact h1, h2, h3, h4⟩
theorem MP.kp {S : Nat → Prop} {w0 W W' : World} {T : Nat → Pt} {N pb : Nat} {p : Pt} (h : MP w0 W T N pb p) (k : Tk.Kp S W W') (hn : ¬ S pb) : MP w0 W' T N pb p := by
  obtain ⟨vl, vh, vr, h1, h2⟩ := h
  exact ⟨vl, vh, vr, by rw [k.block pb (Array.getElem?_eq_some_iff.1 h1).1 hn]; exact h1, h2⟩
theorem MP.gb {w0 W W' : World} {T : Nat → Pt} {N pb : Nat} {p : Pt} (h : MP w0 W T N pb p) (g : Gb W W') : MP w0 W' T N pb p := h.kp (kpF g) (fun h => h)

/-- A candidate: its part's block, the part. -/
abbrev encM (q : List Int) (x : Nat × Pt) : List Value := [.pointer (some ⟨x.1, 0, none⟩), .int .u64 (hi (bnd q x.2)), .int .u64 (lo (bnd q x.2))]
/-- The search in block sb: what has turned since w0 lies in blocks of its own. -/
structure SAt (w0 W : World) (T : Nat → Pt) (N sb hb k : Nat) (vq : Value) (q : List Int) (bud : Nat) (seen : List Rw) (O : List Nat) (M : List (Nat × Pt)) (vs vm vo vh : Value) : Prop where
  blk : W.heap[sb]? = some (.cells #[vq, .pointer (some ⟨hb, 0, none⟩), .int .i64 (bud : Int), vs, vm, vo] 71 (0, 0))
  sbB : w0.heap.size ≤ sb
  hbB : w0.heap.size ≤ hb
  has : Tk.Has W hb k vh (Tk.firsts k (hitsOf q seen))
  hhB : ∀ g, vh.ownBlock = some g → w0.heap.size ≤ g
  sn : Own W w0.heap.size vs (idsOf seen)
  mt : W.ownsRow w0.heap.size 102 3 vm M.length (M.flatMap (encM q))
  op : Own W w0.heap.size vo (O.map fun i : Nat => (i : Int))
  olt : ∀ i ∈ O, i < M.length
  prt : ∀ x ∈ M, MP w0 W T N x.1 x.2
  ne : ∀ g, vs.ownBlock = some g → vo.ownBlock ≠ some g
  gb : Gb w0 W
  q : RdI w0 vq q
  few : seen.length ≤ 512
  mfew : M.length ≤ 10000
theorem SAt.cells {w0 W : World} {T : Nat → Pt} {N sb hb k : Nat} {vq : Value} {q : List Int} {bud : Nat} {seen : List Rw} {O : List Nat} {M : List (Nat × Pt)} {vs vm vo vh : Value} (h : SAt w0 W T N sb hb k vq q bud seen O M vs vm vo vh) :
    W.cell? ⟨sb, 0, none⟩ = some vq ∧ W.cell? ⟨sb, 1, none⟩ = some (.pointer (some ⟨hb, 0, none⟩)) ∧ W.cell? ⟨sb, 2, none⟩ = some (.int .i64 (bud : Int)) ∧ W.cell? ⟨sb, 3, none⟩ = some vs ∧ W.cell? ⟨sb, 4, none⟩ = some vm ∧ W.cell? ⟨sb, 5, none⟩ = some vo ∧ ∀ i, W.frozen? ⟨sb, i, none⟩ = false :=
  ⟨cell_cur h.blk rfl, cell_cur h.blk rfl, cell_cur h.blk rfl, cell_cur h.blk rfl, cell_cur h.blk rfl, cell_cur h.blk rfl, fun i => by simp [World.frozen?, h.blk]⟩
theorem SAt.grow {w0 W W' : World} {T : Nat → Pt} {N sb hb k : Nat} {vq : Value} {q : List Int} {bud : Nat} {seen : List Rw} {O : List Nat} {M : List (Nat × Pt)} {vs vm vo vh : Value} (h : SAt w0 W T N sb hb k vq q bud seen O M vs vm vo vh) (g : Gb W W') : SAt w0 W' T N sb hb k vq q bud seen O M vs vm vo vh where
  blk := by rw [g.block sb (Array.getElem?_eq_some_iff.1 h.blk).1]; exact h.blk
  sbB := h.sbB
  hbB := h.hbB
  has := h.has.gr g
  hhB := h.hhB
  sn := own_kpI h.sn (kpF g) (fun _ _ h => h)
  mt := h.mt.kept (row := none) ⟨g.os, g.tape, g.output, g.size, fun k hk _ => g.block k hk⟩ (by cases vm.ownBlock <;> simp)
  op := own_kpI h.op (kpF g) (fun _ _ h => h)
  olt := h.olt
  prt := fun x hx => (h.prt x hx).gb g
  ne := h.ne
  gb := gb_trans h.gb g
  q := h.q
  few := h.few
  mfew := h.mfew
/-- The candidate at a place. -/
theorem flM_get (q : List Int) : ∀ (M : List (Nat × Pt)) (i j : Nat) (hi' : i < M.length), j < 3 → (M.flatMap (encM q))[i * 3 + j]? = (encM q M[i])[j]?
  | x :: r, 0, j, _, hj => by rw [List.flatMap_cons, List.getElem?_append_left (by simp; omega)]; simp
  | x :: r, i + 1, j, hi', hj => by
    rw [List.flatMap_cons, List.getElem?_append_right (by simp; omega)]
    have := flM_get q r i j (by simpa using hi') hj
    simp only [List.length_cons, List.length_nil, List.getElem_cons_succ]
    rw [← this]
    congr 1
    omega
theorem SAt.cand {w0 W : World} {T : Nat → Pt} {N sb hb k : Nat} {vq : Value} {q : List Int} {bud : Nat} {seen : List Rw} {O : List Nat} {M : List (Nat × Pt)} {vs vm vo vh : Value} (h : SAt w0 W T N sb hb k vq q bud seen O M vs vm vo vh) {i : Nat} (hi' : i < M.length) :
    ∃ mb mc, vm = .slice (some ⟨mb, 0, none⟩) M.length mc ∧ M.length ≤ mc ∧ W.cell? ⟨mb, i * 3, none⟩ = some (.pointer (some ⟨M[i].1, 0, none⟩)) ∧ W.cell? ⟨mb, i * 3 + 1, none⟩ = some (.int .u64 (hi (bnd q M[i].2))) ∧ W.cell? ⟨mb, i * 3 + 2, none⟩ = some (.int .u64 (lo (bnd q M[i].2))) := by
  rcases h.mt.2 with ⟨_, h0⟩ | ⟨mb, mc, cur, e, _, hh, hle, _, hsz, htk⟩
  · omega
  · have key : ∀ j, j < 3 → ∀ y, (encM q M[i])[j]? = some y → W.cell? ⟨mb, i * 3 + j, none⟩ = some y := fun j hj y hy => by
      rw [← flM_get q M i j hi' hj, ← htk, List.getElem?_take_of_lt (by omega), Array.getElem?_toList] at hy
      exact cell_cur hh hy
    exact ⟨mb, mc, e, hle, key 0 (by omega) _ rfl, key 1 (by omega) _ rfl, key 2 (by omega) _ rfl⟩
end Go.Proofs.YtbnljabeccebiabGreat

/- (*kdtree.search).order; slices.BinarySearchFunc by it. -/
namespace Go.Proofs.YtbnljabeccebiabGreat
open Go.RowKit Go.Sort

theorem nine_call {w0 W w' : World} {p0 p1 p2 p3 p4 : Addr} {v0 v1 v2 v3 v4 : Value} (g : Tk.Gw W w')
    (h : Tk.Gw w0 W ∧ W.cell? p0 = some v0 ∧ W.cell? p1 = some v1 ∧ W.cell? p2 = some v2 ∧ W.cell? p3 = some v3 ∧ W.cell? p4 = some v4) :
    Tk.Gw w0 w' ∧ w'.cell? p0 = some v0 ∧ w'.cell? p1 = some v1 ∧ w'.cell? p2 = some v2 ∧ w'.cell? p3 = some v3 ∧ w'.cell? p4 = some v4 := by
  obtain ⟨a, b0, b1, b2, b3, b4⟩ := h
  exact ⟨a.trans g, Tk.gr_keeps g.gr b0, Tk.gr_keeps g.gr b1, Tk.gr_keeps g.gr b2, Tk.gr_keeps g.gr b3, Tk.gr_keeps g.gr b4⟩
theorem nine_alloc {w0 W : World} {o : Obj} {p0 p1 p2 p3 p4 : Addr} {v0 v1 v2 v3 v4 : Value}
    (h : Tk.Gw w0 W ∧ W.cell? p0 = some v0 ∧ W.cell? p1 = some v1 ∧ W.cell? p2 = some v2 ∧ W.cell? p3 = some v3 ∧ W.cell? p4 = some v4) :
    Tk.Gw w0 (W.alloc o) ∧ (W.alloc o).cell? p0 = some v0 ∧ (W.alloc o).cell? p1 = some v1 ∧ (W.alloc o).cell? p2 = some v2 ∧ (W.alloc o).cell? p3 = some v3 ∧ (W.alloc o).cell? p4 = some v4 :=
  nine_call ((Tk.Gw.refl _).alloc _) h
set_option maxHeartbeats 2000000 in
set_option maxRecDepth 100000 in
theorem sorder_c {w : World} {sb mb n mc i j : Nat} {ah al bh bl : Int} (c4 : w.cell? ⟨sb, 4, none⟩ = some (.slice (some ⟨mb, 0, none⟩) n mc)) (hi' : i < n) (hj : j < n)
    (a1 : w.cell? ⟨mb, i * 3 + 1, none⟩ = some (.int .u64 ah)) (a2 : w.cell? ⟨mb, i * 3 + 2, none⟩ = some (.int .u64 al)) (b1 : w.cell? ⟨mb, j * 3 + 1, none⟩ = some (.int .u64 bh)) (b2 : w.cell? ⟨mb, j * 3 + 2, none⟩ = some (.int .u64 bl)) :
    Calls Tryz.prog 41 #[.pointer (some ⟨sb, 0, none⟩), .int .i64 (i : Int), .int .i64 (j : Int)] w fun e w' => e = .returned (.int .i64 (Tk.cor (Tk.cw bh bl ah al) (Tk.ci (i : Int) (j : Int)))) ∧ Tk.Gw w w' := by
  have hii : (i : Int) < (n : Int) := by omega
  have hji : (j : Int) < (n : Int) := by omega
  go_enter Tryz.func41, Tryz.ntmps41
  go_wp2
  have C : Tk.Gw w w := Tk.Gw.refl _
  go_region_held3 (fun w' => Tk.Gw w w' ∧ w'.cell? ⟨sb, 4, none⟩ = some (.slice (some ⟨mb, 0, none⟩) n mc) ∧ w'.cell? ⟨mb, i * 3 + 1, none⟩ = some (.int .u64 ah) ∧ w'.cell? ⟨mb, i * 3 + 2, none⟩ = some (.int .u64 al) ∧ w'.cell? ⟨mb, j * 3 + 1, none⟩ = some (.int .u64 bh) ∧ w'.cell? ⟨mb, j * 3 + 2, none⟩ = some (.int .u64 bl)) (first | (with_reducible exact nine_call (by assumption) (by assumption)) | (with_reducible assumption) | (with_reducible exact nine_alloc (by assumption)) | exact ⟨C.drew, c4, a1, a2, b1, b2⟩) (first | (go_at_call 82; refine (Tk.cmpw _ _ _ _ _).mono ?_; rintro e w' ⟨rfl, hg⟩) | (go_at_call 32; refine (Tk.compare_c _ _ _).mono ?_; rintro e w' ⟨rfl, rfl⟩) | (go_at_call 81; refine (Tk.or_new _ _ _).mono ?_; rintro e w' ⟨rfl, rfl⟩))
  all_goals
    go_wp2
    go_ret
    exact ⟨rfl, And.left (by assumption)⟩
set_option maxHeartbeats 2000000 in
set_option maxRecDepth 100000 in
/-- BinarySearchFunc at numbers: those ahead of the place p are below, the others above. -/
theorem bsi_c {w : World} {v : Value} {L : List Int} {sb p : Nat} {tg : Int} {cf : Int → Int} (hL : RdI w v L) (hn : L.length ≤ 100000) (hp : p ≤ L.length) (hlo : ∀ t (_ : t < L.length), t < p → cf L[t]! < 0) (hhi : ∀ t (_ : t < L.length), p ≤ t → 0 < cf L[t]!)
    (hc : ∀ W, Tk.Gw w W → ∀ t, t < L.length → Calls Tryz.prog 41 #[.pointer (some ⟨sb, 0, none⟩), .int .i64 L[t]!, .int .i64 tg] W fun e w' => e = .returned (.int .i64 (cf L[t]!)) ∧ Tk.Gw W w') :
    Calls Tryz.prog 40 #[v, .int .i64 tg, .func (.func 41) #[.pointer (some ⟨sb, 0, none⟩)] #[]] w fun e w' => e = .returned (.tuple #[.int .i64 (p : Int), .bool false]) ∧ Tk.Gw w w' := by
  obtain ⟨a, cap, rfl, hrd⟩ := hL
  have HD : Hid (∀ i, i < L.length → ∃ b o, a = some ⟨b, o, none⟩ ∧ w.cell? ⟨b, o + i, none⟩ = some (.int .i64 L[i]!)) := hrd
  have HC : Hid (∀ W, Tk.Gw w W → ∀ t, t < L.length → Calls Tryz.prog 41 #[.pointer (some ⟨sb, 0, none⟩), .int .i64 L[t]!, .int .i64 tg] W fun e w' => e = .returned (.int .i64 (cf L[t]!)) ∧ Tk.Gw W w') := hc
  have HP : Hid ((∀ t (_ : t < L.length), t < p → cf L[t]! < 0) ∧ (∀ t (_ : t < L.length), p ≤ t → 0 < cf L[t]!)) := ⟨hlo, hhi⟩
  obtain ⟨n, hN⟩ : ∃ n, n = L.length := ⟨_, rfl⟩
  have N : Hid (n = L.length) := hN
  rw [← hN] at hn hp ⊢
  clear hrd hc hlo hhi hN
  go_enter Tryz.func40, Tryz.ntmps40
  go_wp2
  go_loopw [9, 10] (fun iv jv W => ∃ i j : Nat, iv = .int .i64 (i : Int) ∧ jv = .int .i64 (j : Int) ∧ i ≤ p ∧ p ≤ j ∧ j ≤ n ∧ Hid (Tk.Gw w W)) (fun iv jv _ => (intOf jv).toNat - (intOf iv).toNat)
  case atStart => exact ⟨0, n, rfl, rfl, Nat.zero_le _, hp, Nat.le_refl _, Tk.Gw.refl _⟩
  case round =>
    obtain ⟨i, j, rfl, rfl, hip, hpj, hjn, X⟩ := hrel
    by_cases hlt : i < j
    · have hlti : (i : Int) < (j : Int) := by omega
      have hm : (i + j) / 2 < L.length := by have := N.out; omega
      obtain ⟨b, o, ea, k1⟩ := HD.out ((i + j) / 2) hm
      subst ea
      have k1 := Tk.gr_keeps X.out.gr k1
      have cF := HC.out wr X.out ((i + j) / 2) hm
      have hcs : (cf L[(i + j) / 2]! < 0 ∧ (i + j) / 2 < p) ∨ (¬ cf L[(i + j) / 2]! < 0 ∧ p ≤ (i + j) / 2) := by
        by_cases h : (i + j) / 2 < p
        · exact .inl ⟨HP.out.1 _ hm h, h⟩
        · exact .inr ⟨by have := HP.out.2 _ hm (by omega); omega, by omega⟩
      generalize L[(i + j) / 2]! = x at *
      generalize cf x = z at *
      clear hm
      rcases hcs with ⟨hz, hpm⟩ | ⟨hz, hpm⟩
      · go_wp2_with fail
        go_fit cF
        rintro e w' ⟨rfl, hg⟩
        have HG : Hid (Tk.Gw w w') := X.out.trans hg
        clear cF k1 hg X
        go_wp2
        go_roundw
        case rel => exact ⟨(i + j) / 2 + 1, j, by rw [show ((i : Int) + (j : Int)) / 2 + 1 = (((i + j) / 2 + 1 : Nat) : Int) by omega], rfl, by omega, hpj, hjn, HG.out⟩
        case measure => simp [intOf]; omega
      · go_wp2_with fail
        go_fit cF
        rintro e w' ⟨rfl, hg⟩
        have HG : Hid (Tk.Gw w w') := X.out.trans hg
        clear cF k1 hg X
        go_wp2
        go_roundw
        case rel => exact ⟨i, (i + j) / 2, rfl, by rw [show ((i : Int) + (j : Int)) / 2 = (((i + j) / 2 : Nat) : Int) by omega], hip, by omega, by omega, HG.out⟩
        case measure => simp [intOf]; omega
    · obtain rfl : j = i := by omega
      obtain rfl : p = j := by omega
      have hlti : ¬ (p : Int) < (p : Int) := by omega
      by_cases hjl : p < n
      · have hjli : (p : Int) < (n : Int) := by omega
        have hm : p < L.length := by have := N.out; omega
        obtain ⟨b, o, ea, k1⟩ := HD.out p hm
        subst ea
        have k1 := Tk.gr_keeps X.out.gr k1
        have cF := HC.out wr X.out p hm
        have hz := HP.out.2 p hm (Nat.le_refl _)
        generalize L[p]! = x at *
        generalize cf x = z at *
        have hz0 : (z == 0) = false := by rw [beq_eq_false_iff_ne]; omega
        clear hm hz
        go_wp2_with fail
        go_fit cF
        rintro e w' ⟨rfl, hg⟩
        have HG : Hid (Tk.Gw w w') := X.out.trans hg
        clear cF k1 hg X
        go_wp2
        exact bodyPost_ret (v := .tuple #[.int .i64 (p : Int), .bool false]) (by simp [results, Tryz.results40, go_sem]) rfl ⟨rfl, HG.out⟩
      · have hjli : ¬ (p : Int) < (n : Int) := by omega
        go_wp2
        exact bodyPost_ret (v := .tuple #[.int .i64 (p : Int), .bool false]) (by simp [results, Tryz.results40, go_sem]) rfl ⟨rfl, X.out⟩
end Go.Proofs.YtbnljabeccebiabGreat
