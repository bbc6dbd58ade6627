/- A log's row of segments: what stands in it, a segment appended, the last one's number set. -/
import Derived.Test.YtcbhhdjjanekaaaGreatDoorWxWaA
import Derived.Laws.AppendOwnNone
namespace Go.Proofs.YtcbhhdjjanekaaaGreatDoor
open Go.RowKit Go.Lib Go.Maps

variable {w w' W W' : World} {a b : Nat} {L L' : Lg} {q q' : Dq} {E F G : Nat → Prop}
theorem Tryz.infoSg : (Tryz.prog.info? 75).map (fun i => (i.zero, i.size, i.bytes)) = some (some (.agg #[.int .i64 0, .int .i64 0]), 2, 16) := by kernel_rfl
theorem infoSg : ∃ i, Tryz.prog.info? 75 = some i ∧ i.zero = some (.agg #[.int .i64 0, .int .i64 0]) ∧ i.size = 2 ∧ i.bytes = 16 := info_parts Tryz.infoSg
theorem sg_get (l : List Sg) (i c : Nat) (hi : i < l.length) (hc : c < 2) : (l.flatMap sgV)[i * 2 + c]? = (sgV l[i]!)[c]? := by
  induction l generalizing i with
  | nil => exact absurd hi (Nat.not_lt_zero _)
  | cons a r ih =>
    rw [List.flatMap_cons]
    cases i with
    | zero =>
      rw [List.getElem?_append_left (by simp [sgV]; omega)]
      simp
    | succ i =>
      rw [List.getElem?_append_right (by simp [sgV]; omega)]
      have : (i + 1) * 2 + c - (sgV a).length = i * 2 + c := by simp [sgV]; omega
      rw [this, ih i (by simpa using hi)]
      simp
theorem sgV_one (l : List Sg) : ∀ u ∈ l.flatMap sgV, u.oneCell' = true := by
  intro u hu
  obtain ⟨p, _, h⟩ := List.mem_flatMap.1 hu
  simp only [sgV, List.mem_cons, List.not_mem_nil, or_false] at h
  rcases h with rfl | rfl <;> rfl
theorem SgR.cell {g off cap : Nat} {ss : List Sg} (h : SgR w g off cap ss) {i c : Nat} (hi : i < ss.length) (hc : c < 2) : w.cell? ⟨g, off + i * 2 + c, none⟩ = (sgV ss[i]!)[c]? := by
  obtain ⟨cur, h1, h2, h3, h4⟩ := h
  have e := sg_get ss i c hi hc
  rw [← h4, List.getElem?_take, if_pos (by omega), List.getElem?_drop] at e
  rw [← e]
  simp only [World.cell?, h1]
  simp [Nat.add_assoc]
theorem SgR.fz {g off cap : Nat} {ss : List Sg} (h : SgR w g off cap ss) (i : Nat) : w.frozen? ⟨g, i, none⟩ = false := by
  obtain ⟨cur, h1, _⟩ := h
  simp [World.frozen?, h1]
theorem app_room_off {P : Program} (t ty e : TypeId) (i : TypeInfo) (ht : P.underlying t = some (.slice e)) (hi : P.info? e = some i)
    (g off sLen sCap : Nat) (cur : Array Value) (hg : w.heap[g]? = some (.cells cur e (0, 0)))
    (a : Addr) (m c : Nat) (news : List Value) (hl : news.length = m * i.size) (hnews : ∀ j u, news[j]? = some u → w.cell? (a.add j) = some u) (h1 : ∀ u ∈ news, u.oneCell' = true)
    (hroom : sLen + m ≤ sCap) (hfit : off + sLen * i.size + news.length ≤ cur.size) :
    (Builtin.append_ #[t, t] ty #[.slice (some ⟨g, off, none⟩) sLen sCap, .slice (some a) m c]).run P w =
      .ok (.slice (some ⟨g, off, none⟩) (sLen + m) sCap) (w.setRow g (cur.toList.take (off + sLen * i.size) ++ news ++ cur.toList.drop (off + sLen * i.size + news.length)).toArray) := by
  have hf := run_firstCells_some (P := P) w i.size m a m c news hl hnews
  have hst := run_storeCells_at P g (off + sLen * i.size) e news 0 cur w hg (by simpa using hfit) h1
  simp only [Nat.add_zero] at hst
  simp [Builtin.append_, run_underlying ht, sizeOf, typeInfo, hi, Builtin.lenOf, hroom, hf, Addr.add_lit, hst]
theorem heap_setRow {g : Nat} {cs : Array Value} {cur : Array Value} {t : TypeId} {f : Nat × Nat} (h : w.heap[g]? = some (.cells cur t f)) : (w.setRow g cs).heap[g]? = some (.cells cs t f) := by
  simp only [World.setRow, Array.getElem?_modify, h]; simp
theorem heap_setRow_far {g k : Nat} {cs : Array Value} (h : k ≠ g) : (w.setRow g cs).heap[k]? = w.heap[k]? := by
  simp only [World.setRow, Array.getElem?_modify]; rw [if_neg (Ne.symm h)]
theorem size_setRow {g : Nat} {cs : Array Value} : (w.setRow g cs).heap.size = w.heap.size := by simp [World.setRow]
/-- A segment is appended. -/
theorem SgV.app {N : Nat → Prop} {sv : Value} {ss : List Sg} (h : SgV w sv ss N) (hlen : ss.length ≤ 1000000) {s : Nat} {x : Sg} (hc0 : w.cell? ⟨s, 0, none⟩ = some (.int .i64 x.1)) (hc1 : w.cell? ⟨s, 1, none⟩ = some (.int .i64 x.2)) :
    ∃ ao c w', (∀ ty, (Builtin.append_ #[76, 76] ty #[sv, .slice (some ⟨s, 0, none⟩) 1 1]).run Tryz.prog w = .ok (.slice ao (ss.length + 1) c) w') ∧ Kf N w w' ∧ SgV w' (.slice ao (ss.length + 1) c) (ss ++ [x]) (fun g => N g ∨ w.heap.size ≤ g ∧ g < w'.heap.size) := by
  obtain ⟨i0, hi, hz0, hz1, hz2⟩ := infoSg
  have hnews : ∀ j u, (sgV x)[j]? = some u → w.cell? ((⟨s, 0, none⟩ : Addr).add j) = some u := fun j u hj => by
    rw [Addr.add_lit, Nat.zero_add]
    match j with
    | 0 => simp [sgV] at hj; rw [hc0, hj]
    | 1 => simp [sgV] at hj; rw [hc1, hj]
    | j + 2 => simp [sgV] at hj
  have hl : (sgV x).length = 1 * i0.size := by rw [hz1]; rfl
  have hfx : (ss ++ [x]).flatMap sgV = ss.flatMap sgV ++ sgV x := by simp
  have fresh : ∀ (W : World) (cap : Nat) (zs : Array Value), ss.length + 1 ≤ cap → zs.size = (cap - (ss.length + 1)) * 2 → SgV (W.alloc (.cells ((ss.flatMap sgV).toArray ++ (sgV x).toArray ++ zs) 75)) (.slice (some ⟨W.heap.size, 0, none⟩) (ss.length + 1) cap) (ss ++ [x]) (fun g => N g ∨ W.heap.size ≤ g ∧ g < (W.alloc (.cells ((ss.flatMap sgV).toArray ++ (sgV x).toArray ++ zs) 75)).heap.size) := fun W cap zs h1 h2 => by
    refine .inr ⟨_, 0, cap, by rw [List.length_append]; rfl, .inr ⟨Nat.le_refl _, by simp⟩, _, heap_alloc_new _ _, by rw [List.length_append]; exact h1, ?_, ?_⟩
    · have := sgV_len ss
      simp [sgV, h2, this]; omega
    · have := sgV_len ss
      rw [hfx, List.drop_zero, List.length_append]
      simp only [Array.toList_append]
      rw [List.take_append_of_le_length (by simp [sgV, this]; omega), List.take_of_length_le (by simp [sgV, this]; omega)]
  rcases h with ⟨rfl, rfl⟩ | ⟨g, off, cap, rfl, hN, hR⟩
  · have hr := fun ty => run_append_nil (P := Tryz.prog) (w := w) 76 ty 75 i0 _ Tryz.underlying76 hi hz0 ⟨s, 0, none⟩ 1 1 (sgV x) hl hnews (by omega) (by omega) (by rw [hz2]; decide)
    refine ⟨_, _, _, fun ty => by simpa using hr ty, Kf.gb (gb_alloc (Below.refl _ w).drew _) _, ?_⟩
    have := fresh w.drew (grownCap w 1 0 75) (Builtin.zeroCells (Value.cells (.agg #[.int .i64 0, .int .i64 0])) (grownCap w 1 0 75 - 1)) (by have := grownCap_ge w 1 0 75; simpa using this) (by rw [size_zeroCells]; rfl)
    simpa using this
  · have hR' := hR
    obtain ⟨cur, h1, h2, h3, h4⟩ := hR
    by_cases hroom : ss.length + 1 ≤ cap
    · have hr := fun ty => app_room_off (P := Tryz.prog) (w := w) 76 ty 75 i0 Tryz.underlying76 hi g off ss.length cap cur h1 ⟨s, 0, none⟩ 1 1 (sgV x) hl hnews (by have := sgV_one [x]; simpa using this) hroom (by rw [hz1, h3]; simp only [sgV, List.length_cons, List.length_nil]; omega)
      refine ⟨_, _, _, hr, ⟨rfl, rfl, rfl, by rw [size_setRow]; exact Nat.le_refl _, fun k _ hk => heap_setRow_far fun e => hk (e ▸ hN)⟩, .inr ⟨g, off, cap, by rw [List.length_append]; rfl, .inl hN, _, heap_setRow h1, by rw [List.length_append]; exact hroom, ?_, ?_⟩⟩
      · have hcl : cur.toList.length = off + cap * 2 := by simpa using h3
        rw [hz1]
        simp [sgV, h3]; omega
      · have hcl : cur.toList.length = off + cap * 2 := by simpa using h3
        rw [hz1, hfx, ← h4]
        simp only [List.append_assoc]
        rw [List.drop_append_of_le_length (by simp [hcl] <;> omega), List.drop_take]
        rw [show off + ss.length * 2 - off = ss.length * 2 by omega, List.length_append]
        have el : ((cur.toList.drop off).take (ss.length * 2)).length = ss.length * 2 := by rw [h4, sgV_len]
        rw [show (ss.length + [x].length) * 2 = ((cur.toList.drop off).take (ss.length * 2)).length + 2 by rw [el]; simp only [List.length_cons, List.length_nil]; omega, List.take_length_add_append]
        rfl
    · have hr := fun ty => run_append_grow (P := Tryz.prog) (w := w) 76 ty 75 i0 _ Tryz.underlying76 hi hz0 ⟨g, off, none⟩ ss.length cap (ss.flatMap sgV) (by rw [hz1]; exact sgV_len ss) (fun j u hj => by
          have hjl : j < ss.length * 2 := by
            rcases Nat.lt_or_ge j (ss.length * 2) with h | h
            · exact h
            · rw [List.getElem?_eq_none (by rw [sgV_len]; exact h)] at hj; cases hj
          have := hR'.cell (i := j / 2) (c := j % 2) (by omega) (Nat.mod_lt _ (by omega))
          have e2 := sg_get ss (j / 2) (j % 2) (by omega) (Nat.mod_lt _ (by omega))
          rw [← e2] at this
          rw [Addr.add_lit]
          rw [show off + j / 2 * 2 + j % 2 = off + j by omega, show j / 2 * 2 + j % 2 = j by omega] at this
          rw [this]; exact hj) ⟨s, 0, none⟩ 1 1 (sgV x) hl hnews (by omega) (by omega) (growslice_fits (by omega) (by rw [hz2]; omega))
      refine ⟨_, _, _, hr, Kf.gb (gb_alloc (Below.refl _ w).drew _) _, ?_⟩
      have := fresh w.drew (grownCap w (ss.length + 1) cap 75) (Builtin.zeroCells (Value.cells (.agg #[.int .i64 0, .int .i64 0])) (grownCap w (ss.length + 1) cap 75 - (ss.length + 1))) (by have := grownCap_ge w (ss.length + 1) cap 75; simpa using this) (by rw [size_zeroCells]; rfl)
      simpa using this
/-- The row of a log: its cells, and the last number set. -/
theorem WaAt.row (h : WaAt w a b L q E) {m : Nat} (hm : L.sg.length = m + 1) : ∃ g off c, w.cell? ⟨a, 1, none⟩ = some (.slice (some ⟨g, off, none⟩) (m + 1) c) ∧ m + 1 ≤ c ∧ (∀ i, i < m + 1 → w.cell? ⟨g, off + i * 2, none⟩ = some (.int .i64 L.sg[i]!.1) ∧ w.cell? ⟨g, off + i * 2 + 1, none⟩ = some (.int .i64 L.sg[i]!.2)) ∧ (∀ i, w.frozen? ⟨g, i, none⟩ = false) ∧ g < w.heap.size ∧ E g ∧ g ≠ a ∧
    ∀ z, WaAt (w.setCell ⟨g, off + m * 2 + 1, none⟩ (.int .i64 z)) a b { L with sg := L.sg.dropLast ++ [(L.cur.1, z)] } q E := by
  obtain ⟨F, sv, h1, h2, h3, ⟨h4, h5, h6⟩, h7⟩ := h
  rcases h3 with ⟨_, e⟩ | ⟨g, off, cap, rfl, ⟨n1, n2, n3⟩, hR⟩
  · rw [e] at hm; simp at hm
  have hR' := hR
  obtain ⟨cur, k1, k2, k3, k4⟩ := hR
  have hg := (Array.getElem?_eq_some_iff.1 k1).1
  refine ⟨g, off, cap, by simp [World.cell?, h2, lgC, hm], by omega, fun i hi => ⟨?_, ?_⟩, hR'.fz, hg, n1, n3, fun z => ?_⟩
  · have := hR'.cell (i := i) (c := 0) (by omega) (by omega); rw [Nat.add_zero] at this; rw [this]; rfl
  · rw [hR'.cell (i := i) (c := 1) (by omega) (by omega)]; rfl
  have k := (Kf.refl (fun k => k = g) w).set (p := ⟨g, off + m * 2 + 1, none⟩) (fun _ => rfl) (.int .i64 z)
  have hne : L.sg ≠ [] := fun e => by rw [e] at hm; simp at hm
  have hlen : (L.sg.dropLast ++ [(L.cur.1, z)]).length = L.sg.length := by simp [hm]
  refine ⟨F, _, h1.kp k fun j e f => n2 (e ▸ f), (heap_set_far (Ne.symm n3)).trans h2, .inr ⟨g, off, cap, by rw [hlen], ⟨n1, n2, n3⟩, _, heap_set0 k1, by rw [hlen]; exact k2, by simpa using k3, ?_⟩, ⟨h4, h5, h6⟩, fun j e => Nat.lt_of_lt_of_le (h7 j e) k.size⟩
  have hsplit : L.sg = L.sg.dropLast ++ [L.cur] := by
    unfold Lg.cur
    rw [List.getLastD_eq_getLast?, List.getLast?_eq_some_getLast hne]
    exact (List.dropLast_concat_getLast hne).symm
  rw [hlen, hm, Array.toList_setIfInBounds, List.drop_set, if_neg (by omega), show off + m * 2 + 1 - off = m * 2 + 1 by omega, List.take_set]
  rw [hm] at k4
  rw [k4, hsplit]
  have hd : (L.sg.dropLast.flatMap sgV).length = m * 2 := by rw [sgV_len]; simp [hm]
  simp only [List.flatMap_append, List.flatMap_cons, List.flatMap_nil, List.append_nil, List.dropLast_concat]
  rw [List.set_append_right _ _ (by omega), hd]
  simp [sgV, show m * 2 + 1 - m * 2 = 1 by omega]
end Go.Proofs.YtcbhhdjjanekaaaGreatDoor
