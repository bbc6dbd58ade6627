import Derived.Test.YtbnljabeccebiaaGreatKrKdIr
import Derived.Test.YtbnljabeccebiaaGreatKr21
import Derived.Test.YtbnljabeccebiaaGreatKr24
/- slices.Delete at rows: one of them. -/
namespace Go.Proofs.YtbnljabeccebiaaGreat
open Go.RowKit Go.Sort

theorem del_cells {xs ys : List Value} {a k N : Nat} {cur c1 c2 : Array Value} (ha : a + k ≤ xs.length) (hN : N = xs.length - k) (hx : ∀ t, t < xs.length → cur[t]? = xs[t]?)
    (h1 : ∀ t, c1[t]? = if a ≤ t ∧ t < a + (xs.drop (a + k)).length then (xs.drop (a + k))[t - a]? else cur[t]?)
    (h2 : ∀ t, c2[t]? = if N ≤ t ∧ t < N + ys.length then ys[t - N]? else c1[t]?) : c2.toList.take N = xs.take a ++ xs.drop (a + k) := by
  rw [List.length_drop] at h1
  apply List.ext_getElem?
  intro t
  have hl1 : (xs.take a).length = a := by rw [List.length_take]; omega
  by_cases ht : t < N
  · rw [List.getElem?_take_of_lt ht, Array.getElem?_toList, h2 t, if_neg (by omega), h1 t]
    by_cases c : t < a
    · rw [if_neg (by omega), hx t (by omega), List.getElem?_append_left (by omega), List.getElem?_take_of_lt c]
    · rw [if_pos (by omega), List.getElem?_append_right (by omega), hl1]
  · rw [List.getElem?_eq_none (by rw [List.length_take]; omega), List.getElem?_eq_none (by rw [List.length_append, hl1, List.length_drop]; omega)]
theorem setCells_nil (w : World) (g o : Nat) : w.setCells g o [] = w := rfl
set_option maxHeartbeats 4000000 in
set_option maxRecDepth 100000 in
theorem delX_c {w : World} {g n cap i : Nat} {xs : List Value} (h : w.ownsRow 0 43 2 (.slice (some ⟨g, 0, none⟩) n cap) n xs) (hi : i < n) (hn : n ≤ 4000) (h1c : ∀ v ∈ xs, v.oneCell' = true) :
    Calls Tryz.prog 82 #[.slice (some ⟨g, 0, none⟩) n cap, .int .i64 (i : Int), .int .i64 ((i + 1 : Nat) : Int)] w fun e w' => e = .returned (.slice (some ⟨g, 0, none⟩) (n - 1) cap) ∧ w'.ownsRow 0 43 2 (.slice (some ⟨g, 0, none⟩) (n - 1) cap) (n - 1) (xs.take (i * 2) ++ xs.drop ((i + 1) * 2)) ∧ Tk.Kp (fun b => b = g) w w' := by
  obtain ⟨hxl, h⟩ := h
  rcases h with ⟨e, _⟩ | ⟨g', cap', cur, e, _, hg, hle, hmx, hsz, htk⟩
  · cases e
  cases e
  obtain ⟨i0, hi0, _, hzs, _⟩ := info_insR
  have mixed : Tryz.prog.follows Departure.mixedOrders = true := by kernel_rfl
  have hmx2 : cap ≤ 9223372036854775807 := by unfold maxLen at hmx; omega
  have hcs : ∀ j v, xs[j]? = some v → w.cell? ⟨g, j, none⟩ = some v := fun j v hj => by
    have hjl := (List.getElem?_eq_some_iff.1 hj).1
    rw [← htk, List.getElem?_take_of_lt (by omega), Array.getElem?_toList] at hj
    simp [World.cell?, hg, hj]
  have hdl : (xs.drop ((i + 1) * 2)).length = (n - (i + 1)) * 2 := by rw [List.length_drop, hxl]; omega
  have hap : ∀ (ty : TypeId) (a : Addr) (c : Nat), (i + 1 < n → a = ⟨g, (i + 1) * 2, none⟩) → (Builtin.append_ #[22, 22] ty #[.slice (some ⟨g, 0, none⟩) i cap, .slice (some a) (n - (i + 1)) c]).run Tryz.prog w.drew = .ok (.slice (some ⟨g, 0, none⟩) (n - 1) cap) (w.drew.setCells g (i * 2) (xs.drop ((i + 1) * 2))) := fun ty a c ha => by
    have := run_append_room_cells (P := Tryz.prog) w.drew 22 ty 43 i0 Tryz.underlying22 hi0 g 0 i cap a (n - (i + 1)) c (xs.drop ((i + 1) * 2)) (by rw [hdl, hzs]) (fun j u hj => by
      have hlt := (List.getElem?_eq_some_iff.1 hj).1
      rw [hdl] at hlt
      rw [ha (by omega), Addr.add_lit]
      exact hcs _ u (by rwa [List.getElem?_drop] at hj)) (fun v hv => h1c v (List.mem_of_mem_drop hv)) (by omega)
      (fun j hj => by rw [hdl] at hj; rw [hzs]; exact some_setCells g _ _ hg (by omega)) (fun j hj => by simp [World.frozen?, show w.drew.heap[g]? = _ from hg])
    rw [hzs, show i + (n - (i + 1)) = n - 1 by omega, Nat.zero_add] at this
    exact this
  obtain ⟨c1, e1, s1, f1⟩ := setCells_heap g 43 (0, 0) (xs.drop ((i + 1) * 2)) (i * 2) w.drew cur hg (by rw [hdl]; omega)
  have hcl := fun (c : Nat) (ty : TypeId) => clear_one (c := c) (ty := ty) (p := (n - 1) * 2) e1 (by omega)
  have FD : Hid (w.drew.setCells g (i * 2) (xs.drop ((i + 1) * 2)) |>.setCells g ((n - 1) * 2) [.int .i64 0, .slice none 0 0] |>.ownsRow 0 43 2 (.slice (some ⟨g, 0, none⟩) (n - 1) cap) (n - 1) (xs.take (i * 2) ++ xs.drop ((i + 1) * 2))) := by
    obtain ⟨c2, e2, s2, f2⟩ := setCells_heap g 43 (0, 0) [.int .i64 0, .slice none 0 0] ((n - 1) * 2) _ c1 e1 (by simp; omega)
    refine ⟨by rw [List.length_append, hdl, List.length_take]; omega, .inr ⟨g, cap, c2, rfl, Nat.zero_le _, e2, by omega, hmx, by omega, ?_⟩⟩
    have ee : (i + 1) * 2 = i * 2 + 2 := by omega
    rw [ee] at f1 ⊢
    exact del_cells (by omega) (by omega) (fun t ht => by rw [← htk, List.getElem?_take_of_lt (by omega), Array.getElem?_toList]) f1 f2
  have FK : Hid (Tk.Kp (fun b => b = g) w ((w.drew.setCells g (i * 2) (xs.drop ((i + 1) * 2))).setCells g ((n - 1) * 2) [.int .i64 0, .slice none 0 0])) := by
    have k0 : Tk.Kp (fun b => b = g) w w.drew := ⟨rfl, rfl, rfl, Nat.le_refl _, fun _ _ _ => rfl⟩
    exact kp_setCells (S := fun b => b = g) (.inl rfl) _ _ _ (kp_setCells (S := fun b => b = g) (.inl rfl) _ _ _ k0)
  have hz2 : ¬ ((i : Int) = (i : Int) + 1) := by omega
  have hb1 : (i : Int) + 1 ≤ (n : Int) := by omega
  have hb5 : (i : Int) ≤ (i : Int) + 1 := by omega
  have hb6 : (0 : Int) ≤ (i : Int) + 1 := by omega
  have hb2 : (n : Int) ≤ (cap : Int) := by omega
  have hb3 : (i : Int) ≤ (cap : Int) := by omega
  have hb4 : (i : Int) ≤ (n : Int) := by omega
  have hcn : ¬ cap = n - 1 := by omega
  have hci : ¬ cap = i := by omega
  have hnn : n - (n - 1) = 1 := by omega
  have hn1 : 1 ≤ n := by omega
  have hni : ¬ n = i := by omega
  have hii : i ≤ i + 1 := by omega
  have hdr : n = i + 1 → xs.drop ((i + 1) * 2) = [] := fun e => List.drop_of_length_le (by omega)
  clear hg htk hxl hcs hdl hsz hi0 hzs e1 s1 f1 hmx h1c
  by_cases hcc : cap = i + 1
  · have hin : n = i + 1 := by omega
    have hap2 := fun ty c => hap ty ⟨g, 0, none⟩ c (fun e => by omega)
    clear hap
    subst hcc hin
    simp only [Nat.sub_self, Nat.add_sub_cancel, hdr rfl, setCells_nil] at hap2 hcl FD FK ⊢
    clear hdr
    go_enter Tryz.func82, Tryz.ntmps82
    go_wp2
    go_region_law_o (refine step_append_k rfl _ _ 22 22 rfl _ _ (by simp [Act.eval, Act.put]) (by simp [Act.eval, Act.put]) (hap2 _ _) ?_)
    go_wp2
    go_ret
    exact ⟨rfl, FD.out, FK.out⟩
  · have hap2 := fun ty c => hap ty ⟨g, (i + 1) * 2, none⟩ c (fun _ => rfl)
    clear hap
    go_enter Tryz.func82, Tryz.ntmps82
    go_wp2
    go_region_law_o (refine step_append_k rfl _ _ 22 22 rfl (.slice (some ⟨g, 0, none⟩) i cap) (.slice (some ⟨g, (i + 1) * 2, none⟩) (n - (i + 1)) (cap - (i + 1))) (by simp [Act.eval, Act.put]) (by simp [Act.eval, Act.put]) (hap2 22 (cap - (i + 1))) ?_)
    go_wp2
    go_ret
    exact ⟨rfl, FD.out, FK.out⟩
end Go.Proofs.YtbnljabeccebiaaGreat

/- (*kdtree.Tree).remove, Delete. -/
namespace Go.Proofs.YtbnljabeccebiaaGreat
open Go.RowKit Go.Sort

theorem del_none {rs : List Rw} {id : Int} (h : hasId rs id = false) : delRw rs id = rs := by
  unfold hasId at h
  rw [List.any_eq_false] at h
  unfold delRw
  rw [List.filter_eq_self]
  intro y hy
  have := h y hy
  simpa using this
theorem remove_no {Iq : Nat → Prop} {w : World} {tb m leaf : Nat} {rs : List Rw} {F : List Nat} (h : TreeAt Iq w tb m leaf rs F) (id : Int) (hh : hasId rs id = false) :
    Calls Tryz.prog 48 #[.pointer (some ⟨tb, 0, none⟩), .int .i64 id] w fun e w' => e = .returned (.bool false) ∧ Gb w w' := by
  have gA : Gb w (w.alloc (.cells #[.int .i64 id] 3)) := gb_alloc (Below.refl _ _) _
  have cF := find_c (h.gb gA) id
  rw [hh] at cF
  have G : Hid (Gb w (w.alloc (.cells #[.int .i64 id] 3))) := gA
  generalize plc rs id = p at *
  clear h gA hh
  go_enter Tryz.func48, Tryz.ntmps48
  go_wp2_with fail
  go_fit cF
  rintro e w1 ⟨rfl, g1⟩
  have G2 : Hid (Gb w w1) := gb_trans G.out g1.gr
  clear cF g1 G
  go_wp2
  go_ret
  exact ⟨rfl, G2.out⟩
set_option maxHeartbeats 2000000 in
set_option maxRecDepth 100000 in
theorem remove_yes {Iq : Nat → Prop} {w : World} {tb m leaf : Nat} {rs : List Rw} {F : List Nat} (h : TreeAt Iq w tb m leaf rs F) (id : Int) (hh : hasId rs id = true) :
    Calls Tryz.prog 48 #[.pointer (some ⟨tb, 0, none⟩), .int .i64 id] w fun e w' => e = .returned (.bool true) ∧ TOut Iq w tb m leaf F (delRw rs id) w' := by
  have gA : Gb w (w.alloc (.cells #[.int .i64 id] 3)) := gb_alloc (Below.refl _ _) _
  have cF := find_c (h.gb gA) id
  rw [hh] at cF
  obtain ⟨g, cap, d, rt, F1, hb, hd, hdm, hri, hok0, hrt, eF, hnd, hm, hl1, hl2, nF1, ⟨rv0, er⟩, ltF, tF, gF, tg⟩ := h.open'
  obtain ⟨hp0, hp1⟩ := plc_has hri hh
  have hdl : d.length = rs.length := by rw [← hdm, List.length_map]
  obtain ⟨p, hp⟩ : ∃ p, p = plc rs id := ⟨_, rfl⟩
  simp only [← hp] at cF hp0 hp1
  have hpd : p < d.length := by omega
  have hpi : d[p].1 = id := by
    have : rs[p] = rwR d[p] := by simp only [← hdm, List.getElem_map]
    rw [this] at hp1
    exact hp1
  have xm := List.getElem_mem hpd
  obtain ⟨q1, q2⟩ := (rwAt_own hd.row).1.rd p hpd
  rw [Nat.zero_add] at q1 q2
  have hvx := hd.vec _ xm
  have efl := erase_filter hpd (by
    have := hok0.ids
    unfold idsOf at this
    rw [← hdm, List.map_map] at this
    exact this)
  have hmem : rwR d[p] ∈ rs := by rw [← hdm]; exact List.mem_map.2 ⟨_, xm, rfl⟩
  obtain ⟨x, hx⟩ : ∃ x, x = d[p] := ⟨_, rfl⟩
  rw [← hx] at q1 q2 hvx efl hmem hpi
  obtain ⟨xi, u, xl⟩ := x
  dsimp only at hpi q1 q2 hvx efl hmem
  have hpi2 := hpi.symm
  clear hpi
  subst hpi2
  obtain ⟨ua, uc, eu, _⟩ := hvx.rd
  subst eu
  have hxl : xl.length = m := by
    have := chk_ok (hok0.row _ hmem).2
    simp only [] at this
    omega
  have tl := (Array.getElem?_eq_some_iff.1 hb).1
  have gl := (hd.row.lt g rfl).2
  have hfew := hok0.few
  have hone : ∀ v ∈ d.flatMap encR, v.oneCell' = true := fun v hv => by
    obtain ⟨y, hy, hv⟩ := List.mem_flatMap.1 hv
    simp only [List.mem_cons, List.not_mem_nil, or_false] at hv
    rcases hv with rfl | rfl
    · rfl
    · exact own_one (hd.vec y hy).own
  have NDF : F1.Nodup := by rw [eF, List.nodup_cons, List.nodup_cons] at hnd; exact hnd.2.2
  generalize hnx : xl.length = nx at *
  obtain ⟨d', hd'⟩ : ∃ d' : List Rt, d' = d.eraseIdx p := ⟨_, rfl⟩
  have ld' : d'.length = d.length - 1 := by rw [hd']; exact List.length_eraseIdx_of_lt hpd
  have ed' : (d.flatMap encR).take (p * 2) ++ (d.flatMap encR).drop ((p + 1) * 2) = d'.flatMap encR := by
    rw [flat_takeR, flat_dropR, hd', List.eraseIdx_eq_take_drop_succ, List.flatMap_append]
  have md' : d'.map rwR = delRw rs id := by
    rw [hd', efl, hdm]; rfl
  have eaft : aft false (id, xl) rs = delRw rs id := by unfold aft delRw; rw [if_neg (by decide)]
  have hokD : RowsOk (delRw rs id) (m : Int) := hok0.sub List.filter_sublist
  have eg : ∀ args w, (callFunc 84 args).run Tryz.prog w = .ok (.enter 84 args) w := fun args w => by first | rfl | kernel_rfl | simp [go_sem]
  obtain ⟨nd, hnd'⟩ : ∃ nd, nd = d.length := ⟨_, rfl⟩
  have CD : Hid (∀ w1, Tk.Gw (w.alloc (.cells #[.int .i64 id] 3)) w1 → Calls Tryz.prog 82 #[.slice (some ⟨g, 0, none⟩) nd cap, .int .i64 (p : Int), .int .i64 ((p : Int) + 1)] (w1.alloc (.cells #[.int .i64 id, .slice ua nx uc] 43)) fun e w' => e = .returned (.slice (some ⟨g, 0, none⟩) (nd - 1) cap) ∧ w'.ownsRow 0 43 2 (.slice (some ⟨g, 0, none⟩) (nd - 1) cap) (nd - 1) (d'.flatMap encR) ∧ Tk.Kp (fun b => b = g) (w1.alloc (.cells #[.int .i64 id, .slice ua nx uc] 43)) w') := fun w1 g1 => by
    have gg : Gb w (w1.alloc (.cells #[.int .i64 id, .slice ua nx uc] 43)) := gb_alloc (gb_trans gA g1.gr) _
    have := delX_c (i := p) (ownR_kp hd.row (kpF gg) (fun _ _ h => h)) hpd (by omega) hone
    rw [ed', ← hnd'] at this
    exact this
  have C2 : Hid (∀ w1, Tk.Gw (w.alloc (.cells #[.int .i64 id] 3)) w1 → w1.cell? ⟨tb, 2, none⟩ = some (.slice (some ⟨g, 0, none⟩) nd cap) ∧ w1.cell? ⟨g, p * 2, none⟩ = some (.int .i64 id) ∧ w1.cell? ⟨g, p * 2 + 1, none⟩ = some (.slice ua nx uc) ∧ (w1.alloc (.cells #[.int .i64 id, .slice ua nx uc] 43)).cell? ⟨tb, 2, none⟩ = some (.slice (some ⟨g, 0, none⟩) nd cap)) := fun w1 g1 => by
    have gg := gb_trans gA g1.gr
    have c := gb_keeps gg (cell_cur (i := 2) hb rfl)
    rw [← hnd'] at c
    exact ⟨c, gb_keeps gg q1, gb_keeps gg q2, gb_keeps (gb_alloc (Below.refl _ _) _) c⟩
  have DX : Hid (∀ w1, Tk.Gw (w.alloc (.cells #[.int .i64 id] 3)) w1 → ∀ w2, w2.ownsRow 0 43 2 (.slice (some ⟨g, 0, none⟩) (nd - 1) cap) (nd - 1) (d'.flatMap encR) → Tk.Kp (fun b => b = g) (w1.alloc (.cells #[.int .i64 id, .slice ua nx uc] 43)) w2 → (∃ y, w2.cell? ⟨tb, 2, none⟩ = some y) ∧ w2.frozen? ⟨tb, 2, none⟩ = false ∧
      ((fun W => W.cell? ⟨w1.heap.size, 0, none⟩ = some (.int .i64 id) ∧ W.cell? ⟨w1.heap.size, 1, none⟩ = some (.slice ua nx uc) ∧ W.cell? ⟨tb, 1, none⟩ = some (.int .i64 (leaf : Int))) (w2.setCell ⟨tb, 2, none⟩ (.slice (some ⟨g, 0, none⟩) (nd - 1) cap)).drew) ∧ (w2.setCell ⟨tb, 2, none⟩ (.slice (some ⟨g, 0, none⟩) (nd - 1) cap)).drew.cell? ⟨tb, 3, none⟩ = some (.pointer rv0) ∧
      (Calls Tryz.prog 83 #[.pointer rv0, .agg #[.int .i64 id, .slice ua nx uc], .int .i64 (leaf : Int), .func (.func 84) #[] #[.pointer (some ⟨w.heap.size, 0, none⟩)]] (w2.setCell ⟨tb, 2, none⟩ (.slice (some ⟨g, 0, none⟩) (nd - 1) cap)).drew fun e w' => RtOut Iq (w2.setCell ⟨tb, 2, none⟩ (.slice (some ⟨g, 0, none⟩) (nd - 1) cap)).drew m F1 (delRw rs id) e w') ∧
      Hid (∀ e w4, RtOut Iq (w2.setCell ⟨tb, 2, none⟩ (.slice (some ⟨g, 0, none⟩) (nd - 1) cap)).drew m F1 (delRw rs id) e w4 → ∃ pv, e = .returned (.pointer pv) ∧ Hid (TOut Iq w tb m leaf F (delRw rs id) (w4.setCell ⟨tb, 3, none⟩ (.pointer pv))) ∧
        (((w2.setCell ⟨tb, 2, none⟩ (.slice (some ⟨g, 0, none⟩) (nd - 1) cap)).drew.cell? ⟨w1.heap.size, 0, none⟩ = some (.int .i64 id) → (w2.setCell ⟨tb, 2, none⟩ (.slice (some ⟨g, 0, none⟩) (nd - 1) cap)).drew.cell? ⟨w1.heap.size, 1, none⟩ = some (.slice ua nx uc) → (w2.setCell ⟨tb, 2, none⟩ (.slice (some ⟨g, 0, none⟩) (nd - 1) cap)).drew.cell? ⟨tb, 1, none⟩ = some (.int .i64 (leaf : Int)) → (fun W => W.cell? ⟨w1.heap.size, 0, none⟩ = some (.int .i64 id) ∧ W.cell? ⟨w1.heap.size, 1, none⟩ = some (.slice ua nx uc) ∧ W.cell? ⟨tb, 1, none⟩ = some (.int .i64 (leaf : Int))) w4) ∧ (w4.cell? ⟨w1.heap.size, 0, none⟩ = some (.int .i64 id) → w4.cell? ⟨w1.heap.size, 1, none⟩ = some (.slice ua nx uc) → w4.cell? ⟨tb, 1, none⟩ = some (.int .i64 (leaf : Int)) → (fun W => W.cell? ⟨w1.heap.size, 0, none⟩ = some (.int .i64 id) ∧ W.cell? ⟨w1.heap.size, 1, none⟩ = some (.slice ua nx uc) ∧ W.cell? ⟨tb, 1, none⟩ = some (.int .i64 (leaf : Int))) (w4.setCell ⟨tb, 3, none⟩ (.pointer pv)))) ∧
        (∃ y, w4.cell? ⟨tb, 3, none⟩ = some y) ∧ w4.frozen? ⟨tb, 3, none⟩ = false)) := by
    intro w1 g1 w2 ho hk
    subst hnd'
    have gw1 := gb_trans gA g1.gr
    have sw1 := gw1.size
    have sw0 := g1.gr.size
    rw [World.size_alloc] at sw0
    have gg : Gb w (w1.alloc (.cells #[.int .i64 id, .slice ua nx uc] 43)) := gb_alloc gw1 _
    have k0 : Tk.Kp (fun k => k = g) w w2 := (Tk.Kp.of_gr gg).trans hk
    have ni0 : NoInt w (fun k => k = g) := fun k e cur s hc => hd.noint k (by rw [e]; rfl) cur s hc
    have s2 := k0.size
    have sk := hk.size
    rw [World.size_alloc] at sk
    have hb2 : w2.heap[tb]? = some (.cells #[.int .i64 (m : Int), .int .i64 (leaf : Int), .slice (some ⟨g, 0, none⟩) d.length cap, rt] 83 (0, 0)) := by rw [k0.block tb tl tg]; exact hb
    have own2 : OwnRs Iq w2 (.slice (some ⟨g, 0, none⟩) (d.length - 1) cap) d' := ⟨by rw [ld']; exact ho, fun y hy => ownq_noint (hd.vec y (by rw [hd'] at hy; exact List.mem_of_mem_eraseIdx hy)) k0 ni0, hd.up.le k0.size⟩
    have hb3 : (w2.setCell ⟨tb, 2, none⟩ (.slice (some ⟨g, 0, none⟩) (d.length - 1) cap)).drew.heap[tb]? = some (.cells #[.int .i64 (m : Int), .int .i64 (leaf : Int), .slice (some ⟨g, 0, none⟩) (d.length - 1) cap, rt] 83 (0, 0)) := by
      show (w2.setCell ⟨tb, 2, none⟩ (.slice (some ⟨g, 0, none⟩) (d.length - 1) cap)).heap[tb]? = _
      simp [World.setCell, Array.getElem?_modify, hb2]
    have nb2 : NoInt w2 (fun k => k = tb) := fun k e cur s hc => by subst e; rw [hb2] at hc; simp at hc
    have k3 : Tk.Kp (fun k => k = tb) w2 (w2.setCell ⟨tb, 2, none⟩ (.slice (some ⟨g, 0, none⟩) (d.length - 1) cap)).drew := by
      have := (Tk.Kp.refl (fun k => k = tb) w2).setCell (.inl rfl) (p := ⟨tb, 2, none⟩) (.slice (some ⟨g, 0, none⟩) (d.length - 1) cap)
      exact ⟨this.os, this.tape, this.output, this.size, this.block⟩
    have k03 : Tk.Kp (fun k => k = g ∨ k = tb) w (w2.setCell ⟨tb, 2, none⟩ (.slice (some ⟨g, 0, none⟩) (d.length - 1) cap)).drew := (k0.mono (fun k _ h => .inl h)).trans (k3.mono (fun k _ h => .inr h))
    have ni : NoInt w (fun k => k = g ∨ k = tb) := fun k e cur s hc => by
      rcases e with e | e
      · exact hd.noint k (by rw [e]; rfl) cur s hc
      · subst e; rw [hb] at hc; simp at hc
    have hrt3 := hrt.kp k03 ni (fun x hx e => by rcases e with e | e; exact gF (e ▸ hx); exact tF (e ▸ hx))
    have own3 := own2.kp k3 nb2 (fun g e hg => by cases e; exact tg hg.symm)
    have c3 : ∀ b i y, w.heap.size ≤ b → (w1.alloc (.cells #[.int .i64 id, .slice ua nx uc] 43)).cell? ⟨b, i, none⟩ = some y → (w2.setCell ⟨tb, 2, none⟩ (.slice (some ⟨g, 0, none⟩) (d.length - 1) cap)).drew.cell? ⟨b, i, none⟩ = some y := fun b i y hb hc => k3.cell (hk.cell hc (by intro e; dsimp only at e; omega)) (by intro e; dsimp only at e; omega)
    have r0 := c3 w1.heap.size 0 (.int .i64 id) (by omega) (by simp [go_sem])
    have r1 := c3 w1.heap.size 1 (.slice ua nx uc) (by omega) (by simp [go_sem])
    have ri := c3 w.heap.size 0 (.int .i64 id) (by omega) (gb_keeps (gb_alloc g1.gr _) (by simp [go_sem]))
    have hcap : Cap Iq false (w2.setCell ⟨tb, 2, none⟩ (.slice (some ⟨g, 0, none⟩) (d.length - 1) cap)).drew w.heap.size (id, .slice ua nx uc, xl) := ⟨ri, fun e => (by cases e), ownq_noint hvx k03 ni, hd.up.le k03.size⟩
    rw [er] at hrt3
    have cM := root_c hm ⟨hl1, hl2⟩ (chg_rem m w.heap.size (id, .slice ua nx uc, xl)) (hnx.trans hxl) eg hrt3 NDF (fun e => by have := ltF _ e; omega) hcap ⟨hok0.ids, by rw [if_neg (by decide)]; exact hmem⟩ hok0 (by rw [eaft]; exact hokD)
    rw [eaft] at cM
    refine ⟨⟨_, cell_cur hb2 rfl⟩, by simp [World.frozen?, hb2], ⟨r0, r1, cell_cur hb3 rfl⟩, by rw [← er]; exact cell_cur hb3 rfl, cM, ?_⟩
    rintro e w4 ⟨pv, F1', rfl, hrt4, nd4, l4, k4⟩
    have tl3 := (Array.getElem?_eq_some_iff.1 hb3).1
    have hb4 : w4.heap[tb]? = some (.cells #[.int .i64 (m : Int), .int .i64 (leaf : Int), .slice (some ⟨g, 0, none⟩) (d.length - 1) cap, rt] 83 (0, 0)) := by rw [k4.block tb tl3 tF]; exact hb3
    have s3 := k03.size
    refine ⟨pv, rfl, ?_, ⟨fun a b c => ⟨?_, ?_, ?_⟩, fun a b c => ⟨?_, ?_, ?_⟩⟩, ⟨_, cell_cur hb4 rfl⟩, by simp [World.frozen?, hb4]⟩
    · exact tree_fin hb3 ld'.symm own3 md' (del_ris id hri) hokD hrt4 (List.Perm.refl _) nd4 l4 k4 hrt3.noint gF tF tg (k03.mono (fun k _ h => by rcases h with h | h <;> rw [h, eF] <;> simp)) (fun y hy => by rw [eF]; simp [hy]) (by rw [eF]; exact .inl (by simp)) (by rw [eF]; simp) hm ⟨hl1, hl2⟩
    · exact k4.cell a (fun e => by have := ltF _ e; dsimp only at this; omega)
    · exact k4.cell b (fun e => by have := ltF _ e; dsimp only at this; omega)
    · exact k4.cell c tF
    · exact ((Tk.Kp.refl (fun k => k = tb) w4).setCell (.inl rfl) (.pointer pv)).cell a (by intro e; dsimp only at e; omega)
    · exact ((Tk.Kp.refl (fun k => k = tb) w4).setCell (.inl rfl) (.pointer pv)).cell b (by intro e; dsimp only at e; omega)
    · have hb5 : (w4.setCell ⟨tb, 3, none⟩ (.pointer pv)).heap[tb]? = some (.cells #[.int .i64 (m : Int), .int .i64 (leaf : Int), .slice (some ⟨g, 0, none⟩) (d.length - 1) cap, .pointer pv] 83 (0, 0)) := by simp [World.setCell, Array.getElem?_modify, hb4]
      exact cell_cur hb5 rfl
  have hpn : (p : Int) < (nd : Int) := by omega
  have hp63 : (p : Int) + 1 ≤ 9223372036854775807 := by omega
  have hn5 : nd ≤ 512 := by omega
  clear h hb hd hdm hri hok0 hrt hnd nF1 ltF tF gF tg hdl hone NDF hxl hfew eg hokD ed' ld' md' hd' hp gA hvx efl hmem hpd hx xm q1 q2 hp0 hp1 tl gl eaft hh hnx hnd'
  go_enter Tryz.func48, Tryz.ntmps48
  go_wp2_with fail
  go_fit cF
  rintro e w1 ⟨rfl, g1⟩
  obtain ⟨l2, q1, q2, l2a⟩ := C2.out _ g1
  have cD := CD.out _ g1
  have DD : Hid _ := DX.out _ g1
  clear cF g1 C2 CD DX
  go_wp2_with fail
  go_fit cD
  rintro e w2 ⟨rfl, ho, hk⟩
  obtain ⟨⟨y2, k2⟩, f2, FS3, root3, cM, FIN⟩ := DD.out _ ho hk
  clear cD ho hk DD
  go_wp2_with fail
  refine wp_region_held_drew (S := fun W => W.cell? ⟨w1.heap.size, 0, none⟩ = some (.int .i64 id) ∧ W.cell? ⟨w1.heap.size, 1, none⟩ = some (.slice ua nx uc) ∧ W.cell? ⟨tb, 1, none⟩ = some (.int .i64 (leaf : Int))) (by kernel_rfl) (FS3) (fun hHeld => ?_)
  refine wpAnyH_take (i := 0) (v := ?_) rfl (by kernel_rfl) (by kernel_rfl) (by kernel_rfl) (fun _ _ _ h => h) (Or.inl ⟨by rfl, ?_⟩) (by assumption) ?_
  rotate_left 1
  · (intro w hSw; (obtain ⟨s0, s1, s2⟩ := hSw); go_simp; try with_reducible rfl)
  try simp only [Act.put, List.getElem_toArray, List.getElem_cons_zero, List.setIfInBounds_toArray, List.set_cons_zero, List.set_cons_succ]
  refine wpAnyH_take (i := 1) (v := ?_) rfl (by kernel_rfl) (by kernel_rfl) (by kernel_rfl) (fun _ _ _ h => h) (Or.inl ⟨by rfl, ?_⟩) (by assumption) ?_
  rotate_left 1
  · (intro w hSw; (obtain ⟨s0, s1, s2⟩ := hSw); go_simp; try with_reducible rfl)
  try simp only [Act.put, List.getElem_toArray, List.getElem_cons_zero, List.getElem_cons_succ, List.setIfInBounds_toArray, List.set_cons_zero, List.set_cons_succ]
  refine wpAnyH_take (i := 2) (v := ?_) rfl (by kernel_rfl) (by kernel_rfl) (by kernel_rfl) (fun _ _ _ h => h) (Or.inl ⟨by rfl, ?_⟩) (by assumption) ?_
  rotate_left 1
  · (intro w hSw; (obtain ⟨s0, s1, s2⟩ := hSw); go_simp; try with_reducible rfl)
  try simp only [Act.put, List.getElem_toArray, List.getElem_cons_zero, List.getElem_cons_succ, List.setIfInBounds_toArray, List.set_cons_zero, List.set_cons_succ]
  refine wpAnyH_take (i := 3) (v := ?_) rfl (by kernel_rfl) (by kernel_rfl) (by kernel_rfl) (fun _ _ _ h => h) (Or.inl ⟨by rfl, ?_⟩) (by assumption) ?_
  rotate_left 1
  · (intro w hSw; (obtain ⟨s0, s1, s2⟩ := hSw); go_simp; try with_reducible rfl)
  try simp only [Act.put, List.getElem_toArray, List.getElem_cons_zero, List.getElem_cons_succ, List.setIfInBounds_toArray, List.set_cons_zero, List.set_cons_succ]
  refine wpAnyH_take (i := 5) (v := ?_) rfl (by kernel_rfl) (by kernel_rfl) (by kernel_rfl) (fun _ _ _ h => h) (Or.inl ⟨by rfl, ?_⟩) (by assumption) ?_
  rotate_left 1
  · (intro w hSw; (obtain ⟨s0, s1, s2⟩ := hSw); go_simp; try with_reducible rfl)
  try simp only [Act.put, List.getElem_toArray, List.getElem_cons_zero, List.getElem_cons_succ, List.setIfInBounds_toArray, List.set_cons_zero, List.set_cons_succ]
  refine wpAnyH_take (i := 6) (v := ?_) rfl (by kernel_rfl) (by kernel_rfl) (by kernel_rfl) (fun _ _ _ h => h) (Or.inl ⟨by rfl, ?_⟩) (by assumption) ?_
  rotate_left 1
  · (intro w hSw; (obtain ⟨s0, s1, s2⟩ := hSw); go_simp; try with_reducible rfl)
  try simp only [Act.put, List.getElem_toArray, List.getElem_cons_zero, List.getElem_cons_succ, List.setIfInBounds_toArray, List.set_cons_zero, List.set_cons_succ]
  refine wpAnyH_take (i := 7) (v := ?_) rfl (by kernel_rfl) (by kernel_rfl) (by kernel_rfl) (fun _ _ _ h => h) (Or.inl ⟨by rfl, ?_⟩) (by assumption) ?_
  rotate_left 1
  · (intro w hSw; (obtain ⟨s0, s1, s2⟩ := hSw); go_simp; try with_reducible rfl)
  try simp only [Act.put, List.getElem_toArray, List.getElem_cons_zero, List.getElem_cons_succ, List.setIfInBounds_toArray, List.set_cons_zero, List.set_cons_succ]
  refine wpAnyH_take (i := 8) (v := ?_) rfl (by kernel_rfl) (by kernel_rfl) (by kernel_rfl) (fun _ _ _ h => h) (Or.inl ⟨by rfl, ?_⟩) (by assumption) ?_
  rotate_left 1
  · (intro w hSw; (obtain ⟨s0, s1, s2⟩ := hSw); go_simp; try with_reducible rfl)
  try simp only [Act.put, List.getElem_toArray, List.getElem_cons_zero, List.getElem_cons_succ, List.setIfInBounds_toArray, List.set_cons_zero, List.set_cons_succ]
  refine wpAnyH_take (i := 9) (v := ?_) rfl (by kernel_rfl) (by kernel_rfl) (by kernel_rfl) (fun _ _ _ h => h) (Or.inl ⟨by rfl, ?_⟩) (by assumption) ?_
  rotate_left 1
  · (intro w hSw; (obtain ⟨s0, s1, s2⟩ := hSw); go_simp; try with_reducible rfl)
  try simp only [Act.put, List.getElem_toArray, List.getElem_cons_zero, List.getElem_cons_succ, List.setIfInBounds_toArray, List.set_cons_zero, List.set_cons_succ]
  refine wpAnyH_take (i := 10) (v := ?_) rfl (by kernel_rfl) (by kernel_rfl) (by kernel_rfl) (fun _ _ _ h => h) (Or.inl ⟨by rfl, ?_⟩) (by assumption) ?_
  rotate_left 1
  · (intro w hSw; (obtain ⟨s0, s1, s2⟩ := hSw); go_simp; try with_reducible rfl)
  try simp only [Act.put, List.getElem_toArray, List.getElem_cons_zero, List.getElem_cons_succ, List.setIfInBounds_toArray, List.set_cons_zero, List.set_cons_succ]
  refine wpAnyH_ready (rs := [4]) (by kernel_rfl) (by simp) ?_
  refine AllReadyH.cons rfl (fun K hK => ?_) AllReadyH.nil
  go_simp
  refine hK.out _ _ (⟨hHeld.1, hHeld.2.1, hHeld.2.2⟩) (fun hHeld => ?_)
  clear hK K
  try simp only [Act.put, List.getElem_toArray, List.getElem_cons_zero, List.getElem_cons_succ, List.setIfInBounds_toArray, List.set_cons_zero, List.set_cons_succ]
  refine wpAnyH_ready (rs := [11]) (by kernel_rfl) (by simp) ?_
  refine AllReadyH.cons rfl (fun K hK => ?_) AllReadyH.nil
  go_simp
  go_fit cM
  rintro e w4 hO
  obtain ⟨pv', rfl, FF, KS, ⟨y3, k3⟩, f3⟩ := FIN.out _ _ hO
  clear hO cM FIN
  refine hK.out _ _ (KS.1 hHeld.1 hHeld.2.1 hHeld.2.2) (fun hHeld => ?_)
  clear hK K
  try simp only [Act.put, List.getElem_toArray, List.getElem_cons_zero, List.getElem_cons_succ, List.setIfInBounds_toArray, List.set_cons_zero, List.set_cons_succ]
  refine wpAnyH_take (i := 12) (v := ?_) rfl (by kernel_rfl) (by kernel_rfl) (by kernel_rfl) (fun _ _ _ h => h) (Or.inl ⟨by rfl, ?_⟩) (by assumption) ?_
  rotate_left 1
  · (intro w hSw; (obtain ⟨s0, s1, s2⟩ := hSw); go_simp; try with_reducible rfl)
  try simp only [Act.put, List.getElem_toArray, List.getElem_cons_zero, List.getElem_cons_succ, List.setIfInBounds_toArray, List.set_cons_zero, List.set_cons_succ]
  refine wpAnyH_take (i := 13) (v := ?_) rfl (by kernel_rfl) (by kernel_rfl) (by kernel_rfl) (fun _ _ _ h => h) (Or.inl ⟨by rfl, ?_⟩) (by assumption) ?_
  rotate_left 1
  · (intro w hSw; (obtain ⟨s0, s1, s2⟩ := hSw); go_simp; try with_reducible rfl)
  try simp only [Act.put, List.getElem_toArray, List.getElem_cons_zero, List.getElem_cons_succ, List.setIfInBounds_toArray, List.set_cons_zero, List.set_cons_succ]
  refine wpAnyH_ready (rs := [14]) (by kernel_rfl) (by simp) ?_
  refine AllReadyH.cons rfl (fun K hK => ?_) AllReadyH.nil
  go_simp
  refine hK.out _ _ (KS.2 hHeld.1 hHeld.2.1 hHeld.2.2) (fun hHeld => ?_)
  clear hK K
  try simp only [Act.put, List.getElem_toArray, List.getElem_cons_zero, List.getElem_cons_succ, List.setIfInBounds_toArray, List.set_cons_zero, List.set_cons_succ]
  refine wpAnyH_done (by kernel_rfl) ?_ _
  clear hHeld KS FS3
  go_wp2
  go_ret
  exact ⟨rfl, FF.out⟩
theorem remove_c {Iq : Nat → Prop} {w : World} {tb m leaf : Nat} {rs : List Rw} {F : List Nat} (h : TreeAt Iq w tb m leaf rs F) (id : Int) :
    Calls Tryz.prog 48 #[.pointer (some ⟨tb, 0, none⟩), .int .i64 id] w fun e w' => e = .returned (.bool (hasId rs id)) ∧ TOut Iq w tb m leaf F (delRw rs id) w' := by
  cases hh : hasId rs id with
  | true => exact remove_yes h id hh
  | false =>
    refine (remove_no h id hh).mono ?_
    rintro e w' ⟨rfl, g⟩
    rw [del_none hh]
    exact ⟨rfl, F, h.gb g, fun y hy => .inl hy, Tk.Kp.of_gr g⟩
theorem delete_c {Iq : Nat → Prop} {w : World} {tb m leaf : Nat} {rs : List Rw} {F : List Nat} (h : TreeAt Iq w tb m leaf rs F) (id : Int) :
    Calls Tryz.prog 26 #[.pointer (some ⟨tb, 0, none⟩), .int .i64 id] w fun e w' => e = .returned (.tuple #[.bool (hasId rs id), .int .i64 0]) ∧ TOut Iq w tb m leaf F (delRw rs id) w' := by
  have cR := remove_c h id
  clear h
  generalize hasId rs id = hb at *
  go_enter Tryz.func26, Tryz.ntmps26
  go_wp2_with fail
  go_fit cR
  rintro e w1 ⟨rfl, hO⟩
  have H : Hid _ := hO
  clear hO cR
  go_wp2
  refine bodyPost_ret (v := .tuple #[.bool hb, .int .i64 0]) (by simp [results, Tryz.results26, go_sem]) rfl ?_
  exact ⟨rfl, H.out⟩
end Go.Proofs.YtbnljabeccebiaaGreat
