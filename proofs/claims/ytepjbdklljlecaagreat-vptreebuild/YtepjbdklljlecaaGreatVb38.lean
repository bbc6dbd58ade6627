import Derived.Test.YtepjbdklljlecaaGreatVb35
import Derived.Test.YtepjbdklljlecaaGreatVb31
import Derived.Test.YtepjbdklljlecaaGreatVb36
import Derived.Test.YtepjbdklljlecaaGreatVb20
/- slices.Delete at rows: one of them. -/
namespace Go.Proofs.YtepjbdklljlecaaGreat
open Go.RowKit Go.Sort

theorem del_cells {xs ys : List Value} {a k N : Nat} {cur c1 c2 : Array Value} (ha : a + k ≤ xs.length) (hN : N = xs.length - k) (hx : ∀ t, t < xs.length → cur[t]? = xs[t]?)
    (h1 : ∀ t, c1[t]? = if a ≤ t ∧ t < a + (xs.drop (a + k)).length then (xs.drop (a + k))[t - a]? else cur[t]?)
    (h2 : ∀ t, c2[t]? = if N ≤ t ∧ t < N + ys.length then ys[t - N]? else c1[t]?) : c2.toList.take N = xs.take a ++ xs.drop (a + k) := by
  rw [List.length_drop] at h1
  apply List.ext_getElem?
  intro t
  have hl1 : (xs.take a).length = a := by rw [List.length_take]; omega
  by_cases ht : t < N
  · rw [List.getElem?_take_of_lt ht, Array.getElem?_toList, h2 t, if_neg (by omega), h1 t]
    by_cases c : t < a
    · rw [if_neg (by omega), hx t (by omega), List.getElem?_append_left (by omega), List.getElem?_take_of_lt c]
    · rw [if_pos (by omega), List.getElem?_append_right (by omega), hl1]
  · rw [List.getElem?_eq_none (by rw [List.length_take]; omega), List.getElem?_eq_none (by rw [List.length_append, hl1, List.length_drop]; omega)]
theorem setCells_nil (w : World) (g o : Nat) : w.setCells g o [] = w := rfl
set_option maxHeartbeats 4000000 in
set_option maxRecDepth 100000 in
theorem delX_c {w : World} {g n cap i : Nat} {xs : List Value} (h : w.ownsRow 0 43 2 (.slice (some ⟨g, 0, none⟩) n cap) n xs) (hi : i < n) (hn : n ≤ 4000) (h1c : ∀ v ∈ xs, v.oneCell' = true) :
    Calls Tryz.prog 84 #[.slice (some ⟨g, 0, none⟩) n cap, .int .i64 (i : Int), .int .i64 ((i + 1 : Nat) : Int)] w fun e w' => e = .returned (.slice (some ⟨g, 0, none⟩) (n - 1) cap) ∧ w'.ownsRow 0 43 2 (.slice (some ⟨g, 0, none⟩) (n - 1) cap) (n - 1) (xs.take (i * 2) ++ xs.drop ((i + 1) * 2)) ∧ Tk.Kp (fun b => b = g) w w' := by
  obtain ⟨hxl, h⟩ := h
  rcases h with ⟨e, _⟩ | ⟨g', cap', cur, e, _, hg, hle, hmx, hsz, htk⟩
  · cases e
  cases e
  obtain ⟨i0, hi0, _, hzs, _⟩ := info_insR
  have mixed : Tryz.prog.follows Departure.mixedOrders = true := by kernel_rfl
  have hmx2 : cap ≤ 9223372036854775807 := by unfold maxLen at hmx; omega
  have hcs : ∀ j v, xs[j]? = some v → w.cell? ⟨g, j, none⟩ = some v := fun j v hj => by
    have hjl := (List.getElem?_eq_some_iff.1 hj).1
    rw [← htk, List.getElem?_take_of_lt (by omega), Array.getElem?_toList] at hj
    simp [World.cell?, hg, hj]
  have hdl : (xs.drop ((i + 1) * 2)).length = (n - (i + 1)) * 2 := by rw [List.length_drop, hxl]; omega
  have hap : ∀ (ty : TypeId) (a : Addr) (c : Nat), (i + 1 < n → a = ⟨g, (i + 1) * 2, none⟩) → (Builtin.append_ #[22, 22] ty #[.slice (some ⟨g, 0, none⟩) i cap, .slice (some a) (n - (i + 1)) c]).run Tryz.prog w.drew = .ok (.slice (some ⟨g, 0, none⟩) (n - 1) cap) (w.drew.setCells g (i * 2) (xs.drop ((i + 1) * 2))) := fun ty a c ha => by
    have := run_append_room_cells (P := Tryz.prog) w.drew 22 ty 43 i0 Tryz.underlying22 hi0 g 0 i cap a (n - (i + 1)) c (xs.drop ((i + 1) * 2)) (by rw [hdl, hzs]) (fun j u hj => by
      have hlt := (List.getElem?_eq_some_iff.1 hj).1
      rw [hdl] at hlt
      rw [ha (by omega), Addr.add_lit]
      exact hcs _ u (by rwa [List.getElem?_drop] at hj)) (fun v hv => h1c v (List.mem_of_mem_drop hv)) (by omega)
      (fun j hj => by rw [hdl] at hj; rw [hzs]; exact some_setCells g _ _ hg (by omega)) (fun j hj => by simp [World.frozen?, show w.drew.heap[g]? = _ from hg])
    rw [hzs, show i + (n - (i + 1)) = n - 1 by omega, Nat.zero_add] at this
    exact this
  obtain ⟨c1, e1, s1, f1⟩ := setCells_heap g 43 (0, 0) (xs.drop ((i + 1) * 2)) (i * 2) w.drew cur hg (by rw [hdl]; omega)
  have hcl := fun (c : Nat) (ty : TypeId) => clear_one (c := c) (ty := ty) (p := (n - 1) * 2) e1 (by omega)
  have FD : Hid (w.drew.setCells g (i * 2) (xs.drop ((i + 1) * 2)) |>.setCells g ((n - 1) * 2) [.int .i64 0, .slice none 0 0] |>.ownsRow 0 43 2 (.slice (some ⟨g, 0, none⟩) (n - 1) cap) (n - 1) (xs.take (i * 2) ++ xs.drop ((i + 1) * 2))) := by
    obtain ⟨c2, e2, s2, f2⟩ := setCells_heap g 43 (0, 0) [.int .i64 0, .slice none 0 0] ((n - 1) * 2) _ c1 e1 (by simp; omega)
    refine ⟨by rw [List.length_append, hdl, List.length_take]; omega, .inr ⟨g, cap, c2, rfl, Nat.zero_le _, e2, by omega, hmx, by omega, ?_⟩⟩
    have ee : (i + 1) * 2 = i * 2 + 2 := by omega
    rw [ee] at f1 ⊢
    exact del_cells (by omega) (by omega) (fun t ht => by rw [← htk, List.getElem?_take_of_lt (by omega), Array.getElem?_toList]) f1 f2
  have FK : Hid (Tk.Kp (fun b => b = g) w ((w.drew.setCells g (i * 2) (xs.drop ((i + 1) * 2))).setCells g ((n - 1) * 2) [.int .i64 0, .slice none 0 0])) := by
    have k0 : Tk.Kp (fun b => b = g) w w.drew := ⟨rfl, rfl, rfl, Nat.le_refl _, fun _ _ _ => rfl⟩
    exact kp_setCells (S := fun b => b = g) (.inl rfl) _ _ _ (kp_setCells (S := fun b => b = g) (.inl rfl) _ _ _ k0)
  have hz2 : ¬ ((i : Int) = (i : Int) + 1) := by omega
  have hb1 : (i : Int) + 1 ≤ (n : Int) := by omega
  have hb5 : (i : Int) ≤ (i : Int) + 1 := by omega
  have hb6 : (0 : Int) ≤ (i : Int) + 1 := by omega
  have hb2 : (n : Int) ≤ (cap : Int) := by omega
  have hb3 : (i : Int) ≤ (cap : Int) := by omega
  have hb4 : (i : Int) ≤ (n : Int) := by omega
  have hcn : ¬ cap = n - 1 := by omega
  have hci : ¬ cap = i := by omega
  have hnn : n - (n - 1) = 1 := by omega
  have hn1 : 1 ≤ n := by omega
  have hni : ¬ n = i := by omega
  have hii : i ≤ i + 1 := by omega
  have hdr : n = i + 1 → xs.drop ((i + 1) * 2) = [] := fun e => List.drop_of_length_le (by omega)
  clear hg htk hxl hcs hdl hsz hi0 hzs e1 s1 f1 hmx h1c
  by_cases hcc : cap = i + 1
  · have hin : n = i + 1 := by omega
    have hap2 := fun ty c => hap ty ⟨g, 0, none⟩ c (fun e => by omega)
    clear hap
    subst hcc hin
    simp only [Nat.sub_self, Nat.add_sub_cancel, hdr rfl, setCells_nil] at hap2 hcl FD FK ⊢
    clear hdr
    go_enter Tryz.func84, Tryz.ntmps84
    go_wp2
    go_region_law_o (refine step_append_k rfl _ _ 22 22 rfl _ _ (by simp [Act.eval, Act.put]) (by simp [Act.eval, Act.put]) (hap2 _ _) ?_)
    go_wp2
    go_ret
    exact ⟨rfl, FD.out, FK.out⟩
  · have hap2 := fun ty c => hap ty ⟨g, (i + 1) * 2, none⟩ c (fun _ => rfl)
    clear hap
    go_enter Tryz.func84, Tryz.ntmps84
    go_wp2
    go_region_law_o (refine step_append_k rfl _ _ 22 22 rfl (.slice (some ⟨g, 0, none⟩) i cap) (.slice (some ⟨g, (i + 1) * 2, none⟩) (n - (i + 1)) (cap - (i + 1))) (by simp [Act.eval, Act.put]) (by simp [Act.eval, Act.put]) (hap2 22 (cap - (i + 1))) ?_)
    go_wp2
    go_ret
    exact ⟨rfl, FD.out, FK.out⟩
end Go.Proofs.YtepjbdklljlecaaGreat

/- (*vptree.Tree).remove, Delete. -/
namespace Go.Proofs.YtepjbdklljlecaaGreat
open Go.RowKit Go.Sort

theorem del_none {rs : List Rw} {id : Int} (h : hasId rs id = false) : delRw rs id = rs := by
  unfold hasId at h
  rw [List.any_eq_false] at h
  unfold delRw
  rw [List.filter_eq_self]
  intro y hy
  have := h y hy
  simpa using this
theorem remove_no {Iq : Nat → Prop} {w : World} {tb m leaf : Nat} {rs : List Rw} {F : List Nat} (h : TreeAt Iq w tb m leaf rs F) (id : Int) (hh : hasId rs id = false) :
    Calls Tryz.prog 48 #[.pointer (some ⟨tb, 0, none⟩), .int .i64 id] w fun e w' => e = .returned (.bool false) ∧ Gb w w' := by
  have cF := find_c h id
  rw [hh] at cF
  generalize plc rs id = p at *
  clear h hh
  go_enter Tryz.func48, Tryz.ntmps48
  go_wp2_with fail
  go_fit cF
  rintro e w1 ⟨rfl, g1⟩
  have G2 : Hid (Gb w w1) := g1.gr
  clear cF g1
  go_wp2
  go_ret
  exact ⟨rfl, G2.out⟩
set_option maxHeartbeats 2000000 in
set_option maxRecDepth 100000 in
theorem remove_yes {Iq : Nat → Prop} {w : World} {tb m leaf : Nat} {rs : List Rw} {F : List Nat} (h : TreeAt Iq w tb m leaf rs F) (id : Int) (hh : hasId rs id = true) :
    Calls Tryz.prog 48 #[.pointer (some ⟨tb, 0, none⟩), .int .i64 id] w fun e w' => e = .returned (.bool true) ∧ TOut Iq w tb m leaf F (delRw rs id) w' := by
  have cF := find_c h id
  rw [hh] at cF
  obtain ⟨g, cap, sb, d, rt, F1, hb, hd, hdm, hri, hok0, hrt, eF, hnd, hm, hlf, nF1, _, ltF, ⟨tF, gF, sF, tg, ts, gs⟩, hS⟩ := h.open'
  obtain ⟨hp0, hp1⟩ := plc_has hri hh
  have hdl : d.length = rs.length := by rw [← hdm, List.length_map]
  obtain ⟨p, hp⟩ : ∃ p, p = plc rs id := ⟨_, rfl⟩
  simp only [← hp] at cF hp0 hp1
  have hpd : p < d.length := by omega
  have hpi : d[p].1 = id := by
    have : rs[p] = rwR d[p] := by simp only [← hdm, List.getElem_map]
    rw [this] at hp1
    exact hp1
  have xm := List.getElem_mem hpd
  obtain ⟨q1, q2⟩ := (rwAt_own hd.row).1.rd p hpd
  rw [Nat.zero_add] at q1 q2
  have hvx := hd.vec _ xm
  have efl := erase_filter hpd (by
    have := hok0.ids
    unfold idsOf at this
    rw [← hdm, List.map_map] at this
    exact this)
  have hmem : rwR d[p] ∈ rs := by rw [← hdm]; exact List.mem_map.2 ⟨_, xm, rfl⟩
  obtain ⟨rb, T, n, ert, ht, ok, pmr⟩ : ∃ rb T n, rt = .pointer (some ⟨rb, 0, none⟩) ∧ TrO Iq w T (n + 1) rb F1 ∧ OkP T m n (T rb) ∧ (rowsP T n (T rb)).Perm rs := by
    rcases hrt with ⟨e, _⟩ | h
    · rw [e] at hmem; cases hmem
    · exact h
  obtain ⟨RT, hRT⟩ : ∃ RT, RT = rowsP T n (T rb) := ⟨_, rfl⟩
  subst ert
  obtain ⟨x, hx⟩ : ∃ x, x = d[p] := ⟨_, rfl⟩
  rw [← hx] at q1 q2 hvx efl hmem hpi
  obtain ⟨xi, u, xl⟩ := x
  dsimp only at hpi q1 q2 hvx efl hmem
  have hpi2 := hpi.symm
  clear hpi
  subst hpi2
  obtain ⟨ua, uc, eu, _⟩ := hvx.rd
  subst eu
  have hcx : chk xl (m : Int) = 0 := (hok0.row _ hmem).2
  have tl := (Array.getElem?_eq_some_iff.1 hb).1
  have gl := (hd.row.lt g rfl).2
  have sl := hS.lt
  have hfew := hok0.few
  have hone : ∀ v ∈ d.flatMap encR, v.oneCell' = true := fun v hv => by
    obtain ⟨y, hy, hv⟩ := List.mem_flatMap.1 hv
    simp only [List.mem_cons, List.not_mem_nil, or_false] at hv
    rcases hv with rfl | rfl
    · rfl
    · exact own_one (hd.vec y hy).own
  have NDF : F1.Nodup := by rw [eF, List.nodup_cons, List.nodup_cons, List.nodup_cons] at hnd; exact hnd.2.2.2
  generalize hnx : xl.length = nx at *
  obtain ⟨d', hd'⟩ : ∃ d' : List Rt, d' = d.eraseIdx p := ⟨_, rfl⟩
  have ld' : d'.length = d.length - 1 := by rw [hd']; exact List.length_eraseIdx_of_lt hpd
  have ed' : (d.flatMap encR).take (p * 2) ++ (d.flatMap encR).drop ((p + 1) * 2) = d'.flatMap encR := by
    rw [flat_takeR, flat_dropR, hd', List.eraseIdx_eq_take_drop_succ, List.flatMap_append]
  have md' : d'.map rwR = delRw rs id := by
    rw [hd', efl, hdm]; rfl
  have eaft : aft false (id, xl) rs = delRw rs id := by unfold aft delRw; rw [if_neg (by decide)]
  have hokD : RowsOk (delRw rs id) (m : Int) := hok0.sub List.filter_sublist
  obtain ⟨nd, hnd'⟩ : ∃ nd, nd = d.length := ⟨_, rfl⟩
  have CD : Hid (∀ w1, Tk.Gw w w1 → Calls Tryz.prog 84 #[.slice (some ⟨g, 0, none⟩) nd cap, .int .i64 (p : Int), .int .i64 ((p : Int) + 1)] (w1.alloc (.cells #[.int .i64 id, .slice ua nx uc] 43)) fun e w' => e = .returned (.slice (some ⟨g, 0, none⟩) (nd - 1) cap) ∧ w'.ownsRow 0 43 2 (.slice (some ⟨g, 0, none⟩) (nd - 1) cap) (nd - 1) (d'.flatMap encR) ∧ Tk.Kp (fun b => b = g) (w1.alloc (.cells #[.int .i64 id, .slice ua nx uc] 43)) w') := fun w1 g1 => by
    have gg : Gb w (w1.alloc (.cells #[.int .i64 id, .slice ua nx uc] 43)) := gb_alloc g1.gr _
    have := delX_c (i := p) (ownR_kp hd.row (kpF gg) (fun _ _ h => h)) hpd (by omega) hone
    rw [ed', ← hnd'] at this
    exact this
  have C2 : Hid (∀ w1, Tk.Gw w w1 → w1.cell? ⟨tb, 3, none⟩ = some (.slice (some ⟨g, 0, none⟩) nd cap) ∧ w1.cell? ⟨g, p * 2, none⟩ = some (.int .i64 id) ∧ w1.cell? ⟨g, p * 2 + 1, none⟩ = some (.slice ua nx uc) ∧ (w1.alloc (.cells #[.int .i64 id, .slice ua nx uc] 43)).cell? ⟨tb, 3, none⟩ = some (.slice (some ⟨g, 0, none⟩) nd cap)) := fun w1 g1 => by
    have gg := g1.gr
    have c := gb_keeps gg (cell_cur (i := 3) hb rfl)
    rw [← hnd'] at c
    exact ⟨c, gb_keeps gg q1, gb_keeps gg q2, gb_keeps (gb_alloc (Below.refl _ _) _) c⟩
  have DX : Hid (∀ w1, Tk.Gw w w1 → ∀ w2, w2.ownsRow 0 43 2 (.slice (some ⟨g, 0, none⟩) (nd - 1) cap) (nd - 1) (d'.flatMap encR) → Tk.Kp (fun b => b = g) (w1.alloc (.cells #[.int .i64 id, .slice ua nx uc] 43)) w2 → (∃ y, w2.cell? ⟨tb, 3, none⟩ = some y) ∧ w2.frozen? ⟨tb, 3, none⟩ = false ∧
      ((fun W => W.cell? ⟨w1.heap.size, 0, none⟩ = some (.int .i64 id) ∧ W.cell? ⟨w1.heap.size, 1, none⟩ = some (.slice ua nx uc)) (w2.setCell ⟨tb, 3, none⟩ (.slice (some ⟨g, 0, none⟩) (nd - 1) cap)).drew) ∧ (w2.setCell ⟨tb, 3, none⟩ (.slice (some ⟨g, 0, none⟩) (nd - 1) cap)).drew.cell? ⟨tb, 4, none⟩ = some (.pointer (some ⟨rb, 0, none⟩)) ∧ (Calls Tryz.prog 85 #[.pointer (some ⟨tb, 0, none⟩), .pointer (some ⟨rb, 0, none⟩), .agg #[.int .i64 id, .slice ua nx uc]] (w2.setCell ⟨tb, 3, none⟩ (.slice (some ⟨g, 0, none⟩) (nd - 1) cap)).drew fun e w' => RmOut Iq (w2.setCell ⟨tb, 3, none⟩ (.slice (some ⟨g, 0, none⟩) (nd - 1) cap)).drew sb m F1 (aft false (id, xl) RT) e w') ∧
      Hid (∀ e w4, RmOut Iq (w2.setCell ⟨tb, 3, none⟩ (.slice (some ⟨g, 0, none⟩) (nd - 1) cap)).drew sb m F1 (aft false (id, xl) RT) e w4 → ∃ pv, e = .returned (.pointer pv) ∧ Hid (TOut Iq w tb m leaf F (delRw rs id) (w4.setCell ⟨tb, 4, none⟩ (.pointer pv))) ∧
        (((fun W => W.cell? ⟨w1.heap.size, 0, none⟩ = some (.int .i64 id) ∧ W.cell? ⟨w1.heap.size, 1, none⟩ = some (.slice ua nx uc)) (w2.setCell ⟨tb, 3, none⟩ (.slice (some ⟨g, 0, none⟩) (nd - 1) cap)).drew → (fun W => W.cell? ⟨w1.heap.size, 0, none⟩ = some (.int .i64 id) ∧ W.cell? ⟨w1.heap.size, 1, none⟩ = some (.slice ua nx uc)) w4) ∧ ((fun W => W.cell? ⟨w1.heap.size, 0, none⟩ = some (.int .i64 id) ∧ W.cell? ⟨w1.heap.size, 1, none⟩ = some (.slice ua nx uc)) w4 → (fun W => W.cell? ⟨w1.heap.size, 0, none⟩ = some (.int .i64 id) ∧ W.cell? ⟨w1.heap.size, 1, none⟩ = some (.slice ua nx uc)) (w4.setCell ⟨tb, 4, none⟩ (.pointer pv)))) ∧
        (∃ y, w4.cell? ⟨tb, 4, none⟩ = some y) ∧ w4.frozen? ⟨tb, 4, none⟩ = false)) := by
    intro w1 g1 w2 ho hk
    subst hnd'
    have sw1 := g1.gr.size
    have gg : Gb w (w1.alloc (.cells #[.int .i64 id, .slice ua nx uc] 43)) := gb_alloc g1.gr _
    have k0 : Tk.Kp (fun k => k = g) w w2 := (Tk.Kp.of_gr gg).trans hk
    have ni0 : NoInt w (fun k => k = g) := fun k e cur s hc => hd.noint k (by rw [e]; rfl) cur s hc
    have s2 := k0.size
    have sk := hk.size
    rw [World.size_alloc] at sk
    have hb2 : w2.heap[tb]? = some (.cells #[.int .i64 (m : Int), .int .i64 (leaf : Int), .pointer (some ⟨sb, 0, none⟩), .slice (some ⟨g, 0, none⟩) d.length cap, .pointer (some ⟨rb, 0, none⟩)] 84 (0, 0)) := by rw [k0.block tb tl tg]; exact hb
    have own2 : OwnRs Iq w2 (.slice (some ⟨g, 0, none⟩) (d.length - 1) cap) d' := ⟨by rw [ld']; exact ho, fun y hy => ownq_noint (hd.vec y (by rw [hd'] at hy; exact List.mem_of_mem_eraseIdx hy)) k0 ni0, hd.up.le k0.size⟩
    have hb3 : (w2.setCell ⟨tb, 3, none⟩ (.slice (some ⟨g, 0, none⟩) (d.length - 1) cap)).drew.heap[tb]? = some (.cells #[.int .i64 (m : Int), .int .i64 (leaf : Int), .pointer (some ⟨sb, 0, none⟩), .slice (some ⟨g, 0, none⟩) (d.length - 1) cap, .pointer (some ⟨rb, 0, none⟩)] 84 (0, 0)) := by
      show (w2.setCell ⟨tb, 3, none⟩ (.slice (some ⟨g, 0, none⟩) (d.length - 1) cap)).heap[tb]? = _
      simp [World.setCell, Array.getElem?_modify, hb2]
    have nb2 : NoInt w2 (fun k => k = tb) := fun k e cur s hc => by subst e; rw [hb2] at hc; simp at hc
    have k3 : Tk.Kp (fun k => k = tb) w2 (w2.setCell ⟨tb, 3, none⟩ (.slice (some ⟨g, 0, none⟩) (d.length - 1) cap)).drew := by
      have := (Tk.Kp.refl (fun k => k = tb) w2).setCell (.inl rfl) (p := ⟨tb, 3, none⟩) (.slice (some ⟨g, 0, none⟩) (d.length - 1) cap)
      exact ⟨this.os, this.tape, this.output, this.size, this.block⟩
    have k03 : Tk.Kp (fun k => k = g ∨ k = tb) w (w2.setCell ⟨tb, 3, none⟩ (.slice (some ⟨g, 0, none⟩) (d.length - 1) cap)).drew := (k0.mono (fun k _ h => .inl h)).trans (k3.mono (fun k _ h => .inr h))
    have ni : NoInt w (fun k => k = g ∨ k = tb) := fun k e cur s hc => by
      rcases e with e | e
      · exact hd.noint k (by rw [e]; rfl) cur s hc
      · subst e; rw [hb] at hc; simp at hc
    have ht3 := TrO.kp k03 ni _ _ _ ht (fun x hx e => by rcases e with e | e; exact gF (e ▸ hx); exact tF (e ▸ hx))
    have own3 := own2.kp k3 nb2 (fun g e hg => by cases e; exact tg hg.symm)
    have hS3 : SrcAt (w2.setCell ⟨tb, 3, none⟩ (.slice (some ⟨g, 0, none⟩) (d.length - 1) cap)).drew sb := kp_src hS k03 (fun e => e.elim (fun e => gs e.symm) (fun e => ts e.symm))
    have c3 : ∀ b i y, w.heap.size ≤ b → (w1.alloc (.cells #[.int .i64 id, .slice ua nx uc] 43)).cell? ⟨b, i, none⟩ = some y → (w2.setCell ⟨tb, 3, none⟩ (.slice (some ⟨g, 0, none⟩) (d.length - 1) cap)).drew.cell? ⟨b, i, none⟩ = some y := fun b i y hb hc => k3.cell (hk.cell hc (by intro e; dsimp only at e; omega)) (by intro e; dsimp only at e; omega)
    have r0 := c3 w1.heap.size 0 (.int .i64 id) (by omega) (by simp [go_sem])
    have r1 := c3 w1.heap.size 1 (.slice ua nx uc) (by omega) (by simp [go_sem])
    have cM := without_c (x := (id, .slice ua nx uc, xl)) hm hlf hcx n _ rb F1 T ht3 ok NDF tF sF (cell_cur hb3 rfl) (cell_cur hb3 rfl) hS3 (ownq_noint hvx k03 ni) (pmr.mem_iff.2 hmem) (hok0.perm pmr.symm)
    rw [← hRT] at cM
    refine ⟨⟨_, cell_cur hb2 rfl⟩, by simp [World.frozen?, hb2], ⟨r0, r1⟩, cell_cur hb3 rfl, cM, ?_⟩
    intro e w4 hO
    have k4 := hO.1
    have hS4 := hO.2.1
    obtain ⟨pv, F1', rfl, hrt4, nd4, l4⟩ := rt_out hO (R' := delRw rs id) (by rw [← eaft, hRT]; exact aft_perm pmr)
    have tl3 := (Array.getElem?_eq_some_iff.1 hb3).1
    have tn : ¬ (tb ∈ F1 ∨ tb = sb) := fun e => e.elim tF ts
    have hb4 : w4.heap[tb]? = some (.cells #[.int .i64 (m : Int), .int .i64 (leaf : Int), .pointer (some ⟨sb, 0, none⟩), .slice (some ⟨g, 0, none⟩) (d.length - 1) cap, .pointer (some ⟨rb, 0, none⟩)] 84 (0, 0)) := by rw [k4.block tb tl3 tn]; exact hb3
    have s3 := k03.size
    have s4 := k4.size
    have kb : Tk.Kp (fun k => k = tb) w4 (w4.setCell ⟨tb, 4, none⟩ (.pointer pv)) := (Tk.Kp.refl (fun k => k = tb) w4).setCell (.inl rfl) _
    have nb4 : NoInt w4 (fun k => k = tb) := fun k e cur s hc => by subst e; rw [hb4] at hc; simp at hc
    have hb5 : (w4.setCell ⟨tb, 4, none⟩ (.pointer pv)).heap[tb]? = some (.cells #[.int .i64 (m : Int), .int .i64 (leaf : Int), .pointer (some ⟨sb, 0, none⟩), .slice (some ⟨g, 0, none⟩) d'.length cap, .pointer pv] 84 (0, 0)) := by simp [World.setCell, Array.getElem?_modify, hb4, ld']
    have ni3 : NoInt (w2.setCell ⟨tb, 3, none⟩ (.slice (some ⟨g, 0, none⟩) (d.length - 1) cap)).drew (fun k => k ∈ F1 ∨ k = sb) := fun y hy cur s => hy.elim (fun e => ht3.noint y e cur s) (fun e => hS3.noint y e cur s)
    have own5 := (own3.kp k4 ni3 (fun g' e hg => by cases e; exact hg.elim gF gs)).kp kb nb4 (fun g' e hg => by cases e; exact tg hg.symm)
    rw [← ld'] at own5
    have hn4 : ∀ y, y ∈ F1' → y ≠ tb ∧ y ≠ g ∧ y ≠ sb := fun y hy => by
      rcases l4 y hy with h | h
      · exact ⟨fun e => tF (e ▸ h), fun e => gF (e ▸ h), fun e => sF (e ▸ h)⟩
      · have : w.heap.size ≤ y := by omega
        exact ⟨by omega, by omega, by omega⟩
    refine ⟨pv, rfl, ?_, ⟨fun a => ⟨?_, ?_⟩, fun a => ⟨?_, ?_⟩⟩, ⟨_, cell_cur hb4 rfl⟩, by simp [World.frozen?, hb4]⟩
    · refine tree_lay (F1' := F1') hb5 own5 md' (del_ris id hri) hokD (hrt4.kp kb nb4 (fun y hy => (hn4 y hy).1)) (List.Perm.refl _) ?_ (kp_src hS4 kb (fun e => ts e.symm)) ?_ ?_ hm hlf
      · rw [List.nodup_cons, List.nodup_cons, List.nodup_cons]
        refine ⟨fun e => ?_, fun e => ?_, fun e => (hn4 sb e).2.2 rfl, nd4⟩
        · simp only [List.mem_cons] at e
          rcases e with e | e | e
          · exact tg e
          · exact ts e
          · exact (hn4 tb e).1 rfl
        · simp only [List.mem_cons] at e
          rcases e with e | e
          · exact gs e
          · exact (hn4 g e).2.1 rfl
      · intro y hy
        simp only [List.mem_cons] at hy
        rw [eF]
        rcases hy with e | e | e | e
        · exact .inl (by simp [e])
        · exact .inl (by simp [e])
        · exact .inl (by simp [e])
        · rcases l4 y e with h | h
          · exact .inl (by simp [h])
          · exact .inr (by omega)
      · rw [eF]
        exact ((k03.mono (fun k _ h => by rcases h with h | h <;> rw [h] <;> simp)).trans (k4.mono (fun k _ h => by rcases h with h | h; exact (by simp [h]); rw [h]; simp))).trans (kb.mono (fun k _ h => by rw [h]; simp))
    · exact k4.cell a.1 (fun e => e.elim (fun e => by have := ltF _ e; dsimp only at this; omega) (fun e => by dsimp only at e; omega))
    · exact k4.cell a.2 (fun e => e.elim (fun e => by have := ltF _ e; dsimp only at this; omega) (fun e => by dsimp only at e; omega))
    · exact kb.cell a.1 (by intro e; dsimp only at e; omega)
    · exact kb.cell a.2 (by intro e; dsimp only at e; omega)
  have hpn : (p : Int) < (nd : Int) := by omega
  have hp63 : (p : Int) + 1 ≤ 9223372036854775807 := by omega
  have hn5 : nd ≤ 512 := by omega
  clear h hb hd hdm hri hok0 hrt hnd nF1 ltF tF gF sF tg ts gs hdl hone NDF hfew hokD ed' ld' md' hd' hp hvx efl hmem hpd hx xm q1 q2 hp0 hp1 tl gl sl eaft hh hnx hnd' hS ht ok pmr hcx hRT hm hlf
  go_enter Tryz.func48, Tryz.ntmps48
  go_wp2_with fail
  go_fit cF
  rintro e w1 ⟨rfl, g1⟩
  obtain ⟨l2, q1, q2, l2a⟩ := C2.out _ g1
  have cD := CD.out _ g1
  have DD : Hid _ := DX.out _ g1
  clear cF g1 C2 CD DX
  go_wp2_with fail
  go_fit cD
  rintro e w2 ⟨rfl, ho, hk⟩
  obtain ⟨⟨y2, k2⟩, f2, FS6, root3, cM, FIN⟩ := DD.out _ ho hk
  clear cD ho hk DD
  go_wp2_with fail
  refine wp_region_held_drew (S := fun W => W.cell? ⟨w1.heap.size, 0, none⟩ = some (.int .i64 id) ∧ W.cell? ⟨w1.heap.size, 1, none⟩ = some (.slice ua nx uc)) (by kernel_rfl) (FS6) (fun hHeld => ?_)
  refine wpAnyH_take (i := 0) (v := ?_) rfl (by kernel_rfl) (by kernel_rfl) (by kernel_rfl) (fun _ _ _ h => h) (Or.inl ⟨by rfl, ?_⟩) (by assumption) ?_
  rotate_left 1
  · (intro w hSw; (obtain ⟨s0, s1⟩ := hSw); go_simp; try with_reducible rfl)
  refine wpAnyH_take (i := 1) (v := ?_) rfl (by kernel_rfl) (by kernel_rfl) (by kernel_rfl) (fun _ _ _ h => h) (Or.inl ⟨by rfl, ?_⟩) (by assumption) ?_
  rotate_left 1
  · (intro w hSw; (obtain ⟨s0, s1⟩ := hSw); go_simp; try with_reducible rfl)
  refine wpAnyH_take (i := 2) (v := ?_) rfl (by kernel_rfl) (by kernel_rfl) (by kernel_rfl) (fun _ _ _ h => h) (Or.inl ⟨by rfl, ?_⟩) (by assumption) ?_
  rotate_left 1
  · (intro w hSw; (obtain ⟨s0, s1⟩ := hSw); go_simp; try with_reducible rfl)
  refine wpAnyH_take (i := 3) (v := ?_) rfl (by kernel_rfl) (by kernel_rfl) (by kernel_rfl) (fun _ _ _ h => h) (Or.inl ⟨by rfl, ?_⟩) (by assumption) ?_
  rotate_left 1
  · (intro w hSw; (obtain ⟨s0, s1⟩ := hSw); go_simp; try with_reducible rfl)
  refine wpAnyH_take (i := 4) (v := ?_) rfl (by kernel_rfl) (by kernel_rfl) (by kernel_rfl) (fun _ _ _ h => h) (Or.inl ⟨by rfl, ?_⟩) (by assumption) ?_
  rotate_left 1
  · (intro w hSw; (obtain ⟨s0, s1⟩ := hSw); go_simp; try with_reducible rfl)
  refine wpAnyH_take (i := 6) (v := ?_) rfl (by kernel_rfl) (by kernel_rfl) (by kernel_rfl) (fun _ _ _ h => h) (Or.inl ⟨by rfl, ?_⟩) (by assumption) ?_
  rotate_left 1
  · (intro w hSw; (obtain ⟨s0, s1⟩ := hSw); go_simp; try with_reducible rfl)
  refine wpAnyH_ready (rs := [5]) (by kernel_rfl) (by simp) ?_
  refine AllReadyH.cons rfl (fun K hK => ?_) AllReadyH.nil
  go_simp
  refine hK.out _ _ (⟨hHeld.1, hHeld.2⟩) (fun hHeld => ?_)
  clear hK K
  refine wpAnyH_ready (rs := [7]) (by kernel_rfl) (by simp) ?_
  refine AllReadyH.cons rfl (fun K hK => ?_) AllReadyH.nil
  go_simp
  go_fit cM
  rintro e w4 hO
  obtain ⟨pv', rfl, FF, KS, ⟨y3, k3⟩, f3⟩ := FIN.out _ _ hO
  clear hO cM FIN
  refine hK.out _ _ (KS.1 hHeld) (fun hHeld => ?_)
  clear hK K
  refine wpAnyH_take (i := 8) (v := ?_) rfl (by kernel_rfl) (by kernel_rfl) (by kernel_rfl) (fun _ _ _ h => h) (Or.inl ⟨by rfl, ?_⟩) (by assumption) ?_
  rotate_left 1
  · (intro w hSw; (obtain ⟨s0, s1⟩ := hSw); go_simp; try with_reducible rfl)
  refine wpAnyH_take (i := 9) (v := ?_) rfl (by kernel_rfl) (by kernel_rfl) (by kernel_rfl) (fun _ _ _ h => h) (Or.inl ⟨by rfl, ?_⟩) (by assumption) ?_
  rotate_left 1
  · (intro w hSw; (obtain ⟨s0, s1⟩ := hSw); go_simp; try with_reducible rfl)
  refine wpAnyH_ready (rs := [10]) (by kernel_rfl) (by simp) ?_
  refine AllReadyH.cons rfl (fun K hK => ?_) AllReadyH.nil
  go_simp
  refine hK.out _ _ (KS.2 hHeld) (fun hHeld => ?_)
  clear hK K
  refine wpAnyH_done (by kernel_rfl) ?_ _
  clear hHeld KS FS6
  go_wp2
  go_ret
  exact ⟨rfl, FF.out⟩
theorem remove_c {Iq : Nat → Prop} {w : World} {tb m leaf : Nat} {rs : List Rw} {F : List Nat} (h : TreeAt Iq w tb m leaf rs F) (id : Int) :
    Calls Tryz.prog 48 #[.pointer (some ⟨tb, 0, none⟩), .int .i64 id] w fun e w' => e = .returned (.bool (hasId rs id)) ∧ TOut Iq w tb m leaf F (delRw rs id) w' := by
  cases hh : hasId rs id with
  | true => exact remove_yes h id hh
  | false =>
    refine (remove_no h id hh).mono ?_
    rintro e w' ⟨rfl, g⟩
    rw [del_none hh]
    exact ⟨rfl, F, h.gb g, fun y hy => .inl hy, Tk.Kp.of_gr g⟩
theorem delete_c {Iq : Nat → Prop} {w : World} {tb m leaf : Nat} {rs : List Rw} {F : List Nat} (h : TreeAt Iq w tb m leaf rs F) (id : Int) :
    Calls Tryz.prog 26 #[.pointer (some ⟨tb, 0, none⟩), .int .i64 id] w fun e w' => e = .returned (.tuple #[.bool (hasId rs id), .int .i64 0]) ∧ TOut Iq w tb m leaf F (delRw rs id) w' := by
  have cR := remove_c h id
  clear h
  generalize hasId rs id = hb at *
  go_enter Tryz.func26, Tryz.ntmps26
  go_wp2_with fail
  go_fit cR
  rintro e w1 ⟨rfl, hO⟩
  have H : Hid _ := hO
  clear hO cR
  go_wp2
  refine bodyPost_ret (v := .tuple #[.bool hb, .int .i64 0]) (by simp [results, Tryz.results26, go_sem]) rfl ?_
  exact ⟨rfl, H.out⟩
end Go.Proofs.YtepjbdklljlecaaGreat

/- theodolitekeep.Rows: of two lists of rows that read as the same. -/
namespace Go.Proofs.YtepjbdklljlecaaGreat
open Go.RowKit Go.Sort

set_option maxRecDepth 100000 in
set_option maxHeartbeats 2000000 in
theorem krsame_c {w : World} {u v : Value} {l : List Rw} (hu : RdW w u l) (hv : RdW w v l) (hn : l.length ≤ 4611686018427387904) (hr : ∀ r ∈ l, r.2.length ≤ 4611686018427387904) :
    Calls Tryz.prog 25 #[u, v] w fun e w' => e = .returned (.bool true) ∧ Gb w w' := by
  have A : Hid (RdW w u l) := hu
  have B : Hid (RdW w v l) := hv
  have R : Hid (∀ r ∈ l, r.2.length ≤ 4611686018427387904) := hr
  obtain ⟨au, cu, eu, _⟩ := hu
  obtain ⟨av, cv, ev, _⟩ := hv
  subst eu ev
  obtain ⟨n, hN⟩ : ∃ n, n = l.length := ⟨_, rfl⟩
  have N : Hid (n = l.length) := hN
  rw [← hN] at A B hn ⊢
  clear hN hr
  go_enter Tryz.func25, Tryz.ntmps25
  go_wp2
  go_loopw [5] (fun iv W => ∃ p : Nat, iv = .int .i64 (p : Int) ∧ p ≤ n ∧ Hid (Gb w W)) (fun iv _ => n - (intOf iv).toNat)
  case atStart => exact ⟨0, rfl, Nat.zero_le _, Below.refl _ _⟩
  case round =>
    obtain ⟨p, rfl, hp, X⟩ := hrel
    by_cases hpn : p < n
    · have hpi : (p : Int) < (n : Int) := by omega
      have hpl : p < l.length := by have := N.out; omega
      obtain ⟨_, _, ea, hA⟩ := A.out
      obtain ⟨b1, o1, x1, e1, a0, a1, r1⟩ := hA p hpl
      obtain ⟨_, _, eb, hB⟩ := B.out
      obtain ⟨b2, o2, y1, e2, k0, k1, t1⟩ := hB p hpl
      injection ea with ea1 ea2 ea3
      injection eb with eb1 eb2 eb3
      subst ea1; subst eb1; subst e1; subst e2
      clear hA hB ea2 ea3 eb2 eb3
      have fw := R.out l[p]! (by rw [getElem!_pos l p hpl]; exact List.getElem_mem hpl)
      have ci := fun W (g : Gb w W) => ints_v (r1.gb g) (t1.gb g) fw true (by simp)
      have a0 := gb_keeps X.out a0
      have a1 := gb_keeps X.out a1
      have k0 := gb_keeps X.out k0
      have k1 := gb_keeps X.out k1
      obtain ⟨u1, u2, e, z0⟩ := r1; subst e
      obtain ⟨u3, u4, e, z1⟩ := t1; subst e
      have GD : Gb wr wr.drew := ⟨rfl, rfl, rfl, Nat.le_refl _, fun _ _ => rfl⟩
      generalize l[p]!.2.length = z at *
      generalize l[p]!.1 = x at *
      clear z0 z1 fw hpl
      go_wp2_with fail
      refine wp_region_held_drew (S := fun W => Gb wr W) (by kernel_rfl) (GD) (fun hHeld => ?_)
      refine wpAnyH_take (i := 0) (v := ?_) rfl (by kernel_rfl) (by kernel_rfl) (by kernel_rfl) (fun _ _ _ h => h) (Or.inl ⟨by rfl, ?_⟩) (by assumption) ?_
      rotate_left 1
      · (intro w hSw; (have s0 := gb_keeps hSw a0; have s1 := gb_keeps hSw a1; have s2 := gb_keeps hSw k0; have s3 := gb_keeps hSw k1); go_simp; try with_reducible rfl)
      try simp only [Act.put, List.getElem_toArray, List.getElem_cons_zero, List.setIfInBounds_toArray, List.set_cons_zero, List.set_cons_succ]
      refine wpAnyH_take (i := 1) (v := ?_) rfl (by kernel_rfl) (by kernel_rfl) (by kernel_rfl) (fun _ _ _ h => h) (Or.inl ⟨by rfl, ?_⟩) (by assumption) ?_
      rotate_left 1
      · (intro w hSw; (have s0 := gb_keeps hSw a0; have s1 := gb_keeps hSw a1; have s2 := gb_keeps hSw k0; have s3 := gb_keeps hSw k1); go_simp; try with_reducible rfl)
      try simp only [Act.put, List.getElem_toArray, List.getElem_cons_zero, List.getElem_cons_succ, List.setIfInBounds_toArray, List.set_cons_zero, List.set_cons_succ]
      refine wpAnyH_take (i := 2) (v := ?_) rfl (by kernel_rfl) (by kernel_rfl) (by kernel_rfl) (fun _ _ _ h => h) (Or.inl ⟨by rfl, ?_⟩) (by assumption) ?_
      rotate_left 1
      · (intro w hSw; (have s0 := gb_keeps hSw a0; have s1 := gb_keeps hSw a1; have s2 := gb_keeps hSw k0; have s3 := gb_keeps hSw k1); go_simp; try with_reducible rfl)
      try simp only [Act.put, List.getElem_toArray, List.getElem_cons_zero, List.getElem_cons_succ, List.setIfInBounds_toArray, List.set_cons_zero, List.set_cons_succ]
      refine wpAnyH_take (i := 3) (v := ?_) rfl (by kernel_rfl) (by kernel_rfl) (by kernel_rfl) (fun _ _ _ h => h) (Or.inl ⟨by rfl, ?_⟩) (by assumption) ?_
      rotate_left 1
      · (intro w hSw; (have s0 := gb_keeps hSw a0; have s1 := gb_keeps hSw a1; have s2 := gb_keeps hSw k0; have s3 := gb_keeps hSw k1); go_simp; try with_reducible rfl)
      try simp only [Act.put, List.getElem_toArray, List.getElem_cons_zero, List.getElem_cons_succ, List.setIfInBounds_toArray, List.set_cons_zero, List.set_cons_succ]
      refine wpAnyH_take (i := 4) (v := ?_) rfl (by kernel_rfl) (by kernel_rfl) (by kernel_rfl) (fun _ _ _ h => h) (Or.inl ⟨by rfl, ?_⟩) (by assumption) ?_
      rotate_left 1
      · (intro w hSw; (have s0 := gb_keeps hSw a0; have s1 := gb_keeps hSw a1; have s2 := gb_keeps hSw k0; have s3 := gb_keeps hSw k1); go_simp; try with_reducible rfl)
      try simp only [Act.put, List.getElem_toArray, List.getElem_cons_zero, List.getElem_cons_succ, List.setIfInBounds_toArray, List.set_cons_zero, List.set_cons_succ]
      refine wpAnyH_take (i := 5) (v := ?_) rfl (by kernel_rfl) (by kernel_rfl) (by kernel_rfl) (fun _ _ _ h => h) (Or.inl ⟨by rfl, ?_⟩) (by assumption) ?_
      rotate_left 1
      · (intro w hSw; (have s0 := gb_keeps hSw a0; have s1 := gb_keeps hSw a1; have s2 := gb_keeps hSw k0; have s3 := gb_keeps hSw k1); go_simp; try with_reducible rfl)
      try simp only [Act.put, List.getElem_toArray, List.getElem_cons_zero, List.getElem_cons_succ, List.setIfInBounds_toArray, List.set_cons_zero, List.set_cons_succ]
      refine wpAnyH_take (i := 6) (v := ?_) rfl (by kernel_rfl) (by kernel_rfl) (by kernel_rfl) (fun _ _ _ h => h) (Or.inl ⟨by rfl, ?_⟩) (by assumption) ?_
      rotate_left 1
      · (intro w hSw; (have s0 := gb_keeps hSw a0; have s1 := gb_keeps hSw a1; have s2 := gb_keeps hSw k0; have s3 := gb_keeps hSw k1); go_simp; try with_reducible rfl)
      try simp only [Act.put, List.getElem_toArray, List.getElem_cons_zero, List.getElem_cons_succ, List.setIfInBounds_toArray, List.set_cons_zero, List.set_cons_succ]
      refine wpAnyH_take (i := 7) (v := ?_) rfl (by kernel_rfl) (by kernel_rfl) (by kernel_rfl) (fun _ _ _ h => h) (Or.inl ⟨by rfl, ?_⟩) (by assumption) ?_
      rotate_left 1
      · (intro w hSw; (have s0 := gb_keeps hSw a0; have s1 := gb_keeps hSw a1; have s2 := gb_keeps hSw k0; have s3 := gb_keeps hSw k1); go_simp; try with_reducible rfl)
      try simp only [Act.put, List.getElem_toArray, List.getElem_cons_zero, List.getElem_cons_succ, List.setIfInBounds_toArray, List.set_cons_zero, List.set_cons_succ]
      refine wpAnyH_take (i := 8) (v := ?_) rfl (by kernel_rfl) (by kernel_rfl) (by kernel_rfl) (fun _ _ _ h => h) (Or.inl ⟨by rfl, ?_⟩) (by assumption) ?_
      rotate_left 1
      · (intro w hSw; (have s0 := gb_keeps hSw a0; have s1 := gb_keeps hSw a1; have s2 := gb_keeps hSw k0; have s3 := gb_keeps hSw k1); go_simp; try with_reducible rfl)
      try simp only [Act.put, List.getElem_toArray, List.getElem_cons_zero, List.getElem_cons_succ, List.setIfInBounds_toArray, List.set_cons_zero, List.set_cons_succ]
      refine wpAnyH_take (i := 9) (v := ?_) rfl (by kernel_rfl) (by kernel_rfl) (by kernel_rfl) (fun _ _ _ h => h) (Or.inl ⟨by rfl, ?_⟩) (by assumption) ?_
      rotate_left 1
      · (intro w hSw; (have s0 := gb_keeps hSw a0; have s1 := gb_keeps hSw a1; have s2 := gb_keeps hSw k0; have s3 := gb_keeps hSw k1); go_simp; try with_reducible rfl)
      try simp only [Act.put, List.getElem_toArray, List.getElem_cons_zero, List.getElem_cons_succ, List.setIfInBounds_toArray, List.set_cons_zero, List.set_cons_succ]
      refine wpAnyH_take (i := 10) (v := ?_) rfl (by kernel_rfl) (by kernel_rfl) (by kernel_rfl) (fun _ _ _ h => h) (Or.inl ⟨by rfl, ?_⟩) (by assumption) ?_
      rotate_left 1
      · (intro w hSw; (have s0 := gb_keeps hSw a0; have s1 := gb_keeps hSw a1; have s2 := gb_keeps hSw k0; have s3 := gb_keeps hSw k1); go_simp; try with_reducible rfl)
      try simp only [Act.put, List.getElem_toArray, List.getElem_cons_zero, List.getElem_cons_succ, List.setIfInBounds_toArray, List.set_cons_zero, List.set_cons_succ]
      refine wpAnyH_take (i := 11) (v := ?_) rfl (by kernel_rfl) (by kernel_rfl) (by kernel_rfl) (fun _ _ _ h => h) (Or.inl ⟨by rfl, ?_⟩) (by assumption) ?_
      rotate_left 1
      · (intro w hSw; (have s0 := gb_keeps hSw a0; have s1 := gb_keeps hSw a1; have s2 := gb_keeps hSw k0; have s3 := gb_keeps hSw k1); go_simp; try with_reducible rfl)
      try simp only [Act.put, List.getElem_toArray, List.getElem_cons_zero, List.getElem_cons_succ, List.setIfInBounds_toArray, List.set_cons_zero, List.set_cons_succ]
      refine wpAnyH_take (i := 12) (v := ?_) rfl (by kernel_rfl) (by kernel_rfl) (by kernel_rfl) (fun _ _ _ h => h) (Or.inl ⟨by rfl, ?_⟩) (by assumption) ?_
      rotate_left 1
      · (intro w hSw; (have s0 := gb_keeps hSw a0; have s1 := gb_keeps hSw a1; have s2 := gb_keeps hSw k0; have s3 := gb_keeps hSw k1); go_simp; try with_reducible rfl)
      try simp only [Act.put, List.getElem_toArray, List.getElem_cons_zero, List.getElem_cons_succ, List.setIfInBounds_toArray, List.set_cons_zero, List.set_cons_succ]
      refine wpAnyH_take (i := 13) (v := ?_) rfl (by kernel_rfl) (by kernel_rfl) (by kernel_rfl) (fun _ _ _ h => h) (Or.inl ⟨by rfl, ?_⟩) (by assumption) ?_
      rotate_left 1
      · (intro w hSw; (have s0 := gb_keeps hSw a0; have s1 := gb_keeps hSw a1; have s2 := gb_keeps hSw k0; have s3 := gb_keeps hSw k1); go_simp; try with_reducible rfl)
      try simp only [Act.put, List.getElem_toArray, List.getElem_cons_zero, List.getElem_cons_succ, List.setIfInBounds_toArray, List.set_cons_zero, List.set_cons_succ]
      refine wpAnyH_take (i := 14) (v := ?_) rfl (by kernel_rfl) (by kernel_rfl) (by kernel_rfl) (fun _ _ _ h => h) (Or.inl ⟨by rfl, ?_⟩) (by assumption) ?_
      rotate_left 1
      · (intro w hSw; (have s0 := gb_keeps hSw a0; have s1 := gb_keeps hSw a1; have s2 := gb_keeps hSw k0; have s3 := gb_keeps hSw k1); go_simp; try with_reducible rfl)
      try simp only [Act.put, List.getElem_toArray, List.getElem_cons_zero, List.getElem_cons_succ, List.setIfInBounds_toArray, List.set_cons_zero, List.set_cons_succ]
      refine wpAnyH_take (i := 15) (v := ?_) rfl (by kernel_rfl) (by kernel_rfl) (by kernel_rfl) (fun _ _ _ h => h) (Or.inl ⟨by rfl, ?_⟩) (by assumption) ?_
      rotate_left 1
      · (intro w hSw; (have s0 := gb_keeps hSw a0; have s1 := gb_keeps hSw a1; have s2 := gb_keeps hSw k0; have s3 := gb_keeps hSw k1); go_simp; try with_reducible rfl)
      try simp only [Act.put, List.getElem_toArray, List.getElem_cons_zero, List.getElem_cons_succ, List.setIfInBounds_toArray, List.set_cons_zero, List.set_cons_succ]
      refine wpAnyH_take (i := 16) (v := ?_) rfl (by kernel_rfl) (by kernel_rfl) (by kernel_rfl) (fun _ _ _ h => h) (Or.inl ⟨by rfl, ?_⟩) (by assumption) ?_
      rotate_left 1
      · (intro w hSw; (have s0 := gb_keeps hSw a0; have s1 := gb_keeps hSw a1; have s2 := gb_keeps hSw k0; have s3 := gb_keeps hSw k1); go_simp; try with_reducible rfl)
      try simp only [Act.put, List.getElem_toArray, List.getElem_cons_zero, List.getElem_cons_succ, List.setIfInBounds_toArray, List.set_cons_zero, List.set_cons_succ]
      refine wpAnyH_take (i := 17) (v := ?_) rfl (by kernel_rfl) (by kernel_rfl) (by kernel_rfl) (fun _ _ _ h => h) (Or.inl ⟨by rfl, ?_⟩) (by assumption) ?_
      rotate_left 1
      · (intro w hSw; (have s0 := gb_keeps hSw a0; have s1 := gb_keeps hSw a1; have s2 := gb_keeps hSw k0; have s3 := gb_keeps hSw k1); go_simp; try with_reducible rfl)
      try simp only [Act.put, List.getElem_toArray, List.getElem_cons_zero, List.getElem_cons_succ, List.setIfInBounds_toArray, List.set_cons_zero, List.set_cons_succ]
      refine wpAnyH_take (i := 18) (v := ?_) rfl (by kernel_rfl) (by kernel_rfl) (by kernel_rfl) (fun _ _ _ h => h) (Or.inl ⟨by rfl, ?_⟩) (by assumption) ?_
      rotate_left 1
      · (intro w hSw; (have s0 := gb_keeps hSw a0; have s1 := gb_keeps hSw a1; have s2 := gb_keeps hSw k0; have s3 := gb_keeps hSw k1); go_simp; try with_reducible rfl)
      try simp only [Act.put, List.getElem_toArray, List.getElem_cons_zero, List.getElem_cons_succ, List.setIfInBounds_toArray, List.set_cons_zero, List.set_cons_succ]
      refine wpAnyH_take (i := 19) (v := ?_) rfl (by kernel_rfl) (by kernel_rfl) (by kernel_rfl) (fun _ _ _ h => h) (Or.inl ⟨by rfl, ?_⟩) (by assumption) ?_
      rotate_left 1
      · (intro w hSw; (have s0 := gb_keeps hSw a0; have s1 := gb_keeps hSw a1; have s2 := gb_keeps hSw k0; have s3 := gb_keeps hSw k1); go_simp; try with_reducible rfl)
      try simp only [Act.put, List.getElem_toArray, List.getElem_cons_zero, List.getElem_cons_succ, List.setIfInBounds_toArray, List.set_cons_zero, List.set_cons_succ]
      refine wpAnyH_take (i := 20) (v := ?_) rfl (by kernel_rfl) (by kernel_rfl) (by kernel_rfl) (fun _ _ _ h => h) (Or.inl ⟨by rfl, ?_⟩) (by assumption) ?_
      rotate_left 1
      · (intro w hSw; (have s0 := gb_keeps hSw a0; have s1 := gb_keeps hSw a1; have s2 := gb_keeps hSw k0; have s3 := gb_keeps hSw k1); go_simp; try with_reducible rfl)
      try simp only [Act.put, List.getElem_toArray, List.getElem_cons_zero, List.getElem_cons_succ, List.setIfInBounds_toArray, List.set_cons_zero, List.set_cons_succ]
      refine wpAnyH_take (i := 21) (v := ?_) rfl (by kernel_rfl) (by kernel_rfl) (by kernel_rfl) (fun _ _ _ h => h) (Or.inl ⟨by rfl, ?_⟩) (by assumption) ?_
      rotate_left 1
      · (intro w hSw; (have s0 := gb_keeps hSw a0; have s1 := gb_keeps hSw a1; have s2 := gb_keeps hSw k0; have s3 := gb_keeps hSw k1); go_simp; try with_reducible rfl)
      try simp only [Act.put, List.getElem_toArray, List.getElem_cons_zero, List.getElem_cons_succ, List.setIfInBounds_toArray, List.set_cons_zero, List.set_cons_succ]
      refine wpAnyH_ready (rs := [22]) (by kernel_rfl) (by simp) ?_
      refine AllReadyH.cons rfl (fun K hK => ?_) AllReadyH.nil
      go_simp
      refine (ci _ (gb_trans X.out hHeld)).mono ?_
      rintro e w4 ⟨rfl, g4⟩
      refine hK.out _ _ (gb_trans hHeld g4.gb) (fun hHeld => ?_)
      clear hK K
      try simp only [Act.put, List.getElem_toArray, List.getElem_cons_zero, List.getElem_cons_succ, List.setIfInBounds_toArray, List.set_cons_zero, List.set_cons_succ]
      refine wpAnyH_take (i := 23) (v := ?_) rfl (by kernel_rfl) (by kernel_rfl) (by kernel_rfl) (fun _ _ _ h => h) (Or.inl ⟨by rfl, ?_⟩) (by assumption) ?_
      rotate_left 1
      · (intro w hSw; (have s0 := gb_keeps hSw a0; have s1 := gb_keeps hSw a1; have s2 := gb_keeps hSw k0; have s3 := gb_keeps hSw k1); go_simp; try with_reducible rfl)
      try simp only [Act.put, List.getElem_toArray, List.getElem_cons_zero, List.getElem_cons_succ, List.setIfInBounds_toArray, List.set_cons_zero, List.set_cons_succ]
      refine wpAnyH_take (i := 24) (v := ?_) rfl (by kernel_rfl) (by kernel_rfl) (by kernel_rfl) (fun _ _ _ h => h) (Or.inl ⟨by rfl, ?_⟩) (by assumption) ?_
      rotate_left 1
      · (intro w hSw; (have s0 := gb_keeps hSw a0; have s1 := gb_keeps hSw a1; have s2 := gb_keeps hSw k0; have s3 := gb_keeps hSw k1); go_simp; try with_reducible rfl)
      try simp only [Act.put, List.getElem_toArray, List.getElem_cons_zero, List.getElem_cons_succ, List.setIfInBounds_toArray, List.set_cons_zero, List.set_cons_succ]
      refine wpAnyH_done (by kernel_rfl) ?_ _
      have X4 : Hid (Gb w w4) := gb_trans X.out hHeld
      clear hHeld ci a0 a1 k0 k1 X GD
      go_wp2
      go_roundw
      case rel => exact ⟨p + 1, by first | rfl | go_num, hpn, X4⟩
      case measure => simp [intOf]; omega
    · have hpi : ¬ (p : Int) < (n : Int) := by omega
      go_wp2
      go_ret
      exact ⟨rfl, X.out⟩
end Go.Proofs.YtepjbdklljlecaaGreat
