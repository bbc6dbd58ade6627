import Derived.Test.YtbnljabeccebiaaGreatKrKqRw
import Derived.Test.YtbnljabeccebiaaGreatKr5
import Derived.Lib.Overlaps
import Derived.Lib.AppendZerosOnto
import Derived.Laws.NewBlocks
import Derived.Laws.IdiomCopy
import Derived.Laws.Externs
import Derived.Shelf.RegionOpenPlain
import Derived.ArgAppend
/- What add and remove change; remade at a tree's root. -/
namespace Go.Proofs.YtbnljabeccebiaaGreat
open Go.RowKit Go.Sort

theorem own_one {w : World} {B : Nat} {u : Value} {l : List Int} (h : Own w B u l) : u.oneCell' = true := by
  obtain ⟨a, c, rfl, _⟩ := h.rd; rfl
theorem chg_add {Iq : Nat → Prop} (m cb : Nat) (x : Rt) : ChgC Iq m true 88 cb x := by
  intro W v d hc hcb hd h1 _ _
  have hn := h1.few
  rw [List.length_map] at hn
  refine (add1_c hd.row (by omega) (own_one hc.vec.own) hc.id (hc.row rfl)).mono ?_
  rintro e W' ⟨g, cap, rfl, ho, hk⟩
  have el : (d ++ [x]).length = d.length + 1 := by simp
  refine ⟨g, cap, d ++ [x], by rw [el], ?_, ?_, ?_, hk⟩
  · unfold aft; rw [if_pos rfl, List.map_append]; rfl
  · have hq := ho
    rw [← el] at hq
    exact (rwAt_own hq).1.rd
  · intro y hy
    rcases List.mem_append.1 hy with hy | hy
    · exact ownq_noint (hd.vec y hy) hk hd.noint
    · rw [List.mem_singleton.1 hy]
      exact ownq_noint hc.vec hk hd.noint
theorem erase_filter {d : List Rt} {i : Nat} (hi : i < d.length) (hnd : (d.map (·.1)).Pairwise (· ≠ ·)) : (d.eraseIdx i).map rwR = (d.map rwR).filter fun y => !decide (y.1 = d[i].1) := by
  have hne : ∀ (l : List Rt), (∀ y ∈ l, y.1 ≠ d[i].1) → (l.map rwR).filter (fun y => !decide (y.1 = d[i].1)) = l.map rwR := fun l h => by
    rw [List.filter_eq_self]
    intro r hr
    obtain ⟨y, hy, rfl⟩ := List.mem_map.1 hr
    simp [h y hy]
  have e : d = d.take i ++ d[i] :: d.drop (i + 1) := by
    rw [List.getElem_cons_drop, List.take_append_drop]
  rw [List.pairwise_iff_getElem] at hnd
  have hh : ∀ t (h : t < d.length), t ≠ i → d[t].1 ≠ d[i].1 := fun t h hti => by
    rcases Nat.lt_or_gt_of_ne hti with c | c
    · have := hnd t i (by simpa using h) (by simpa using hi) c; simpa using this
    · have := hnd i t (by simpa using hi) (by simpa using h) c; simp only [List.getElem_map] at this; exact fun e => this e.symm
  have h1 : (d.map rwR).filter (fun y => !decide (y.1 = d[i].1)) = ((d.take i ++ d[i] :: d.drop (i + 1)).map rwR).filter (fun y => !decide (y.1 = d[i].1)) := by rw [← e]
  rw [h1, List.map_append, List.filter_append, List.map_cons, List.filter_cons_of_neg (by simp), hne _ (fun y hy => ?_), hne _ (fun y hy => ?_), ← List.map_append, List.eraseIdx_eq_take_drop_succ]
  · obtain ⟨t, ht, rfl⟩ := List.getElem_of_mem hy
    rw [List.length_drop] at ht
    rw [List.getElem_drop]
    exact hh _ (by omega) (by omega)
  · obtain ⟨t, ht, rfl⟩ := List.getElem_of_mem hy
    rw [List.length_take] at ht
    rw [List.getElem_take]
    exact hh t (by omega) (by omega)
theorem chg_rem {Iq : Nat → Prop} (m cb : Nat) (x : Rt) : ChgC Iq m false 84 cb x := by
  intro W v d hc hcb hd h1 _ hb
  have hn := h1.few
  rw [List.length_map] at hn
  have hb2 := hb.2
  rw [if_neg (by decide)] at hb2
  obtain ⟨y, hy, ey⟩ := List.mem_map.1 hb2
  obtain ⟨i, hi, rfl⟩ := List.getElem_of_mem hy
  have eid : d[i].1 = x.1 := (Prod.mk.inj ey).1
  have hnd : (d.map (·.1)).Pairwise (· ≠ ·) := by
    have := hb.1
    unfold idsOf at this
    rw [List.map_map] at this
    exact this
  obtain ⟨g, cap, cur, ev, _, hh, hle, hr⟩ : ∃ g cap cur, v = .slice (some ⟨g, 0, none⟩) d.length cap ∧ 0 ≤ g ∧ W.heap[g]? = some (.cells cur 43 (0, 0)) ∧ d.length ≤ cap ∧ cap ≤ maxLen ∧ cur.size = cap * 2 ∧ cur.toList.take (d.length * 2) = d.flatMap encR := by
    rcases hd.row.2 with ⟨_, h0⟩ | h
    · omega
    · exact h
  subst ev
  have hx := rwAt_own hd.row
  refine (rem1_c hx.1 (fun y hy => own_one (hd.vec y hy).own) (by omega) hle (fun e => hcb (by rw [e]; rfl)) x.1 hc.id hi eid hnd).mono ?_
  rintro e W' ⟨rfl, ha, hk⟩
  have el : (d.eraseIdx i).length = d.length - 1 := List.length_eraseIdx_of_lt hi
  have hk2 : Tk.Kp (fun b => (Value.slice (some ⟨g, 0, none⟩) d.length cap).ownBlock = some b) W W' := hk.mono fun k _ e => by rw [e]; rfl
  refine ⟨g, cap, d.eraseIdx i, by rw [el], ?_, ha.rd, fun z hz => ownq_noint (hd.vec z (List.mem_of_mem_eraseIdx hz)) hk2 hd.noint, hk2⟩
  unfold aft
  rw [if_neg (by decide), erase_filter hi hnd, eid]
set_option maxHeartbeats 1000000 in
set_option maxRecDepth 100000 in
theorem rem_nil {Iq : Nat → Prop} {m leaf : Nat} (hm : 1 ≤ m ∧ m ≤ 64) (hlf : 1 ≤ leaf ∧ leaf ≤ 64) {fn cb : Nat} {x : Rt} (hC : ChgC Iq m true fn cb x) {w : World} (hc : Cap Iq true w cb x) (h2 : RowsOk [rwR x] (m : Int)) (eg : ∀ args w, (callFunc fn args).run Tryz.prog w = .ok (.enter fn args) w) :
    Calls Tryz.prog 83 #[.pointer none, .agg #[.int .i64 x.1, x.2.1], .int .i64 (leaf : Int), .func (.func fn) #[] #[.pointer (some ⟨cb, 0, none⟩)]] w fun e w' => RmOut Iq w m [] [rwR x] e w' := by
  obtain ⟨xi, u, xl⟩ := x
  obtain ⟨ua, uc, eu, _⟩ := hc.vec.rd
  dsimp only at eu
  subst eu
  have gA : Gb w (w.alloc (.cells #[.int .i64 xi, .slice ua xl.length uc] 43)) := gb_alloc (Below.refl _ _) _
  have hr0 : RowsOk (([] : List Rt).map rwR) (m : Int) := h2.sub (List.nil_sublist _)
  have cX := hC _ (.slice none 0 0) [] (hc.gb gA) (by simp [Value.ownBlock]) ⟨⟨rfl, .inl ⟨rfl, rfl⟩⟩, (fun _ h => by cases h), hc.up.gb gA⟩ hr0 h2 ⟨List.Pairwise.nil, by rw [if_pos rfl]; intro y hy; cases hy⟩
  have PX : Hid (∀ e W', ChgO Iq (w.alloc (.cells #[.int .i64 xi, .slice ua xl.length uc] 43)) (.slice none 0 0) (aft true (xi, xl) (([] : List Rt).map rwR)) e W' → ∃ g' n' cap', e = .returned (.slice (some ⟨g', 0, none⟩) n' cap') ∧ Calls Tryz.prog 58 #[.slice (some ⟨g', 0, none⟩) n' cap', .int .i64 (leaf : Int)] W' fun e w' => RmOut Iq w m [] [(xi, xl)] e w' ∧ ∃ pv, e = .returned (.pointer pv)) := by
    rintro e W' ⟨g', cap', d', rfl, hr, hR, hv, hK⟩
    refine ⟨g', d'.length, cap', rfl, ?_⟩
    have er : d'.map rwR = [(xi, xl)] := by rw [hr]; rfl
    rw [← er]
    refine (partsOf_c hm ⟨hlf.1, by omega⟩ d' hR ⟨hv, by rw [er]; exact h2, (hc.up.gb gA).le hK.size⟩).mono ?_
    intro e w' h
    refine rm_parts ((Tk.Kp.of_gr gA).trans (hK.mono ?_)) h
    intro k _ e
    cases e
  try dsimp only at cX
  generalize aft true (xi, xl) (([] : List Rt).map rwR) = R at *
  generalize xl.length = nx at *
  clear hC h2 hr0 hc gA
  go_enter Tryz.func83, Tryz.ntmps83
  go_wp2_with fail
  go_fit cX
  intro e w2 hO
  obtain ⟨g', n', cap', rfl, cP⟩ := PX.out _ _ hO
  clear hO cX PX
  go_wp2_with fail
  go_fit cP
  rintro e w3 ⟨hO, pv, rfl⟩
  have H : Hid _ := hO
  clear hO cP
  go_wp2
  go_ret
  exact H.out
/-- A root, and the tree below it. -/
def RtAt (Iq : Nat → Prop) (w : World) (m : Nat) (R : List Rw) (rt : Value) (F : List Nat) : Prop := (R = [] ∧ rt = .pointer none ∧ F = []) ∨ ∃ b T n, rt = .pointer (some ⟨b, 0, none⟩) ∧ TrO Iq w T (n + 1) b F ∧ OkP T m n (T b) ∧ (rowsP T n (T b)).Perm R
def RtOut (Iq : Nat → Prop) (w : World) (m : Nat) (F : List Nat) (R : List Rw) (e : Ending) (w' : World) : Prop := ∃ pv F', e = .returned (.pointer pv) ∧ RtAt Iq w' m R (.pointer pv) F' ∧ F'.Nodup ∧ (∀ y ∈ F', y ∈ F ∨ w.heap.size ≤ y) ∧ Tk.Kp (fun k => k ∈ F) w w'
theorem rt_out {Iq : Nat → Prop} {w w' : World} {m : Nat} {F : List Nat} {R R' : List Rw} {e : Ending} (h : RmOut Iq w m F R e w') (p : R.Perm R') : RtOut Iq w m F R' e w' := by
  obtain ⟨k, h1, h2⟩ := h
  by_cases hR : R = []
  · refine ⟨none, [], h1 hR, .inl ⟨?_, rfl, rfl⟩, List.nodup_nil, fun y hy => (by cases hy), k⟩
    rw [hR] at p
    exact p.symm.eq_nil
  · obtain ⟨b, T, F', n, e1, t, ok, pm, nd, l⟩ := h2 hR
    exact ⟨some ⟨b, 0, none⟩, F', e1, .inr ⟨b, T, n, rfl, t, ok, pm.trans p⟩, nd, l, k⟩
theorem root_c {Iq : Nat → Prop} {m leaf : Nat} (hm : 1 ≤ m ∧ m ≤ 64) (hlf : 1 ≤ leaf ∧ leaf ≤ 64) {fn cb : Nat} {ad : Bool} {x : Rt} (hC : ChgC Iq m ad fn cb x) (hxm : x.2.2.length = m) (eg : ∀ args w, (callFunc fn args).run Tryz.prog w = .ok (.enter fn args) w) {w : World} {rt : Value} {F : List Nat} {R : List Rw}
    (h : RtAt Iq w m R rt F) (hnd : F.Nodup) (hcb : cb ∉ F) (hc : Cap Iq ad w cb x) (hb : bef ad (rwR x) R) (h1 : RowsOk R (m : Int)) (h2 : RowsOk (aft ad (rwR x) R) (m : Int)) :
    Calls Tryz.prog 83 #[rt, .agg #[.int .i64 x.1, x.2.1], .int .i64 (leaf : Int), .func (.func fn) #[] #[.pointer (some ⟨cb, 0, none⟩)]] w fun e w' => RtOut Iq w m F (aft ad (rwR x) R) e w' := by
  rcases h with ⟨rfl, rfl, rfl⟩ | ⟨b, T, n, rfl, t, ok, pm⟩
  · cases ad with
    | true => exact (rem_nil hm hlf hC hc h2 eg).mono fun e w' h => rt_out h (List.Perm.refl _)
    | false =>
      have := hb.2
      rw [if_neg (by decide)] at this
      cases this
  · exact (remade_c hm hlf hC hxm eg n w b F T t ok hnd hcb hc (bef_nodup hb pm.symm) (h1.perm pm.symm) (h2.perm (aft_perm pm.symm))).mono fun e w' h => rt_out h (aft_perm pm)
end Go.Proofs.YtbnljabeccebiaaGreat

/- A tree's rows with one more, or one less; the tree laid together. -/
namespace Go.Proofs.YtbnljabeccebiaaGreat
open Go.RowKit Go.Sort

def Ris (rs : List Rw) : Prop := rs.Pairwise fun x y => x.1 < y.1
def insRw (rs : List Rw) (r : Rw) : List Rw := rs.take (plc rs r.1) ++ r :: rs.drop (plc rs r.1)
def delRw (rs : List Rw) (id : Int) : List Rw := rs.filter fun y => !decide (y.1 = id)
theorem split_lt (id : Int) : ∀ {rs : List Rw}, Ris rs → rs.take (plc rs id) = rs.filter (fun r => decide (r.1 < id)) ∧ rs.drop (plc rs id) = rs.filter (fun r => !decide (r.1 < id))
  | [], _ => ⟨rfl, rfl⟩
  | r :: rest, h => by
    have h1 := List.pairwise_cons.1 h
    obtain ⟨a, b⟩ := split_lt id h1.2
    by_cases hr : r.1 < id
    · have e : plc (r :: rest) id = plc rest id + 1 := by unfold plc; rw [List.filter_cons_of_pos (by simpa using hr)]; rfl
      rw [e, List.take_succ_cons, List.drop_succ_cons, List.filter_cons_of_pos (by simpa using hr), List.filter_cons_of_neg (by simpa using hr), a, b]
      exact ⟨rfl, rfl⟩
    · have e0 : rest.filter (fun r => decide (r.1 < id)) = [] := by
        rw [List.filter_eq_nil_iff]
        intro y hy
        have := h1.1 y hy
        simp
        omega
      have e1 : rest.filter (fun r => !decide (r.1 < id)) = rest := by
        rw [List.filter_eq_self]
        intro y hy
        have := h1.1 y hy
        simp
        omega
      have e : plc (r :: rest) id = 0 := by unfold plc; rw [List.filter_cons_of_neg (by simpa using hr), e0]; rfl
      rw [e, List.take_zero, List.drop_zero, List.filter_cons_of_neg (by simpa using hr), List.filter_cons_of_pos (by simpa using hr), e0, e1]
      exact ⟨rfl, rfl⟩
theorem plc_le (rs : List Rw) (id : Int) : plc rs id ≤ rs.length := List.length_filter_le _ _
theorem ins_perm (rs : List Rw) (r : Rw) : (insRw rs r).Perm (rs ++ [r]) := by
  unfold insRw
  refine List.perm_middle.trans ?_
  rw [List.take_append_drop]
  exact (List.perm_append_singleton r rs).symm
theorem ins_ris {rs : List Rw} {r : Rw} (h : Ris rs) (hn : ∀ y ∈ rs, y.1 ≠ r.1) : Ris (insRw rs r) := by
  unfold insRw Ris
  obtain ⟨a, b⟩ := split_lt r.1 h
  rw [a, b, List.pairwise_append]
  refine ⟨h.sublist List.filter_sublist, List.pairwise_cons.2 ⟨fun y hy => ?_, h.sublist List.filter_sublist⟩, fun x hx y hy => ?_⟩
  · have h1 := List.mem_filter.1 hy
    have h2 := hn y h1.1
    simp at h1
    omega
  · have h1 := List.mem_filter.1 hx
    simp at h1
    rcases List.mem_cons.1 hy with rfl | hy
    · exact h1.2
    · have h2 := List.mem_filter.1 hy
      simp at h2
      omega
theorem plc_has {rs : List Rw} {id : Int} (h : Ris rs) (hh : hasId rs id = true) : ∃ hp : plc rs id < rs.length, rs[plc rs id].1 = id := by
  unfold hasId at hh
  rw [List.any_eq_true] at hh
  obtain ⟨r, hr, he⟩ := hh
  obtain ⟨j, hj, rfl⟩ := List.getElem_of_mem hr
  rw [decide_eq_true_eq] at he
  have hp := List.pairwise_iff_getElem.1 h
  have e : plc rs id = j := plc_of (by omega) (fun t ht htj => by have := hp t j ht hj htj; omega) (fun t ht hjt => by
    by_cases e : j = t
    · subst e; omega
    · have := hp j t hj ht (by omega); omega)
  exact ⟨by omega, by simp only [e]; exact he⟩
theorem del_ris {rs : List Rw} (id : Int) (h : Ris rs) : Ris (delRw rs id) := h.sublist List.filter_sublist
theorem flat_takeR : ∀ (d : List Rt) (p : Nat), (d.flatMap encR).take (p * 2) = (d.take p).flatMap encR
  | [], p => by simp
  | x :: r, 0 => by simp
  | x :: r, p + 1 => by
    rw [List.take_succ_cons, List.flatMap_cons, List.flatMap_cons, ← flat_takeR r p, show (p + 1) * 2 = (p * 2) + 1 + 1 by omega]
    rfl
theorem flat_dropR : ∀ (d : List Rt) (p : Nat), (d.flatMap encR).drop (p * 2) = (d.drop p).flatMap encR
  | [], p => by simp
  | x :: r, 0 => by simp
  | x :: r, p + 1 => by
    rw [List.drop_succ_cons, List.flatMap_cons, ← flat_dropR r p, show (p + 1) * 2 = (p * 2) + 1 + 1 by omega]
    rfl
/-- What Put, Delete and their helpers leave: the tree of these rows, in the blocks that it had, or new ones. -/
def TOut (Iq : Nat → Prop) (w : World) (tb m leaf : Nat) (F : List Nat) (rs : List Rw) (w' : World) : Prop := ∃ F', TreeAt Iq w' tb m leaf rs F' ∧ (∀ y ∈ F', y ∈ F ∨ w.heap.size ≤ y) ∧ Tk.Kp (fun k => k ∈ F) w w'
theorem tree_fin {Iq : Nat → Prop} {w w3 w4 : World} {tb m leaf g' cap' n : Nat} {d' : List Rt} {rs' R : List Rw} {F F1 F1' : List Nat} {pv : Option Addr} {q : Value}
    (hb3 : w3.heap[tb]? = some (.cells #[.int .i64 (m : Int), .int .i64 (leaf : Int), .slice (some ⟨g', 0, none⟩) n cap', q] 83 (0, 0))) (hn : n = d'.length)
    (own3 : OwnRs Iq w3 (.slice (some ⟨g', 0, none⟩) n cap') d') (hd : d'.map rwR = rs') (hs : Ris rs') (hok : RowsOk rs' (m : Int)) (hrt : RtAt Iq w4 m R (.pointer pv) F1') (hpm : R.Perm rs')
    (hnd : F1'.Nodup) (hl : ∀ y ∈ F1', y ∈ F1 ∨ w3.heap.size ≤ y) (hK4 : Tk.Kp (fun k => k ∈ F1) w3 w4) (nF1 : NoInt w3 (fun k => k ∈ F1)) (hgF : g' ∉ F1) (htF : tb ∉ F1) (htg : tb ≠ g')
    (hK3 : Tk.Kp (fun k => k ∈ F) w w3) (hF1 : ∀ y ∈ F1, y ∈ F) (hgF' : g' ∈ F ∨ w.heap.size ≤ g') (htbF : tb ∈ F) (hm : 1 ≤ m ∧ m ≤ 64) (hlf : 1 ≤ leaf ∧ leaf ≤ 64) :
    TOut Iq w tb m leaf F rs' (w4.setCell ⟨tb, 3, none⟩ (.pointer pv)) := by
  subst hn
  have s3 := hK3.size
  have tl := (Array.getElem?_eq_some_iff.1 hb3).1
  have gl := (own3.row.lt g' rfl).2
  have hb4 : w4.heap[tb]? = some (.cells #[.int .i64 (m : Int), .int .i64 (leaf : Int), .slice (some ⟨g', 0, none⟩) d'.length cap', q] 83 (0, 0)) := by
    rw [hK4.block tb tl htF]; exact hb3
  have own4 := own3.kp hK4 nF1 (fun g e hg => by cases e; exact hgF hg)
  have nb : NoInt w4 (fun k => k = tb) := fun k e cur s hc => by subst e; rw [hb4] at hc; simp at hc
  have kb : Tk.Kp (fun k => k = tb) w4 (w4.setCell ⟨tb, 3, none⟩ (.pointer pv)) := (Tk.Kp.refl (fun k => k = tb) w4).setCell (.inl rfl) _
  have own5 := own4.kp kb nb (fun g e hg => by cases e; exact htg hg.symm)
  have hb5 : (w4.setCell ⟨tb, 3, none⟩ (.pointer pv)).heap[tb]? = some (.cells #[.int .i64 (m : Int), .int .i64 (leaf : Int), .slice (some ⟨g', 0, none⟩) d'.length cap', .pointer pv] 83 (0, 0)) := by
    simp [World.setCell, Array.getElem?_modify, hb4]
  have tF' : tb ∉ F1' := fun e => by
    rcases hl tb e with h | h
    · exact htF h
    · omega
  have gF' : g' ∉ F1' := fun e => by
    rcases hl g' e with h | h
    · exact hgF h
    · omega
  have kF : Tk.Kp (fun k => k ∈ F) w (w4.setCell ⟨tb, 3, none⟩ (.pointer pv)) := by
    have k0 : Tk.Kp (fun k => k ∈ F) w w4 := hK3.trans (hK4.mono (fun k _ h => hF1 k h))
    exact k0.setCell (.inl htbF) _
  have hdl : d'.length = rs'.length := by rw [← hd, List.length_map]
  refine ⟨tb :: g' :: F1', ⟨g', cap', d', .pointer pv, F1', hb5, own5, hd, hs, hok, ?_, rfl, ?_, hm, hlf⟩, fun y hy => ?_, kF⟩
  · rcases hrt with ⟨e1, e2, e3⟩ | ⟨b, T, k, e1, t, ok, pm⟩
    · refine .inl ⟨?_, e2, e3⟩
      rw [e1] at hpm
      rw [hpm.symm.eq_nil] at hd
      exact List.map_eq_nil_iff.1 hd
    · have p2 := pm.trans hpm
      have hl2 : (rowsP T k (T b)).length = rs'.length := p2.length_eq
      refine .inr ⟨b, T, e1, fun e => ?_, fun N hN => ?_⟩
      · rw [e] at hdl
        have := List.length_pos_iff.2 (okP_ne _ _ ok)
        simp at hdl
        omega
      · obtain ⟨a1, a2, a3⟩ := TrO.any _ _ _ (TrO.kp kb nb _ _ _ t (fun x hx e => tF' (by rw [← e]; exact hx))) ok N (by omega)
        exact ⟨a1, a2, by rw [a3]; exact p2⟩
  · rw [List.nodup_cons, List.nodup_cons]
    refine ⟨fun e => ?_, gF', hnd⟩
    rcases List.mem_cons.1 e with e | e
    · exact htg e
    · exact tF' e
  · rcases List.mem_cons.1 hy with rfl | hy
    · exact .inl htbF
    · rcases List.mem_cons.1 hy with rfl | hy
      · exact hgF'
      · rcases hl y hy with h | h
        · exact .inl (hF1 y h)
        · exact .inr (by omega)
/-- A tree opened. -/
theorem TreeAt.open' {Iq : Nat → Prop} {w : World} {tb m leaf : Nat} {rs : List Rw} {F : List Nat} (h : TreeAt Iq w tb m leaf rs F) : ∃ g cap d rt F1, w.heap[tb]? = some (.cells #[.int .i64 (m : Int), .int .i64 (leaf : Int), .slice (some ⟨g, 0, none⟩) d.length cap, rt] 83 (0, 0)) ∧
    OwnRs Iq w (.slice (some ⟨g, 0, none⟩) d.length cap) d ∧ d.map rwR = rs ∧ Ris rs ∧ RowsOk rs (m : Int) ∧ RtAt Iq w m rs rt F1 ∧ F = tb :: g :: F1 ∧ F.Nodup ∧ (1 ≤ m ∧ m ≤ 64) ∧ 1 ≤ leaf ∧ leaf ≤ 64 ∧ NoInt w (fun k => k ∈ F1) ∧ (∃ pv, rt = .pointer pv) ∧ (∀ x ∈ F1, x < w.heap.size) ∧ tb ∉ F1 ∧ g ∉ F1 ∧ tb ≠ g := by
  obtain ⟨g, cap, d, rt, F1, h1, h2, h3, h4, h5, h6, rfl, h8, h9, h10⟩ := h
  have hnd := h8
  rw [List.nodup_cons, List.nodup_cons, List.mem_cons] at hnd
  refine ⟨g, cap, d, rt, F1, h1, h2, h3, h4, h5, ?_, rfl, h8, h9, h10.1, h10.2, ?_, ?_, ?_, fun e => hnd.1 (.inr e), hnd.2.1, fun e => hnd.1 (.inl e)⟩
  · rcases h6 with ⟨rfl, e2, e3⟩ | ⟨b, T, e1, _, t⟩
    · exact .inl ⟨h3.symm, e2, e3⟩
    · obtain ⟨a, b', c⟩ := t d.length (Nat.le_refl _)
      exact .inr ⟨b, T, d.length, e1, a, b', c⟩
  · rcases h6 with ⟨_, _, rfl⟩ | ⟨b, T, _, _, t⟩
    · intro k hk; cases hk
    · exact (t d.length (Nat.le_refl _)).1.noint
  · rcases h6 with ⟨_, e, _⟩ | ⟨b, T, e, _, t⟩
    · exact ⟨none, e⟩
    · exact ⟨_, e⟩
  · rcases h6 with ⟨_, _, rfl⟩ | ⟨b, T, _, _, t⟩
    · intro k hk; cases hk
    · exact (t d.length (Nat.le_refl _)).1.mem.2
theorem RtAt.kp {Iq : Nat → Prop} {S : Nat → Prop} {w w' : World} {m : Nat} {R : List Rw} {rt : Value} {F : List Nat} (h : RtAt Iq w m R rt F) (k : Tk.Kp S w w') (hS : NoInt w S) (hF : ∀ x ∈ F, ¬ S x) : RtAt Iq w' m R rt F := by
  rcases h with h | ⟨b, T, n, e, t, ok, pm⟩
  · exact .inl h
  · exact .inr ⟨b, T, n, e, TrO.kp k hS _ _ _ t hF, ok, pm⟩
theorem RtAt.noint {Iq : Nat → Prop} {w : World} {m : Nat} {R : List Rw} {rt : Value} {F : List Nat} (h : RtAt Iq w m R rt F) : NoInt w (fun k => k ∈ F) := by
  rcases h with ⟨_, _, rfl⟩ | ⟨b, T, n, e, t, ok, pm⟩
  · intro k hk; cases hk
  · exact t.noint
theorem TreeAt.kp {Iq : Nat → Prop} {S : Nat → Prop} {w w' : World} {tb m leaf : Nat} {rs : List Rw} {F : List Nat} (h : TreeAt Iq w tb m leaf rs F) (k : Tk.Kp S w w') (hS : NoInt w S) (hF : ∀ x ∈ F, ¬ S x) : TreeAt Iq w' tb m leaf rs F := by
  obtain ⟨g, cap, d, rt, F1, h1, h2, h3, h4, h5, h6, rfl, h8⟩ := h
  refine ⟨g, cap, d, rt, F1, ?_, h2.kp k hS (fun g' e => by cases e; exact hF g (by simp)), h3, h4, h5, ?_, rfl, h8⟩
  · rw [k.block tb (Array.getElem?_eq_some_iff.1 h1).1 (hF tb (by simp))]; exact h1
  · rcases h6 with h | ⟨b, T, e1, e2, t⟩
    · exact .inl h
    · exact .inr ⟨b, T, e1, e2, fun N hN => ⟨TrO.kp k hS _ _ _ (t N hN).1 (fun x hx => hF x (by simp [hx])), (t N hN).2⟩⟩
theorem TreeAt.gb {Iq : Nat → Prop} {w w' : World} {tb m leaf : Nat} {rs : List Rw} {F : List Nat} (h : TreeAt Iq w tb m leaf rs F) (g : Gb w w') : TreeAt Iq w' tb m leaf rs F := h.kp (kpF g) (noF _) (fun _ _ h => h)
end Go.Proofs.YtbnljabeccebiaaGreat

/- Cells of a block that are written, one behind another; copy; what slices.Insert and slices.Delete leave. -/
namespace Go.Proofs.YtbnljabeccebiaaGreat
open Go.RowKit Go.Sort

theorem setCells_heap (g : Nat) (e : TypeId) (s : Nat × Nat) : ∀ (vs : List Value) (o : Nat) (w : World) (cur : Array Value), w.heap[g]? = some (.cells cur e s) → o + vs.length ≤ cur.size →
    ∃ cur', (w.setCells g o vs).heap[g]? = some (.cells cur' e s) ∧ cur'.size = cur.size ∧ ∀ t, cur'[t]? = if o ≤ t ∧ t < o + vs.length then vs[t - o]? else cur[t]?
  | [], o, w, cur, h, _ => ⟨cur, h, rfl, fun t => by rw [if_neg]; simp⟩
  | v :: r, o, w, cur, h, hl => by
    rw [List.length_cons] at hl
    have h1 : (w.setCell ⟨g, o, none⟩ v).heap[g]? = some (.cells (cur.setIfInBounds o v) e s) := by simp [World.setCell, Array.getElem?_modify, h]
    obtain ⟨c2, e2, s2, f2⟩ := setCells_heap g e s r (o + 1) (w.setCell ⟨g, o, none⟩ v) (cur.setIfInBounds o v) h1 (by simp; omega)
    refine ⟨c2, e2, by rw [s2]; simp, fun t => ?_⟩
    rw [f2 t, List.length_cons]
    by_cases h3 : o = t
    · subst h3
      rw [if_neg (by omega), if_pos (by omega), Array.getElem?_setIfInBounds_self_of_lt (by omega)]
      simp
    · by_cases h4 : o + 1 ≤ t ∧ t < o + 1 + r.length
      · rw [if_pos h4, if_pos (by omega), show t - o = (t - (o + 1)) + 1 by omega, List.getElem?_cons_succ]
      · rw [if_neg h4, if_neg (by omega), Array.getElem?_setIfInBounds_ne h3]
theorem kp_setCells {S : Nat → Prop} {a : World} {g : Nat} (hg : S g ∨ a.heap.size ≤ g) : ∀ (vs : List Value) (o : Nat) (w : World), Tk.Kp S a w → Tk.Kp S a (w.setCells g o vs)
  | [], _, _, h => h
  | v :: r, o, _w, h => kp_setCells hg r (o + 1) _ (h.setCell hg v)
theorem some_setCells (g : Nat) (e : TypeId) (s : Nat × Nat) {w : World} {cur : Array Value} (h : w.heap[g]? = some (.cells cur e s)) {o : Nat} (ho : o < cur.size) : (w.cell? ⟨g, o, none⟩).isSome = true := by
  simp [World.cell?, h, ho]
/-- copy, of elements of any size. -/
theorem run_copy_k {P : Program} (w : World) (dT sT ty elem : TypeId) (i : TypeInfo) (b o dLen dCap : Nat) (a : Addr) (sLen sCap m : Nat) (cs : List Value)
    (hu : P.underlying dT = some (.slice elem)) (hi : P.info? elem = some i) (hm : m = Nat.min sLen dLen) (hn : cs.length = m * i.size)
    (hsrc : ∀ j v, cs[j]? = some v → w.cell? (a.add j) = some v) (hc : ∀ j, j < cs.length → (w.cell? ⟨b, o + j, none⟩).isSome = true) (hf : ∀ j, j < cs.length → w.frozen? ⟨b, o + j, none⟩ = false) (h1 : ∀ v ∈ cs, v.oneCell' = true) :
    (Builtin.copy_ #[dT, sT] ty #[.slice (some ⟨b, o, none⟩) dLen dCap, .slice (some a) sLen sCap]).run P w = .ok (goInt m) (w.setCells b o cs) := by
  have hl := run_firstCells_some (P := P) w i.size m a sLen sCap cs hn hsrc
  have hst := run_storeCells_cells (P := P) b o cs 0 w (by simpa using hc) (by simpa using hf) h1
  simp only [Nat.add_zero] at hst
  simp [Builtin.copy_, run_underlying hu, Builtin.lenOf, sizeOf, typeInfo, hi, ← hm, hl, hst]
theorem wp_copy_k {P : Program} (w : World) {ops : Array Oper} {rest : List Oper} {o : Oper} {a : Act} {Q : Exit → Act → World → Prop} (hgd : o.guard = none) (d s : Operand) (t t' : TypeId)
    (ho : o.op = .call { callee := .builtin .copy, args := #[d, s], argTypes := #[t, t'] }) (v u : Value) (hd : a.eval d = v) (hs : a.eval s = u) {v' : Value} {w' : World}
    (hr : (Builtin.copy_ #[t, t'] o.type #[v, u]).run P w = .ok v' w') (h : wpList P ops Q rest (a.put o.dst v') w') : wpList P ops Q (o :: rest) a w := by
  refine wpList_plain hgd fun _ hK => ?_
  unfold Oper.wp execOp
  simp only [ho, resolve, invoke, builtin, Sem.run_bind, Sem.run_pure, Result.andThen_ok, List.map_toArray, List.map_cons, List.map_nil, hd, hs, hr]
  exact hK _ _ h
theorem step_copy_k {P : Program} {ops : Array Oper} {o : Oper} {a : Act} {w : World} {K : Act → World → Prop} {Q : Exit → Act → World → Prop} {E : Prop}
    (hg : o.guard = none) (d x : Operand) (dT sT : TypeId) (hop : o.op = Op.call { callee := Callee.builtin Builtin.copy, args := #[d, x], argTypes := #[dT, sT] })
    (v u : Value) (hd : a.eval d = v) (hx : a.eval x = u) {v' : Value} {w' : World} (hr : (Builtin.copy_ #[dT, sT] o.type #[v, u]).run P w = .ok v' w') (hK : K (a.put o.dst v') w') :
    if Region.wanted o (yielded ops a.tmps) = true then Oper.wp P o a w K Q else E := by
  have hw : Region.wanted o (yielded ops a.tmps) = true := by simp [Region.wanted, hg]
  rw [if_pos hw]
  unfold Oper.wp
  simp [execOp, hop, resolve, invoke, builtin, hd, hx, hr, Result.andThen]
  exact hK
theorem step_append_k {P : Program} {ops : Array Oper} {o : Oper} {a : Act} {w : World} {K : Act → World → Prop} {Q : Exit → Act → World → Prop} {E : Prop}
    (hg : o.guard = none) (d x : Operand) (dT sT : TypeId) (hop : o.op = Op.call { callee := Callee.builtin Builtin.append, args := #[d, x], argTypes := #[dT, sT] })
    (v u : Value) (hd : a.eval d = v) (hx : a.eval x = u) {v' : Value} {w' : World} (hr : (Builtin.append_ #[dT, sT] o.type #[v, u]).run P w = .ok v' w') (hK : K (a.put o.dst v') w') :
    if Region.wanted o (yielded ops a.tmps) = true then Oper.wp P o a w K Q else E := by
  have hw : Region.wanted o (yielded ops a.tmps) = true := by simp [Region.wanted, hg]
  rw [if_pos hw]
  unfold Oper.wp
  simp [execOp, hop, resolve, invoke, builtin, hd, hx, hr, Result.andThen]
  exact hK
/-- What Insert lays: xs with vs at a. -/
theorem ins_cells {xs vs : List Value} {a N : Nat} {cur c1 c2 : Array Value} (ha : a ≤ xs.length) (hN : N = xs.length + vs.length) (hx : ∀ t, t < a → cur[t]? = xs[t]?)
    (h1 : ∀ t, c1[t]? = if a + vs.length ≤ t ∧ t < a + vs.length + (xs.drop a).length then (xs.drop a)[t - (a + vs.length)]? else cur[t]?)
    (h2 : ∀ t, c2[t]? = if a ≤ t ∧ t < a + vs.length then vs[t - a]? else c1[t]?) : c2.toList.take N = xs.take a ++ vs ++ xs.drop a := by
  rw [List.length_drop] at h1
  apply List.ext_getElem?
  intro t
  have hl1 : (xs.take a).length = a := by rw [List.length_take]; omega
  by_cases ht : t < N
  · rw [List.getElem?_take_of_lt ht, Array.getElem?_toList, h2 t]
    by_cases c : t < a
    · rw [if_neg (by omega), h1 t, if_neg (by omega), hx t c, List.append_assoc, List.getElem?_append_left (by omega), List.getElem?_take_of_lt c]
    · by_cases c3 : t < a + vs.length
      · rw [if_pos (by omega), List.append_assoc, List.getElem?_append_right (by omega), hl1, List.getElem?_append_left (by omega)]
      · rw [if_neg (by omega), h1 t, if_pos (by omega), List.getElem?_append_right (by rw [List.length_append, hl1]; omega), List.length_append, hl1]
  · rw [List.getElem?_eq_none (by rw [List.length_take]; omega), List.getElem?_eq_none (by rw [List.length_append, List.length_append, hl1, List.length_drop]; omega)]
theorem ins_cells' {xs vs : List Value} {a N : Nat} {cur c1 c2 : Array Value} (ha : a ≤ xs.length) (hN : N = xs.length + vs.length) (hx : ∀ t, t < a → cur[t]? = xs[t]?)
    (h1 : ∀ t, c1[t]? = if a ≤ t ∧ t < a + vs.length then vs[t - a]? else cur[t]?)
    (h2 : ∀ t, c2[t]? = if a + vs.length ≤ t ∧ t < a + vs.length + (xs.drop a).length then (xs.drop a)[t - (a + vs.length)]? else c1[t]?) : c2.toList.take N = xs.take a ++ vs ++ xs.drop a := by
  rw [List.length_drop] at h2
  apply List.ext_getElem?
  intro t
  have hl1 : (xs.take a).length = a := by rw [List.length_take]; omega
  by_cases ht : t < N
  · rw [List.getElem?_take_of_lt ht, Array.getElem?_toList, h2 t]
    by_cases c : t < a
    · rw [if_neg (by omega), h1 t, if_neg (by omega), hx t c, List.append_assoc, List.getElem?_append_left (by omega), List.getElem?_take_of_lt c]
    · by_cases c3 : t < a + vs.length
      · rw [if_neg (by omega), h1 t, if_pos (by omega), List.append_assoc, List.getElem?_append_right (by omega), hl1, List.getElem?_append_left (by omega)]
      · rw [if_pos (by omega), List.getElem?_append_right (by rw [List.length_append, hl1]; omega), List.length_append, hl1]
  · rw [List.getElem?_eq_none (by rw [List.length_take]; omega), List.getElem?_eq_none (by rw [List.length_append, List.length_append, hl1, List.length_drop]; omega)]
end Go.Proofs.YtbnljabeccebiaaGreat
