import Derived.Test.YtbnljabeccebiaaGreatKr15
/- kdtree.partsOf: its closure that calls itself. -/
namespace Go.Proofs.YtbnljabeccebiaaGreat
open Go.RowKit Go.Sort

/-- What the closure tells: nothing of no rows; else a tree of them. -/
def CutOut (Iq : Nat → Prop) (w : World) (g o m : Nat) (d : List Rt) (e : Ending) (w' : World) : Prop :=
  (d = [] → e = .returned (.pointer none) ∧ Gb w w') ∧
  (d ≠ [] → ∃ b T F, e = .returned (.pointer (some ⟨b, 0, none⟩)) ∧ (∀ N, d.length ≤ N → TrO Iq w' T (N + 1) b F ∧ OkP T m N (T b) ∧ (rowsP T N (T b)).Perm (d.map rwR)) ∧ F.Nodup ∧ (∀ x ∈ F, w.heap.size ≤ x) ∧ Srt w w' g o d.length)
/-- What it wants of the rows. -/
structure CutIn (Iq : Nat → Prop) (w : World) (m : Nat) (d : List Rt) : Prop where
  vec : ∀ x ∈ d, OwnQ Iq w x.2.1 x.2.2
  ok : RowsOk (d.map rwR) (m : Int)
  up : Up Iq w
theorem okId_wf {x : Int} (h : okId x = true) : (Lit.int .i64 x).wf = true := by
  simp [okId] at h
  simp [Lit.wf, IntKind.min, IntKind.max, IntKind.signed, IntKind.bits]
  exact ⟨by omega, by omega⟩
theorem CutIn.boxE {Iq : Nat → Prop} {w : World} {m : Nat} {d : List Rt} (h : CutIn Iq w m d) (hm : 1 ≤ m ∧ m ≤ 64) (hd : d ≠ []) : boxE (d.map rwR) (m : Int) = 0 := by
  unfold YtbnljabeccebiaaGreat.boxE
  rw [if_pos (by omega), if_neg (by simpa using hd)]
  exact idsE_zero.2 h.ok
theorem CutIn.len {Iq : Nat → Prop} {w : World} {m : Nat} {d : List Rt} (h : CutIn Iq w m d) {x : Rt} (hx : x ∈ d) : x.2.2.length = m := by
  have := chk_ok (h.ok.row (rwR x) (List.mem_map.2 ⟨x, hx, rfl⟩)).2
  simp only [] at this
  omega
theorem RwRd.rdw {w : World} {g o cap : Nat} {d : List Rt} (h : RwRd w g o d) (hv : ∀ x ∈ d, RdI w x.2.1 x.2.2) : RdW w (.slice (some ⟨g, o, none⟩) d.length cap) (d.map rwR) := by
  refine ⟨some ⟨g, o, none⟩, cap, by simp, fun i hi => ?_⟩
  have hi' : i < d.length := by simpa using hi
  obtain ⟨h1, h2⟩ := h i hi'
  have e : (d.map rwR)[i]! = rwR d[i] := by rw [getElem!_pos _ i hi]; simp
  rw [e]
  exact ⟨g, o, d[i].2.1, rfl, h1, h2, hv _ (List.getElem_mem hi')⟩
theorem srt_gb {w w' : World} {g o n : Nat} (h : Gb w w') (hg : g < w.heap.size) : Srt w w' g o n :=
  ⟨Tk.Kp.of_gr h, fun cur hc => ⟨cur, by rw [h.block g hg]; exact hc, rfl, fun _ _ => rfl⟩⟩
theorem RwAt.lt {w : World} {g o : Nat} {d : List Rt} (h : RwAt w g o d) : g < w.heap.size := by
  obtain ⟨cur, h, _⟩ := h
  exact (Array.getElem?_eq_some_iff.1 h).1
theorem RwRd.gb {w w' : World} {g o : Nat} {d : List Rt} (h : RwRd w g o d) (k : Gb w w') : RwRd w' g o d := fun i hi => ⟨gb_keeps k (h i hi).1, gb_keeps k (h i hi).2⟩

theorem heap_new (w : World) (o : Obj) : (w.alloc o).heap[w.heap.size]? = some o := by
  show (w.heap.push o)[w.heap.size]? = some o
  exact Array.getElem?_push_size
theorem leaf_out {Iq : Nat → Prop} {w w3 : World} {g o m n : Nat} {d : List Rt} {L H : List Int} {vl vh : Value} {g3 c3 : Nat} (hg : g < w.heap.size) (hI : CutIn Iq w m d) (hd : d ≠ []) (hb : boxE (d.map rwR) (m : Int) = 0) (hL : boxL (d.map rwR) m = L) (hH : boxH (d.map rwR) m = H) (_hn : n = d.length)
    (k : Gb w w3) (o1 : OwnQ Iq w3 vl L) (o2 : OwnQ Iq w3 vh H) (o3 : w3.ownsRow 0 43 2 (.slice (some ⟨g3, 0, none⟩) n c3) d.length (d.flatMap encR)) (hg3 : w.heap.size ≤ g3) (hg4 : g3 < w3.heap.size) :
    CutOut Iq w g o m d (.returned (.pointer (some ⟨w3.heap.size, 0, none⟩))) (w3.alloc (.cells #[.int .i64 2, vl, vh, .int .u64 0, .int .u64 0, .slice none 0 0, .slice (some ⟨g3, 0, none⟩) n c3, .int .i64 0, .int .i64 0, .int .i64 0, .pointer none, .pointer none] 117)) := by
  have k4 : ∀ ob, Gb w3 (w3.alloc ob) := fun ob => gb_alloc (Below.refl _ _) ob
  refine ⟨fun e => absurd e hd, fun _ => ⟨w3.heap.size, fun _ => ⟨L, H, d.map rwR, (0, 0, 0), none⟩, [w3.heap.size, g3], rfl, fun N _ => ⟨?_, ?_, ?_⟩, ?_, ?_, srt_gb (gb_alloc k _) hg⟩⟩
  · refine ⟨vl, vh, .slice (some ⟨g3, 0, none⟩) n c3, ⟨?_, o1.gb (k4 _), o2.gb (k4 _), (hI.up.gb k).gb (k4 _)⟩, d, g3, ⟨?_, fun x hx => ((hI.vec x hx).gb k).gb (k4 _), (hI.up.gb k).gb (k4 _)⟩, rfl, rfl, rfl⟩
    · rw [heap_new]; rfl
    · exact World.ownsRow.alloc o3 _
  · rw [okP_leaf rfl]
    exact ⟨by simpa using hd, boxE_row hb hL.symm hH.symm⟩
  · rw [rowsP_leaf rfl]
  · simp; omega
  · intro x hx
    simp at hx
    have := k.size
    rcases hx with rfl | rfl <;> omega

set_option maxHeartbeats 1000000 in
set_option maxRecDepth 100000 in
/-- Few rows: a part that is not cut. -/
theorem cut_leaf {Iq : Nat → Prop} {m leaf lb fb : Nat} (hm : 1 ≤ m ∧ m ≤ 64) (d : List Rt) (hd : d ≠ []) (hle : d.length ≤ leaf) (_hlf : leaf ≤ 100000) {w : World} {g o cap : Nat} (hR : RwAt w g o d) (hI : CutIn Iq w m d)
    (c1 : w.cell? ⟨lb, 0, none⟩ = some (.int .i64 (leaf : Int))) :
    Calls Tryz.prog 93 #[.slice (some ⟨g, o, none⟩) d.length cap, .pointer (some ⟨lb, 0, none⟩), .pointer (some ⟨fb, 0, none⟩)] w fun e w' => CutOut Iq w g o m d e w' := by
  have h512 := hI.ok.few
  rw [List.length_map] at h512
  have hp : 0 < d.length := List.length_pos_iff.2 hd
  have BX := hI.boxE hm hd
  have cB := boxOf_c (RwRd.rdw (cap := cap) hR.rd (fun x hx => (hI.vec x hx).rd)) BX (by rw [getElem!_pos _ 0 (by simpa using hp)]; simp only [List.getElem_map, rwR]; exact hI.len (List.getElem_mem hp)) (fun i hi => by
    rw [getElem!_pos _ i hi]
    exact okId_wf (hI.ok.row _ (List.getElem_mem hi)).1)
  have cl0 := fun W (g' : Gb w W) => cloneR_c (cap := cap) (hR.rd.gb g') (by omega) (fun x hx => by obtain ⟨a, c, e, _⟩ := (hI.vec x hx).rd; rw [e]; rfl)
  have HH : Hid (RwAt w g o d ∧ CutIn Iq w m d ∧ boxE (d.map rwR) (m : Int) = 0 ∧ d ≠ []) := ⟨hR, hI, BX, hd⟩
  obtain ⟨n, hN⟩ : ∃ n, n = d.length := ⟨_, rfl⟩
  have N : Hid (n = d.length) := hN
  generalize hbl : boxL (d.map rwR) m = L at *
  generalize hbh : boxH (d.map rwR) m = H at *
  have BB : Hid (boxL (d.map rwR) m = L ∧ boxH (d.map rwR) m = H) := ⟨hbl, hbh⟩
  simp only [← hN] at cB cl0 hle h512 hp
  rw [← hN]
  have hn0 : ((n : Int) == 0) = false := by rw [beq_eq_false_iff_ne]; omega
  have hlei : (n : Int) ≤ (leaf : Int) := by omega
  clear hR hI BX hd hN hbl hbh hle
  go_enter Tryz.func93, Tryz.ntmps93
  go_wp2_with fail
  go_fit cB
  rintro e w1 ⟨vl, vh, rfl, g1, o1, o2⟩
  obtain ⟨al, cl, el, _⟩ := o1.rd
  obtain ⟨ah, ch, eh, _⟩ := o2.rd
  subst el eh
  have X1 : Hid (Gb w w1 ∧ Own w1 w.heap.size (.slice al L.length cl) L ∧ Own w1 w.heap.size (.slice ah H.length ch) H) := ⟨g1, o1, o2⟩
  generalize L.length = nl at *
  generalize H.length = nh at *
  have c1' := gb_keeps (gb_alloc g1 (.cells #[.int .i64 2, .slice al nl cl, .slice ah nh ch, .int .u64 0, .int .u64 0, .slice none 0 0] 101)) c1
  have FS0 : (fun W : World => W.cell? ⟨w1.heap.size, 0, none⟩ = some (.int .i64 2) ∧ W.cell? ⟨w1.heap.size, 1, none⟩ = some (.slice al nl cl) ∧ W.cell? ⟨w1.heap.size, 2, none⟩ = some (.slice ah nh ch) ∧ W.cell? ⟨w1.heap.size, 3, none⟩ = some (.int .u64 0) ∧ W.cell? ⟨w1.heap.size, 4, none⟩ = some (.int .u64 0) ∧ W.cell? ⟨w1.heap.size, 5, none⟩ = some (.slice none 0 0)) (w1.alloc (.cells #[.int .i64 2, .slice al nl cl, .slice ah nh ch, .int .u64 0, .int .u64 0, .slice none 0 0] 101)).drew := by
    refine ⟨?_, ?_, ?_, ?_, ?_, ?_⟩ <;> simp [go_sem]
  have G2 : Hid (Gb w (w1.alloc (.cells #[.int .i64 2, .slice al nl cl, .slice ah nh ch, .int .u64 0, .int .u64 0, .slice none 0 0] 101)).drew) := (gb_alloc g1 _).drew
  have cC := cl0 _ G2.out
  clear cB cl0 g1 o1 o2 c1
  go_wp2_with fail
  refine wp_region_held_drew (S := fun W => W.cell? ⟨w1.heap.size, 0, none⟩ = some (.int .i64 2) ∧ W.cell? ⟨w1.heap.size, 1, none⟩ = some (.slice al nl cl) ∧ W.cell? ⟨w1.heap.size, 2, none⟩ = some (.slice ah nh ch) ∧ W.cell? ⟨w1.heap.size, 3, none⟩ = some (.int .u64 0) ∧ W.cell? ⟨w1.heap.size, 4, none⟩ = some (.int .u64 0) ∧ W.cell? ⟨w1.heap.size, 5, none⟩ = some (.slice none 0 0)) (by kernel_rfl) (FS0) (fun hHeld => ?_)
  refine wpAnyH_take (i := 0) (v := ?_) rfl (by kernel_rfl) (by kernel_rfl) (by kernel_rfl) (fun _ _ _ h => h) (Or.inl ⟨by rfl, ?_⟩) (by assumption) ?_
  rotate_left 1
  · (intro w hSw; (obtain ⟨s0, s1, s2, s3, s4, s5⟩ := hSw); go_simp; try with_reducible rfl)
  try simp only [Act.put, List.getElem_toArray, List.getElem_cons_zero, List.setIfInBounds_toArray, List.set_cons_zero, List.set_cons_succ]
  refine wpAnyH_take (i := 1) (v := ?_) rfl (by kernel_rfl) (by kernel_rfl) (by kernel_rfl) (fun _ _ _ h => h) (Or.inl ⟨by rfl, ?_⟩) (by assumption) ?_
  rotate_left 1
  · (intro w hSw; (obtain ⟨s0, s1, s2, s3, s4, s5⟩ := hSw); go_simp; try with_reducible rfl)
  try simp only [Act.put, List.getElem_toArray, List.getElem_cons_zero, List.getElem_cons_succ, List.setIfInBounds_toArray, List.set_cons_zero, List.set_cons_succ]
  refine wpAnyH_ready (rs := [2]) (by kernel_rfl) (by simp) ?_
  refine AllReadyH.cons rfl (fun K hK => ?_) AllReadyH.nil
  go_simp
  go_fit cC
  rintro e w3 ⟨g3, c3, rfl, b3, l3, a3, k3, o3⟩
  refine hK.out _ _ (⟨gb_keeps k3 hHeld.1, gb_keeps k3 hHeld.2.1, gb_keeps k3 hHeld.2.2.1, gb_keeps k3 hHeld.2.2.2.1, gb_keeps k3 hHeld.2.2.2.2.1, gb_keeps k3 hHeld.2.2.2.2.2⟩) (fun hHeld => ?_)
  clear hK K
  try simp only [Act.put, List.getElem_toArray, List.getElem_cons_zero, List.getElem_cons_succ, List.setIfInBounds_toArray, List.set_cons_zero, List.set_cons_succ]
  refine wpAnyH_take (i := 3) (v := ?_) rfl (by kernel_rfl) (by kernel_rfl) (by kernel_rfl) (fun _ _ _ h => h) (Or.inl ⟨by rfl, ?_⟩) (by assumption) ?_
  rotate_left 1
  · (intro w hSw; (obtain ⟨s0, s1, s2, s3, s4, s5⟩ := hSw); go_simp; try with_reducible rfl)
  try simp only [Act.put, List.getElem_toArray, List.getElem_cons_zero, List.getElem_cons_succ, List.setIfInBounds_toArray, List.set_cons_zero, List.set_cons_succ]
  refine wpAnyH_ready (rs := [4]) (by kernel_rfl) (by simp) ?_
  refine AllReadyH.cons rfl (fun K hK => ?_) AllReadyH.nil
  go_simp
  refine hK.out _ _ (⟨gb_keeps (gb_alloc (Below.refl _ _) _) hHeld.1, gb_keeps (gb_alloc (Below.refl _ _) _) hHeld.2.1, gb_keeps (gb_alloc (Below.refl _ _) _) hHeld.2.2.1, gb_keeps (gb_alloc (Below.refl _ _) _) hHeld.2.2.2.1, gb_keeps (gb_alloc (Below.refl _ _) _) hHeld.2.2.2.2.1, gb_keeps (gb_alloc (Below.refl _ _) _) hHeld.2.2.2.2.2⟩) (fun hHeld => ?_)
  clear hK K
  try simp only [Act.put, List.getElem_toArray, List.getElem_cons_zero, List.getElem_cons_succ, List.setIfInBounds_toArray, List.set_cons_zero, List.set_cons_succ]
  refine wpAnyH_take (i := 5) (v := ?_) rfl (by kernel_rfl) (by kernel_rfl) (by kernel_rfl) (fun _ _ _ h => h) (Or.inl ⟨by rfl, ?_⟩) (by assumption) ?_
  rotate_left 1
  · (intro w hSw; (obtain ⟨s0, s1, s2, s3, s4, s5⟩ := hSw); go_simp; try with_reducible rfl)
  try simp only [Act.put, List.getElem_toArray, List.getElem_cons_zero, List.getElem_cons_succ, List.setIfInBounds_toArray, List.set_cons_zero, List.set_cons_succ]
  refine wpAnyH_done (by kernel_rfl) ?_ _
  have Y3 : Hid (Gb w w3 ∧ Own w3 w.heap.size (.slice al nl cl) L ∧ Own w3 w.heap.size (.slice ah nh ch) H ∧ w3.ownsRow 0 43 2 (.slice (some ⟨g3, 0, none⟩) n c3) n (d.flatMap encR) ∧ w.heap.size ≤ g3 ∧ g3 < w3.heap.size) := by
    have k := gb_trans (gb_alloc (Below.refl _ _) _).drew k3
    refine ⟨gb_trans X1.out.1 k, X1.out.2.1.gb k, X1.out.2.2.gb k, ?_, Nat.le_trans G2.out.size b3, l3⟩
    refine ⟨o3.1, ?_⟩
    rcases o3.2 with h | ⟨a, b, c, e, _, r⟩
    · exact .inl h
    · exact .inr ⟨a, b, c, e, Nat.zero_le _, r⟩
  clear k3 o3 b3 l3 a3 hHeld X1 G2
  go_wp2
  go_ret
  refine leaf_out HH.out.1.lt HH.out.2.1 HH.out.2.2.2 HH.out.2.2.1 BB.out.1 BB.out.2 N.out Y3.out.1 (OwnQ.new Y3.out.2.1 HH.out.2.1.up (Nat.le_refl _)) (OwnQ.new Y3.out.2.2.1 HH.out.2.1.up (Nat.le_refl _)) (by rw [← N.out]; exact Y3.out.2.2.2.1) Y3.out.2.2.2.2.1 Y3.out.2.2.2.2.2
end Go.Proofs.YtbnljabeccebiaaGreat

/- A part that is cut, out of its two lesser ones. -/
namespace Go.Proofs.YtbnljabeccebiaaGreat
open Go.RowKit Go.Sort

theorem Srt.trans {w W W' : World} {g o n o' n' : Nat} (h : Srt w W g o n) (k : Srt W W' g o' n') (h1 : o ≤ o') (h2 : o' + n' * 2 ≤ o + n * 2) : Srt w W' g o n := by
  refine ⟨h.kp.trans k.kp, fun cur hc => ?_⟩
  obtain ⟨c1, e1, s1, f1⟩ := h.blk cur hc
  obtain ⟨c2, e2, s2, f2⟩ := k.blk c1 e1
  exact ⟨c2, e2, by omega, fun i hi => (f2 i (by omega)).trans (f1 i hi)⟩
theorem RwAt.take {w : World} {g o n : Nat} {d : List Rt} (h : RwAt w g o d) : RwAt w g o (d.take n) := by
  obtain ⟨cur, h1, h2, h3⟩ := h
  refine ⟨cur, h1, by rw [List.length_take]; have := Nat.min_le_right n d.length; omega, fun i hi => ?_⟩
  rw [List.length_take] at hi
  rw [List.getElem_take]
  exact h3 i (by omega)
theorem RwAt.drop {w : World} {g o n : Nat} {d : List Rt} (h : RwAt w g o d) (hn : n ≤ d.length) : RwAt w g (o + n * 2) (d.drop n) := by
  obtain ⟨cur, h1, h2, h3⟩ := h
  refine ⟨cur, h1, by rw [List.length_drop]; omega, fun i hi => ?_⟩
  rw [List.length_drop] at hi
  rw [List.getElem_drop]
  have := h3 (n + i) (by omega)
  rw [show o + (n + i) * 2 = o + n * 2 + i * 2 by omega] at this
  exact this
/-- Rows behind those that were turned. -/
theorem RwAt.beside {w W : World} {g o o' n : Nat} {d : List Rt} (h : RwAt w g o' d) (k : Srt w W g o n) (ho : o + n * 2 ≤ o') : RwAt W g o' d := by
  obtain ⟨cur, h1, h2, h3⟩ := h
  obtain ⟨c1, e1, s1, f1⟩ := k.blk cur h1
  refine ⟨c1, e1, by omega, fun i hi => ?_⟩
  rw [f1 _ (by omega), f1 _ (by omega)]
  exact h3 i hi
theorem RwAt.gb {w W : World} {g o : Nat} {d : List Rt} (h : RwAt w g o d) (k : Gb w W) : RwAt W g o d := by
  have hlt := h.lt
  obtain ⟨cur, h1, h2⟩ := h
  exact ⟨cur, by rw [k.block g hlt]; exact h1, h2⟩
theorem RwAt.noint {w : World} {g o : Nat} {d : List Rt} (h : RwAt w g o d) : NoInt w (fun b => b = g) := by
  intro k e cur s hc
  subst e
  obtain ⟨c, h1, _⟩ := h
  rw [h1] at hc
  simp at hc
theorem CutIn.kp {Iq : Nat → Prop} {w W : World} {g o m : Nat} {d d2 : List Rt} (h : CutIn Iq w m d) (k : Tk.Kp (fun b => b = g) w W) (hr : RwAt w g o d2) : CutIn Iq W m d := ⟨fun x hx => ownq_noint (h.vec x hx) k hr.noint, h.ok, h.up.le k.size⟩
theorem CutIn.perm {Iq : Nat → Prop} {w : World} {m : Nat} {d d' : List Rt} (h : CutIn Iq w m d) (p : d'.Perm d) : CutIn Iq w m d' := ⟨fun x hx => h.vec x (p.mem_iff.1 hx), h.ok.perm (p.symm.map _), h.up⟩
theorem CutIn.sub {Iq : Nat → Prop} {w : World} {m : Nat} {d d' : List Rt} (h : CutIn Iq w m d) (p : d'.Sublist d) : CutIn Iq w m d' := ⟨fun x hx => h.vec x (p.subset hx), h.ok.sub (p.map _), h.up⟩
theorem CutIn.rtOk {Iq : Nat → Prop} {w : World} {g o m : Nat} {d d2 : List Rt} (h : CutIn Iq w m d) (hr : RwAt w g o d2) : ∀ x ∈ d, RtOk w g m x := by
  intro x hx
  refine ⟨(h.vec x hx).rd, h.len hx, fun b o' n c e hb => ?_⟩
  subst hb
  rcases (h.vec x hx).own.2 with ⟨e2, _⟩ | ⟨g', cap', cur, e2, _, hh, _⟩
  · rw [e2] at e; cases e
  · rw [e2] at e
    cases e
    exact hr.noint _ rfl _ _ hh

theorem alg_tot {x a y b : Int} (h : ¬ alg y b x a < 0) (hne : x ≠ y) : alg x a y b < 0 := by
  have h1 := alg_neg y b x a
  have h2 := alg_neg x a y b
  rw [decide_eq_false h] at h1
  have h3 := (Bool.or_eq_false_iff.1 h1.symm)
  apply of_decide_eq_true
  rw [h2]
  have h4 := of_decide_eq_false h3.1
  have h5 := Bool.and_eq_false_iff.1 h3.2
  simp only [decide_eq_false_iff_not] at h5
  simp only [Bool.or_eq_true, Bool.and_eq_true, decide_eq_true_eq]
  omega
theorem isAb_alg (ax : Nat) (y : Rt) (x : Rt) : isAb ((ax : Int), y.2.2[ax]!, y.1) (rwR x) = decide (alg x.1 x.2.2[ax]! y.1 y.2.2[ax]! < 0) := by
  rw [alg_neg]; rfl
/-- On which side of the middle row's border the others lie. -/
theorem sides {d : List Rt} {ax mid : Nat} (hs : d.Pairwise fun x y => ¬ alg y.1 y.2.2[ax]! x.1 x.2.2[ax]! < 0) (hid : (d.map (·.1)).Pairwise (· ≠ ·)) (hm : mid < d.length) :
    (∀ r ∈ (d.take mid).map rwR, isAb ((ax : Int), d[mid].2.2[ax]!, d[mid].1) r = true) ∧ ∀ r ∈ (d.drop mid).map rwR, isAb ((ax : Int), d[mid].2.2[ax]!, d[mid].1) r = false := by
  rw [List.pairwise_iff_getElem] at hs hid
  constructor
  · intro r hr
    obtain ⟨x, hx, rfl⟩ := List.mem_map.1 hr
    obtain ⟨i, hi, rfl⟩ := List.getElem_of_mem hx
    rw [List.length_take] at hi
    rw [List.getElem_take, isAb_alg]
    have h1 := hs i mid (by omega) hm (by omega)
    have h2 := hid i mid (by simp; omega) (by simpa using hm) (by omega)
    simp only [List.getElem_map] at h2
    exact decide_eq_true (alg_tot h1 h2)
  · intro r hr
    obtain ⟨x, hx, rfl⟩ := List.mem_map.1 hr
    obtain ⟨i, hi, rfl⟩ := List.getElem_of_mem hx
    rw [List.length_drop] at hi
    rw [List.getElem_drop, isAb_alg]
    by_cases e : i = 0
    · subst e
      simp only [Nat.add_zero]
      rw [alg_neg]; simp
    · exact decide_eq_false (hs mid (mid + i) hm (by omega) (by omega))

/-- What the closure tells of many rows. -/
theorem node_out {Iq : Nat → Prop} {w W5 W6 : World} {g o m n ax mid b1 b2 : Nat} {d d' : List Rt} {L H : List Int} {vl vh : Value} {T1 T2 : Nat → Pt} {F1 F2 : List Nat} {x : Rt} (hd : d ≠ []) (hI : CutIn Iq w m d) (hb : boxE (d.map rwR) (m : Int) = 0) (hL : boxL (d.map rwR) m = L) (hH : boxH (d.map rwR) m = H)
    (hp : d'.Perm d) (hs : d'.Pairwise fun x y => ¬ alg y.1 y.2.2[ax]! x.1 x.2.2[ax]! < 0) (hn : n = d.length) (hmid : 1 ≤ mid) (hmn : mid < d'.length) (hax : ax < m) (hx : x = d'[mid])
    (o1 : OwnQ Iq W6 vl L) (o2 : OwnQ Iq W6 vh H) (hS : Srt w W6 g o n) (s5 : w.heap.size ≤ W5.heap.size) (s6 : W5.heap.size ≤ W6.heap.size)
    (t1 : ∀ N, (d'.take mid).length ≤ N → TrO Iq W6 T1 (N + 1) b1 F1 ∧ OkP T1 m N (T1 b1) ∧ (rowsP T1 N (T1 b1)).Perm ((d'.take mid).map rwR)) (n1 : F1.Nodup) (l1 : ∀ x ∈ F1, w.heap.size ≤ x ∧ x < W5.heap.size)
    (t2 : ∀ N, (d'.drop mid).length ≤ N → TrO Iq W6 T2 (N + 1) b2 F2 ∧ OkP T2 m N (T2 b2) ∧ (rowsP T2 N (T2 b2)).Perm ((d'.drop mid).map rwR)) (n2 : F2.Nodup) (l2 : ∀ x ∈ F2, W5.heap.size ≤ x) :
    CutOut Iq w g o m d (.returned (.pointer (some ⟨W6.heap.size, 0, none⟩))) (W6.alloc (.cells #[.int .i64 2, vl, vh, .int .u64 0, .int .u64 0, .slice none 0 0, .slice none 0 0, .int .i64 (ax : Int), .int .i64 x.2.2[ax]!, .int .i64 x.1, .pointer (some ⟨b1, 0, none⟩), .pointer (some ⟨b2, 0, none⟩)] 117)) := by
  have k4 : ∀ ob, Gb W6 (W6.alloc ob) := fun ob => gb_alloc (Below.refl _ _) ob
  have hlen : d'.length = d.length := hp.length_eq
  have m1 := (t1 d'.length (by rw [List.length_take]; omega)).1.mem
  have m2 := (t2 d'.length (by rw [List.length_drop]; omega)).1.mem
  refine ⟨fun e => absurd e hd, fun _ => ⟨W6.heap.size, fun k => if k = W6.heap.size then ⟨L, H, [], ((ax : Int), x.2.2[ax]!, x.1), some (b1, b2)⟩ else if k < W5.heap.size then T1 k else T2 k, W6.heap.size :: (F1 ++ F2), rfl, fun N hN => ?_, ?_, ?_, ?_⟩⟩
  · obtain ⟨N', rfl⟩ : ∃ N', N = N' + 1 := ⟨N - 1, by omega⟩
    obtain ⟨a1, a2, a3⟩ := t1 N' (by rw [List.length_take]; omega)
    obtain ⟨c1, c2, c3⟩ := t2 N' (by rw [List.length_drop]; omega)
    generalize hT : (fun k => if k = W6.heap.size then (⟨L, H, [], ((ax : Int), x.2.2[ax]!, x.1), some (b1, b2)⟩ : Pt) else if k < W5.heap.size then T1 k else T2 k) = T
    have e0 : T W6.heap.size = ⟨L, H, [], ((ax : Int), x.2.2[ax]!, x.1), some (b1, b2)⟩ := by rw [← hT]; simp
    have e1 : ∀ x ∈ F1, T x = T1 x := fun x hx => by
      have h1 := l1 x hx
      have h2 := m1.2 x hx
      rw [← hT]
      simp only
      rw [if_neg (by omega), if_pos (by omega)]
    have e2 : ∀ x ∈ F2, T x = T2 x := fun x hx => by
      have h1 := l2 x hx
      have h2 := m2.2 x hx
      rw [← hT]
      simp only
      rw [if_neg (by omega), if_neg (by omega)]
    obtain ⟨p1, p2⟩ := TrO.congr _ _ _ a1 e1
    obtain ⟨q1, q2⟩ := TrO.congr _ _ _ c1 e2
    obtain ⟨r1, r2⟩ := p2 N' (by omega) m
    obtain ⟨u1, u2⟩ := q2 N' (by omega) m
    have hk : (T W6.heap.size).kids = some (b1, b2) := by rw [e0]
    have hpr : (rowsP T N' (T b1) ++ rowsP T N' (T b2)).Perm (d.map rwR) := by
      rw [r1, u1]
      refine (a3.append c3).trans ?_
      rw [← List.map_append, List.take_append_drop]
      exact hp.map _
    have hkp : Tk.Kp (fun _ => False) W6 (W6.alloc (.cells #[.int .i64 2, vl, vh, .int .u64 0, .int .u64 0, .slice none 0 0, .slice none 0 0, .int .i64 (ax : Int), .int .i64 x.2.2[ax]!, .int .i64 x.1, .pointer (some ⟨b1, 0, none⟩), .pointer (some ⟨b2, 0, none⟩)] 117)) := Tk.Kp.of_gr (k4 _)
    have hno : NoInt W6 (fun _ => False) := fun _ h => h.elim
    obtain ⟨hs1, hs2⟩ := sides hs (by
      have := (hI.perm hp).ok.ids
      unfold idsOf at this
      rw [List.map_map] at this
      exact this) hmn
    rw [← hx] at hs1 hs2
    refine ⟨⟨vl, vh, .slice none 0 0, ⟨?_, by rw [e0]; exact o1.gb (k4 _), by rw [e0]; exact o2.gb (k4 _), (hI.up.le (Nat.le_trans s5 s6)).gb (k4 _)⟩, ?_⟩, ?_, ?_⟩
    · rw [heap_new, e0]; rfl
    · rw [hk]
      exact ⟨rfl, F1, F2, TrO.kp hkp hno _ _ _ p1 (fun _ _ h => h), TrO.kp hkp hno _ _ _ q1 (fun _ _ h => h), rfl⟩
    · rw [OkP, hk]
      dsimp only
      refine ⟨r2.2 a2, u2.2 c2, ?_, by rw [e0]; dsimp only; omega, ?_, ?_⟩
      · exact (boxE_row hb (by rw [e0]; exact hL.symm) (by rw [e0]; exact hH.symm)).sub (fun r hr => hpr.mem_iff.1 hr)
      · intro r hr
        rw [e0]
        rw [r1] at hr
        exact hs1 r (a3.mem_iff.1 hr)
      · intro r hr
        rw [e0]
        rw [u1] at hr
        exact hs2 r (c3.mem_iff.1 hr)
    · rw [rowsP_node hk]; exact hpr
  · rw [List.nodup_cons, List.nodup_append]
    refine ⟨fun h => ?_, n1, n2, fun a ha b hb e => ?_⟩
    · rcases List.mem_append.1 h with h | h
      · have := m1.2 _ h; omega
      · have := m2.2 _ h; omega
    · subst e
      have h1 := (l1 a ha).2
      have h2 := l2 a hb
      omega
  · intro y hy
    simp only [List.mem_cons, List.mem_append] at hy
    rcases hy with rfl | hy | hy
    · omega
    · exact (l1 y hy).1
    · have := l2 y hy; omega
  · rw [← hn]
    refine ⟨hS.kp.trans (Tk.Kp.of_gr (k4 _)), fun cur hc => ?_⟩
    obtain ⟨c1, e1, s1, f1⟩ := hS.blk cur hc
    exact ⟨c1, by rw [(k4 _).block g (Array.getElem?_eq_some_iff.1 e1).1]; exact e1, s1, f1⟩
end Go.Proofs.YtbnljabeccebiaaGreat
