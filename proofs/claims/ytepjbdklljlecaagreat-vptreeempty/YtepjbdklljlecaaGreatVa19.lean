import Derived.Test.YtepjbdklljlecaaGreatVa18
import Derived.Deep.LoopGhost
/- (*vptree.Tree).without at a part that is cut, and whole. -/
namespace Go.Proofs.YtepjbdklljlecaaGreat
open Go.RowKit Go.Sort

set_option maxHeartbeats 2000000 in
set_option maxRecDepth 100000 in
theorem wo_near {Iq : Nat → Prop} {m leaf tb sb n : Nat} {x : Rt} (ih : ∀ (w : World) (b : Nat) (F : List Nat) (T : Nat → Pt), TrO Iq w T (n + 1) b F → OkP T m n (T b) → F.Nodup → tb ∉ F → sb ∉ F → w.cell? ⟨tb, 1, none⟩ = some (.int .i64 (leaf : Int)) → w.cell? ⟨tb, 2, none⟩ = some (.pointer (some ⟨sb, 0, none⟩)) → SrcAt w sb → OwnQ Iq w x.2.1 x.2.2 → rwR x ∈ rowsP T n (T b) → RowsOk (rowsP T n (T b)) (m : Int) → Calls Tryz.prog 85 #[.pointer (some ⟨tb, 0, none⟩), .pointer (some ⟨b, 0, none⟩), .agg #[.int .i64 x.1, x.2.1]] w fun e w' => RmOut Iq w sb m F (aft false (rwR x) (rowsP T n (T b))) e w')
    (hcx : chk x.2.2 (m : Int) = 0) {w : World} {b l h : Nat} {F : List Nat} {T : Nat → Pt} (ht : TrO Iq w T (n + 1 + 1) b F) (ok : OkP T m (n + 1) (T b)) (hk : (T b).kids = some (l, h)) (hnd : F.Nodup) (htb : tb ∉ F) (hsb : sb ∉ F)
    (c1 : w.cell? ⟨tb, 1, none⟩ = some (.int .i64 (leaf : Int))) (c2 : w.cell? ⟨tb, 2, none⟩ = some (.pointer (some ⟨sb, 0, none⟩))) (hS : SrcAt w sb) (hv : OwnQ Iq w x.2.1 x.2.2) (hx : rwR x ∈ rowsP T (n + 1) (T b)) (h1 : RowsOk (rowsP T (n + 1) (T b)) (m : Int)) (hab : isAb (T b) (rwR x) = true) :
    Calls Tryz.prog 85 #[.pointer (some ⟨tb, 0, none⟩), .pointer (some ⟨b, 0, none⟩), .agg #[.int .i64 x.1, x.2.1]] w fun e w' => RmOut Iq w sb m F (aft false (rwR x) (rowsP T (n + 1) (T b))) e w' := by
  obtain ⟨vl, vh, vr, hp, ht⟩ := ht
  rw [hk] at ht
  obtain ⟨rfl, F1, F2, t1, t2, rfl⟩ := ht
  obtain ⟨n', en, ok1, ok2, ok3, oa1, oa2⟩ := okP_node hk ok
  have en' : n = n' := by omega
  subst en'
  rw [rowsP_node hk] at hx h1 ⊢
  have hs : rwR x ∈ rowsP T n (T l) := by
    rcases List.mem_append.1 hx with h | h
    · exact h
    · rw [oa2 _ h] at hab; cases hab
  have hb : bef false (rwR x) (rowsP T n (T l) ++ rowsP T n (T h)) := ⟨h1.ids, by rw [if_neg (by decide)]; exact hx⟩
  obtain ⟨_, pm⟩ := aft_left hb (fun _ => hs)
  have r1 := h1.sub (List.sublist_append_left _ _)
  have hnd2 := hnd
  rw [List.nodup_cons, List.nodup_append] at hnd2
  have ALT := fun w1 w2 e g1 hO => alt_near (w1 := w1) (w2 := w2) (e := e) hp hk t1 t2 ok hnd hS hsb pm g1 hO
  have hrd := hv.rd
  obtain ⟨xi, u, xl⟩ := x
  obtain ⟨ua, uc, eu, _⟩ := hv.rd
  dsimp only at eu hrd hcx
  subst eu
  dsimp only at hab ih hs hx r1 pm ALT
  generalize hnx : xl.length = nx at *
  have gA : Gb w (w.alloc (.cells #[.int .i64 xi, .slice ua nx uc] 43)) := gb_alloc (Below.refl _ _) _
  have gD := gA.drew
  have cI := isCut_c (hp.gb gA)
  rw [hk] at cI
  have kC : chk (T b).reg.L (m : Int) = 0 := by
    have := (ckR_ok ok3.1).2.1
    exact this (by show (T b).reg.S = 3; rw [hp.ball.1])
  have cH := hit_c (xi := xi) (gb_keeps gD (cell_cur (i := 1) hp.blk rfl)) (hp.low.rd.gb gD) (hrd.gb gD) kC hcx
  have cL := fun w => Tk.less_c (hitOf (T b).reg.L (xi, xl)) (T b).cut w
  rw [show Tk.hlt (hitOf (T b).reg.L (xi, xl)) (T b).cut = true from hab] at cL
  have z7 := gb_keeps gD (cell_cur (i := 7) hp.blk rfl)
  have z8 := gb_keeps gD (cell_cur (i := 8) hp.blk rfl)
  have z9 := gb_keeps gD (cell_cur (i := 9) hp.blk rfl)
  have IHX : Hid (∀ w1, Gb (w.alloc (.cells #[.int .i64 xi, .slice ua nx uc] 43)).drew w1 → Calls Tryz.prog 85 #[.pointer (some ⟨tb, 0, none⟩), .pointer (some ⟨l, 0, none⟩), .agg #[.int .i64 xi, .slice ua nx uc]] w1.drew fun e w' => RmOut Iq w1.drew sb m F1 (aft false (xi, xl) (rowsP T n (T l))) e w') := fun w1 g => by
    have g2 := gb_trans gD g.drew
    exact ih w1.drew l F1 T (t1.gb g2) ok1 hnd2.2.1 (fun e => htb (List.mem_cons_of_mem _ (List.mem_append_left _ e))) (fun e => hsb (List.mem_cons_of_mem _ (List.mem_append_left _ e))) (gb_keeps g2 c1) (gb_keeps g2 c2) (hS.gb g2) (hv.gb g2) hs r1
  have HRX : Hid (∀ w1, Gb (w.alloc (.cells #[.int .i64 xi, .slice ua nx uc] 43)).drew w1 → ∀ e w2, RmOut Iq w1.drew sb m F1 (aft false (xi, xl) (rowsP T n (T l))) e w2 → ∃ pv, e = .returned (.pointer pv) ∧ Hid (Alt_near Iq w w2 sb m b h (b :: (F1 ++ F2)) (aft false (xi, xl) (rowsP T n (T l) ++ rowsP T n (T h))) pv) ∧ w2.cell? ⟨b, 10, none⟩ = some (.pointer (some ⟨l, 0, none⟩)) ∧ w2.frozen? ⟨b, 10, none⟩ = false ∧ ∀ i y, w1.drew.cell? ⟨w.heap.size, i, none⟩ = some y → w2.cell? ⟨w.heap.size, i, none⟩ = some y) := fun w1 g e w2 hO => by
    obtain ⟨pv, e1, a, c, f, k⟩ := ALT w1.drew w2 e (gb_trans gD g.drew) hO
    exact ⟨pv, e1, a, c, f, fun i y h => k _ _ (Nat.le_refl _) h⟩
  have C6 : Hid (∀ w1, Gb (w.alloc (.cells #[.int .i64 xi, .slice ua nx uc] 43)).drew w1 → w1.drew.cell? ⟨b, 10, none⟩ = some (.pointer (some ⟨l, 0, none⟩))) := fun w1 g => by
    have := gb_keeps (gb_trans gD g.drew) (cell_cur (i := 10) hp.blk rfl)
    rw [hk] at this
    exact this
  have bl := (Array.getElem?_eq_some_iff.1 hp.blk).1
  have SC : Hid (∀ (W : World) (u : Value) i {y}, W.cell? ⟨w.heap.size, i, none⟩ = some y → (W.setCell ⟨b, 10, none⟩ u).cell? ⟨w.heap.size, i, none⟩ = some y) := fun W u i y hy => ((Tk.Kp.refl (fun k => k = b) _).setCell (.inl rfl) u).cell hy (by intro e; dsimp only at e; omega)
  obtain ⟨ht, hht⟩ : ∃ ht, ht = hitOf (T b).reg.L (xi, xl) := ⟨_, rfl⟩
  rw [← hht] at cH cL
  obtain ⟨k, hkk⟩ : ∃ k, k = (T b).cut := ⟨_, rfl⟩
  rw [← hkk] at cL z7 z8 z9
  obtain ⟨q1, q2, q3⟩ := ht
  obtain ⟨k1, k2, k3⟩ := k
  dsimp only [Tk.hv, Tk.Ht.id, Tk.Ht.hi, Tk.Ht.lo] at cH cL z7 z8 z9
  generalize aft false (xi, xl) (rowsP T n (T l)) = RK at *
  generalize aft false (xi, xl) (rowsP T n (T l) ++ rowsP T n (T h)) = RR at *
  have FS5 : (fun W => W.cell? ⟨b, 7, none⟩ = some (.int .i64 k1) ∧ W.cell? ⟨b, 8, none⟩ = some (.int .u64 k2) ∧ W.cell? ⟨b, 9, none⟩ = some (.int .u64 k3) ∧ W.cell? ⟨w.heap.size, 0, none⟩ = some (.int .i64 xi) ∧ W.cell? ⟨w.heap.size, 1, none⟩ = some (.slice ua nx uc)) (w.alloc (.cells #[.int .i64 xi, .slice ua nx uc] 43)).drew := ⟨z7, z8, z9, by simp [go_sem], by simp [go_sem]⟩
  clear z7 z8 z9 hnx hcx ih hp t1 t2 ok1 ok2 ok3 oa1 oa2 hnd hnd2 htb hsb hv hb h1 hab hs r1 pm ALT hrd gA gD hk ok kC hht hkk c1 c2 hS hx
  go_enter Tryz.func85, Tryz.ntmps85
  go_wp2_with fail
  go_fit cI
  rintro e w0 ⟨rfl, rfl⟩
  clear cI
  go_wp2_with fail
  refine wp_region_held_drew (S := fun W => W.cell? ⟨b, 7, none⟩ = some (.int .i64 k1) ∧ W.cell? ⟨b, 8, none⟩ = some (.int .u64 k2) ∧ W.cell? ⟨b, 9, none⟩ = some (.int .u64 k3) ∧ W.cell? ⟨w.heap.size, 0, none⟩ = some (.int .i64 xi) ∧ W.cell? ⟨w.heap.size, 1, none⟩ = some (.slice ua nx uc)) (by kernel_rfl) (FS5) (fun hHeld => ?_)
  refine wpAnyH_take (i := 0) (v := ?_) rfl (by kernel_rfl) (by kernel_rfl) (by kernel_rfl) (fun _ _ _ h => h) (Or.inl ⟨by rfl, ?_⟩) (by assumption) ?_
  rotate_left 1
  · (intro w hSw; (obtain ⟨s0, s1, s2, s3, s4⟩ := hSw); go_simp; try with_reducible rfl)
  refine wpAnyH_take (i := 1) (v := ?_) rfl (by kernel_rfl) (by kernel_rfl) (by kernel_rfl) (fun _ _ _ h => h) (Or.inl ⟨by rfl, ?_⟩) (by assumption) ?_
  rotate_left 1
  · (intro w hSw; (obtain ⟨s0, s1, s2, s3, s4⟩ := hSw); go_simp; try with_reducible rfl)
  refine wpAnyH_take (i := 3) (v := ?_) rfl (by kernel_rfl) (by kernel_rfl) (by kernel_rfl) (fun _ _ _ h => h) (Or.inl ⟨by rfl, ?_⟩) (by assumption) ?_
  rotate_left 1
  · (intro w hSw; (obtain ⟨s0, s1, s2, s3, s4⟩ := hSw); go_simp; try with_reducible rfl)
  refine wpAnyH_take (i := 4) (v := ?_) rfl (by kernel_rfl) (by kernel_rfl) (by kernel_rfl) (fun _ _ _ h => h) (Or.inl ⟨by rfl, ?_⟩) (by assumption) ?_
  rotate_left 1
  · (intro w hSw; (obtain ⟨s0, s1, s2, s3, s4⟩ := hSw); go_simp; try with_reducible rfl)
  refine wpAnyH_take (i := 5) (v := ?_) rfl (by kernel_rfl) (by kernel_rfl) (by kernel_rfl) (fun _ _ _ h => h) (Or.inl ⟨by rfl, ?_⟩) (by assumption) ?_
  rotate_left 1
  · (intro w hSw; (obtain ⟨s0, s1, s2, s3, s4⟩ := hSw); go_simp; try with_reducible rfl)
  refine wpAnyH_take (i := 6) (v := ?_) rfl (by kernel_rfl) (by kernel_rfl) (by kernel_rfl) (fun _ _ _ h => h) (Or.inl ⟨by rfl, ?_⟩) (by assumption) ?_
  rotate_left 1
  · (intro w hSw; (obtain ⟨s0, s1, s2, s3, s4⟩ := hSw); go_simp; try with_reducible rfl)
  refine wpAnyH_ready (rs := [2]) (by kernel_rfl) (by simp) ?_
  refine AllReadyH.cons rfl (fun K hK => ?_) AllReadyH.nil
  go_simp
  go_fit cH
  rintro e w1 ⟨rfl, gA1⟩
  dsimp only [Tk.hv, Tk.Ht.id, Tk.Ht.hi, Tk.Ht.lo]
  refine hK.out _ _ (⟨gb_keeps gA1 hHeld.1, gb_keeps gA1 hHeld.2.1, gb_keeps gA1 hHeld.2.2.1, gb_keeps gA1 hHeld.2.2.2.1, gb_keeps gA1 hHeld.2.2.2.2⟩) (fun hHeld => ?_)
  clear hK K
  refine wpAnyH_ready (rs := [7]) (by kernel_rfl) (by simp) ?_
  refine AllReadyH.cons rfl (fun K hK => ?_) AllReadyH.nil
  go_simp
  go_fit (cL w1)
  rintro e w1' ⟨rfl, gA2⟩
  refine hK.out _ _ (⟨gb_keeps gA2.gr hHeld.1, gb_keeps gA2.gr hHeld.2.1, gb_keeps gA2.gr hHeld.2.2.1, gb_keeps gA2.gr hHeld.2.2.2.1, gb_keeps gA2.gr hHeld.2.2.2.2⟩) (fun hHeld => ?_)
  clear hK K
  refine wpAnyH_take (i := 8) (v := ?_) rfl (by kernel_rfl) (by kernel_rfl) (by kernel_rfl) (fun _ _ _ h => h) (Or.inl ⟨by rfl, ?_⟩) (by assumption) ?_
  rotate_left 1
  · (intro w hSw; (obtain ⟨s0, s1, s2, s3, s4⟩ := hSw); go_simp; try with_reducible rfl)
  refine wpAnyH_done (by kernel_rfl) ?_ _
  have gX := gb_trans gA1 gA2.gr
  have cC := IHX.out _ gX
  have HR : Hid _ := HRX.out _ gX
  have c6 := C6.out _ gX
  have FS6 : (fun W => W.cell? ⟨w.heap.size, 0, none⟩ = some (.int .i64 xi) ∧ W.cell? ⟨w.heap.size, 1, none⟩ = some (.slice ua nx uc)) w1'.drew := ⟨hHeld.2.2.2.1, hHeld.2.2.2.2⟩
  clear hHeld IHX HRX C6 FS5 cH cL gA1 gA2 gX
  go_wp2_with fail
  refine wp_region_held_drew (S := fun W => W.cell? ⟨w.heap.size, 0, none⟩ = some (.int .i64 xi) ∧ W.cell? ⟨w.heap.size, 1, none⟩ = some (.slice ua nx uc)) (by kernel_rfl) (FS6) (fun hHeld => ?_)
  refine wpAnyH_take (i := 0) (v := ?_) rfl (by kernel_rfl) (by kernel_rfl) (by kernel_rfl) (fun _ _ _ h => h) (Or.inl ⟨by rfl, ?_⟩) (by assumption) ?_
  rotate_left 1
  · (intro w hSw; (obtain ⟨s0, s1⟩ := hSw); go_simp; try with_reducible rfl)
  refine wpAnyH_take (i := 1) (v := ?_) rfl (by kernel_rfl) (by kernel_rfl) (by kernel_rfl) (fun _ _ _ h => h) (Or.inl ⟨by rfl, ?_⟩) (by assumption) ?_
  rotate_left 1
  · (intro w hSw; (obtain ⟨s0, s1⟩ := hSw); go_simp; try with_reducible rfl)
  refine wpAnyH_take (i := 2) (v := ?_) rfl (by kernel_rfl) (by kernel_rfl) (by kernel_rfl) (fun _ _ _ h => h) (Or.inl ⟨by rfl, ?_⟩) (by assumption) ?_
  rotate_left 1
  · (intro w hSw; (obtain ⟨s0, s1⟩ := hSw); go_simp; try with_reducible rfl)
  refine wpAnyH_take (i := 3) (v := ?_) rfl (by kernel_rfl) (by kernel_rfl) (by kernel_rfl) (fun _ _ _ h => h) (Or.inl ⟨by rfl, ?_⟩) (by assumption) ?_
  rotate_left 1
  · (intro w hSw; (obtain ⟨s0, s1⟩ := hSw); go_simp; try with_reducible rfl)
  refine wpAnyH_take (i := 4) (v := ?_) rfl (by kernel_rfl) (by kernel_rfl) (by kernel_rfl) (fun _ _ _ h => h) (Or.inl ⟨by rfl, ?_⟩) (by assumption) ?_
  rotate_left 1
  · (intro w hSw; (obtain ⟨s0, s1⟩ := hSw); go_simp; try with_reducible rfl)
  refine wpAnyH_take (i := 6) (v := ?_) rfl (by kernel_rfl) (by kernel_rfl) (by kernel_rfl) (fun _ _ _ h => h) (Or.inl ⟨by rfl, ?_⟩) (by assumption) ?_
  rotate_left 1
  · (intro w hSw; (obtain ⟨s0, s1⟩ := hSw); go_simp; try with_reducible rfl)
  refine wpAnyH_ready (rs := [5]) (by kernel_rfl) (by simp) ?_
  refine AllReadyH.cons rfl (fun K hK => ?_) AllReadyH.nil
  go_simp
  refine hK.out _ _ (⟨hHeld.1, hHeld.2⟩) (fun hHeld => ?_)
  clear hK K
  refine wpAnyH_ready (rs := [7]) (by kernel_rfl) (by simp) ?_
  refine AllReadyH.cons rfl (fun K hK => ?_) AllReadyH.nil
  go_simp
  go_fit cC
  rintro e w2 hO
  obtain ⟨pv, rfl, NN, k10, f10, kk⟩ := HR.out _ _ hO
  clear hO cC HR
  refine hK.out _ _ (⟨kk _ _ hHeld.1, kk _ _ hHeld.2⟩) (fun hHeld => ?_)
  clear hK K
  refine wpAnyH_take (i := 8) (v := ?_) rfl (by kernel_rfl) (by kernel_rfl) (by kernel_rfl) (fun _ _ _ h => h) (Or.inl ⟨by rfl, ?_⟩) (by assumption) ?_
  rotate_left 1
  · (intro w hSw; (obtain ⟨s0, s1⟩ := hSw); go_simp; try with_reducible rfl)
  refine wpAnyH_take (i := 9) (v := ?_) rfl (by kernel_rfl) (by kernel_rfl) (by kernel_rfl) (fun _ _ _ h => h) (Or.inl ⟨by rfl, ?_⟩) (by assumption) ?_
  rotate_left 1
  · (intro w hSw; (obtain ⟨s0, s1⟩ := hSw); go_simp; try with_reducible rfl)
  refine wpAnyH_ready (rs := [10]) (by kernel_rfl) (by simp) ?_
  refine AllReadyH.cons rfl (fun K hK => ?_) AllReadyH.nil
  go_simp
  refine hK.out _ _ (⟨SC.out _ _ _ hHeld.1, SC.out _ _ _ hHeld.2⟩) (fun hHeld => ?_)
  clear hK K
  refine wpAnyH_done (by kernel_rfl) ?_ _
  rcases NN.out with ⟨rfl, d10, d11, FN⟩ | ⟨b', rfl, d10, d11, FN⟩
  · have FN2 : Hid _ := FN
    clear FN NN SC kk hHeld FS6 c6 k10 f10
    go_wp2
    go_ret
    exact FN2.out
  · have FN2 : Hid _ := FN
    clear FN NN SC kk hHeld FS6 c6 k10 f10
    go_wp2
    go_ret
    exact FN2.out
set_option maxHeartbeats 2000000 in
set_option maxRecDepth 100000 in
theorem wo_far {Iq : Nat → Prop} {m leaf tb sb n : Nat} {x : Rt} (ih : ∀ (w : World) (b : Nat) (F : List Nat) (T : Nat → Pt), TrO Iq w T (n + 1) b F → OkP T m n (T b) → F.Nodup → tb ∉ F → sb ∉ F → w.cell? ⟨tb, 1, none⟩ = some (.int .i64 (leaf : Int)) → w.cell? ⟨tb, 2, none⟩ = some (.pointer (some ⟨sb, 0, none⟩)) → SrcAt w sb → OwnQ Iq w x.2.1 x.2.2 → rwR x ∈ rowsP T n (T b) → RowsOk (rowsP T n (T b)) (m : Int) → Calls Tryz.prog 85 #[.pointer (some ⟨tb, 0, none⟩), .pointer (some ⟨b, 0, none⟩), .agg #[.int .i64 x.1, x.2.1]] w fun e w' => RmOut Iq w sb m F (aft false (rwR x) (rowsP T n (T b))) e w')
    (hcx : chk x.2.2 (m : Int) = 0) {w : World} {b l h : Nat} {F : List Nat} {T : Nat → Pt} (ht : TrO Iq w T (n + 1 + 1) b F) (ok : OkP T m (n + 1) (T b)) (hk : (T b).kids = some (l, h)) (hnd : F.Nodup) (htb : tb ∉ F) (hsb : sb ∉ F)
    (c1 : w.cell? ⟨tb, 1, none⟩ = some (.int .i64 (leaf : Int))) (c2 : w.cell? ⟨tb, 2, none⟩ = some (.pointer (some ⟨sb, 0, none⟩))) (hS : SrcAt w sb) (hv : OwnQ Iq w x.2.1 x.2.2) (hx : rwR x ∈ rowsP T (n + 1) (T b)) (h1 : RowsOk (rowsP T (n + 1) (T b)) (m : Int)) (hab : isAb (T b) (rwR x) = false) :
    Calls Tryz.prog 85 #[.pointer (some ⟨tb, 0, none⟩), .pointer (some ⟨b, 0, none⟩), .agg #[.int .i64 x.1, x.2.1]] w fun e w' => RmOut Iq w sb m F (aft false (rwR x) (rowsP T (n + 1) (T b))) e w' := by
  obtain ⟨vl, vh, vr, hp, ht⟩ := ht
  rw [hk] at ht
  obtain ⟨rfl, F1, F2, t1, t2, rfl⟩ := ht
  obtain ⟨n', en, ok1, ok2, ok3, oa1, oa2⟩ := okP_node hk ok
  have en' : n = n' := by omega
  subst en'
  rw [rowsP_node hk] at hx h1 ⊢
  have hs : rwR x ∈ rowsP T n (T h) := by
    rcases List.mem_append.1 hx with h | h
    · rw [oa1 _ h] at hab; cases hab
    · exact h
  have hb : bef false (rwR x) (rowsP T n (T l) ++ rowsP T n (T h)) := ⟨h1.ids, by rw [if_neg (by decide)]; exact hx⟩
  obtain ⟨_, pm⟩ := aft_right hb (fun _ => hs)
  have r1 := h1.sub (List.sublist_append_right _ _)
  have hnd2 := hnd
  rw [List.nodup_cons, List.nodup_append] at hnd2
  have ALT := fun w1 w2 e g1 hO => alt_far (w1 := w1) (w2 := w2) (e := e) hp hk t1 t2 ok hnd hS hsb pm g1 hO
  have hrd := hv.rd
  obtain ⟨xi, u, xl⟩ := x
  obtain ⟨ua, uc, eu, _⟩ := hv.rd
  dsimp only at eu hrd hcx
  subst eu
  dsimp only at hab ih hs hx r1 pm ALT
  generalize hnx : xl.length = nx at *
  have gA : Gb w (w.alloc (.cells #[.int .i64 xi, .slice ua nx uc] 43)) := gb_alloc (Below.refl _ _) _
  have gD := gA.drew
  have cI := isCut_c (hp.gb gA)
  rw [hk] at cI
  have kC : chk (T b).reg.L (m : Int) = 0 := by
    have := (ckR_ok ok3.1).2.1
    exact this (by show (T b).reg.S = 3; rw [hp.ball.1])
  have cH := hit_c (xi := xi) (gb_keeps gD (cell_cur (i := 1) hp.blk rfl)) (hp.low.rd.gb gD) (hrd.gb gD) kC hcx
  have cL := fun w => Tk.less_c (hitOf (T b).reg.L (xi, xl)) (T b).cut w
  rw [show Tk.hlt (hitOf (T b).reg.L (xi, xl)) (T b).cut = false from hab] at cL
  have z7 := gb_keeps gD (cell_cur (i := 7) hp.blk rfl)
  have z8 := gb_keeps gD (cell_cur (i := 8) hp.blk rfl)
  have z9 := gb_keeps gD (cell_cur (i := 9) hp.blk rfl)
  have IHX : Hid (∀ w1, Gb (w.alloc (.cells #[.int .i64 xi, .slice ua nx uc] 43)).drew w1 → Calls Tryz.prog 85 #[.pointer (some ⟨tb, 0, none⟩), .pointer (some ⟨h, 0, none⟩), .agg #[.int .i64 xi, .slice ua nx uc]] w1.drew fun e w' => RmOut Iq w1.drew sb m F2 (aft false (xi, xl) (rowsP T n (T h))) e w') := fun w1 g => by
    have g2 := gb_trans gD g.drew
    exact ih w1.drew h F2 T (t2.gb g2) ok2 hnd2.2.2.1 (fun e => htb (List.mem_cons_of_mem _ (List.mem_append_right _ e))) (fun e => hsb (List.mem_cons_of_mem _ (List.mem_append_right _ e))) (gb_keeps g2 c1) (gb_keeps g2 c2) (hS.gb g2) (hv.gb g2) hs r1
  have HRX : Hid (∀ w1, Gb (w.alloc (.cells #[.int .i64 xi, .slice ua nx uc] 43)).drew w1 → ∀ e w2, RmOut Iq w1.drew sb m F2 (aft false (xi, xl) (rowsP T n (T h))) e w2 → ∃ pv, e = .returned (.pointer pv) ∧ Hid (Alt_far Iq w w2 sb m b l (b :: (F1 ++ F2)) (aft false (xi, xl) (rowsP T n (T l) ++ rowsP T n (T h))) pv) ∧ w2.cell? ⟨b, 11, none⟩ = some (.pointer (some ⟨h, 0, none⟩)) ∧ w2.frozen? ⟨b, 11, none⟩ = false ∧ ∀ i y, w1.drew.cell? ⟨w.heap.size, i, none⟩ = some y → w2.cell? ⟨w.heap.size, i, none⟩ = some y) := fun w1 g e w2 hO => by
    obtain ⟨pv, e1, a, c, f, k⟩ := ALT w1.drew w2 e (gb_trans gD g.drew) hO
    exact ⟨pv, e1, a, c, f, fun i y h => k _ _ (Nat.le_refl _) h⟩
  have C6 : Hid (∀ w1, Gb (w.alloc (.cells #[.int .i64 xi, .slice ua nx uc] 43)).drew w1 → w1.drew.cell? ⟨b, 11, none⟩ = some (.pointer (some ⟨h, 0, none⟩))) := fun w1 g => by
    have := gb_keeps (gb_trans gD g.drew) (cell_cur (i := 11) hp.blk rfl)
    rw [hk] at this
    exact this
  have bl := (Array.getElem?_eq_some_iff.1 hp.blk).1
  have SC : Hid (∀ (W : World) (u : Value) i {y}, W.cell? ⟨w.heap.size, i, none⟩ = some y → (W.setCell ⟨b, 11, none⟩ u).cell? ⟨w.heap.size, i, none⟩ = some y) := fun W u i y hy => ((Tk.Kp.refl (fun k => k = b) _).setCell (.inl rfl) u).cell hy (by intro e; dsimp only at e; omega)
  obtain ⟨ht, hht⟩ : ∃ ht, ht = hitOf (T b).reg.L (xi, xl) := ⟨_, rfl⟩
  rw [← hht] at cH cL
  obtain ⟨k, hkk⟩ : ∃ k, k = (T b).cut := ⟨_, rfl⟩
  rw [← hkk] at cL z7 z8 z9
  obtain ⟨q1, q2, q3⟩ := ht
  obtain ⟨k1, k2, k3⟩ := k
  dsimp only [Tk.hv, Tk.Ht.id, Tk.Ht.hi, Tk.Ht.lo] at cH cL z7 z8 z9
  generalize aft false (xi, xl) (rowsP T n (T h)) = RK at *
  generalize aft false (xi, xl) (rowsP T n (T l) ++ rowsP T n (T h)) = RR at *
  have FS5 : (fun W => W.cell? ⟨b, 7, none⟩ = some (.int .i64 k1) ∧ W.cell? ⟨b, 8, none⟩ = some (.int .u64 k2) ∧ W.cell? ⟨b, 9, none⟩ = some (.int .u64 k3) ∧ W.cell? ⟨w.heap.size, 0, none⟩ = some (.int .i64 xi) ∧ W.cell? ⟨w.heap.size, 1, none⟩ = some (.slice ua nx uc)) (w.alloc (.cells #[.int .i64 xi, .slice ua nx uc] 43)).drew := ⟨z7, z8, z9, by simp [go_sem], by simp [go_sem]⟩
  clear z7 z8 z9 hnx hcx ih hp t1 t2 ok1 ok2 ok3 oa1 oa2 hnd hnd2 htb hsb hv hb h1 hab hs r1 pm ALT hrd gA gD hk ok kC hht hkk c1 c2 hS hx
  go_enter Tryz.func85, Tryz.ntmps85
  go_wp2_with fail
  go_fit cI
  rintro e w0 ⟨rfl, rfl⟩
  clear cI
  go_wp2_with fail
  refine wp_region_held_drew (S := fun W => W.cell? ⟨b, 7, none⟩ = some (.int .i64 k1) ∧ W.cell? ⟨b, 8, none⟩ = some (.int .u64 k2) ∧ W.cell? ⟨b, 9, none⟩ = some (.int .u64 k3) ∧ W.cell? ⟨w.heap.size, 0, none⟩ = some (.int .i64 xi) ∧ W.cell? ⟨w.heap.size, 1, none⟩ = some (.slice ua nx uc)) (by kernel_rfl) (FS5) (fun hHeld => ?_)
  refine wpAnyH_take (i := 0) (v := ?_) rfl (by kernel_rfl) (by kernel_rfl) (by kernel_rfl) (fun _ _ _ h => h) (Or.inl ⟨by rfl, ?_⟩) (by assumption) ?_
  rotate_left 1
  · (intro w hSw; (obtain ⟨s0, s1, s2, s3, s4⟩ := hSw); go_simp; try with_reducible rfl)
  refine wpAnyH_take (i := 1) (v := ?_) rfl (by kernel_rfl) (by kernel_rfl) (by kernel_rfl) (fun _ _ _ h => h) (Or.inl ⟨by rfl, ?_⟩) (by assumption) ?_
  rotate_left 1
  · (intro w hSw; (obtain ⟨s0, s1, s2, s3, s4⟩ := hSw); go_simp; try with_reducible rfl)
  refine wpAnyH_take (i := 3) (v := ?_) rfl (by kernel_rfl) (by kernel_rfl) (by kernel_rfl) (fun _ _ _ h => h) (Or.inl ⟨by rfl, ?_⟩) (by assumption) ?_
  rotate_left 1
  · (intro w hSw; (obtain ⟨s0, s1, s2, s3, s4⟩ := hSw); go_simp; try with_reducible rfl)
  refine wpAnyH_take (i := 4) (v := ?_) rfl (by kernel_rfl) (by kernel_rfl) (by kernel_rfl) (fun _ _ _ h => h) (Or.inl ⟨by rfl, ?_⟩) (by assumption) ?_
  rotate_left 1
  · (intro w hSw; (obtain ⟨s0, s1, s2, s3, s4⟩ := hSw); go_simp; try with_reducible rfl)
  refine wpAnyH_take (i := 5) (v := ?_) rfl (by kernel_rfl) (by kernel_rfl) (by kernel_rfl) (fun _ _ _ h => h) (Or.inl ⟨by rfl, ?_⟩) (by assumption) ?_
  rotate_left 1
  · (intro w hSw; (obtain ⟨s0, s1, s2, s3, s4⟩ := hSw); go_simp; try with_reducible rfl)
  refine wpAnyH_take (i := 6) (v := ?_) rfl (by kernel_rfl) (by kernel_rfl) (by kernel_rfl) (fun _ _ _ h => h) (Or.inl ⟨by rfl, ?_⟩) (by assumption) ?_
  rotate_left 1
  · (intro w hSw; (obtain ⟨s0, s1, s2, s3, s4⟩ := hSw); go_simp; try with_reducible rfl)
  refine wpAnyH_ready (rs := [2]) (by kernel_rfl) (by simp) ?_
  refine AllReadyH.cons rfl (fun K hK => ?_) AllReadyH.nil
  go_simp
  go_fit cH
  rintro e w1 ⟨rfl, gA1⟩
  dsimp only [Tk.hv, Tk.Ht.id, Tk.Ht.hi, Tk.Ht.lo]
  refine hK.out _ _ (⟨gb_keeps gA1 hHeld.1, gb_keeps gA1 hHeld.2.1, gb_keeps gA1 hHeld.2.2.1, gb_keeps gA1 hHeld.2.2.2.1, gb_keeps gA1 hHeld.2.2.2.2⟩) (fun hHeld => ?_)
  clear hK K
  refine wpAnyH_ready (rs := [7]) (by kernel_rfl) (by simp) ?_
  refine AllReadyH.cons rfl (fun K hK => ?_) AllReadyH.nil
  go_simp
  go_fit (cL w1)
  rintro e w1' ⟨rfl, gA2⟩
  refine hK.out _ _ (⟨gb_keeps gA2.gr hHeld.1, gb_keeps gA2.gr hHeld.2.1, gb_keeps gA2.gr hHeld.2.2.1, gb_keeps gA2.gr hHeld.2.2.2.1, gb_keeps gA2.gr hHeld.2.2.2.2⟩) (fun hHeld => ?_)
  clear hK K
  refine wpAnyH_take (i := 8) (v := ?_) rfl (by kernel_rfl) (by kernel_rfl) (by kernel_rfl) (fun _ _ _ h => h) (Or.inl ⟨by rfl, ?_⟩) (by assumption) ?_
  rotate_left 1
  · (intro w hSw; (obtain ⟨s0, s1, s2, s3, s4⟩ := hSw); go_simp; try with_reducible rfl)
  refine wpAnyH_done (by kernel_rfl) ?_ _
  have gX := gb_trans gA1 gA2.gr
  have cC := IHX.out _ gX
  have HR : Hid _ := HRX.out _ gX
  have c6 := C6.out _ gX
  have FS6 : (fun W => W.cell? ⟨w.heap.size, 0, none⟩ = some (.int .i64 xi) ∧ W.cell? ⟨w.heap.size, 1, none⟩ = some (.slice ua nx uc)) w1'.drew := ⟨hHeld.2.2.2.1, hHeld.2.2.2.2⟩
  clear hHeld IHX HRX C6 FS5 cH cL gA1 gA2 gX
  go_wp2_with fail
  refine wp_region_held_drew (S := fun W => W.cell? ⟨w.heap.size, 0, none⟩ = some (.int .i64 xi) ∧ W.cell? ⟨w.heap.size, 1, none⟩ = some (.slice ua nx uc)) (by kernel_rfl) (FS6) (fun hHeld => ?_)
  refine wpAnyH_take (i := 0) (v := ?_) rfl (by kernel_rfl) (by kernel_rfl) (by kernel_rfl) (fun _ _ _ h => h) (Or.inl ⟨by rfl, ?_⟩) (by assumption) ?_
  rotate_left 1
  · (intro w hSw; (obtain ⟨s0, s1⟩ := hSw); go_simp; try with_reducible rfl)
  refine wpAnyH_take (i := 1) (v := ?_) rfl (by kernel_rfl) (by kernel_rfl) (by kernel_rfl) (fun _ _ _ h => h) (Or.inl ⟨by rfl, ?_⟩) (by assumption) ?_
  rotate_left 1
  · (intro w hSw; (obtain ⟨s0, s1⟩ := hSw); go_simp; try with_reducible rfl)
  refine wpAnyH_take (i := 2) (v := ?_) rfl (by kernel_rfl) (by kernel_rfl) (by kernel_rfl) (fun _ _ _ h => h) (Or.inl ⟨by rfl, ?_⟩) (by assumption) ?_
  rotate_left 1
  · (intro w hSw; (obtain ⟨s0, s1⟩ := hSw); go_simp; try with_reducible rfl)
  refine wpAnyH_take (i := 3) (v := ?_) rfl (by kernel_rfl) (by kernel_rfl) (by kernel_rfl) (fun _ _ _ h => h) (Or.inl ⟨by rfl, ?_⟩) (by assumption) ?_
  rotate_left 1
  · (intro w hSw; (obtain ⟨s0, s1⟩ := hSw); go_simp; try with_reducible rfl)
  refine wpAnyH_take (i := 4) (v := ?_) rfl (by kernel_rfl) (by kernel_rfl) (by kernel_rfl) (fun _ _ _ h => h) (Or.inl ⟨by rfl, ?_⟩) (by assumption) ?_
  rotate_left 1
  · (intro w hSw; (obtain ⟨s0, s1⟩ := hSw); go_simp; try with_reducible rfl)
  refine wpAnyH_take (i := 6) (v := ?_) rfl (by kernel_rfl) (by kernel_rfl) (by kernel_rfl) (fun _ _ _ h => h) (Or.inl ⟨by rfl, ?_⟩) (by assumption) ?_
  rotate_left 1
  · (intro w hSw; (obtain ⟨s0, s1⟩ := hSw); go_simp; try with_reducible rfl)
  refine wpAnyH_ready (rs := [5]) (by kernel_rfl) (by simp) ?_
  refine AllReadyH.cons rfl (fun K hK => ?_) AllReadyH.nil
  go_simp
  refine hK.out _ _ (⟨hHeld.1, hHeld.2⟩) (fun hHeld => ?_)
  clear hK K
  refine wpAnyH_ready (rs := [7]) (by kernel_rfl) (by simp) ?_
  refine AllReadyH.cons rfl (fun K hK => ?_) AllReadyH.nil
  go_simp
  go_fit cC
  rintro e w2 hO
  obtain ⟨pv, rfl, NN, k10, f10, kk⟩ := HR.out _ _ hO
  clear hO cC HR
  refine hK.out _ _ (⟨kk _ _ hHeld.1, kk _ _ hHeld.2⟩) (fun hHeld => ?_)
  clear hK K
  refine wpAnyH_take (i := 8) (v := ?_) rfl (by kernel_rfl) (by kernel_rfl) (by kernel_rfl) (fun _ _ _ h => h) (Or.inl ⟨by rfl, ?_⟩) (by assumption) ?_
  rotate_left 1
  · (intro w hSw; (obtain ⟨s0, s1⟩ := hSw); go_simp; try with_reducible rfl)
  refine wpAnyH_take (i := 9) (v := ?_) rfl (by kernel_rfl) (by kernel_rfl) (by kernel_rfl) (fun _ _ _ h => h) (Or.inl ⟨by rfl, ?_⟩) (by assumption) ?_
  rotate_left 1
  · (intro w hSw; (obtain ⟨s0, s1⟩ := hSw); go_simp; try with_reducible rfl)
  refine wpAnyH_ready (rs := [10]) (by kernel_rfl) (by simp) ?_
  refine AllReadyH.cons rfl (fun K hK => ?_) AllReadyH.nil
  go_simp
  refine hK.out _ _ (⟨SC.out _ _ _ hHeld.1, SC.out _ _ _ hHeld.2⟩) (fun hHeld => ?_)
  clear hK K
  refine wpAnyH_done (by kernel_rfl) ?_ _
  rcases NN.out with ⟨rfl, d10, d11, FN⟩ | ⟨b', rfl, d10, d11, FN⟩
  · have FN2 : Hid _ := FN
    clear FN NN SC kk hHeld FS6 c6 k10 f10
    go_wp2
    go_ret
    exact FN2.out
  · have FN2 : Hid _ := FN
    clear FN NN SC kk hHeld FS6 c6 k10 f10
    go_wp2
    go_ret
    exact FN2.out
/-- without: the tree of the other rows, or nothing. -/
theorem without_c {Iq : Nat → Prop} {m leaf tb sb : Nat} (hm : 1 ≤ m ∧ m ≤ 64) (hlf : 1 ≤ leaf ∧ leaf ≤ 64) {x : Rt} (hcx : chk x.2.2 (m : Int) = 0) : ∀ n, ∀ (w : World) (b : Nat) (F : List Nat) (T : Nat → Pt), TrO Iq w T (n + 1) b F → OkP T m n (T b) → F.Nodup → tb ∉ F → sb ∉ F → w.cell? ⟨tb, 1, none⟩ = some (.int .i64 (leaf : Int)) → w.cell? ⟨tb, 2, none⟩ = some (.pointer (some ⟨sb, 0, none⟩)) → SrcAt w sb → OwnQ Iq w x.2.1 x.2.2 → rwR x ∈ rowsP T n (T b) → RowsOk (rowsP T n (T b)) (m : Int) → Calls Tryz.prog 85 #[.pointer (some ⟨tb, 0, none⟩), .pointer (some ⟨b, 0, none⟩), .agg #[.int .i64 x.1, x.2.1]] w fun e w' => RmOut Iq w sb m F (aft false (rwR x) (rowsP T n (T b))) e w'
  | 0, w, b, F, T, ht, ok, _, htb, hsb, c1, c2, hS, hv, hx, h1 => by
    have hk : (T b).kids = none := by rw [OkP] at ok; exact ok.1
    rw [rowsP_leaf hk] at hx h1 ⊢
    exact wo_leaf hm hlf ht hk c1 c2 hS htb hsb hv hx h1
  | n + 1, w, b, F, T, ht, ok, hnd, htb, hsb, c1, c2, hS, hv, hx, h1 => by
    cases hk : (T b).kids with
    | none =>
      rw [rowsP_leaf hk] at hx h1 ⊢
      exact wo_leaf hm hlf ht hk c1 c2 hS htb hsb hv hx h1
    | some lh =>
      obtain ⟨l, h⟩ := lh
      have ih := without_c (Iq := Iq) (tb := tb) (sb := sb) hm hlf hcx n
      cases hab : isAb (T b) (rwR x) with
      | true => exact wo_near ih hcx ht ok hk hnd htb hsb c1 c2 hS hv hx h1 hab
      | false => exact wo_far ih hcx ht ok hk hnd htb hsb c1 c2 hS hv hx h1 hab
end Go.Proofs.YtepjbdklljlecaaGreat

/- (*vptree.part).lead: down to the part that is not cut. -/
namespace Go.Proofs.YtepjbdklljlecaaGreat
open Go.RowKit Go.Sort

/-- Where lead stands, g parts ahead of its end at most. -/
def LdI (Iq : Nat → Prop) (m : Nat) (x : Rt) (sb : Nat) (w0 : World) (b0 : Nat) (F0 : List Nat) (R0 : List Rw) (rb : Nat) (g : Nat) (pv : Value) (wr : World) : Prop := ∃ p T F, pv = .pointer (some ⟨p, 0, none⟩) ∧ TrO Iq wr T (g + 1) p F ∧ OkP T m g (T p) ∧ F.Nodup ∧ sb ∉ F ∧ SrcAt wr sb ∧ Fil Iq m (rwR x) sb w0 b0 F0 R0 wr p F (rowsP T g (T p)) ∧ Tk.Kp (fun k => k ∈ F0) w0 wr ∧ (∀ y ∈ F, y ∈ F0) ∧ OwnQ Iq wr x.2.1 x.2.2 ∧ RowsOk (rowsP T g (T p) ++ [rwR x]) (m : Int) ∧ (∀ y ∈ F0, y < rb) ∧
  wr.cell? ⟨rb, 0, none⟩ = some (.int .i64 x.1) ∧ wr.cell? ⟨rb, 1, none⟩ = some x.2.1
/-- What lead tells: a part that is not cut, and what is wanted of one in its place. -/
def LdO (Iq : Nat → Prop) (m : Nat) (x : Rt) (sb : Nat) (w0 : World) (b0 : Nat) (F0 : List Nat) (R0 : List Rw) (e : Ending) (w' : World) : Prop := ∃ p q vl vh vr d g, e = .returned (.pointer (some ⟨p, 0, none⟩)) ∧ PcAt Iq w' p q vl vh vr ∧ q.kids = none ∧ OwnRs Iq w' vr d ∧ vr.ownBlock = some g ∧ p ≠ g ∧ p ≠ sb ∧ g ≠ sb ∧
  Fil Iq m (rwR x) sb w0 b0 F0 R0 w' p [p, g] (d.map rwR) ∧ Tk.Kp (fun k => k ∈ F0) w0 w' ∧ (p ∈ F0 ∧ g ∈ F0) ∧ RowsOk (d.map rwR ++ [rwR x]) (m : Int) ∧ SrcAt w' sb
/-- The part in its block, its ball as far as the row. -/
def LdR (Iq : Nat → Prop) (wr : World) (p : Nat) (q : Pt) (D : Nat) (vl vh vr : Value) (W : World) : Prop := ∃ V, Gb wr V ∧ PcAt Iq W p (rsd q D) vl vh vr ∧ Tk.Kp (fun k => k = p) V W
theorem ldr_no {Iq : Nat → Prop} {wr W : World} {p : Nat} {q : Pt} {D : Nat} {vl vh vr : Value} (h : PcAt Iq wr p q vl vh vr) (g : Gb wr W) (hD : D ≤ q.reg.R) : LdR Iq wr p q D vl vh vr W := ⟨W, g, by rw [rsd_no h.ball.1 hD]; exact h.gb g, Tk.Kp.refl _ _⟩
theorem ldr_yes {Iq : Nat → Prop} {wr W : World} {p : Nat} {q : Pt} {D : Nat} {vl vh vr : Value} (h : PcAt Iq wr p q vl vh vr) (g : Gb wr W) (hD : q.reg.R < D) (hl : D < 340282366920938463463374607431768211456) : LdR Iq wr p q D vl vh vr ((W.setCell ⟨p, 3, none⟩ (.int .u64 (hi D))).setCell ⟨p, 4, none⟩ (.int .u64 (lo D))) :=
  ⟨W, g, pcat_rsd (h.gb g) hD hl, ((Tk.Kp.refl (fun k => k = p) W).setCell (.inl rfl) _).setCell (.inl rfl) _⟩
theorem LdR.gb {Iq : Nat → Prop} {wr W W' : World} {p : Nat} {q : Pt} {D : Nat} {vl vh vr : Value} (h : LdR Iq wr p q D vl vh vr W) (g : Gb W W') : LdR Iq wr p q D vl vh vr W' := by
  obtain ⟨V, h1, h2, h3⟩ := h
  exact ⟨V, h1, h2.gb g, h3.trans (Tk.Kp.of_gr g)⟩
/-- The leaf. -/
theorem ld_end {Iq : Nat → Prop} {m : Nat} {x : Rt} {sb : Nat} {w0 wr W : World} {b0 : Nat} {F0 F : List Nat} {R0 : List Rw} {p g D : Nat} {T : Nat → Pt} {vl vh vr : Value} (h : LdR Iq wr p (T p) D vl vh vr W) (hk : (T p).kids = none) {d : List Rt} {gb : Nat} (ho : OwnRs Iq wr vr d) (hd : d.map rwR = (T p).rs) (hg : vr.ownBlock = some gb) (eF : F = [p, gb]) (hnd : F.Nodup) (hsb : sb ∉ F) (hS : SrcAt wr sb)
    (hf : Fil Iq m (rwR x) sb w0 b0 F0 R0 wr p F (rowsP T g (T p))) (k0 : Tk.Kp (fun k => k ∈ F0) w0 wr) (hF : ∀ y ∈ F, y ∈ F0) (hok : RowsOk (rowsP T g (T p) ++ [rwR x]) (m : Int)) (nb : NoInt wr (fun k => k = p)) : LdO Iq m x sb w0 b0 F0 R0 (.returned (.pointer (some ⟨p, 0, none⟩))) W := by
  obtain ⟨V, h1, h2, h3⟩ := h
  subst eF
  rw [rowsP_leaf hk, ← hd] at hf hok
  have kk : Tk.Kp (fun k => k = p) wr W := (Tk.Kp.of_gr h1).trans h3
  have hpg : p ≠ gb := by simp at hnd; exact hnd
  have hps : p ≠ sb := fun e => hsb (by rw [← e]; simp)
  have hgs : gb ≠ sb := fun e => hsb (by rw [← e]; simp)
  exact ⟨p, _, vl, vh, vr, d, gb, rfl, h2, hk, ho.kp kk nb (fun g' e e2 => by rw [hg] at e; cases e; exact hpg e2.symm), hg, hpg, hps, hgs, fil_kp hf (kk.mono (fun y _ e => .inl (by rw [e]; simp))), k0.trans (kk.mono (fun y _ e => by rw [e]; exact hF p (by simp))), ⟨hF p (by simp), hF gb (by simp)⟩, hok, kp_src hS kk (fun e => hps e.symm)⟩
/-- One part down. -/
theorem ld_kid {Iq : Nat → Prop} {m : Nat} {x : Rt} {sb : Nat} {w0 wr W : World} {b0 : Nat} {F0 F1 F2 : List Nat} {R0 : List Rw} {p n D l h rb : Nat} {T : Nat → Pt} {vl vh : Value} (hR : LdR Iq wr p (T p) D vl vh (.slice none 0 0) W) (hb : (T p).reg = ⟨3, (T p).reg.L, [], (T p).reg.R, []⟩) (hk : (T p).kids = some (l, h)) (t1 : TrO Iq wr T (n + 1) l F1) (t2 : TrO Iq wr T (n + 1) h F2) (hnd : (p :: (F1 ++ F2)).Nodup) (hsb : sb ∉ p :: (F1 ++ F2)) (hS : SrcAt wr sb) (ok : OkP T m (n + 1) (T p))
    (hf : Fil Iq m (rwR x) sb w0 b0 F0 R0 wr p (p :: (F1 ++ F2)) (rowsP T (n + 1) (T p))) (k0 : Tk.Kp (fun k => k ∈ F0) w0 wr) (hF : ∀ y ∈ p :: (F1 ++ F2), y ∈ F0) (hok : RowsOk (rowsP T (n + 1) (T p) ++ [rwR x]) (m : Int)) (nb : NoInt wr (fun k => k = p)) (hv : OwnQ Iq wr x.2.1 x.2.2) (hrb : ∀ y ∈ F0, y < rb)
    (hD : dst (T p).reg.L x.2.2 ≤ D) (c0 : wr.cell? ⟨rb, 0, none⟩ = some (.int .i64 x.1)) (c1 : wr.cell? ⟨rb, 1, none⟩ = some x.2.1) :
    LdI Iq m x sb w0 b0 F0 R0 rb n (.pointer (some ⟨if isAb (T p) (rwR x) = true then l else h, 0, none⟩)) W := by
  obtain ⟨V, g1, hp, k1⟩ := hR
  have hcx : chk x.2.2 (m : Int) = 0 := (hok.row (rwR x) (by simp)).2
  obtain ⟨n', e', o1, o2, _⟩ := okP_node hk ok
  have e'' : n' = n := by omega
  subst e''
  have kk : Tk.Kp (fun k => k = p) wr W := (Tk.Kp.of_gr g1).trans k1
  obtain ⟨A, B⟩ := fil_kid hf hk t1 t2 rfl hnd ok hsb hS hb hp kk nb hcx hD
  have pF0 := hF p (by simp)
  have hS' : SrcAt W sb := kp_src hS kk (fun e => hsb (by rw [e]; simp))
  have k0' : Tk.Kp (fun k => k ∈ F0) w0 W := k0.trans (kk.mono (fun y _ e => by rw [e]; exact pF0))
  have hprb : ¬ rb = p := fun e => by have := hrb p pF0; omega
  have nd := List.nodup_cons.1 hnd
  rw [List.nodup_append] at nd
  rw [rowsP_node hk] at hok
  cases hab : isAb (T p) (rwR x) with
  | true =>
    obtain ⟨A1, A2⟩ := A hab
    exact ⟨l, T, F1, by simp, A2, o1, nd.2.1, fun e => hsb (by simp [e]), hS', A1, k0', fun y hy => hF y (by simp [hy]), ownq_noint hv kk nb, hok.sub ((List.sublist_append_left _ _).append (List.Sublist.refl _)), hrb, kp_cell kk c0 hprb, kp_cell kk c1 hprb⟩
  | false =>
    obtain ⟨A1, A2⟩ := B hab
    exact ⟨h, T, F2, by simp, A2, o2, nd.2.2.1, fun e => hsb (by simp [e]), hS', A1, k0', fun y hy => hF y (by simp [hy]), ownq_noint hv kk nb, hok.sub ((List.sublist_append_right _ _).append (List.Sublist.refl _)), hrb, kp_cell kk c0 hprb, kp_cell kk c1 hprb⟩
set_option maxHeartbeats 4000000 in
set_option maxRecDepth 100000 in
theorem lead_c {Iq : Nat → Prop} {m : Nat} {x : Rt} {sb : Nat} {w : World} {b0 n : Nat} {F0 : List Nat} {T : Nat → Pt} (ht : TrO Iq w T (n + 1) b0 F0) (ok : OkP T m n (T b0)) (hnd : F0.Nodup) (hsb : sb ∉ F0) (hS : SrcAt w sb) (hv : OwnQ Iq w x.2.1 x.2.2) (hok : RowsOk (rowsP T n (T b0) ++ [rwR x]) (m : Int)) :
    Calls Tryz.prog 87 #[.pointer (some ⟨b0, 0, none⟩), .agg #[.int .i64 x.1, x.2.1]] w fun e w' => LdO Iq m x sb w b0 F0 (rowsP T n (T b0)) e w' := by
  have hcx : chk x.2.2 (m : Int) = 0 := (hok.row (rwR x) (by simp)).2
  obtain ⟨R0, hR0⟩ : ∃ R0, R0 = rowsP T n (T b0) := ⟨_, rfl⟩
  obtain ⟨xi, u, xl⟩ := x
  obtain ⟨ua, uc, eu, _⟩ := hv.rd
  dsimp only at eu hcx
  subst eu
  generalize hnx : xl.length = nx at *
  have gA : Gb w (w.alloc (.cells #[.int .i64 xi, .slice ua nx uc] 43)) := gb_alloc (Below.refl _ _) _
  have ml := ht.mem.2
  have ST : Hid (LdI Iq m (xi, .slice ua nx uc, xl) sb w b0 F0 R0 w.heap.size n (.pointer (some ⟨b0, 0, none⟩)) (w.alloc (.cells #[.int .i64 xi, .slice ua nx uc] 43))) :=
    ⟨b0, T, F0, rfl, ht.gb gA, ok, hnd, hsb, hS.gb gA, by rw [hR0]; exact fil_kp (fil_start Iq m _ sb w b0 F0 _) (Tk.Kp.of_gr gA), Tk.Kp.of_gr gA, fun y hy => hy, hv.gb gA, hok, ml, by simp [go_sem], by simp [go_sem]⟩
  rw [← hR0]
  have HC : Hid (chk xl (m : Int) = 0 ∧ xl.length = nx) := ⟨hcx, hnx⟩
  clear ht ok hnd hsb hS hv hok gA ml hR0 hcx hnx T
  go_enter Tryz.func87, Tryz.ntmps87
  go_wp2_with fail
  go_step3
  go_wp2
  go_step3
  go_wp2
  go_loopg [0] n (fun g pv wx => Hid (LdI Iq m (xi, .slice ua nx uc, xl) sb w b0 F0 R0 w.heap.size g pv wx))
  case atStart => exact ST
  case round =>
    clear ST
    obtain ⟨p, T, F, rfl, ht, ok, hnd, hsb, hS, hf, k0, hF, hv, hok, hrb, c0, c1⟩ := hrel.out
    obtain ⟨vl, vh, vr, hp, ht⟩ := ht
    have hbx := okP_box ok
    have kC : chk (T p).reg.L (m : Int) = 0 := (ckR_ok hbx.1).2.1 (by show (T p).reg.S = 3; rw [hp.ball.1])
    have nb : NoInt wr (fun k => k = p) := fun k e cur s hc => by subst e; rw [hp.blk] at hc; simp at hc
    have cH := hit_c (xi := xi) (cell_cur (i := 1) hp.blk rfl) hp.low.rd hv.rd kC HC.out.1
    have hl1 := chk_ok kC
    have hl2 := chk_ok HC.out.1
    have hDl : dst (T p).reg.L xl < 340282366920938463463374607431768211456 := dst_lt hl1.2.2.2 hl2.2.2.2 (by omega) (by omega)
    obtain ⟨D, hDD⟩ : ∃ D, D = dst (T p).reg.L xl := ⟨_, rfl⟩
    have eH : hitOf (T p).reg.L (xi, xl) = (xi, hi D, lo D) := by rw [hDD]
    rw [eH] at cH
    rw [← hDD] at hDl
    have hbl := hp.ball.1
    have cC := fun w => cmp_any D (T p).reg.R w
    have cL := fun w => Tk.less_c (xi, hi D, lo D) (T p).cut w
    have eAb : Tk.hlt (xi, hi D, lo D) (T p).cut = isAb (T p) (xi, xl) := by unfold isAb; rw [eH]
    rw [eAb] at cL
    have CLS : Hid (∀ W, LdR Iq wr p (T p) D vl vh vr W → (Calls Tryz.prog 73 #[.pointer (some ⟨p, 0, none⟩)] W fun e w' => e = .returned (.bool (T p).kids.isSome) ∧ w' = W) ∧ W.cell? ⟨p, 7, none⟩ = some (.int .i64 (T p).cut.1) ∧ W.cell? ⟨p, 8, none⟩ = some (.int .u64 (T p).cut.2.1) ∧ W.cell? ⟨p, 9, none⟩ = some (.int .u64 (T p).cut.2.2) ∧ W.cell? ⟨p, 10, none⟩ = some (kidV ((T p).kids.map Prod.fst)) ∧ W.cell? ⟨p, 11, none⟩ = some (kidV ((T p).kids.map Prod.snd))) := by
      rintro W ⟨V, _, h2, _⟩
      exact ⟨(by have := isCut_c h2; exact this), cell_cur h2.blk rfl, cell_cur h2.blk rfl, cell_cur h2.blk rfl, cell_cur h2.blk rfl, cell_cur h2.blk rfl⟩
    have NO : Hid (∀ W, Gb wr W → D ≤ (T p).reg.R → LdR Iq wr p (T p) D vl vh vr W) := fun W g h => ldr_no hp g h
    have YES : Hid (∀ W, Gb wr W → (T p).reg.R < D → LdR Iq wr p (T p) D vl vh vr ((W.setCell ⟨p, 3, none⟩ (.int .u64 (hi D))).setCell ⟨p, 4, none⟩ (.int .u64 (lo D))) ∧ (∃ y, W.cell? ⟨p, 3, none⟩ = some y) ∧ (∃ y, W.cell? ⟨p, 4, none⟩ = some y) ∧ W.frozen? ⟨p, 3, none⟩ = false ∧ W.frozen? ⟨p, 4, none⟩ = false) := fun W g h => by
      have hp2 := hp.gb g
      exact ⟨ldr_yes hp g h hDl, ⟨_, cell_cur hp2.blk rfl⟩, ⟨_, cell_cur hp2.blk rfl⟩, by simp [World.frozen?, hp2.blk], by simp [World.frozen?, hp2.blk]⟩
    have RD : Hid (∀ W, Gb wr W → W.cell? ⟨p, 3, none⟩ = some (.int .u64 (hi (T p).reg.R)) ∧ W.cell? ⟨p, 4, none⟩ = some (.int .u64 (lo (T p).reg.R))) := fun W g => ⟨gb_keeps g (cell_cur hp.blk rfl), gb_keeps g (cell_cur hp.blk rfl)⟩
    have pl := (Array.getElem?_eq_some_iff.1 hp.blk).1
    -- what comes of the part
    have ENDS : Hid (((T p).kids = none ∧ ∀ W, LdR Iq wr p (T p) D vl vh vr W → LdO Iq m (xi, .slice ua nx uc, xl) sb w b0 F0 R0 (.returned (.pointer (some ⟨p, 0, none⟩))) W) ∨ ∃ l h n', (T p).kids = some (l, h) ∧ n' < gk ∧ ∀ W, LdR Iq wr p (T p) D vl vh vr W → LdI Iq m (xi, .slice ua nx uc, xl) sb w b0 F0 R0 w.heap.size n' (.pointer (some ⟨if isAb (T p) (xi, xl) = true then l else h, 0, none⟩)) W) := by
      cases hk : (T p).kids with
      | none =>
        rw [hk] at ht
        obtain ⟨d, gb, h1, h2, h3, h4⟩ := ht
        exact .inl ⟨rfl, fun W hR => ld_end hR hk h1 h2 h3 h4 hnd hsb hS hf k0 hF hok nb⟩
      | some lh =>
        obtain ⟨l, h⟩ := lh
        rw [hk] at ht
        obtain ⟨rfl, F1, F2, t1, t2, rfl⟩ := ht
        obtain ⟨n', rfl, _⟩ := okP_node hk ok
        exact .inr ⟨l, h, n', rfl, Nat.lt_succ_self _, fun W hR => ld_kid hR hbl hk t1 t2 hnd hsb hS ok hf k0 hF hok nb hv hrb (by rw [hDD]; exact Nat.le_refl _) c0 c1⟩
    have hG : ∀ W, Gb wr W → W.cell? ⟨w.heap.size, 0, none⟩ = some (.int .i64 xi) := fun W g => gb_keeps g c0
    obtain ⟨R, hRR⟩ : ∃ R, R = (T p).reg.R := ⟨_, rfl⟩
    rw [← hRR] at cC NO YES RD
    obtain ⟨kv, hkv⟩ : ∃ kv, kv = (T p).cut := ⟨_, rfl⟩
    rw [← hkv] at cL CLS
    obtain ⟨k1, k2, k3⟩ := kv
    dsimp only [Tk.hv, Tk.Ht.id, Tk.Ht.hi, Tk.Ht.lo] at cH cL CLS
    clear hp ht ok hnd hsb hS hf hF hv hok hrb hbx kC nb hl1 hl2 hDl hDD eH hbl eAb hkv hRR k0
    have hdc : decide (cmp3 D R > 0) = decide (R < D) := cmp3_gt D R
    obtain ⟨z, hz⟩ : ∃ z, z = cmp3 D R := ⟨_, rfl⟩
    rw [← hz] at hdc cC
    obtain ⟨ab, hab⟩ : ∃ ab, ab = isAb (T p) (xi, xl) := ⟨_, rfl⟩
    rw [← hab] at cL ENDS
    dsimp only [Wd] at cC
    generalize hi D = q2 at *
    generalize lo D = q3 at *
    generalize hi R = r1 at *
    generalize lo R = r2 at *
    clear hz hab hrel
    go_wp2_with fail
    go_fit cH
    rintro e w1 ⟨rfl, g1⟩
    have ga : Gb wr (w1.alloc (.cells #[.int .i64 xi, .int .u64 q2, .int .u64 q3] 68)) := gb_alloc g1 _
    have gD := ga.drew
    have FS2 : (fun W => W.cell? ⟨w1.heap.size, 1, none⟩ = some (.int .u64 q2) ∧ W.cell? ⟨w1.heap.size, 2, none⟩ = some (.int .u64 q3) ∧ W.cell? ⟨p, 3, none⟩ = some (.int .u64 r1) ∧ W.cell? ⟨p, 4, none⟩ = some (.int .u64 r2)) (w1.alloc (.cells #[.int .i64 xi, .int .u64 q2, .int .u64 q3] 68)).drew := ⟨by simp [go_sem], by simp [go_sem], (RD.out _ gD).1, (RD.out _ gD).2⟩
    have HT : Hid ((w1.alloc (.cells #[.int .i64 xi, .int .u64 q2, .int .u64 q3] 68)).drew.cell? ⟨w1.heap.size, 0, none⟩ = some (.int .i64 xi) ∧ (w1.alloc (.cells #[.int .i64 xi, .int .u64 q2, .int .u64 q3] 68)).drew.cell? ⟨w1.heap.size, 1, none⟩ = some (.int .u64 q2) ∧ (w1.alloc (.cells #[.int .i64 xi, .int .u64 q2, .int .u64 q3] 68)).drew.cell? ⟨w1.heap.size, 2, none⟩ = some (.int .u64 q3)) := ⟨by simp [go_sem], by simp [go_sem], by simp [go_sem]⟩
    have GD : Hid (Gb wr (w1.alloc (.cells #[.int .i64 xi, .int .u64 q2, .int .u64 q3] 68)).drew) := gD
    have PW : Hid (p < w1.heap.size) := Nat.lt_of_lt_of_le pl g1.size
    clear cH g1 ga gD hG c0 c1 pl
    go_wp2_with fail
    refine wp_region_held_drew (S := fun W => W.cell? ⟨w1.heap.size, 1, none⟩ = some (.int .u64 q2) ∧ W.cell? ⟨w1.heap.size, 2, none⟩ = some (.int .u64 q3) ∧ W.cell? ⟨p, 3, none⟩ = some (.int .u64 r1) ∧ W.cell? ⟨p, 4, none⟩ = some (.int .u64 r2)) (by kernel_rfl) (FS2) (fun hHeld => ?_)
    refine wpAnyH_take (i := 0) (v := ?_) rfl (by kernel_rfl) (by kernel_rfl) (by kernel_rfl) (fun _ _ _ h => h) (Or.inl ⟨by rfl, ?_⟩) (by assumption) ?_
    rotate_left 1
    · (intro w hSw; (obtain ⟨s0, s1, s2, s3⟩ := hSw); go_simp; try with_reducible rfl)
    refine wpAnyH_take (i := 1) (v := ?_) rfl (by kernel_rfl) (by kernel_rfl) (by kernel_rfl) (fun _ _ _ h => h) (Or.inl ⟨by rfl, ?_⟩) (by assumption) ?_
    rotate_left 1
    · (intro w hSw; (obtain ⟨s0, s1, s2, s3⟩ := hSw); go_simp; try with_reducible rfl)
    refine wpAnyH_take (i := 2) (v := ?_) rfl (by kernel_rfl) (by kernel_rfl) (by kernel_rfl) (fun _ _ _ h => h) (Or.inl ⟨by rfl, ?_⟩) (by assumption) ?_
    rotate_left 1
    · (intro w hSw; (obtain ⟨s0, s1, s2, s3⟩ := hSw); go_simp; try with_reducible rfl)
    refine wpAnyH_take (i := 3) (v := ?_) rfl (by kernel_rfl) (by kernel_rfl) (by kernel_rfl) (fun _ _ _ h => h) (Or.inl ⟨by rfl, ?_⟩) (by assumption) ?_
    rotate_left 1
    · (intro w hSw; (obtain ⟨s0, s1, s2, s3⟩ := hSw); go_simp; try with_reducible rfl)
    refine wpAnyH_take (i := 4) (v := ?_) rfl (by kernel_rfl) (by kernel_rfl) (by kernel_rfl) (fun _ _ _ h => h) (Or.inl ⟨by rfl, ?_⟩) (by assumption) ?_
    rotate_left 1
    · (intro w hSw; (obtain ⟨s0, s1, s2, s3⟩ := hSw); go_simp; try with_reducible rfl)
    refine wpAnyH_take (i := 5) (v := ?_) rfl (by kernel_rfl) (by kernel_rfl) (by kernel_rfl) (fun _ _ _ h => h) (Or.inl ⟨by rfl, ?_⟩) (by assumption) ?_
    rotate_left 1
    · (intro w hSw; (obtain ⟨s0, s1, s2, s3⟩ := hSw); go_simp; try with_reducible rfl)
    refine wpAnyH_take (i := 6) (v := ?_) rfl (by kernel_rfl) (by kernel_rfl) (by kernel_rfl) (fun _ _ _ h => h) (Or.inl ⟨by rfl, ?_⟩) (by assumption) ?_
    rotate_left 1
    · (intro w hSw; (obtain ⟨s0, s1, s2, s3⟩ := hSw); go_simp; try with_reducible rfl)
    refine wpAnyH_ready (rs := [7]) (by kernel_rfl) (by simp) ?_
    refine AllReadyH.cons rfl (fun K hK => ?_) AllReadyH.nil
    go_simp
    go_fit (cC _)
    rintro e w2 ⟨rfl, g2⟩
    refine hK.out _ _ (⟨gb_keeps g2.gb hHeld.1, gb_keeps g2.gb hHeld.2.1, gb_keeps g2.gb hHeld.2.2.1, gb_keeps g2.gb hHeld.2.2.2⟩) (fun hHeld => ?_)
    clear hK K
    refine wpAnyH_take (i := 8) (v := ?_) rfl (by kernel_rfl) (by kernel_rfl) (by kernel_rfl) (fun _ _ _ h => h) (Or.inl ⟨by rfl, ?_⟩) (by assumption) ?_
    rotate_left 1
    · (intro w hSw; (obtain ⟨s0, s1, s2, s3⟩ := hSw); go_simp; try with_reducible rfl)
    refine wpAnyH_done (by kernel_rfl) ?_ _
    have G2 : Hid (Gb wr w2) := gb_trans GD.out g2.gb
    have H2 : Hid (w2.cell? ⟨w1.heap.size, 0, none⟩ = some (.int .i64 xi) ∧ w2.cell? ⟨w1.heap.size, 1, none⟩ = some (.int .u64 q2) ∧ w2.cell? ⟨w1.heap.size, 2, none⟩ = some (.int .u64 q3)) := ⟨gb_keeps g2.gb HT.out.1, gb_keeps g2.gb HT.out.2.1, gb_keeps g2.gb HT.out.2.2⟩
    clear hHeld FS2 cC g2 HT GD
    by_cases hRD : R < D
    · have hz0 : decide (z > 0) = true := by rw [hdc]; exact decide_eq_true hRD
      have hz1 : 0 < z := of_decide_eq_true hz0
      obtain ⟨LR, ⟨y3, e3⟩, ⟨y4, e4⟩, f3, f4⟩ := YES.out w2 G2.out hRD
      obtain ⟨u0, u1, u2⟩ := H2.out
      have hpw := PW.out
      have V0 : Hid (((w2.setCell ⟨p, 3, none⟩ (.int .u64 q2)).setCell ⟨p, 4, none⟩ (.int .u64 q3)).cell? ⟨w1.heap.size, 0, none⟩ = some (.int .i64 xi) ∧ ((w2.setCell ⟨p, 3, none⟩ (.int .u64 q2)).setCell ⟨p, 4, none⟩ (.int .u64 q3)).cell? ⟨w1.heap.size, 1, none⟩ = some (.int .u64 q2) ∧ ((w2.setCell ⟨p, 3, none⟩ (.int .u64 q2)).setCell ⟨p, 4, none⟩ (.int .u64 q3)).cell? ⟨w1.heap.size, 2, none⟩ = some (.int .u64 q3)) := by
        have kk : Tk.Kp (fun k => k = p) w2 ((w2.setCell ⟨p, 3, none⟩ (.int .u64 q2)).setCell ⟨p, 4, none⟩ (.int .u64 q3)) := ((Tk.Kp.refl (fun k => k = p) w2).setCell (.inl rfl) _).setCell (.inl rfl) _
        exact ⟨kp_cell kk u0 (by omega), kp_cell kk u1 (by omega), kp_cell kk u2 (by omega)⟩
      have LY : Hid _ := LR
      clear hdc hz0 YES NO G2 RD LR hpw
      go_wp2_with fail
      have LR := LY.out
      clear LY e3 e4 f3 f4 u0 u1 u2
      obtain ⟨cI, x7, x8, x9, x10, x11⟩ := CLS.out _ LR
      have LRH : Hid (LdR Iq wr p (T p) D vl vh vr ((w2.setCell ⟨p, 3, none⟩ (.int .u64 q2)).setCell ⟨p, 4, none⟩ (.int .u64 q3))) := LR
      clear CLS LR
      rcases ENDS.out with ⟨hk, FIN⟩ | ⟨l, h, n', hk, hn', NXT⟩
      · rw [hk] at cI
        have FF : Hid _ := FIN _ LRH.out
        clear FIN LRH ENDS hk x7 x8 x9 x10 x11
        go_wp2_with fail
        go_fit cI
        rintro e w5 ⟨rfl, rfl⟩
        clear cI
        go_wp2
        go_ret
        exact FF.out
      · rw [hk] at cI x10 x11
        dsimp only [Option.map, kidV] at x10 x11
        have NX : Hid (∀ W, Gb ((w2.setCell ⟨p, 3, none⟩ (.int .u64 q2)).setCell ⟨p, 4, none⟩ (.int .u64 q3)) W → LdI Iq m (xi, .slice ua nx uc, xl) sb w b0 F0 R0 w.heap.size n' (.pointer (some ⟨if ab = true then l else h, 0, none⟩)) W) := fun W g => NXT _ (LdR.gb LRH.out g)
        have FS6 : (fun W => W.cell? ⟨w1.heap.size, 0, none⟩ = some (.int .i64 xi) ∧ W.cell? ⟨w1.heap.size, 1, none⟩ = some (.int .u64 q2) ∧ W.cell? ⟨w1.heap.size, 2, none⟩ = some (.int .u64 q3) ∧ W.cell? ⟨p, 7, none⟩ = some (.int .i64 k1) ∧ W.cell? ⟨p, 8, none⟩ = some (.int .u64 k2) ∧ W.cell? ⟨p, 9, none⟩ = some (.int .u64 k3)) ((w2.setCell ⟨p, 3, none⟩ (.int .u64 q2)).setCell ⟨p, 4, none⟩ (.int .u64 q3)).drew := ⟨V0.out.1, V0.out.2.1, V0.out.2.2, x7, x8, x9⟩
        have K10 : Hid (∀ W, Gb ((w2.setCell ⟨p, 3, none⟩ (.int .u64 q2)).setCell ⟨p, 4, none⟩ (.int .u64 q3)).drew W → W.cell? ⟨p, 10, none⟩ = some (.pointer (some ⟨l, 0, none⟩)) ∧ W.cell? ⟨p, 11, none⟩ = some (.pointer (some ⟨h, 0, none⟩)) ∧ Gb ((w2.setCell ⟨p, 3, none⟩ (.int .u64 q2)).setCell ⟨p, 4, none⟩ (.int .u64 q3)) W) := fun W g => ⟨gb_keeps g x10, gb_keeps g x11, gb_trans (Below.refl _ _).drew g⟩
        clear NXT LRH ENDS hk x7 x8 x9 x10 x11
        generalize ((w2.setCell ⟨p, 3, none⟩ (.int .u64 q2)).setCell ⟨p, 4, none⟩ (.int .u64 q3)) = WX at *
        go_wp2_with fail
        go_fit cI
        rintro e w5 ⟨rfl, rfl⟩
        clear cI
        go_wp2_with fail
        refine wp_region_held_drew (S := fun W => W.cell? ⟨w1.heap.size, 0, none⟩ = some (.int .i64 xi) ∧ W.cell? ⟨w1.heap.size, 1, none⟩ = some (.int .u64 q2) ∧ W.cell? ⟨w1.heap.size, 2, none⟩ = some (.int .u64 q3) ∧ W.cell? ⟨p, 7, none⟩ = some (.int .i64 k1) ∧ W.cell? ⟨p, 8, none⟩ = some (.int .u64 k2) ∧ W.cell? ⟨p, 9, none⟩ = some (.int .u64 k3)) (by kernel_rfl) (FS6) (fun hHeld => ?_)
        refine wpAnyH_take (i := 0) (v := ?_) rfl (by kernel_rfl) (by kernel_rfl) (by kernel_rfl) (fun _ _ _ h => h) (Or.inl ⟨by rfl, ?_⟩) (by assumption) ?_
        rotate_left 1
        · (intro w hSw; (obtain ⟨s0, s1, s2, s3, s4, s5⟩ := hSw); go_simp; try with_reducible rfl)
        refine wpAnyH_take (i := 1) (v := ?_) rfl (by kernel_rfl) (by kernel_rfl) (by kernel_rfl) (fun _ _ _ h => h) (Or.inl ⟨by rfl, ?_⟩) (by assumption) ?_
        rotate_left 1
        · (intro w hSw; (obtain ⟨s0, s1, s2, s3, s4, s5⟩ := hSw); go_simp; try with_reducible rfl)
        refine wpAnyH_take (i := 2) (v := ?_) rfl (by kernel_rfl) (by kernel_rfl) (by kernel_rfl) (fun _ _ _ h => h) (Or.inl ⟨by rfl, ?_⟩) (by assumption) ?_
        rotate_left 1
        · (intro w hSw; (obtain ⟨s0, s1, s2, s3, s4, s5⟩ := hSw); go_simp; try with_reducible rfl)
        refine wpAnyH_take (i := 3) (v := ?_) rfl (by kernel_rfl) (by kernel_rfl) (by kernel_rfl) (fun _ _ _ h => h) (Or.inl ⟨by rfl, ?_⟩) (by assumption) ?_
        rotate_left 1
        · (intro w hSw; (obtain ⟨s0, s1, s2, s3, s4, s5⟩ := hSw); go_simp; try with_reducible rfl)
        refine wpAnyH_take (i := 4) (v := ?_) rfl (by kernel_rfl) (by kernel_rfl) (by kernel_rfl) (fun _ _ _ h => h) (Or.inl ⟨by rfl, ?_⟩) (by assumption) ?_
        rotate_left 1
        · (intro w hSw; (obtain ⟨s0, s1, s2, s3, s4, s5⟩ := hSw); go_simp; try with_reducible rfl)
        refine wpAnyH_ready (rs := [5]) (by kernel_rfl) (by simp) ?_
        refine AllReadyH.cons rfl (fun K hK => ?_) AllReadyH.nil
        go_simp
        go_fit (cL _)
        rintro e w6 ⟨rfl, g6⟩
        refine hK.out _ _ (⟨gb_keeps g6.gr hHeld.1, gb_keeps g6.gr hHeld.2.1, gb_keeps g6.gr hHeld.2.2.1, gb_keeps g6.gr hHeld.2.2.2.1, gb_keeps g6.gr hHeld.2.2.2.2.1, gb_keeps g6.gr hHeld.2.2.2.2.2⟩) (fun hHeld => ?_)
        clear hK K
        refine wpAnyH_take (i := 6) (v := ?_) rfl (by kernel_rfl) (by kernel_rfl) (by kernel_rfl) (fun _ _ _ h => h) (Or.inl ⟨by rfl, ?_⟩) (by assumption) ?_
        rotate_left 1
        · (intro w hSw; (obtain ⟨s0, s1, s2, s3, s4, s5⟩ := hSw); go_simp; try with_reducible rfl)
        refine wpAnyH_done (by kernel_rfl) ?_ _
        obtain ⟨x10, x11, gX⟩ := K10.out _ g6.gr
        have NY : Hid _ := NX.out _ gX
        clear hHeld FS6 cL NX K10 g6 gX
        cases ab with
        | true =>
          go_wp2
          go_roundg n'
          case measure => exact hn'
          case rel => exact NY
        | false =>
          go_wp2
          go_roundg n'
          case measure => exact hn'
          case rel => exact NY
    · have hz0 : decide (z > 0) = false := by rw [hdc]; exact decide_eq_false hRD
      have hz1 : ¬ 0 < z := of_decide_eq_false hz0
      have LR := NO.out w2 G2.out (by omega)
      clear hdc hz0 YES NO G2 RD
      obtain ⟨cI, x7, x8, x9, x10, x11⟩ := CLS.out _ LR
      have LRH : Hid (LdR Iq wr p (T p) D vl vh vr (w2)) := LR
      clear CLS LR
      rcases ENDS.out with ⟨hk, FIN⟩ | ⟨l, h, n', hk, hn', NXT⟩
      · rw [hk] at cI
        have FF : Hid _ := FIN _ LRH.out
        clear FIN LRH ENDS hk x7 x8 x9 x10 x11
        go_wp2_with fail
        go_fit cI
        rintro e w5 ⟨rfl, rfl⟩
        clear cI
        go_wp2
        go_ret
        exact FF.out
      · rw [hk] at cI x10 x11
        dsimp only [Option.map, kidV] at x10 x11
        have NX : Hid (∀ W, Gb (w2) W → LdI Iq m (xi, .slice ua nx uc, xl) sb w b0 F0 R0 w.heap.size n' (.pointer (some ⟨if ab = true then l else h, 0, none⟩)) W) := fun W g => NXT _ (LdR.gb LRH.out g)
        have FS6 : (fun W => W.cell? ⟨w1.heap.size, 0, none⟩ = some (.int .i64 xi) ∧ W.cell? ⟨w1.heap.size, 1, none⟩ = some (.int .u64 q2) ∧ W.cell? ⟨w1.heap.size, 2, none⟩ = some (.int .u64 q3) ∧ W.cell? ⟨p, 7, none⟩ = some (.int .i64 k1) ∧ W.cell? ⟨p, 8, none⟩ = some (.int .u64 k2) ∧ W.cell? ⟨p, 9, none⟩ = some (.int .u64 k3)) (w2).drew := ⟨H2.out.1, H2.out.2.1, H2.out.2.2, x7, x8, x9⟩
        have K10 : Hid (∀ W, Gb (w2).drew W → W.cell? ⟨p, 10, none⟩ = some (.pointer (some ⟨l, 0, none⟩)) ∧ W.cell? ⟨p, 11, none⟩ = some (.pointer (some ⟨h, 0, none⟩)) ∧ Gb (w2) W) := fun W g => ⟨gb_keeps g x10, gb_keeps g x11, gb_trans (Below.refl _ _).drew g⟩
        clear NXT LRH ENDS hk x7 x8 x9 x10 x11
        generalize (w2) = WX at *
        go_wp2_with fail
        go_fit cI
        rintro e w5 ⟨rfl, rfl⟩
        clear cI
        go_wp2_with fail
        refine wp_region_held_drew (S := fun W => W.cell? ⟨w1.heap.size, 0, none⟩ = some (.int .i64 xi) ∧ W.cell? ⟨w1.heap.size, 1, none⟩ = some (.int .u64 q2) ∧ W.cell? ⟨w1.heap.size, 2, none⟩ = some (.int .u64 q3) ∧ W.cell? ⟨p, 7, none⟩ = some (.int .i64 k1) ∧ W.cell? ⟨p, 8, none⟩ = some (.int .u64 k2) ∧ W.cell? ⟨p, 9, none⟩ = some (.int .u64 k3)) (by kernel_rfl) (FS6) (fun hHeld => ?_)
        refine wpAnyH_take (i := 0) (v := ?_) rfl (by kernel_rfl) (by kernel_rfl) (by kernel_rfl) (fun _ _ _ h => h) (Or.inl ⟨by rfl, ?_⟩) (by assumption) ?_
        rotate_left 1
        · (intro w hSw; (obtain ⟨s0, s1, s2, s3, s4, s5⟩ := hSw); go_simp; try with_reducible rfl)
        refine wpAnyH_take (i := 1) (v := ?_) rfl (by kernel_rfl) (by kernel_rfl) (by kernel_rfl) (fun _ _ _ h => h) (Or.inl ⟨by rfl, ?_⟩) (by assumption) ?_
        rotate_left 1
        · (intro w hSw; (obtain ⟨s0, s1, s2, s3, s4, s5⟩ := hSw); go_simp; try with_reducible rfl)
        refine wpAnyH_take (i := 2) (v := ?_) rfl (by kernel_rfl) (by kernel_rfl) (by kernel_rfl) (fun _ _ _ h => h) (Or.inl ⟨by rfl, ?_⟩) (by assumption) ?_
        rotate_left 1
        · (intro w hSw; (obtain ⟨s0, s1, s2, s3, s4, s5⟩ := hSw); go_simp; try with_reducible rfl)
        refine wpAnyH_take (i := 3) (v := ?_) rfl (by kernel_rfl) (by kernel_rfl) (by kernel_rfl) (fun _ _ _ h => h) (Or.inl ⟨by rfl, ?_⟩) (by assumption) ?_
        rotate_left 1
        · (intro w hSw; (obtain ⟨s0, s1, s2, s3, s4, s5⟩ := hSw); go_simp; try with_reducible rfl)
        refine wpAnyH_take (i := 4) (v := ?_) rfl (by kernel_rfl) (by kernel_rfl) (by kernel_rfl) (fun _ _ _ h => h) (Or.inl ⟨by rfl, ?_⟩) (by assumption) ?_
        rotate_left 1
        · (intro w hSw; (obtain ⟨s0, s1, s2, s3, s4, s5⟩ := hSw); go_simp; try with_reducible rfl)
        refine wpAnyH_ready (rs := [5]) (by kernel_rfl) (by simp) ?_
        refine AllReadyH.cons rfl (fun K hK => ?_) AllReadyH.nil
        go_simp
        go_fit (cL _)
        rintro e w6 ⟨rfl, g6⟩
        refine hK.out _ _ (⟨gb_keeps g6.gr hHeld.1, gb_keeps g6.gr hHeld.2.1, gb_keeps g6.gr hHeld.2.2.1, gb_keeps g6.gr hHeld.2.2.2.1, gb_keeps g6.gr hHeld.2.2.2.2.1, gb_keeps g6.gr hHeld.2.2.2.2.2⟩) (fun hHeld => ?_)
        clear hK K
        refine wpAnyH_take (i := 6) (v := ?_) rfl (by kernel_rfl) (by kernel_rfl) (by kernel_rfl) (fun _ _ _ h => h) (Or.inl ⟨by rfl, ?_⟩) (by assumption) ?_
        rotate_left 1
        · (intro w hSw; (obtain ⟨s0, s1, s2, s3, s4, s5⟩ := hSw); go_simp; try with_reducible rfl)
        refine wpAnyH_done (by kernel_rfl) ?_ _
        obtain ⟨x10, x11, gX⟩ := K10.out _ g6.gr
        have NY : Hid _ := NX.out _ gX
        clear hHeld FS6 cL NX K10 g6 gX
        cases ab with
        | true =>
          go_wp2
          go_roundg n'
          case measure => exact hn'
          case rel => exact NY
        | false =>
          go_wp2
          go_roundg n'
          case measure => exact hn'
          case rel => exact NY
end Go.Proofs.YtepjbdklljlecaaGreat
