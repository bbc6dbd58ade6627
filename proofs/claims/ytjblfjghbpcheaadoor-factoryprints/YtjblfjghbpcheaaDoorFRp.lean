/- The reference's Parse. -/
import Derived.Test.YtjblfjghbpcheaaDoorFRi
import Derived.Test.YtjblfjghbpcheaaDoorFRn
namespace Go.Proofs.YtjblfjghbpcheaaDoor
open Go.Shelf Go.RowKit

/-- Parse under way: its answer's block, its spec's block. -/
structure RP (w0 : World) (k n p c : Int) (W : World) : Prop where
  res : W.heap[w0.heap.size]? = some (SpC 0 0 0 0)
  box : W.heap[w0.heap.size + 1]? = some (SpC k n p c)
  bl : Below w0.heap.size w0 W
theorem RP.call {w0 : World} {k n p c : Int} {W W' : World} (h : RP w0 k n p c W) (b : Below W.heap.size W W') : RP w0 k n p c W' :=
  ⟨(b.block _ (Array.getElem?_eq_some_iff.1 h.res).1).trans h.res, (b.block _ (Array.getElem?_eq_some_iff.1 h.box).1).trans h.box, h.bl.trans (b.mono h.bl.size)⟩
theorem ans_any {w : World} {b : Nat} {k n p c a0 a1 a2 a3 : Int} (h : w.heap[b]? = some (SpC k n p c)) :
    ((((w.setCell ⟨b, 0, none⟩ (.int .i64 a0)).setCell ⟨b, 1, none⟩ (.int .i64 a1)).setCell ⟨b, 2, none⟩ (.int .i64 a2)).setCell ⟨b, 3, none⟩ (.int .i64 a3)).heap[b]? = some (SpC a0 a1 a2 a3) := by
  simp [World.setCell, Array.getElem?_modify, h]
theorem RP.put {w0 : World} {k n p c : Int} {W : World} (h : RP w0 k n p c W) (a0 a1 a2 a3 : Int) :
    RP w0 a0 a1 a2 a3 ((((W.setCell ⟨w0.heap.size + 1, 0, none⟩ (.int .i64 a0)).setCell ⟨w0.heap.size + 1, 1, none⟩ (.int .i64 a1)).setCell ⟨w0.heap.size + 1, 2, none⟩ (.int .i64 a2)).setCell ⟨w0.heap.size + 1, 3, none⟩ (.int .i64 a3)) := by
  refine ⟨?_, ans_any h.box, (((h.bl.setCell (p := ⟨w0.heap.size + 1, 0, none⟩) (Nat.le_succ _) _).setCell (p := ⟨w0.heap.size + 1, 1, none⟩) (Nat.le_succ _) _).setCell (p := ⟨w0.heap.size + 1, 2, none⟩) (Nat.le_succ _) _).setCell (p := ⟨w0.heap.size + 1, 3, none⟩) (Nat.le_succ _) _⟩
  rw [Below.heap_setCell _ _ _ _ (by simp), Below.heap_setCell _ _ _ _ (by simp), Below.heap_setCell _ _ _ _ (by simp), Below.heap_setCell _ _ _ _ (by simp)]
  exact h.res
theorem RP.start (w : World) : RP w 1 0 0 0 ((zW w).alloc (.cells #[.int .i64 1, .int .i64 0, .int .i64 0, .int .i64 0] 24)) :=
  ⟨al_old (al_new _ _) _, al_new1 _ _ _, ((Below.refl _ w).alloc (Nat.le_refl _) _).alloc (by simp) _⟩

set_option maxHeartbeats 2000000 in
theorem rp_flat (t : Bs) (_ht : t.length ≤ 65536) (hfl : (t == [70, 108, 97, 116]) = true) (w : World) :
    Calls Tryd.prog 7 #[Str t] w fun e w' => e = .returned (.tuple #[Sp (parR t).1.1 (parR t).1.2.1 (parR t).1.2.2.1 (parR t).1.2.2.2, .int .i64 (parR t).2]) ∧ Below w.heap.size w w' := by
  have I0 := RP.start w
  have R := rcheck_c 1 0 0 0
  have PE := (show parR t = endP 1 (0, 0, 0) by unfold parR; rw [formK1, if_pos (by simpa [wFlat] using hfl)])
  by_cases hz : chkV 1 0 0 0 = 0
  · have E : Hid (parR t = ((1, 0, 0, 0), 0)) := by unfold Hid; rw [PE]; simp [endP, hz]
    rw [hz] at R
    clear hz PE
    go_enter Tryd.func7, Tryd.ntmps7
    obtain ⟨⟨q0, q1, q2, q3⟩, ⟨r0, r1, r2, r3⟩⟩ := box_cells I0.box
    obtain ⟨⟨s0, s1, s2, s3⟩, ⟨t0, t1, t2, t3⟩⟩ := box_cells I0.res
    have LB := (Array.getElem?_eq_some_iff.1 I0.box).1
    go_wp2_with fail
    refine (R _).mono ?_
    rintro x w' ⟨rfl, rfl⟩
    go_wp2
    refine bodyPost_ret (v := .tuple #[Sp 1 0 0 0, .int .i64 0]) (by simp [results, Tryd.results7, go_sem]) rfl ?_
    rw [E.out]
    exact ⟨rfl, (((Below.refl _ w).alloc (Nat.le_refl _) _).alloc (by simp) _).alloc (by simp; omega) _⟩
  · have E : Hid (parR t = ((0, 0, 0, 0), chkV 1 0 0 0)) := by unfold Hid; rw [PE]; simp [endP, hz]
    have hb : (chkV 1 0 0 0 == 0) = false := by simpa using hz
    clear PE
    generalize chkV 1 0 0 0 = z at *
    clear hz
    go_enter Tryd.func7, Tryd.ntmps7
    obtain ⟨⟨q0, q1, q2, q3⟩, ⟨r0, r1, r2, r3⟩⟩ := box_cells I0.box
    obtain ⟨⟨s0, s1, s2, s3⟩, ⟨t0, t1, t2, t3⟩⟩ := box_cells I0.res
    have LB := (Array.getElem?_eq_some_iff.1 I0.box).1
    go_wp2_with fail
    refine (R _).mono ?_
    rintro x w' ⟨rfl, rfl⟩
    go_wp2
    refine bodyPost_ret (v := .tuple #[Sp 0 0 0 0, .int .i64 z]) (by simp [results, Tryd.results7, go_sem]) rfl ?_
    rw [E.out]
    exact ⟨rfl, (((Below.refl _ w).alloc (Nat.le_refl _) _).alloc (by simp) _).alloc (by simp; omega) _⟩

set_option maxHeartbeats 2000000 in
theorem rp_kd (t : Bs) (ht : t.length ≤ 65536) (hfl : (t == [70, 108, 97, 116]) = false) (h1 : formK 1 t = none) (vn : Int) (hf0 : oneO wKD t = some (vn, 0, 0)) (w : World) :
    Calls Tryd.prog 7 #[Str t] w fun e w' => e = .returned (.tuple #[Sp (parR t).1.1 (parR t).1.2.1 (parR t).1.2.2.1 (parR t).1.2.2.2, .int .i64 (parR t).2]) ∧ Below w.heap.size w w' := by
  have I0 := RP.start w
  have C0 := one_c t wKD 2 ht (by decide)
  have R := rcheck_c 2 vn 0 0
  have PE := (show parR t = endP 2 (vn, 0, 0) by unfold parR; rw [h1, formK2, hf0])
  by_cases hz : chkV 2 vn 0 0 = 0
  · have E : Hid (parR t = ((2, vn, 0, 0), 0)) := by unfold Hid; rw [PE]; simp [endP, hz]
    rw [hz] at R
    clear hz PE
    go_enter Tryd.func7, Tryd.ntmps7
    go_wp2_with fail
    refine (C0 _).mono ?_
    rintro x w0 ⟨⟨n0, b0, rfl, o0⟩, d0⟩
    obtain ⟨rfl, rfl⟩ : b0 = true ∧ n0 = vn := by rw [hf0] at o0; cases b0 <;> simp at o0; exact ⟨rfl, o0.symm⟩
    clear o0
    have J0 := I0.call d0
    obtain ⟨⟨x0, x1, x2, x3⟩, ⟨y0, y1, y2, y3⟩⟩ := box_cells J0.box
    have L0 : w.heap.size + 1 < w0.heap.size := (Array.getElem?_eq_some_iff.1 J0.box).1
    have I1 := J0.put 2 n0 0 0
    clear I0 d0
    obtain ⟨⟨q0, q1, q2, q3⟩, ⟨r0, r1, r2, r3⟩⟩ := box_cells I1.box
    obtain ⟨⟨s0, s1, s2, s3⟩, ⟨t0, t1, t2, t3⟩⟩ := box_cells I1.res
    have LB := (Array.getElem?_eq_some_iff.1 I1.box).1
    go_wp2_with fail
    generalize hWW : (((w0.setCell ⟨w.heap.size + 1, 0, none⟩ (.int .i64 2)).setCell ⟨w.heap.size + 1, 1, none⟩ (.int .i64 n0)).setCell ⟨w.heap.size + 1, 2, none⟩ (.int .i64 0)).setCell ⟨w.heap.size + 1, 3, none⟩ (.int .i64 0) = W at *
    refine (R _).mono ?_
    rintro x w' ⟨rfl, rfl⟩
    clear J0 x0 x1 x2 x3 y0 y1 y2 y3 hWW
    have q : ∀ {p : Addr} {v : Value}, W.cell? p = some v → ∀ o, (W.alloc o).cell? p = some v := fun h o => (World.cell?_alloc_lt _ _ _ (World.block_lt_of_cell? _ _ h)).trans h
    have q0' := q q0
    have q1' := q q1
    have q2' := q q2
    have q3' := q q3
    have s0' := q s0
    have s1' := q s1
    have s2' := q s2
    have s3' := q s3
    have LC : w.heap.size < W.heap.size := Nat.lt_of_succ_lt LB
    clear q
    go_wp2
    have hA := al_old (ans_end (a0 := 2) (a1 := n0) (a2 := 0) (a3 := 0) I1.res) (.cells #[.int .i64 2, .int .i64 n0, .int .i64 0, .int .i64 0] 24)
    obtain ⟨⟨v0, v1, v2, v3⟩, _⟩ := box_cells hA
    refine bodyPost_ret (v := .tuple #[Sp 2 n0 0 0, .int .i64 0]) (by simp [results, Tryd.results7, go_sem, v0, v1, v2, v3]) rfl ?_
    rw [E.out]
    exact ⟨rfl, (below4 I1.bl).alloc (by simp [World.setCell]; omega) _⟩
  · have E : Hid (parR t = ((0, 0, 0, 0), chkV 2 vn 0 0)) := by unfold Hid; rw [PE]; simp [endP, hz]
    have hb : (chkV 2 vn 0 0 == 0) = false := by simpa using hz
    clear PE
    generalize chkV 2 vn 0 0 = z at *
    clear hz
    go_enter Tryd.func7, Tryd.ntmps7
    go_wp2_with fail
    refine (C0 _).mono ?_
    rintro x w0 ⟨⟨n0, b0, rfl, o0⟩, d0⟩
    obtain ⟨rfl, rfl⟩ : b0 = true ∧ n0 = vn := by rw [hf0] at o0; cases b0 <;> simp at o0; exact ⟨rfl, o0.symm⟩
    clear o0
    have J0 := I0.call d0
    obtain ⟨⟨x0, x1, x2, x3⟩, ⟨y0, y1, y2, y3⟩⟩ := box_cells J0.box
    have L0 : w.heap.size + 1 < w0.heap.size := (Array.getElem?_eq_some_iff.1 J0.box).1
    have I1 := J0.put 2 n0 0 0
    clear I0 d0
    obtain ⟨⟨q0, q1, q2, q3⟩, ⟨r0, r1, r2, r3⟩⟩ := box_cells I1.box
    obtain ⟨⟨s0, s1, s2, s3⟩, ⟨t0, t1, t2, t3⟩⟩ := box_cells I1.res
    have LB := (Array.getElem?_eq_some_iff.1 I1.box).1
    go_wp2_with fail
    generalize hWW : (((w0.setCell ⟨w.heap.size + 1, 0, none⟩ (.int .i64 2)).setCell ⟨w.heap.size + 1, 1, none⟩ (.int .i64 n0)).setCell ⟨w.heap.size + 1, 2, none⟩ (.int .i64 0)).setCell ⟨w.heap.size + 1, 3, none⟩ (.int .i64 0) = W at *
    refine (R _).mono ?_
    rintro x w' ⟨rfl, rfl⟩
    clear J0 x0 x1 x2 x3 y0 y1 y2 y3 hWW
    have q : ∀ {p : Addr} {v : Value}, W.cell? p = some v → ∀ o, (W.alloc o).cell? p = some v := fun h o => (World.cell?_alloc_lt _ _ _ (World.block_lt_of_cell? _ _ h)).trans h
    have q0' := q q0
    have q1' := q q1
    have q2' := q q2
    have q3' := q q3
    have s0' := q s0
    have s1' := q s1
    have s2' := q s2
    have s3' := q s3
    have LC : w.heap.size < W.heap.size := Nat.lt_of_succ_lt LB
    clear q
    go_wp2
    have hA := al_old (ans_end (a0 := 0) (a1 := 0) (a2 := 0) (a3 := 0) I1.res) (.cells #[.int .i64 2, .int .i64 n0, .int .i64 0, .int .i64 0] 24)
    obtain ⟨⟨v0, v1, v2, v3⟩, _⟩ := box_cells hA
    refine bodyPost_ret (v := .tuple #[Sp 0 0 0 0, .int .i64 z]) (by simp [results, Tryd.results7, go_sem, v0, v1, v2, v3]) rfl ?_
    rw [E.out]
    exact ⟨rfl, (below4 I1.bl).alloc (by simp [World.setCell]; omega) _⟩

set_option maxHeartbeats 2000000 in
theorem rp_vp (t : Bs) (ht : t.length ≤ 65536) (hfl : (t == [70, 108, 97, 116]) = false) (h1 : formK 1 t = none) (hf0 : oneO wKD t = none) (vn : Int) (hf1 : oneO wVP t = some (vn, 0, 0)) (w : World) :
    Calls Tryd.prog 7 #[Str t] w fun e w' => e = .returned (.tuple #[Sp (parR t).1.1 (parR t).1.2.1 (parR t).1.2.2.1 (parR t).1.2.2.2, .int .i64 (parR t).2]) ∧ Below w.heap.size w w' := by
  have I0 := RP.start w
  have C0 := one_c t wKD 2 ht (by decide)
  have C1 := one_c t wVP 3 ht (by decide)
  have R := rcheck_c 3 vn 0 0
  have PE := (show parR t = endP 3 (vn, 0, 0) by unfold parR; rw [h1, formK2, hf0, formK3, hf1])
  by_cases hz : chkV 3 vn 0 0 = 0
  · have E : Hid (parR t = ((3, vn, 0, 0), 0)) := by unfold Hid; rw [PE]; simp [endP, hz]
    rw [hz] at R
    clear hz PE
    go_enter Tryd.func7, Tryd.ntmps7
    go_wp2_with fail
    refine (C0 _).mono ?_
    rintro x w0 ⟨⟨n0, b0, rfl, o0⟩, d0⟩
    obtain rfl : b0 = false := by rw [hf0] at o0; cases b0 <;> simp at o0; rfl
    clear o0
    have J0 := I0.call d0
    obtain ⟨⟨x0, x1, x2, x3⟩, ⟨y0, y1, y2, y3⟩⟩ := box_cells J0.box
    have L0 : w.heap.size + 1 < w0.heap.size := (Array.getElem?_eq_some_iff.1 J0.box).1
    have I1 := J0.put 2 n0 0 0
    clear I0 d0
    go_wp2_with fail
    generalize (((w0.setCell ⟨w.heap.size + 1, 0, none⟩ (.int .i64 2)).setCell ⟨w.heap.size + 1, 1, none⟩ (.int .i64 n0)).setCell ⟨w.heap.size + 1, 2, none⟩ (.int .i64 0)).setCell ⟨w.heap.size + 1, 3, none⟩ (.int .i64 0) = V1 at *
    clear x0 x1 x2 x3 y0 y1 y2 y3 L0 J0
    refine (C1 _).mono ?_
    rintro x w1 ⟨⟨n1, b1, rfl, o1⟩, d1⟩
    obtain ⟨rfl, rfl⟩ : b1 = true ∧ n1 = vn := by rw [hf1] at o1; cases b1 <;> simp at o1; exact ⟨rfl, o1.symm⟩
    clear o1
    have J1 := I1.call d1
    obtain ⟨⟨x0, x1, x2, x3⟩, ⟨y0, y1, y2, y3⟩⟩ := box_cells J1.box
    have L1 : w.heap.size + 1 < w1.heap.size := (Array.getElem?_eq_some_iff.1 J1.box).1
    have I2 := J1.put 3 n1 0 0
    clear I1 d1
    obtain ⟨⟨q0, q1, q2, q3⟩, ⟨r0, r1, r2, r3⟩⟩ := box_cells I2.box
    obtain ⟨⟨s0, s1, s2, s3⟩, ⟨t0, t1, t2, t3⟩⟩ := box_cells I2.res
    have LB := (Array.getElem?_eq_some_iff.1 I2.box).1
    go_wp2_with fail
    generalize hWW : (((w1.setCell ⟨w.heap.size + 1, 0, none⟩ (.int .i64 3)).setCell ⟨w.heap.size + 1, 1, none⟩ (.int .i64 n1)).setCell ⟨w.heap.size + 1, 2, none⟩ (.int .i64 0)).setCell ⟨w.heap.size + 1, 3, none⟩ (.int .i64 0) = W at *
    refine (R _).mono ?_
    rintro x w' ⟨rfl, rfl⟩
    clear J1 x0 x1 x2 x3 y0 y1 y2 y3 hWW
    have q : ∀ {p : Addr} {v : Value}, W.cell? p = some v → ∀ o, (W.alloc o).cell? p = some v := fun h o => (World.cell?_alloc_lt _ _ _ (World.block_lt_of_cell? _ _ h)).trans h
    have q0' := q q0
    have q1' := q q1
    have q2' := q q2
    have q3' := q q3
    have s0' := q s0
    have s1' := q s1
    have s2' := q s2
    have s3' := q s3
    have LC : w.heap.size < W.heap.size := Nat.lt_of_succ_lt LB
    clear q
    go_wp2
    have hA := al_old (ans_end (a0 := 3) (a1 := n1) (a2 := 0) (a3 := 0) I2.res) (.cells #[.int .i64 3, .int .i64 n1, .int .i64 0, .int .i64 0] 24)
    obtain ⟨⟨v0, v1, v2, v3⟩, _⟩ := box_cells hA
    refine bodyPost_ret (v := .tuple #[Sp 3 n1 0 0, .int .i64 0]) (by simp [results, Tryd.results7, go_sem, v0, v1, v2, v3]) rfl ?_
    rw [E.out]
    exact ⟨rfl, (below4 I2.bl).alloc (by simp [World.setCell]; omega) _⟩
  · have E : Hid (parR t = ((0, 0, 0, 0), chkV 3 vn 0 0)) := by unfold Hid; rw [PE]; simp [endP, hz]
    have hb : (chkV 3 vn 0 0 == 0) = false := by simpa using hz
    clear PE
    generalize chkV 3 vn 0 0 = z at *
    clear hz
    go_enter Tryd.func7, Tryd.ntmps7
    go_wp2_with fail
    refine (C0 _).mono ?_
    rintro x w0 ⟨⟨n0, b0, rfl, o0⟩, d0⟩
    obtain rfl : b0 = false := by rw [hf0] at o0; cases b0 <;> simp at o0; rfl
    clear o0
    have J0 := I0.call d0
    obtain ⟨⟨x0, x1, x2, x3⟩, ⟨y0, y1, y2, y3⟩⟩ := box_cells J0.box
    have L0 : w.heap.size + 1 < w0.heap.size := (Array.getElem?_eq_some_iff.1 J0.box).1
    have I1 := J0.put 2 n0 0 0
    clear I0 d0
    go_wp2_with fail
    generalize (((w0.setCell ⟨w.heap.size + 1, 0, none⟩ (.int .i64 2)).setCell ⟨w.heap.size + 1, 1, none⟩ (.int .i64 n0)).setCell ⟨w.heap.size + 1, 2, none⟩ (.int .i64 0)).setCell ⟨w.heap.size + 1, 3, none⟩ (.int .i64 0) = V1 at *
    clear x0 x1 x2 x3 y0 y1 y2 y3 L0 J0
    refine (C1 _).mono ?_
    rintro x w1 ⟨⟨n1, b1, rfl, o1⟩, d1⟩
    obtain ⟨rfl, rfl⟩ : b1 = true ∧ n1 = vn := by rw [hf1] at o1; cases b1 <;> simp at o1; exact ⟨rfl, o1.symm⟩
    clear o1
    have J1 := I1.call d1
    obtain ⟨⟨x0, x1, x2, x3⟩, ⟨y0, y1, y2, y3⟩⟩ := box_cells J1.box
    have L1 : w.heap.size + 1 < w1.heap.size := (Array.getElem?_eq_some_iff.1 J1.box).1
    have I2 := J1.put 3 n1 0 0
    clear I1 d1
    obtain ⟨⟨q0, q1, q2, q3⟩, ⟨r0, r1, r2, r3⟩⟩ := box_cells I2.box
    obtain ⟨⟨s0, s1, s2, s3⟩, ⟨t0, t1, t2, t3⟩⟩ := box_cells I2.res
    have LB := (Array.getElem?_eq_some_iff.1 I2.box).1
    go_wp2_with fail
    generalize hWW : (((w1.setCell ⟨w.heap.size + 1, 0, none⟩ (.int .i64 3)).setCell ⟨w.heap.size + 1, 1, none⟩ (.int .i64 n1)).setCell ⟨w.heap.size + 1, 2, none⟩ (.int .i64 0)).setCell ⟨w.heap.size + 1, 3, none⟩ (.int .i64 0) = W at *
    refine (R _).mono ?_
    rintro x w' ⟨rfl, rfl⟩
    clear J1 x0 x1 x2 x3 y0 y1 y2 y3 hWW
    have q : ∀ {p : Addr} {v : Value}, W.cell? p = some v → ∀ o, (W.alloc o).cell? p = some v := fun h o => (World.cell?_alloc_lt _ _ _ (World.block_lt_of_cell? _ _ h)).trans h
    have q0' := q q0
    have q1' := q q1
    have q2' := q q2
    have q3' := q q3
    have s0' := q s0
    have s1' := q s1
    have s2' := q s2
    have s3' := q s3
    have LC : w.heap.size < W.heap.size := Nat.lt_of_succ_lt LB
    clear q
    go_wp2
    have hA := al_old (ans_end (a0 := 0) (a1 := 0) (a2 := 0) (a3 := 0) I2.res) (.cells #[.int .i64 3, .int .i64 n1, .int .i64 0, .int .i64 0] 24)
    obtain ⟨⟨v0, v1, v2, v3⟩, _⟩ := box_cells hA
    refine bodyPost_ret (v := .tuple #[Sp 0 0 0 0, .int .i64 z]) (by simp [results, Tryd.results7, go_sem, v0, v1, v2, v3]) rfl ?_
    rw [E.out]
    exact ⟨rfl, (below4 I2.bl).alloc (by simp [World.setCell]; omega) _⟩

set_option maxHeartbeats 2000000 in
theorem rp_hnsw (t : Bs) (ht : t.length ≤ 65536) (hfl : (t == [70, 108, 97, 116]) = false) (h1 : formK 1 t = none) (hf0 : oneO wKD t = none) (hf1 : oneO wVP t = none) (vn : Int) (hf2 : oneO wHNSW t = some (vn, 0, 0)) (w : World) :
    Calls Tryd.prog 7 #[Str t] w fun e w' => e = .returned (.tuple #[Sp (parR t).1.1 (parR t).1.2.1 (parR t).1.2.2.1 (parR t).1.2.2.2, .int .i64 (parR t).2]) ∧ Below w.heap.size w w' := by
  have I0 := RP.start w
  have C0 := one_c t wKD 2 ht (by decide)
  have C1 := one_c t wVP 3 ht (by decide)
  have C2 := one_c t wHNSW 6 ht (by decide)
  have R := rcheck_c 6 vn 0 0
  have PE := (show parR t = endP 6 (vn, 0, 0) by unfold parR; rw [h1, formK2, hf0, formK3, hf1, formK6, hf2])
  by_cases hz : chkV 6 vn 0 0 = 0
  · have E : Hid (parR t = ((6, vn, 0, 0), 0)) := by unfold Hid; rw [PE]; simp [endP, hz]
    rw [hz] at R
    clear hz PE
    go_enter Tryd.func7, Tryd.ntmps7
    go_wp2_with fail
    refine (C0 _).mono ?_
    rintro x w0 ⟨⟨n0, b0, rfl, o0⟩, d0⟩
    obtain rfl : b0 = false := by rw [hf0] at o0; cases b0 <;> simp at o0; rfl
    clear o0
    have J0 := I0.call d0
    obtain ⟨⟨x0, x1, x2, x3⟩, ⟨y0, y1, y2, y3⟩⟩ := box_cells J0.box
    have L0 : w.heap.size + 1 < w0.heap.size := (Array.getElem?_eq_some_iff.1 J0.box).1
    have I1 := J0.put 2 n0 0 0
    clear I0 d0
    go_wp2_with fail
    generalize (((w0.setCell ⟨w.heap.size + 1, 0, none⟩ (.int .i64 2)).setCell ⟨w.heap.size + 1, 1, none⟩ (.int .i64 n0)).setCell ⟨w.heap.size + 1, 2, none⟩ (.int .i64 0)).setCell ⟨w.heap.size + 1, 3, none⟩ (.int .i64 0) = V1 at *
    clear x0 x1 x2 x3 y0 y1 y2 y3 L0 J0
    refine (C1 _).mono ?_
    rintro x w1 ⟨⟨n1, b1, rfl, o1⟩, d1⟩
    obtain rfl : b1 = false := by rw [hf1] at o1; cases b1 <;> simp at o1; rfl
    clear o1
    have J1 := I1.call d1
    obtain ⟨⟨x0, x1, x2, x3⟩, ⟨y0, y1, y2, y3⟩⟩ := box_cells J1.box
    have L1 : w.heap.size + 1 < w1.heap.size := (Array.getElem?_eq_some_iff.1 J1.box).1
    have I2 := J1.put 3 n1 0 0
    clear I1 d1
    go_wp2_with fail
    generalize (((w1.setCell ⟨w.heap.size + 1, 0, none⟩ (.int .i64 3)).setCell ⟨w.heap.size + 1, 1, none⟩ (.int .i64 n1)).setCell ⟨w.heap.size + 1, 2, none⟩ (.int .i64 0)).setCell ⟨w.heap.size + 1, 3, none⟩ (.int .i64 0) = V2 at *
    clear x0 x1 x2 x3 y0 y1 y2 y3 L1 J1
    refine (C2 _).mono ?_
    rintro x w2 ⟨⟨n2, b2, rfl, o2⟩, d2⟩
    obtain ⟨rfl, rfl⟩ : b2 = true ∧ n2 = vn := by rw [hf2] at o2; cases b2 <;> simp at o2; exact ⟨rfl, o2.symm⟩
    clear o2
    have J2 := I2.call d2
    obtain ⟨⟨x0, x1, x2, x3⟩, ⟨y0, y1, y2, y3⟩⟩ := box_cells J2.box
    have L2 : w.heap.size + 1 < w2.heap.size := (Array.getElem?_eq_some_iff.1 J2.box).1
    have I3 := J2.put 6 n2 0 0
    clear I2 d2
    obtain ⟨⟨q0, q1, q2, q3⟩, ⟨r0, r1, r2, r3⟩⟩ := box_cells I3.box
    obtain ⟨⟨s0, s1, s2, s3⟩, ⟨t0, t1, t2, t3⟩⟩ := box_cells I3.res
    have LB := (Array.getElem?_eq_some_iff.1 I3.box).1
    go_wp2_with fail
    generalize hWW : (((w2.setCell ⟨w.heap.size + 1, 0, none⟩ (.int .i64 6)).setCell ⟨w.heap.size + 1, 1, none⟩ (.int .i64 n2)).setCell ⟨w.heap.size + 1, 2, none⟩ (.int .i64 0)).setCell ⟨w.heap.size + 1, 3, none⟩ (.int .i64 0) = W at *
    refine (R _).mono ?_
    rintro x w' ⟨rfl, rfl⟩
    clear J2 x0 x1 x2 x3 y0 y1 y2 y3 hWW
    have q : ∀ {p : Addr} {v : Value}, W.cell? p = some v → ∀ o, (W.alloc o).cell? p = some v := fun h o => (World.cell?_alloc_lt _ _ _ (World.block_lt_of_cell? _ _ h)).trans h
    have q0' := q q0
    have q1' := q q1
    have q2' := q q2
    have q3' := q q3
    have s0' := q s0
    have s1' := q s1
    have s2' := q s2
    have s3' := q s3
    have LC : w.heap.size < W.heap.size := Nat.lt_of_succ_lt LB
    clear q
    go_wp2
    have hA := al_old (ans_end (a0 := 6) (a1 := n2) (a2 := 0) (a3 := 0) I3.res) (.cells #[.int .i64 6, .int .i64 n2, .int .i64 0, .int .i64 0] 24)
    obtain ⟨⟨v0, v1, v2, v3⟩, _⟩ := box_cells hA
    refine bodyPost_ret (v := .tuple #[Sp 6 n2 0 0, .int .i64 0]) (by simp [results, Tryd.results7, go_sem, v0, v1, v2, v3]) rfl ?_
    rw [E.out]
    exact ⟨rfl, (below4 I3.bl).alloc (by simp [World.setCell]; omega) _⟩
  · have E : Hid (parR t = ((0, 0, 0, 0), chkV 6 vn 0 0)) := by unfold Hid; rw [PE]; simp [endP, hz]
    have hb : (chkV 6 vn 0 0 == 0) = false := by simpa using hz
    clear PE
    generalize chkV 6 vn 0 0 = z at *
    clear hz
    go_enter Tryd.func7, Tryd.ntmps7
    go_wp2_with fail
    refine (C0 _).mono ?_
    rintro x w0 ⟨⟨n0, b0, rfl, o0⟩, d0⟩
    obtain rfl : b0 = false := by rw [hf0] at o0; cases b0 <;> simp at o0; rfl
    clear o0
    have J0 := I0.call d0
    obtain ⟨⟨x0, x1, x2, x3⟩, ⟨y0, y1, y2, y3⟩⟩ := box_cells J0.box
    have L0 : w.heap.size + 1 < w0.heap.size := (Array.getElem?_eq_some_iff.1 J0.box).1
    have I1 := J0.put 2 n0 0 0
    clear I0 d0
    go_wp2_with fail
    generalize (((w0.setCell ⟨w.heap.size + 1, 0, none⟩ (.int .i64 2)).setCell ⟨w.heap.size + 1, 1, none⟩ (.int .i64 n0)).setCell ⟨w.heap.size + 1, 2, none⟩ (.int .i64 0)).setCell ⟨w.heap.size + 1, 3, none⟩ (.int .i64 0) = V1 at *
    clear x0 x1 x2 x3 y0 y1 y2 y3 L0 J0
    refine (C1 _).mono ?_
    rintro x w1 ⟨⟨n1, b1, rfl, o1⟩, d1⟩
    obtain rfl : b1 = false := by rw [hf1] at o1; cases b1 <;> simp at o1; rfl
    clear o1
    have J1 := I1.call d1
    obtain ⟨⟨x0, x1, x2, x3⟩, ⟨y0, y1, y2, y3⟩⟩ := box_cells J1.box
    have L1 : w.heap.size + 1 < w1.heap.size := (Array.getElem?_eq_some_iff.1 J1.box).1
    have I2 := J1.put 3 n1 0 0
    clear I1 d1
    go_wp2_with fail
    generalize (((w1.setCell ⟨w.heap.size + 1, 0, none⟩ (.int .i64 3)).setCell ⟨w.heap.size + 1, 1, none⟩ (.int .i64 n1)).setCell ⟨w.heap.size + 1, 2, none⟩ (.int .i64 0)).setCell ⟨w.heap.size + 1, 3, none⟩ (.int .i64 0) = V2 at *
    clear x0 x1 x2 x3 y0 y1 y2 y3 L1 J1
    refine (C2 _).mono ?_
    rintro x w2 ⟨⟨n2, b2, rfl, o2⟩, d2⟩
    obtain ⟨rfl, rfl⟩ : b2 = true ∧ n2 = vn := by rw [hf2] at o2; cases b2 <;> simp at o2; exact ⟨rfl, o2.symm⟩
    clear o2
    have J2 := I2.call d2
    obtain ⟨⟨x0, x1, x2, x3⟩, ⟨y0, y1, y2, y3⟩⟩ := box_cells J2.box
    have L2 : w.heap.size + 1 < w2.heap.size := (Array.getElem?_eq_some_iff.1 J2.box).1
    have I3 := J2.put 6 n2 0 0
    clear I2 d2
    obtain ⟨⟨q0, q1, q2, q3⟩, ⟨r0, r1, r2, r3⟩⟩ := box_cells I3.box
    obtain ⟨⟨s0, s1, s2, s3⟩, ⟨t0, t1, t2, t3⟩⟩ := box_cells I3.res
    have LB := (Array.getElem?_eq_some_iff.1 I3.box).1
    go_wp2_with fail
    generalize hWW : (((w2.setCell ⟨w.heap.size + 1, 0, none⟩ (.int .i64 6)).setCell ⟨w.heap.size + 1, 1, none⟩ (.int .i64 n2)).setCell ⟨w.heap.size + 1, 2, none⟩ (.int .i64 0)).setCell ⟨w.heap.size + 1, 3, none⟩ (.int .i64 0) = W at *
    refine (R _).mono ?_
    rintro x w' ⟨rfl, rfl⟩
    clear J2 x0 x1 x2 x3 y0 y1 y2 y3 hWW
    have q : ∀ {p : Addr} {v : Value}, W.cell? p = some v → ∀ o, (W.alloc o).cell? p = some v := fun h o => (World.cell?_alloc_lt _ _ _ (World.block_lt_of_cell? _ _ h)).trans h
    have q0' := q q0
    have q1' := q q1
    have q2' := q q2
    have q3' := q q3
    have s0' := q s0
    have s1' := q s1
    have s2' := q s2
    have s3' := q s3
    have LC : w.heap.size < W.heap.size := Nat.lt_of_succ_lt LB
    clear q
    go_wp2
    have hA := al_old (ans_end (a0 := 0) (a1 := 0) (a2 := 0) (a3 := 0) I3.res) (.cells #[.int .i64 6, .int .i64 n2, .int .i64 0, .int .i64 0] 24)
    obtain ⟨⟨v0, v1, v2, v3⟩, _⟩ := box_cells hA
    refine bodyPost_ret (v := .tuple #[Sp 0 0 0 0, .int .i64 z]) (by simp [results, Tryd.results7, go_sem, v0, v1, v2, v3]) rfl ?_
    rw [E.out]
    exact ⟨rfl, (below4 I3.bl).alloc (by simp [World.setCell]; omega) _⟩

set_option maxHeartbeats 2000000 in
theorem rp_ivf (t : Bs) (ht : t.length ≤ 65536) (hfl : (t == [70, 108, 97, 116]) = false) (hf0 : oneO wKD t = none) (hf1 : oneO wVP t = none) (hf2 : oneO wHNSW t = none) (vk vn vp vc : Int) (hiv : Hid (∀ {k n p c : Int} {b : Bool}, ((b = true ∧ k = 4 ∧ ivfO t = some (n, p, c)) ∨ (b = true ∧ k = 5 ∧ ivfO t = none ∧ pqO t = some (n, p, c)) ∨ (b = false ∧ ivfO t = none ∧ pqO t = none)) → b = true ∧ k = vk ∧ n = vn ∧ p = vp ∧ c = vc)) (hpe : parR t = endP vk (vn, vp, vc)) (w : World) :
    Calls Tryd.prog 7 #[Str t] w fun e w' => e = .returned (.tuple #[Sp (parR t).1.1 (parR t).1.2.1 (parR t).1.2.2.1 (parR t).1.2.2.2, .int .i64 (parR t).2]) ∧ Below w.heap.size w w' := by
  have I0 := RP.start w
  have C0 := one_c t wKD 2 ht (by decide)
  have C1 := one_c t wVP 3 ht (by decide)
  have C2 := one_c t wHNSW 6 ht (by decide)
  have C3 := ivf_c t ht
  have R := rcheck_c vk vn vp vc
  have PE := hpe
  by_cases hz : chkV vk vn vp vc = 0
  · have E : Hid (parR t = ((vk, vn, vp, vc), 0)) := by unfold Hid; rw [PE]; simp [endP, hz]
    rw [hz] at R
    clear hz PE hpe
    go_enter Tryd.func7, Tryd.ntmps7
    go_wp2_with fail
    refine (C0 _).mono ?_
    rintro x w0 ⟨⟨n0, b0, rfl, o0⟩, d0⟩
    obtain rfl : b0 = false := by rw [hf0] at o0; cases b0 <;> simp at o0; rfl
    clear o0
    have J0 := I0.call d0
    obtain ⟨⟨x0, x1, x2, x3⟩, ⟨y0, y1, y2, y3⟩⟩ := box_cells J0.box
    have L0 : w.heap.size + 1 < w0.heap.size := (Array.getElem?_eq_some_iff.1 J0.box).1
    have I1 := J0.put 2 n0 0 0
    clear I0 d0
    go_wp2_with fail
    generalize (((w0.setCell ⟨w.heap.size + 1, 0, none⟩ (.int .i64 2)).setCell ⟨w.heap.size + 1, 1, none⟩ (.int .i64 n0)).setCell ⟨w.heap.size + 1, 2, none⟩ (.int .i64 0)).setCell ⟨w.heap.size + 1, 3, none⟩ (.int .i64 0) = V1 at *
    clear x0 x1 x2 x3 y0 y1 y2 y3 L0 J0
    refine (C1 _).mono ?_
    rintro x w1 ⟨⟨n1, b1, rfl, o1⟩, d1⟩
    obtain rfl : b1 = false := by rw [hf1] at o1; cases b1 <;> simp at o1; rfl
    clear o1
    have J1 := I1.call d1
    obtain ⟨⟨x0, x1, x2, x3⟩, ⟨y0, y1, y2, y3⟩⟩ := box_cells J1.box
    have L1 : w.heap.size + 1 < w1.heap.size := (Array.getElem?_eq_some_iff.1 J1.box).1
    have I2 := J1.put 3 n1 0 0
    clear I1 d1
    go_wp2_with fail
    generalize (((w1.setCell ⟨w.heap.size + 1, 0, none⟩ (.int .i64 3)).setCell ⟨w.heap.size + 1, 1, none⟩ (.int .i64 n1)).setCell ⟨w.heap.size + 1, 2, none⟩ (.int .i64 0)).setCell ⟨w.heap.size + 1, 3, none⟩ (.int .i64 0) = V2 at *
    clear x0 x1 x2 x3 y0 y1 y2 y3 L1 J1
    refine (C2 _).mono ?_
    rintro x w2 ⟨⟨n2, b2, rfl, o2⟩, d2⟩
    obtain rfl : b2 = false := by rw [hf2] at o2; cases b2 <;> simp at o2; rfl
    clear o2
    have J2 := I2.call d2
    obtain ⟨⟨x0, x1, x2, x3⟩, ⟨y0, y1, y2, y3⟩⟩ := box_cells J2.box
    have L2 : w.heap.size + 1 < w2.heap.size := (Array.getElem?_eq_some_iff.1 J2.box).1
    have I3 := J2.put 6 n2 0 0
    clear I2 d2
    go_wp2_with fail
    generalize (((w2.setCell ⟨w.heap.size + 1, 0, none⟩ (.int .i64 6)).setCell ⟨w.heap.size + 1, 1, none⟩ (.int .i64 n2)).setCell ⟨w.heap.size + 1, 2, none⟩ (.int .i64 0)).setCell ⟨w.heap.size + 1, 3, none⟩ (.int .i64 0) = V3 at *
    clear x0 x1 x2 x3 y0 y1 y2 y3 L2 J2
    refine (C3 _).mono ?_
    rintro x w3 ⟨⟨k3, n3, p3, c3, b3, rfl, o3⟩, d3⟩
    obtain ⟨rfl, rfl, rfl, rfl, rfl⟩ : b3 = true ∧ k3 = vk ∧ n3 = vn ∧ p3 = vp ∧ c3 = vc := hiv.out o3
    clear o3
    have J3 := I3.call d3
    obtain ⟨⟨x0, x1, x2, x3⟩, ⟨y0, y1, y2, y3⟩⟩ := box_cells J3.box
    have L3 : w.heap.size + 1 < w3.heap.size := (Array.getElem?_eq_some_iff.1 J3.box).1
    have I4 := J3.put k3 n3 p3 c3
    clear I3 d3
    obtain ⟨⟨q0, q1, q2, q3⟩, ⟨r0, r1, r2, r3⟩⟩ := box_cells I4.box
    obtain ⟨⟨s0, s1, s2, s3⟩, ⟨t0, t1, t2, t3⟩⟩ := box_cells I4.res
    have LB := (Array.getElem?_eq_some_iff.1 I4.box).1
    go_wp2_with fail
    generalize hWW : (((w3.setCell ⟨w.heap.size + 1, 0, none⟩ (.int .i64 k3)).setCell ⟨w.heap.size + 1, 1, none⟩ (.int .i64 n3)).setCell ⟨w.heap.size + 1, 2, none⟩ (.int .i64 p3)).setCell ⟨w.heap.size + 1, 3, none⟩ (.int .i64 c3) = W at *
    refine (R _).mono ?_
    rintro x w' ⟨rfl, rfl⟩
    clear J3 x0 x1 x2 x3 y0 y1 y2 y3 hWW
    have q : ∀ {p : Addr} {v : Value}, W.cell? p = some v → ∀ o, (W.alloc o).cell? p = some v := fun h o => (World.cell?_alloc_lt _ _ _ (World.block_lt_of_cell? _ _ h)).trans h
    have q0' := q q0
    have q1' := q q1
    have q2' := q q2
    have q3' := q q3
    have s0' := q s0
    have s1' := q s1
    have s2' := q s2
    have s3' := q s3
    have LC : w.heap.size < W.heap.size := Nat.lt_of_succ_lt LB
    clear q
    go_wp2
    have hA := al_old (ans_end (a0 := k3) (a1 := n3) (a2 := p3) (a3 := c3) I4.res) (.cells #[.int .i64 k3, .int .i64 n3, .int .i64 p3, .int .i64 c3] 24)
    obtain ⟨⟨v0, v1, v2, v3⟩, _⟩ := box_cells hA
    refine bodyPost_ret (v := .tuple #[Sp k3 n3 p3 c3, .int .i64 0]) (by simp [results, Tryd.results7, go_sem, v0, v1, v2, v3]) rfl ?_
    rw [E.out]
    exact ⟨rfl, (below4 I4.bl).alloc (by simp [World.setCell]; omega) _⟩
  · have E : Hid (parR t = ((0, 0, 0, 0), chkV vk vn vp vc)) := by unfold Hid; rw [PE]; simp [endP, hz]
    have hb : (chkV vk vn vp vc == 0) = false := by simpa using hz
    clear PE hpe
    generalize chkV vk vn vp vc = z at *
    clear hz
    go_enter Tryd.func7, Tryd.ntmps7
    go_wp2_with fail
    refine (C0 _).mono ?_
    rintro x w0 ⟨⟨n0, b0, rfl, o0⟩, d0⟩
    obtain rfl : b0 = false := by rw [hf0] at o0; cases b0 <;> simp at o0; rfl
    clear o0
    have J0 := I0.call d0
    obtain ⟨⟨x0, x1, x2, x3⟩, ⟨y0, y1, y2, y3⟩⟩ := box_cells J0.box
    have L0 : w.heap.size + 1 < w0.heap.size := (Array.getElem?_eq_some_iff.1 J0.box).1
    have I1 := J0.put 2 n0 0 0
    clear I0 d0
    go_wp2_with fail
    generalize (((w0.setCell ⟨w.heap.size + 1, 0, none⟩ (.int .i64 2)).setCell ⟨w.heap.size + 1, 1, none⟩ (.int .i64 n0)).setCell ⟨w.heap.size + 1, 2, none⟩ (.int .i64 0)).setCell ⟨w.heap.size + 1, 3, none⟩ (.int .i64 0) = V1 at *
    clear x0 x1 x2 x3 y0 y1 y2 y3 L0 J0
    refine (C1 _).mono ?_
    rintro x w1 ⟨⟨n1, b1, rfl, o1⟩, d1⟩
    obtain rfl : b1 = false := by rw [hf1] at o1; cases b1 <;> simp at o1; rfl
    clear o1
    have J1 := I1.call d1
    obtain ⟨⟨x0, x1, x2, x3⟩, ⟨y0, y1, y2, y3⟩⟩ := box_cells J1.box
    have L1 : w.heap.size + 1 < w1.heap.size := (Array.getElem?_eq_some_iff.1 J1.box).1
    have I2 := J1.put 3 n1 0 0
    clear I1 d1
    go_wp2_with fail
    generalize (((w1.setCell ⟨w.heap.size + 1, 0, none⟩ (.int .i64 3)).setCell ⟨w.heap.size + 1, 1, none⟩ (.int .i64 n1)).setCell ⟨w.heap.size + 1, 2, none⟩ (.int .i64 0)).setCell ⟨w.heap.size + 1, 3, none⟩ (.int .i64 0) = V2 at *
    clear x0 x1 x2 x3 y0 y1 y2 y3 L1 J1
    refine (C2 _).mono ?_
    rintro x w2 ⟨⟨n2, b2, rfl, o2⟩, d2⟩
    obtain rfl : b2 = false := by rw [hf2] at o2; cases b2 <;> simp at o2; rfl
    clear o2
    have J2 := I2.call d2
    obtain ⟨⟨x0, x1, x2, x3⟩, ⟨y0, y1, y2, y3⟩⟩ := box_cells J2.box
    have L2 : w.heap.size + 1 < w2.heap.size := (Array.getElem?_eq_some_iff.1 J2.box).1
    have I3 := J2.put 6 n2 0 0
    clear I2 d2
    go_wp2_with fail
    generalize (((w2.setCell ⟨w.heap.size + 1, 0, none⟩ (.int .i64 6)).setCell ⟨w.heap.size + 1, 1, none⟩ (.int .i64 n2)).setCell ⟨w.heap.size + 1, 2, none⟩ (.int .i64 0)).setCell ⟨w.heap.size + 1, 3, none⟩ (.int .i64 0) = V3 at *
    clear x0 x1 x2 x3 y0 y1 y2 y3 L2 J2
    refine (C3 _).mono ?_
    rintro x w3 ⟨⟨k3, n3, p3, c3, b3, rfl, o3⟩, d3⟩
    obtain ⟨rfl, rfl, rfl, rfl, rfl⟩ : b3 = true ∧ k3 = vk ∧ n3 = vn ∧ p3 = vp ∧ c3 = vc := hiv.out o3
    clear o3
    have J3 := I3.call d3
    obtain ⟨⟨x0, x1, x2, x3⟩, ⟨y0, y1, y2, y3⟩⟩ := box_cells J3.box
    have L3 : w.heap.size + 1 < w3.heap.size := (Array.getElem?_eq_some_iff.1 J3.box).1
    have I4 := J3.put k3 n3 p3 c3
    clear I3 d3
    obtain ⟨⟨q0, q1, q2, q3⟩, ⟨r0, r1, r2, r3⟩⟩ := box_cells I4.box
    obtain ⟨⟨s0, s1, s2, s3⟩, ⟨t0, t1, t2, t3⟩⟩ := box_cells I4.res
    have LB := (Array.getElem?_eq_some_iff.1 I4.box).1
    go_wp2_with fail
    generalize hWW : (((w3.setCell ⟨w.heap.size + 1, 0, none⟩ (.int .i64 k3)).setCell ⟨w.heap.size + 1, 1, none⟩ (.int .i64 n3)).setCell ⟨w.heap.size + 1, 2, none⟩ (.int .i64 p3)).setCell ⟨w.heap.size + 1, 3, none⟩ (.int .i64 c3) = W at *
    refine (R _).mono ?_
    rintro x w' ⟨rfl, rfl⟩
    clear J3 x0 x1 x2 x3 y0 y1 y2 y3 hWW
    have q : ∀ {p : Addr} {v : Value}, W.cell? p = some v → ∀ o, (W.alloc o).cell? p = some v := fun h o => (World.cell?_alloc_lt _ _ _ (World.block_lt_of_cell? _ _ h)).trans h
    have q0' := q q0
    have q1' := q q1
    have q2' := q q2
    have q3' := q q3
    have s0' := q s0
    have s1' := q s1
    have s2' := q s2
    have s3' := q s3
    have LC : w.heap.size < W.heap.size := Nat.lt_of_succ_lt LB
    clear q
    go_wp2
    have hA := al_old (ans_end (a0 := 0) (a1 := 0) (a2 := 0) (a3 := 0) I4.res) (.cells #[.int .i64 k3, .int .i64 n3, .int .i64 p3, .int .i64 c3] 24)
    obtain ⟨⟨v0, v1, v2, v3⟩, _⟩ := box_cells hA
    refine bodyPost_ret (v := .tuple #[Sp 0 0 0 0, .int .i64 z]) (by simp [results, Tryd.results7, go_sem, v0, v1, v2, v3]) rfl ?_
    rw [E.out]
    exact ⟨rfl, (below4 I4.bl).alloc (by simp [World.setCell]; omega) _⟩

set_option maxHeartbeats 2000000 in
theorem rp_no (t : Bs) (ht : t.length ≤ 65536) (hfl : (t == [70, 108, 97, 116]) = false) (hf0 : oneO wKD t = none) (hf1 : oneO wVP t = none) (hf2 : oneO wHNSW t = none) (hiv : Hid (∀ {k n p c : Int} {b : Bool}, ((b = true ∧ k = 4 ∧ ivfO t = some (n, p, c)) ∨ (b = true ∧ k = 5 ∧ ivfO t = none ∧ pqO t = some (n, p, c)) ∨ (b = false ∧ ivfO t = none ∧ pqO t = none)) → b = false)) (hpe : parR t = ((0, 0, 0, 0), 120)) (w : World) :
    Calls Tryd.prog 7 #[Str t] w fun e w' => e = .returned (.tuple #[Sp (parR t).1.1 (parR t).1.2.1 (parR t).1.2.2.1 (parR t).1.2.2.2, .int .i64 (parR t).2]) ∧ Below w.heap.size w w' := by
  have I0 := RP.start w
  have C0 := one_c t wKD 2 ht (by decide)
  have C1 := one_c t wVP 3 ht (by decide)
  have C2 := one_c t wHNSW 6 ht (by decide)
  have C3 := ivf_c t ht
  have E : Hid (parR t = ((0, 0, 0, 0), 120)) := hpe
  go_enter Tryd.func7, Tryd.ntmps7
  go_wp2_with fail
  refine (C0 _).mono ?_
  rintro x w0 ⟨⟨n0, b0, rfl, o0⟩, d0⟩
  obtain rfl : b0 = false := by rw [hf0] at o0; cases b0 <;> simp at o0; rfl
  clear o0
  have J0 := I0.call d0
  obtain ⟨⟨x0, x1, x2, x3⟩, ⟨y0, y1, y2, y3⟩⟩ := box_cells J0.box
  have L0 : w.heap.size + 1 < w0.heap.size := (Array.getElem?_eq_some_iff.1 J0.box).1
  have I1 := J0.put 2 n0 0 0
  clear I0 d0
  go_wp2_with fail
  generalize (((w0.setCell ⟨w.heap.size + 1, 0, none⟩ (.int .i64 2)).setCell ⟨w.heap.size + 1, 1, none⟩ (.int .i64 n0)).setCell ⟨w.heap.size + 1, 2, none⟩ (.int .i64 0)).setCell ⟨w.heap.size + 1, 3, none⟩ (.int .i64 0) = V1 at *
  clear x0 x1 x2 x3 y0 y1 y2 y3 L0 J0
  refine (C1 _).mono ?_
  rintro x w1 ⟨⟨n1, b1, rfl, o1⟩, d1⟩
  obtain rfl : b1 = false := by rw [hf1] at o1; cases b1 <;> simp at o1; rfl
  clear o1
  have J1 := I1.call d1
  obtain ⟨⟨x0, x1, x2, x3⟩, ⟨y0, y1, y2, y3⟩⟩ := box_cells J1.box
  have L1 : w.heap.size + 1 < w1.heap.size := (Array.getElem?_eq_some_iff.1 J1.box).1
  have I2 := J1.put 3 n1 0 0
  clear I1 d1
  go_wp2_with fail
  generalize (((w1.setCell ⟨w.heap.size + 1, 0, none⟩ (.int .i64 3)).setCell ⟨w.heap.size + 1, 1, none⟩ (.int .i64 n1)).setCell ⟨w.heap.size + 1, 2, none⟩ (.int .i64 0)).setCell ⟨w.heap.size + 1, 3, none⟩ (.int .i64 0) = V2 at *
  clear x0 x1 x2 x3 y0 y1 y2 y3 L1 J1
  refine (C2 _).mono ?_
  rintro x w2 ⟨⟨n2, b2, rfl, o2⟩, d2⟩
  obtain rfl : b2 = false := by rw [hf2] at o2; cases b2 <;> simp at o2; rfl
  clear o2
  have J2 := I2.call d2
  obtain ⟨⟨x0, x1, x2, x3⟩, ⟨y0, y1, y2, y3⟩⟩ := box_cells J2.box
  have L2 : w.heap.size + 1 < w2.heap.size := (Array.getElem?_eq_some_iff.1 J2.box).1
  have I3 := J2.put 6 n2 0 0
  clear I2 d2
  go_wp2_with fail
  generalize (((w2.setCell ⟨w.heap.size + 1, 0, none⟩ (.int .i64 6)).setCell ⟨w.heap.size + 1, 1, none⟩ (.int .i64 n2)).setCell ⟨w.heap.size + 1, 2, none⟩ (.int .i64 0)).setCell ⟨w.heap.size + 1, 3, none⟩ (.int .i64 0) = V3 at *
  clear x0 x1 x2 x3 y0 y1 y2 y3 L2 J2
  refine (C3 _).mono ?_
  rintro x w3 ⟨⟨k3, n3, p3, c3, b3, rfl, o3⟩, d3⟩
  obtain rfl : b3 = false := hiv.out o3
  clear o3
  have J3 := I3.call d3
  obtain ⟨⟨x0, x1, x2, x3⟩, ⟨y0, y1, y2, y3⟩⟩ := box_cells J3.box
  have L3 : w.heap.size + 1 < w3.heap.size := (Array.getElem?_eq_some_iff.1 J3.box).1
  have I4 := J3.put k3 n3 p3 c3
  clear I3 d3
  obtain ⟨⟨s0, s1, s2, s3⟩, ⟨t0, t1, t2, t3⟩⟩ := box_cells J3.res
  obtain ⟨⟨s0', s1', s2', s3'⟩, ⟨t0', t1', t2', t3'⟩⟩ := box_cells I4.res
  go_wp2
  have hA := ans_end (a0 := 0) (a1 := 0) (a2 := 0) (a3 := 0) I4.res
  obtain ⟨⟨v0, v1, v2, v3⟩, _⟩ := box_cells hA
  refine bodyPost_ret (v := .tuple #[Sp 0 0 0 0, .int .i64 120]) (by simp [results, Tryd.results7, go_sem, v0, v1, v2, v3]) rfl ?_
  rw [E.out]
  exact ⟨rfl, below4 I4.bl⟩


theorem one_two {w t : Bs} {v : N3} (h : oneO w t = some v) : ∃ n, v = (n, 0, 0) := by
  unfold oneO at h
  cases h1 : frontO w t with
  | none => rw [h1] at h; cases h
  | some r =>
    rw [h1] at h; simp only [] at h
    cases h2 : digO r with
    | none => rw [h2] at h; cases h
    | some ne =>
      obtain ⟨n, e⟩ := ne
      rw [h2] at h; simp only [] at h
      split at h
      · exact ⟨n, (Option.some.inj h).symm⟩
      · cases h
/-- P12.2, the reference. -/
theorem rparse_c (t : Bs) (ht : t.length ≤ 65536) (w : World) :
    Calls Tryd.prog 7 #[Str t] w fun e w' => e = .returned (.tuple #[Sp (parR t).1.1 (parR t).1.2.1 (parR t).1.2.2.1 (parR t).1.2.2.2, .int .i64 (parR t).2]) ∧ Below w.heap.size w w' := by
  cases hfl : (t == [70, 108, 97, 116]) with
  | true => exact rp_flat t ht hfl w
  | false =>
    have h1 : formK 1 t = none := by rw [formK1, if_neg (by simpa [wFlat] using hfl)]
    cases h2 : oneO wKD t with
    | some v => obtain ⟨n, rfl⟩ := one_two h2; exact rp_kd t ht hfl h1 n h2 w
    | none =>
      cases h3 : oneO wVP t with
      | some v => obtain ⟨n, rfl⟩ := one_two h3; exact rp_vp t ht hfl h1 h2 n h3 w
      | none =>
        cases h6 : oneO wHNSW t with
        | some v => obtain ⟨n, rfl⟩ := one_two h6; exact rp_hnsw t ht hfl h1 h2 h3 n h6 w
        | none =>
          cases h4 : ivfO t with
          | some v =>
            obtain ⟨n, p, c⟩ := v
            refine rp_ivf t ht hfl h2 h3 h6 4 n p c ?_ (by unfold parR; rw [h1, formK2, h2, formK3, h3, formK6, h6, formK4, h4]) w
            intro k n' p' c' b h
            rcases h with ⟨rfl, rfl, e⟩ | ⟨_, _, e, _⟩ | ⟨_, e, _⟩
            · rw [h4] at e; simp at e; exact ⟨rfl, rfl, e.1.symm, e.2.1.symm, e.2.2.symm⟩
            · rw [h4] at e; cases e
            · rw [h4] at e; cases e
          | none =>
            cases h5 : pqO t with
            | some v =>
              obtain ⟨n, p, c⟩ := v
              refine rp_ivf t ht hfl h2 h3 h6 5 n p c ?_ (by unfold parR; rw [h1, formK2, h2, formK3, h3, formK6, h6, formK4, h4, formK5, h5]) w
              intro k n' p' c' b h
              rcases h with ⟨_, _, e⟩ | ⟨rfl, rfl, _, e⟩ | ⟨_, _, e⟩
              · rw [h4] at e; cases e
              · rw [h5] at e; simp at e; exact ⟨rfl, rfl, e.1.symm, e.2.1.symm, e.2.2.symm⟩
              · rw [h5] at e; cases e
            | none =>
              refine rp_no t ht hfl h2 h3 h6 ?_ (by unfold parR; rw [h1, formK2, h2, formK3, h3, formK6, h6, formK4, h4, formK5, h5]) w
              intro k n' p' c' b h
              rcases h with ⟨_, _, e⟩ | ⟨_, _, _, e⟩ | ⟨h, _, _⟩
              · rw [h4] at e; cases e
              · rw [h5] at e; cases e
              · exact h

end Go.Proofs.YtjblfjghbpcheaaDoor
