/- factory.spell, by read's closures. -/
import Derived.Test.YtjblfjghbpcheaaDoorFR
namespace Go.Proofs.YtjblfjghbpcheaaDoor
open Go.Shelf Go.RowKit

/-- spell under way: its spec lies in the block behind w0, its answer in the next one. -/
structure SpI (bt bc bf : Nat) (w0 : World) (k n p c : Int) (st : St) (w : World) : Prop where
  b1 : 2 ≤ bt
  b2 : 2 ≤ bc
  l1 : bt < w0.heap.size
  l2 : bc < w0.heap.size
  l3 : bf < w0.heap.size
  n1 : bf ≠ bt
  n2 : bf ≠ bc
  rd : RdAt bt bc st w
  kp : Kp2 bt bc w0 w
  box : w.heap[w0.heap.size]? = some (SpC k n p c)
  res : w.heap[w0.heap.size + 1]? = some (SpC 0 0 0 0)
  fn : w.heap[bf]? = some (.cells #[.func (.func 21) #[] #[.pointer (some ⟨bt, 0, none⟩), .pointer (some ⟨bc, 0, none⟩)]] 47 (0, 0))
  er : ErrV w
theorem SpI.word {bt bc bf : Nat} {w0 : World} {k n p c : Int} {st st' : St} {w w' : World} (h : SpI bt bc bf w0 k n p c st w) (hk : Kp2 bt bc w w') (hr : RdAt bt bc st' w') : SpI bt bc bf w0 k n p c st' w' := by
  have e1 := (Array.getElem?_eq_some_iff.1 h.box).1
  have e2 := (Array.getElem?_eq_some_iff.1 h.res).1
  have e3 := (Array.getElem?_eq_some_iff.1 h.fn).1
  have l1 := h.l1
  have l2 := h.l2
  have l3 := h.l3
  have n1 := h.n1
  have n2 := h.n2
  exact ⟨h.b1, h.b2, l1, l2, l3, n1, n2, hr, h.kp.trans hk, (hk.blk _ e1 (by omega) (by omega)).trans h.box, (hk.blk _ e2 (by omega) (by omega)).trans h.res, (hk.blk _ e3 n1 n2).trans h.fn, hk.err h.er h.b1 h.b2⟩
theorem SpI.put {bt bc bf : Nat} {w0 : World} {k n p c n' p' c' : Int} {st : St} {w : World} (h : SpI bt bc bf w0 k n p c st w) (o : Nat) (v : Value)
    (hb : (w.setCell ⟨w0.heap.size, o, none⟩ v).heap[w0.heap.size]? = some (SpC k n' p' c')) : SpI bt bc bf w0 k n' p' c' st (w.setCell ⟨w0.heap.size, o, none⟩ v) := by
  have l1 := h.l1
  have l2 := h.l2
  have l3 := h.l3
  have q : ∀ i, i ≠ w0.heap.size → (w.setCell ⟨w0.heap.size, o, none⟩ v).heap[i]? = w.heap[i]? := fun i hi => Below.heap_setCell _ _ _ _ (by simpa using hi)
  refine ⟨h.b1, h.b2, l1, l2, l3, h.n1, h.n2, ⟨(q _ (by omega)).trans h.rd.txt, (q _ (by omega)).trans h.rd.cld, h.rd.len⟩, h.kp.setCell _ (Or.inr (Or.inr (Nat.le_refl _))) _, hb, (q _ (by omega)).trans h.res, (q _ (by omega)).trans h.fn, ?_⟩
  obtain ⟨⟨a, d, e1⟩, ⟨f, g, e2⟩⟩ := h.er
  refine ⟨⟨a, d, ?_⟩, ⟨f, g, ?_⟩⟩
  · rw [World.cell?_setCell_far w _ _ _ (by have := h.b1; show w0.heap.size ≠ 0; omega)]; exact e1
  · rw [World.cell?_setCell_far w _ _ _ (by have := h.b1; show w0.heap.size ≠ 1; omega)]; exact e2
theorem set1 {w : World} {b : Nat} {k n p c : Int} (h : w.heap[b]? = some (SpC k n p c)) (v : Int) : (w.setCell ⟨b, 1, none⟩ (.int .i64 v)).heap[b]? = some (SpC k v p c) := by
  simp [World.setCell, Array.getElem?_modify, h]
theorem set2 {w : World} {b : Nat} {k n p c : Int} (h : w.heap[b]? = some (SpC k n p c)) (v : Int) : (w.setCell ⟨b, 2, none⟩ (.int .i64 v)).heap[b]? = some (SpC k n v c) := by
  simp [World.setCell, Array.getElem?_modify, h]
theorem set3 {w : World} {b : Nat} {k n p c : Int} (h : w.heap[b]? = some (SpC k n p c)) (v : Int) : (w.setCell ⟨b, 3, none⟩ (.int .i64 v)).heap[b]? = some (SpC k n p v) := by
  simp [World.setCell, Array.getElem?_modify, h]
/-- What spell ends with: the answer in its block. -/
theorem ans_end {w : World} {b : Nat} {a0 a1 a2 a3 : Int} (h : w.heap[b]? = some (SpC 0 0 0 0)) :
    ((((w.setCell ⟨b, 0, none⟩ (.int .i64 a0)).setCell ⟨b, 1, none⟩ (.int .i64 a1)).setCell ⟨b, 2, none⟩ (.int .i64 a2)).setCell ⟨b, 3, none⟩ (.int .i64 a3)).heap[b]? = some (SpC a0 a1 a2 a3) := by
  simp [World.setCell, Array.getElem?_modify, h]
theorem RdAt.far {bt bc b o : Nat} {v : Value} {st : St} {w : World} (h : RdAt bt bc st w) (h1 : bt < b) (h2 : bc < b) : RdAt bt bc st (w.setCell ⟨b, o, none⟩ v) :=
  ⟨(Below.heap_setCell _ _ _ _ (by show bt ≠ b; omega)).trans h.txt, (Below.heap_setCell _ _ _ _ (by show bc ≠ b; omega)).trans h.cld, h.len⟩

set_option maxHeartbeats 2000000 in
theorem spellR_1 (bt bc bf : Nat) (t : Bs) (w : World) (I0 : SpI bt bc bf w 1 0 0 0 (t, true) ((w.alloc (.cells #[.int .i64 1, .int .i64 0, .int .i64 0, .int .i64 0] 24)).alloc (.cells #[.int .i64 0, .int .i64 0, .int .i64 0, .int .i64 0] 24))) :
    Calls Tryd.prog 27 #[Sp 1 0 0 0, .func (.func 21) #[] #[.pointer (some ⟨bt, 0, none⟩), .pointer (some ⟨bc, 0, none⟩)], .func (.func 23) #[] #[.pointer (some ⟨bt, 0, none⟩), .pointer (some ⟨bc, 0, none⟩), .pointer (some ⟨bf, 0, none⟩)]] w
      fun e w' => e = .returned (Sp 1 (rdK 1 t).1.1 (rdK 1 t).1.2.1 (rdK 1 t).1.2.2) ∧ RdAt bt bc (rdK 1 t).2 w' ∧ Kp2 bt bc w w' := by
  have E : Hid (rdK 1 t = (((0 : Int), (0 : Int), (0 : Int)), (cutS (t, true) wFlat))) := by unfold Hid; simp [rdK]
  have lt1 := I0.l1
  have lt2 := I0.l2
  go_enter Tryd.func27, Tryd.ntmps27
  go_wp2_with fail
  refine (cut_c bt bc (t, true) ⟨#[70, 108, 97, 116]⟩ _ I0.rd).mono ?_
  rintro e w1 ⟨rfl, r1, k1⟩
  have r1' : RdAt bt bc (cutS (t, true) wFlat) w1 := r1
  clear r1
  have I1 := I0.word k1 r1'
  clear I0 k1 r1'
  obtain ⟨⟨x0, x1, x2, x3⟩, ⟨y0, y1, y2, y3⟩⟩ := box_cells I1.box
  obtain ⟨⟨z0, z1, z2, z3⟩, ⟨u0, u1, u2, u3⟩⟩ := box_cells I1.res
  go_wp2
  have hA := ans_end (a0 := 1) (a1 := 0) (a2 := 0) (a3 := 0) I1.res
  obtain ⟨⟨v0, v1, v2, v3⟩, _⟩ := box_cells hA
  refine bodyPost_ret (v := Sp 1 0 0 0) (by simp [results, Tryd.results27, go_sem, v0, v1, v2, v3]) rfl ?_
  rw [E.out]
  exact ⟨rfl, ((((I1.rd).far (by omega) (by omega)).far (by omega) (by omega)).far (by omega) (by omega)).far (by omega) (by omega), (((I1.kp.setCell _ (Or.inr (Or.inr (Nat.le_succ _))) _).setCell _ (Or.inr (Or.inr (Nat.le_succ _))) _).setCell _ (Or.inr (Or.inr (Nat.le_succ _))) _).setCell _ (Or.inr (Or.inr (Nat.le_succ _))) _⟩

set_option maxHeartbeats 2000000 in
theorem spellR_2 (bt bc bf : Nat) (t : Bs) (w : World) (I0 : SpI bt bc bf w 2 0 0 0 (t, true) ((w.alloc (.cells #[.int .i64 2, .int .i64 0, .int .i64 0, .int .i64 0] 24)).alloc (.cells #[.int .i64 0, .int .i64 0, .int .i64 0, .int .i64 0] 24))) :
    Calls Tryd.prog 27 #[Sp 2 0 0 0, .func (.func 21) #[] #[.pointer (some ⟨bt, 0, none⟩), .pointer (some ⟨bc, 0, none⟩)], .func (.func 23) #[] #[.pointer (some ⟨bt, 0, none⟩), .pointer (some ⟨bc, 0, none⟩), .pointer (some ⟨bf, 0, none⟩)]] w
      fun e w' => e = .returned (Sp 2 (rdK 2 t).1.1 (rdK 2 t).1.2.1 (rdK 2 t).1.2.2) ∧ RdAt bt bc (rdK 2 t).2 w' ∧ Kp2 bt bc w w' := by
  have E : Hid (rdK 2 t = (((numV (cutS (t, true) wKD)), (0 : Int), (0 : Int)), (numS (cutS (t, true) wKD)))) := by unfold Hid; simp [rdK]
  have lt1 := I0.l1
  have lt2 := I0.l2
  go_enter Tryd.func27, Tryd.ntmps27
  go_wp2_with fail
  refine (cut_c bt bc (t, true) ⟨#[75, 68]⟩ _ I0.rd).mono ?_
  rintro e w1 ⟨rfl, r1, k1⟩
  have r1' : RdAt bt bc (cutS (t, true) wKD) w1 := r1
  clear r1
  have I1 := I0.word k1 r1'
  clear I0 k1 r1'
  obtain ⟨⟨x0, x1, x2, x3⟩, ⟨y0, y1, y2, y3⟩⟩ := box_cells I1.box
  go_wp2_with fail
  refine (number_c bt bc bf (cutS (t, true) wKD) 0 _ I1.rd I1.er I1.b1 I1.b2 I1.fn).mono ?_
  rintro e w2 ⟨rfl, r2, k2⟩
  have J2 := I1.word k2 r2
  clear I1 k2 r2
  have I2 := J2.put 1 (.int .i64 (numV (cutS (t, true) wKD))) (set1 J2.box _)
  obtain ⟨⟨x0, x1, x2, x3⟩, ⟨y0, y1, y2, y3⟩⟩ := box_cells J2.box
  have Lt : w.heap.size < w2.heap.size := (Array.getElem?_eq_some_iff.1 J2.box).1
  obtain ⟨⟨z0, z1, z2, z3⟩, ⟨u0, u1, u2, u3⟩⟩ := box_cells J2.res
  go_wp2
  have hA := ans_end (a0 := 2) (a1 := (numV (cutS (t, true) wKD))) (a2 := 0) (a3 := 0) I2.res
  obtain ⟨⟨v0, v1, v2, v3⟩, _⟩ := box_cells hA
  refine bodyPost_ret (v := Sp 2 (numV (cutS (t, true) wKD)) 0 0) (by simp [results, Tryd.results27, go_sem, v0, v1, v2, v3]) rfl ?_
  rw [E.out]
  exact ⟨rfl, ((((I2.rd).far (by omega) (by omega)).far (by omega) (by omega)).far (by omega) (by omega)).far (by omega) (by omega), (((I2.kp.setCell _ (Or.inr (Or.inr (Nat.le_succ _))) _).setCell _ (Or.inr (Or.inr (Nat.le_succ _))) _).setCell _ (Or.inr (Or.inr (Nat.le_succ _))) _).setCell _ (Or.inr (Or.inr (Nat.le_succ _))) _⟩

set_option maxHeartbeats 2000000 in
theorem spellR_3 (bt bc bf : Nat) (t : Bs) (w : World) (I0 : SpI bt bc bf w 3 0 0 0 (t, true) ((w.alloc (.cells #[.int .i64 3, .int .i64 0, .int .i64 0, .int .i64 0] 24)).alloc (.cells #[.int .i64 0, .int .i64 0, .int .i64 0, .int .i64 0] 24))) :
    Calls Tryd.prog 27 #[Sp 3 0 0 0, .func (.func 21) #[] #[.pointer (some ⟨bt, 0, none⟩), .pointer (some ⟨bc, 0, none⟩)], .func (.func 23) #[] #[.pointer (some ⟨bt, 0, none⟩), .pointer (some ⟨bc, 0, none⟩), .pointer (some ⟨bf, 0, none⟩)]] w
      fun e w' => e = .returned (Sp 3 (rdK 3 t).1.1 (rdK 3 t).1.2.1 (rdK 3 t).1.2.2) ∧ RdAt bt bc (rdK 3 t).2 w' ∧ Kp2 bt bc w w' := by
  have E : Hid (rdK 3 t = (((numV (cutS (t, true) wVP)), (0 : Int), (0 : Int)), (numS (cutS (t, true) wVP)))) := by unfold Hid; simp [rdK]
  have lt1 := I0.l1
  have lt2 := I0.l2
  go_enter Tryd.func27, Tryd.ntmps27
  go_wp2_with fail
  refine (cut_c bt bc (t, true) ⟨#[86, 80]⟩ _ I0.rd).mono ?_
  rintro e w1 ⟨rfl, r1, k1⟩
  have r1' : RdAt bt bc (cutS (t, true) wVP) w1 := r1
  clear r1
  have I1 := I0.word k1 r1'
  clear I0 k1 r1'
  obtain ⟨⟨x0, x1, x2, x3⟩, ⟨y0, y1, y2, y3⟩⟩ := box_cells I1.box
  go_wp2_with fail
  refine (number_c bt bc bf (cutS (t, true) wVP) 0 _ I1.rd I1.er I1.b1 I1.b2 I1.fn).mono ?_
  rintro e w2 ⟨rfl, r2, k2⟩
  have J2 := I1.word k2 r2
  clear I1 k2 r2
  have I2 := J2.put 1 (.int .i64 (numV (cutS (t, true) wVP))) (set1 J2.box _)
  obtain ⟨⟨x0, x1, x2, x3⟩, ⟨y0, y1, y2, y3⟩⟩ := box_cells J2.box
  have Lt : w.heap.size < w2.heap.size := (Array.getElem?_eq_some_iff.1 J2.box).1
  obtain ⟨⟨z0, z1, z2, z3⟩, ⟨u0, u1, u2, u3⟩⟩ := box_cells J2.res
  go_wp2
  have hA := ans_end (a0 := 3) (a1 := (numV (cutS (t, true) wVP))) (a2 := 0) (a3 := 0) I2.res
  obtain ⟨⟨v0, v1, v2, v3⟩, _⟩ := box_cells hA
  refine bodyPost_ret (v := Sp 3 (numV (cutS (t, true) wVP)) 0 0) (by simp [results, Tryd.results27, go_sem, v0, v1, v2, v3]) rfl ?_
  rw [E.out]
  exact ⟨rfl, ((((I2.rd).far (by omega) (by omega)).far (by omega) (by omega)).far (by omega) (by omega)).far (by omega) (by omega), (((I2.kp.setCell _ (Or.inr (Or.inr (Nat.le_succ _))) _).setCell _ (Or.inr (Or.inr (Nat.le_succ _))) _).setCell _ (Or.inr (Or.inr (Nat.le_succ _))) _).setCell _ (Or.inr (Or.inr (Nat.le_succ _))) _⟩

set_option maxHeartbeats 2000000 in
theorem spellR_4 (bt bc bf : Nat) (t : Bs) (w : World) (I0 : SpI bt bc bf w 4 0 0 0 (t, true) ((w.alloc (.cells #[.int .i64 4, .int .i64 0, .int .i64 0, .int .i64 0] 24)).alloc (.cells #[.int .i64 0, .int .i64 0, .int .i64 0, .int .i64 0] 24))) :
    Calls Tryd.prog 27 #[Sp 4 0 0 0, .func (.func 21) #[] #[.pointer (some ⟨bt, 0, none⟩), .pointer (some ⟨bc, 0, none⟩)], .func (.func 23) #[] #[.pointer (some ⟨bt, 0, none⟩), .pointer (some ⟨bc, 0, none⟩), .pointer (some ⟨bf, 0, none⟩)]] w
      fun e w' => e = .returned (Sp 4 (rdK 4 t).1.1 (rdK 4 t).1.2.1 (rdK 4 t).1.2.2) ∧ RdAt bt bc (rdK 4 t).2 w' ∧ Kp2 bt bc w w' := by
  have E : Hid (rdK 4 t = (((numV (cutS (t, true) wIVF)), (0 : Int), (0 : Int)), (cutS (numS (cutS (t, true) wIVF)) wCFlat))) := by unfold Hid; simp [rdK]
  have lt1 := I0.l1
  have lt2 := I0.l2
  go_enter Tryd.func27, Tryd.ntmps27
  go_wp2_with fail
  refine (cut_c bt bc (t, true) ⟨#[73, 86, 70]⟩ _ I0.rd).mono ?_
  rintro e w1 ⟨rfl, r1, k1⟩
  have r1' : RdAt bt bc (cutS (t, true) wIVF) w1 := r1
  clear r1
  have I1 := I0.word k1 r1'
  clear I0 k1 r1'
  obtain ⟨⟨x0, x1, x2, x3⟩, ⟨y0, y1, y2, y3⟩⟩ := box_cells I1.box
  go_wp2_with fail
  refine (number_c bt bc bf (cutS (t, true) wIVF) 0 _ I1.rd I1.er I1.b1 I1.b2 I1.fn).mono ?_
  rintro e w2 ⟨rfl, r2, k2⟩
  have J2 := I1.word k2 r2
  clear I1 k2 r2
  have I2 := J2.put 1 (.int .i64 (numV (cutS (t, true) wIVF))) (set1 J2.box _)
  obtain ⟨⟨x0, x1, x2, x3⟩, ⟨y0, y1, y2, y3⟩⟩ := box_cells J2.box
  have Lt : w.heap.size < w2.heap.size := (Array.getElem?_eq_some_iff.1 J2.box).1
  skip
  go_wp2_with fail
  refine (cut_c bt bc (numS (cutS (t, true) wIVF)) ⟨#[44, 70, 108, 97, 116]⟩ _ I2.rd).mono ?_
  rintro e w3 ⟨rfl, r3, k3⟩
  have r3' : RdAt bt bc (cutS (numS (cutS (t, true) wIVF)) wCFlat) w3 := r3
  clear r3
  have I3 := I2.word k3 r3'
  clear I2 k3 r3'
  obtain ⟨⟨x0, x1, x2, x3⟩, ⟨y0, y1, y2, y3⟩⟩ := box_cells I3.box
  obtain ⟨⟨z0, z1, z2, z3⟩, ⟨u0, u1, u2, u3⟩⟩ := box_cells I3.res
  go_wp2
  have hA := ans_end (a0 := 4) (a1 := (numV (cutS (t, true) wIVF))) (a2 := 0) (a3 := 0) I3.res
  obtain ⟨⟨v0, v1, v2, v3⟩, _⟩ := box_cells hA
  refine bodyPost_ret (v := Sp 4 (numV (cutS (t, true) wIVF)) 0 0) (by simp [results, Tryd.results27, go_sem, v0, v1, v2, v3]) rfl ?_
  rw [E.out]
  exact ⟨rfl, ((((I3.rd).far (by omega) (by omega)).far (by omega) (by omega)).far (by omega) (by omega)).far (by omega) (by omega), (((I3.kp.setCell _ (Or.inr (Or.inr (Nat.le_succ _))) _).setCell _ (Or.inr (Or.inr (Nat.le_succ _))) _).setCell _ (Or.inr (Or.inr (Nat.le_succ _))) _).setCell _ (Or.inr (Or.inr (Nat.le_succ _))) _⟩

set_option maxHeartbeats 2000000 in
theorem spellR_5 (bt bc bf : Nat) (t : Bs) (w : World) (I0 : SpI bt bc bf w 5 0 0 0 (t, true) ((w.alloc (.cells #[.int .i64 5, .int .i64 0, .int .i64 0, .int .i64 0] 24)).alloc (.cells #[.int .i64 0, .int .i64 0, .int .i64 0, .int .i64 0] 24))) :
    Calls Tryd.prog 27 #[Sp 5 0 0 0, .func (.func 21) #[] #[.pointer (some ⟨bt, 0, none⟩), .pointer (some ⟨bc, 0, none⟩)], .func (.func 23) #[] #[.pointer (some ⟨bt, 0, none⟩), .pointer (some ⟨bc, 0, none⟩), .pointer (some ⟨bf, 0, none⟩)]] w
      fun e w' => e = .returned (Sp 5 (rdK 5 t).1.1 (rdK 5 t).1.2.1 (rdK 5 t).1.2.2) ∧ RdAt bt bc (rdK 5 t).2 w' ∧ Kp2 bt bc w w' := by
  have E : Hid (rdK 5 t = (((numV (cutS (t, true) wIVF)), (numV (cutS (numS (cutS (t, true) wIVF)) wPQ)), (numV (cutS (numS (cutS (numS (cutS (t, true) wIVF)) wPQ)) wX))), (numS (cutS (numS (cutS (numS (cutS (t, true) wIVF)) wPQ)) wX)))) := by unfold Hid; simp [rdK]
  have lt1 := I0.l1
  have lt2 := I0.l2
  go_enter Tryd.func27, Tryd.ntmps27
  go_wp2_with fail
  refine (cut_c bt bc (t, true) ⟨#[73, 86, 70]⟩ _ I0.rd).mono ?_
  rintro e w1 ⟨rfl, r1, k1⟩
  have r1' : RdAt bt bc (cutS (t, true) wIVF) w1 := r1
  clear r1
  have I1 := I0.word k1 r1'
  clear I0 k1 r1'
  obtain ⟨⟨x0, x1, x2, x3⟩, ⟨y0, y1, y2, y3⟩⟩ := box_cells I1.box
  go_wp2_with fail
  refine (number_c bt bc bf (cutS (t, true) wIVF) 0 _ I1.rd I1.er I1.b1 I1.b2 I1.fn).mono ?_
  rintro e w2 ⟨rfl, r2, k2⟩
  have J2 := I1.word k2 r2
  clear I1 k2 r2
  have I2 := J2.put 1 (.int .i64 (numV (cutS (t, true) wIVF))) (set1 J2.box _)
  obtain ⟨⟨x0, x1, x2, x3⟩, ⟨y0, y1, y2, y3⟩⟩ := box_cells J2.box
  have Lt : w.heap.size < w2.heap.size := (Array.getElem?_eq_some_iff.1 J2.box).1
  skip
  go_wp2_with fail
  refine (cut_c bt bc (numS (cutS (t, true) wIVF)) ⟨#[44, 80, 81]⟩ _ I2.rd).mono ?_
  rintro e w3 ⟨rfl, r3, k3⟩
  have r3' : RdAt bt bc (cutS (numS (cutS (t, true) wIVF)) wPQ) w3 := r3
  clear r3
  have I3 := I2.word k3 r3'
  clear I2 k3 r3'
  obtain ⟨⟨x0, x1, x2, x3⟩, ⟨y0, y1, y2, y3⟩⟩ := box_cells I3.box
  go_wp2_with fail
  refine (number_c bt bc bf (cutS (numS (cutS (t, true) wIVF)) wPQ) 0 _ I3.rd I3.er I3.b1 I3.b2 I3.fn).mono ?_
  rintro e w4 ⟨rfl, r4, k4⟩
  have J4 := I3.word k4 r4
  clear I3 k4 r4
  have I4 := J4.put 2 (.int .i64 (numV (cutS (numS (cutS (t, true) wIVF)) wPQ))) (set2 J4.box _)
  obtain ⟨⟨x0, x1, x2, x3⟩, ⟨y0, y1, y2, y3⟩⟩ := box_cells J4.box
  have Lt : w.heap.size < w4.heap.size := (Array.getElem?_eq_some_iff.1 J4.box).1
  skip
  go_wp2_with fail
  refine (cut_c bt bc (numS (cutS (numS (cutS (t, true) wIVF)) wPQ)) ⟨#[120]⟩ _ I4.rd).mono ?_
  rintro e w5 ⟨rfl, r5, k5⟩
  have r5' : RdAt bt bc (cutS (numS (cutS (numS (cutS (t, true) wIVF)) wPQ)) wX) w5 := r5
  clear r5
  have I5 := I4.word k5 r5'
  clear I4 k5 r5'
  obtain ⟨⟨x0, x1, x2, x3⟩, ⟨y0, y1, y2, y3⟩⟩ := box_cells I5.box
  go_wp2_with fail
  refine (number_c bt bc bf (cutS (numS (cutS (numS (cutS (t, true) wIVF)) wPQ)) wX) 0 _ I5.rd I5.er I5.b1 I5.b2 I5.fn).mono ?_
  rintro e w6 ⟨rfl, r6, k6⟩
  have J6 := I5.word k6 r6
  clear I5 k6 r6
  have I6 := J6.put 3 (.int .i64 (numV (cutS (numS (cutS (numS (cutS (t, true) wIVF)) wPQ)) wX))) (set3 J6.box _)
  obtain ⟨⟨x0, x1, x2, x3⟩, ⟨y0, y1, y2, y3⟩⟩ := box_cells J6.box
  have Lt : w.heap.size < w6.heap.size := (Array.getElem?_eq_some_iff.1 J6.box).1
  obtain ⟨⟨z0, z1, z2, z3⟩, ⟨u0, u1, u2, u3⟩⟩ := box_cells J6.res
  go_wp2
  have hA := ans_end (a0 := 5) (a1 := (numV (cutS (t, true) wIVF))) (a2 := (numV (cutS (numS (cutS (t, true) wIVF)) wPQ))) (a3 := (numV (cutS (numS (cutS (numS (cutS (t, true) wIVF)) wPQ)) wX))) I6.res
  obtain ⟨⟨v0, v1, v2, v3⟩, _⟩ := box_cells hA
  refine bodyPost_ret (v := Sp 5 (numV (cutS (t, true) wIVF)) (numV (cutS (numS (cutS (t, true) wIVF)) wPQ)) (numV (cutS (numS (cutS (numS (cutS (t, true) wIVF)) wPQ)) wX))) (by simp [results, Tryd.results27, go_sem, v0, v1, v2, v3]) rfl ?_
  rw [E.out]
  exact ⟨rfl, ((((I6.rd).far (by omega) (by omega)).far (by omega) (by omega)).far (by omega) (by omega)).far (by omega) (by omega), (((I6.kp.setCell _ (Or.inr (Or.inr (Nat.le_succ _))) _).setCell _ (Or.inr (Or.inr (Nat.le_succ _))) _).setCell _ (Or.inr (Or.inr (Nat.le_succ _))) _).setCell _ (Or.inr (Or.inr (Nat.le_succ _))) _⟩

set_option maxHeartbeats 2000000 in
theorem spellR_6 (bt bc bf : Nat) (t : Bs) (w : World) (I0 : SpI bt bc bf w 6 0 0 0 (t, true) ((w.alloc (.cells #[.int .i64 6, .int .i64 0, .int .i64 0, .int .i64 0] 24)).alloc (.cells #[.int .i64 0, .int .i64 0, .int .i64 0, .int .i64 0] 24))) :
    Calls Tryd.prog 27 #[Sp 6 0 0 0, .func (.func 21) #[] #[.pointer (some ⟨bt, 0, none⟩), .pointer (some ⟨bc, 0, none⟩)], .func (.func 23) #[] #[.pointer (some ⟨bt, 0, none⟩), .pointer (some ⟨bc, 0, none⟩), .pointer (some ⟨bf, 0, none⟩)]] w
      fun e w' => e = .returned (Sp 6 (rdK 6 t).1.1 (rdK 6 t).1.2.1 (rdK 6 t).1.2.2) ∧ RdAt bt bc (rdK 6 t).2 w' ∧ Kp2 bt bc w w' := by
  have E : Hid (rdK 6 t = (((numV (cutS (t, true) wHNSW)), (0 : Int), (0 : Int)), (numS (cutS (t, true) wHNSW)))) := by unfold Hid; simp [rdK]
  have lt1 := I0.l1
  have lt2 := I0.l2
  go_enter Tryd.func27, Tryd.ntmps27
  go_wp2_with fail
  refine (cut_c bt bc (t, true) ⟨#[72, 78, 83, 87]⟩ _ I0.rd).mono ?_
  rintro e w1 ⟨rfl, r1, k1⟩
  have r1' : RdAt bt bc (cutS (t, true) wHNSW) w1 := r1
  clear r1
  have I1 := I0.word k1 r1'
  clear I0 k1 r1'
  obtain ⟨⟨x0, x1, x2, x3⟩, ⟨y0, y1, y2, y3⟩⟩ := box_cells I1.box
  go_wp2_with fail
  refine (number_c bt bc bf (cutS (t, true) wHNSW) 0 _ I1.rd I1.er I1.b1 I1.b2 I1.fn).mono ?_
  rintro e w2 ⟨rfl, r2, k2⟩
  have J2 := I1.word k2 r2
  clear I1 k2 r2
  have I2 := J2.put 1 (.int .i64 (numV (cutS (t, true) wHNSW))) (set1 J2.box _)
  obtain ⟨⟨x0, x1, x2, x3⟩, ⟨y0, y1, y2, y3⟩⟩ := box_cells J2.box
  have Lt : w.heap.size < w2.heap.size := (Array.getElem?_eq_some_iff.1 J2.box).1
  obtain ⟨⟨z0, z1, z2, z3⟩, ⟨u0, u1, u2, u3⟩⟩ := box_cells J2.res
  go_wp2
  have hA := ans_end (a0 := 6) (a1 := (numV (cutS (t, true) wHNSW))) (a2 := 0) (a3 := 0) I2.res
  obtain ⟨⟨v0, v1, v2, v3⟩, _⟩ := box_cells hA
  refine bodyPost_ret (v := Sp 6 (numV (cutS (t, true) wHNSW)) 0 0) (by simp [results, Tryd.results27, go_sem, v0, v1, v2, v3]) rfl ?_
  rw [E.out]
  exact ⟨rfl, ((((I2.rd).far (by omega) (by omega)).far (by omega) (by omega)).far (by omega) (by omega)).far (by omega) (by omega), (((I2.kp.setCell _ (Or.inr (Or.inr (Nat.le_succ _))) _).setCell _ (Or.inr (Or.inr (Nat.le_succ _))) _).setCell _ (Or.inr (Or.inr (Nat.le_succ _))) _).setCell _ (Or.inr (Or.inr (Nat.le_succ _))) _⟩

end Go.Proofs.YtjblfjghbpcheaaDoor
