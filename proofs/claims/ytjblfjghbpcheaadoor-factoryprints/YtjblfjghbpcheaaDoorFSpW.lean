/- factory.spell, by write's closures; write; Print. -/
import Derived.Test.YtjblfjghbpcheaaDoorFW
namespace Go.Proofs.YtjblfjghbpcheaaDoor
open Go.Shelf Go.RowKit

theorem dd_len {n : Int} (h0 : 0 ≤ n) (hn : n < 100) : (dd n).length ≤ 2 := by
  unfold dd
  rw [dec2 _ (by omega)]
  split <;> simp

theorem ans_fin {b : Nat} {w0 : World} {k n p c : Int} {l : Bs} {w : World} (I : SwI b w0 k n p c l w) (lt : b < w0.heap.size) :
    Ending.returned (Sp k n p c) = Ending.returned (Sp k n p c) ∧ IsB b l ((((w.setCell ⟨w0.heap.size + 1, 0, none⟩ (.int .i64 k)).setCell ⟨w0.heap.size + 1, 1, none⟩ (.int .i64 n)).setCell ⟨w0.heap.size + 1, 2, none⟩ (.int .i64 p)).setCell ⟨w0.heap.size + 1, 3, none⟩ (.int .i64 c))
      ∧ Below b w0 ((((w.setCell ⟨w0.heap.size + 1, 0, none⟩ (.int .i64 k)).setCell ⟨w0.heap.size + 1, 1, none⟩ (.int .i64 n)).setCell ⟨w0.heap.size + 1, 2, none⟩ (.int .i64 p)).setCell ⟨w0.heap.size + 1, 3, none⟩ (.int .i64 c)) := by
  have e1 : (w.setCell ⟨w0.heap.size + 1, 0, none⟩ (.int .i64 k)).heap[w0.heap.size + 1]? = some (SpC k 0 0 0) := by simp [World.setCell, Array.getElem?_modify, I.res]
  have e2 := set1 e1 n
  have e3 := set2 e2 p
  have hd : (24 : Nat) ≠ 5 := by decide
  have hb : b ≠ w0.heap.size + 1 := by omega
  have q : b ≤ w0.heap.size + 1 := by omega
  exact ⟨rfl, isB_set (isB_set (isB_set (isB_set I.isb I.res hd hb) e1 hd hb) e2 hd hb) e3 hd hb,
    (((I.bl.setCell (p := ⟨w0.heap.size + 1, 0, none⟩) q _).setCell (p := ⟨w0.heap.size + 1, 1, none⟩) q _).setCell (p := ⟨w0.heap.size + 1, 2, none⟩) q _).setCell (p := ⟨w0.heap.size + 1, 3, none⟩) q _⟩

set_option maxHeartbeats 2000000 in
theorem spellW_1 (b : Nat) (n p c : Int) (hn : 0 ≤ n ∧ n < 100) (hp : 0 ≤ p ∧ p < 100) (_hc : 0 ≤ c ∧ c < 100) (w : World) (I0 : SwI b w 1 n p c [] ((w.alloc (.cells #[.int .i64 1, .int .i64 n, .int .i64 p, .int .i64 c] 24)).alloc (.cells #[.int .i64 0, .int .i64 0, .int .i64 0, .int .i64 0] 24))) :
    Calls Tryd.prog 27 #[Sp 1 n p c, .func (.func 30) #[] #[.pointer (some ⟨b, 0, none⟩)], .func (.func 32) #[] #[.pointer (some ⟨b, 0, none⟩)]] w
      fun e w' => e = .returned (Sp 1 n p c) ∧ IsB b (prK 1 n p c) w' ∧ Below b w w' := by
  have E : Hid ((([] : Bs) ++ wFlat) = prK 1 n p c) := by unfold Hid; simp [prK]
  have dn := dd_len hn.1 hn.2
  have dp := dd_len hp.1 hp.2
  have ltb := I0.lt
  go_enter Tryd.func27, Tryd.ntmps27
  go_wp2_with fail
  refine (word_c b ([] : Bs) ⟨#[70, 108, 97, 116]⟩ _ I0.isb (by simp [ByteArray.size, List.length_nil]; try omega)).mono ?_
  rintro e w1 ⟨rfl, r1, k1, o1⟩
  have r1' : IsB b (([] : Bs) ++ wFlat) w1 := r1
  clear r1
  have I1 := I0.word r1' k1 o1
  clear I0 k1 r1' o1
  obtain ⟨⟨x0, x1, x2, x3⟩, ⟨y0, y1, y2, y3⟩⟩ := box_cells I1.box
  obtain ⟨⟨z0, z1, z2, z3⟩, ⟨u0, u1, u2, u3⟩⟩ := box_cells I1.res
  go_wp2
  have hA := ans_end (a0 := 1) (a1 := n) (a2 := p) (a3 := c) I1.res
  obtain ⟨⟨v0, v1, v2, v3⟩, _⟩ := box_cells hA
  refine bodyPost_ret (v := Sp 1 n p c) (by simp [results, Tryd.results27, go_sem, v0, v1, v2, v3]) rfl ?_
  rw [← E.out]
  exact ans_fin I1 ltb

set_option maxHeartbeats 2000000 in
theorem spellW_2 (b : Nat) (n p c : Int) (hn : 0 ≤ n ∧ n < 100) (hp : 0 ≤ p ∧ p < 100) (_hc : 0 ≤ c ∧ c < 100) (w : World) (I0 : SwI b w 2 n p c [] ((w.alloc (.cells #[.int .i64 2, .int .i64 n, .int .i64 p, .int .i64 c] 24)).alloc (.cells #[.int .i64 0, .int .i64 0, .int .i64 0, .int .i64 0] 24))) :
    Calls Tryd.prog 27 #[Sp 2 n p c, .func (.func 30) #[] #[.pointer (some ⟨b, 0, none⟩)], .func (.func 32) #[] #[.pointer (some ⟨b, 0, none⟩)]] w
      fun e w' => e = .returned (Sp 2 n p c) ∧ IsB b (prK 2 n p c) w' ∧ Below b w w' := by
  have E : Hid (((([] : Bs) ++ wKD) ++ dd n) = prK 2 n p c) := by unfold Hid; simp [prK]
  have dn := dd_len hn.1 hn.2
  have dp := dd_len hp.1 hp.2
  have ltb := I0.lt
  go_enter Tryd.func27, Tryd.ntmps27
  go_wp2_with fail
  refine (word_c b ([] : Bs) ⟨#[75, 68]⟩ _ I0.isb (by simp [ByteArray.size, List.length_nil]; try omega)).mono ?_
  rintro e w1 ⟨rfl, r1, k1, o1⟩
  have r1' : IsB b (([] : Bs) ++ wKD) w1 := r1
  clear r1
  have I1 := I0.word r1' k1 o1
  clear I0 k1 r1' o1
  obtain ⟨⟨x0, x1, x2, x3⟩, ⟨y0, y1, y2, y3⟩⟩ := box_cells I1.box
  go_wp2_with fail
  refine (num_c b (([] : Bs) ++ wKD) n _ I1.isb hn.1 hn.2 (by simp [wKD]; try omega)).mono ?_
  rintro e w2 ⟨rfl, r2, k2, o2⟩
  have J2 := I1.word r2 k2 o2
  clear I1 k2 r2 o2
  have I2 := J2.put 1 (.int .i64 n) (set1 J2.box _)
  obtain ⟨⟨x0, x1, x2, x3⟩, ⟨y0, y1, y2, y3⟩⟩ := box_cells J2.box
  have Lt : w.heap.size < w2.heap.size := (Array.getElem?_eq_some_iff.1 J2.box).1
  obtain ⟨⟨z0, z1, z2, z3⟩, ⟨u0, u1, u2, u3⟩⟩ := box_cells J2.res
  go_wp2
  have hA := ans_end (a0 := 2) (a1 := n) (a2 := p) (a3 := c) I2.res
  obtain ⟨⟨v0, v1, v2, v3⟩, _⟩ := box_cells hA
  refine bodyPost_ret (v := Sp 2 n p c) (by simp [results, Tryd.results27, go_sem, v0, v1, v2, v3]) rfl ?_
  rw [← E.out]
  exact ans_fin I2 ltb

set_option maxHeartbeats 2000000 in
theorem spellW_3 (b : Nat) (n p c : Int) (hn : 0 ≤ n ∧ n < 100) (hp : 0 ≤ p ∧ p < 100) (_hc : 0 ≤ c ∧ c < 100) (w : World) (I0 : SwI b w 3 n p c [] ((w.alloc (.cells #[.int .i64 3, .int .i64 n, .int .i64 p, .int .i64 c] 24)).alloc (.cells #[.int .i64 0, .int .i64 0, .int .i64 0, .int .i64 0] 24))) :
    Calls Tryd.prog 27 #[Sp 3 n p c, .func (.func 30) #[] #[.pointer (some ⟨b, 0, none⟩)], .func (.func 32) #[] #[.pointer (some ⟨b, 0, none⟩)]] w
      fun e w' => e = .returned (Sp 3 n p c) ∧ IsB b (prK 3 n p c) w' ∧ Below b w w' := by
  have E : Hid (((([] : Bs) ++ wVP) ++ dd n) = prK 3 n p c) := by unfold Hid; simp [prK]
  have dn := dd_len hn.1 hn.2
  have dp := dd_len hp.1 hp.2
  have ltb := I0.lt
  go_enter Tryd.func27, Tryd.ntmps27
  go_wp2_with fail
  refine (word_c b ([] : Bs) ⟨#[86, 80]⟩ _ I0.isb (by simp [ByteArray.size, List.length_nil]; try omega)).mono ?_
  rintro e w1 ⟨rfl, r1, k1, o1⟩
  have r1' : IsB b (([] : Bs) ++ wVP) w1 := r1
  clear r1
  have I1 := I0.word r1' k1 o1
  clear I0 k1 r1' o1
  obtain ⟨⟨x0, x1, x2, x3⟩, ⟨y0, y1, y2, y3⟩⟩ := box_cells I1.box
  go_wp2_with fail
  refine (num_c b (([] : Bs) ++ wVP) n _ I1.isb hn.1 hn.2 (by simp [wVP]; try omega)).mono ?_
  rintro e w2 ⟨rfl, r2, k2, o2⟩
  have J2 := I1.word r2 k2 o2
  clear I1 k2 r2 o2
  have I2 := J2.put 1 (.int .i64 n) (set1 J2.box _)
  obtain ⟨⟨x0, x1, x2, x3⟩, ⟨y0, y1, y2, y3⟩⟩ := box_cells J2.box
  have Lt : w.heap.size < w2.heap.size := (Array.getElem?_eq_some_iff.1 J2.box).1
  obtain ⟨⟨z0, z1, z2, z3⟩, ⟨u0, u1, u2, u3⟩⟩ := box_cells J2.res
  go_wp2
  have hA := ans_end (a0 := 3) (a1 := n) (a2 := p) (a3 := c) I2.res
  obtain ⟨⟨v0, v1, v2, v3⟩, _⟩ := box_cells hA
  refine bodyPost_ret (v := Sp 3 n p c) (by simp [results, Tryd.results27, go_sem, v0, v1, v2, v3]) rfl ?_
  rw [← E.out]
  exact ans_fin I2 ltb

set_option maxHeartbeats 2000000 in
theorem spellW_4 (b : Nat) (n p c : Int) (hn : 0 ≤ n ∧ n < 100) (hp : 0 ≤ p ∧ p < 100) (_hc : 0 ≤ c ∧ c < 100) (w : World) (I0 : SwI b w 4 n p c [] ((w.alloc (.cells #[.int .i64 4, .int .i64 n, .int .i64 p, .int .i64 c] 24)).alloc (.cells #[.int .i64 0, .int .i64 0, .int .i64 0, .int .i64 0] 24))) :
    Calls Tryd.prog 27 #[Sp 4 n p c, .func (.func 30) #[] #[.pointer (some ⟨b, 0, none⟩)], .func (.func 32) #[] #[.pointer (some ⟨b, 0, none⟩)]] w
      fun e w' => e = .returned (Sp 4 n p c) ∧ IsB b (prK 4 n p c) w' ∧ Below b w w' := by
  have E : Hid ((((([] : Bs) ++ wIVF) ++ dd n) ++ wCFlat) = prK 4 n p c) := by unfold Hid; simp [prK]
  have dn := dd_len hn.1 hn.2
  have dp := dd_len hp.1 hp.2
  have ltb := I0.lt
  go_enter Tryd.func27, Tryd.ntmps27
  go_wp2_with fail
  refine (word_c b ([] : Bs) ⟨#[73, 86, 70]⟩ _ I0.isb (by simp [ByteArray.size, List.length_nil]; try omega)).mono ?_
  rintro e w1 ⟨rfl, r1, k1, o1⟩
  have r1' : IsB b (([] : Bs) ++ wIVF) w1 := r1
  clear r1
  have I1 := I0.word r1' k1 o1
  clear I0 k1 r1' o1
  obtain ⟨⟨x0, x1, x2, x3⟩, ⟨y0, y1, y2, y3⟩⟩ := box_cells I1.box
  go_wp2_with fail
  refine (num_c b (([] : Bs) ++ wIVF) n _ I1.isb hn.1 hn.2 (by simp [wIVF]; try omega)).mono ?_
  rintro e w2 ⟨rfl, r2, k2, o2⟩
  have J2 := I1.word r2 k2 o2
  clear I1 k2 r2 o2
  have I2 := J2.put 1 (.int .i64 n) (set1 J2.box _)
  obtain ⟨⟨x0, x1, x2, x3⟩, ⟨y0, y1, y2, y3⟩⟩ := box_cells J2.box
  have Lt : w.heap.size < w2.heap.size := (Array.getElem?_eq_some_iff.1 J2.box).1
  go_wp2_with fail
  refine (word_c b ((([] : Bs) ++ wIVF) ++ dd n) ⟨#[44, 70, 108, 97, 116]⟩ _ I2.isb (by simp [ByteArray.size, wIVF]; try omega)).mono ?_
  rintro e w3 ⟨rfl, r3, k3, o3⟩
  have r3' : IsB b (((([] : Bs) ++ wIVF) ++ dd n) ++ wCFlat) w3 := r3
  clear r3
  have I3 := I2.word r3' k3 o3
  clear I2 k3 r3' o3
  obtain ⟨⟨x0, x1, x2, x3⟩, ⟨y0, y1, y2, y3⟩⟩ := box_cells I3.box
  obtain ⟨⟨z0, z1, z2, z3⟩, ⟨u0, u1, u2, u3⟩⟩ := box_cells I3.res
  go_wp2
  have hA := ans_end (a0 := 4) (a1 := n) (a2 := p) (a3 := c) I3.res
  obtain ⟨⟨v0, v1, v2, v3⟩, _⟩ := box_cells hA
  refine bodyPost_ret (v := Sp 4 n p c) (by simp [results, Tryd.results27, go_sem, v0, v1, v2, v3]) rfl ?_
  rw [← E.out]
  exact ans_fin I3 ltb

set_option maxHeartbeats 2000000 in
theorem spellW_5 (b : Nat) (n p c : Int) (hn : 0 ≤ n ∧ n < 100) (hp : 0 ≤ p ∧ p < 100) (hc : 0 ≤ c ∧ c < 100) (w : World) (I0 : SwI b w 5 n p c [] ((w.alloc (.cells #[.int .i64 5, .int .i64 n, .int .i64 p, .int .i64 c] 24)).alloc (.cells #[.int .i64 0, .int .i64 0, .int .i64 0, .int .i64 0] 24))) :
    Calls Tryd.prog 27 #[Sp 5 n p c, .func (.func 30) #[] #[.pointer (some ⟨b, 0, none⟩)], .func (.func 32) #[] #[.pointer (some ⟨b, 0, none⟩)]] w
      fun e w' => e = .returned (Sp 5 n p c) ∧ IsB b (prK 5 n p c) w' ∧ Below b w w' := by
  have E : Hid (((((((([] : Bs) ++ wIVF) ++ dd n) ++ wPQ) ++ dd p) ++ wX) ++ dd c) = prK 5 n p c) := by unfold Hid; simp [prK]
  have dn := dd_len hn.1 hn.2
  have dp := dd_len hp.1 hp.2
  have ltb := I0.lt
  go_enter Tryd.func27, Tryd.ntmps27
  go_wp2_with fail
  refine (word_c b ([] : Bs) ⟨#[73, 86, 70]⟩ _ I0.isb (by simp [ByteArray.size, List.length_nil]; try omega)).mono ?_
  rintro e w1 ⟨rfl, r1, k1, o1⟩
  have r1' : IsB b (([] : Bs) ++ wIVF) w1 := r1
  clear r1
  have I1 := I0.word r1' k1 o1
  clear I0 k1 r1' o1
  obtain ⟨⟨x0, x1, x2, x3⟩, ⟨y0, y1, y2, y3⟩⟩ := box_cells I1.box
  go_wp2_with fail
  refine (num_c b (([] : Bs) ++ wIVF) n _ I1.isb hn.1 hn.2 (by simp [wIVF]; try omega)).mono ?_
  rintro e w2 ⟨rfl, r2, k2, o2⟩
  have J2 := I1.word r2 k2 o2
  clear I1 k2 r2 o2
  have I2 := J2.put 1 (.int .i64 n) (set1 J2.box _)
  obtain ⟨⟨x0, x1, x2, x3⟩, ⟨y0, y1, y2, y3⟩⟩ := box_cells J2.box
  have Lt : w.heap.size < w2.heap.size := (Array.getElem?_eq_some_iff.1 J2.box).1
  go_wp2_with fail
  refine (word_c b ((([] : Bs) ++ wIVF) ++ dd n) ⟨#[44, 80, 81]⟩ _ I2.isb (by simp [ByteArray.size, wIVF]; try omega)).mono ?_
  rintro e w3 ⟨rfl, r3, k3, o3⟩
  have r3' : IsB b (((([] : Bs) ++ wIVF) ++ dd n) ++ wPQ) w3 := r3
  clear r3
  have I3 := I2.word r3' k3 o3
  clear I2 k3 r3' o3
  obtain ⟨⟨x0, x1, x2, x3⟩, ⟨y0, y1, y2, y3⟩⟩ := box_cells I3.box
  go_wp2_with fail
  refine (num_c b (((([] : Bs) ++ wIVF) ++ dd n) ++ wPQ) p _ I3.isb hp.1 hp.2 (by simp [wIVF, wPQ]; try omega)).mono ?_
  rintro e w4 ⟨rfl, r4, k4, o4⟩
  have J4 := I3.word r4 k4 o4
  clear I3 k4 r4 o4
  have I4 := J4.put 2 (.int .i64 p) (set2 J4.box _)
  obtain ⟨⟨x0, x1, x2, x3⟩, ⟨y0, y1, y2, y3⟩⟩ := box_cells J4.box
  have Lt : w.heap.size < w4.heap.size := (Array.getElem?_eq_some_iff.1 J4.box).1
  go_wp2_with fail
  refine (word_c b ((((([] : Bs) ++ wIVF) ++ dd n) ++ wPQ) ++ dd p) ⟨#[120]⟩ _ I4.isb (by simp [ByteArray.size, wIVF, wPQ]; try omega)).mono ?_
  rintro e w5 ⟨rfl, r5, k5, o5⟩
  have r5' : IsB b (((((([] : Bs) ++ wIVF) ++ dd n) ++ wPQ) ++ dd p) ++ wX) w5 := r5
  clear r5
  have I5 := I4.word r5' k5 o5
  clear I4 k5 r5' o5
  obtain ⟨⟨x0, x1, x2, x3⟩, ⟨y0, y1, y2, y3⟩⟩ := box_cells I5.box
  go_wp2_with fail
  refine (num_c b (((((([] : Bs) ++ wIVF) ++ dd n) ++ wPQ) ++ dd p) ++ wX) c _ I5.isb hc.1 hc.2 (by simp [wIVF, wPQ, wX]; try omega)).mono ?_
  rintro e w6 ⟨rfl, r6, k6, o6⟩
  have J6 := I5.word r6 k6 o6
  clear I5 k6 r6 o6
  have I6 := J6.put 3 (.int .i64 c) (set3 J6.box _)
  obtain ⟨⟨x0, x1, x2, x3⟩, ⟨y0, y1, y2, y3⟩⟩ := box_cells J6.box
  have Lt : w.heap.size < w6.heap.size := (Array.getElem?_eq_some_iff.1 J6.box).1
  obtain ⟨⟨z0, z1, z2, z3⟩, ⟨u0, u1, u2, u3⟩⟩ := box_cells J6.res
  go_wp2
  have hA := ans_end (a0 := 5) (a1 := n) (a2 := p) (a3 := c) I6.res
  obtain ⟨⟨v0, v1, v2, v3⟩, _⟩ := box_cells hA
  refine bodyPost_ret (v := Sp 5 n p c) (by simp [results, Tryd.results27, go_sem, v0, v1, v2, v3]) rfl ?_
  rw [← E.out]
  exact ans_fin I6 ltb

set_option maxHeartbeats 2000000 in
theorem spellW_6 (b : Nat) (n p c : Int) (hn : 0 ≤ n ∧ n < 100) (hp : 0 ≤ p ∧ p < 100) (_hc : 0 ≤ c ∧ c < 100) (w : World) (I0 : SwI b w 6 n p c [] ((w.alloc (.cells #[.int .i64 6, .int .i64 n, .int .i64 p, .int .i64 c] 24)).alloc (.cells #[.int .i64 0, .int .i64 0, .int .i64 0, .int .i64 0] 24))) :
    Calls Tryd.prog 27 #[Sp 6 n p c, .func (.func 30) #[] #[.pointer (some ⟨b, 0, none⟩)], .func (.func 32) #[] #[.pointer (some ⟨b, 0, none⟩)]] w
      fun e w' => e = .returned (Sp 6 n p c) ∧ IsB b (prK 6 n p c) w' ∧ Below b w w' := by
  have E : Hid (((([] : Bs) ++ wHNSW) ++ dd n) = prK 6 n p c) := by unfold Hid; simp [prK]
  have dn := dd_len hn.1 hn.2
  have dp := dd_len hp.1 hp.2
  have ltb := I0.lt
  go_enter Tryd.func27, Tryd.ntmps27
  go_wp2_with fail
  refine (word_c b ([] : Bs) ⟨#[72, 78, 83, 87]⟩ _ I0.isb (by simp [ByteArray.size, List.length_nil]; try omega)).mono ?_
  rintro e w1 ⟨rfl, r1, k1, o1⟩
  have r1' : IsB b (([] : Bs) ++ wHNSW) w1 := r1
  clear r1
  have I1 := I0.word r1' k1 o1
  clear I0 k1 r1' o1
  obtain ⟨⟨x0, x1, x2, x3⟩, ⟨y0, y1, y2, y3⟩⟩ := box_cells I1.box
  go_wp2_with fail
  refine (num_c b (([] : Bs) ++ wHNSW) n _ I1.isb hn.1 hn.2 (by simp [wHNSW]; try omega)).mono ?_
  rintro e w2 ⟨rfl, r2, k2, o2⟩
  have J2 := I1.word r2 k2 o2
  clear I1 k2 r2 o2
  have I2 := J2.put 1 (.int .i64 n) (set1 J2.box _)
  obtain ⟨⟨x0, x1, x2, x3⟩, ⟨y0, y1, y2, y3⟩⟩ := box_cells J2.box
  have Lt : w.heap.size < w2.heap.size := (Array.getElem?_eq_some_iff.1 J2.box).1
  obtain ⟨⟨z0, z1, z2, z3⟩, ⟨u0, u1, u2, u3⟩⟩ := box_cells J2.res
  go_wp2
  have hA := ans_end (a0 := 6) (a1 := n) (a2 := p) (a3 := c) I2.res
  obtain ⟨⟨v0, v1, v2, v3⟩, _⟩ := box_cells hA
  refine bodyPost_ret (v := Sp 6 n p c) (by simp [results, Tryd.results27, go_sem, v0, v1, v2, v3]) rfl ?_
  rw [← E.out]
  exact ans_fin I2 ltb

theorem spellW_c (k : Int) (hk : 1 ≤ k ∧ k ≤ 6) (b : Nat) (n p c : Int) (hn : 0 ≤ n ∧ n < 100) (hp : 0 ≤ p ∧ p < 100) (hc : 0 ≤ c ∧ c < 100) (w : World) (I0 : SwI b w k n p c [] ((w.alloc (.cells #[.int .i64 k, .int .i64 n, .int .i64 p, .int .i64 c] 24)).alloc (.cells #[.int .i64 0, .int .i64 0, .int .i64 0, .int .i64 0] 24))) :
    Calls Tryd.prog 27 #[Sp k n p c, .func (.func 30) #[] #[.pointer (some ⟨b, 0, none⟩)], .func (.func 32) #[] #[.pointer (some ⟨b, 0, none⟩)]] w
      fun e w' => e = .returned (Sp k n p c) ∧ IsB b (prK k n p c) w' ∧ Below b w w' := by
  have hc' : k = 1 ∨ k = 2 ∨ k = 3 ∨ k = 4 ∨ k = 5 ∨ k = 6 := by omega
  rcases hc' with rfl | rfl | rfl | rfl | rfl | rfl
  · exact spellW_1 b n p c hn hp hc w I0
  · exact spellW_2 b n p c hn hp hc w I0
  · exact spellW_3 b n p c hn hp hc w I0
  · exact spellW_4 b n p c hn hp hc w I0
  · exact spellW_5 b n p c hn hp hc w I0
  · exact spellW_6 b n p c hn hp hc w I0
theorem chk_bounds {k n p c : Int} (h : chkV k n p c = 0) : (1 ≤ k ∧ k ≤ 6) ∧ (0 ≤ n ∧ n < 100) ∧ (0 ≤ p ∧ p < 100) ∧ (0 ≤ c ∧ c < 100) := by
  unfold chkV at h
  split at h
  · cases h
  · rename_i h1
    have hk : 1 ≤ k ∧ k ≤ 6 := by omega
    refine ⟨hk, ?_⟩
    split at h
    · split at h
      · omega
      · cases h
    · split at h
      · split at h
        · omega
        · cases h
      · split at h
        · split at h
          · omega
          · cases h
        · split at h
          · omega
          · cases h
abbrev wrW (k n p c : Int) (w : World) : World := (w.alloc (.cells #[.int .i64 k, .int .i64 n, .int .i64 p, .int .i64 c] 24)).alloc (.cells #[.pointer none, .slice none 0 0] 60)
theorem isB_fresh (w : World) : IsB w.heap.size [] (w.alloc (.cells #[.pointer none, .slice none 0 0] 60)) := Lib.IsBuilderF.of (Lib.fresh_isBuilder 60 5 w)
theorem swI_start (k n p c : Int) (w : World) : SwI (w.heap.size + 1) (wrW k n p c w) k n p c [] (((wrW k n p c w).alloc (.cells #[.int .i64 k, .int .i64 n, .int .i64 p, .int .i64 c] 24)).alloc (.cells #[.int .i64 0, .int .i64 0, .int .i64 0, .int .i64 0] 24)) := by
  have h1 : IsB (w.heap.size + 1) [] (wrW k n p c w) := by
    have := isB_fresh (w.alloc (.cells #[.int .i64 k, .int .i64 n, .int .i64 p, .int .i64 c] 24))
    simpa using this
  have hs : (wrW k n p c w).heap.size = w.heap.size + 1 + 1 := by simp
  generalize wrW k n p c w = W at *
  exact ⟨by omega, isB_alloc (isB_alloc h1 _) _, ((Below.refl _ W).alloc (by omega) _).alloc (by simp; omega) _, al_old (al_new _ _) _, al_new1 _ _ _⟩
set_option maxHeartbeats 1000000 in
theorem write_c (k n p c : Int) (h : chkV k n p c = 0) (w : World) : Calls Tryd.prog 16 #[Sp k n p c] w fun e w' => e = .returned (Str (prK k n p c)) ∧ Below w.heap.size w w' := by
  obtain ⟨hk, hn, hp, hc⟩ := chk_bounds h
  have S := spellW_c k hk (w.heap.size + 1) n p c hn hp hc (wrW k n p c w) (swI_start k n p c w)
  have g0 : Below w.heap.size w (wrW k n p c w) := ((Below.refl _ w).alloc (Nat.le_refl _) _).alloc (by simp) _
  generalize prK k n p c = l at *
  clear h hk hn hp hc
  go_enter Tryd.func16, Tryd.ntmps16
  go_wp2_with fail
  refine S.mono ?_
  rintro e w1 ⟨rfl, h1, b1⟩
  go_wp2_with fail
  refine (bString_c (w.heap.size + 1) l w1 h1 (Nat.le_of_lt (isB_lt h1))).mono ?_
  rintro e w2 ⟨rfl, b2⟩
  go_wp2
  go_ret
  exact ⟨rfl, g0.trans ((b1.trans b2).mono (Nat.le_succ _))⟩
set_option maxHeartbeats 1000000 in
/-- P12.3. -/
theorem print_c (k n p c : Int) (w : World) : Calls Tryd.prog 9 #[Sp k n p c] w fun e w' => e = .returned (.tuple #[Str (prV k n p c).1, .int .i64 (prV k n p c).2]) ∧ Below w.heap.size w w' := by
  have C := check_c k n p c
  have g1 : Below w.heap.size w ((w.alloc (.cells #[.int .i64 k, .int .i64 n, .int .i64 p, .int .i64 c] 24)).alloc (.cells #[.int .i64 k, .int .i64 n, .int .i64 p, .int .i64 c] 24)) := ((Below.refl _ w).alloc (Nat.le_refl _) _).alloc (by simp) _
  by_cases h : chkV k n p c = 0
  · have E : Hid (prV k n p c = (prK k n p c, 0)) := by unfold Hid prV; rw [if_pos h]
    have W := write_c k n p c h
    rw [h] at C
    generalize prK k n p c = l at *
    clear h
    go_enter Tryd.func9, Tryd.ntmps9
    go_wp2_with fail
    refine (C _).mono ?_
    rintro e w1 ⟨rfl, rfl⟩
    go_wp2_with fail
    refine (W _).mono ?_
    rintro e w2 ⟨rfl, b2⟩
    go_wp2
    go_ret2
    rw [E.out]
    exact ⟨rfl, g1.trans (b2.mono g1.size)⟩
  · have E : Hid (prV k n p c = ([], chkV k n p c)) := by unfold Hid prV; rw [if_neg h]
    have hb : (chkV k n p c == 0) = false := by simpa using h
    generalize chkV k n p c = z at *
    clear h
    go_enter Tryd.func9, Tryd.ntmps9
    go_wp2_with fail
    refine (C _).mono ?_
    rintro e w1 ⟨rfl, rfl⟩
    go_wp2
    go_ret2
    rw [E.out]
    exact ⟨rfl, g1⟩

end Go.Proofs.YtjblfjghbpcheaaDoor
