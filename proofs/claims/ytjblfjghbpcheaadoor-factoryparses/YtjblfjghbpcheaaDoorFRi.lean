/- The reference: ivf. -/
import Derived.Test.YtjblfjghbpcheaaDoorFRo
namespace Go.Proofs.YtjblfjghbpcheaaDoor
open Go.Shelf Go.RowKit

/-- What ivf tells. -/
def IvR (t : Bs) (e : Ending) : Prop := ∃ (k n p c : Int) (b : Bool), e = .returned (.tuple #[Sp k n p c, .bool b]) ∧
  ((b = true ∧ k = 4 ∧ ivfO t = some (n, p, c)) ∨ (b = true ∧ k = 5 ∧ ivfO t = none ∧ pqO t = some (n, p, c)) ∨ (b = false ∧ ivfO t = none ∧ pqO t = none))

set_option maxHeartbeats 2000000 in
theorem ivf_c (t : Bs) (ht : t.length ≤ 65536) (w : World) :
    Calls Tryd.prog 15 #[Str t] w fun e w' => IvR t e ∧ Below w.heap.size w w' := by
  obtain ⟨r, q, hr, hF, F⟩ := front_o t wIVF ht (by decide)
  obtain ⟨n, e, q2, he, hD, D⟩ := digits_o r hr
  have A0 : (zW w).heap[w.heap.size]? = some (SpC 0 0 0 0) := al_new _ _
  have G0 : Below w.heap.size w (zW w) := (Below.refl _ w).alloc (Nat.le_refl _) _
  by_cases hq : (q && q2) = true
  · simp only [Bool.and_eq_true] at hq
    obtain ⟨rfl, rfl⟩ := hq
    simp only [if_true] at hF hD
    cases hE : (e == [44, 70, 108, 97, 116]) with
    | true =>
      have O : Hid (ivfO t = some ((n : Int), 0, 0)) := by
        unfold Hid ivfO
        rw [hF]; simp only []
        rw [hD]; simp only []
        rw [if_pos (by simpa [wCFlat] using hE)]
      clear hF hD he hr
      go_enter Tryd.func15, Tryd.ntmps15
      go_wp2_with fail
      refine (F _).mono ?_
      rintro x w1 ⟨rfl, rfl⟩
      go_wp2_with fail
      refine (D _).mono ?_
      rintro x w2 ⟨rfl, b2⟩
      have A2 : w2.heap[w.heap.size]? = some (SpC 0 0 0 0) := (b2.block _ (by simp)).trans A0
      have G2 : Below w.heap.size w w2 := G0.trans (b2.mono G0.size)
      obtain ⟨⟨z0, z1, z2, z3⟩, ⟨u0, u1, u2, u3⟩⟩ := box_cells A2
      go_wp2
      have hA := ans_end (a0 := 4) (a1 := (n : Int)) (a2 := 0) (a3 := 0) A2
      obtain ⟨⟨x0, x1, x2, x3⟩, _⟩ := box_cells hA
      refine bodyPost_ret (v := .tuple #[Sp 4 (n : Int) 0 0, .bool true]) (by simp [results, Tryd.results15, go_sem, x0, x1, x2, x3]) rfl ⟨⟨4, (n : Int), 0, 0, true, rfl, Or.inl ⟨rfl, rfl, O.out⟩⟩, below4 G2⟩
    | false =>
      obtain ⟨a, q3, ha, hF2, F2⟩ := front_o e wPQ he (by decide)
      obtain ⟨p, l, q4, hl, hD2, D2⟩ := digits_o a ha
      obtain ⟨b, q5, hb, hF3, F3⟩ := front_o l wX hl (by decide)
      obtain ⟨c, z, q6, hz, hD3, D3⟩ := digits_o b hb
      have O1 : Hid (ivfO t = none) := by
        unfold Hid ivfO
        rw [hF]; simp only []
        rw [hD]; simp only []
        rw [if_neg (by have := hE; simpa [wCFlat] using this)]
      have O2 : Hid (pqO t = if (q3 && q4 && q5 && q6 && z.isEmpty) = true then some ((n : Int), (p : Int), (c : Int)) else none) := by
        unfold Hid pqO
        rw [hF]; simp only []
        rw [hD]; simp only []
        rw [hF2]
        cases q3 with
        | false => simp
        | true =>
          simp only [if_true]
          rw [hD2]
          cases q4 with
          | false => simp
          | true =>
            simp only [if_true]
            rw [hF3]
            cases q5 with
            | false => simp
            | true =>
              simp only [if_true]
              rw [hD3]
              cases q6 with
              | false => simp
              | true => cases z <;> simp
      have fin : ∀ bb : Bool, bb = (q3 && q4 && q5 && q6 && z.isEmpty) → IvR t (.returned (.tuple #[Sp 5 (n : Int) (p : Int) (c : Int), .bool bb])) := by
        intro bb hbb
        refine ⟨5, _, _, _, bb, rfl, ?_⟩
        have := O2.out
        rw [← hbb] at this
        cases bb with
        | true => exact Or.inr (Or.inl ⟨rfl, rfl, O1.out, by simpa using this⟩)
        | false => exact Or.inr (Or.inr ⟨rfl, O1.out, by simpa using this⟩)
      clear hF hD he hr ha hl hb hz hF2 hF3 hD2 hD3 O1 O2
      have fin' : Hid (∀ bb : Bool, bb = (q3 && q4 && q5 && q6 && z.isEmpty) → IvR t (.returned (.tuple #[Sp 5 (n : Int) (p : Int) (c : Int), .bool bb]))) := fin
      clear fin
      go_enter Tryd.func15, Tryd.ntmps15
      go_wp2_with fail
      refine (F _).mono ?_
      rintro x w1 ⟨rfl, rfl⟩
      go_wp2_with fail
      refine (D _).mono ?_
      rintro x w2 ⟨rfl, b2⟩
      have A2 : w2.heap[w.heap.size]? = some (SpC 0 0 0 0) := (b2.block _ (by simp)).trans A0
      have G2 : Below w.heap.size w w2 := G0.trans (b2.mono G0.size)
      go_wp2_with fail
      refine (F2 _).mono ?_
      rintro x w3 ⟨rfl, rfl⟩
      go_wp2_with fail
      refine (D2 _).mono ?_
      rintro x w3 ⟨rfl, b3⟩
      have L2 := (Array.getElem?_eq_some_iff.1 A2).1
      have A3 : w3.heap[w.heap.size]? = some (SpC 0 0 0 0) := (b3.block _ L2).trans A2
      have G3 : Below w.heap.size w w3 := G2.trans (b3.mono G2.size)
      go_wp2_with fail
      refine (F3 _).mono ?_
      rintro x w4 ⟨rfl, rfl⟩
      go_wp2_with fail
      refine (D3 _).mono ?_
      rintro x w4 ⟨rfl, b4⟩
      have L3 := (Array.getElem?_eq_some_iff.1 A3).1
      have A4 : w4.heap[w.heap.size]? = some (SpC 0 0 0 0) := (b4.block _ L3).trans A3
      have G4 : Below w.heap.size w w4 := G3.trans (b4.mono G3.size)
      clear A0 G0 A2 G2 A3 G3 b2 b3 b4 L2 L3 F D F2 D2 F3 D3
      obtain ⟨⟨z0, z1, z2, z3⟩, ⟨u0, u1, u2, u3⟩⟩ := box_cells A4
      have hA := ans_end (a0 := 5) (a1 := (n : Int)) (a2 := (p : Int)) (a3 := (c : Int)) A4
      obtain ⟨⟨x0, x1, x2, x3⟩, _⟩ := box_cells hA
      clear hA
      cases q3 <;> cases q4 <;> cases q5 <;> cases q6 <;>
      · go_wp2
        refine bodyPost_ret (v := .tuple #[Sp 5 (n : Int) (p : Int) (c : Int), .bool _]) (by simp [results, Tryd.results15, go_sem, x0, x1, x2, x3]; rfl) rfl ⟨fin'.out _ ?_, below4 G4⟩
        first | rfl | simp
  · have O1 : Hid (ivfO t = none) := by
      unfold Hid ivfO
      rw [hF]
      cases q with
      | false => simp
      | true =>
        cases q2 with
        | false => simp only [if_true]; rw [hD]; simp
        | true => simp at hq
    have O2 : Hid (pqO t = none) := by
      unfold Hid pqO
      rw [hF]
      cases q with
      | false => simp
      | true =>
        cases q2 with
        | false => simp only [if_true]; rw [hD]; simp
        | true => simp at hq
    clear hF hD he hr
    cases q with
    | true =>
      cases q2 with
      | true => simp at hq
      | false =>
        clear hq
        go_enter Tryd.func15, Tryd.ntmps15
        go_wp2_with fail
        refine (F _).mono ?_
        rintro x w1 ⟨rfl, rfl⟩
        go_wp2_with fail
        refine (D _).mono ?_
        rintro x w2 ⟨rfl, b2⟩
        have A2 : w2.heap[w.heap.size]? = some (SpC 0 0 0 0) := (b2.block _ (by simp)).trans A0
        have G2 : Below w.heap.size w w2 := G0.trans (b2.mono G0.size)
        obtain ⟨⟨z0, z1, z2, z3⟩, ⟨u0, u1, u2, u3⟩⟩ := box_cells A2
        go_wp2
        have hA := ans_end (a0 := 0) (a1 := 0) (a2 := 0) (a3 := 0) A2
        obtain ⟨⟨x0, x1, x2, x3⟩, _⟩ := box_cells hA
        exact bodyPost_ret (v := .tuple #[Sp 0 0 0 0, .bool false]) (by simp [results, Tryd.results15, go_sem, x0, x1, x2, x3]) rfl ⟨⟨0, 0, 0, 0, false, rfl, Or.inr (Or.inr ⟨rfl, O1.out, O2.out⟩)⟩, below4 G2⟩
    | false =>
      clear hq
      go_enter Tryd.func15, Tryd.ntmps15
      go_wp2_with fail
      refine (F _).mono ?_
      rintro x w1 ⟨rfl, rfl⟩
      go_wp2_with fail
      refine (D _).mono ?_
      rintro x w2 ⟨rfl, b2⟩
      have A2 : w2.heap[w.heap.size]? = some (SpC 0 0 0 0) := (b2.block _ (by simp)).trans A0
      have G2 : Below w.heap.size w w2 := G0.trans (b2.mono G0.size)
      obtain ⟨⟨z0, z1, z2, z3⟩, ⟨u0, u1, u2, u3⟩⟩ := box_cells A2
      go_wp2
      have hA := ans_end (a0 := 0) (a1 := 0) (a2 := 0) (a3 := 0) A2
      obtain ⟨⟨x0, x1, x2, x3⟩, _⟩ := box_cells hA
      exact bodyPost_ret (v := .tuple #[Sp 0 0 0 0, .bool false]) (by simp [results, Tryd.results15, go_sem, x0, x1, x2, x3]) rfl ⟨⟨0, 0, 0, 0, false, rfl, Or.inr (Or.inr ⟨rfl, O1.out, O2.out⟩)⟩, below4 G2⟩

end Go.Proofs.YtjblfjghbpcheaaDoor
