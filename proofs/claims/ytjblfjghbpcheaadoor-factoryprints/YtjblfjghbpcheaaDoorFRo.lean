/- The reference: one, ivf. -/
import Derived.Test.YtjblfjghbpcheaaDoorFRf
namespace Go.Proofs.YtjblfjghbpcheaaDoor
open Go.Shelf Go.RowKit

theorem frontO_lib (w t : Bs) : frontO w t = if Lib.hasPrefix t w = true then some (Lib.trimPrefix t w) else none := by
  unfold frontO Lib.trimPrefix Lib.hasPrefix
  split <;> rfl
/-- What front tells: a text, and whether it begins so. -/
theorem front_o (t p : Bs) (ht : t.length ≤ 65536) (hp : p.length ≤ 65536) : ∃ (r : Bs) (q : Bool), r.length ≤ 65536 ∧ (frontO p t = if q = true then some r else none) ∧ ∀ w, Calls Tryd.prog 28 #[Str t, Str p] w fun e w' => e = .returned (.tuple #[Str r, .bool q]) ∧ w' = w := by
  refine ⟨Lib.trimPrefix t p, Lib.hasPrefix t p, ?_, frontO_lib p t, fun w => front_c ⟨t.toArray⟩ ⟨p.toArray⟩ (by rw [size_mk]; exact ht) (by rw [size_mk]; exact hp) w⟩
  unfold Lib.trimPrefix
  split
  · simp; omega
  · exact ht
/-- What digits tells: a number, a text, and whether there is one. -/
theorem digits_o (t : Bs) (ht : t.length ≤ 65536) : ∃ (n : Nat) (r : Bs) (q : Bool), r.length ≤ 65536 ∧ (digO t = if q = true then some (n, r) else none) ∧ ∀ w, Calls Tryd.prog 29 #[Str t] w fun e w' => e = .returned (.tuple #[.int .i64 (n : Int), Str r, .bool q]) ∧ Below w.heap.size w w' := by
  have D := fun w => digits_c ⟨t.toArray⟩ (by rw [size_mk]; exact ht) w
  rw [show (⟨t.toArray⟩ : ByteArray).data.toList = t from rfl] at D
  cases h : digO t with
  | none =>
    refine ⟨0, t, false, ht, by simp, fun w => ?_⟩
    have := D w
    unfold digR at this
    rw [h] at this
    exact this
  | some nr =>
    obtain ⟨n, r⟩ := nr
    refine ⟨n, r, true, ?_, by simp, fun w => ?_⟩
    · unfold digO at h
      split at h
      · simp only [Option.some.injEq, Prod.mk.injEq] at h
        rw [← h.2]; simp; omega
      · cases h
    · have := D w
      unfold digR at this
      rw [h] at this
      exact this

abbrev zW (w : World) : World := w.alloc (.cells #[.int .i64 0, .int .i64 0, .int .i64 0, .int .i64 0] 24)
theorem below4 {w W : World} (g : Below w.heap.size w W) {a0 a1 a2 a3 : Value} : Below w.heap.size w ((((W.setCell ⟨w.heap.size, 0, none⟩ a0).setCell ⟨w.heap.size, 1, none⟩ a1).setCell ⟨w.heap.size, 2, none⟩ a2).setCell ⟨w.heap.size, 3, none⟩ a3) :=
  (((g.setCell (p := ⟨w.heap.size, 0, none⟩) (Nat.le_refl _) _).setCell (p := ⟨w.heap.size, 1, none⟩) (Nat.le_refl _) _).setCell (p := ⟨w.heap.size, 2, none⟩) (Nat.le_refl _) _).setCell (p := ⟨w.heap.size, 3, none⟩) (Nat.le_refl _) _

set_option maxHeartbeats 1000000 in
theorem one_c (t p : Bs) (k : Int) (ht : t.length ≤ 65536) (hp : p.length ≤ 65536) (w : World) :
    Calls Tryd.prog 14 #[Str t, Str p, .int .i64 k] w fun e w' => (∃ (n : Int) (b : Bool), e = .returned (.tuple #[Sp k n 0 0, .bool b]) ∧ (oneO p t = if b = true then some (n, 0, 0) else none)) ∧ Below w.heap.size w w' := by
  obtain ⟨r, q, hr, hF, F⟩ := front_o t p ht hp
  obtain ⟨n, e, q2, he, hD, D⟩ := digits_o r hr
  have O : Hid (oneO p t = if (q && q2 && e.isEmpty) = true then some ((n : Int), 0, 0) else none) := by
    unfold Hid oneO
    rw [hF]
    cases q with
    | false => simp
    | true =>
      simp only [if_true]
      rw [hD]
      cases q2 with
      | false => simp
      | true =>
        cases e with
        | nil => simp
        | cons a b => simp
  have A0 : (zW w).heap[w.heap.size]? = some (SpC 0 0 0 0) := al_new _ _
  have G0 : Below w.heap.size w (zW w) := (Below.refl _ w).alloc (Nat.le_refl _) _
  clear hF hD he hr
  cases q <;> cases q2 <;>
  · go_enter Tryd.func14, Tryd.ntmps14
    go_wp2_with fail
    refine (F _).mono ?_
    rintro x w1 ⟨rfl, rfl⟩
    go_wp2_with fail
    refine (D _).mono ?_
    rintro x w2 ⟨rfl, b2⟩
    have A2 : w2.heap[w.heap.size]? = some (SpC 0 0 0 0) := (b2.block _ (by simp)).trans A0
    have G2 : Below w.heap.size w w2 := G0.trans (b2.mono G0.size)
    obtain ⟨⟨z0, z1, z2, z3⟩, ⟨u0, u1, u2, u3⟩⟩ := box_cells A2
    go_wp2
    have hA := ans_end (a0 := k) (a1 := (n : Int)) (a2 := 0) (a3 := 0) A2
    obtain ⟨⟨x0, x1, x2, x3⟩, _⟩ := box_cells hA
    refine bodyPost_ret (v := .tuple #[Sp k (n : Int) 0 0, .bool _]) (by simp [results, Tryd.results14, go_sem, x0, x1, x2, x3]; rfl) rfl ⟨⟨(n : Int), _, rfl, ?_⟩, below4 G2⟩
    first | exact O.out | (rw [O.out]; simp)

end Go.Proofs.YtjblfjghbpcheaaDoor
