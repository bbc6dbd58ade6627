/- law17.step: kinds of one call on each. -/
import Derived.Test.YtkagnoinifffdaaRx43
import Derived.BigRegion
namespace Go.Proofs.Ytkagnoinifffdaa
open Go.RowKit Go.Lib Go.Maps

variable {w w' W W1 W2 X : World} {b p : Nat} {q q1 q2 : Dq} {F G B : Nat → Prop}
/-- A call on the one, a call on the other. -/
theorem PrA.two {f g : FuncId} {aa bb : Array Value} {v : Value} (h : PrA W b p q F G B) (c1 : ∀ X, DkAt X b q F → Gb W X → Calls Try.prog f aa X fun e w' => e = .returned v ∧ DkOut X w' b q1 F) (c2 : ∀ X, RfD X p q G B → Kf F W X → Calls Try.prog g bb X fun e w' => e = .returned v ∧ RfO X w' p q1 G B) (gX : Gb W X) (hs : W.heap.size < X.heap.size) :
    Calls Try.prog f aa X fun e w1 => e = .returned v ∧ (∀ i u, X.cell? ⟨W.heap.size, i, none⟩ = some u → w1.cell? ⟨W.heap.size, i, none⟩ = some u) ∧ W.heap.size < w1.heap.size ∧ Hid (Calls Try.prog g bb w1 fun e w2 => e = .returned v ∧ Hid (PrO W w2 b p q1 F G B)) := by
  have hX := h.gb gX
  have lt := h.1.lt
  refine (c1 X hX.1 gX).mono ?_
  rintro e w1 ⟨rfl, o⟩
  obtain ⟨R1, NX⟩ := hX.both o
  have nF : ¬ F W.heap.size := fun f => by have := lt _ f; omega
  refine ⟨rfl, fun i u hu => o.2.cell hu nF, by have := o.2.size; omega, ?_⟩
  refine (c2 w1 R1 ((Kf.gb gX F).then o.2 fun _ _ f => f)).mono ?_
  rintro e w2 ⟨rfl, ro⟩
  exact ⟨rfl, PrO.pre gX (NX w2 ro)⟩
set_option maxHeartbeats 4000000 in
set_option maxRecDepth 100000 in
theorem step1_c (h : PrA W b p q F G B) (ok : q.Ok) (hi : q.Inj) (hst : q.st < 9000) {x y : By} (hx : x.length ≤ 65536) {a1 a2 : Option Addr} {m1 c1 m2 c2 : Nat} {n : Int} :
    Calls Try.prog 15 #[.pointer (some ⟨b, 0, none⟩), .pointer (some ⟨p, 0, none⟩), .agg #[.int .i64 1, .string (sb x), .string (sb y), .slice a1 m1 c1, .int .i64 n, .slice a2 m2 c2]] W fun e w' => e = .returned (.bool true) ∧ Hid (PrO W w' b p (q.create x) F G B) := by
  have T : Hid (∀ X, Gb W X → W.heap.size < X.heap.size → Calls Try.prog 18 #[.pointer (some ⟨b, 0, none⟩), .string (sb x)] X fun e w1 => e = .returned (.int .i64 (crE q x)) ∧ (∀ i u, X.cell? ⟨W.heap.size, i, none⟩ = some u → w1.cell? ⟨W.heap.size, i, none⟩ = some u) ∧ W.heap.size < w1.heap.size ∧ Hid (Calls Try.prog 43 #[.pointer (some ⟨p, 0, none⟩), .string (sb x)] w1 fun e w2 => e = .returned (.int .i64 (crE q x)) ∧ Hid (PrO W w2 b p (q.create x) F G B))) := fun X gX hs =>
    h.two (fun X k _ => create_c k ok (by omega) hx) (fun X k _ => rcreate_r k ok hi (by omega) hx) gX hs
  have G0 : Hid (Gb W (W.alloc (.cells #[.int .i64 1, .string (sb x), .string (sb y), .slice a1 m1 c1, .int .i64 n, .slice a2 m2 c2] 36)).drew) := (gb_alloc (Below.refl _ W) _).drew
  have C1 : Hid ((W.alloc (.cells #[.int .i64 1, .string (sb x), .string (sb y), .slice a1 m1 c1, .int .i64 n, .slice a2 m2 c2] 36)).drew.cell? ⟨W.heap.size, 1, none⟩ = some (.string (sb x))) := by unfold Hid; simp [go_sem]
  have T0 := T.out _ G0.out (cell_lt C1.out)
  clear h ok hi hst hx T
  generalize sb x = sx at *
  generalize sb y = sy at *
  generalize crE q x = ce at *
  go_enter Try.func15, Try.ntmps15
  go_wp2
  go_region_with (first
    | (go_at_call 18; refine T0.mono ?_; rintro e w1 ⟨rfl, k1, k2, T2⟩; have k3 := k1 1 _ C1.out; clear k1)
    | (go_at_call 43; refine T2.out.mono ?_; rintro e w2 ⟨rfl, O⟩))
  --@a
  all_goals
    go_wp2
    go_ret
    exact ⟨rfl, O⟩
end Go.Proofs.Ytkagnoinifffdaa
