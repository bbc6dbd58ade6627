/- law17.step: the kinds 3, 4, 5, 6 and 8. -/
import Derived.Test.YtkagnoinifffdaaRxDkRy
import Derived.Deep.RegionHeld3
namespace Go.Proofs.Ytkagnoinifffdaa
open Go.RowKit Go.Lib Go.Maps

variable {w w' W W1 W2 X : World} {b p : Nat} {q q1 q2 : Dq} {F G B : Nat → Prop}
/-- A call on the one, a call on the other, what was made ahead of them kept behind both. -/
theorem PrA.two' {f g : FuncId} {aa bb : Array Value} {v : Value} (h : PrA W b p q F G B) (c1 : ∀ X, DkAt X b q F → Gb W X → Calls Try.prog f aa X fun e w' => e = .returned v ∧ DkOut X w' b q1 F) (c2 : ∀ X, RfD X p q G B → Kf F W X → Calls Try.prog g bb X fun e w' => e = .returned v ∧ RfO X w' p q1 G B) (gX : Gb W X) (hs : W.heap.size < X.heap.size) :
    Calls Try.prog f aa X fun e w1 => e = .returned v ∧ (∀ i u, X.cell? ⟨W.heap.size, i, none⟩ = some u → w1.cell? ⟨W.heap.size, i, none⟩ = some u) ∧ W.heap.size < w1.heap.size ∧ Hid (Calls Try.prog g bb w1 fun e w2 => e = .returned v ∧ (∀ i u, w1.cell? ⟨W.heap.size, i, none⟩ = some u → w2.cell? ⟨W.heap.size, i, none⟩ = some u) ∧ Hid (PrO W w2 b p q1 F G B)) := by
  have hX := h.gb gX
  have lt := h.1.lt
  obtain ⟨hG, _⟩ := h.2.1.bnd
  refine (c1 X hX.1 gX).mono ?_
  rintro e w1 ⟨rfl, o⟩
  obtain ⟨R1, NX⟩ := hX.both o
  have nF : ¬ F W.heap.size := fun f => by have := lt _ f; omega
  have nG : ¬ G W.heap.size := fun f => by have := hG _ f; omega
  refine ⟨rfl, fun i u hu => o.2.cell hu nF, by have := o.2.size; omega, ?_⟩
  refine (c2 w1 R1 ((Kf.gb gX F).then o.2 fun _ _ f => f)).mono ?_
  rintro e w2 ⟨rfl, ro⟩
  have k2 : Kf G w1 w2 := by obtain ⟨_, _, _, _, _, k⟩ := ro; exact k
  exact ⟨rfl, fun i u hu => k2.cell hu nG, PrO.pre gX (NX w2 ro)⟩
theorem rstop_o (h : RfD w p q G B) (n : Int) : Calls Try.prog 51 #[.pointer (some ⟨p, 0, none⟩), .int .i64 n] w fun e w' => e = .returned (.int .i64 (stE q n)) ∧ RfO w w' p (q.stop n) G B := by
  obtain ⟨nu, r, L, fv, nv, sv, cv, h, hr, hG, hB⟩ := h
  refine (rstop_r h n).mono ?_
  rintro e w1 ⟨rfl, M, k⟩
  have s := k.size
  refine ⟨rfl, G, B, ⟨nu, r, L, fv, nv, sv, cv, M, ?_, fun j g => Nat.lt_of_lt_of_le (hG j g) s, fun j g => Nat.lt_of_lt_of_le (hB j g) s⟩, fun _ _ g => g, fun _ _ g => g, k.mono fun j e => e ▸ h.inG.1⟩
  unfold Dq.stop
  split
  · exact ⟨hr.nm, hr.sf, hr.cl, hr.ch, hr.nd, hr.lt, hr.le⟩
  · exact hr
set_option maxHeartbeats 4000000 in
set_option maxRecDepth 100000 in
theorem step3_c (h : PrA W b p q F G B) (ok : q.Ok) (hi : q.Inj) (hst : q.st < 9000) {x y : By} (hx : KWfS x) {a1 a2 : Option Addr} {m1 c1 m2 c2 : Nat} {n : Int} :
    Calls Try.prog 15 #[.pointer (some ⟨b, 0, none⟩), .pointer (some ⟨p, 0, none⟩), .agg #[.int .i64 3, .string (sb x), .string (sb y), .slice a1 m1 c1, .int .i64 n, .slice a2 m2 c2]] W fun e w' => e = .returned (.bool true) ∧ Hid (PrO W w' b p (q.sync x) F G B) := by
  have T : Hid (∀ X, Gb W X → W.heap.size < X.heap.size → Calls Try.prog 20 #[.pointer (some ⟨b, 0, none⟩), .string (sb x)] X fun e w1 => e = .returned (.int .i64 (fiE q x)) ∧ (∀ i u, X.cell? ⟨W.heap.size, i, none⟩ = some u → w1.cell? ⟨W.heap.size, i, none⟩ = some u) ∧ W.heap.size < w1.heap.size ∧ Hid (Calls Try.prog 47 #[.pointer (some ⟨p, 0, none⟩), .string (sb x)] w1 fun e w2 => e = .returned (.int .i64 (fiE q x)) ∧ (∀ i u, w1.cell? ⟨W.heap.size, i, none⟩ = some u → w2.cell? ⟨W.heap.size, i, none⟩ = some u) ∧ Hid (PrO W w2 b p (q.sync x) F G B))) := fun X gX hs =>
    h.two' (fun X k _ => sync_c k ok (by omega) hx) (fun X k _ => rsync_r k ok hi (by omega) x) gX hs
  have G0 : Hid (Gb W (W.alloc (.cells #[.int .i64 3, .string (sb x), .string (sb y), .slice a1 m1 c1, .int .i64 n, .slice a2 m2 c2] 36)).drew) := (gb_alloc (Below.refl _ W) _).drew
  have C1 : Hid ((W.alloc (.cells #[.int .i64 3, .string (sb x), .string (sb y), .slice a1 m1 c1, .int .i64 n, .slice a2 m2 c2] 36)).drew.cell? ⟨W.heap.size, 1, none⟩ = some (.string (sb x))) := by unfold Hid; simp [go_sem]
  have T0 := T.out _ G0.out (cell_lt C1.out)
  clear h ok hi hst T hx
  generalize sb x = sx at *
  generalize sb y = sy at *
  generalize fiE q x = ce at *
  go_enter Try.func15, Try.ntmps15
  go_wp2
  go_region_held3 (fun w' => w'.cell? ⟨W.heap.size, 1, none⟩ = some (.string sx)) (first | exact C1.out | exact k0_ | exact m0_) (first
    | (go_at_call 20; refine T0.mono ?_; rintro e w1 ⟨rfl, k1, k2, T2⟩; have k0_ := k1 1 _ C1.out; clear k1)
    | (go_at_call 47; refine T2.out.mono ?_; rintro e w2 ⟨rfl, m1, O⟩; have m0_ := m1 1 _ k0_; clear m1))
  all_goals
    go_wp2
    go_ret
    exact ⟨rfl, O⟩
set_option maxHeartbeats 4000000 in
set_option maxRecDepth 100000 in
theorem step4_c (h : PrA W b p q F G B) (ok : q.Ok) (hi : q.Inj) (hst : q.st < 9000) {x y : By} (hx : KWfS x) (hy : y.length ≤ 65536) {a1 a2 : Option Addr} {m1 c1 m2 c2 : Nat} {n : Int} :
    Calls Try.prog 15 #[.pointer (some ⟨b, 0, none⟩), .pointer (some ⟨p, 0, none⟩), .agg #[.int .i64 4, .string (sb x), .string (sb y), .slice a1 m1 c1, .int .i64 n, .slice a2 m2 c2]] W fun e w' => e = .returned (.bool true) ∧ Hid (PrO W w' b p (q.rename x y) F G B) := by
  have T : Hid (∀ X, Gb W X → W.heap.size < X.heap.size → Calls Try.prog 30 #[.pointer (some ⟨b, 0, none⟩), .string (sb x), .string (sb y)] X fun e w1 => e = .returned (.int .i64 (reE q x y)) ∧ (∀ i u, X.cell? ⟨W.heap.size, i, none⟩ = some u → w1.cell? ⟨W.heap.size, i, none⟩ = some u) ∧ W.heap.size < w1.heap.size ∧ Hid (Calls Try.prog 48 #[.pointer (some ⟨p, 0, none⟩), .string (sb x), .string (sb y)] w1 fun e w2 => e = .returned (.int .i64 (reE q x y)) ∧ (∀ i u, w1.cell? ⟨W.heap.size, i, none⟩ = some u → w2.cell? ⟨W.heap.size, i, none⟩ = some u) ∧ Hid (PrO W w2 b p (q.rename x y) F G B))) := fun X gX hs =>
    h.two' (fun X k _ => rename_c k ok (by omega) hx hy) (fun X k _ => rrename_r k ok hi (by omega) x hy) gX hs
  have G0 : Hid (Gb W (W.alloc (.cells #[.int .i64 4, .string (sb x), .string (sb y), .slice a1 m1 c1, .int .i64 n, .slice a2 m2 c2] 36)).drew) := (gb_alloc (Below.refl _ W) _).drew
  have C1 : Hid ((W.alloc (.cells #[.int .i64 4, .string (sb x), .string (sb y), .slice a1 m1 c1, .int .i64 n, .slice a2 m2 c2] 36)).drew.cell? ⟨W.heap.size, 1, none⟩ = some (.string (sb x))) := by unfold Hid; simp [go_sem]
  have C2 : Hid ((W.alloc (.cells #[.int .i64 4, .string (sb x), .string (sb y), .slice a1 m1 c1, .int .i64 n, .slice a2 m2 c2] 36)).drew.cell? ⟨W.heap.size, 2, none⟩ = some (.string (sb y))) := by unfold Hid; simp [go_sem]
  have T0 := T.out _ G0.out (cell_lt C1.out)
  clear h ok hi hst T hx hy
  generalize sb x = sx at *
  generalize sb y = sy at *
  generalize reE q x y = ce at *
  go_enter Try.func15, Try.ntmps15
  go_wp2
  go_region_held3 (fun w' => w'.cell? ⟨W.heap.size, 1, none⟩ = some (.string sx) ∧ w'.cell? ⟨W.heap.size, 2, none⟩ = some (.string sy)) (first | exact ⟨C1.out, C2.out⟩ | exact ⟨k0_, k1_⟩ | exact ⟨m0_, m1_⟩) (first
    | (go_at_call 30; refine T0.mono ?_; rintro e w1 ⟨rfl, k1, k2, T2⟩; have k0_ := k1 1 _ C1.out; have k1_ := k1 2 _ C2.out; clear k1)
    | (go_at_call 48; refine T2.out.mono ?_; rintro e w2 ⟨rfl, m1, O⟩; have m0_ := m1 1 _ k0_; have m1_ := m1 2 _ k1_; clear m1))
  all_goals
    go_wp2
    go_ret
    exact ⟨rfl, O⟩
set_option maxHeartbeats 4000000 in
set_option maxRecDepth 100000 in
theorem step5_c (h : PrA W b p q F G B) (ok : q.Ok) (hi : q.Inj) (hst : q.st < 9000) {x y : By} (hx : KWfS x) {a1 a2 : Option Addr} {m1 c1 m2 c2 : Nat} {n : Int} :
    Calls Try.prog 15 #[.pointer (some ⟨b, 0, none⟩), .pointer (some ⟨p, 0, none⟩), .agg #[.int .i64 5, .string (sb x), .string (sb y), .slice a1 m1 c1, .int .i64 n, .slice a2 m2 c2]] W fun e w' => e = .returned (.bool true) ∧ Hid (PrO W w' b p (q.remove x) F G B) := by
  have T : Hid (∀ X, Gb W X → W.heap.size < X.heap.size → Calls Try.prog 31 #[.pointer (some ⟨b, 0, none⟩), .string (sb x)] X fun e w1 => e = .returned (.int .i64 (fiE q x)) ∧ (∀ i u, X.cell? ⟨W.heap.size, i, none⟩ = some u → w1.cell? ⟨W.heap.size, i, none⟩ = some u) ∧ W.heap.size < w1.heap.size ∧ Hid (Calls Try.prog 49 #[.pointer (some ⟨p, 0, none⟩), .string (sb x)] w1 fun e w2 => e = .returned (.int .i64 (fiE q x)) ∧ (∀ i u, w1.cell? ⟨W.heap.size, i, none⟩ = some u → w2.cell? ⟨W.heap.size, i, none⟩ = some u) ∧ Hid (PrO W w2 b p (q.remove x) F G B))) := fun X gX hs =>
    h.two' (fun X k _ => remove_c k ok (by omega) hx) (fun X k _ => rremove_r k ok hi (by omega) x) gX hs
  have G0 : Hid (Gb W (W.alloc (.cells #[.int .i64 5, .string (sb x), .string (sb y), .slice a1 m1 c1, .int .i64 n, .slice a2 m2 c2] 36)).drew) := (gb_alloc (Below.refl _ W) _).drew
  have C1 : Hid ((W.alloc (.cells #[.int .i64 5, .string (sb x), .string (sb y), .slice a1 m1 c1, .int .i64 n, .slice a2 m2 c2] 36)).drew.cell? ⟨W.heap.size, 1, none⟩ = some (.string (sb x))) := by unfold Hid; simp [go_sem]
  have T0 := T.out _ G0.out (cell_lt C1.out)
  clear h ok hi hst T hx
  generalize sb x = sx at *
  generalize sb y = sy at *
  generalize fiE q x = ce at *
  go_enter Try.func15, Try.ntmps15
  go_wp2
  go_region_held3 (fun w' => w'.cell? ⟨W.heap.size, 1, none⟩ = some (.string sx)) (first | exact C1.out | exact k0_ | exact m0_) (first
    | (go_at_call 31; refine T0.mono ?_; rintro e w1 ⟨rfl, k1, k2, T2⟩; have k0_ := k1 1 _ C1.out; clear k1)
    | (go_at_call 49; refine T2.out.mono ?_; rintro e w2 ⟨rfl, m1, O⟩; have m0_ := m1 1 _ k0_; clear m1))
  all_goals
    go_wp2
    go_ret
    exact ⟨rfl, O⟩
set_option maxHeartbeats 4000000 in
set_option maxRecDepth 100000 in
theorem step6_c (h : PrA W b p q F G B) (ok : q.Ok) (hi : q.Inj) (hst : q.st < 9000) {x y : By}  {a1 a2 : Option Addr} {m1 c1 m2 c2 : Nat} {n : Int} :
    Calls Try.prog 15 #[.pointer (some ⟨b, 0, none⟩), .pointer (some ⟨p, 0, none⟩), .agg #[.int .i64 6, .string (sb x), .string (sb y), .slice a1 m1 c1, .int .i64 n, .slice a2 m2 c2]] W fun e w' => e = .returned (.bool true) ∧ Hid (PrO W w' b p q.syncDir F G B) := by
  have T : Hid (∀ X, Gb W X → W.heap.size < X.heap.size → Calls Try.prog 19 #[.pointer (some ⟨b, 0, none⟩)] X fun e w1 => e = .returned (.int .i64 (rfE q)) ∧ (∀ i u, X.cell? ⟨W.heap.size, i, none⟩ = some u → w1.cell? ⟨W.heap.size, i, none⟩ = some u) ∧ W.heap.size < w1.heap.size ∧ Hid (Calls Try.prog 50 #[.pointer (some ⟨p, 0, none⟩)] w1 fun e w2 => e = .returned (.int .i64 (rfE q)) ∧ Hid (PrO W w2 b p q.syncDir F G B))) := fun X gX hs =>
    h.two (fun X k _ => syncDir_c k ok (by omega)) (fun X k _ => rsyncDir_r k ok hi (by omega)) gX hs
  have G0 : Hid (Gb W (W.alloc (.cells #[.int .i64 6, .string (sb x), .string (sb y), .slice a1 m1 c1, .int .i64 n, .slice a2 m2 c2] 36))) := (gb_alloc (Below.refl _ W) _)
  have T0 := T.out _ G0.out (by simp [go_sem])
  clear h ok hi hst T
  generalize sb x = sx at *
  generalize sb y = sy at *
  generalize rfE q = ce at *
  go_enter Try.func15, Try.ntmps15
  go_wp2_with fail
  refine T0.mono ?_
  rintro e w1 ⟨rfl, k1, k2, T2⟩
  clear k1
  go_wp2_with fail
  refine T2.out.mono ?_
  rintro e w2 ⟨rfl, O⟩
  go_wp2
  go_ret
  exact ⟨rfl, O⟩
set_option maxHeartbeats 4000000 in
set_option maxRecDepth 100000 in
theorem step8_c (h : PrA W b p q F G B) (ok : q.Ok) (_hi : q.Inj) (_hst : q.st < 9000) {x y : By}  {a1 a2 : Option Addr} {m1 c1 m2 c2 : Nat} {n : Int} :
    Calls Try.prog 15 #[.pointer (some ⟨b, 0, none⟩), .pointer (some ⟨p, 0, none⟩), .agg #[.int .i64 8, .string (sb x), .string (sb y), .slice a1 m1 c1, .int .i64 n, .slice a2 m2 c2]] W fun e w' => e = .returned (.bool true) ∧ Hid (PrO W w' b p (q.stop n) F G B) := by
  have T : Hid (∀ X, Gb W X → W.heap.size < X.heap.size → Calls Try.prog 27 #[.pointer (some ⟨b, 0, none⟩), .int .i64 n] X fun e w1 => e = .returned (.int .i64 (stE q n)) ∧ (∀ i u, X.cell? ⟨W.heap.size, i, none⟩ = some u → w1.cell? ⟨W.heap.size, i, none⟩ = some u) ∧ W.heap.size < w1.heap.size ∧ Hid (Calls Try.prog 51 #[.pointer (some ⟨p, 0, none⟩), .int .i64 n] w1 fun e w2 => e = .returned (.int .i64 (stE q n)) ∧ (∀ i u, w1.cell? ⟨W.heap.size, i, none⟩ = some u → w2.cell? ⟨W.heap.size, i, none⟩ = some u) ∧ Hid (PrO W w2 b p (q.stop n) F G B))) := fun X gX hs =>
    h.two' (fun X k _ => stop_c k ok n) (fun X k _ => rstop_o k n) gX hs
  have G0 : Hid (Gb W (W.alloc (.cells #[.int .i64 8, .string (sb x), .string (sb y), .slice a1 m1 c1, .int .i64 n, .slice a2 m2 c2] 36)).drew) := (gb_alloc (Below.refl _ W) _).drew
  have C4 : Hid ((W.alloc (.cells #[.int .i64 8, .string (sb x), .string (sb y), .slice a1 m1 c1, .int .i64 n, .slice a2 m2 c2] 36)).drew.cell? ⟨W.heap.size, 4, none⟩ = some (.int .i64 n)) := by unfold Hid; simp [go_sem]
  have T0 := T.out _ G0.out (cell_lt C4.out)
  clear h ok T
  generalize sb x = sx at *
  generalize sb y = sy at *
  generalize stE q n = ce at *
  go_enter Try.func15, Try.ntmps15
  go_wp2
  go_region_held3 (fun w' => w'.cell? ⟨W.heap.size, 4, none⟩ = some (.int .i64 n)) (first | exact C4.out | exact k0_ | exact m0_) (first
    | (go_at_call 27; refine T0.mono ?_; rintro e w1 ⟨rfl, k1, k2, T2⟩; have k0_ := k1 4 _ C4.out; clear k1)
    | (go_at_call 51; refine T2.out.mono ?_; rintro e w2 ⟨rfl, m1, O⟩; have m0_ := m1 4 _ k0_; clear m1))
  all_goals
    go_wp2
    go_ret
    exact ⟨rfl, O⟩
end Go.Proofs.Ytkagnoinifffdaa
