/- law17.step: the kinds 2, 7, 9 and any other; all kinds. -/
import Derived.Test.YtkagnoinifffdaaRxDkRy2
import Derived.Test.YtkagnoinifffdaaRx43
import Derived.Test.YtkagnoinifffdaaRxDkRp
namespace Go.Proofs.Ytkagnoinifffdaa
open Go.RowKit Go.Lib Go.Maps

variable {w w' W W1 W2 w1 w2 w3 X : World} {b p g : Nat} {q q1 q2 : Dq} {F G B : Nat → Prop}
theorem RdY.rd {v : Value} {l : By} (h : RdY w v l) : RdB w v l := h.1
set_option maxHeartbeats 4000000 in
set_option maxRecDepth 100000 in
theorem step2_c (h : PrA W b p q F G B) (ok : q.Ok) (hi : q.Inj) (hst : q.st < 9000) {x y l : By} (hx : KWfS x) (hl : l.length ≤ 65536) {a1 a2 : Option Addr} {c1 m2 c2 : Nat} {n : Int} (hR : ∀ X, Kf (fun j => F j ∨ G j) W X → RdY X (.slice a1 l.length c1) l) :
    Calls Try.prog 15 #[.pointer (some ⟨b, 0, none⟩), .pointer (some ⟨p, 0, none⟩), .agg #[.int .i64 2, .string (sb x), .string (sb y), .slice a1 l.length c1, .int .i64 n, .slice a2 m2 c2]] W fun e w' => e = .returned (.bool true) ∧ Hid (PrO W w' b p (q.append x l) F G B) := by
  have T : Hid (∀ X, Gb W X → W.heap.size < X.heap.size → Calls Try.prog 44 #[.slice a1 l.length c1] X fun e w1 => ∃ g, e = .returned (.slice (some ⟨g, 0, none⟩) l.length (l.length + 2)) ∧ (∀ i u, X.cell? ⟨W.heap.size, i, none⟩ = some u → w1.cell? ⟨W.heap.size, i, none⟩ = some u) ∧ W.heap.size < w1.heap.size ∧
      Hid (Calls Try.prog 22 #[.pointer (some ⟨b, 0, none⟩), .string (sb x), .slice (some ⟨g, 0, none⟩) l.length (l.length + 2)] w1 fun e w2 => e = .returned (.int .i64 (apE q x l.length)) ∧ (∀ i u, w1.cell? ⟨W.heap.size, i, none⟩ = some u → w2.cell? ⟨W.heap.size, i, none⟩ = some u) ∧ W.heap.size < w2.heap.size ∧
      Hid (Calls Try.prog 45 #[.slice (some ⟨g, 0, none⟩) l.length (l.length + 2), .slice a1 l.length c1] w2 fun e w3 => e = .returned (.bool true) ∧ (∀ i u, w2.cell? ⟨W.heap.size, i, none⟩ = some u → w3.cell? ⟨W.heap.size, i, none⟩ = some u) ∧ W.heap.size < w3.heap.size ∧
      Hid (Calls Try.prog 46 #[.pointer (some ⟨p, 0, none⟩), .string (sb x), .slice a1 l.length c1] w3 fun e w4 => e = .returned (.int .i64 (apE q x l.length)) ∧ Hid (PrO W w4 b p (q.append x l) F G B))))) := fun X gX hs => by
    have hX := h.gb gX
    have lt := h.1.lt
    have ltX := hX.1.lt
    have nF : ¬ F W.heap.size := fun f => by have := lt _ f; omega
    refine (lendB_c (hR X (Kf.gb gX _)).rd (by omega)).mono ?_
    rintro e w1 ⟨rfl, L1, g1, s1⟩
    refine ⟨_, rfl, fun i u hu => gb_keeps g1 hu, by omega, ?_⟩
    refine (append_c (hX.1.gb g1) ok (by omega) hx L1.ag (by omega)).mono ?_
    rintro e w2 ⟨rfl, o⟩
    have s2 := o.2.size
    refine ⟨rfl, fun i u hu => o.2.cell hu nF, by omega, ?_⟩
    have nFg : ¬ F X.heap.size := fun f => by have := ltX _ f; omega
    have L2 : LentB w2 X.heap.size l := (o.2.block _ s1 nFg).trans L1
    have K2 : Kf (fun j => F j ∨ G j) W w2 := (Kf.gb (gb_trans gX g1) _).then o.2 fun _ _ f => .inl f
    refine (backB_k L2 (hR w2 K2).rd (by omega)).mono ?_
    rintro e w3 ⟨rfl, k3⟩
    have s3 := k3.size
    refine ⟨rfl, fun i u hu => k3.cell hu fun e => (by have e' : W.heap.size = X.heap.size := e; omega), by omega, ?_⟩
    have o3 := o.lent g1 ltX k3 (Nat.le_refl _) s1
    obtain ⟨R3, NX⟩ := hX.both o3
    have K3 : Kf (fun j => F j ∨ G j) W w3 := K2.then k3 fun j hj e => by omega
    refine (rappend_r R3 ok hi (by omega) hl (hR w3 K3).ag).mono ?_
    rintro e w4 ⟨rfl, ro⟩
    exact ⟨rfl, PrO.pre gX (NX w4 ro)⟩
  have G0 : Hid (Gb W (W.alloc (.cells #[.int .i64 2, .string (sb x), .string (sb y), .slice a1 l.length c1, .int .i64 n, .slice a2 m2 c2] 36))) := gb_alloc (Below.refl _ W) _
  have C1 : Hid ((W.alloc (.cells #[.int .i64 2, .string (sb x), .string (sb y), .slice a1 l.length c1, .int .i64 n, .slice a2 m2 c2] 36)).cell? ⟨W.heap.size, 1, none⟩ = some (.string (sb x))) := by unfold Hid; simp [go_sem]
  have C3 : Hid ((W.alloc (.cells #[.int .i64 2, .string (sb x), .string (sb y), .slice a1 l.length c1, .int .i64 n, .slice a2 m2 c2] 36)).cell? ⟨W.heap.size, 3, none⟩ = some (.slice a1 l.length c1)) := by unfold Hid; simp [go_sem]
  have T0 := T.out _ G0.out (cell_lt C1.out)
  clear h ok hi hst hx hR T
  generalize sb x = sx at *
  generalize sb y = sy at *
  generalize apE q x l.length = ce at *
  generalize l.length = m at *
  go_enter Try.func15, Try.ntmps15
  go_wp2_with fail
  refine T0.mono ?_
  rintro e w1 ⟨g, rfl, k1, s1, T2⟩
  have d1 := k1 1 _ C1.out
  have d3 := k1 3 _ C3.out
  clear k1 C1 C3 G0 T0
  go_wp2_with fail
  refine T2.out.mono ?_
  rintro e w2 ⟨rfl, k2, s2, T3⟩
  replace d1 := k2 1 _ d1
  replace d3 := k2 3 _ d3
  clear k2 T2
  go_wp2_with fail
  refine T3.out.mono ?_
  rintro e w3 ⟨rfl, k3, s3, T4⟩
  replace d1 := k3 1 _ d1
  replace d3 := k3 3 _ d3
  clear k3 T3
  go_wp2_with fail
  refine T4.out.mono ?_
  rintro e w4 ⟨rfl, O⟩
  go_wp2
  go_ret
  exact ⟨rfl, O⟩
set_option maxHeartbeats 4000000 in
set_option maxRecDepth 100000 in
theorem step7_c (h : PrA W b p q F G B) (ok : q.Ok) (hi : q.Inj) (hst : q.st < 9000) {x y : By} (hx : KWfS x) {a1 a2 : Option Addr} {m1 c1 m2 c2 : Nat} {n : Int} :
    Calls Try.prog 15 #[.pointer (some ⟨b, 0, none⟩), .pointer (some ⟨p, 0, none⟩), .agg #[.int .i64 7, .string (sb x), .string (sb y), .slice a1 m1 c1, .int .i64 n, .slice a2 m2 c2]] W fun e w' => e = .returned (.bool true) ∧ Hid (PrO W w' b p q F G B) := by
  have T : Hid (∀ X, Gb W X → W.heap.size < X.heap.size → Calls Try.prog 21 #[.pointer (some ⟨b, 0, none⟩), .string (sb x)] X fun e w1 => ∃ a c, e = .returned (.tuple #[.slice a (rdV q x).length c, .int .i64 (fiE q x)]) ∧ (∀ i u, X.cell? ⟨W.heap.size, i, none⟩ = some u → w1.cell? ⟨W.heap.size, i, none⟩ = some u) ∧ W.heap.size < w1.heap.size ∧
      Hid (Calls Try.prog 36 #[.pointer (some ⟨p, 0, none⟩), .string (sb x)] w1 fun e w2 => ∃ a' c', e = .returned (.tuple #[.slice a' (rdV q x).length c', .int .i64 (fiE q x)]) ∧ w2 = w1 ∧
      Hid (Calls Try.prog 23 #[.slice a (rdV q x).length c, .slice a' (rdV q x).length c'] w1 fun e w3 => e = .returned (.bool true) ∧ Hid (PrO W w3 b p q F G B)))) := fun X gX hs => by
    have hX := h.gb gX
    refine (read2_c hX.1 ok hx).mono ?_
    rintro e w1 ⟨a, c, rfl, o2, _, g2⟩
    refine ⟨a, c, rfl, fun i u hu => gb_keeps g2 hu, by have := g2.size; omega, ?_⟩
    have h1 := hX.gb g2
    obtain ⟨nu, r, L, fv, nv, sv, cv, M, hr, _, _⟩ := id h1.2.1
    refine (rread_r M hr ok hi (by omega) x).mono ?_
    rintro e w2 ⟨a', c', rfl, r3, rfl⟩
    refine ⟨a', c', rfl, rfl, ?_⟩
    have hle : (rdV q x).length ≤ 4194304 := by
      unfold rdV
      split
      · exact ok.fb _
      · simp
    refine (bytes_same o2.rd r3 (by omega)).mono ?_
    rintro e w3 ⟨rfl, g3⟩
    exact ⟨rfl, PrO.self h (gb_trans gX (gb_trans g2 g3))⟩
  have G0 : Hid (Gb W (W.alloc (.cells #[.int .i64 7, .string (sb x), .string (sb y), .slice a1 m1 c1, .int .i64 n, .slice a2 m2 c2] 36))) := gb_alloc (Below.refl _ W) _
  have C1 : Hid ((W.alloc (.cells #[.int .i64 7, .string (sb x), .string (sb y), .slice a1 m1 c1, .int .i64 n, .slice a2 m2 c2] 36)).cell? ⟨W.heap.size, 1, none⟩ = some (.string (sb x))) := by unfold Hid; simp [go_sem]
  have T0 := T.out _ G0.out (cell_lt C1.out)
  clear h ok hi hst hx T
  generalize sb x = sx at *
  generalize sb y = sy at *
  generalize fiE q x = ce at *
  generalize (rdV q x).length = m at *
  go_enter Try.func15, Try.ntmps15
  go_wp2_with fail
  refine T0.mono ?_
  rintro e w1 ⟨a, c, rfl, k1, s1, T2⟩
  have d1 := k1 1 _ C1.out
  clear k1 C1 G0 T0
  go_wp2_with fail
  refine T2.out.mono ?_
  rintro e w2 ⟨a', c', rfl, rfl, T3⟩
  go_wp2_with fail
  refine T3.out.mono ?_
  rintro e w3 ⟨rfl, O⟩
  go_wp2
  go_ret
  exact ⟨rfl, O⟩
set_option maxHeartbeats 4000000 in
set_option maxRecDepth 100000 in
theorem step9_c (h : PrA W b p q F G B) (ok : q.Ok) (hi : q.Inj) (hst : q.st < 9000) {x y : By} {cs : List Int} (hcs : ∀ x ∈ cs, InR x) (hl : cs.length ≤ 1000) {a1 a2 : Option Addr} {m1 c1 c2 : Nat} {n : Int} (hR : ∀ X, Kf (fun j => F j ∨ G j) W X → RdI X (.slice a2 cs.length c2) cs) :
    Calls Try.prog 15 #[.pointer (some ⟨b, 0, none⟩), .pointer (some ⟨p, 0, none⟩), .agg #[.int .i64 9, .string (sb x), .string (sb y), .slice a1 m1 c1, .int .i64 n, .slice a2 cs.length c2]] W fun e w' => e = .returned (.bool true) ∧ Hid (PrO W w' b p (q.crash cs) F G B) := by
  have T : Hid (∀ X, Gb W X → W.heap.size < X.heap.size → Calls Try.prog 52 #[.pointer (some ⟨p, 0, none⟩), .slice a2 cs.length c2] X fun e w1 => e = .returned (.tuple #[]) ∧ (∀ i u, X.cell? ⟨W.heap.size, i, none⟩ = some u → w1.cell? ⟨W.heap.size, i, none⟩ = some u) ∧ W.heap.size < w1.heap.size ∧
      Hid (Calls Try.prog 17 #[.pointer (some ⟨b, 0, none⟩), .slice a2 cs.length c2] w1 fun e w2 => e = .returned (.int .i64 0) ∧ Hid (PrO W w2 b p (q.crash cs) F G B))) := fun X gX hs => by
    have hX := h.gb gX
    obtain ⟨hG, _⟩ := h.2.1.bnd
    have nG : ¬ G W.heap.size := fun f => by have := hG _ f; omega
    refine (rcrash_r hX.2.1 ok hi (by omega) hcs hl fun Y k => hR Y ((Kf.gb gX _).then k fun _ _ g => .inr g)).mono ?_
    rintro e w1 ⟨rfl, ro⟩
    have k1 : Kf G X w1 := by obtain ⟨_, _, _, _, _, k⟩ := ro; exact k
    refine ⟨rfl, fun i u hu => k1.cell hu nG, by have := k1.size; omega, ?_⟩
    obtain ⟨D1, NX⟩ := hX.both' ro
    have K1 : Kf (fun j => F j ∨ G j) W w1 := (Kf.gb gX _).then k1 fun _ _ g => .inr g
    refine (crash_c D1 ok (by omega) hcs fun Y k => hR Y (K1.then k fun _ _ f => .inl f)).mono ?_
    rintro e w2 ⟨rfl, o⟩
    exact ⟨rfl, PrO.pre gX (NX w2 o)⟩
  have G0 : Hid (Gb W (W.alloc (.cells #[.int .i64 9, .string (sb x), .string (sb y), .slice a1 m1 c1, .int .i64 n, .slice a2 cs.length c2] 36))) := gb_alloc (Below.refl _ W) _
  have C5 : Hid ((W.alloc (.cells #[.int .i64 9, .string (sb x), .string (sb y), .slice a1 m1 c1, .int .i64 n, .slice a2 cs.length c2] 36)).cell? ⟨W.heap.size, 5, none⟩ = some (.slice a2 cs.length c2)) := by unfold Hid; simp [go_sem]
  have T0 := T.out _ G0.out (cell_lt C5.out)
  clear h ok hi hst hcs hR T
  generalize sb x = sx at *
  generalize sb y = sy at *
  generalize q.crash cs = q' at *
  generalize cs.length = m at *
  go_enter Try.func15, Try.ntmps15
  go_wp2_with fail
  refine T0.mono ?_
  rintro e w1 ⟨rfl, k1, s1, T2⟩
  have d1 := k1 5 _ C5.out
  clear k1 C5 G0 T0
  go_wp2_with fail
  refine T2.out.mono ?_
  rintro e w2 ⟨rfl, O⟩
  go_wp2
  go_ret
  exact ⟨rfl, O⟩
set_option maxHeartbeats 4000000 in
set_option maxRecDepth 100000 in
theorem stepO_c (h : PrA W b p q F G B) {kd : Int} (n1 : kd ≠ 1) (n2 : kd ≠ 2) (n3 : kd ≠ 3) (n4 : kd ≠ 4) (n5 : kd ≠ 5) (n6 : kd ≠ 6) (n7 : kd ≠ 7) (n8 : kd ≠ 8) (n9 : kd ≠ 9) {sx sy : ByteArray} {a1 a2 : Option Addr} {m1 c1 m2 c2 : Nat} {n : Int} :
    Calls Try.prog 15 #[.pointer (some ⟨b, 0, none⟩), .pointer (some ⟨p, 0, none⟩), .agg #[.int .i64 kd, .string sx, .string sy, .slice a1 m1 c1, .int .i64 n, .slice a2 m2 c2]] W fun e w' => e = .returned (.bool true) ∧ Hid (PrO W w' b p q F G B) := by
  have O : Hid (∀ c, PrO W (W.alloc c) b p q F G B) := fun c => PrO.self h (gb_alloc (Below.refl _ W) c)
  have j1 : (kd == 1) = false := by rw [beq_eq_false_iff_ne]; exact n1
  have j2 : (kd == 2) = false := by rw [beq_eq_false_iff_ne]; exact n2
  have j3 : (kd == 3) = false := by rw [beq_eq_false_iff_ne]; exact n3
  have j4 : (kd == 4) = false := by rw [beq_eq_false_iff_ne]; exact n4
  have j5 : (kd == 5) = false := by rw [beq_eq_false_iff_ne]; exact n5
  have j6 : (kd == 6) = false := by rw [beq_eq_false_iff_ne]; exact n6
  have j7 : (kd == 7) = false := by rw [beq_eq_false_iff_ne]; exact n7
  have j8 : (kd == 8) = false := by rw [beq_eq_false_iff_ne]; exact n8
  have j9 : (kd == 9) = false := by rw [beq_eq_false_iff_ne]; exact n9
  clear h n1 n2 n3 n4 n5 n6 n7 n8 n9
  go_enter Try.func15, Try.ntmps15
  go_wp2
  go_ret
  exact ⟨rfl, O.out _⟩
theorem step_c (h : PrA W b p q F G B) (ok : q.Ok) (hi : q.Inj) (hst : q.st < 9000) {x : OpP} (hr : OpR x) (hs : OpS x) (hlen : x.2.2.2.2.2.length ≤ 1000) {a1 a2 : Option Addr} {c1 c2 : Nat}
    (hR : ∀ X, Kf (fun j => F j ∨ G j) W X → RdY X (.slice a1 x.2.2.2.1.length c1) x.2.2.2.1 ∧ RdI X (.slice a2 x.2.2.2.2.2.length c2) x.2.2.2.2.2) :
    Calls Try.prog 15 #[.pointer (some ⟨b, 0, none⟩), .pointer (some ⟨p, 0, none⟩), .agg #[.int .i64 x.1, .string (sb x.2.1), .string (sb x.2.2.1), .slice a1 x.2.2.2.1.length c1, .int .i64 x.2.2.2.2.1, .slice a2 x.2.2.2.2.2.length c2]] W fun e w' => e = .returned (.bool true) ∧ Hid (PrO W w' b p (q.play1 x) F G B) := by
  obtain ⟨kd, x, y, l, n, cs⟩ := x
  obtain ⟨s1, s2, s3⟩ := hs
  obtain ⟨r1, r2, r3, r4⟩ := hr
  have hx : KWfS x := kwf_small (by omega)
  unfold Dq.play1
  show Calls Try.prog 15 #[.pointer (some ⟨b, 0, none⟩), .pointer (some ⟨p, 0, none⟩), .agg #[.int .i64 kd, .string (sb x), .string (sb y), .slice a1 l.length c1, .int .i64 n, .slice a2 cs.length c2]] W fun e w' => e = .returned (.bool true) ∧ Hid (PrO W w' b p (if kd = 1 then q.create x else if kd = 2 then q.append x l else if kd = 3 then q.sync x else if kd = 4 then q.rename x y else if kd = 5 then q.remove x else if kd = 6 then q.syncDir else if kd = 8 then q.stop n else if kd = 9 then q.crash cs else q) F G B)
  split
  · subst_vars; exact step1_c h ok hi hst s1
  split
  · subst_vars; exact step2_c h ok hi hst hx s3 fun X k => (hR X k).1
  split
  · subst_vars; exact step3_c h ok hi hst hx
  split
  · subst_vars; exact step4_c h ok hi hst hx s2
  split
  · subst_vars; exact step5_c h ok hi hst hx
  split
  · subst_vars; exact step6_c h ok hi hst
  split
  · subst_vars; exact step8_c h ok hi hst
  split
  · subst_vars; exact step9_c h ok hi hst r4 hlen fun X k => (hR X k).2
  by_cases e : kd = 7
  · subst e; exact step7_c h ok hi hst hx
  · exact stepO_c h (by assumption) (by assumption) (by assumption) (by assumption) (by assumption) (by assumption) e (by assumption) (by assumption)
end Go.Proofs.Ytkagnoinifffdaa
