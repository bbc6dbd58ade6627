/- large, with the choices; what the law's loop keeps. -/
import Derived.Test.YtkagnoinifffdaaRxDkRy4
import Derived.Test.YtkagnoinifffdaaRxDkN1
import Derived.Test.YtkagnoinifffdaaRxDkP2
namespace Go.Proofs.Ytkagnoinifffdaa
open Go.RowKit Go.Lib Go.Maps

variable {w w0 w1 w2 W W' W2 X : World} {b p b' p' b1 p1 : Nat} {q q1 q' : Dq} {F G B F2 G2 B2 H : Nat → Prop}
def LgG (ops : List OpP) (k : Nat) : Prop := ops.length ≤ 1000 ∧ ∀ i, i < k → OpS ops[i]! ∧ ops[i]!.2.2.2.2.2.length ≤ 1000
def LgP (ops : List OpP) (n : Nat) (w : World) (e : Ending) (w' : World) : Prop := ∃ bl, e = .returned (.bool bl) ∧ (bl = false → LgG ops n) ∧ Gb w w'
theorem lgp_t {ops : List OpP} {n : Nat} {e : Ending} (g : Gb w W) (h : e = .returned (.bool true)) : LgP ops n w e W := ⟨true, h, fun h => (by cases h), g⟩
set_option maxHeartbeats 4000000 in
set_option maxRecDepth 100000 in
theorem large2_c {v : Value} {ops : List OpP} (h : RdS w v ops) : Calls Try.prog 12 #[v] w fun e w' => LgP ops ops.length w e w' := by
  have HH : Hid (RdS w v ops) := h
  obtain ⟨a, cap, rfl, ha⟩ := h.at_
  have A : Hid (∀ i, i < ops.length → ∃ g o ya yb ca cb, a = some ⟨g, o, none⟩ ∧
    (w.cell? ⟨g, o + i * 6, none⟩ = some (.int .i64 ops[i]!.1) ∧ w.cell? ⟨g, o + i * 6 + 1, none⟩ = some (.string (sb ops[i]!.2.1)) ∧ w.cell? ⟨g, o + i * 6 + 2, none⟩ = some (.string (sb ops[i]!.2.2.1)) ∧ w.cell? ⟨g, o + i * 6 + 3, none⟩ = some (.slice ya ops[i]!.2.2.2.1.length yb) ∧ w.cell? ⟨g, o + i * 6 + 4, none⟩ = some (.int .i64 ops[i]!.2.2.2.2.1) ∧ w.cell? ⟨g, o + i * 6 + 5, none⟩ = some (.slice ca ops[i]!.2.2.2.2.2.length cb))) := ha
  obtain ⟨n, hN⟩ : ∃ n, n = ops.length := ⟨_, rfl⟩
  have N : Hid (n = ops.length) := hN
  rw [← hN]
  clear ha hN h
  by_cases hbig : (1000 : Int) < (n : Int)
  · clear A N HH
    go_enter Try.func12, Try.ntmps12
    go_wp2
    go_ret
    exact lgp_t (Below.refl _ _) rfl
  go_enter Try.func12, Try.ntmps12
  go_wp2
  go_loopw [3] (fun iv wr => ∃ k : Nat, iv = .int .i64 (k : Int) ∧ k ≤ n ∧ Hid (Gb w wr ∧ LgG ops k)) (fun iv _ => n - (intOf iv).toNat)
  case atStart => exact ⟨0, rfl, Nat.zero_le _, Below.refl _ _, by have := N.out; omega, fun i hi => absurd hi (Nat.not_lt_zero _)⟩
  case round =>
    obtain ⟨k, rfl, hk, X⟩ := hrel
    by_cases hkn : k < n
    · have hki : (k : Int) < (n : Int) := by omega
      have hko : k < ops.length := by have := N.out; omega
      obtain ⟨g, o, ya, yb, ca, cb, rfl, c0, c1, c2, c3, c4, c5⟩ := A.out k hko
      have c0 := gb_keeps X.out.1 c0
      have c1 := gb_keeps X.out.1 c1
      have c2 := gb_keeps X.out.1 c2
      have c3 := gb_keeps X.out.1 c3
      have c4 := gb_keeps X.out.1 c4
      have c5 := gb_keeps X.out.1 c5
      have Y : Hid (OpS ops[k]! ∧ ops[k]!.2.2.2.2.2.length ≤ 1000 → LgG ops (k + 1)) := fun h => ⟨X.out.2.1, fun i hi => by
        by_cases e : i = k
        · rw [e]; exact h
        · exact X.out.2.2 i (by omega)⟩
      have z1 := sb_size ops[k]!.2.1
      have z2 := sb_size ops[k]!.2.2.1
      have G1 : Hid (∀ c, Gb w (wr.alloc c)) := fun c => gb_alloc X.out.1 c
      have hgw := cell_lt c0
      have Z : Hid (ops[k]!.2.2.2.2.2.length ≤ 1000 → ops[k]!.2.2.2.1.length ≤ 65536 → (sb ops[k]!.2.1).size ≤ 65536 → (sb ops[k]!.2.2.1).size ≤ 65536 → LgG ops (k + 1)) := fun h0 h1 h2 h3 => Y.out ⟨⟨by omega, by omega, h1⟩, h0⟩
      generalize sb ops[k]!.2.1 = s1 at *
      generalize sb ops[k]!.2.2.1 = s2 at *
      generalize ops[k]!.2.2.2.1.length = lb at *
      generalize ops[k]!.2.2.2.2.2.length = lc at *
      generalize ops[k]!.1 = kd at *
      generalize ops[k]!.2.2.2.2.1 = nn at *
      clear X Y z1 z2
      by_cases t1 : (65536 : Int) < (lb : Int)
      · go_wp2
        go_ret
        exact lgp_t (G1.out _) rfl
      by_cases t2 : (1000 : Int) < (lc : Int)
      · go_wp2
        go_ret
        exact lgp_t (G1.out _) rfl
      by_cases t3 : (65536 : Int) < (s1.size : Int)
      · go_wp2
        go_ret
        exact lgp_t (G1.out _) rfl
      by_cases t4 : (65536 : Int) < (s2.size : Int)
      · go_wp2
        go_ret
        exact lgp_t (G1.out _) rfl
      have ZZ : Hid (LgG ops (k + 1)) := Z.out (by omega) (by omega) (by omega) (by omega)
      go_wp2
      go_roundw
      case rel => exact ⟨k + 1, by simp, hkn, G1.out _, ZZ.out⟩
      case measure => simp [intOf]; omega
    · have e : k = n := by omega
      subst e
      have Y : Hid (∀ e, e = .returned (.bool false) → LgP ops k w e wr) := fun e he => ⟨false, he, fun _ => X.out.2, X.out.1⟩
      have hki : ¬ (k : Int) < (k : Int) := by omega
      clear X
      go_wp2
      go_ret
      exact Y.out _ rfl

theorem RfN.d {r : Int} (h : RfN W p r) : RfD W p (nwQ r) (fun j => j = p) (fun _ => False) := by
  refine ⟨[], ⟨[], [], []⟩, [], .slice none 0 0, .slice none 0 0, .slice none 0 0, .slice none 0 0, ⟨h, World.ownsRow_nil _ _ _ _, rfl, fun k hk => absurd hk (Nat.not_lt_zero _), World.ownsRow_nil _ _ _ _, by simp [Value.ownBlock], World.ownsRow_nil _ _ _ _, by simp [Value.ownBlock], World.ownsRow_nil _ _ _ _, ⟨rfl, by simp [Value.ownBlock], by simp [Value.ownBlock]⟩, fun _ _ f => f⟩, ⟨⟨List.Pairwise.nil, by simp [nwQ, kys], by simp⟩, ⟨List.Pairwise.nil, by simp [nwQ, kys], by simp⟩, rfl, fun i hi => absurd hi (by simp [nwQ]), List.nodup_nil, by simp, Nat.zero_le _⟩, fun j e => ?_, fun _ f => f.elim⟩
  subst e
  exact (Array.getElem?_eq_some_iff.1 h).1
theorem PrA.kpo (h : PrA W b p q F2 G2 B2) (k : Kf H W W') (d : ∀ j, H j → ¬ F2 j ∧ ¬ G2 j ∧ ¬ B2 j) : PrA W' b p q F2 G2 B2 := ⟨h.1.kp k fun j e => (d j e).1, h.2.1.kp k (fun j e => (d j e).2.1) fun j e => (d j e).2.2, h.2.2⟩
/-- The elder pair: the same, or one apart. -/
def ElD (W : World) (b p b' p' : Nat) (F G : Nat → Prop) : Prop := (b' = b ∧ p' = p) ∨ ∃ q' F2 G2 B2, PrA W b' p' q' F2 G2 B2 ∧ (q'.Ok ∧ q'.Inj ∧ q'.st < 9000) ∧ ∀ j, F j ∨ G j → ¬ F2 j ∧ ¬ G2 j ∧ ¬ B2 j
def LvR (w W : World) (b p b' p' : Nat) (q : Dq) : Prop := (q.Ok ∧ q.Inj) ∧ ∃ F G B, PrA W b p q F G B ∧ Gb w W ∧ (∀ j, F j ∨ G j → w.heap.size ≤ j) ∧ ElD W b p b' p' F G
theorem LvR.base (h : LvR w W b p b' p' q) : Gb w W := by obtain ⟨_, _, _, _, _, g, _⟩ := h; exact g
theorem LvR.gb (h : LvR w W b p b' p' q) (g : Gb W W') : LvR w W' b p b' p' q := by
  obtain ⟨ok, F, G, B, h1, h2, h3, h4⟩ := h
  refine ⟨ok, F, G, B, h1.gb g, gb_trans h2 g, h3, h4.imp id ?_⟩
  rintro ⟨q', F2, G2, B2, k1, k2, k3⟩
  exact ⟨q', F2, G2, B2, k1.gb g, k2, k3⟩
theorem LvR.new {r : Int} (hr : 1 ≤ r ∧ r ≤ 4194304) (g0 : Gb w W) (N : NwOut W w1 b r) (R : RfN w2 w1.heap.size r) (g : Gb w1 w2) : LvR w w2 b w1.heap.size b w1.heap.size (nwQ r) := by
  obtain ⟨h1, h2, h3⟩ := N
  refine ⟨⟨nwQ_ok hr, nwQ_inj r⟩, _, _, _, ⟨h2.gb g, R.d, fun j hj => ⟨by show ¬ j = _; omega, id⟩⟩, gb_trans g0 (gb_trans h3 g), fun j hj => ?_, .inl ⟨rfl, rfl⟩⟩
  have s1 := g0.size
  have s2 := h3.size
  rcases hj with hj | hj
  · omega
  · show _ ≤ j
    have hj : j = w1.heap.size := hj
    omega
theorem LvR.pro (ok : q1.Ok ∧ q1.Inj) (_h1 : PrA W b p q F G B) (h2 : Gb w W) (h3 : ∀ j, F j ∨ G j → w.heap.size ≤ j) (h4 : ElD W b p b' p' F G) (o : PrO W W' b p q1 F G B) : LvR w W' b p b' p' q1 := by
  obtain ⟨F', G', B', k1, k2, k⟩ := o
  have s := h2.size
  refine ⟨ok, F', G', B', k1, kf_base h2 h3 k, fun j hj => ?_, h4.imp id ?_⟩
  · rcases Nat.lt_or_ge j W.heap.size with l | l
    · exact h3 j (hj.imp (k2 j l).1 (k2 j l).2.1)
    · omega
  · rintro ⟨q', F2, G2, B2, m1, m2, m3⟩
    refine ⟨q', F2, G2, B2, m1.kpo k m3, m2, fun j hj => ?_⟩
    rcases Nat.lt_or_ge j W.heap.size with l | l
    · exact m3 j (hj.imp (k2 j l).1 (k2 j l).2.1)
    · have b1 := m1.1.lt
      obtain ⟨b2, b3⟩ := m1.2.1.bnd
      exact ⟨fun f => by have := b1 j f; omega, fun f => by have := b2 j f; omega, fun f => by have := b3 j f; omega⟩
theorem LvR.step (h : LvR w W b p b' p' q) (hst : q.st < 9000) {x : OpP} (hr : OpR x) (hs : OpS x) (hlen : x.2.2.2.2.2.length ≤ 1000) {a1 a2 : Option Addr} {c1 c2 : Nat} (hY : RdY w (.slice a1 x.2.2.2.1.length c1) x.2.2.2.1) (hI : RdI w (.slice a2 x.2.2.2.2.2.length c2) x.2.2.2.2.2) :
    Calls Try.prog 15 #[.pointer (some ⟨b, 0, none⟩), .pointer (some ⟨p, 0, none⟩), .agg #[.int .i64 x.1, .string (sb x.2.1), .string (sb x.2.2.1), .slice a1 x.2.2.2.1.length c1, .int .i64 x.2.2.2.2.1, .slice a2 x.2.2.2.2.2.length c2]] W fun e w' => e = .returned (.bool true) ∧ Hid (LvR w w' b p b' p' (q.play1 x)) := by
  obtain ⟨⟨ok, inj⟩, F, G, B, h1, h2, h3, h4⟩ := h
  refine (step_c h1 ok inj hst hr hs hlen fun X k => ?_).mono ?_
  · have g := kf_base h2 h3 k
    exact ⟨hY.gb g, hI.gb g⟩
  · rintro e w' ⟨rfl, o⟩
    exact ⟨rfl, LvR.pro ⟨ok.play1 hr, inj.play1 x⟩ h1 h2 h3 h4 o.out⟩
theorem LvR.same (h : LvR w W b p b' p' q) (hst : q.st < 10000) : Calls Try.prog 10 #[.pointer (some ⟨b, 0, none⟩), .pointer (some ⟨p, 0, none⟩)] W fun e w' => e = .returned (.bool true) ∧ Hid (LvR w w' b p b' p' q) := by
  have H := h
  obtain ⟨⟨ok, inj⟩, F, G, B, h1, h2, h3, h4⟩ := h
  exact (same_c ⟨F, h1.1⟩ h1.2.1 ok inj hst).mono fun e w' k => ⟨k.1, H.gb k.2⟩
theorem LvR.elder (h : LvR w W b p b' p' q) (hst : q.st < 10000) : Calls Try.prog 10 #[.pointer (some ⟨b', 0, none⟩), .pointer (some ⟨p', 0, none⟩)] W fun e w' => e = .returned (.bool true) ∧ Gb w w' := by
  obtain ⟨⟨ok, inj⟩, F, G, B, h1, h2, h3, h4⟩ := h
  rcases h4 with ⟨rfl, rfl⟩ | ⟨q', F2, G2, B2, m1, ⟨m2, m3, m4⟩, _⟩
  · exact (same_c ⟨F, h1.1⟩ h1.2.1 ok inj hst).mono fun e w' k => ⟨k.1, gb_trans h2 k.2⟩
  · exact (same_c ⟨F2, m1.1⟩ m1.2.1 m2 m3 (by omega)).mono fun e w' k => ⟨k.1, gb_trans h2 k.2⟩
theorem LvR.clone (h : LvR w W b p b' p' q) (hst : q.st < 9000) : Calls Try.prog 13 #[.pointer (some ⟨b, 0, none⟩)] W fun e w1 => ∃ b1, e = .returned (.pointer (some ⟨b1, 0, none⟩)) ∧
    Hid (Calls Try.prog 14 #[.pointer (some ⟨p, 0, none⟩)] w1 fun e w2 => ∃ p1, e = .returned (.pointer (some ⟨p1, 0, none⟩)) ∧ Hid (LvR w w2 b1 p1 b p q)) := by
  obtain ⟨⟨ok, inj⟩, F, G, B, h1, h2, h3, _⟩ := h
  refine (clone_c h1.1 ok (by omega)).mono ?_
  rintro e w1 ⟨b1, rfl, _, D1, g1⟩
  refine ⟨b1, rfl, ?_⟩
  have hX := h1.gb g1
  refine (rclone_r hX.2.1 ok inj (by omega)).mono ?_
  rintro e w2 ⟨rfl, G1, B1, R1, r1, r2, g2⟩
  have bF := h1.1.lt
  obtain ⟨bG, bB⟩ := h1.2.1.bnd
  have s0 := h2.size
  have s1 := g1.size
  refine ⟨_, rfl, ⟨ok, inj⟩, _, G1, B1, ⟨D1.gb g2, R1, fun j hj => ⟨fun g => by have := r1 j g; omega, fun f => by have := bB j (r2 j hj.2 f); omega⟩⟩, gb_trans h2 (gb_trans g1 g2), fun j hj => ?_, .inr ⟨q, F, G, B, hX.gb g2, ⟨ok, inj, hst⟩, fun j hj => ?_⟩⟩
  · rcases hj with hj | hj
    · omega
    · have := r1 j hj; omega
  · have : W.heap.size ≤ j := by
      rcases hj with hj | hj
      · exact hj.1
      · have := r1 j hj; omega
    exact ⟨fun f => by have := bF j f; omega, fun f => by have := bG j f; omega, fun f => by have := bB j f; omega⟩
end Go.Proofs.Ytkagnoinifffdaa
