import Derived.Test.YteaeaoekaoedoaaGreatM5
import Derived.Test.YteaeaoekaoedoaaGreatG8
import Derived.Test.YteaeaoekaoedoaaGreatM34
import Derived.Deep.RegionWith
/- vec.boxBound. -/
namespace Go.Proofs.YteaeaoekaoedoaaGreat
open Go.RowKit

/-- The bound of a box. -/
def bxN (l h q : List Int) (n : Nat) : Nat := sumN (fun i => gap l[i]! h[i]! q[i]! * gap l[i]! h[i]! q[i]!) n
def bx (l h q : List Int) : Nat := bxN l h q q.length
theorem bxN_le {l h q : List Int} (hl : allR l = true) (hh : allR h = true) (hq : allR q = true) (h1 : l.length = q.length) (h2 : h.length = q.length) (n : Nat) (hn : n ≤ q.length) : bxN l h q n ≤ n * 18446744056529682436 :=
  sumN_le _ _ _ (fun i hi => sq_small _ (gap_le _ _ _ (allR_get hl (by omega)) (allR_get hh (by omega)) (allR_get hq (by omega))))
theorem bx_lt {l h q : List Int} (hl : allR l = true) (hh : allR h = true) (hq : allR q = true) (h1 : l.length = q.length) (h2 : h.length = q.length) (hn : q.length ≤ 64) : bx l h q < 340282366920938463463374607431768211456 := by
  have := bxN_le hl hh hq h1 h2 q.length (Nat.le_refl _)
  unfold bx; omega

theorem four_call {W w' : World} {p0 p1 p2 p3 : Addr} {v0 v1 v2 v3 : Value} (g : Gr W w') (h : W.cell? p0 = some v0 ∧ W.cell? p1 = some v1 ∧ W.cell? p2 = some v2 ∧ W.cell? p3 = some v3) :
    w'.cell? p0 = some v0 ∧ w'.cell? p1 = some v1 ∧ w'.cell? p2 = some v2 ∧ w'.cell? p3 = some v3 := ⟨g.keeps h.1, g.keeps h.2.1, g.keeps h.2.2.1, g.keeps h.2.2.2⟩
theorem set2_far {W : World} {b : Nat} {p : Addr} {v : Value} (hb : b ≠ p.block) (h : W.cell? p = some v) (x y : Value) : ((W.setCell ⟨b, 0, none⟩ x).setCell ⟨b, 1, none⟩ y).cell? p = some v := by
  rw [World.cell?_setCell_far _ _ _ _ hb, World.cell?_setCell_far _ _ _ _ hb]; exact h
theorem four_set {W : World} {b b1 b2 b0 o1 o2 o3 o4 : Nat} {v0 v1 v2 v3 : Value} (h1 : b ≠ b1) (h2 : b ≠ b2) (h0 : b ≠ b0) (h : W.cell? ⟨b1, o1, none⟩ = some v0 ∧ W.cell? ⟨b2, o2, none⟩ = some v1 ∧ W.cell? ⟨b0, o3, none⟩ = some v2 ∧ W.cell? ⟨b0, o4, none⟩ = some v3) (x y : Value) :
    ((W.setCell ⟨b, 0, none⟩ x).setCell ⟨b, 1, none⟩ y).cell? ⟨b1, o1, none⟩ = some v0 ∧ ((W.setCell ⟨b, 0, none⟩ x).setCell ⟨b, 1, none⟩ y).cell? ⟨b2, o2, none⟩ = some v1 ∧ ((W.setCell ⟨b, 0, none⟩ x).setCell ⟨b, 1, none⟩ y).cell? ⟨b0, o3, none⟩ = some v2 ∧ ((W.setCell ⟨b, 0, none⟩ x).setCell ⟨b, 1, none⟩ y).cell? ⟨b0, o4, none⟩ = some v3 :=
  ⟨set2_far h1 h.1 x y, set2_far h2 h.2.1 x y, set2_far h0 h.2.2.1 x y, set2_far h0 h.2.2.2 x y⟩

end Go.Proofs.YteaeaoekaoedoaaGreat

/- Roots; vec.ballBound. -/
namespace Go.Proofs.YteaeaoekaoedoaaGreat
open Go.RowKit

/-- The greatest number up to n whose square is not above a. -/
def rtTo (a : Nat) : Nat → Nat
  | 0 => 0
  | n + 1 => if (n + 1) * (n + 1) ≤ a then n + 1 else rtTo a n
def rt (a : Nat) : Nat := rtTo a a
theorem rtTo_is (a : Nat) : ∀ n, a < (n + 1) * (n + 1) → IsRoot a (rtTo a n)
  | 0, h => ⟨Nat.zero_le _, by simpa [rtTo] using h⟩
  | n + 1, h => by
    unfold rtTo
    split
    · rename_i h1; exact ⟨h1, h⟩
    · rename_i h1; exact rtTo_is a n (by omega)
theorem rt_is (a : Nat) : IsRoot a (rt a) := rtTo_is a a (by
  have : (a + 1) * 1 ≤ (a + 1) * (a + 1) := Nat.mul_le_mul_left _ (by omega)
  omega)
theorem root_le {a r s : Nat} (h1 : IsRoot a r) (h2 : IsRoot a s) : s ≤ r := by
  apply Nat.le_of_not_lt; intro hc
  have := sq_le (show r + 1 ≤ s by omega)
  have := h1.2; have := h2.1; omega
theorem root_one {a r : Nat} (h : IsRoot a r) : r = rt a := Nat.le_antisymm (root_le (rt_is a) h) (root_le h (rt_is a))
theorem rt_lt {a : Nat} (ha : a < 340282366920938463463374607431768211456) : rt a < 18446744073709551616 := by
  apply Nat.lt_of_not_le; intro hc
  have := sq_le hc
  have := (rt_is a).1; omega
/-- The least number whose square is not below R. -/
def rup (R : Nat) : Nat := if rt R * rt R = R then rt R else rt R + 1
/-- The bound of a ball: a the distance from its centre. -/
def ballV (a R : Nat) : Nat := if rt a ≤ rt R then 0 else (rt a - rup R) * (rt a - rup R)

theorem wd_ne (a b : Nat) (r : Bool) (h : (!decide (a = b)) = r) (W : World) : (binOp .neq 39 (.agg #[.int .u64 (hi a), .int .u64 (lo a)]) (.agg #[.int .u64 (hi b), .int .u64 (lo b)])).run Tryz.prog W = .ok (.bool r) W := by
  subst h
  have h1 := wd_eq a b W
  rw [run_eql_struct] at h1
  rw [run_neq_struct]
  revert h1
  generalize (Op.equalIn 10000 39 (Wd a) (Wd b)).run Tryz.prog W = x
  intro h1
  cases x with
  | ok v w' =>
    simp only [Result.andThen] at h1 ⊢
    injection h1 with h2 h3
    injection h2 with h4
    rw [h3, h4]
  | _ => simp [Result.andThen] at h1

end Go.Proofs.YteaeaoekaoedoaaGreat

/- vec.Inside and vec.Bound. -/
namespace Go.Proofs.YteaeaoekaoedoaaGreat
open Go.RowKit

/-- Does a vector lie in a region? Both may be. -/
def inV (r : Reg) (a : List Int) : Bool := if r.S = 2 then decide (bx r.L r.H a = 0) else if r.S = 3 then decide (dst r.L a ≤ r.R) else true
/-- How near it may be. -/
def bdV (r : Reg) (a : List Int) : Nat := if r.S = 2 then bx r.L r.H a else if r.S = 3 then ballV (dst r.L a) r.R else 0
theorem ckB_ok {r : Reg} {a : List Int} (h : ckB r a = 0) : ckR r a.length = 0 ∧ chk a a.length = 0 := by
  unfold ckB at h; split at h
  · rename_i h1; exact ⟨h1, h⟩
  · rename_i h1; exact absurd h h1
theorem ckR_ok {r : Reg} {d : Int} (h : ckR r d = 0) : (r.S = 2 → cornE r.L r.H d = 0) ∧ (r.S = 3 → chk r.L d = 0) ∧ uses r = true ∧ rise r.I = true := by
  unfold ckR at h; split at h
  · split at h
    · rename_i h2
      refine ⟨fun e => ?_, fun e => ?_, h2⟩
      · rw [if_pos e] at h; exact h
      · rw [if_neg (by omega), if_pos e] at h; exact h
    · cases h
  · cases h
theorem cornE_ok {l h : List Int} {d : Int} (k : cornE l h d = 0) : chk l d = 0 ∧ chk h d = 0 ∧ below l h l.length = true := by
  unfold cornE at k; split at k
  · rename_i h1
    split at k
    · rename_i h2
      split at k
      · rename_i h3; exact ⟨h1, h2, h3⟩
      · cases k
    · rename_i h2; exact absurd k h2
  · rename_i h1; exact absurd k h1
/-- What a box and a vector that may be are. -/
theorem box_ok {r : Reg} {a : List Int} (h : ckB r a = 0) (s : r.S = 2) : r.L.length = a.length ∧ r.H.length = a.length ∧ a.length ≤ 64 ∧ allR r.L = true ∧ allR r.H = true ∧ allR a = true ∧ below r.L r.H a.length = true := by
  obtain ⟨h1, h2⟩ := ckB_ok h
  obtain ⟨h3, h4, h5⟩ := cornE_ok ((ckR_ok h1).1 s)
  obtain ⟨a1, a2, a3, a4⟩ := chk_ok h3
  obtain ⟨b1, b2, b3, b4⟩ := chk_ok h4
  obtain ⟨c1, c2, c3, c4⟩ := chk_ok h2
  have e1 : r.L.length = a.length := by omega
  rw [e1] at h5
  exact ⟨e1, by omega, c2, a4, b4, c4, h5⟩
theorem ball_ok {r : Reg} {a : List Int} (h : ckB r a = 0) (s : r.S = 3) : r.L.length = a.length ∧ r.L.length ≤ 64 ∧ allR r.L = true ∧ allR a = true := by
  obtain ⟨h1, h2⟩ := ckB_ok h
  obtain ⟨a1, a2, a3, a4⟩ := chk_ok ((ckR_ok h1).2.1 s)
  obtain ⟨c1, c2, c3, c4⟩ := chk_ok h2
  exact ⟨by omega, a2, a4, c4⟩
theorem cmp3_le (a b : Nat) : decide (cmp3 a b ≤ 0) = decide (a ≤ b) := by
  unfold cmp3
  by_cases h : a < b
  · rw [if_pos h, decide_eq_true (by omega), decide_eq_true (by omega)]
  · rw [if_neg h]
    by_cases h2 : a = b
    · rw [if_pos h2, decide_eq_true (by omega), decide_eq_true (by omega)]
    · rw [if_neg h2, decide_eq_false (by omega), decide_eq_false (by omega)]
theorem three_call {W w' : World} {p0 p1 p2 : Addr} {v0 v1 v2 : Value} (g : Gr W w') (h : W.cell? p0 = some v0 ∧ W.cell? p1 = some v1 ∧ W.cell? p2 = some v2) :
    w'.cell? p0 = some v0 ∧ w'.cell? p1 = some v1 ∧ w'.cell? p2 = some v2 := ⟨g.keeps h.1, g.keeps h.2.1, g.keeps h.2.2⟩

/-- What Inside answers. -/
def insV (r : Reg) (a : List Int) : Bool := decide (ckB r a = 0) && inV r a
/-- What Bound answers. -/
def bndV (r : Reg) (a : List Int) : Nat := if ckB r a = 0 then bdV r a else 0
end Go.Proofs.YteaeaoekaoedoaaGreat

/- The reference's Wide and Add, as contracts. -/
namespace Go.Proofs.YteaeaoekaoedoaaGreat
open Go.RowKit

set_option maxHeartbeats 2000000 in
theorem wide_any (n : Nat) (hn : n < 340282366920938463463374607431768211456) (o : Bool) (w : World) :
    Calls Tryz.prog 121 #[Nm n o] w fun e w' => e = .returned (Wd n) ∧ Gr w w' := by
  have n0 := ((NumAt.new w n o 100).call ((Gr.refl _).alloc #[.int .u64 0, .int .u64 0] 39)).call ((Gr.refl _).alloc #[.int .u64 0, .int .u64 0] 39)
  go_enter Tryz.func121, Tryz.ntmps121
  go_wp2
  go_loopw [4] (fun iv w' => ∃ z : Int, ∃ k x y : Nat, iv = .int .i64 z ∧ z = (k : Int) - 1 ∧ k ≤ 4 ∧ Hid (x = n / 18446744073709551616 / 65536 ^ k ∧ y = n % 18446744073709551616 / 65536 ^ k) ∧ Gr (((w.alloc (.cells #[.int .i64 (dd n 0), .int .i64 (dd n 1), .int .i64 (dd n 2), .int .i64 (dd n 3), .int .i64 (dd n 4), .int .i64 (dd n 5), .int .i64 (dd n 6), .int .i64 (dd n 7), .bool o] 100)).alloc (.cells #[.int .u64 0, .int .u64 0] 39))) w' ∧ NumAt w' w.heap.size n o ∧ w'.cell? ⟨w.heap.size + 1 + 1, 0, none⟩ = some (.int .u64 (x : Int)) ∧ w'.cell? ⟨w.heap.size + 1 + 1, 1, none⟩ = some (.int .u64 (y : Int)) ∧ w'.frozen? ⟨w.heap.size + 1 + 1, 0, none⟩ = false ∧ w'.frozen? ⟨w.heap.size + 1 + 1, 1, none⟩ = false) (fun iv _ => (intOf iv + 1).toNat)
  case atStart =>
    refine ⟨3, 4, 0, 0, rfl, by omega, by omega, ?_, (Gr.refl _).alloc _ _, n0, by simp [go_sem], by simp [go_sem], by simp [go_sem], by simp [go_sem]⟩
    show 0 = n / 18446744073709551616 / 65536 ^ 4 ∧ 0 = n % 18446744073709551616 / 65536 ^ 4
    simp only [Nat.reducePow]; omega
  case round =>
    clear n0
    obtain ⟨z, k, x, y, rfl, hz, hk, X, hG, hN, c0, c1, f0, f1⟩ := hrel
    cases k with
    | zero =>
      have hz' : z < 0 := by omega
      have E : Hid ((x : Int) = hi n ∧ (y : Int) = lo n) := by
        have := X.out
        simp at this
        obtain ⟨h1, h2⟩ := this
        subst h1 h2; exact ⟨rfl, rfl⟩
      have V := hG.var2
      simp only [World.size_alloc] at V
      obtain ⟨v0, v1, v2, v3⟩ := V
      clear hz X hN
      go_wp2
      refine bodyPost_ret (v := Wd n) ?_ rfl ⟨rfl, ?_⟩
      · rw [Wd, ← E.out.1, ← E.out.2]; simp [results, Tryz.results121, go_sem, v0, v1]
      · exact (((((Gr.refl _).alloc _ _).alloc _ _).trans hG).setCell (by simp) _).setCell (by simp) _
    | succ t =>
      have hzt : z = (t : Int) := by omega
      subst hzt
      obtain ⟨e, he, he1, he2⟩ := dd_nat n t
      obtain ⟨f, hf, hf1, hf2⟩ := dd_nat n (4 + t)
      have ca := hN.d t (by omega)
      have cb := hN.d (4 + t) (by omega)
      rw [he] at ca; rw [hf] at cb
      have hnb : w.heap.size + 1 + 1 ≠ w.heap.size := by omega
      have hx : x < 281474976710656 ∧ y < 281474976710656 := by
        obtain ⟨h1, h2⟩ := X.out
        have ht : t = 0 ∨ t = 1 ∨ t = 2 ∨ t = 3 := by omega
        rcases ht with rfl | rfl | rfl | rfl <;> (simp only [Nat.reduceAdd, Nat.reducePow] at h1 h2; omega)
      obtain ⟨x1, y1⟩ := hx
      have X' : Hid (65536 * x + f = n / 18446744073709551616 / 65536 ^ t ∧ 65536 * y + e = n % 18446744073709551616 / 65536 ^ t) := by
        obtain ⟨h1, h2⟩ := X.out
        have ht : t = 0 ∨ t = 1 ∨ t = 2 ∨ t = 3 := by omega
        unfold Hid
        rcases ht with rfl | rfl | rfl | rfl <;> (simp only [Nat.reduceAdd, Nat.reducePow] at *; omega)
      clear he he2 hf hf2 X hz
      go_wp2
      go_region
      go_wp2
      go_region
      go_wp2
      refine ⟨⟨(t : Int) - 1, t, 65536 * x + f, 65536 * y + e, by go_num, rfl, by omega, X', ?_, ?_, ?_, ?_, ?_, ?_⟩, by simp [intOf]⟩
      · exact (((hG.setCell (by simp) _).drew.setCell (by simp) _).drew)
      · exact ((hN.far _ _ hnb _).far _ _ hnb _).call ((Gr.refl _).drew.drew)
      · simp [go_sem, c0]
      · simp [go_sem, c1]
      · simp [go_sem, f0]
      · simp [go_sem, f1]

end Go.Proofs.YteaeaoekaoedoaaGreat

/- What the walks over Times lean on. -/
namespace Go.Proofs.YteaeaoekaoedoaaGreat
open Go.RowKit

theorem Gr.undrew {w w' : World} (g : Gr w.drew w') : Gr w w' := (Gr.refl w).drew.trans g
/-- plus, its answer under names. -/
theorem plus_ex (n : Nat) (hn : n < 340282366920938463463374607431768211456) (o : Bool) (k v : Nat) (hk : k ≤ 14) (hv : v < 8589934592) (w : World) :
    Calls Tryz.prog 130 #[Nm n o, .int .i64 (k : Int), .int .i64 (v : Int)] w fun e w' => ∃ q : Nat, ∃ p : Bool, e = .returned (Nm q p) ∧ q < 340282366920938463463374607431768211456 ∧
      Hid (q = (n + v * 65536 ^ k) % 340282366920938463463374607431768211456 ∧ p = (o || decide (340282366920938463463374607431768211456 ≤ n + v * 65536 ^ k))) ∧ Gr w w' := by
  refine (plus_any n hn o k v hk hv w).mono ?_
  rintro e w' ⟨rfl, g⟩
  exact ⟨_, _, rfl, Nat.mod_lt _ (by omega), ⟨rfl, rfl⟩, g⟩
/-- What is left of a number that is added to part by part, and whether it was ever too great. -/
theorem sum_step (Y d : Nat) (ov : Bool) (q q' : Nat) (p p' : Bool) (hq : q = Y % 340282366920938463463374607431768211456) (hp : p = (ov || decide (340282366920938463463374607431768211456 ≤ Y)))
    (hq' : q' = (q + d) % 340282366920938463463374607431768211456) (hp' : p' = (p || decide (340282366920938463463374607431768211456 ≤ q + d))) :
    q' = (Y + d) % 340282366920938463463374607431768211456 ∧ p' = (ov || decide (340282366920938463463374607431768211456 ≤ Y + d)) := by
  subst hq hp hq' hp'
  refine ⟨by omega, ?_⟩
  by_cases h : 340282366920938463463374607431768211456 ≤ Y
  · rw [decide_eq_true h, decide_eq_true (show 340282366920938463463374607431768211456 ≤ Y + d by omega)]; simp
  · rw [Nat.mod_eq_of_lt (by omega), decide_eq_false h]; simp
theorem NumAt.zero (w : World) (t : TypeId) : NumAt (w.alloc (.cells #[.int .i64 0, .int .i64 0, .int .i64 0, .int .i64 0, .int .i64 0, .int .i64 0, .int .i64 0, .int .i64 0, .bool false] t)) w.heap.size 0 false := NumAt.new w 0 false t
theorem NumAt.drew {w : World} {B n : Nat} {o : Bool} (h : NumAt w B n o) : NumAt w.drew B n o := h.call (Gr.refl _).drew

end Go.Proofs.YteaeaoekaoedoaaGreat
