import Derived.Test.YtmlincnmhjkjgaaCyInts
/- vec.side, its closure, vec.withSquare. -/
namespace Go.Proofs.Ytmlincnmhjkjgaa
open Go.RowKit

/-- How much x lies below low, or above high. -/
def gap (l h x : Int) : Nat := if x < l then (l - x).toNat else if h < x then (x - h).toNat else 0

end Go.Proofs.Ytmlincnmhjkjgaa

/- vec.distance and vec.Dist. -/
namespace Go.Proofs.Ytmlincnmhjkjgaa
open Go.RowKit

theorem Gr.gb {a b : World} (h : Gr a b) : Gb a b := h.below
/-- The sum of the first n of some numbers. -/
def sumN (f : Nat → Nat) : Nat → Nat
  | 0 => 0
  | n + 1 => sumN f n + f n
theorem sumN_le (f : Nat → Nat) (c n : Nat) (h : ∀ i, i < n → f i ≤ c) : sumN f n ≤ n * c := by
  induction n with
  | zero => simp [sumN]
  | succ n ih =>
    have := ih (fun i hi => h i (by omega))
    have := h n (by omega)
    simp only [sumN, Nat.add_mul]; omega
/-- A square of a number below 2 to the power of 32. -/
theorem sq_small (g : Nat) (h : g ≤ 4294967294) : g * g ≤ 18446744056529682436 := by
  have := Nat.mul_le_mul h h; omega
theorem gap_le (l h x : Int) (hl : -2147483647 ≤ l ∧ l ≤ 2147483647) (hh : -2147483647 ≤ h ∧ h ≤ 2147483647) (hx : -2147483647 ≤ x ∧ x ≤ 2147483647) : gap l h x ≤ 4294967294 := by
  unfold gap; split
  · omega
  · split <;> omega
/-- The distance of two lists. -/
def dst (a b : List Int) : Nat := sumN (fun i => gap a[i]! a[i]! b[i]! * gap a[i]! a[i]! b[i]!) a.length
def dstN (a b : List Int) (q : Nat) : Nat := sumN (fun i => gap a[i]! a[i]! b[i]! * gap a[i]! a[i]! b[i]!) q
theorem dstN_le {a b : List Int} (ha : allR a = true) (hb : allR b = true) (hab : a.length = b.length) (q : Nat) (hq : q ≤ a.length) : dstN a b q ≤ q * 18446744056529682436 :=
  sumN_le _ _ _ (fun i hi => sq_small _ (gap_le _ _ _ (allR_get ha (by omega)) (allR_get ha (by omega)) (allR_get hb (by omega))))

/-- A place of a variable of two words: what it holds, and that it is open. -/
structure At2 (w : World) (b s : Nat) : Prop where
  c0 : w.cell? ⟨b, 0, none⟩ = some (.int .u64 (hi s))
  c1 : w.cell? ⟨b, 1, none⟩ = some (.int .u64 (lo s))
  f0 : w.frozen? ⟨b, 0, none⟩ = false
  f1 : w.frozen? ⟨b, 1, none⟩ = false
theorem At2.gr {w w' : World} {b s : Nat} (h : At2 w b s) (g : Gr w w') : At2 w' b s := ⟨g.keeps h.c0, g.keeps h.c1, (g.froz _).trans h.f0, (g.froz _).trans h.f1⟩
theorem At2.new (w : World) (s : Nat) (t : TypeId) : At2 (w.alloc (.cells #[.int .u64 (hi s), .int .u64 (lo s)] t)) w.heap.size s := ⟨by simp [go_sem], by simp [go_sem], by simp [go_sem], by simp [go_sem]⟩
theorem At2.set {w : World} {b s : Nat} (h : At2 w b s) (t : Nat) : At2 ((w.setCell ⟨b, 0, none⟩ (.int .u64 (hi t))).setCell ⟨b, 1, none⟩ (.int .u64 (lo t))) b t := by
  obtain ⟨c0, c1, f0, f1⟩ := h
  exact ⟨by simp [go_sem, c0], by simp [go_sem, c1], by simp [go_sem, f0], by simp [go_sem, f1]⟩

theorem five_call {W w' : World} {p0 p1 p2 q0 q1 : Addr} {v0 v1 v2 : Value} (g : Gr W w') (h : W.cell? p0 = some v0 ∧ W.cell? p1 = some v1 ∧ W.cell? p2 = some v2 ∧ W.frozen? q0 = false ∧ W.frozen? q1 = false) :
    w'.cell? p0 = some v0 ∧ w'.cell? p1 = some v1 ∧ w'.cell? p2 = some v2 ∧ w'.frozen? q0 = false ∧ w'.frozen? q1 = false := ⟨g.keeps h.1, g.keeps h.2.1, g.keeps h.2.2.1, (g.froz _).trans h.2.2.2.1, (g.froz _).trans h.2.2.2.2⟩

theorem dst_lt {a b : List Int} (ha : allR a = true) (hb : allR b = true) (hab : a.length = b.length) (hn : a.length ≤ 64) : dst a b < 340282366920938463463374607431768211456 := by
  have := dstN_le ha hb hab a.length (Nat.le_refl _)
  have h2 : dst a b = dstN a b a.length := rfl
  omega
theorem vErr_ok {l : List Int} (h : vErr l = 0) : allR l = true := by
  unfold vErr at h; split at h
  · assumption
  · cases h
theorem chk_ok {l : List Int} {d : Int} (h : chk l d = 0) : 1 ≤ l.length ∧ l.length ≤ 64 ∧ d = (l.length : Int) ∧ allR l = true := by
  unfold chk at h; split at h
  · exact ⟨by omega, by omega, by omega, vErr_ok h⟩
  · cases h
/-- What Dist answers: the error, and the distance beside none. -/
def distE (a b : List Int) : Int := if chk a a.length = 0 then chk b a.length else chk a a.length
def distV (a b : List Int) : Nat := if distE a b = 0 then dst a b else 0
theorem distE_ok {a b : List Int} (h : distE a b = 0) : chk a a.length = 0 ∧ chk b a.length = 0 ∧ a.length = b.length ∧ 1 ≤ a.length ∧ a.length ≤ 64 ∧ allR a = true ∧ allR b = true := by
  unfold distE at h; split at h
  · rename_i h1
    have h2 := chk_ok h1
    have h3 := chk_ok h
    exact ⟨h1, h, by omega, by omega, by omega, h2.2.2.2, h3.2.2.2⟩
  · rename_i h1; exact absurd h h1

end Go.Proofs.Ytmlincnmhjkjgaa
