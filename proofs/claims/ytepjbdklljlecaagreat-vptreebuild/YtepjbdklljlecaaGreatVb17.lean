import Derived.Test.YtepjbdklljlecaaGreatVbInB
import Derived.Test.YtepjbdklljlecaaGreatVb4
import Derived.Laws.AppendOwnNone
import Derived.Test.YtepjbdklljlecaaGreatVb16
/- Plain facts on distances: both ways the same, nought just of a list and itself, the way round by a third one. -/
namespace Go.Proofs.YtepjbdklljlecaaGreat

theorem gap_abs (x y : Int) : gap x x y = (x - y).natAbs := by unfold gap; split <;> (try split) <;> omega
theorem gap_comm (x y : Int) : gap x x y = gap y y x := by rw [gap_abs, gap_abs]; omega
theorem sumN_ext {f g : Nat → Nat} {n : Nat} (h : ∀ i, i < n → f i = g i) : sumN f n = sumN g n := by
  induction n with
  | zero => rfl
  | succ n ih => simp only [sumN]; rw [ih (fun i hi => h i (by omega)), h n (by omega)]
theorem sumN_mono {f g : Nat → Nat} {n : Nat} (h : ∀ i, i < n → f i ≤ g i) : sumN f n ≤ sumN g n := by
  induction n with
  | zero => exact Nat.le_refl _
  | succ n ih =>
    have := ih (fun i hi => h i (by omega))
    have := h n (by omega)
    simp only [sumN]; omega
theorem sumN_zero {f : Nat → Nat} {n : Nat} (h : sumN f n = 0) {i : Nat} (hi : i < n) : f i = 0 := by
  induction n with
  | zero => omega
  | succ n ih =>
    simp only [sumN] at h
    by_cases e : i = n
    · subst e; omega
    · exact ih (by omega) (by omega)
theorem sumN_mul (f : Nat → Nat) (c n : Nat) : sumN (fun i => c * f i) n = c * sumN f n := by
  induction n with
  | zero => rfl
  | succ n ih => simp only [sumN]; rw [ih, Nat.mul_add]
theorem sumN_add (f g : Nat → Nat) (n : Nat) : sumN (fun i => f i + g i) n = sumN f n + sumN g n := by
  induction n with
  | zero => rfl
  | succ n ih => simp only [sumN]; rw [ih]; omega
theorem dst_comm {a b : List Int} (h : a.length = b.length) : dst a b = dst b a := by
  unfold dst; rw [h]
  exact sumN_ext (fun i _ => by rw [gap_comm])
/-- One coordinate of the way round. -/
theorem tri_one (x y z : Int) (t u : Nat) : t * u * (gap x x z * gap x x z) ≤ u * (t + u) * (gap x x y * gap x x y) + t * (t + u) * (gap y y z * gap y y z) := by
  rw [gap_abs, gap_abs, gap_abs]
  have e1 : ((x - z).natAbs : Int) * ((x - z).natAbs : Int) = (x - z) * (x - z) := by rw [Int.natAbs_mul_self' (x - z)]
  have e2 : ((x - y).natAbs : Int) * ((x - y).natAbs : Int) = (x - y) * (x - y) := by rw [Int.natAbs_mul_self' (x - y)]
  have e3 : ((y - z).natAbs : Int) * ((y - z).natAbs : Int) = (y - z) * (y - z) := by rw [Int.natAbs_mul_self' (y - z)]
  apply Int.ofNat_le.1
  simp only [Int.natCast_mul, Int.natCast_add]
  rw [e1, e2, e3]
  have h : 0 ≤ ((u : Int) * (x - y) - (t : Int) * (y - z)) * ((u : Int) * (x - y) - (t : Int) * (y - z)) := by
    rcases Int.le_total 0 ((u : Int) * (x - y) - (t : Int) * (y - z)) with h | h
    · exact Int.mul_nonneg h h
    · exact Int.mul_nonneg_of_nonpos_of_nonpos h h
  have h2 : (t : Int) * u * ((x - z) * (x - z)) + ((u : Int) * (x - y) - (t : Int) * (y - z)) * ((u : Int) * (x - y) - (t : Int) * (y - z)) = (u : Int) * (t + u) * ((x - y) * (x - y)) + (t : Int) * (t + u) * ((y - z) * (y - z)) := by
    grind
  omega
theorem tri_sum (a b c : List Int) (hab : a.length = b.length) (t u : Nat) : t * u * dst a c ≤ u * (t + u) * dst a b + t * (t + u) * dst b c := by
  unfold dst
  rw [← hab, ← sumN_mul, ← sumN_mul, ← sumN_mul, ← sumN_add]
  exact sumN_mono (fun i _ => tri_one _ _ _ t u)
/-- If a and b are nearer than t, b and c nearer than u, then a and c are nearer than both. -/
theorem tri_lt {a b c : List Int} (hab : a.length = b.length) {t u : Nat} (h1 : dst a b ≤ t * t) (h2 : dst b c < u * u) : dst a c < (t + u) * (t + u) := by
  by_cases ht : t = 0
  · subst ht
    have hA : dst a b = 0 := by omega
    have h := tri_sum a b c hab 1 (dst b c + 1)
    rw [hA] at h
    apply Nat.lt_of_le_of_lt _ (show dst b c < (0 + u) * (0 + u) by simpa using h2)
    apply Nat.le_of_not_lt
    intro hc
    have h3 : (dst b c + 1) * (dst b c + 1) ≤ (dst b c + 1) * dst a c := Nat.mul_le_mul_left _ hc
    simp only [Nat.one_mul, Nat.mul_zero, Nat.zero_add] at h
    have h4 : (dst b c + 1) * (dst b c + 1) ≤ (1 + (dst b c + 1)) * dst b c := Nat.le_trans h3 h
    rw [Nat.add_mul 1, Nat.mul_add] at h4
    omega
  · have hu : u ≠ 0 := by rintro rfl; simp at h2
    have h := tri_sum a b c hab t u
    have k1 : u * (t + u) * dst a b ≤ u * (t + u) * (t * t) := Nat.mul_le_mul_left _ h1
    have k2 : t * (t + u) * dst b c < t * (t + u) * (u * u) := Nat.mul_lt_mul_of_pos_left h2 (Nat.mul_pos (by omega) (by omega))
    have k3 : u * (t + u) * (t * t) + t * (t + u) * (u * u) = t * u * ((t + u) * (t + u)) := by grind
    exact Nat.lt_of_mul_lt_mul_left (a := t * u) (by omega)
/-- A ball's bound. -/
theorem ball_bound {l v q : List Int} (hlv : l.length = v.length) {R : Nat} (h : dst l v ≤ R) : ballV (dst l q) R ≤ dst v q := by
  unfold ballV
  split
  · exact Nat.zero_le _
  · rename_i h0
    apply Nat.le_of_not_lt
    intro hc
    have hR : R ≤ rup R * rup R := by
      unfold rup; split
      · rename_i e; omega
      · have := (rt_is R).2; omega
    have hu : rup R < rt (dst l q) := by
      apply Nat.lt_of_not_le; intro hle
      rw [Nat.sub_eq_zero_of_le hle] at hc; simp at hc
    have := tri_lt (c := q) hlv (t := rup R) (u := rt (dst l q) - rup R) (by omega) hc
    rw [Nat.add_sub_cancel' (by omega)] at this
    have := (rt_is (dst l q)).1
    omega
theorem gap_out {l h x y : Int} (h1 : gap l h x = 0) : gap l h y ≤ gap x x y := by
  unfold gap at *; split at h1 <;> (try split at h1) <;> split <;> (try split) <;> (try split) <;> (try split) <;> omega
/-- THE BOUND: whatever lies in a region is at least as far away. -/
theorem bound_le {r : Reg} {v q : List Int} (h1 : ckB r v = 0) (h2 : ckB r q = 0) (hin : inV r v = true) : bdV r q ≤ dst v q := by
  unfold bdV
  unfold inV at hin
  split
  · rename_i s
    rw [if_pos s] at hin
    obtain ⟨a1, a2, a3, a4, a5, a6, a7⟩ := box_ok h1 s
    obtain ⟨b1, b2, b3, b4, b5, b6, b7⟩ := box_ok h2 s
    have h0 : bx r.L r.H v = 0 := by simpa using hin
    have e : v.length = q.length := by omega
    unfold bx bxN at h0 ⊢
    unfold dst
    rw [e] at h0 ⊢
    refine sumN_mono (fun i hi => ?_)
    have h3 := sumN_zero h0 hi
    have h4 : gap r.L[i]! r.H[i]! v[i]! = 0 := by
      rcases Nat.mul_eq_zero.1 h3 with h | h <;> exact h
    exact Nat.mul_le_mul (gap_out h4) (gap_out h4)
  · rename_i s
    rw [if_neg s] at hin
    split
    · rename_i s3
      rw [if_pos s3] at hin
      obtain ⟨a1, _⟩ := ball_ok h1 s3
      exact ball_bound a1 (by simpa using hin)
    · exact Nat.zero_le _
end Go.Proofs.YtepjbdklljlecaaGreat

/- Rows in a list of the call's own. -/
namespace Go.Proofs.YtepjbdklljlecaaGreat
open Go.RowKit Go.Sort Go.Maps

theorem Tryz.infoW : (Tryz.prog.info? 43).map (fun i => (i.zero, i.size, i.bytes)) = some (some (.agg #[.int .i64 0, .slice none 0 0]), 2, 32) := by kernel_rfl
theorem info_partsW : ∃ i0, Tryz.prog.info? 43 = some i0 ∧ i0.zero = some (.agg #[.int .i64 0, .slice none 0 0]) ∧ i0.size = 2 ∧ i0.bytes = 32 := by
  obtain ⟨i, hi, hzz⟩ := Option.map_eq_some_iff.1 Tryz.infoW
  simp only [Prod.mk.injEq] at hzz
  exact ⟨i, hi, hzz.1, hzz.2.1, hzz.2.2⟩
/-- The cells xs are these rows'; their vectors are read in w. -/
def CellsW (w : World) (xs : List Value) (rs : List Rw) : Prop := ∀ i, i < rs.length → xs[i * 2]? = some (.int .i64 rs[i]!.1) ∧ ∃ u, xs[i * 2 + 1]? = some u ∧ RdI w u rs[i]!.2
theorem CellsW.gb {w w' : World} {xs : List Value} {rs : List Rw} (h : CellsW w xs rs) (g : Gb w w') : CellsW w' xs rs := fun i hi => by
  obtain ⟨h1, u, h2, h3⟩ := h i hi
  exact ⟨h1, u, h2, h3.gb g⟩
/-- The call owns, in blocks from B on, a slice v of these rows, whose vectors are read in w. -/
def OwnW (w W : World) (B : Nat) (v : Value) (rs : List Rw) : Prop := ∃ xs, W.ownsRow B 43 2 v rs.length xs ∧ CellsW w xs rs
theorem OwnW.kept {w W W' : World} {B : Nat} {v : Value} {rs : List Rw} {row : Option Nat} (h : OwnW w W B v rs) (hg : W.grownBy W' row) (hne : v.ownBlock = none ∨ v.ownBlock ≠ row) : OwnW w W' B v rs := by
  obtain ⟨xs, h1, h2⟩ := h
  exact ⟨xs, h1.kept hg hne, h2⟩
theorem OwnW.gb {w W W' : World} {B : Nat} {v : Value} {rs : List Rw} (h : OwnW w W B v rs) (g : Gb W W') : OwnW w W' B v rs :=
  h.kept (row := none) ⟨g.os, g.tape, g.output, g.size, fun k hk _ => g.block k hk⟩ (by cases hv : v.ownBlock <;> simp)
theorem OwnW.rdw {w W : World} {B : Nat} {v : Value} {rs : List Rw} (h : OwnW w W B v rs) (g : Gb w W) : RdW W v rs := by
  obtain ⟨xs, h, hx⟩ := h
  rcases h.2 with ⟨rfl, h0⟩ | ⟨b, cap, cur, rfl, _⟩
  · have : rs = [] := List.eq_nil_of_length_eq_zero h0
    subst this
    exact ⟨none, 0, rfl, fun i hi => absurd hi (Nat.not_lt_zero _)⟩
  · refine ⟨_, cap, rfl, fun i hi => ?_⟩
    obtain ⟨h1, u, h2, h3⟩ := hx i hi
    have c1 := World.ownsRow.cells h (g := b) rfl (i * 2) _ h1
    have c2 := World.ownsRow.cells h (g := b) rfl (i * 2 + 1) _ h2
    rw [Addr.add_lit] at c1 c2
    exact ⟨b, 0, u, rfl, c1, by rw [Nat.add_assoc]; exact c2, h3.gb g⟩
theorem OwnW.form {w W : World} {B : Nat} {v : Value} {rs : List Rw} (h : OwnW w W B v rs) : ∃ a cap, v = .slice a rs.length cap := by
  obtain ⟨xs, h, _⟩ := h
  rcases h.2 with ⟨rfl, h0⟩ | ⟨b, cap, cur, rfl, _⟩
  · exact ⟨none, 0, by rw [h0]⟩
  · exact ⟨_, cap, rfl⟩
theorem two_cells (w : World) (x y : Value) (t : TypeId) : ∀ j u, [x, y][j]? = some u → (w.alloc (.cells #[x, y] t)).cell? ((⟨w.heap.size, 0, none⟩ : Addr).add j) = some u := by
  intro j u hj
  rw [Addr.add_lit]
  rcases j with _ | _ | j <;> simp at hj
  · subst hj; simp [go_sem]
  · subst hj; simp [go_sem]
end Go.Proofs.YtepjbdklljlecaaGreat

/- Slices of hits that are read; the reference's Same. -/
namespace Go.Proofs.YtepjbdklljlecaaGreat.Tk
open Go.RowKit Go.Sort
attribute [local go_sem ↓] Go.wp_at_zero Go.wp_at_succ

/-- These hits lie in block b from o on. -/
def Lies (w : World) (b o : Nat) (l : List Ht) : Prop := ∀ i, i < l.length →
  w.cell? ⟨b, o + i * 3, none⟩ = some (.int .i64 l[i]!.id) ∧ w.cell? ⟨b, o + i * 3 + 1, none⟩ = some (.int .u64 l[i]!.hi) ∧ w.cell? ⟨b, o + i * 3 + 2, none⟩ = some (.int .u64 l[i]!.lo)
/-- The slice v reads as these hits. -/
def Rd (w : World) (v : Value) (l : List Ht) : Prop := (v = .slice none 0 0 ∧ l = []) ∨ (∃ a cap, v = .slice (some a) 0 cap ∧ l = []) ∨ ∃ b o cap, v = .slice (some ⟨b, o, none⟩) l.length cap ∧ Lies w b o l
theorem Lies.gr {w w' : World} {b o : Nat} {l : List Ht} (h : Lies w b o l) (g : Gr w w') : Lies w' b o l := fun i hi => by
  obtain ⟨h0, h1, h2⟩ := h i hi; exact ⟨gr_keeps g h0, gr_keeps g h1, gr_keeps g h2⟩
theorem Lies.kp {S : Nat → Prop} {w w' : World} {b o : Nat} {l : List Ht} (h : Lies w b o l) (g : Kp S w w') (hn : ¬ S b) : Lies w' b o l := fun i hi => by
  obtain ⟨h0, h1, h2⟩ := h i hi; exact ⟨g.cell h0 hn, g.cell h1 hn, g.cell h2 hn⟩
theorem Rd.gr {w w' : World} {v : Value} {l : List Ht} (h : Rd w v l) (g : Gr w w') : Rd w' v l := by
  rcases h with h | h | ⟨b, o, cap, e2, h⟩
  · exact .inl h
  · exact .inr (.inl h)
  · exact .inr (.inr ⟨b, o, cap, e2, h.gr g⟩)
theorem own_lies {w : World} {g n cap : Nat} {d : Array Ht} (h : Own w (.slice (some ⟨g, 0, none⟩) n cap) d) : Lies w g 0 d.toList := fun i hi => by
  have hi' : i < d.size := by simpa using hi
  have := own_cell h hi'
  rw [Nat.zero_add]
  have e : d.toList[i]! = d[i]! := by rw [getElem!_pos d.toList i hi, getElem!_pos d i hi']; simp
  rw [e]; exact this
theorem Rd.form {w : World} {v : Value} {l : List Ht} (h : Rd w v l) : ∃ a cap, v = .slice a l.length cap ∧ ∀ i, i < l.length → ∃ b o, a = some ⟨b, o, none⟩ ∧ Lies w b o l := by
  rcases h with ⟨rfl, rfl⟩ | ⟨a, cap, rfl, rfl⟩ | ⟨b, o, cap, rfl, h⟩
  · exact ⟨none, 0, rfl, fun i hi => absurd hi (Nat.not_lt_zero _)⟩
  · exact ⟨_, cap, rfl, fun i hi => absurd hi (Nat.not_lt_zero _)⟩
  · exact ⟨_, cap, rfl, fun _ _ => ⟨b, o, rfl, h⟩⟩

end Go.Proofs.YtepjbdklljlecaaGreat.Tk

/- theodolitekeep.Vectors: it tells some number. -/
namespace Go.Proofs.YtepjbdklljlecaaGreat
open Go.RowKit Go.Sort
end Go.Proofs.YtepjbdklljlecaaGreat
