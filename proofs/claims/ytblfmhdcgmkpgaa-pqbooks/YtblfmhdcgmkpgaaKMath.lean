/- What kmeans answers, plainly: errors of vectors, the nearest centre, what all cost, a round, the centres. -/
import Derived.Test.YtblfmhdcgmkpgaaDist
import Derived.Test.YtblfmhdcgmkpgaaRnPlace
namespace Go.Proofs.Ytblfmhdcgmkpgaa
open Go.RowKit

/-- Vectors. -/
abbrev Vs : Type := List (List Int)
/-- The first error of the first q vectors; of all. -/
def vecsTo (vs : Vs) (d : Int) : Nat → Int
  | 0 => 0
  | q + 1 => if vecsTo vs d q = 0 then chk vs[q]! d else vecsTo vs d q
def vecsE (vs : Vs) (d : Int) : Int := vecsTo vs d vs.length
theorem vecsTo_stay {vs : Vs} {d : Int} {p q : Nat} (hpq : p ≤ q) (h : vecsTo vs d p ≠ 0) : vecsTo vs d q = vecsTo vs d p := by
  induction q with
  | zero => have : p = 0 := by omega
            subst this; rfl
  | succ q ih =>
    by_cases e : p = q + 1
    · subst e; rfl
    · have h1 := ih (by omega)
      rw [vecsTo, h1, if_neg h]
theorem vecsTo_err {vs : Vs} {d : Int} {q : Nat} (hq : q < vs.length) (h0 : vecsTo vs d q = 0) (h : chk vs[q]! d ≠ 0) : vecsE vs d = chk vs[q]! d := by
  have h1 : vecsTo vs d (q + 1) = chk vs[q]! d := by rw [vecsTo, if_pos h0]
  rw [vecsE, vecsTo_stay (p := q + 1) (by omega) (by rw [h1]; exact h), h1]
theorem vecsTo_next {vs : Vs} {d : Int} {q : Nat} (h0 : vecsTo vs d q = 0) (h : chk vs[q]! d = 0) : vecsTo vs d (q + 1) = 0 := by rw [vecsTo, if_pos h0, h]
theorem vecsTo_zero {vs : Vs} {d : Int} : ∀ q, vecsTo vs d q = 0 ↔ ∀ i, i < q → chk vs[i]! d = 0
  | 0 => ⟨fun _ i hi => absurd hi (Nat.not_lt_zero _), fun _ => rfl⟩
  | q + 1 => by
    rw [vecsTo]
    constructor
    · intro h
      split at h
      · rename_i h0
        intro i hi
        by_cases e : i = q
        · subst e; exact h
        · exact (vecsTo_zero q).1 h0 i (by omega)
      · rename_i h0; exact absurd h h0
    · intro h
      rw [if_pos ((vecsTo_zero q).2 fun i hi => h i (by omega))]
      exact h q (by omega)
/-- Vectors that may be. -/
def VsOk (vs : Vs) (d : Int) : Prop := ∀ i, i < vs.length → chk vs[i]! d = 0
theorem vecsE_zero {vs : Vs} {d : Int} : vecsE vs d = 0 ↔ VsOk vs d := vecsTo_zero _
theorem VsOk.get {vs : Vs} {d : Int} (h : VsOk vs d) {i : Nat} (hi : i < vs.length) : 1 ≤ vs[i]!.length ∧ vs[i]!.length ≤ 64 ∧ d = (vs[i]!.length : Int) ∧ allR vs[i]! = true := chk_ok (h i hi)

/-- The place of the nearest of the first q + 1 centres, and how far it is. -/
def nearTo (cs : Vs) (v : List Int) : Nat → Nat × Nat
  | 0 => (0, dst cs[0]! v)
  | q + 1 => if dst cs[q + 1]! v < (nearTo cs v q).2 then (q + 1, dst cs[q + 1]! v) else nearTo cs v q
def nearP (cs : Vs) (v : List Int) : Nat × Nat := nearTo cs v (cs.length - 1)
theorem nearTo_le (cs : Vs) (v : List Int) : ∀ q, (nearTo cs v q).1 ≤ q
  | 0 => Nat.le_refl _
  | q + 1 => by
    rw [nearTo]; split
    · exact Nat.le_refl _
    · exact Nat.le_succ_of_le (nearTo_le cs v q)
theorem nearTo_is (cs : Vs) (v : List Int) : ∀ q, (nearTo cs v q).2 = dst cs[(nearTo cs v q).1]! v
  | 0 => rfl
  | q + 1 => by
    rw [nearTo]; split
    · rfl
    · exact nearTo_is cs v q
theorem nearTo_least (cs : Vs) (v : List Int) : ∀ q i, i ≤ q → (nearTo cs v q).2 ≤ dst cs[i]! v
  | 0, i, hi => by
    have : i = 0 := by omega
    subst this; exact Nat.le_refl _
  | q + 1, i, hi => by
    rw [nearTo]; split
    · rename_i h
      by_cases e : i = q + 1
      · subst e; exact Nat.le_refl _
      · exact Nat.le_trans (Nat.le_of_lt h) (nearTo_least cs v q i (by omega))
    · rename_i h
      by_cases e : i = q + 1
      · subst e; omega
      · exact nearTo_least cs v q i (by omega)
theorem nearTo_first (cs : Vs) (v : List Int) : ∀ q i, i < (nearTo cs v q).1 → (nearTo cs v q).2 < dst cs[i]! v
  | 0, i, hi => absurd hi (Nat.not_lt_zero _)
  | q + 1, i, hi => by
    rw [nearTo] at hi ⊢
    split
    · rename_i h
      rw [if_pos h] at hi
      exact Nat.lt_of_lt_of_le h (nearTo_least cs v q i (by dsimp only at hi; omega))
    · rename_i h
      rw [if_neg h] at hi
      exact nearTo_first cs v q i hi
theorem nearP_lt {cs : Vs} (h : 1 ≤ cs.length) (v : List Int) : (nearP cs v).1 < cs.length := by
  have := nearTo_le cs v (cs.length - 1)
  unfold nearP; omega
theorem near_dist {cs : Vs} {v : List Int} {d : Int} (h : VsOk cs d) (hv : chk v d = 0) {i : Nat} (hi : i < cs.length) : distE cs[i]! v = 0 ∧ distV cs[i]! v = dst cs[i]! v := by
  have h1 := h.get hi
  have e : distE cs[i]! v = 0 := by unfold distE; rw [← h1.2.2.1, if_pos (h i hi)]; exact hv
  exact ⟨e, by unfold distV; rw [if_pos e]⟩
theorem dst_le {a b : List Int} {d : Int} (ha : chk a d = 0) (hb : chk b d = 0) : dst a b ≤ 1180591619617899675904 := by
  have h1 := chk_ok ha
  have h2 := chk_ok hb
  have h3 := dstN_le h1.2.2.2 h2.2.2.2 (by omega) a.length (Nat.le_refl _)
  have h4 : dst a b = dstN a b a.length := rfl
  omega
theorem near_le {cs : Vs} {v : List Int} {d : Int} (h : VsOk cs d) (h0 : 1 ≤ cs.length) (hv : chk v d = 0) : (nearP cs v).2 ≤ 1180591619617899675904 := by
  have e : (nearP cs v).2 = dst cs[(nearP cs v).1]! v := nearTo_is cs v _
  rw [e]
  exact dst_le (h _ (nearP_lt h0 v)) hv
/-- What the first q vectors cost. -/
def costTo (cs l : Vs) : Nat → Nat
  | 0 => 0
  | q + 1 => costTo cs l q + (nearP cs l[q]!).2
theorem costTo_le {cs l : Vs} {d : Int} (h : VsOk cs d) (h0 : 1 ≤ cs.length) (hl : VsOk l d) : ∀ q, q ≤ l.length → costTo cs l q ≤ q * 1180591619617899675904
  | 0, _ => by simp [costTo]
  | q + 1, hq => by
    have h1 := costTo_le h h0 hl q (by omega)
    have h2 := near_le h h0 (hl q (by omega))
    rw [costTo]; omega

/-- The places of the first q vectors to which centre i is the nearest. -/
def belTo (cs l : Vs) (i : Nat) (q : Nat) : List Nat := (List.range q).filter fun j => decide ((nearP cs l[j]!).1 = i)
theorem belTo_next (cs l : Vs) (i q : Nat) : belTo cs l i (q + 1) = if (nearP cs l[q]!).1 = i then belTo cs l i q ++ [q] else belTo cs l i q := by
  unfold belTo
  rw [List.range_succ, List.filter_append]
  by_cases h : (nearP cs l[q]!).1 = i
  · rw [if_pos h, List.filter_cons_of_pos (by rw [h]; exact decide_eq_true rfl)]; rfl
  · rw [if_neg h, List.filter_cons_of_neg (by rw [decide_eq_true_eq]; exact h), List.filter_nil, List.append_nil]
theorem belTo_len (cs l : Vs) (i q : Nat) : (belTo cs l i q).length ≤ q := by
  unfold belTo
  refine Nat.le_trans (List.length_filter_le _ _) ?_
  simp
theorem belTo_lt {cs l : Vs} {i q j : Nat} (h : j ∈ belTo cs l i q) : j < q := by
  unfold belTo at h
  exact List.mem_range.1 (List.mem_filter.1 h).1
/-- The sum of coordinate t of the first n vectors at some places. -/
def sumTo (l : Vs) (ps : List Nat) (t : Nat) : Nat → Int
  | 0 => 0
  | n + 1 => sumTo l ps t n + l[ps[n]!]![t]!
/-- A centre behind a round. -/
def middle (l : Vs) (c : List Int) (ps : List Nat) : List Int := if ps.length = 0 then c else (List.range c.length).map fun t => sumTo l ps t ps.length / ps.length
def roundV (l cs : Vs) : Vs := (List.range cs.length).map fun i => middle l cs[i]! (belTo cs l i l.length)
def roundsV (l cs : Vs) : Nat → Vs
  | 0 => cs
  | q + 1 => roundV l (roundsV l cs q)
/-- The vectors at the first k places that the seed tells. -/
def drawnV (l : Vs) (k : Nat) (x : Int) : Vs := (List.range k).map fun i => l[(Rn.pS x l.length (l.length - 1) i).toNat]!
def trainV (l : Vs) (k r : Nat) (x : Int) : Vs := roundsV l (drawnV l k x) r
/-- What Train answers. -/
def trainE (l : Vs) (k r : Int) : Int :=
  if 1 ≤ k ∧ k ≤ 64 ∧ 0 ≤ r ∧ r ≤ 20 then (if l.length ≤ 512 then (if (l.length : Int) < k then 60 else vecsE l (l[0]!.length : Int)) else 2) else 1
theorem trainE_zero {l : Vs} {k r : Int} : trainE l k r = 0 ↔ (1 ≤ k ∧ k ≤ 64 ∧ 0 ≤ r ∧ r ≤ 20) ∧ l.length ≤ 512 ∧ k ≤ (l.length : Int) ∧ VsOk l (l[0]!.length : Int) := by
  unfold trainE
  split
  · rename_i h1
    split
    · rename_i h2
      split
      · rename_i h3; exact ⟨fun e => by simp at e, fun e => by omega⟩
      · rename_i h3; rw [vecsE_zero]; exact ⟨fun e => ⟨h1, h2, by omega, e⟩, fun e => e.2.2.2⟩
    · rename_i h2; exact ⟨fun e => by simp at e, fun e => absurd e.2.1 h2⟩
  · rename_i h1; exact ⟨fun e => by simp at e, fun e => absurd e.1 h1⟩

theorem middle_len (l : Vs) (c : List Int) (ps : List Nat) : (middle l c ps).length = c.length := by unfold middle; split <;> simp
theorem middle_get {l : Vs} {c : List Int} {ps : List Nat} (h : ps.length ≠ 0) {t : Nat} (ht : t < c.length) : (middle l c ps)[t]! = sumTo l ps t ps.length / ps.length := by
  unfold middle
  rw [if_neg h, getElem!_pos _ t (by simpa using ht)]; simp
theorem roundV_len (l cs : Vs) : (roundV l cs).length = cs.length := by simp [roundV]
theorem roundV_get (l : Vs) {cs : Vs} {i : Nat} (hi : i < cs.length) : (roundV l cs)[i]! = middle l cs[i]! (belTo cs l i l.length) := by
  rw [getElem!_pos _ i (by rw [roundV_len]; exact hi)]; simp [roundV]
theorem drawnV_len (l : Vs) (k : Nat) (x : Int) : (drawnV l k x).length = k := by simp [drawnV]
theorem drawnV_get (l : Vs) {k : Nat} (x : Int) {i : Nat} (hi : i < k) : (drawnV l k x)[i]! = l[(Rn.pS x l.length (l.length - 1) i).toNat]! := by
  rw [getElem!_pos _ i (by rw [drawnV_len]; exact hi)]; simp [drawnV]
theorem roundsV_len (l cs : Vs) : ∀ r, (roundsV l cs r).length = cs.length
  | 0 => rfl
  | r + 1 => by rw [roundsV, roundV_len, roundsV_len l cs r]

/-- Numbers between bounds have a sum, and a middle, between them. -/
theorem sumTo_within (l : Vs) (ps : List Nat) (t : Nat) (lo hi : Int) : ∀ n, n ≤ ps.length → (∀ i, i < n → lo ≤ l[ps[i]!]![t]! ∧ l[ps[i]!]![t]! ≤ hi) → lo * n ≤ sumTo l ps t n ∧ sumTo l ps t n ≤ hi * n
  | 0, _, _ => by simp [sumTo]
  | n + 1, hn, h => by
    have h1 := sumTo_within l ps t lo hi n (by omega) (fun i hi => h i (by omega))
    have h2 := h n (by omega)
    rw [sumTo]
    have e1 : lo * ((n + 1 : Nat) : Int) = lo * n + lo := by rw [Int.natCast_add, Int.mul_add]; simp
    have e2 : hi * ((n + 1 : Nat) : Int) = hi * n + hi := by rw [Int.natCast_add, Int.mul_add]; simp
    omega
theorem div_within {s lo hi : Int} {n : Nat} (hn : n ≠ 0) (h1 : lo * n ≤ s) (h2 : s ≤ hi * n) : lo ≤ s / n ∧ s / n ≤ hi := by
  have hp : (0 : Int) < n := by omega
  refine ⟨(Int.le_ediv_iff_mul_le hp).2 h1, ?_⟩
  have h3 : s / n < hi + 1 := Int.ediv_lt_of_lt_mul hp (by rw [Int.add_mul]; omega)
  omega
theorem middle_within {l : Vs} {c : List Int} {ps : List Nat} {t : Nat} {lo hi : Int} (ht : t < c.length) (hc : lo ≤ c[t]! ∧ c[t]! ≤ hi) (h : ∀ j ∈ ps, lo ≤ l[j]![t]! ∧ l[j]![t]! ≤ hi) : lo ≤ (middle l c ps)[t]! ∧ (middle l c ps)[t]! ≤ hi := by
  by_cases h0 : ps.length = 0
  · unfold middle; rw [if_pos h0]; exact hc
  · rw [middle_get h0 ht]
    have := sumTo_within l ps t lo hi ps.length (Nat.le_refl _) (fun i hi => h _ (by rw [getElem!_pos ps i hi]; exact List.getElem_mem hi))
    exact div_within h0 this.1 this.2
/-- Coordinate t of each centre lies between bounds of the vectors'. -/
def Within (l cs : Vs) (d : Nat) : Prop := ∀ i, i < cs.length → cs[i]!.length = d ∧ ∀ t, t < d → ∀ lo hi : Int, (∀ j, j < l.length → lo ≤ l[j]![t]! ∧ l[j]![t]! ≤ hi) → lo ≤ cs[i]![t]! ∧ cs[i]![t]! ≤ hi
theorem within_drawn {l : Vs} {k : Nat} {x : Int} {d : Nat} (hk : k ≤ l.length) (hl : ∀ j, j < l.length → l[j]!.length = d) : Within l (drawnV l k x) d := by
  intro i hi
  rw [drawnV_len] at hi
  have hp := (Rn.per_pS x l.length (l.length - 1) (Nat.le_refl _)).1 i (by omega)
  rw [drawnV_get l x hi]
  have hj : (Rn.pS x l.length (l.length - 1) i).toNat < l.length := by omega
  exact ⟨hl _ hj, fun t _ lo hi h => h _ hj⟩
theorem within_round {l cs : Vs} {d : Nat} (h : Within l cs d) : Within l (roundV l cs) d := by
  intro i hi
  rw [roundV_len] at hi
  rw [roundV_get l hi, middle_len]
  obtain ⟨h1, h2⟩ := h i hi
  exact ⟨h1, fun t ht lo hi' hb => middle_within (by omega) (h2 t ht lo hi' hb) (fun j hj => hb j (belTo_lt hj))⟩
theorem within_rounds {l cs : Vs} {d : Nat} (h : Within l cs d) : ∀ r, Within l (roundsV l cs r) d
  | 0 => h
  | r + 1 => within_round (within_rounds h r)
theorem Within.ok {l cs : Vs} {d : Nat} (h : Within l cs d) (h1 : 1 ≤ d) (h2 : d ≤ 64) (hl : VsOk l (d : Int)) : VsOk cs (d : Int) := by
  intro i hi
  obtain ⟨h3, h4⟩ := h i hi
  unfold chk
  rw [if_pos ⟨by omega, by omega, by omega⟩]
  have : allR cs[i]! = true := by
    unfold allR
    rw [List.all_eq_true]
    intro y hy
    obtain ⟨t, ht, rfl⟩ := List.mem_iff_getElem.1 hy
    rw [inR_iff, ← getElem!_pos cs[i]! t ht]
    refine h4 t (by omega) _ _ (fun j hj => ?_)
    have h5 := hl.get hj
    exact allR_get h5.2.2.2 (by omega)
  unfold vErr; rw [this]; rfl
/-- What Train's answer is made of may be. -/
theorem train_ok {l : Vs} {k r : Int} (h : trainE l k r = 0) (x : Int) (q : Nat) : Within l (roundsV l (drawnV l k.toNat x) q) l[0]!.length ∧ VsOk (roundsV l (drawnV l k.toNat x) q) (l[0]!.length : Int) ∧ (roundsV l (drawnV l k.toNat x) q).length = k.toNat := by
  obtain ⟨h1, h2, h3, h4⟩ := trainE_zero.1 h
  have h5 := h4.get (i := 0) (by omega)
  have hw : Within l (roundsV l (drawnV l k.toNat x) q) l[0]!.length := within_rounds (within_drawn (by omega) fun j hj => by have := h4.get hj; omega) q
  exact ⟨hw, hw.ok h5.1 h5.2.1 h4, by rw [roundsV_len, drawnV_len]⟩
end Go.Proofs.Ytblfmhdcgmkpgaa
