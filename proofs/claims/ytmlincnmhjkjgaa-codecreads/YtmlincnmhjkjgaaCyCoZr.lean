/- Rows as texts and back, plainly. -/
import Derived.Test.YtmlincnmhjkjgaaCyCoZ
namespace Go.Proofs.Ytmlincnmhjkjgaa
open Go.RowKit Go.Lib

theorem rwB_append (a b : List Rw) : rwB (a ++ b) = rwB a ++ rwB b := by unfold rwB; rw [List.flatMap_append]
theorem rwB_length {rs : List Rw} {d : Nat} (h : ∀ r ∈ rs, r.2.length = d) : (rwB rs).length = rs.length * (4 + 4 * d) := by
  induction rs with
  | nil => simp [rwB]
  | cons r l ih =>
    have e := ih (fun x hx => h x (List.mem_cons_of_mem _ hx))
    have e2 : rwB (r :: l) = rw1 r ++ rwB l := rfl
    rw [e2, List.length_append, e, List.length_cons, Nat.add_mul, Nat.one_mul]
    unfold rw1
    rw [List.length_append, leB_length, coB_length, h r (List.mem_cons_self ..)]
    omega
theorem rwT_mem {rs : List Rw} (h : RwT rs) : ∀ r ∈ rs, r.2.length = dimR rs := by
  intro r hr
  obtain ⟨i, hi, rfl⟩ := List.mem_iff_getElem.1 hr
  have := (h.row i hi).2.2.1
  rwa [getElem!_pos rs i hi] at this
theorem rwO_back {r : Rw} {d : Nat} (h1 : 1 ≤ r.1 ∧ r.1 ≤ 1000000000) (h2 : r.2.length = d) (h3 : allR r.2 = true) (m : List UInt8) : rwO d (rw1 r ++ m) = r := by
  unfold rwO rw1
  rw [List.append_assoc, tk_app (leB_length _ 4), List.drop_left' (leB_length _ 4), leN_leB, vecOf_co h3 m d (by omega), List.take_of_length_le (by omega)]
  have : ((r.1.toNat % 256 ^ 4 : Nat) : Int) = r.1 := by omega
  rw [this]
theorem rsO_back {rs : List Rw} {d : Nat} (h : ∀ i, i < rs.length → (1 ≤ rs[i]!.1 ∧ rs[i]!.1 ≤ 1000000000) ∧ rs[i]!.2.length = d ∧ allR rs[i]!.2 = true) (m : List UInt8) : rsO d rs.length (rwB rs ++ m) = rs := by
  apply List.ext_getElem
  · rw [rsO_length]
  · intro i hi _
    have hi' : i < rs.length := by rwa [rsO_length] at hi
    have e1 : rs = rs.take i ++ (rs[i] :: rs.drop (i + 1)) := by rw [List.getElem_cons_drop, List.take_append_drop]
    have e2 : (rwB rs ++ m).drop (i * (4 + 4 * d)) = rw1 rs[i] ++ (rwB (rs.drop (i + 1)) ++ m) := by
      have e3 : rwB rs = rwB (rs.take i) ++ (rw1 rs[i] ++ rwB (rs.drop (i + 1))) := by
        conv => lhs; rw [e1]
        rw [rwB_append]; rfl
      rw [e3, List.append_assoc, List.append_assoc]
      refine List.drop_left' ?_
      rw [rwB_length (d := d) (fun r hr => ?_), List.length_take, Nat.min_eq_left (Nat.le_of_lt hi')]
      obtain ⟨j, hj, rfl⟩ := List.mem_iff_getElem.1 (List.mem_of_mem_take hr)
      have := (h j hj).2.1
      rwa [getElem!_pos rs j hj] at this
    have hh := h i hi'
    rw [getElem!_pos rs i hi'] at hh
    have e4 : (rsO d rs.length (rwB rs ++ m))[i] = rwI d (rwB rs ++ m) i := by simp [rsO]
    rw [e4]
    unfold rwI
    rw [e2, rwO_back hh.1 hh.2.1 hh.2.2]
theorem prT_form (rs : List Rw) : prT rs = leB (dimR rs) 1 ++ (leB rs.length 2 ++ rwB rs) := by unfold prT; simp
theorem prT_back {rs : List Rw} (h : crE rs = 0) : hR (prT rs) = rs ∧ HOk (prT rs) ∧ 3 ≤ (prT rs).length := by
  have k := crE_zero.1 h
  have few := k.few
  have hd : hD (prT rs) = dimR rs := by
    rw [prT_form]; unfold hD
    rw [tk_app (leB_length _ 1), leN_leB]; have := k.dim; omega
  have hc : hC (prT rs) = rs.length := by
    rw [prT_form]; unfold hC
    rw [List.drop_left' (leB_length _ 1), tk_app (leB_length _ 2), leN_leB]; omega
  have d3 : (prT rs).drop 3 = rwB rs := by
    rw [prT_form, show (3 : Nat) = 1 + 2 from rfl, ← List.drop_drop, List.drop_left' (leB_length _ 1), List.drop_left' (leB_length _ 2)]
  have hr : hR (prT rs) = rs := by
    unfold hR
    rw [hd, hc, d3]
    have := rsO_back (rs := rs) (d := dimR rs) (fun i hi => by have := k.row i hi; exact ⟨⟨this.1, this.2.1⟩, this.2.2.1, this.2.2.2.2⟩) []
    rwa [List.append_nil] at this
  have hl : (prT rs).length = 3 + rs.length * (4 + 4 * dimR rs) := by
    rw [prT_form, List.length_append, List.length_append, leB_length, leB_length, rwB_length (rwT_mem k)]; omega
  refine ⟨hr, ⟨by rw [hd, hc, hl], by rw [hr]; exact h, by rw [hd, hr]⟩, by omega⟩
theorem hok_more {l : List UInt8} (h : HOk l) (h3 : 3 ≤ l.length) (x : UInt8) : ¬ HOk (l ++ [x]) := by
  intro g
  have e1 : hD (l ++ [x]) = hD l := by unfold hD; rw [tk_more (by omega)]
  have e2 : hC (l ++ [x]) = hC l := by unfold hC; rw [tk_more2 (by omega)]
  have g1 := g.1
  rw [e1, e2, List.length_append, List.length_singleton, h.1] at g1
  generalize hC l * (4 + 4 * hD l) = M at g1
  omega
theorem hok_less {l : List UInt8} (h : HOk l) : ¬ HOk (l.take (l.length - 1)) := by
  intro g
  have h1 := h.1
  have g1 := g.1
  rw [List.length_take] at g1
  by_cases h0 : l.length = 3
  · omega
  · have e1 : hD (l.take (l.length - 1)) = hD l := by unfold hD; rw [tk_take (by omega) (by omega)]
    have e2 : hC (l.take (l.length - 1)) = hC l := by unfold hC; rw [tk_take2 (by omega) (by omega)]
    rw [e1, e2, ← h1] at g1
    omega
theorem rwB_rsO (d : Nat) (l : List UInt8) : ∀ c, c * (4 + 4 * d) ≤ l.length → rwB (rsO d c l) = l.take (c * (4 + 4 * d))
  | 0, _ => by simp [rsO, rwB]
  | c + 1, hc => by
    have e0 : (c + 1) * (4 + 4 * d) = c * (4 + 4 * d) + (4 + 4 * d) := by rw [Nat.add_mul, Nat.one_mul]
    rw [e0] at hc ⊢
    have ih := rwB_rsO d l c (by omega)
    have e1 : rsO d (c + 1) l = rsO d c l ++ [rwI d l c] := by unfold rsO; rw [List.range_succ, List.map_append]; rfl
    rw [e1, rwB_append, ih, List.take_add]
    congr 1
    have e2 : rwB [rwI d l c] = rw1 (rwI d l c) := by simp [rwB]
    rw [e2]
    unfold rwI rwO rw1
    generalize hL : l.drop (c * (4 + 4 * d)) = L
    have hlen : 4 + 4 * d ≤ L.length := by rw [← hL, List.length_drop]; omega
    show leB ((leN (tk 4 L) : Nat) : Int).toNat 4 ++ coB (vecOf d (L.drop 4)) = _
    rw [Int.toNat_natCast, leB_tk (by omega), co_vecOf _ _ (by rw [List.length_drop]; omega), List.take_add]
theorem prT_hok {l : List UInt8} (h : HOk l) : prT (hR l) = l := by
  obtain ⟨h1, _, h3⟩ := h
  have hl : (hR l).length = hC l := by unfold hR; rw [rsO_length]
  rw [prT_form, ← h3, hl]
  unfold hR
  rw [rwB_rsO _ _ _ (by rw [List.length_drop]; omega), List.take_of_length_le (by rw [List.length_drop]; omega)]
  have e1 : leB (hD l) 1 = l.take 1 := by unfold hD; exact leB_tk (by omega)
  have e2 : leB (hC l) 2 = (l.drop 1).take 2 := by unfold hC; exact leB_tk (by rw [List.length_drop]; omega)
  rw [e1, e2]
  have e3 : (l.drop 1).take 2 ++ l.drop 3 = l.drop 1 := by
    conv => rhs; rw [← List.take_append_drop 2 (l.drop 1)]
    rw [List.drop_drop]
  rw [e3, List.take_append_drop]
end Go.Proofs.Ytmlincnmhjkjgaa
