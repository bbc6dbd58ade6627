/- Vectors that are moved: plain facts. -/
import Derived.Test.YtgglofeliffgbaaKWithM
namespace Go.Proofs.Ytgglofeliffgbaa
open Go.RowKit

/-- How far coordinate t is moved. -/
def mv (bs : List Int) (t : Nat) : Int := if t < bs.length ∧ -8589934588 < bs[t]! ∧ bs[t]! < 8589934588 then bs[t]! else 0
theorem mv_bd (bs : List Int) (t : Nat) : -8589934588 ≤ mv bs t ∧ mv bs t ≤ 8589934588 := by
  unfold mv; split <;> omega
/-- A vector, moved. -/
def shV (s : Nat → Int) (v : List Int) : List Int := (List.range v.length).map fun t => v[t]! + s t
theorem shV_len (s : Nat → Int) (v : List Int) : (shV s v).length = v.length := by simp [shV]
theorem shV_get (s : Nat → Int) {v : List Int} {t : Nat} (ht : t < v.length) : (shV s v)[t]! = v[t]! + s t := by
  rw [getElem!_pos _ t (by rw [shV_len]; exact ht)]; simp [shV]
theorem shV_take (s : Nat → Int) {v : List Int} {q : Nat} (hq : q < v.length) : (shV s v).take (q + 1) = (shV s v).take q ++ [v[q]! + s q] := by
  rw [List.take_succ_eq_append_getElem (by rw [shV_len]; exact hq), ← shV_get s hq, getElem!_pos _ q (by rw [shV_len]; exact hq)]
def shVs (s : Nat → Int) (l : Vs) : Vs := l.map (shV s)
theorem shVs_len (s : Nat → Int) (l : Vs) : (shVs s l).length = l.length := by simp [shVs]
theorem shVs_get (s : Nat → Int) {l : Vs} {i : Nat} (hi : i < l.length) : (shVs s l)[i]! = shV s l[i]! := by
  rw [getElem!_pos _ i (by rw [shVs_len]; exact hi), getElem!_pos l i hi]; simp [shVs]
theorem shVs_take (s : Nat → Int) {l : Vs} {q : Nat} (hq : q < l.length) : (shVs s l).take (q + 1) = (shVs s l).take q ++ [shV s l[q]!] := by
  rw [List.take_succ_eq_append_getElem (by rw [shVs_len]; exact hq), ← shVs_get s hq, getElem!_pos _ q (by rw [shVs_len]; exact hq)]
theorem vs_ext {a b : Vs} (h : a.length = b.length) (k : ∀ i, i < a.length → a[i]! = b[i]!) : a = b := by
  apply List.ext_getElem h
  intro i h1 h2
  have := k i h1
  rwa [getElem!_pos a i h1, getElem!_pos b i h2] at this
theorem li_ext {a b : List Int} (h : a.length = b.length) (k : ∀ i, i < a.length → a[i]! = b[i]!) : a = b := by
  apply List.ext_getElem h
  intro i h1 h2
  have := k i h1
  rwa [getElem!_pos a i h1, getElem!_pos b i h2] at this

theorem gap_move (x y s : Int) : gap (x + s) (x + s) (y + s) = gap x x y := by
  unfold gap
  by_cases h1 : y < x
  · rw [if_pos h1, if_pos (by omega)]; congr 1; omega
  · by_cases h2 : x < y
    · rw [if_neg h1, if_pos h2, if_neg (by omega), if_pos (by omega)]; congr 1; omega
    · rw [if_neg h1, if_neg h2, if_neg (by omega), if_neg (by omega)]
theorem sumN_same {f g : Nat → Nat} : ∀ n, (∀ i, i < n → f i = g i) → sumN f n = sumN g n
  | 0, _ => rfl
  | n + 1, h => by rw [sumN, sumN, sumN_same n (fun i hi => h i (by omega)), h n (by omega)]
theorem dst_move (s : Nat → Int) {a b : List Int} (h : a.length = b.length) : dst (shV s a) (shV s b) = dst a b := by
  unfold dst
  rw [shV_len]
  refine sumN_same _ (fun i hi => ?_)
  rw [shV_get s hi, shV_get s (by omega), gap_move]
theorem near_move (s : Nat → Int) {cs : Vs} {v : List Int} (h : ∀ i, i < cs.length → cs[i]!.length = v.length) : ∀ q, q < cs.length → nearTo (shVs s cs) (shV s v) q = nearTo cs v q
  | 0, hq => by rw [nearTo, nearTo, shVs_get s hq, dst_move s (h 0 hq)]
  | q + 1, hq => by rw [nearTo, nearTo, near_move s h q (by omega), shVs_get s hq, dst_move s (h (q + 1) hq)]
theorem nearP_move (s : Nat → Int) {cs : Vs} {v : List Int} (h0 : 1 ≤ cs.length) (h : ∀ i, i < cs.length → cs[i]!.length = v.length) : nearP (shVs s cs) (shV s v) = nearP cs v := by
  unfold nearP
  rw [shVs_len, near_move s h _ (by omega)]
theorem bel_move (s : Nat → Int) {cs l : Vs} {d : Nat} (h0 : 1 ≤ cs.length) (h : ∀ i, i < cs.length → cs[i]!.length = d) (hl : ∀ j, j < l.length → l[j]!.length = d) (i : Nat) : belTo (shVs s cs) (shVs s l) i l.length = belTo cs l i l.length := by
  unfold belTo
  apply List.filter_congr
  intro j hj
  have hj' := List.mem_range.1 hj
  rw [shVs_get s hj', nearP_move s h0 (fun i hi => by rw [h i hi, hl j hj'])]
theorem sum_move (s : Nat → Int) {l : Vs} {d t : Nat} (hl : ∀ j, j < l.length → l[j]!.length = d) (ht : t < d) {ps : List Nat} (hp : ∀ i, i < ps.length → ps[i]! < l.length) : ∀ n, n ≤ ps.length → sumTo (shVs s l) ps t n = sumTo l ps t n + n * s t
  | 0, _ => by simp [sumTo]
  | n + 1, hn => by
    have h1 := hp n (by omega)
    rw [sumTo, sumTo, sum_move s hl ht hp n (by omega), shVs_get s h1, shV_get s (by rw [hl _ h1]; exact ht), Int.natCast_add, Int.add_mul]
    omega
theorem middle_move (s : Nat → Int) {l : Vs} {c : List Int} {d : Nat} (hc : c.length = d) (hl : ∀ j, j < l.length → l[j]!.length = d) {ps : List Nat} (hp : ∀ i, i < ps.length → ps[i]! < l.length) : middle (shVs s l) (shV s c) ps = shV s (middle l c ps) := by
  by_cases h0 : ps.length = 0
  · unfold middle; rw [if_pos h0, if_pos h0]
  · apply li_ext
    · rw [middle_len, shV_len, shV_len, middle_len]
    · intro t ht
      rw [middle_len, shV_len] at ht
      rw [middle_get h0 (by rw [shV_len]; exact ht), shV_get s (by rw [middle_len]; exact ht), middle_get h0 ht, sum_move s hl (by omega) hp _ (Nat.le_refl _), Int.add_mul_ediv_left _ _ (by omega)]
theorem round_move (s : Nat → Int) {cs l : Vs} {d : Nat} (h0 : 1 ≤ cs.length) (h : ∀ i, i < cs.length → cs[i]!.length = d) (hl : ∀ j, j < l.length → l[j]!.length = d) : roundV (shVs s l) (shVs s cs) = shVs s (roundV l cs) := by
  apply vs_ext
  · rw [roundV_len, shVs_len, shVs_len, roundV_len]
  · intro i hi
    rw [roundV_len, shVs_len] at hi
    rw [roundV_get _ (by rw [shVs_len]; exact hi), shVs_get s hi, shVs_get s (by rw [roundV_len]; exact hi), roundV_get l hi, shVs_len, bel_move s h0 h hl i]
    exact middle_move s (h i hi) hl (fun i hi => belTo_lt (by rw [getElem!_pos _ i hi]; exact List.getElem_mem hi))
theorem drawn_move (s : Nat → Int) {l : Vs} {k : Nat} (x : Int) (hk : k ≤ l.length) : drawnV (shVs s l) k x = shVs s (drawnV l k x) := by
  apply vs_ext
  · rw [drawnV_len, shVs_len, drawnV_len]
  · intro i hi
    rw [drawnV_len] at hi
    have hp := (Rn.per_pS x l.length (l.length - 1) (Nat.le_refl _)).1 i (by omega)
    rw [drawnV_get (shVs s l) x hi, shVs_len, shVs_get s (l := l) (by omega), shVs_get s (l := drawnV l k x) (by rw [drawnV_len]; exact hi), drawnV_get l x hi]
theorem rounds_move (s : Nat → Int) {l : Vs} {k r : Int} (h : trainE l k r = 0) (x : Int) : ∀ q, roundsV (shVs s l) (shVs s (drawnV l k.toNat x)) q = shVs s (roundsV l (drawnV l k.toNat x) q)
  | 0 => rfl
  | q + 1 => by
    obtain ⟨h1, h2, h3, h4⟩ := trainE_zero.1 h
    obtain ⟨t1, t2, t3⟩ := train_ok h x q
    rw [roundsV, roundsV, rounds_move s h x q]
    exact round_move s (d := l[0]!.length) (by omega) (fun i hi => (t1 i hi).1) (fun j hj => by have := h4.get hj; omega)
/-- Centres of what is moved are the centres, moved. -/
theorem train_move (s : Nat → Int) {l : Vs} {k r : Int} (h : trainE l k r = 0) (x : Int) : trainV (shVs s l) k.toNat r.toNat x = shVs s (trainV l k.toNat r.toNat x) := by
  unfold trainV
  obtain ⟨h1, h2, h3, h4⟩ := trainE_zero.1 h
  rw [drawn_move s x (by omega), rounds_move s h x]
theorem vecsTo_len {l : Vs} {d : Nat} (h1 : 1 ≤ d ∧ d ≤ 64) (hl : ∀ j, j < l.length → l[j]!.length = d) : ∀ q, q ≤ l.length → vecsTo l (d : Int) q = 0 ∨ vecsTo l (d : Int) q = 31
  | 0, _ => .inl rfl
  | q + 1, hq => by
    rw [vecsTo]
    split
    · unfold chk
      rw [if_pos ⟨by omega, by omega, by rw [hl q (by omega)]⟩]
      unfold vErr; split <;> simp
    · exact vecsTo_len h1 hl q (by omega)
theorem trainE_move (s : Nat → Int) {l : Vs} {k r : Int} (h : trainE l k r = 0) : trainE (shVs s l) k r = 0 ∨ trainE (shVs s l) k r = 31 := by
  obtain ⟨h1, h2, h3, h4⟩ := trainE_zero.1 h
  have h5 := h4.get (i := 0) (by omega)
  unfold trainE
  rw [if_pos h1, shVs_len, if_pos h2, if_neg (by omega), shVs_get s (show 0 < l.length by omega), shV_len]
  exact vecsTo_len ⟨h5.1, h5.2.1⟩ (fun j hj => by rw [shVs_len] at hj; rw [shVs_get s hj, shV_len]; have := h4.get hj; omega) _ (Nat.le_refl _)
end Go.Proofs.Ytgglofeliffgbaa
