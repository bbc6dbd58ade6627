/- Distances, part by part; what a code says, how far it is, and said again. -/
import Derived.Test.YtblfmhdcgmkpgaaPM
namespace Go.Proofs.Ytblfmhdcgmkpgaa
open Go.RowKit
theorem gap_abs (x y : Int) : gap x x y = (x - y).natAbs := by unfold gap; split <;> (try split) <;> omega
theorem gap_comm (x y : Int) : gap x x y = gap y y x := by rw [gap_abs, gap_abs]; omega
theorem gap_move (x y n : Int) : gap (x + n) (x + n) (y + n) = gap x x y := by rw [gap_abs, gap_abs]; omega
theorem gap_two (x y : Int) : gap (2 * x) (2 * x) (2 * y) = 2 * gap x x y := by rw [gap_abs, gap_abs]; omega
theorem sumN_ext {f g : Nat → Nat} {n : Nat} (h : ∀ i, i < n → f i = g i) : sumN f n = sumN g n := by
  induction n with
  | zero => rfl
  | succ n ih => simp only [sumN]; rw [ih (fun i hi => h i (by omega)), h n (by omega)]
theorem sumN_mono {f g : Nat → Nat} {n : Nat} (h : ∀ i, i < n → f i ≤ g i) : sumN f n ≤ sumN g n := by
  induction n with
  | zero => exact Nat.le_refl _
  | succ n ih =>
    have := ih (fun i hi => h i (by omega))
    have := h n (by omega)
    simp only [sumN]; omega
theorem sumN_zero {f : Nat → Nat} {n : Nat} (h : sumN f n = 0) {i : Nat} (hi : i < n) : f i = 0 := by
  induction n with
  | zero => omega
  | succ n ih =>
    simp only [sumN] at h
    by_cases e : i = n
    · subst e; omega
    · exact ih (by omega) (by omega)
theorem sumN_mul (f : Nat → Nat) (c n : Nat) : sumN (fun i => c * f i) n = c * sumN f n := by
  induction n with
  | zero => rfl
  | succ n ih => simp only [sumN]; rw [ih, Nat.mul_add]
theorem sumN_add (f g : Nat → Nat) (n : Nat) : sumN (fun i => f i + g i) n = sumN f n + sumN g n := by
  induction n with
  | zero => rfl
  | succ n ih => simp only [sumN]; rw [ih]; omega
theorem dst_comm {a b : List Int} (h : a.length = b.length) : dst a b = dst b a := by
  unfold dst; rw [h]
  exact sumN_ext (fun i _ => by rw [gap_comm])
theorem dst_zero {a b : List Int} (h : a.length = b.length) : dst a b = 0 ↔ a = b := by
  constructor
  · intro h0
    apply List.ext_getElem h
    intro i h1 h2
    have h3 := sumN_zero h0 h1
    have h4 : gap a[i]! a[i]! b[i]! = 0 := by
      rcases Nat.mul_eq_zero.1 h3 with h | h <;> exact h
    rw [gap_abs, getElem!_pos a i h1, getElem!_pos b i h2] at h4
    omega
  · rintro rfl
    unfold dst
    have : sumN (fun i => gap a[i]! a[i]! a[i]! * gap a[i]! a[i]! a[i]!) a.length = sumN (fun _ => 0) a.length := sumN_ext (fun i _ => by rw [gap_abs]; simp)
    rw [this]
    have h2 := sumN_le (fun _ => 0) 0 a.length (fun _ _ => Nat.le_refl _)
    omega
theorem sumN_join (f : Nat → Nat) (n : Nat) : ∀ k, sumN f (n + k) = sumN f n + sumN (fun t => f (n + t)) k
  | 0 => rfl
  | k + 1 => by
    have := sumN_join f n k
    show sumN f (n + k) + f (n + k) = sumN f n + (sumN (fun t => f (n + t)) k + f (n + k))
    omega
theorem sumN_parts (f : Nat → Nat) (s : Nat) : ∀ m, sumN f (m * s) = sumN (fun i => sumN (fun t => f (i * s + t)) s) m
  | 0 => by rw [Nat.zero_mul]; rfl
  | m + 1 => by
    rw [Nat.succ_mul, sumN_join, sumN_parts f s m]; rfl
/-- The distance is the sum of the parts' distances. -/
theorem dst_parts {x y : List Int} {m s : Nat} (hm : 1 ≤ m) (hx : x.length = m * s) (hy : y.length = m * s) : dst x y = sumN (fun i => dst (partV x m i) (partV y m i)) m := by
  unfold dst
  rw [hx, sumN_parts]
  refine sumN_ext fun i hi => ?_
  have ex : x.length / m = s := by rw [hx]; exact Nat.mul_div_cancel_left s (by omega)
  have ey : y.length / m = s := by rw [hy]; exact Nat.mul_div_cancel_left s (by omega)
  rw [partV_len x hi, ex]
  refine sumN_ext fun t ht => ?_
  rw [partV_get x hi (by omega), partV_get y hi (by omega), ex, ey]
theorem ext_parts {x y : List Int} {m s : Nat} (hm : 1 ≤ m) (hx : x.length = m * s) (hy : y.length = m * s) (h : ∀ i, i < m → partV x m i = partV y m i) : x = y := by
  refine (dst_zero (by omega)).1 ?_
  rw [dst_parts hm hx hy]
  have : sumN (fun i => dst (partV x m i) (partV y m i)) m = sumN (fun _ => 0) m := sumN_ext fun i hi => by
    rw [h i hi]; exact (dst_zero rfl).2 rfl
  rw [this]
  have z : ∀ n, sumN (fun _ => 0) n = 0 := fun n => by
    induction n with
    | zero => rfl
    | succ n ih => rw [sumN, ih]
  exact z m
/-- Part i of what a code says. -/
theorem decTo_part {code : List Int} {bs : List Vs} {m s k : Nat} (h : Bks bs m s k) (hp : Plc code (lensV bs)) : ∀ q, q ≤ m → ∀ i, i < q → ((decTo bs code q).drop (i * s)).take s = bs[i]![code[i]!.toNat]!
  | 0, _, i, hi => absurd hi (Nat.not_lt_zero _)
  | q + 1, hq, i, hi => by
    have hl := decTo_len h hp q (by omega)
    have h3 := (h.bk q (by omega)).2.get (i := code[q]!.toNat) (by have := hp.lt h (i := q) (by omega); have := (h.bk q (by omega)).1; omega)
    rw [decTo]
    by_cases e : i < q
    · have h1 : (i + 1) * s ≤ q * s := Nat.mul_le_mul_right s e
      rw [Nat.succ_mul] at h1
      rw [List.drop_append_of_le_length (by omega), List.take_append_of_le_length (by rw [List.length_drop]; omega)]
      exact decTo_part h hp q (by omega) i e
    · have e' : i = q := by omega
      subst e'
      rw [List.drop_left' (by omega), List.take_of_length_le (by omega)]
theorem decV_len {code : List Int} {bs : List Vs} {m s k : Nat} (h : Bks bs m s k) (hp : Plc code (lensV bs)) : (decV bs code).length = m * s := by
  have hc : code.length = m := by rw [hp.1, lensV_len, h.len]
  unfold decV; rw [hc]; exact decTo_len h hp m (Nat.le_refl _)
theorem decV_part {code : List Int} {bs : List Vs} {m s k : Nat} (h : Bks bs m s k) (hp : Plc code (lensV bs)) {i : Nat} (hi : i < m) : partV (decV bs code) m i = bs[i]![code[i]!.toNat]! := by
  have hc : code.length = m := by rw [hp.1, lensV_len, h.len]
  have hl := decV_len h hp
  have e : (decV bs code).length / m = s := by rw [hl]; exact Nat.mul_div_cancel_left s (by omega)
  unfold partV
  rw [e]
  unfold decV
  rw [hc]
  exact decTo_part h hp m (Nat.le_refl _) i hi
theorem decV_chk {code : List Int} {bs : List Vs} {m s k : Nat} (h : Bks bs m s k) (hp : Plc code (lensV bs)) : chk (decV bs code) ((m * s : Nat) : Int) = 0 := by
  have hc : code.length = m := by rw [hp.1, lensV_len, h.len]
  have hl := decV_len h hp
  have h1 := h.m1; have h2 := h.s1; have h3 := h.d64
  have h4 : s ≤ m * s := Nat.le_mul_of_pos_left s (by omega)
  have ha : ∀ q, q ≤ m → allR (decTo bs code q) = true := fun q => by
    induction q with
    | zero => intro _; rfl
    | succ q ih =>
      intro hq
      have h5 := (h.bk q (by omega)).2.get (i := code[q]!.toNat) (by have := hp.lt h (i := q) (by omega); have := (h.bk q (by omega)).1; omega)
      have h6 := ih (by omega)
      unfold allR at h6 ⊢
      rw [decTo, List.all_append, h6]
      exact h5.2.2.2
  unfold chk
  rw [if_pos ⟨by omega, by omega, by rw [hl]⟩]
  unfold vErr
  have : allR (decV bs code) = true := by unfold decV; rw [hc]; exact ha m (Nat.le_refl _)
  rw [this]; rfl
theorem estTo_is {code x : List Int} {bs : List Vs} {m s k : Nat} (h : Bks bs m s k) (hp : Plc code (lensV bs)) : ∀ q, q ≤ m → estTo (tabV bs x) code q = sumN (fun i => dst (partV x m i) bs[i]![code[i]!.toNat]!) q
  | 0, _ => rfl
  | q + 1, hq => by
    have hl := hp.lt h (i := q) (by omega)
    have hb := (h.bk q (by omega)).1
    rw [estTo, estTo_is h hp q (by omega), sumN, tabV_get bs x (by rw [h.len]; omega), h.len]
    congr 1
    rw [getElem!_pos _ _ (by rw [List.length_map]; omega), List.getElem_map, getElem!_pos bs[q]! _ (by omega)]
/-- The estimate of a code is the distance from what it says. -/
theorem est_dst {code x : List Int} {bs : List Vs} {m s k : Nat} (h : Bks bs m s k) (hp : Plc code (lensV bs)) (hx : chk x ((m * s : Nat) : Int) = 0) : estTo (tabV bs x) code code.length = dst (decV bs code) x := by
  have hc : code.length = m := by rw [hp.1, lensV_len, h.len]
  have hx' := chk_ok hx
  have hl := decV_len h hp
  rw [hc, estTo_is h hp m (Nat.le_refl _), dst_parts h.m1 hl (by omega)]
  refine sumN_ext fun i hi => ?_
  rw [decV_part h hp hi]
  have h3 := (h.bk i hi).2.get (i := code[i]!.toNat) (by have := hp.lt h hi; have := (h.bk i hi).1; omega)
  have h4 := partV_chk hi hx
  exact dst_comm (by rw [partV_len x hi]; omega)
/-- What stands in the books is said as itself. -/
theorem enc_part {bs : List Vs} {m s k : Nat} (h : Bks bs m s k) {x : List Int} (hx : chk x ((m * s : Nat) : Int) = 0) {i : Nat} (hi : i < m) {j : Nat} (hj : j < k) (he : bs[i]![j]! = partV x m i) :
    bs[i]![(encV bs x)[i]!.toNat]! = partV x m i := by
  have hb := h.bk i hi
  have hq := partV_chk hi hx
  have h1 := h.k1
  rw [encV_get bs x (by rw [h.len]; exact hi), h.len, Int.toNat_natCast]
  have hlt := nearP_lt (cs := bs[i]!) (by omega) (partV x m i)
  have l1 := nearTo_least bs[i]! (partV x m i) (bs[i]!.length - 1) j (by omega)
  have l2 := nearTo_is bs[i]! (partV x m i) (bs[i]!.length - 1)
  have e0 : dst bs[i]![j]! (partV x m i) = 0 := by rw [he]; exact (dst_zero rfl).2 rfl
  have h3 := hb.2.get hlt
  refine (dst_zero (by rw [partV_len x hi]; omega)).1 ?_
  unfold nearP
  omega
theorem said_again {code : List Int} {bs : List Vs} {m s k : Nat} (h : Bks bs m s k) (hp : Plc code (lensV bs)) : decV bs (encV bs (decV bs code)) = decV bs code := by
  have hx := decV_chk h hp
  have hp2 := encV_places h (decV bs code)
  refine ext_parts h.m1 (decV_len h hp2) (decV_len h hp) fun i hi => ?_
  rw [decV_part h hp2 hi]
  exact enc_part h hx hi (hp.lt h hi).2 (decV_part h hp hi).symm
/-- No other code says something nearer. -/
theorem nearest_code {code x : List Int} {bs : List Vs} {m s k : Nat} (h : Bks bs m s k) (hp : Plc code (lensV bs)) (hx : chk x ((m * s : Nat) : Int) = 0) : dst (decV bs (encV bs x)) x ≤ dst (decV bs code) x := by
  have hx' := chk_ok hx
  have hp2 := encV_places h x
  rw [dst_parts h.m1 (decV_len h hp2) (by omega), dst_parts h.m1 (decV_len h hp) (by omega)]
  refine sumN_mono fun i hi => ?_
  rw [decV_part h hp hi, decV_part h hp2 hi, encV_get bs x (by rw [h.len]; exact hi), h.len, Int.toNat_natCast]
  have hl := hp.lt h hi
  have hb := h.bk i hi
  have l1 := nearTo_least bs[i]! (partV x m i) (bs[i]!.length - 1) code[i]!.toNat (by omega)
  have l2 := nearTo_is bs[i]! (partV x m i) (bs[i]!.length - 1)
  unfold nearP
  omega
theorem sg_sg (i j t : Nat) : Rn.sg i j (Rn.sg i j t) = t := by
  unfold Rn.sg
  by_cases h1 : t = j
  · rw [if_pos h1]
    by_cases h2 : i = j
    · rw [if_pos h2]; omega
    · rw [if_neg h2, if_pos rfl]; omega
  · rw [if_neg h1]
    by_cases h2 : t = i
    · rw [if_pos h2, if_pos rfl]; omega
    · rw [if_neg h2, if_neg h1, if_neg h2]
theorem onto_pS (x : Int) (n : Nat) : ∀ k, k ≤ n - 1 → ∀ q, q < n → ∃ j, j < n ∧ Rn.pS x n k j = (q : Int)
  | 0, _, q, hq => ⟨q, hq, rfl⟩
  | k + 1, hk, q, hq => by
    obtain ⟨t, ht, e⟩ := onto_pS x n k (by omega) q hq
    have r1 := Int.emod_nonneg (Rn.mx (Rn.stN x (k + 1))) (b := ((n - 1 - k : Nat) : Int) + 1) (by omega)
    have r2 := Int.emod_lt_of_pos (Rn.mx (Rn.stN x (k + 1))) (b := ((n - 1 - k : Nat) : Int) + 1) (by omega)
    refine ⟨Rn.sg (n - 1 - k) (Rn.mx (Rn.stN x (k + 1)) % (((n - 1 - k : Nat) : Int) + 1)).toNat t, Rn.sg_lt (by omega) (by omega) ht, ?_⟩
    show Rn.swp _ _ _ _ = _
    rw [Rn.swp_sg, sg_sg]
    exact e
/-- Each vector of the training is said exactly, if there are as many codes as vectors, and no rounds. -/
theorem said_exactly {l : Vs} {m s k : Nat} (T : TrOk l m s k 0) (hk : k = l.length) (x : Int) {q : Nat} (hq : q < l.length) : decV (booksV l m k 0 x) (encV (booksV l m k 0 x) l[q]!) = l[q]! := by
  have h := T.bks x
  have hv := T.ok q hq
  have hv' := chk_ok hv
  have hp := encV_places h l[q]!
  refine ext_parts h.m1 (decV_len h hp) (by omega) fun i hi => ?_
  rw [decV_part h hp hi]
  have hcl := cutV_len l m i
  obtain ⟨j, hj, e⟩ := onto_pS (seedAt x i) (cutV l m i).length ((cutV l m i).length - 1) (Nat.le_refl _) q (by omega)
  refine enc_part h hv hi (j := j) (by omega) ?_
  rw [booksV_get l k 0 x hi]
  show (drawnV (cutV l m i) k (seedAt x i))[j]! = _
  rw [drawnV_get _ _ (by omega), e, Int.toNat_natCast, cutV_get l m i hq]
end Go.Proofs.Ytblfmhdcgmkpgaa
