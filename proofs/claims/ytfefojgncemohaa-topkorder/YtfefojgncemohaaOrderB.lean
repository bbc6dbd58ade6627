/- TopkOrder: the walk. -/
import Derived.Test.YtfefojgncemohaaOrderA
namespace Go.Proofs.Ytfefojgncemohaa
open Go.RowKit Go.Sort
attribute [local go_sem ↓] Go.wp_at_zero Go.wp_at_succ

set_option maxHeartbeats 2000000 in
theorem order_out (k : Int) (a : Option Addr) (n cap : Nat) (cut : Int) (hb : 3000 < n ∨ k < 1 ∨ 64 < k) (w : World) :
    Calls Try.prog 6 #[.int .i64 k, .slice a n cap, .int .i64 cut] w fun e w' => e = .returned (.bool true) ∧ Gr w w' := by
  by_cases h1 : 3000 < n
  · have hni : (3000 : Int) < (n : Int) := by omega
    clear hb h1
    go_enter Try.func6, Try.ntmps6
    go_wp2_with fail
    refine (awake_any _).mono ?_
    rintro e w1 ⟨rfl, g1⟩
    go_wp2
    go_ret
    exact ⟨rfl, g1⟩
  have hni : ¬ (3000 : Int) < (n : Int) := by omega
  by_cases h2 : k < 1
  · clear hb h1
    go_enter Try.func6, Try.ntmps6
    go_wp2_with fail
    refine (awake_any _).mono ?_
    rintro e w1 ⟨rfl, g1⟩
    go_wp2
    go_ret
    exact ⟨rfl, g1⟩
  have h3 : 64 < k := by omega
  clear hb h1
  go_enter Try.func6, Try.ntmps6
  go_wp2_with fail
  refine (awake_any _).mono ?_
  rintro e w1 ⟨rfl, g1⟩
  go_wp2
  go_ret
  exact ⟨rfl, g1⟩

set_option maxHeartbeats 8000000 in
set_option maxRecDepth 100000 in
theorem order_pos (k : Nat) (k1 : 1 ≤ k) (k2 : k ≤ 64) {w : World} {v : Value} {L : List Ht} (hr : Rd w v L) (hn : L.length ≤ 3000) (cut : Int) (h0 : 0 ≤ cut) (h1 : cut < 9223372036854775808) (hcap : ∀ a cap, v = .slice a L.length cap → L.length ≤ cap) :
    Calls Try.prog 6 #[.int .i64 (k : Int), v, .int .i64 cut] w fun e w' => e = .returned (.bool true) ∧ Gr w w' := by
  have HR : Hid (Rd w v L) := hr
  obtain ⟨a, cap, rfl, ha⟩ := hr.form
  have A : Hid (∀ i, i < L.length → ∃ b o, a = some ⟨b, o, none⟩ ∧ Lies w b o L) := ha
  obtain ⟨n, hN⟩ : ∃ n, n = L.length := ⟨_, rfl⟩
  have N : Hid (n = L.length) := hN
  have HC : Hid (n ≤ cap) := by unfold Hid; rw [hN]; exact hcap a cap rfl
  rw [← hN] at HR hn ⊢
  obtain ⟨c, hc⟩ : ∃ c : Nat, cut % ((n : Int) + 1) = (c : Int) := ⟨(cut % ((n : Int) + 1)).toNat, by
    rw [Int.toNat_of_nonneg (Int.emod_nonneg _ (by omega))]⟩
  have hcn : c ≤ n := by have := Int.emod_lt_of_pos (cut) (show 0 < (n : Int) + 1 by omega); omega
  have hnew := new_ok (k : Int) (by omega) (by omega) w
  have hnew2 := new_ok (k : Int) (by omega) (by omega) (w.alloc (.cells #[.int .i64 (k : Int), .slice none 0 0] 55))
  have T0 : Hid (Two w ((w.alloc (.cells #[.int .i64 (k : Int), .slice none 0 0] 55)).alloc (.cells #[.int .i64 (k : Int), .slice none 0 0] 55)) w.heap.size (w.heap.size + 1) k (.slice none 0 0) (.slice none 0 0) [] []) :=
    ⟨(st_new k k1 k2 w w (Below.refl _ _)).on (gr_alloc (Below.refl _ _) _), by have := st_new k k1 k2 w (w.alloc (.cells #[.int .i64 (k : Int), .slice none 0 0] 55)) (gr_alloc (Below.refl _ _) _); rwa [World.size_alloc] at this, by omega, by simp [Value.ownBlock], by simp [Value.ownBlock], by simp [Value.ownBlock]⟩
  rw [World.size_alloc] at hnew2
  have hni : ¬ (3000 : Int) < (n : Int) := by omega
  have hki : ¬ (k : Int) < 1 := by omega
  have hki2 : ¬ 64 < (k : Int) := by omega
  clear ha hN hr hcap
  go_enter Try.func6, Try.ntmps6
  go_wp2_with fail
  refine hnew.mono ?_
  rintro e w1 ⟨rfl, e1⟩
  subst e1
  go_wp2_with fail
  refine hnew2.mono ?_
  rintro e w1 ⟨rfl, e1⟩
  subst e1
  clear hnew hnew2
  generalize (w.alloc (.cells #[.int .i64 (k : Int), .slice none 0 0] 55)).alloc (.cells #[.int .i64 (k : Int), .slice none 0 0] 55) = w1 at *
  go_wp2
  clear hni hki hki2 hc h0 h1
  go_loopw [11] (fun iv w' => ∃ (r : Nat) (v1 v2 : Value), iv = .int .i64 (r : Int) ∧ r ≤ n ∧ Hid (Two w w' w.heap.size (w.heap.size + 1) k v1 v2 (firsts k (L.take r)) (firsts k (back L c r)))) (fun iv _ => n - (intOf iv).toNat)
  case atStart =>
    refine ⟨0, .slice none 0 0, .slice none 0 0, rfl, Nat.zero_le _, ?_⟩
    have h := T0.out
    rw [List.take_zero, show back L c 0 = [] from rfl, firsts_nil]
    exact h
  case round =>
    obtain ⟨r, v1, v2, rfl, hr, X⟩ := hrel
    by_cases hrn : r < n
    · have hri : (r : Int) < (n : Int) := by omega
      obtain ⟨b, o, ea, hl⟩ := A.out r (by have := N.out; omega)
      subst ea
      have LX : Hid (r < L.length ∧ Lies w b o L) := ⟨by have := N.out; omega, hl⟩
      obtain ⟨x0, x1, x2⟩ := (LX.out.2.gr X.out.a.gr) r LX.out.1
      obtain ⟨x, hx⟩ : ∃ x, x = L[r]! := ⟨_, rfl⟩
      have XX : Hid (x = L[r]!) := hx
      rw [← hx] at x0 x1 x2
      clear hx hl
      go_wp2_with fail
      refine (offer_has X.out.a.has x).mono ?_
      rintro e w2 ⟨rfl, oo⟩
      obtain ⟨v1', t2⟩ := X.out.offer oo
      have T2 : Hid (Two w w2 w.heap.size (w.heap.size + 1) k v1' v2 (keep k (firsts k (L.take r)) x) (firsts k (back L c r))) := t2
      clear oo t2 x0 x1 x2
      obtain ⟨j, hj⟩ : ∃ j : Nat, j = (c + n - 1 - r) % n := ⟨_, rfl⟩
      have hjn : j < n := by rw [hj]; exact Nat.mod_lt _ (by omega)
      have hji : ((c : Int) + (n : Int) - 1 - (r : Int)) % (n : Int) = (j : Int) := by
        rw [hj]
        have : (c : Int) + (n : Int) - 1 - (r : Int) = ((c + n - 1 - r : Nat) : Int) := by omega
        rw [this]; rfl
      have hji2 : (j : Int) < (n : Int) := by omega
      have J : Hid (j = (c + n - 1 - r) % n ∧ j < L.length) := ⟨hj, by have := N.out; omega⟩
      clear hj
      obtain ⟨y0, y1, y2⟩ := (LX.out.2.gr T2.out.a.gr) j J.out.2
      obtain ⟨y, hy⟩ : ∃ y, y = L[j]! := ⟨_, rfl⟩
      have YY : Hid (y = L[j]!) := hy
      rw [← hy] at y0 y1 y2
      clear hy
      go_wp2_with fail
      refine (offer_has T2.out.b.has y).mono ?_
      rintro e w3 ⟨rfl, oo⟩
      obtain ⟨v2', t3⟩ := T2.out.swap.offer oo
      have T3 : Hid (Two w w3 w.heap.size (w.heap.size + 1) k v1' v2' (keep k (firsts k (L.take r)) x) (keep k (firsts k (back L c r)) y)) := t3.swap
      clear oo t3 y0 y1 y2 hji hji2
      go_wp2
      go_roundw
      case rel =>
        refine ⟨r + 1, v1', v2', by simp, hrn, ?_⟩
        have h := T3.out
        rw [List.take_succ_eq_append_getElem LX.out.1, firsts_snoc, ← getElem!_pos L r LX.out.1, ← XX.out, back_succ, firsts_snoc, ← N.out, ← J.out.1, ← YY.out]
        exact h
      case measure => simp [intOf]; omega
    · have hri : ¬ (r : Int) < (n : Int) := by omega
      have RE : Hid (r = n) := by unfold Hid; omega
      have hc0 : (0 : Int) ≤ (c : Int) := by omega
      clear hrn hr
      rcases HR.out with ⟨e1, e2⟩ | ⟨a0, cap0, e1, e2⟩ | ⟨b, o, cap0, e1, hl⟩
      · simp at e1
        obtain ⟨rfl, rfl, rfl⟩ := e1
        have E : Hid (L = []) := e2
        obtain rfl : c = 0 := by omega
        clear e2
        have TA : Hid (Two w wr w.heap.size (w.heap.size + 1) k v1 v2 (firsts k L) (firsts k L)) := by
          have h1 := X.out
          rw [List.take_of_length_le (by have := N.out; have := RE.out; omega), show r = L.length by have := N.out; have := RE.out; omega, firsts_perm k (back_all L 0 (by have := N.out; omega))] at h1
          exact h1
        go_wp2_with fail
        refine (merge_one k k1 k2 (l := L.take 0) 30 (by rw [E.out]; exact .inl ⟨rfl, rfl⟩) (by rw [List.length_take]; have := N.out; omega)).mono ?_
        rintro e w1 ⟨x1, rfl, o1⟩
        obtain ⟨a1, c1, hx1⟩ := o1.len
        obtain ⟨q1, hq1⟩ : ∃ q, q = (firsts k (L.take 0)).length := ⟨_, rfl⟩
        rw [← hq1] at hx1
        subst hx1
        clear hq1
        have O1 : Hid (Gr wr w1 ∧ Rd w1 (.slice a1 q1 c1) (firsts k (L.take 0))) := ⟨gr_trans (gr_alloc (Below.refl _ _) _) o1.2.1, own_rd o1.1⟩
        clear o1
        go_wp2_with fail
        refine (merge_one k k1 k2 (l := L.drop 0) 30 (by rw [E.out]; exact .inl ⟨rfl, rfl⟩) (by rw [List.length_drop]; have := N.out; omega)).mono ?_
        rintro e w2 ⟨x2, rfl, o2⟩
        obtain ⟨a2, c2, hx2⟩ := o2.len
        obtain ⟨q2, hq2⟩ : ∃ q, q = (firsts k (L.drop 0)).length := ⟨_, rfl⟩
        rw [← hq2] at hx2
        subst hx2
        clear hq2
        have O2 : Hid (Gr w1 w2 ∧ Rd w2 (.slice a2 q2 c2) (firsts k (L.drop 0))) := ⟨gr_trans (gr_alloc (Below.refl _ _) _) o2.2.1, own_rd o2.1⟩
        clear o2
        go_wp2_with fail
        refine (merge_two k k1 k2 (W := w2) 30 (O1.out.2.gr O2.out.1) O2.out.2 (by rw [firsts_len, firsts_len]; omega)).mono ?_
        rintro e w3 ⟨x3, rfl, o3⟩
        have O3 : Hid (Gr w2 w3 ∧ Rd w3 x3 (firsts k L)) := ⟨gr_trans (gr_alloc (Below.refl _ _) _) o3.2.1, by
          have h := own_rd o3.1
          rw [show (firsts k (firsts k (L.take 0) ++ firsts k (L.drop 0))).toArray.toList = firsts k L by rw [firsts_parts, List.take_append_drop]] at h
          exact h⟩
        clear o3
        have T3 : Hid (Two w w3 w.heap.size (w.heap.size + 1) k v1 v2 (firsts k L) (firsts k L)) := TA.out.on (gr_trans (gr_trans O1.out.1 O2.out.1) O3.out.1)
        go_wp2_with fail
        refine (list_has T3.out.a.has).mono ?_
        rintro e w4 ⟨x4, rfl, o4⟩
        obtain ⟨a4, c4, rfl⟩ := o4.len
        obtain ⟨q, hq⟩ : ∃ q, q = (firsts k L).length := ⟨_, rfl⟩
        rw [← hq] at o4 ⊢
        have O4 : Hid (Gr w3 w4 ∧ Rd w4 (.slice a4 q c4) (firsts k L)) := ⟨o4.2.1, own_rd o4.1⟩
        have hqm : (q : Int) = min (k : Int) 0 := by rw [hq, firsts_len]; have := N.out; omega
        have QL : Hid ((firsts k L).length ≤ 4000) := by unfold Hid; rw [firsts_len]; omega
        clear o4 hq
        go_wp2_with fail
        refine (awake_any _).mono ?_
        rintro e w5 ⟨rfl, g5⟩
        have G5 : Hid (Gr w4 w5) := g5
        have T5 : Hid (Two w w5 w.heap.size (w.heap.size + 1) k v1 v2 (firsts k L) (firsts k L)) := T3.out.on (gr_trans O4.out.1 g5)
        clear g5
        go_wp2_with fail
        refine (list_has T5.out.b.has).mono ?_
        rintro e w6 ⟨x6, rfl, o6⟩
        have O6 : Hid (Gr w5 w6 ∧ Rd w6 x6 (firsts k L)) := ⟨o6.2.1, own_rd o6.1⟩
        clear o6
        have hs1 := same_c O6.out.2 (O4.out.2.gr (gr_trans G5.out O6.out.1)) QL.out
        rw [decide_eq_true rfl] at hs1
        go_wp2_with fail
        refine hs1.mono ?_
        rintro e w7 ⟨rfl, g7⟩
        clear hs1
        have hs2 := same_c (O3.out.2.gr (gr_trans (gr_trans O4.out.1 (gr_trans G5.out O6.out.1)) g7)) (O4.out.2.gr (gr_trans (gr_trans G5.out O6.out.1) g7)) QL.out
        rw [decide_eq_true rfl] at hs2
        go_wp2_with fail
        refine hs2.mono ?_
        rintro e w8 ⟨rfl, g8⟩
        clear hs2
        go_wp2
        go_ret
        exact ⟨rfl, gr_trans T5.out.a.gr (gr_trans (gr_trans O6.out.1 g7) g8)⟩
      · simp at e1
        obtain ⟨rfl, rfl, rfl⟩ := e1
        have E : Hid (L = []) := e2
        obtain rfl : c = 0 := by omega
        clear e2
        have TA : Hid (Two w wr w.heap.size (w.heap.size + 1) k v1 v2 (firsts k L) (firsts k L)) := by
          have h1 := X.out
          rw [List.take_of_length_le (by have := N.out; have := RE.out; omega), show r = L.length by have := N.out; have := RE.out; omega, firsts_perm k (back_all L 0 (by have := N.out; omega))] at h1
          exact h1
        go_wp2_with fail
        refine (merge_one k k1 k2 (l := L.take 0) 30 (by rw [E.out]; exact .inr (.inl ⟨_, _, rfl, rfl⟩)) (by rw [List.length_take]; have := N.out; omega)).mono ?_
        rintro e w1 ⟨x1, rfl, o1⟩
        obtain ⟨a1, c1, hx1⟩ := o1.len
        obtain ⟨q1, hq1⟩ : ∃ q, q = (firsts k (L.take 0)).length := ⟨_, rfl⟩
        rw [← hq1] at hx1
        subst hx1
        clear hq1
        have O1 : Hid (Gr wr w1 ∧ Rd w1 (.slice a1 q1 c1) (firsts k (L.take 0))) := ⟨gr_trans (gr_alloc (Below.refl _ _) _) o1.2.1, own_rd o1.1⟩
        clear o1
        go_wp2_with fail
        refine (merge_one k k1 k2 (l := L.drop 0) 30 (by rw [E.out]; exact .inr (.inl ⟨_, _, rfl, rfl⟩)) (by rw [List.length_drop]; have := N.out; omega)).mono ?_
        rintro e w2 ⟨x2, rfl, o2⟩
        obtain ⟨a2, c2, hx2⟩ := o2.len
        obtain ⟨q2, hq2⟩ : ∃ q, q = (firsts k (L.drop 0)).length := ⟨_, rfl⟩
        rw [← hq2] at hx2
        subst hx2
        clear hq2
        have O2 : Hid (Gr w1 w2 ∧ Rd w2 (.slice a2 q2 c2) (firsts k (L.drop 0))) := ⟨gr_trans (gr_alloc (Below.refl _ _) _) o2.2.1, own_rd o2.1⟩
        clear o2
        go_wp2_with fail
        refine (merge_two k k1 k2 (W := w2) 30 (O1.out.2.gr O2.out.1) O2.out.2 (by rw [firsts_len, firsts_len]; omega)).mono ?_
        rintro e w3 ⟨x3, rfl, o3⟩
        have O3 : Hid (Gr w2 w3 ∧ Rd w3 x3 (firsts k L)) := ⟨gr_trans (gr_alloc (Below.refl _ _) _) o3.2.1, by
          have h := own_rd o3.1
          rw [show (firsts k (firsts k (L.take 0) ++ firsts k (L.drop 0))).toArray.toList = firsts k L by rw [firsts_parts, List.take_append_drop]] at h
          exact h⟩
        clear o3
        have T3 : Hid (Two w w3 w.heap.size (w.heap.size + 1) k v1 v2 (firsts k L) (firsts k L)) := TA.out.on (gr_trans (gr_trans O1.out.1 O2.out.1) O3.out.1)
        go_wp2_with fail
        refine (list_has T3.out.a.has).mono ?_
        rintro e w4 ⟨x4, rfl, o4⟩
        obtain ⟨a4, c4, rfl⟩ := o4.len
        obtain ⟨q, hq⟩ : ∃ q, q = (firsts k L).length := ⟨_, rfl⟩
        rw [← hq] at o4 ⊢
        have O4 : Hid (Gr w3 w4 ∧ Rd w4 (.slice a4 q c4) (firsts k L)) := ⟨o4.2.1, own_rd o4.1⟩
        have hqm : (q : Int) = min (k : Int) 0 := by rw [hq, firsts_len]; have := N.out; omega
        have QL : Hid ((firsts k L).length ≤ 4000) := by unfold Hid; rw [firsts_len]; omega
        clear o4 hq
        go_wp2_with fail
        refine (awake_any _).mono ?_
        rintro e w5 ⟨rfl, g5⟩
        have G5 : Hid (Gr w4 w5) := g5
        have T5 : Hid (Two w w5 w.heap.size (w.heap.size + 1) k v1 v2 (firsts k L) (firsts k L)) := T3.out.on (gr_trans O4.out.1 g5)
        clear g5
        go_wp2_with fail
        refine (list_has T5.out.b.has).mono ?_
        rintro e w6 ⟨x6, rfl, o6⟩
        have O6 : Hid (Gr w5 w6 ∧ Rd w6 x6 (firsts k L)) := ⟨o6.2.1, own_rd o6.1⟩
        clear o6
        have hs1 := same_c O6.out.2 (O4.out.2.gr (gr_trans G5.out O6.out.1)) QL.out
        rw [decide_eq_true rfl] at hs1
        go_wp2_with fail
        refine hs1.mono ?_
        rintro e w7 ⟨rfl, g7⟩
        clear hs1
        have hs2 := same_c (O3.out.2.gr (gr_trans (gr_trans O4.out.1 (gr_trans G5.out O6.out.1)) g7)) (O4.out.2.gr (gr_trans (gr_trans G5.out O6.out.1) g7)) QL.out
        rw [decide_eq_true rfl] at hs2
        go_wp2_with fail
        refine hs2.mono ?_
        rintro e w8 ⟨rfl, g8⟩
        clear hs2
        go_wp2
        go_ret
        exact ⟨rfl, gr_trans T5.out.a.gr (gr_trans (gr_trans O6.out.1 g7) g8)⟩
      · simp at e1
        obtain ⟨rfl, hnn, rfl⟩ := e1
        have LL : Hid (Lies w b o L ∧ n ≤ cap) := ⟨hl, HC.out⟩
        clear hnn hl
        have hcc : (c : Int) ≤ (cap : Int) := by have := LL.out.2; omega
        have hcn' : (c : Int) ≤ (n : Int) := by omega
        have hnc : (n : Int) ≤ (cap : Int) := by have := LL.out.2; omega
        by_cases hlt' : c < cap
        · have hci : (c : Int) < (cap : Int) := by omega
          have TA : Hid (Two w wr w.heap.size (w.heap.size + 1) k v1 v2 (firsts k L) (firsts k L)) := by
            have h1 := X.out
            rw [List.take_of_length_le (by have := N.out; have := RE.out; omega), show r = L.length by have := N.out; have := RE.out; omega, firsts_perm k (back_all L c (by have := N.out; omega))] at h1
            exact h1
          go_wp2_with fail
          refine (merge_one k k1 k2 (l := L.take c) 30 (rd_take (LL.out.1.gr TA.out.a.gr) N.out hcn) (by rw [List.length_take]; have := N.out; omega)).mono ?_
          rintro e w1 ⟨x1, rfl, o1⟩
          obtain ⟨a1, c1, hx1⟩ := o1.len
          obtain ⟨q1, hq1⟩ : ∃ q, q = (firsts k (L.take c)).length := ⟨_, rfl⟩
          rw [← hq1] at hx1
          subst hx1
          clear hq1
          have O1 : Hid (Gr wr w1 ∧ Rd w1 (.slice a1 q1 c1) (firsts k (L.take c))) := ⟨gr_trans (gr_alloc (Below.refl _ _) _) o1.2.1, own_rd o1.1⟩
          clear o1
          go_wp2_with fail
          refine (merge_one k k1 k2 (l := L.drop c) 30 (rd_drop (LL.out.1.gr (gr_trans TA.out.a.gr O1.out.1)) N.out) (by rw [List.length_drop]; have := N.out; omega)).mono ?_
          rintro e w2 ⟨x2, rfl, o2⟩
          obtain ⟨a2, c2, hx2⟩ := o2.len
          obtain ⟨q2, hq2⟩ : ∃ q, q = (firsts k (L.drop c)).length := ⟨_, rfl⟩
          rw [← hq2] at hx2
          subst hx2
          clear hq2
          have O2 : Hid (Gr w1 w2 ∧ Rd w2 (.slice a2 q2 c2) (firsts k (L.drop c))) := ⟨gr_trans (gr_alloc (Below.refl _ _) _) o2.2.1, own_rd o2.1⟩
          clear o2
          go_wp2_with fail
          refine (merge_two k k1 k2 (W := w2) 30 (O1.out.2.gr O2.out.1) O2.out.2 (by rw [firsts_len, firsts_len]; omega)).mono ?_
          rintro e w3 ⟨x3, rfl, o3⟩
          have O3 : Hid (Gr w2 w3 ∧ Rd w3 x3 (firsts k L)) := ⟨gr_trans (gr_alloc (Below.refl _ _) _) o3.2.1, by
            have h := own_rd o3.1
            rw [show (firsts k (firsts k (L.take c) ++ firsts k (L.drop c))).toArray.toList = firsts k L by rw [firsts_parts, List.take_append_drop]] at h
            exact h⟩
          clear o3
          have T3 : Hid (Two w w3 w.heap.size (w.heap.size + 1) k v1 v2 (firsts k L) (firsts k L)) := TA.out.on (gr_trans (gr_trans O1.out.1 O2.out.1) O3.out.1)
          go_wp2_with fail
          refine (list_has T3.out.a.has).mono ?_
          rintro e w4 ⟨x4, rfl, o4⟩
          obtain ⟨a4, c4, rfl⟩ := o4.len
          obtain ⟨q, hq⟩ : ∃ q, q = (firsts k L).length := ⟨_, rfl⟩
          rw [← hq] at o4 ⊢
          have O4 : Hid (Gr w3 w4 ∧ Rd w4 (.slice a4 q c4) (firsts k L)) := ⟨o4.2.1, own_rd o4.1⟩
          have hqm : (q : Int) = min (k : Int) (n : Int) := by rw [hq, firsts_len]; have := N.out; omega
          have QL : Hid ((firsts k L).length ≤ 4000) := by unfold Hid; rw [firsts_len]; omega
          clear o4 hq
          go_wp2_with fail
          refine (awake_any _).mono ?_
          rintro e w5 ⟨rfl, g5⟩
          have G5 : Hid (Gr w4 w5) := g5
          have T5 : Hid (Two w w5 w.heap.size (w.heap.size + 1) k v1 v2 (firsts k L) (firsts k L)) := T3.out.on (gr_trans O4.out.1 g5)
          clear g5
          go_wp2_with fail
          refine (list_has T5.out.b.has).mono ?_
          rintro e w6 ⟨x6, rfl, o6⟩
          have O6 : Hid (Gr w5 w6 ∧ Rd w6 x6 (firsts k L)) := ⟨o6.2.1, own_rd o6.1⟩
          clear o6
          have hs1 := same_c O6.out.2 (O4.out.2.gr (gr_trans G5.out O6.out.1)) QL.out
          rw [decide_eq_true rfl] at hs1
          go_wp2_with fail
          refine hs1.mono ?_
          rintro e w7 ⟨rfl, g7⟩
          clear hs1
          have hs2 := same_c (O3.out.2.gr (gr_trans (gr_trans O4.out.1 (gr_trans G5.out O6.out.1)) g7)) (O4.out.2.gr (gr_trans (gr_trans G5.out O6.out.1) g7)) QL.out
          rw [decide_eq_true rfl] at hs2
          go_wp2_with fail
          refine hs2.mono ?_
          rintro e w8 ⟨rfl, g8⟩
          clear hs2
          go_wp2
          go_ret
          exact ⟨rfl, gr_trans T5.out.a.gr (gr_trans (gr_trans O6.out.1 g7) g8)⟩
        · have hce : c = cap := by have := LL.out.2; omega
          have hne : c = n := by have := LL.out.2; omega
          have E : Hid (L.drop c = []) := List.drop_of_length_le (by have := N.out; omega)
          subst hce
          subst hne
          clear hlt' hcc hcn' hnc
          have TA : Hid (Two w wr w.heap.size (w.heap.size + 1) k v1 v2 (firsts k L) (firsts k L)) := by
            have h1 := X.out
            rw [List.take_of_length_le (by have := N.out; have := RE.out; omega), show r = L.length by have := N.out; have := RE.out; omega, firsts_perm k (back_all L c (by have := N.out; omega))] at h1
            exact h1
          go_wp2_with fail
          refine (merge_one k k1 k2 (l := L.take c) 30 (rd_take (LL.out.1.gr TA.out.a.gr) N.out (Nat.le_refl _)) (by rw [List.length_take]; have := N.out; omega)).mono ?_
          rintro e w1 ⟨x1, rfl, o1⟩
          obtain ⟨a1, c1, hx1⟩ := o1.len
          obtain ⟨q1, hq1⟩ : ∃ q, q = (firsts k (L.take c)).length := ⟨_, rfl⟩
          rw [← hq1] at hx1
          subst hx1
          clear hq1
          have O1 : Hid (Gr wr w1 ∧ Rd w1 (.slice a1 q1 c1) (firsts k (L.take c))) := ⟨gr_trans (gr_alloc (Below.refl _ _) _) o1.2.1, own_rd o1.1⟩
          clear o1
          go_wp2_with fail
          refine (merge_one k k1 k2 (l := L.drop c) 30 (by rw [E.out]; exact .inr (.inl ⟨⟨b, o, none⟩, 0, rfl, rfl⟩)) (by rw [List.length_drop]; have := N.out; omega)).mono ?_
          rintro e w2 ⟨x2, rfl, o2⟩
          obtain ⟨a2, c2, hx2⟩ := o2.len
          obtain ⟨q2, hq2⟩ : ∃ q, q = (firsts k (L.drop c)).length := ⟨_, rfl⟩
          rw [← hq2] at hx2
          subst hx2
          clear hq2
          have O2 : Hid (Gr w1 w2 ∧ Rd w2 (.slice a2 q2 c2) (firsts k (L.drop c))) := ⟨gr_trans (gr_alloc (Below.refl _ _) _) o2.2.1, own_rd o2.1⟩
          clear o2
          go_wp2_with fail
          refine (merge_two k k1 k2 (W := w2) 30 (O1.out.2.gr O2.out.1) O2.out.2 (by rw [firsts_len, firsts_len]; omega)).mono ?_
          rintro e w3 ⟨x3, rfl, o3⟩
          have O3 : Hid (Gr w2 w3 ∧ Rd w3 x3 (firsts k L)) := ⟨gr_trans (gr_alloc (Below.refl _ _) _) o3.2.1, by
            have h := own_rd o3.1
            rw [show (firsts k (firsts k (L.take c) ++ firsts k (L.drop c))).toArray.toList = firsts k L by rw [firsts_parts, List.take_append_drop]] at h
            exact h⟩
          clear o3
          have T3 : Hid (Two w w3 w.heap.size (w.heap.size + 1) k v1 v2 (firsts k L) (firsts k L)) := TA.out.on (gr_trans (gr_trans O1.out.1 O2.out.1) O3.out.1)
          go_wp2_with fail
          refine (list_has T3.out.a.has).mono ?_
          rintro e w4 ⟨x4, rfl, o4⟩
          obtain ⟨a4, c4, rfl⟩ := o4.len
          obtain ⟨q, hq⟩ : ∃ q, q = (firsts k L).length := ⟨_, rfl⟩
          rw [← hq] at o4 ⊢
          have O4 : Hid (Gr w3 w4 ∧ Rd w4 (.slice a4 q c4) (firsts k L)) := ⟨o4.2.1, own_rd o4.1⟩
          have hqm : (q : Int) = min (k : Int) (c : Int) := by rw [hq, firsts_len]; have := N.out; omega
          have QL : Hid ((firsts k L).length ≤ 4000) := by unfold Hid; rw [firsts_len]; omega
          clear o4 hq
          go_wp2_with fail
          refine (awake_any _).mono ?_
          rintro e w5 ⟨rfl, g5⟩
          have G5 : Hid (Gr w4 w5) := g5
          have T5 : Hid (Two w w5 w.heap.size (w.heap.size + 1) k v1 v2 (firsts k L) (firsts k L)) := T3.out.on (gr_trans O4.out.1 g5)
          clear g5
          go_wp2_with fail
          refine (list_has T5.out.b.has).mono ?_
          rintro e w6 ⟨x6, rfl, o6⟩
          have O6 : Hid (Gr w5 w6 ∧ Rd w6 x6 (firsts k L)) := ⟨o6.2.1, own_rd o6.1⟩
          clear o6
          have hs1 := same_c O6.out.2 (O4.out.2.gr (gr_trans G5.out O6.out.1)) QL.out
          rw [decide_eq_true rfl] at hs1
          go_wp2_with fail
          refine hs1.mono ?_
          rintro e w7 ⟨rfl, g7⟩
          clear hs1
          have hs2 := same_c (O3.out.2.gr (gr_trans (gr_trans O4.out.1 (gr_trans G5.out O6.out.1)) g7)) (O4.out.2.gr (gr_trans (gr_trans G5.out O6.out.1) g7)) QL.out
          rw [decide_eq_true rfl] at hs2
          go_wp2_with fail
          refine hs2.mono ?_
          rintro e w8 ⟨rfl, g8⟩
          clear hs2
          go_wp2
          go_ret
          exact ⟨rfl, gr_trans T5.out.a.gr (gr_trans (gr_trans O6.out.1 g7) g8)⟩

end Go.Proofs.Ytfefojgncemohaa
