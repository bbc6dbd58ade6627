/- topk.Merge. -/
import Derived.Test.YteaeaoekaoedoabTkTogether
namespace Go.Proofs.Yteaeaoekaoedoab.Tk
open Go.RowKit Go.Sort
attribute [local go_sem ↓] Go.wp_at_zero Go.wp_at_succ

theorem new_bad (k : Int) (hk : k < 1 ∨ 64 < k) (w : World) : Calls Try.prog 16 #[.int .i64 k] w fun e w' => e = .returned (.tuple #[.pointer none, .int .i64 1]) ∧ w' = w := by
  rcases hk with h | h
  · exact new_lo k h w
  · exact new_hi k h w
set_option maxHeartbeats 1000000 in
theorem merge_bad (k : Int) (hk : k < 1 ∨ 64 < k) (v : Value) (w : World) : Calls Try.prog 7 #[.int .i64 k, v] w fun e w' => e = .returned (.tuple #[.slice none 0 0, .int .i64 1]) ∧ w' = w := by
  have hc := new_bad k hk w
  clear hk
  go_enter Try.func7, Try.ntmps7
  go_wp2_with fail
  refine hc.mono ?_
  rintro e w' ⟨rfl, e2⟩
  subst e2
  clear hc
  go_wp2
  go_ret2
  exact ⟨rfl, rfl⟩

theorem Out.lies {w w' : World} {v : Value} {l : List Ht} (h : Out w w' v l) (h0 : 0 < l.length) : ∃ g cap, v = .slice (some ⟨g, 0, none⟩) l.length cap ∧ w.heap.size ≤ g ∧ g < w'.heap.size ∧ Lies w' g 0 l := by
  obtain ⟨ho, _, hg⟩ := h
  obtain ⟨g, cap, cur, e, hh, _⟩ := own_form ho (by simpa using h0)
  subst e
  exact ⟨g, cap, by simp, hg g rfl, (Array.getElem?_eq_some_iff.1 hh).1, by simpa using own_lies ho⟩
theorem Out.len {w w' : World} {v : Value} {l : List Ht} (h : Out w w' v l) : ∃ a cap, v = .slice a l.length cap := by
  obtain ⟨a, cap, e⟩ := (own_rd h.1).form'
  exact ⟨a, cap, by simpa using e⟩

set_option maxHeartbeats 2000000 in
set_option maxRecDepth 100000 in
theorem merge_c (k : Nat) (k1 : 1 ≤ k) (k2 : k ≤ 64) {w : World} {v : Value} {ls : List (List Ht)} (hv' : RdL w v ls) (hn : ls.length ≤ 4000) (ht : tot ls ≤ 4000) :
    Calls Try.prog 7 #[.int .i64 (k : Int), v] w fun e w' => ∃ v', e = .returned (.tuple #[v', .int .i64 0]) ∧ Out w w' v' (firsts k ls.flatten) := by
  have hnew := new_ok (k : Int) (by omega) (by omega) w
  have G0 : Gr w (w.alloc (.cells #[.int .i64 (k : Int), .slice none 0 0] 69)) := by go_grown
  have hto := together_c (hv'.gr G0) hn ht
  have H0 : Hid (Has (w.alloc (.cells #[.int .i64 (k : Int), .slice none 0 0] 69)) w.heap.size k (.slice none 0 0) []) := new_has k k1 k2 w
  have T : Hid (tot ls ≤ 4000) := ht
  clear hv' ht hn
  go_enter Try.func7, Try.ntmps7
  go_wp2_with fail
  refine hnew.mono ?_
  rintro e w' ⟨rfl, e2⟩
  subst e2
  clear hnew
  go_wp2_with fail
  refine hto.mono ?_
  rintro e w1 ⟨va, rfl, hO⟩
  have hsz : w.heap.size + 1 ≤ w1.heap.size := by have := hO.2.1.size; simpa using this
  obtain ⟨a, cap, rfl⟩ := hO.len
  obtain ⟨L, hL⟩ : ∃ L, L = ls.flatten := ⟨_, rfl⟩
  rw [← hL] at hO ⊢
  have LH : Hid (L = ls.flatten) := hL
  obtain ⟨n, hN⟩ : ∃ n, n = L.length := ⟨_, rfl⟩
  have N : Hid (n = L.length) := hN
  have hn : n ≤ 4000 := by rw [hN, hL]; exact T.out
  rw [← hN] at hO ⊢
  have O : Hid (Out (w.alloc (.cells #[.int .i64 (k : Int), .slice none 0 0] 69)) w1 (.slice a n cap) L) := hO
  clear hto hN hL hO
  go_wp2
  go_loopw [21] (fun iv w' => ∃ (r : Nat) (v : Value), iv = .int .i64 (r : Int) ∧ r ≤ n ∧ Hid (Has w' w.heap.size k v (firsts k (L.take r)) ∧ Kp (fun b => b = w.heap.size) w1 w' ∧ ∀ g, v.ownBlock = some g → w1.heap.size ≤ g)) (fun iv _ => n - (intOf iv).toNat)
  case atStart =>
    refine ⟨0, .slice none 0 0, rfl, Nat.zero_le _, ?_, Kp.refl _ _, by simp [Value.ownBlock]⟩
    rw [List.take_zero, firsts_nil]
    exact H0.out.gr O.out.2.1
  case round =>
    obtain ⟨r, v, rfl, hr, X⟩ := hrel
    by_cases hrn : r < n
    · obtain ⟨g, cap', ev, hg1, hg2, hl⟩ := O.out.lies (by have := N.out; omega)
      simp at ev
      obtain ⟨rfl, hnn, rfl⟩ := ev
      clear hnn
      have hl' := hl.kp X.out.2.1 (by simp at hg1; omega)
      obtain ⟨x0, x1, x2⟩ := hl' r (by have := N.out; omega)
      rw [Nat.zero_add] at x0 x1 x2
      obtain ⟨x, hx⟩ : ∃ x, x = L[r]! := ⟨_, rfl⟩
      have XX : Hid (x = L[r]!) := hx
      rw [← hx] at x0 x1 x2
      clear hl hl' hg1 hg2 hx
      go_wp2_with fail
      refine (offer_has (X.out.1.gr (by go_grown)) x).mono ?_
      rintro e w2 ⟨rfl, hO2⟩
      have Y : Hid (Offered (wr.alloc (.cells #[.int .i64 x.id, .int .u64 x.hi, .int .u64 x.lo] 50)) w2 w.heap.size k v (firsts k (L.take r)) x) := hO2
      clear hO2 x0 x1 x2
      go_wp2
      go_roundw
      case rel =>
        obtain ⟨v', h1, h2, h3⟩ := Y.out
        have hrl : r < L.length := by have := N.out; omega
        have hzr := X.out.2.1.size
        refine ⟨r + 1, v', by simp, hrn, ?_, ?_, ?_⟩
        · rw [List.take_succ_eq_append_getElem hrl, firsts_snoc, ← getElem!_pos L r hrl, ← XX.out]
          exact h1
        · refine (X.out.2.1.trans (Kp.of_gr (gr_alloc (Below.refl _ _) _))).trans' h2 ?_
          rintro i hi (e | e)
          · exact e
          · have := X.out.2.2 i e.symm; omega
        · intro g' hg'
          rcases h3 with h3 | h3
          · exact X.out.2.2 g' (by rw [← h3]; exact hg')
          · have := h3 g' hg'; simp at this; omega
      case measure => simp [intOf]; omega
    · have hre : r = n := by omega
      subst hre
      have LA : Hid (Has wr w.heap.size k v (firsts k L)) := by
        have h1 := X.out.1
        rw [N.out, List.take_of_length_le (Nat.le_refl _)] at h1
        exact h1
      go_wp2_with fail
      refine (list_has LA.out).mono ?_
      rintro e w2 ⟨v2, rfl, hO2⟩
      have Y : Hid (Out wr w2 v2 (firsts k L)) := hO2
      clear hO2
      go_wp2
      go_ret2
      have hb1 : Gr w w1 := gr_trans G0 O.out.2.1
      have hb2 : Gr w wr := hb1.trans (X.out.2.1.gr hb1.size (fun i e => by omega))
      rw [← LH.out]
      refine ⟨v2, rfl, Y.out.1, hb2.trans (Y.out.2.1.mono hb2.size), fun g hg => Nat.le_trans hb2.size (Y.out.2.2 g hg)⟩
end Go.Proofs.Yteaeaoekaoedoab.Tk
