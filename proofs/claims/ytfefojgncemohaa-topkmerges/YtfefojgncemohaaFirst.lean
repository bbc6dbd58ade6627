/- The reference's Sorted and First; the law's spoil. -/
import Derived.Test.YtfefojgncemohaaWith
namespace Go.Proofs.Ytfefojgncemohaa
open Go.RowKit Go.Sort
attribute [local go_sem ↓] Go.wp_at_zero Go.wp_at_succ

theorem own_len {w : World} {v : Value} {d : Array Ht} (h : Own w v d) : ∃ a cap, v = .slice a d.size cap := by
  obtain ⟨a, cap, e⟩ := (own_rd h).form'
  exact ⟨a, cap, by simpa using e⟩
theorem own_lies' {w : World} {v : Value} {d : Array Ht} (h : Own w v d) {i : Nat} (hi : i < d.size) : ∃ g cap, v = .slice (some ⟨g, 0, none⟩) d.size cap ∧ g < w.heap.size ∧ Lies w g 0 d.toList := by
  obtain ⟨g, cap, cur, e, hh, _⟩ := own_form h (by omega)
  subst e
  exact ⟨g, cap, rfl, (Array.getElem?_eq_some_iff.1 hh).1, own_lies h⟩

set_option maxHeartbeats 2000000 in
set_option maxRecDepth 100000 in
theorem sorted_c {w : World} {v : Value} {d : Array Ht} (h : Own w v d) (hn : d.size ≤ 3900) :
    Calls Try.prog 27 #[v] w fun e w' => ∃ v', e = .returned v' ∧ Out w w' v' (srt d.toList) := by
  obtain ⟨a, cap, rfl⟩ := own_len h
  obtain ⟨n, hN⟩ : ∃ n, n = d.size := ⟨_, rfl⟩
  have N : Hid (n = d.size) := hN
  rw [← hN] at h hn ⊢
  have H : Hid (Own w (.slice a n cap) d) := h
  clear h hN
  go_enter Try.func27, Try.ntmps27
  go_wp2
  go_loopw [3, 4] (fun vv iv w' => ∃ r : Nat, iv = .int .i64 (r : Int) ∧ r ≤ n ∧ Hid (Out w w' vv (srt (d.toList.take r)))) (fun _ iv _ => n - (intOf iv).toNat)
  case atStart =>
    refine ⟨0, rfl, Nat.zero_le _, ?_, Below.refl _ _, by simp [Value.ownBlock]⟩
    rw [List.take_zero, show srt [] = [] by simp [srt]]
    exact own_nil _
  case round =>
    obtain ⟨r, rfl, hr, X⟩ := hrel
    by_cases hrn : r < n
    · obtain ⟨g, cap', ev, hg, hl⟩ := own_lies' H.out (i := r) (by have := N.out; omega)
      simp at ev
      obtain ⟨rfl, hnn, rfl⟩ := ev
      clear hnn
      have hrd : r < d.toList.length := by have := N.out; simp; omega
      obtain ⟨x0, x1, x2⟩ := (hl.gr X.out.2.1) r hrd
      rw [Nat.zero_add] at x0 x1 x2
      obtain ⟨x, hx⟩ : ∃ x, x = d.toList[r]! := ⟨_, rfl⟩
      have XX : Hid (x = d.toList[r]! ∧ r < d.toList.length) := ⟨hx, hrd⟩
      rw [← hx] at x0 x1 x2
      clear hl hg hx hrd
      have hri : (r : Int) < (n : Int) := by omega
      go_wp2_with fail
      refine (with_c X.out.1 (by rw [List.size_toArray, srt_len, List.length_take]; omega) x).mono ?_
      rintro e w2 ⟨v2, rfl, hO⟩
      have Y : Hid (Out wr w2 v2 (ins x (srt (d.toList.take r)))) := hO
      clear hO x0 x1 x2
      go_wp2
      go_roundw
      case rel =>
        refine ⟨r + 1, by simp, hrn, ?_⟩
        have e1 : srt (d.toList.take (r + 1)) = ins x (srt (d.toList.take r)) := by
          rw [List.take_succ_eq_append_getElem XX.out.2, ← getElem!_pos d.toList r XX.out.2, ← XX.out.1, srt_snoc]
        rw [e1]
        exact ⟨Y.out.1, gr_trans X.out.2.1 Y.out.2.1, fun g hg => Nat.le_trans X.out.2.1.size (Y.out.2.2 g hg)⟩
      case measure => simp [intOf]; omega
    · have LA : Hid (Out w wr u3 (srt d.toList)) := by
        have h1 := X.out
        rw [List.take_of_length_le (by have := N.out; simp; omega)] at h1
        exact h1
      have hri : ¬ (r : Int) < (n : Int) := by omega
      go_wp2
      go_ret
      exact ⟨u3, rfl, LA.out⟩

theorem own_prefix {w : World} {v : Value} {d : Array Ht} {k : Nat} (h : Own w v d) (hk : k < d.size) : ∃ g cap, v = .slice (some ⟨g, 0, none⟩) d.size cap ∧ d.size ≤ cap ∧ Own w (.slice (some ⟨g, 0, none⟩) k cap) (d.toList.take k).toArray := by
  obtain ⟨g, cap, cur, e, hh, h1, h2, h3, h4⟩ := own_form h (by omega)
  refine ⟨g, cap, e, h1, ?_⟩
  have hl : (d.toList.take k).toArray.size = k := by simp; omega
  refine ⟨by rw [fl_len]; simp, .inr ⟨g, cap, cur, by rw [hl], Nat.zero_le _, hh, by rw [hl]; omega, h2, h3, ?_⟩⟩
  rw [hl]
  have e1 : fl d.toList = fl (d.toList.take k) ++ fl (d.toList.drop k) := by rw [← fl_app, List.take_append_drop]
  have e2 : (fl (d.toList.take k)).length = k * 3 := by rw [fl_len, List.length_take]; simp; omega
  have e3 : cur.toList.take (k * 3) = (cur.toList.take (d.size * 3)).take (k * 3) := by rw [List.take_take, Nat.min_eq_left (by omega)]
  rw [e3, h4, e1, List.take_append_of_le_length (by omega), List.take_of_length_le (by omega)]

set_option maxHeartbeats 2000000 in
set_option maxRecDepth 100000 in
theorem first_c {w : World} {v : Value} {d : Array Ht} (h : Own w v d) (hn : d.size ≤ 3900) (k : Nat) (hk : k ≤ 64) :
    Calls Try.prog 13 #[v, .int .i64 (k : Int)] w fun e w' => ∃ v', e = .returned v' ∧ Out w w' v' (firsts k d.toList) := by
  have hs := sorted_c h hn
  have hsz : Hid ((srt d.toList).length ≤ 3900) := by unfold Hid; rw [srt_len]; simpa using hn
  clear h hn
  go_enter Try.func13, Try.ntmps13
  go_wp2_with fail
  refine hs.mono ?_
  rintro e w1 ⟨v1, rfl, hO⟩
  obtain ⟨a, cap, rfl⟩ := hO.len
  obtain ⟨n, hN⟩ : ∃ n, n = (srt d.toList).length := ⟨_, rfl⟩
  have N : Hid (n = (srt d.toList).length) := hN
  rw [← hN] at hO ⊢
  have O : Hid (Out w w1 (.slice a n cap) (srt d.toList)) := hO
  have hn : n ≤ 3900 := by rw [hN]; exact hsz.out
  clear hs hO hN
  by_cases hkn : k < n
  · obtain ⟨g, cap', ev, hc, ho⟩ := own_prefix (k := k) O.out.1 (by have := N.out; simp; omega)
    simp at ev hc
    obtain ⟨rfl, hnn, rfl⟩ := ev
    have hc' : n ≤ cap := by have := N.out; omega
    have P : Hid (Own w1 (.slice (some ⟨g, 0, none⟩) k cap) ((srt d.toList).take k).toArray) := ho
    have hki : (k : Int) < (n : Int) := by omega
    have hk0 : (0 : Int) ≤ (k : Int) := by omega
    have hk1 : (k : Int) ≤ (cap : Int) := by omega
    clear hnn hc ho
    go_wp2
    go_ret
    exact ⟨.slice (some ⟨g, 0, none⟩) k cap, rfl, P.out, O.out.2.1, fun g' e => O.out.2.2 g' (by simpa [Value.ownBlock] using e)⟩
  · have hki : ¬ (k : Int) < (n : Int) := by omega
    go_wp2
    go_ret
    refine ⟨.slice a n cap, rfl, ?_, O.out.2.1, O.out.2.2⟩
    unfold firsts
    rw [List.take_of_length_le (by have := N.out; omega)]
    exact O.out.1
end Go.Proofs.Ytfefojgncemohaa
