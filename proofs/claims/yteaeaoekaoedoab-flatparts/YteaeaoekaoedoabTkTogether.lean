/- topk.together: lists laid one behind the other. -/
import Derived.Test.YteaeaoekaoedoabTkSame
import Derived.Laws.MakeOwn
import Derived.Laws.AppendOwnNone
namespace Go.Proofs.Yteaeaoekaoedoab.Tk
open Go.RowKit Go.Sort
attribute [local go_sem ↓] Go.wp_at_zero Go.wp_at_succ

/-- The slice v reads as these lists of hits. -/
def RdL (w : World) (v : Value) (ls : List (List Ht)) : Prop :=
  ∃ a cap, v = .slice a ls.length cap ∧ ∀ i, i < ls.length → ∃ b o u, a = some ⟨b, o, none⟩ ∧ w.cell? ⟨b, o + i, none⟩ = some u ∧ Rd w u ls[i]!
theorem RdL.gr {w w' : World} {v : Value} {ls : List (List Ht)} (h : RdL w v ls) (g : Gr w w') : RdL w' v ls := by
  obtain ⟨a, cap, e, h⟩ := h
  refine ⟨a, cap, e, fun i hi => ?_⟩
  obtain ⟨b, o, u, e1, e2, e3⟩ := h i hi
  exact ⟨b, o, u, e1, gr_keeps g e2, e3.gr g⟩
/-- How many hits some lists have. -/
def tot (ls : List (List Ht)) : Nat := ls.flatten.length
theorem tot_take_succ (ls : List (List Ht)) (q : Nat) (h : q < ls.length) : tot (ls.take (q + 1)) = tot (ls.take q) + ls[q]!.length := by
  unfold tot; rw [List.take_succ_eq_append_getElem h, getElem!_pos ls q h, List.flatten_append, List.length_append]; simp
theorem tot_take_le (ls : List (List Ht)) (q : Nat) : tot (ls.take q) ≤ tot ls := by
  unfold tot
  conv => rhs; rw [← List.take_append_drop q ls]
  rw [List.flatten_append, List.length_append]
  omega
theorem Rd.form' {w : World} {v : Value} {l : List Ht} (h : Rd w v l) : ∃ a cap, v = .slice a l.length cap := by
  obtain ⟨a, cap, e, _⟩ := h.form; exact ⟨a, cap, e⟩
theorem lies_news {w : World} {b o : Nat} {l : List Ht} (h : Lies w b o l) : ∀ j u, (fl l)[j]? = some u → w.cell? ((⟨b, o, none⟩ : Addr).add j) = some u := by
  intro j u hu
  have hj : j < l.length * 3 := by
    have := (List.getElem?_eq_some_iff.1 hu).1
    rwa [fl_len] at this
  have hi : j / 3 < l.length := by omega
  have h2 := fl_get l (j / 3) (j % 3) hi (Nat.mod_lt _ (by omega))
  rw [show j / 3 * 3 + j % 3 = j by omega, hu] at h2
  obtain ⟨h0, h1, h3⟩ := h _ hi
  rw [getElem!_pos l (j / 3) hi] at h0 h1 h3
  rw [Addr.add_lit]
  have : j % 3 = 0 ∨ j % 3 = 1 ∨ j % 3 = 2 := by omega
  rcases this with e | e | e <;> rw [e] at h2
  · rw [show o + j = o + j / 3 * 3 by omega, h0, h2]; rfl
  · rw [show o + j = o + j / 3 * 3 + 1 by omega, h1, h2]; rfl
  · rw [show o + j = o + j / 3 * 3 + 2 by omega, h3, h2]; rfl

set_option maxHeartbeats 2000000 in
set_option maxRecDepth 100000 in
theorem together_c {w : World} {v : Value} {ls : List (List Ht)} (hv' : RdL w v ls) (hn : ls.length ≤ 4000) (ht : tot ls ≤ 4000) :
    Calls Try.prog 17 #[v] w fun e w' => ∃ v', e = .returned v' ∧ Out w w' v' ls.flatten := by
  obtain ⟨a, cap, rfl, ha⟩ := hv'
  have A : Hid ((∀ i, i < ls.length → ∃ b o u, a = some ⟨b, o, none⟩ ∧ w.cell? ⟨b, o + i, none⟩ = some u ∧ Rd w u ls[i]!) ∧ tot ls ≤ 4000) := ⟨ha, ht⟩
  obtain ⟨n, hN⟩ : ∃ n, n = ls.length := ⟨_, rfl⟩
  have N : Hid (n = ls.length) := hN
  rw [← hN] at hn ⊢
  clear ha hN ht
  obtain ⟨i0, z0, hi0, hz0, hz1, hz2, hz3⟩ := info50
  have Z : Hid (Try.prog.info? 50 = some i0 ∧ i0.zero = some z0 ∧ i0.size = 3 ∧ i0.bytes = 24 ∧ z0.cells.size = 3) := ⟨hi0, hz0, hz1, hz2, hz3⟩
  clear hi0 hz0 hz1 hz2 hz3
  go_enter Try.func17, Try.ntmps17
  go_wp2
  go_loopw [3, 11] (fun cv iv w' => ∃ q c : Nat, cv = .int .i64 (c : Int) ∧ iv = .int .i64 (q : Int) ∧ q ≤ n ∧ c ≤ 4000 ∧ w = w' ∧ Hid (c = tot (ls.take q))) (fun _ iv _ => n - (intOf iv).toNat)
  case atStart => exact ⟨0, 0, rfl, rfl, Nat.zero_le _, Nat.zero_le _, rfl, by simp [tot, Hid]⟩
  case round =>
    obtain ⟨q, c, rfl, rfl, hq, hc, rfl, X⟩ := hrel
    by_cases hqn : q < n
    · obtain ⟨b, o, u, ea, hcell, hr⟩ := A.out.1 q (by have := N.out; omega)
      subst ea
      have HL : Hid (ls[q]!.length + c = tot (ls.take (q + 1)) ∧ tot (ls.take (q + 1)) ≤ 4000) := by
        have h1 := N.out; have h2 := X.out
        refine ⟨by rw [tot_take_succ ls q (by omega)]; omega, Nat.le_trans (tot_take_le _ _) A.out.2⟩
      obtain ⟨a1, c1, rfl⟩ := hr.form'
      obtain ⟨m, hm⟩ : ∃ m, m = ls[q]!.length := ⟨_, rfl⟩
      rw [← hm] at hcell
      have M : Hid (m = ls[q]!.length) := hm
      have hmc : m + c ≤ 4000 := by have := HL.out; omega
      clear hm hr
      go_wp2
      go_roundw
      case rel =>
        have h1 := HL.out.1; have h2 := M.out
        exact ⟨q + 1, c + m, by simp, by simp, hqn, by omega, by first | rfl | trivial, by unfold Hid; omega⟩
      case measure => simp [intOf]; omega
    · have hqe : q = n := by omega
      subst hqe
      have hmk := run_make_own (P := Try.prog) w w.heap.size 25 50 i0 z0 3 Try.underlying25 Z.out.1 Z.out.2.1 Z.out.2.2.1 .i64 .i64 c (by rw [Z.out.2.2.2.1]; omega) (by simp only [maxLen]; omega) (Nat.le_refl _)
      obtain ⟨w1, hmk, ho, hg⟩ := hmk
      have O : Hid (w1.ownsRow w.heap.size 50 3 (.slice (some ⟨w.heap.size, 0, none⟩) 0 c) 0 [] ∧ Gr w w1) := ⟨ho, (Below.refl _ _).grown hg (Nat.le_refl _) (fun k e => by cases e)⟩
      clear ho hg X
      go_wp2
      clear hmk
      go_loopw [6, 24] (fun vv iv w' => ∃ (r : Nat), iv = .int .i64 (r : Int) ∧ r ≤ q ∧ Hid (w'.ownsRow w.heap.size 50 3 vv (tot (ls.take r)) (fl (ls.take r).flatten) ∧ Gr w w')) (fun _ iv _ => q - (intOf iv).toNat)
      case atStart => exact ⟨0, rfl, Nat.zero_le _, O.out⟩
      case round =>
        obtain ⟨r, rfl, hr, Y⟩ := hrel
        by_cases hrq : r < q
        · obtain ⟨b, o, u, ea, hcell, hrd⟩ := A.out.1 r (by have := N.out; omega)
          subst ea
          have hcell' := gr_keeps Y.out.2 hcell
          have hrd' := hrd.gr Y.out.2
          have T1 : Hid (tot (ls.take (r + 1)) = tot (ls.take r) + ls[r]!.length ∧ tot (ls.take (r + 1)) ≤ 4000 ∧ (ls.take (r + 1)).flatten = (ls.take r).flatten ++ ls[r]!) := by
            have h1 : r < ls.length := by have := N.out; omega
            refine ⟨tot_take_succ ls r h1, Nat.le_trans (tot_take_le _ _) A.out.2, ?_⟩
            rw [List.take_succ_eq_append_getElem h1, getElem!_pos ls r h1, List.flatten_append]; simp
          have YO := Y.out
          clear hcell hrd
          rcases hrd' with ⟨rfl, hnil⟩ | ⟨a1, c1, rfl, hnil⟩ | ⟨b1, o1, c1, rfl, hl⟩
          · have E : Hid (ls[r]! = []) := hnil
            clear hnil YO
            go_wp2_with (at_builtin; refine wpList_append_own_none rfl _ _ 25 rfl w.heap.size 50 i0 3 Try.underlying25 Z.out.1 _ _ _ rfl Y.out.1 rfl ?_)
            go_roundw
            case rel =>
              refine ⟨r + 1, by simp, hrq, ?_, Y.out.2⟩
              rw [T1.out.2.2, T1.out.1, E.out, List.append_nil]
              exact Y.out.1
            case measure => simp [intOf]; omega
          · have E : Hid (ls[r]! = []) := hnil
            clear hnil YO
            go_wp2_with (at_builtin; refine wpList_append_own _ rfl _ _ 25 rfl w.heap.size 50 i0 z0 3 24 Try.underlying25 Z.out.1 Z.out.2.1 Z.out.2.2.1 Z.out.2.2.2.1 Z.out.2.2.2.2 (by omega) _ _ _ rfl Y.out.1 a1 0 c1 [] rfl (by simp) (by simp) (by simp) (by simp only [maxLen]; have := T1.out; omega) (by have := T1.out; omega) Y.out.2.size ?_; intro v2 w2 ho2 hg2 _)
            have P : Hid (w2.ownsRow w.heap.size 50 3 v2 (tot (ls.take (r + 1))) (fl (ls.take (r + 1)).flatten) ∧ Gr w w2) := by
              refine ⟨?_, Y.out.2.grown hg2 Y.out.2.size (fun k e => (Y.out.1.lt k e).1)⟩
              rw [T1.out.1, T1.out.2.2, E.out, List.append_nil, List.length_nil]
              simpa using ho2
            clear ho2 hg2
            go_wp2
            go_roundw
            case rel => exact ⟨r + 1, by simp, hrq, P.out⟩
            case measure => simp [intOf]; omega
          · have L : Hid (Lies wr b1 o1 ls[r]!) := hl
            obtain ⟨m, hm⟩ : ∃ m, m = ls[r]!.length := ⟨_, rfl⟩
            have M : Hid (m = ls[r]!.length) := hm
            rw [← hm] at hcell'
            clear hm hl YO
            go_wp2_with (at_builtin; refine wpList_append_own _ rfl _ _ 25 rfl w.heap.size 50 i0 z0 3 24 Try.underlying25 Z.out.1 Z.out.2.1 Z.out.2.2.1 Z.out.2.2.2.1 Z.out.2.2.2.2 (by omega) _ _ _ rfl Y.out.1 ⟨b1, o1, none⟩ m c1 (fl ls[r]!) rfl (by rw [fl_len, M.out]) (lies_news L.out) (fl_one_cell _) (by simp only [maxLen]; have := T1.out; have := M.out; omega) (by have := T1.out; have := M.out; omega) Y.out.2.size ?_; intro v2 w2 ho2 hg2 _)
            have P : Hid (w2.ownsRow w.heap.size 50 3 v2 (tot (ls.take (r + 1))) (fl (ls.take (r + 1)).flatten) ∧ Gr w w2) := by
              refine ⟨?_, Y.out.2.grown hg2 Y.out.2.size (fun k e => (Y.out.1.lt k e).1)⟩
              rw [T1.out.1, T1.out.2.2, fl_app, ← M.out]
              exact ho2
            clear ho2 hg2
            go_wp2
            go_roundw
            case rel => exact ⟨r + 1, by simp, hrq, P.out⟩
            case measure => simp [intOf]; omega
        · go_wp2
          go_ret
          have hre : r = ls.length := by have := N.out; omega
          have h1 := Y.out.1
          rw [hre, List.take_of_length_le (Nat.le_refl _)] at h1
          refine ⟨_, rfl, ?_, Y.out.2, fun g hg => (h1.lt g hg).1⟩
          unfold Own
          refine ⟨by rw [fl_len]; simp, ?_⟩
          rcases h1.2 with ⟨h2, h3⟩ | ⟨g, cap', cur, h2, h3, h4⟩
          · exact .inl ⟨h2, by simpa [tot] using h3⟩
          · exact .inr ⟨g, cap', cur, by simpa [tot] using h2, Nat.zero_le _, by simpa [tot] using h4⟩
end Go.Proofs.Yteaeaoekaoedoab.Tk
