/- The reference's Parse of one letter, as a contract. -/
import Derived.Test.YtlckjohmllagoaaRParse
import Derived.Test.YtlckjohmllagoaaRefAdd
namespace Go.Proofs.Ytlckjohmllagoaa
open Go.RowKit

set_option maxHeartbeats 4000000 in
theorem rparse_one (s : ByteArray) (w : World) (h1 : 1 ≤ s.size) (h2 : s.size ≤ 39) (h3 : s.size = 1) :
    Calls Try.prog 19 #[.string s] w fun e w' =>
      (allDig s = true → valOf s < 340282366920938463463374607431768211456 → e = .returned (.tuple #[Wd (valOf s), .int .i64 0])) ∧
      (allDig s = true → 340282366920938463463374607431768211456 ≤ valOf s → e = .returned (.tuple #[.agg #[.int .u64 0, .int .u64 0], .int .i64 10])) ∧
      (allDig s = false → e = .returned (.tuple #[.agg #[.int .u64 0, .int .u64 0], .int .i64 11])) ∧ Gr w w' := by
  have hd1 : decide ((s.size : Int) < 1) = false := by simp; omega
  have hd2 : decide (39 < (s.size : Int)) = false := by simp; omega
  have n1 := NumAt.zero (w.alloc (.cells #[.int .u64 0, .int .u64 0] 24)) 43
  simp only [World.size_alloc] at n1
  have hd3 : decide (1 < (s.size : Int)) = false := by simp; omega
  clear h3
  go_enter Try.func19, Try.ntmps19
  go_wp2
  go_loopw [5] (fun iv w' => ∃ k v q : Nat, ∃ p : Bool, iv = .int .i64 (k : Int) ∧ k ≤ s.size ∧ q < 340282366920938463463374607431768211456 ∧ Hid ((s.data.toList.take k).all isDig = true) ∧ Hid (v = val (s.data.toList.take k)) ∧ Hid (q = v % 340282366920938463463374607431768211456 ∧ p = decide (340282366920938463463374607431768211456 ≤ v)) ∧ Gr (w.alloc (.cells #[.int .u64 0, .int .u64 0] 24)) w' ∧ NumAt w' (w.heap.size + 1) q p) (fun iv _ => s.size - (intOf iv).toNat)
  case atStart => exact ⟨0, 0, 0, false, rfl, Nat.zero_le _, by omega, rfl, rfl, ⟨rfl, by rw [decide_eq_false (by omega)]⟩, (Gr.refl _).alloc _ _, n1⟩
  case round =>
    clear n1
    obtain ⟨k, v, q, p, rfl, hk, hq, A, V, X, hG, hN⟩ := hrel
    obtain ⟨v0, v1, v2, v3⟩ := hG.var2
    obtain ⟨c0, c1, c2, c3, c4, c5, c6, c7, c8⟩ := hN.cells
    by_cases hlt : k < s.size
    · by_cases hd : isDig s[k] = true
      · obtain ⟨e1, e2⟩ := (isDig_iff _).1 hd
        have A' : Hid ((s.data.toList.take (k + 1)).all isDig = true) := by unfold Hid; rw [take_snoc s k hlt, List.all_append, A.out]; simp [hd]
        have V' : Hid (10 * v + (s[k].toNat - 48) = val (s.data.toList.take (k + 1))) := by unfold Hid; rw [take_snoc s k hlt, val_snoc, ← V.out]
        clear hd A V
        go_wp2
        go_region_with (first
          | (go_at_call_of 33 (Value.int IntKind.i64 10); refine (small_ten _).mono ?_; rintro _ x1 ⟨rfl, g1⟩; have m1 := hN.call g1.undrew; obtain ⟨k0, k1, k2, k3, k4, k5, k6, k7, k8⟩ := m1.cells)
          | (go_at_call 30; refine (times_ten q hq p _).mono ?_; rintro _ x2 ⟨q1, p1, rfl, hq1, Y1, g2⟩; have m2 := m1.call g2)
          | (go_at_call 33; refine (small_dig s[k].toNat e1 e2 _).mono ?_; rintro _ x3 ⟨rfl, g3⟩; have m3 := m2.call g3)
          | (go_at_call 24; refine (sum_dig q1 (s[k].toNat - 48) hq1 (by omega) p1 _).mono ?_; rintro _ x4 ⟨q2, p2, rfl, hq2, Y2, g4⟩; have m4 := m3.call g4; obtain ⟨d0, d1, d2, d3, d4, d5, d6, d7, d8⟩ := m4.cells; obtain ⟨f0, f1, f2, f3, f4, f5, f6, f7, f8⟩ := m4.open9))
        all_goals
          go_wp2
          go_roundw
          case measure => simp [intOf]; omega
          refine ⟨k + 1, 10 * v + (s[k].toNat - 48), q2, p2, by go_num, hlt, hq2, A', V', dig_step v _ q q1 q2 p p1 p2 X.out Y1.out Y2.out, ((((hG.trans g1.undrew).trans g2).trans g3).trans g4).store9 (by simp only [World.size_alloc]; omega) _ _ _ _ _ _ _ _ _, m4.store q2 p2⟩
      · have N : Hid (allDig s = false) := by
          unfold Hid allDig
          cases hall : s.data.toList.all isDig
          · rfl
          · exact absurd (all_at s k hlt hall) hd
        rw [isDig_iff] at hd
        clear A V X hN
        by_cases e1 : (s[k].toNat : Int) < 48
        · go_wp2
          exact bodyPost_ret (v := .tuple #[.agg #[.int .u64 0, .int .u64 0], .int .i64 11]) (by simp [results, Try.results19, go_sem, v0, v1]) rfl ⟨fun h => absurd (h.symm.trans N.out) (by simp), fun h => absurd (h.symm.trans N.out) (by simp), fun _ => rfl, ((((Gr.refl _).alloc _ _).trans hG).setCell (by dsimp only; omega) _).setCell (by dsimp only; omega) _⟩
        · have e2 : 57 < (s[k].toNat : Int) := by omega
          clear hd
          go_wp2
          exact bodyPost_ret (v := .tuple #[.agg #[.int .u64 0, .int .u64 0], .int .i64 11]) (by simp [results, Try.results19, go_sem, v0, v1]) rfl ⟨fun h => absurd (h.symm.trans N.out) (by simp), fun h => absurd (h.symm.trans N.out) (by simp), fun _ => rfl, ((((Gr.refl _).alloc _ _).trans hG).setCell (by dsimp only; omega) _).setCell (by dsimp only; omega) _⟩
    · have htk : s.data.toList.take k = s.data.toList := List.take_of_length_le (by rw [len_list]; omega)
      have N : Hid (allDig s = true ∧ v = valOf s) := ⟨by unfold allDig; rw [← htk]; exact A.out, by unfold valOf; rw [← htk]; exact V.out⟩
      clear htk A V hN
      by_cases hv : v < 340282366920938463463374607431768211456
      · have P : Hid (p = false ∧ q = v) := ⟨by rw [X.out.2]; exact decide_eq_false (by omega), by rw [X.out.1]; exact Nat.mod_eq_of_lt hv⟩
        obtain ⟨rfl, rfl⟩ := P.out
        clear P X
        go_wp2_with (go_at_call 25; refine (wide_any q hq false _).mono ?_; rintro e w4 ⟨rfl, g4⟩; have k0 := g4.keeps (p := ⟨w.heap.size, 0, none⟩) v0; have k1 := g4.keeps (p := ⟨w.heap.size, 1, none⟩) v1; have k2 := (g4.froz ⟨w.heap.size, 0, none⟩).trans v2; have k3 := (g4.froz ⟨w.heap.size, 1, none⟩).trans v3)
        exact bodyPost_ret (v := .tuple #[Wd q, .int .i64 0]) (by simp [results, Try.results19, go_sem, k0, k1]) rfl ⟨fun _ _ => by rw [← N.out.2], fun _ h => by have := N.out.2; omega, fun h => absurd (h.symm.trans N.out.1) (by simp), ((((Gr.refl _).alloc _ _).trans (hG.trans g4)).setCell (by dsimp only; omega) _).setCell (by dsimp only; omega) _⟩
      · have P : Hid (p = true) := by rw [X.out.2]; exact decide_eq_true (by omega)
        have hp := P.out
        subst hp
        clear P X
        go_wp2
        exact bodyPost_ret (v := .tuple #[.agg #[.int .u64 0, .int .u64 0], .int .i64 10]) (by simp [results, Try.results19, go_sem, v0, v1]) rfl ⟨fun _ h => by have := N.out.2; omega, fun _ _ => rfl, fun h => absurd (h.symm.trans N.out.1) (by simp), ((((Gr.refl _).alloc _ _).trans hG).setCell (by dsimp only; omega) _).setCell (by dsimp only; omega) _⟩

end Go.Proofs.Ytlckjohmllagoaa
