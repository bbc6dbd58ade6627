/- router's Choose. -/
import Derived.Test.YtgmjokmiifmckaaRoS
namespace Go.Proofs.Ytgmjokmiifmckaa
open Go.RowKit

set_option maxHeartbeats 8000000 in
/-- P15.2. -/
theorem choose_c {w : World} {v : Value} {l : List N4} (h : RdS w v l) (rows dim k m : Int) :
    Calls Try.prog 10 #[v, .int .i64 rows, .int .i64 dim, .int .i64 k, .int .i64 m] w fun e w' => e = .returned (.tuple #[.int .i64 (choN l rows dim k m), .int .i64 (choE l rows dim k m)]) ∧ Gb w w' := by
  obtain ⟨a, cap, rfl, ha⟩ := h
  have hC := fun W => checkChoice_c a l.length cap k m W
  by_cases h0 : chcE l.length k m = 0
  · have A : Hid (∀ i, i < l.length → ∃ b o, a = some ⟨b, o, none⟩ ∧ w.cell? ⟨b, o + i * 4, none⟩ = some (.int .i64 l[i]!.1) ∧ w.cell? ⟨b, o + i * 4 + 1, none⟩ = some (.int .i64 l[i]!.2.1) ∧ w.cell? ⟨b, o + i * 4 + 2, none⟩ = some (.int .i64 l[i]!.2.2.1) ∧ w.cell? ⟨b, o + i * 4 + 3, none⟩ = some (.int .i64 l[i]!.2.2.2)) := ha
    have E : Hid (choE l rows dim k m = erL rows dim l) := by unfold Hid choE; rw [if_pos h0]
    obtain ⟨hl0, hlen, hk1, hk2, hm⟩ := chcE_ok h0
    rw [h0] at hC
    clear h0 ha hm
    obtain ⟨n, hN⟩ : ∃ n, n = l.length := ⟨_, rfl⟩
    have N : Hid (n = l.length) := hN
    rw [← hN] at hC hl0 hlen ⊢
    clear hN
    have hn0 : ((n : Int) == 0) = false := by rw [beq_eq_false_iff_ne]; omega
    go_enter Try.func10, Try.ntmps10
    go_wp2_with (go_at_call 25; refine (hC _).mono ?_; rintro e w1 ⟨rfl, e1⟩; rw [e1]; clear e1 w1)
    go_loopw [13, 14, 28] (fun bv lv iv w' => ∃ q : Nat, iv = .int .i64 (q : Int) ∧ bv = .int .i64 (chGo (fN rows dim m) l q).1 ∧ lv = .int .i64 (chGo (fN rows dim m) l q).2 ∧ q ≤ n ∧ Hid (erL rows dim (l.take q) = 0 ∧ Gb w w')) (fun _ _ iv _ => n - (intOf iv).toNat)
    case atStart => exact ⟨0, rfl, rfl, rfl, Nat.zero_le _, rfl, Below.refl _ _⟩
    case round =>
      obtain ⟨q, rfl, rfl, rfl, hq, X⟩ := hrel
      by_cases hqn : q < n
      · have hql : q < l.length := by have := N.out; omega
        obtain ⟨b1, o1, ea, c0, c1, c2, c3⟩ := A.out q hql
        subst ea
        have c0 := gb_keeps X.out.2 c0
        have c1 := gb_keeps X.out.2 c1
        have c2 := gb_keeps X.out.2 c2
        have c3 := gb_keeps X.out.2 c3
        obtain ⟨⟨kk, nn, pp, cc⟩, hx⟩ : ∃ x, x = l[q]! := ⟨_, rfl⟩
        rw [← hx] at c0 c1 c2 c3
        simp only at c0 c1 c2 c3
        have hcost := fun W => cost_c kk nn pp cc rows dim W
        clear hC
        by_cases he : cstE kk nn pp cc rows dim = 0
        · have T : Hid (erL rows dim (l.take (q + 1)) = 0) := erL_take hql X.out.1 (by rw [← hx]; exact he)
          obtain ⟨_, hz, hd1, hd2⟩ := fN_bd (rows := rows) (dim := dim) (m := m) (s := (kk, nn, pp, cc)) he
          simp only at hz
          obtain ⟨hz1, hz2⟩ := hz
          have S : Hid (chGo (fN rows dim m) l (q + 1) = if q = 0 ∨ fN rows dim m (kk, nn, pp, cc) < (chGo (fN rows dim m) l q).2 then ((q : Int), fN rows dim m (kk, nn, pp, cc)) else chGo (fN rows dim m) l q) := by unfold Hid; rw [hx]; rfl
          have F : fN rows dim m (kk, nn, pp, cc) = cstN kk nn pp cc rows dim + if m = 1 ∧ (kk = 5 ∨ kk = 6) then dim * rows else 0 := rfl
          rw [he] at hcost
          generalize fN rows dim m (kk, nn, pp, cc) = x at *
          generalize cstN kk nn pp cc rows dim = z at *
          obtain ⟨⟨B, L⟩, hP⟩ : ∃ p, p = chGo (fN rows dim m) l q := ⟨_, rfl⟩
          rw [← hP] at S ⊢
          clear hP hx he
          cases hm1 : (m == 1) with
          | false =>
            have F' : Hid (x = z) := by unfold Hid; rw [F, if_neg (by intro hh; rw [hh.1] at hm1; cases hm1)]; omega
            clear F
            have xe := F'.out.symm
            subst xe
            clear F'
            by_cases hq0 : q = 0
            · have S' : Hid (chGo (fN rows dim m) l (q + 1) = ((q : Int), z)) := by unfold Hid; rw [S.out, if_pos (Or.inl hq0)]
              have hq0' : ((q : Int) == 0) = true := by rw [beq_iff_eq]; omega
              clear S hq0
              go_wp2_with fail
              refine (hcost _).mono ?_
              rintro e w2 ⟨rfl, g⟩
              have f0 : w2.cell? ⟨wr.heap.size, 0, none⟩ = some (.int .i64 kk) := gb_keeps g (by simp [go_sem])
              go_wp2_with (go_at_call 26; refine (looks_c _ _).mono ?_; rintro e w3 ⟨rfl, e1⟩; rw [e1]; clear e1 w3)
              go_roundw
              case rel => exact ⟨q + 1, by first | rfl | simp, by rw [S'.out], by rw [S'.out], hqn, T.out, gb_trans X.out.2 (gb_trans (gb_alloc (Below.refl _ _) _) g)⟩
              case measure => simp [intOf]; omega
            have hq0' : ((q : Int) == 0) = false := by rw [beq_eq_false_iff_ne]; omega
            by_cases hlt : z < L
            · have S' : Hid (chGo (fN rows dim m) l (q + 1) = ((q : Int), z)) := by unfold Hid; rw [S.out, if_pos (Or.inr hlt)]
              clear S
              go_wp2_with fail
              refine (hcost _).mono ?_
              rintro e w2 ⟨rfl, g⟩
              have f0 : w2.cell? ⟨wr.heap.size, 0, none⟩ = some (.int .i64 kk) := gb_keeps g (by simp [go_sem])
              go_wp2_with (go_at_call 26; refine (looks_c _ _).mono ?_; rintro e w3 ⟨rfl, e1⟩; rw [e1]; clear e1 w3)
              go_roundw
              case rel => exact ⟨q + 1, by first | rfl | simp, by rw [S'.out], by rw [S'.out], hqn, T.out, gb_trans X.out.2 (gb_trans (gb_alloc (Below.refl _ _) _) g)⟩
              case measure => simp [intOf]; omega
            · have S' : Hid (chGo (fN rows dim m) l (q + 1) = (B, L)) := by unfold Hid; rw [S.out, if_neg (by rintro (h | h); exact hq0 h; exact hlt h)]
              clear S
              go_wp2_with fail
              refine (hcost _).mono ?_
              rintro e w2 ⟨rfl, g⟩
              have f0 : w2.cell? ⟨wr.heap.size, 0, none⟩ = some (.int .i64 kk) := gb_keeps g (by simp [go_sem])
              go_wp2_with (go_at_call 26; refine (looks_c _ _).mono ?_; rintro e w3 ⟨rfl, e1⟩; rw [e1]; clear e1 w3)
              go_roundw
              case rel => exact ⟨q + 1, by first | rfl | simp, by rw [S'.out], by rw [S'.out], hqn, T.out, gb_trans X.out.2 (gb_trans (gb_alloc (Below.refl _ _) _) g)⟩
              case measure => simp [intOf]; omega
          | true =>
            have hm1' : m = 1 := by simpa using hm1
            cases hk5 : (kk == 5) with
            | true =>
              have F' : Hid (x = z + dim * rows) := by unfold Hid; rw [F, if_pos ⟨hm1', Or.inl (by simpa using hk5)⟩]
              clear hm1'
              clear F
              have xe := F'.out
              subst xe
              clear F'
              by_cases hq0 : q = 0
              · have S' : Hid (chGo (fN rows dim m) l (q + 1) = ((q : Int), z + dim * rows)) := by unfold Hid; rw [S.out, if_pos (Or.inl hq0)]
                have hq0' : ((q : Int) == 0) = true := by rw [beq_iff_eq]; omega
                clear S hq0
                go_wp2_with fail
                refine (hcost _).mono ?_
                rintro e w2 ⟨rfl, g⟩
                have f0 : w2.cell? ⟨wr.heap.size, 0, none⟩ = some (.int .i64 kk) := gb_keeps g (by simp [go_sem])
                go_wp2_with (go_at_call 26; refine (looks_c _ _).mono ?_; rintro e w3 ⟨rfl, e1⟩; rw [e1]; clear e1 w3; simp only [hk5, Bool.true_or])
                go_roundw
                case rel => exact ⟨q + 1, by first | rfl | simp, by rw [S'.out], by rw [S'.out], hqn, T.out, gb_trans X.out.2 (gb_trans (gb_alloc (Below.refl _ _) _) g)⟩
                case measure => simp [intOf]; omega
              have hq0' : ((q : Int) == 0) = false := by rw [beq_eq_false_iff_ne]; omega
              by_cases hlt : z + dim * rows < L
              · have S' : Hid (chGo (fN rows dim m) l (q + 1) = ((q : Int), z + dim * rows)) := by unfold Hid; rw [S.out, if_pos (Or.inr hlt)]
                clear S
                go_wp2_with fail
                refine (hcost _).mono ?_
                rintro e w2 ⟨rfl, g⟩
                have f0 : w2.cell? ⟨wr.heap.size, 0, none⟩ = some (.int .i64 kk) := gb_keeps g (by simp [go_sem])
                go_wp2_with (go_at_call 26; refine (looks_c _ _).mono ?_; rintro e w3 ⟨rfl, e1⟩; rw [e1]; clear e1 w3; simp only [hk5, Bool.true_or])
                go_roundw
                case rel => exact ⟨q + 1, by first | rfl | simp, by rw [S'.out], by rw [S'.out], hqn, T.out, gb_trans X.out.2 (gb_trans (gb_alloc (Below.refl _ _) _) g)⟩
                case measure => simp [intOf]; omega
              · have S' : Hid (chGo (fN rows dim m) l (q + 1) = (B, L)) := by unfold Hid; rw [S.out, if_neg (by rintro (h | h); exact hq0 h; exact hlt h)]
                clear S
                go_wp2_with fail
                refine (hcost _).mono ?_
                rintro e w2 ⟨rfl, g⟩
                have f0 : w2.cell? ⟨wr.heap.size, 0, none⟩ = some (.int .i64 kk) := gb_keeps g (by simp [go_sem])
                go_wp2_with (go_at_call 26; refine (looks_c _ _).mono ?_; rintro e w3 ⟨rfl, e1⟩; rw [e1]; clear e1 w3; simp only [hk5, Bool.true_or])
                go_roundw
                case rel => exact ⟨q + 1, by first | rfl | simp, by rw [S'.out], by rw [S'.out], hqn, T.out, gb_trans X.out.2 (gb_trans (gb_alloc (Below.refl _ _) _) g)⟩
                case measure => simp [intOf]; omega
            | false =>
              cases hk6 : (kk == 6) with
              | true =>
                have F' : Hid (x = z + dim * rows) := by unfold Hid; rw [F, if_pos ⟨hm1', Or.inr (by simpa using hk6)⟩]
                clear hm1'
                clear F
                have xe := F'.out
                subst xe
                clear F'
                by_cases hq0 : q = 0
                · have S' : Hid (chGo (fN rows dim m) l (q + 1) = ((q : Int), z + dim * rows)) := by unfold Hid; rw [S.out, if_pos (Or.inl hq0)]
                  have hq0' : ((q : Int) == 0) = true := by rw [beq_iff_eq]; omega
                  clear S hq0
                  go_wp2_with fail
                  refine (hcost _).mono ?_
                  rintro e w2 ⟨rfl, g⟩
                  have f0 : w2.cell? ⟨wr.heap.size, 0, none⟩ = some (.int .i64 kk) := gb_keeps g (by simp [go_sem])
                  go_wp2_with (go_at_call 26; refine (looks_c _ _).mono ?_; rintro e w3 ⟨rfl, e1⟩; rw [e1]; clear e1 w3; simp only [hk5, hk6, Bool.false_or])
                  go_roundw
                  case rel => exact ⟨q + 1, by first | rfl | simp, by rw [S'.out], by rw [S'.out], hqn, T.out, gb_trans X.out.2 (gb_trans (gb_alloc (Below.refl _ _) _) g)⟩
                  case measure => simp [intOf]; omega
                have hq0' : ((q : Int) == 0) = false := by rw [beq_eq_false_iff_ne]; omega
                by_cases hlt : z + dim * rows < L
                · have S' : Hid (chGo (fN rows dim m) l (q + 1) = ((q : Int), z + dim * rows)) := by unfold Hid; rw [S.out, if_pos (Or.inr hlt)]
                  clear S
                  go_wp2_with fail
                  refine (hcost _).mono ?_
                  rintro e w2 ⟨rfl, g⟩
                  have f0 : w2.cell? ⟨wr.heap.size, 0, none⟩ = some (.int .i64 kk) := gb_keeps g (by simp [go_sem])
                  go_wp2_with (go_at_call 26; refine (looks_c _ _).mono ?_; rintro e w3 ⟨rfl, e1⟩; rw [e1]; clear e1 w3; simp only [hk5, hk6, Bool.false_or])
                  go_roundw
                  case rel => exact ⟨q + 1, by first | rfl | simp, by rw [S'.out], by rw [S'.out], hqn, T.out, gb_trans X.out.2 (gb_trans (gb_alloc (Below.refl _ _) _) g)⟩
                  case measure => simp [intOf]; omega
                · have S' : Hid (chGo (fN rows dim m) l (q + 1) = (B, L)) := by unfold Hid; rw [S.out, if_neg (by rintro (h | h); exact hq0 h; exact hlt h)]
                  clear S
                  go_wp2_with fail
                  refine (hcost _).mono ?_
                  rintro e w2 ⟨rfl, g⟩
                  have f0 : w2.cell? ⟨wr.heap.size, 0, none⟩ = some (.int .i64 kk) := gb_keeps g (by simp [go_sem])
                  go_wp2_with (go_at_call 26; refine (looks_c _ _).mono ?_; rintro e w3 ⟨rfl, e1⟩; rw [e1]; clear e1 w3; simp only [hk5, hk6, Bool.false_or])
                  go_roundw
                  case rel => exact ⟨q + 1, by first | rfl | simp, by rw [S'.out], by rw [S'.out], hqn, T.out, gb_trans X.out.2 (gb_trans (gb_alloc (Below.refl _ _) _) g)⟩
                  case measure => simp [intOf]; omega
              | false =>
                have F' : Hid (x = z) := by unfold Hid; rw [F, if_neg (by intro hh; rcases hh.2 with h5 | h5 <;> simp [h5] at hk5 hk6)]; omega
                clear hm1'
                clear F
                have xe := F'.out.symm
                subst xe
                clear F'
                by_cases hq0 : q = 0
                · have S' : Hid (chGo (fN rows dim m) l (q + 1) = ((q : Int), z)) := by unfold Hid; rw [S.out, if_pos (Or.inl hq0)]
                  have hq0' : ((q : Int) == 0) = true := by rw [beq_iff_eq]; omega
                  clear S hq0
                  go_wp2_with fail
                  refine (hcost _).mono ?_
                  rintro e w2 ⟨rfl, g⟩
                  have f0 : w2.cell? ⟨wr.heap.size, 0, none⟩ = some (.int .i64 kk) := gb_keeps g (by simp [go_sem])
                  go_wp2_with (go_at_call 26; refine (looks_c _ _).mono ?_; rintro e w3 ⟨rfl, e1⟩; rw [e1]; clear e1 w3; simp only [hk5, hk6, Bool.false_or])
                  go_roundw
                  case rel => exact ⟨q + 1, by first | rfl | simp, by rw [S'.out], by rw [S'.out], hqn, T.out, gb_trans X.out.2 (gb_trans (gb_alloc (Below.refl _ _) _) g)⟩
                  case measure => simp [intOf]; omega
                have hq0' : ((q : Int) == 0) = false := by rw [beq_eq_false_iff_ne]; omega
                by_cases hlt : z < L
                · have S' : Hid (chGo (fN rows dim m) l (q + 1) = ((q : Int), z)) := by unfold Hid; rw [S.out, if_pos (Or.inr hlt)]
                  clear S
                  go_wp2_with fail
                  refine (hcost _).mono ?_
                  rintro e w2 ⟨rfl, g⟩
                  have f0 : w2.cell? ⟨wr.heap.size, 0, none⟩ = some (.int .i64 kk) := gb_keeps g (by simp [go_sem])
                  go_wp2_with (go_at_call 26; refine (looks_c _ _).mono ?_; rintro e w3 ⟨rfl, e1⟩; rw [e1]; clear e1 w3; simp only [hk5, hk6, Bool.false_or])
                  go_roundw
                  case rel => exact ⟨q + 1, by first | rfl | simp, by rw [S'.out], by rw [S'.out], hqn, T.out, gb_trans X.out.2 (gb_trans (gb_alloc (Below.refl _ _) _) g)⟩
                  case measure => simp [intOf]; omega
                · have S' : Hid (chGo (fN rows dim m) l (q + 1) = (B, L)) := by unfold Hid; rw [S.out, if_neg (by rintro (h | h); exact hq0 h; exact hlt h)]
                  clear S
                  go_wp2_with fail
                  refine (hcost _).mono ?_
                  rintro e w2 ⟨rfl, g⟩
                  have f0 : w2.cell? ⟨wr.heap.size, 0, none⟩ = some (.int .i64 kk) := gb_keeps g (by simp [go_sem])
                  go_wp2_with (go_at_call 26; refine (looks_c _ _).mono ?_; rintro e w3 ⟨rfl, e1⟩; rw [e1]; clear e1 w3; simp only [hk5, hk6, Bool.false_or])
                  go_roundw
                  case rel => exact ⟨q + 1, by first | rfl | simp, by rw [S'.out], by rw [S'.out], hqn, T.out, gb_trans X.out.2 (gb_trans (gb_alloc (Below.refl _ _) _) g)⟩
                  case measure => simp [intOf]; omega
        · have R : Hid (choE l rows dim k m = cstE kk nn pp cc rows dim) := by unfold Hid; rw [E.out, erL_stop hql X.out.1 (by rw [← hx]; exact he), ← hx]
          have R' : Hid (choN l rows dim k m = 0) := by unfold Hid choN; rw [R.out, if_neg he]
          have hb : (cstE kk nn pp cc rows dim != 0) = true := by simpa using he
          have hz : cstN kk nn pp cc rows dim = 0 := if_neg he
          rw [hz] at hcost
          clear hx he hz
          generalize cstE kk nn pp cc rows dim = z at *
          go_wp2_with fail
          refine (hcost _).mono ?_
          rintro e w2 ⟨rfl, g⟩
          go_wp2
          go_ret2
          rw [R.out, R'.out]
          exact ⟨rfl, gb_trans X.out.2 (gb_trans (gb_alloc (Below.refl _ _) _) g)⟩
      · have hqe : q = l.length := by have := N.out; omega
        have R : Hid (choE l rows dim k m = 0) := by
          have := X.out.1
          rw [List.take_of_length_le (by omega)] at this
          unfold Hid; rw [E.out]; exact this
        have R' : Hid (choN l rows dim k m = (chGo (fN rows dim m) l q).1) := by unfold Hid choN; rw [R.out, if_pos rfl, hqe]
        clear hqe
        generalize chGo (fN rows dim m) l q = P at *
        obtain ⟨B, L⟩ := P
        go_wp2
        go_ret2
        rw [R.out, R'.out]
        exact ⟨rfl, X.out.2⟩
  · have R : Hid (choE l rows dim k m = chcE l.length k m) := by unfold Hid choE; rw [if_neg h0]
    have R' : Hid (choN l rows dim k m = 0) := by unfold Hid choN; rw [R.out, if_neg h0]
    have hb : (chcE l.length k m != 0) = true := by simpa using h0
    clear ha h0
    generalize hz : chcE l.length k m = z at *
    clear hz
    generalize l.length = n at *
    go_enter Try.func10, Try.ntmps10
    go_wp2_with (go_at_call 25; refine (hC _).mono ?_; rintro e w1 ⟨rfl, e1⟩; rw [e1]; clear e1 w1)
    go_ret2
    rw [R.out, R'.out]
    exact ⟨rfl, Below.refl _ _⟩
end Go.Proofs.Ytgmjokmiifmckaa
