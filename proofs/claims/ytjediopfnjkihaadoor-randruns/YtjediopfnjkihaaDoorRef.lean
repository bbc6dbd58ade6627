/- The reference's source. -/
import Derived.Test.YtjediopfnjkihaaDoorPerm
import Derived.Test.YtjediopfnjkihaaDoorLevel
namespace Go.Proofs.YtjediopfnjkihaaDoor
open Go.RowKit Go.Shelf

set_option maxHeartbeats 1000000 in
theorem rnext_c (b : Nat) (x : Int) (w : World) (hb : Boxed w b 30 (.int .u64 x)) :
    Calls Tryd.prog 19 #[.pointer (some ⟨b, 0, none⟩)] w fun e w' => e = .returned (.int .u64 (mx (stp x))) ∧ Boxed w' b 30 (.int .u64 (stp x)) ∧ w.grownBy w' (some b) := by
  have c1 := hb.cell
  have f1 := hb.frozen
  have F : Boxed (w.setCell ⟨b, 0, none⟩ (.int .u64 (IntKind.u64.wrap (x + 11400714819323198485)))) b 30 (.int .u64 (stp x)) := hb.set _
  have G := grownBy_set (grownBy_refl w (some b)) (p := ⟨b, 0, none⟩) (.inl rfl) (.int .u64 (IntKind.u64.wrap (x + 11400714819323198485)))
  have c2 := F.cell
  obtain ⟨z1, z2⟩ := u_stp x
  have hmx : bits .xor .u64 (IntKind.u64.wrap (bits .xor .u64 (IntKind.u64.wrap (bits .xor .u64 (stp x) (stp x / 1073741824) * 13787848793156543929)) (IntKind.u64.wrap (bits .xor .u64 (stp x) (stp x / 1073741824) * 13787848793156543929) / 134217728) * 10723151780598845931))
      (IntKind.u64.wrap (bits .xor .u64 (IntKind.u64.wrap (bits .xor .u64 (stp x) (stp x / 1073741824) * 13787848793156543929)) (IntKind.u64.wrap (bits .xor .u64 (stp x) (stp x / 1073741824) * 13787848793156543929) / 134217728) * 10723151780598845931) / 2147483648) = mx (stp x) := rfl
  generalize stp x = y at *
  go_enter Tryd.func19, Tryd.ntmps19
  go_wp2
  go_ret
  exact ⟨by rw [← hmx]; rfl, F, G⟩

set_option maxHeartbeats 400000 in
theorem rbelow_c (b : Nat) (x n : Int) (w : World) (hb : Boxed w b 30 (.int .u64 x)) :
    Calls Tryd.prog 15 #[.pointer (some ⟨b, 0, none⟩), .int .i64 n] w fun e w' => e = .returned (.tuple #[.int .i64 (belV x n), .int .i64 (ckE n 1 1000000000)]) ∧ Boxed w' b 30 (.int .u64 (belS x n)) ∧ w.grownBy w' (some b) := by
  by_cases h1 : n < 1
  · rw [belV, belS, if_neg (by omega), if_neg (by omega), ckE_no (by omega)]
    go_enter Tryd.func15, Tryd.ntmps15
    go_wp2
    exact bodyPost_ret (v := .tuple #[.int .i64 0, .int .i64 1]) (by simp [results, Tryd.results15, go_sem]) rfl ⟨rfl, hb, grownBy_refl _ _⟩
  by_cases h2 : 1000000000 < n
  · rw [belV, belS, if_neg (by omega), if_neg (by omega), ckE_no (by omega)]
    go_enter Tryd.func15, Tryd.ntmps15
    go_wp2
    exact bodyPost_ret (v := .tuple #[.int .i64 0, .int .i64 1]) (by simp [results, Tryd.results15, go_sem]) rfl ⟨rfl, hb, grownBy_refl _ _⟩
  · rw [belV, belS, if_pos (by omega), if_pos (by omega), ckE_ok (by omega)]
    have hn := rnext_c b x w hb
    obtain ⟨z1, z2⟩ := u_mx (stp x)
    have r1 := Int.emod_nonneg (mx (stp x)) (b := n) (by omega)
    have r2 := Int.emod_lt_of_pos (mx (stp x)) (b := n) (by omega)
    have e1 : wrap64 (mx (stp x) % n) = mx (stp x) % n := by simp only [wrap64]; omega
    generalize mx (stp x) = z at *
    go_enter Tryd.func15, Tryd.ntmps15
    go_wp2_with (go_at_call 19; refine hn.mono ?_; rintro e w1 ⟨rfl, b1, g1⟩)
    exact bodyPost_ret (v := .tuple #[.int .i64 (z % n), .int .i64 0]) (by simp [results, Tryd.results15, go_sem]) rfl ⟨rfl, b1, g1⟩

/-- P4.3 in one. -/
def levV (x n : Int) : Int := if ckOk n 0 30 then min (lz (mx (stp x)) / 2) n else 0
def levS (x n : Int) : Int := if ckOk n 0 30 then stp x else x
theorem u_levS {x n : Int} (h : U x) : U (levS x n) := by
  unfold levS; split
  · exact u_stp _
  · exact h
theorem level_c (b : Nat) (x n : Int) (w : World) (hb : Boxed w b 46 (.int .u64 x)) (hx : U x) (hT : Tab w) (h0 : 0 < b) :
    Calls Tryd.prog 13 #[.pointer (some ⟨b, 0, none⟩), .int .i64 n] w fun e w' => e = .returned (.tuple #[.int .i64 (levV x n), .int .i64 (ckE n 0 30)]) ∧ Boxed w' b 46 (.int .u64 (levS x n)) ∧ w.grownBy w' (some b) := by
  by_cases h : ckOk n 0 30
  · rw [levV, levS, if_pos h, if_pos h, ckE_ok h]; exact level_ok b x n w hb hx h hT h0
  · rw [levV, levS, if_neg h, if_neg h, ckE_no h]
    refine (level_no b n w h).mono ?_
    rintro e w' ⟨rfl, rfl⟩
    exact ⟨rfl, hb, grownBy_refl _ _⟩

theorem ctzFrom_zero : ∀ f, Lib.ctzFrom f 0 = f
  | 0 => rfl
  | f + 1 => by rw [Lib.ctzFrom, if_neg (by decide), Nat.zero_div, ctzFrom_zero f]; omega
theorem lz_from (z : Int) : lz z = (Lib.ctzFrom 64 z.toNat : Nat) := by
  unfold lz Lib.ctz
  split
  · rename_i h; rw [h, ctzFrom_zero]
  · rfl

set_option maxRecDepth 10000 in
set_option maxHeartbeats 1000000 in
theorem rlevel_c (b : Nat) (x n : Int) (w : World) (hb : Boxed w b 30 (.int .u64 x)) :
    Calls Tryd.prog 16 #[.pointer (some ⟨b, 0, none⟩), .int .i64 n] w fun e w' => e = .returned (.tuple #[.int .i64 (levV x n), .int .i64 (ckE n 0 30)]) ∧ Boxed w' b 30 (.int .u64 (levS x n)) ∧ w.grownBy w' (some b) := by
  by_cases h1 : n < 0
  · rw [levV, levS, if_neg (by omega), if_neg (by omega), ckE_no (by omega)]
    go_enter Tryd.func16, Tryd.ntmps16
    go_wp2
    exact bodyPost_ret (v := .tuple #[.int .i64 0, .int .i64 1]) (by simp [results, Tryd.results16, go_sem]) rfl ⟨rfl, hb, grownBy_refl _ _⟩
  by_cases h2 : 30 < n
  · rw [levV, levS, if_neg (by omega), if_neg (by omega), ckE_no (by omega)]
    go_enter Tryd.func16, Tryd.ntmps16
    go_wp2
    exact bodyPost_ret (v := .tuple #[.int .i64 0, .int .i64 1]) (by simp [results, Tryd.results16, go_sem]) rfl ⟨rfl, hb, grownBy_refl _ _⟩
  · rw [levV, levS, if_pos (by omega), if_pos (by omega), ckE_ok (by omega)]
    have hn := rnext_c b x w hb
    obtain ⟨z1, z2⟩ := u_mx (stp x)
    obtain ⟨q1, q2⟩ := lz_range (mx (stp x)) (u_mx _)
    have hlz := lz_from (mx (stp x))
    generalize lz (mx (stp x)) = q at *
    generalize mx (stp x) = z at *
    obtain ⟨m, rfl⟩ : ∃ m : Nat, z = m := ⟨z.toNat, by omega⟩
    rw [Int.toNat_natCast] at hlz
    go_enter Tryd.func16, Tryd.ntmps16
    go_wp2_with (go_at_call 19; refine hn.mono ?_; rintro e w1 ⟨rfl, b1, g1⟩)
    clear hn
    go_loopw [6, 7] (fun u v wr => ∃ k y : Nat, v = .int .i64 k ∧ u = .int .u64 y ∧ k ≤ 64 ∧ y < 18446744073709551616 ∧ k + Lib.ctzFrom (64 - k) y = Lib.ctzFrom 64 m ∧ w1 = wr) (fun _ v _ => 64 - (intOf v).toNat)
    case atStart => exact ⟨0, m, rfl, rfl, by omega, by omega, by simp, rfl⟩
    case round =>
      obtain ⟨k, y, rfl, rfl, hk, hy, hc, rfl⟩ := hrel
      by_cases hk64 : k < 64
      · obtain ⟨f, hf⟩ : ∃ f, 64 - k = f + 1 := ⟨63 - k, by omega⟩
        rw [hf, Lib.ctzFrom] at hc
        have hki : (k : Int) < 64 := by omega
        by_cases he : y % 2 = 1
        · rw [if_pos he] at hc
          obtain ⟨r, hr, hr0⟩ : ∃ r : Int, (y : Int) % 2 = r ∧ (r == 0) = false := ⟨_, rfl, by simp; omega⟩
          have hq : (k : Int) = q := by omega
          clear hlz hc he hf hk hk64 hy
          generalize (k : Int) = kk at hq hki ⊢
          subst hq
          clear z1 z2 q2 h1 h2
          go_wp2
          · exact bodyPost_ret (v := .tuple #[.int .i64 (min (kk / 2) n), .int .i64 0]) (by rw [Int.min_eq_right (by omega)]; simp [results, Tryd.results16, go_sem]) rfl ⟨rfl, b1, g1⟩
          · exact bodyPost_ret (v := .tuple #[.int .i64 (min (kk / 2) n), .int .i64 0]) (by rw [Int.min_eq_left (by omega)]; simp [results, Tryd.results16, go_sem]) rfl ⟨rfl, b1, g1⟩
        · rw [if_neg he] at hc
          have hei : (y : Int) % 2 = 0 := by omega
          go_wp2
          go_roundw
          case rel => exact ⟨k + 1, y / 2, by simp, by simp, by omega, by omega, by rw [show 64 - (k + 1) = f by omega]; omega, trivial⟩
          case measure => simp [intOf]; omega
      · have hki : ¬ (k : Int) < 64 := by omega
        obtain rfl : k = 64 := by omega
        have hq : q = (64 : Nat) := by rw [Nat.sub_self, Lib.ctzFrom] at hc; omega
        clear hlz hc
        subst hq
        go_wp2
        · exact bodyPost_ret (v := .tuple #[.int .i64 (min (((64 : Nat) : Int) / 2) n), .int .i64 0]) (by rw [Int.min_eq_right (by omega)]; simp [results, Tryd.results16, go_sem]) rfl ⟨rfl, b1, g1⟩

end Go.Proofs.YtjediopfnjkihaaDoor
