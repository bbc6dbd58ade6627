/- RandPerms' walk. -/
import Derived.Test.YtjediopfnjkihaaPlace
namespace Go.Proofs.Ytjediopfnjkihaa
open Go.RowKit Go.Shelf

set_option maxHeartbeats 2000000 in
theorem perms_low (x n : Int) (w : World) (hx : U x) (h : n < 0) :
    Calls Try.prog 3 #[.int .u64 x, .int .i64 n] w fun e w' => e = .returned (.bool true) ∧ w.grownBy w' none := by
  have T0 := two_new w x
  have hcl := clone_c w.heap.size x (w.alloc (.cells #[.int .u64 x] 36)) (Boxed.new w _ _)
  rw [World.size_alloc] at hcl
  generalize hV : (w.alloc (.cells #[.int .u64 x] 36)).alloc (.cells #[.int .u64 x] 36) = V at T0 hcl
  have h1 := perm_no w.heap.size n V (by omega)
  have h2 := perm_no (w.heap.size + 1) n V (by omega)
  go_enter Try.func3, Try.ntmps3
  go_wp2_with fail
  refine (new_c _ _).mono ?_
  rintro e w1 ⟨rfl, rfl⟩
  go_wp2_with fail
  refine hcl.mono ?_
  rintro e w1 ⟨rfl, rfl⟩
  clear hcl hV
  go_wp2_with fail
  refine h1.mono ?_
  rintro e w1 ⟨rfl, rfl⟩
  go_wp2_with fail
  refine h2.mono ?_
  rintro e w1 ⟨rfl, rfl⟩
  clear h1 h2
  go_wp2_with fail
  refine (awake_c _).mono ?_
  rintro e w2 ⟨rfl, g2⟩
  replace T0 := T0.still g2
  clear g2
  go_wp2_with fail
  refine (next_c _ x _ T0.bs hx).mono ?_
  rintro e w3 ⟨rfl, b3, g3⟩
  replace T0 := T0.left b3 g3
  clear b3 g3
  go_wp2_with fail
  refine (next_c _ x _ T0.bt hx).mono ?_
  rintro e w4 ⟨rfl, b4, g4⟩
  replace T0 := T0.right b4 g4
  clear b4 g4
  go_wp2
  go_ret
  exact ⟨rfl, T0.g⟩

set_option maxHeartbeats 2000000 in
theorem perms_high (x n : Int) (w : World) (hx : U x) (h : 65536 < n) :
    Calls Try.prog 3 #[.int .u64 x, .int .i64 n] w fun e w' => e = .returned (.bool true) ∧ w.grownBy w' none := by
  have T0 := two_new w x
  have hcl := clone_c w.heap.size x (w.alloc (.cells #[.int .u64 x] 36)) (Boxed.new w _ _)
  rw [World.size_alloc] at hcl
  generalize hV : (w.alloc (.cells #[.int .u64 x] 36)).alloc (.cells #[.int .u64 x] 36) = V at T0 hcl
  have h1 := perm_no w.heap.size n V (by omega)
  have h2 := perm_no (w.heap.size + 1) n V (by omega)
  go_enter Try.func3, Try.ntmps3
  go_wp2_with fail
  refine (new_c _ _).mono ?_
  rintro e w1 ⟨rfl, rfl⟩
  go_wp2_with fail
  refine hcl.mono ?_
  rintro e w1 ⟨rfl, rfl⟩
  clear hcl hV
  go_wp2_with fail
  refine h1.mono ?_
  rintro e w1 ⟨rfl, rfl⟩
  go_wp2_with fail
  refine h2.mono ?_
  rintro e w1 ⟨rfl, rfl⟩
  clear h1 h2
  go_wp2_with fail
  refine (awake_c _).mono ?_
  rintro e w2 ⟨rfl, g2⟩
  replace T0 := T0.still g2
  clear g2
  go_wp2_with fail
  refine (next_c _ x _ T0.bs hx).mono ?_
  rintro e w3 ⟨rfl, b3, g3⟩
  replace T0 := T0.left b3 g3
  clear b3 g3
  go_wp2_with fail
  refine (next_c _ x _ T0.bt hx).mono ?_
  rintro e w4 ⟨rfl, b4, g4⟩
  replace T0 := T0.right b4 g4
  clear b4 g4
  go_wp2
  go_ret
  exact ⟨rfl, T0.g⟩

set_option maxRecDepth 100000 in
set_option maxHeartbeats 4000000 in
theorem perms_ok (x : Int) (n : Nat) (w : World) (hx : U x) (hn : n ≤ 65536) :
    Calls Try.prog 3 #[.int .u64 x, .int .i64 n] w fun e w' => e = .returned (.bool true) ∧ w.grownBy w' none := by
  have T0 := two_new w x
  have hcl := clone_c w.heap.size x (w.alloc (.cells #[.int .u64 x] 36)) (Boxed.new w _ _)
  rw [World.size_alloc] at hcl
  generalize hV : (w.alloc (.cells #[.int .u64 x] 36)).alloc (.cells #[.int .u64 x] 36) = V at T0 hcl
  have sV : w.heap.size + 2 = V.heap.size := by rw [← hV]; simp
  have hper := per_pS x n (n - 1) (Nat.le_refl _)
  have n0 : ¬ (n : Int) < 0 := by omega
  have n1 : ¬ (65536 : Int) < n := by omega
  go_enter Try.func3, Try.ntmps3
  go_wp2_with fail
  refine (new_c _ _).mono ?_
  rintro e w1 ⟨rfl, rfl⟩
  go_wp2_with fail
  refine hcl.mono ?_
  rintro e w0 ⟨rfl, rfl⟩
  clear hcl hV
  go_wp2_with fail
  refine (perm_ok w.heap.size n x _ T0.bs hx hn).mono ?_
  rintro e w1 ⟨rfl, A1, b1, g1⟩
  have s1 := g1.size
  replace T0 := T0.left b1 g1
  clear b1 g1
  go_wp2_with fail
  refine (perm_ok (w.heap.size + 1) n x _ T0.bt hx hn).mono ?_
  rintro e w2 ⟨rfl, A2, b2, g2⟩
  have A1' := A1.kept g2 (by simp; omega)
  have s2 := g2.size
  replace T0 := T0.right b2 g2
  have l1 := A1.lt
  clear b2 g2 A1
  generalize hg1 : w1.heap.size = g1' at *
  have ux := u_stN hx (n - 1)
  generalize stN x (n - 1) = y at *
  generalize pS x n (n - 1) = f at *
  go_wp2_with fail
  refine (same_eq _ _ n f _ ⟨_, _, rfl, .inr ⟨_, rfl, A1'⟩⟩ ⟨_, _, rfl, .inr ⟨_, rfl, A2⟩⟩ hn).mono ?_
  rintro e w3 ⟨rfl, g3⟩
  have A3 := A1'.kept g3 (by simp)
  have s3 := g3.size
  replace T0 := T0.still g3
  clear g3 A1' A2
  have hmk := run_make_row' (P := Try.prog) 33 4 (.bool false) 1 Try.underlying33 Try.info4' rfl .i64 .i64 n (by omega) (by omega) w3
  have B0 := bl_made w3 n
  have T4 := T0.still (World.grownBy_alloc w3 (.cells (madeCells #[Value.bool false] n) 4) none)
  have A4 := A3.alloc (.cells (madeCells #[Value.bool false] n) 4)
  have l3 := A3.lt
  have z1 := T0.bs.lt
  have z2 := T0.bt.lt
  have z3 := T0.g.size
  generalize hG : w0.heap.size = G at *
  generalize hM : w3.heap.size = M at *
  generalize w3.alloc (.cells (madeCells #[Value.bool false] n) 4) = W4 at *
  clear T0 A3
  go_wp2
  clear hmk
  go_loopw [12] (fun iv wr => ∃ k : Nat, iv = .int .i64 k ∧ k ≤ n ∧ Arr wr G n n f ∧ Bl wr M n (seenB f k) ∧ Two w wr w.heap.size (w.heap.size + 1) y y) (fun iv _ => n - (intOf iv).toNat)
  case atStart => exact ⟨0, rfl, Nat.zero_le _, A4, B0, T4⟩
  case round =>
    clear A4 B0 T4
    obtain ⟨k, rfl, hk, A, B, T⟩ := hrel
    by_cases hlt : k < n
    · have hlt' : (k : Int) < n := by omega
      obtain ⟨j, hj⟩ : ∃ j : Nat, f k = (j : Int) := ⟨(f k).toNat, by have := (hper.1 k hlt).1; omega⟩
      have hjn : j < n := by have := (hper.1 k hlt).2; omega
      have hjn' : (j : Int) < n := by omega
      have hsn := seen_no hper hlt hj
      have cK := A.cell hlt
      rw [hj] at cK
      have cS := B.cell hjn
      rw [hsn] at cS
      have fS := B.frozen j
      have R1 : Arr (wr.setCell ⟨M, j, none⟩ (.bool true)) G n n f := A.other (by dsimp only; omega) _
      have R2 : Bl (wr.setCell ⟨M, j, none⟩ (.bool true)) M n (seenB f (k + 1)) := by rw [seen_succ f k j hj]; exact B.set hjn true
      have R3 : Two w (wr.setCell ⟨M, j, none⟩ (.bool true)) w.heap.size (w.heap.size + 1) y y :=
        ⟨boxed_off T.bs (by dsimp only; omega) _, boxed_off T.bt (by dsimp only; omega) _, T.ne, T.ls, T.lt, grownBy_new (p := ⟨M, j, none⟩) T.g (by dsimp only; omega) _⟩
      clear hsn hj hper A B T
      go_wp2
      go_roundw
      case rel => exact ⟨k + 1, by simp, by omega, R1, R2, R3⟩
      case measure => simp [intOf]; omega
    · obtain rfl : k = n := by omega
      have hlt' : ¬ (k : Int) < k := by omega
      go_wp2_with fail
      refine (awake_c _).mono ?_
      rintro e w5 ⟨rfl, g5⟩
      replace T := T.still g5
      clear g5
      go_wp2_with fail
      refine (next_c _ y _ T.bs ux).mono ?_
      rintro e w6 ⟨rfl, b6, g6⟩
      replace T := T.left b6 g6
      clear b6 g6
      go_wp2_with fail
      refine (next_c _ y _ T.bt ux).mono ?_
      rintro e w7 ⟨rfl, b7, g7⟩
      replace T := T.right b7 g7
      clear b7 g7
      go_wp2
      go_ret
      exact ⟨rfl, T.g⟩

theorem randPerms_any (x n : Int) (w : World) (hx : U x) :
    Calls Try.prog 3 #[.int .u64 x, .int .i64 n] w fun e w' => e = .returned (.bool true) ∧ w.grownBy w' none := by
  by_cases h1 : n < 0
  · exact perms_low x n w hx h1
  by_cases h2 : 65536 < n
  · exact perms_high x n w hx h2
  · obtain ⟨m, rfl⟩ : ∃ m : Nat, n = m := ⟨n.toNat, by omega⟩
    exact perms_ok x m w hx (by omega)

end Go.Proofs.Ytjediopfnjkihaa
