/- The law's step: a call, held against the reference's. -/
import Derived.Test.YtjediopfnjkihaaDoorSame
namespace Go.Proofs.YtjediopfnjkihaaDoor
open Go.RowKit Go.Shelf

/-- Of what was there only the blocks s and r may have turned. -/
structure G2 (s r : Nat) (w w' : World) : Prop where
  os : w'.os = w.os
  tape : w'.tape = w.tape
  output : w'.output = w.output
  size : w.heap.size ≤ w'.heap.size
  block : ∀ k, k < w.heap.size → k ≠ s → k ≠ r → w'.heap[k]? = w.heap[k]?
theorem G2.refl (s r : Nat) (w : World) : G2 s r w w := ⟨rfl, rfl, rfl, Nat.le_refl _, fun _ _ _ _ => rfl⟩
theorem G2.grown {s r : Nat} {w a b : World} {q : Option Nat} (h : G2 s r w a) (g : a.grownBy b q) (hq : ∀ k, q = some k → k = s ∨ k = r ∨ w.heap.size ≤ k) : G2 s r w b :=
  ⟨g.os.trans h.os, g.tape.trans h.tape, g.output.trans h.output, Nat.le_trans h.size g.size, fun k hk hs hr => (g.block k (Nat.lt_of_lt_of_le hk h.size) (fun e => by
    rcases hq k e.symm with h | h | h <;> omega)).trans (h.block k hk hs hr)⟩
theorem G2.set {s r : Nat} {w a : World} (h : G2 s r w a) {p : Addr} (hp : w.heap.size ≤ p.block) (u : Value) : G2 s r w (a.setCell p u) :=
  ⟨h.os, h.tape, h.output, Nat.le_trans h.size (KeepsWalks.setCell a p u).size, fun k hk hs hr => (Below.heap_setCell a p u k (by omega)).trans (h.block k hk hs hr)⟩

/-- A source and the reference's, of one state. -/
structure Pr (w W : World) (s r : Nat) (x : Int) : Prop where
  bs : Boxed W s 46 (.int .u64 x)
  br : Boxed W r 30 (.int .u64 x)
  u : U x
  g : G2 s r w W
theorem Pr.ne {w W : World} {s r : Nat} {x : Int} (h : Pr w W s r x) : s ≠ r := Boxed.ne h.bs h.br (by decide)

set_option maxHeartbeats 2000000 in
theorem step_next (s r : Nat) (x k n : Int) (w : World) (P : Pr w w s r x) (k1 : ¬ k = 1) (k2 : ¬ k = 2) (k3 : ¬ k = 3) :
    Calls Tryd.prog 10 #[.pointer (some ⟨s, 0, none⟩), .pointer (some ⟨r, 0, none⟩), .agg #[.int .i64 k, .int .i64 n]] w fun e w' => e = .returned (.bool true) ∧ ∃ y, Pr w w' s r y := by
  have b0 := P.bs.alloc (.cells #[.int .i64 k, .int .i64 n] 32)
  have c0 := P.br.alloc (.cells #[.int .i64 k, .int .i64 n] 32)
  have g0 : G2 s r w (w.alloc (.cells #[.int .i64 k, .int .i64 n] 32)) := (G2.refl s r w).grown (World.grownBy_alloc w _ none) (by simp)
  have ne := P.ne
  have n1 : some r ≠ some s := by simpa using Ne.symm ne
  have n2 : some s ≠ some r := by simpa using ne
  have ux := P.u
  have sl := P.bs.lt
  have rl := P.br.lt
  have wl : w.heap.size < (w.alloc (.cells #[.int .i64 k, .int .i64 n] 32)).heap.size := by simp
  have q0 : (w.alloc (.cells #[.int .i64 k, .int .i64 n] 32)).cell? ⟨w.heap.size, 0, none⟩ = some (.int .i64 k) := by simp [go_sem]
  have q1 : (w.alloc (.cells #[.int .i64 k, .int .i64 n] 32)).cell? ⟨w.heap.size, 1, none⟩ = some (.int .i64 n) := by simp [go_sem]
  generalize hV : w.alloc (.cells #[.int .i64 k, .int .i64 n] 32) = V at *
  clear P
  go_enter Tryd.func10, Tryd.ntmps10
  go_wp2_with fail
  refine (next_c s x V b0 ux).mono ?_
  rintro e V1 ⟨rfl, b1, g1⟩
  have c1 := c0.kept g1 n1
  have q1 := World.grownBy.cell g1 q1 (by simp; omega)
  replace g0 := g0.grown g1 (fun k e => by cases e; exact .inl rfl)
  clear g1 b0 c0
  go_wp2_with fail
  refine (rnext_c r x V1 c1).mono ?_
  rintro e V2 ⟨rfl, c2, g2⟩
  have b2 := b1.kept g2 n2
  replace g0 := g0.grown g2 (fun k e => by cases e; exact .inr (.inl rfl))
  clear g2 b1 c1
  go_wp2
  go_ret
  exact ⟨rfl, _, b2, c2, u_stp _, g0⟩
set_option maxHeartbeats 2000000 in
theorem step_below (s r : Nat) (x n : Int) (w : World) (P : Pr w w s r x) :
    Calls Tryd.prog 10 #[.pointer (some ⟨s, 0, none⟩), .pointer (some ⟨r, 0, none⟩), .agg #[.int .i64 1, .int .i64 n]] w fun e w' => e = .returned (.bool true) ∧ ∃ y, Pr w w' s r y := by
  have b0 := P.bs.alloc (.cells #[.int .i64 1, .int .i64 n] 32)
  have c0 := P.br.alloc (.cells #[.int .i64 1, .int .i64 n] 32)
  have g0 : G2 s r w (w.alloc (.cells #[.int .i64 1, .int .i64 n] 32)) := (G2.refl s r w).grown (World.grownBy_alloc w _ none) (by simp)
  have ne := P.ne
  have n1 : some r ≠ some s := by simpa using Ne.symm ne
  have n2 : some s ≠ some r := by simpa using ne
  have ux := P.u
  have sl := P.bs.lt
  have rl := P.br.lt
  have wl : w.heap.size < (w.alloc (.cells #[.int .i64 1, .int .i64 n] 32)).heap.size := by simp
  have q0 : (w.alloc (.cells #[.int .i64 1, .int .i64 n] 32)).cell? ⟨w.heap.size, 0, none⟩ = some (.int .i64 1) := by simp [go_sem]
  have q1 : (w.alloc (.cells #[.int .i64 1, .int .i64 n] 32)).cell? ⟨w.heap.size, 1, none⟩ = some (.int .i64 n) := by simp [go_sem]
  generalize hV : w.alloc (.cells #[.int .i64 1, .int .i64 n] 32) = V at *
  clear P
  go_enter Tryd.func10, Tryd.ntmps10
  go_wp2_with fail
  refine (below_c s x n V b0 ux).mono ?_
  rintro e V1 ⟨rfl, b1, g1⟩
  have c1 := c0.kept g1 n1
  have q1 := World.grownBy.cell g1 q1 (by simp; omega)
  replace g0 := g0.grown g1 (fun k e => by cases e; exact .inl rfl)
  clear g1 b0 c0
  go_wp2_with fail
  refine (rbelow_c r x n V1 c1).mono ?_
  rintro e V2 ⟨rfl, c2, g2⟩
  have b2 := b1.kept g2 n2
  replace g0 := g0.grown g2 (fun k e => by cases e; exact .inr (.inl rfl))
  clear g2 b1 c1
  generalize belV x n = zz
  generalize ckE n 1 1000000000 = ee
  go_wp2
  go_ret
  exact ⟨rfl, _, b2, c2, u_belS ux, g0⟩
set_option maxHeartbeats 2000000 in
theorem step_level (s r : Nat) (x n : Int) (w : World) (P : Pr w w s r x) (hT : Tab w) (hs : 0 < s) :
    Calls Tryd.prog 10 #[.pointer (some ⟨s, 0, none⟩), .pointer (some ⟨r, 0, none⟩), .agg #[.int .i64 2, .int .i64 n]] w fun e w' => e = .returned (.bool true) ∧ ∃ y, Pr w w' s r y := by
  have b0 := P.bs.alloc (.cells #[.int .i64 2, .int .i64 n] 32)
  have c0 := P.br.alloc (.cells #[.int .i64 2, .int .i64 n] 32)
  have g0 : G2 s r w (w.alloc (.cells #[.int .i64 2, .int .i64 n] 32)) := (G2.refl s r w).grown (World.grownBy_alloc w _ none) (by simp)
  have ne := P.ne
  have n1 : some r ≠ some s := by simpa using Ne.symm ne
  have n2 : some s ≠ some r := by simpa using ne
  have ux := P.u
  have sl := P.bs.lt
  have rl := P.br.lt
  have wl : w.heap.size < (w.alloc (.cells #[.int .i64 2, .int .i64 n] 32)).heap.size := by simp
  have q0 : (w.alloc (.cells #[.int .i64 2, .int .i64 n] 32)).cell? ⟨w.heap.size, 0, none⟩ = some (.int .i64 2) := by simp [go_sem]
  have q1 : (w.alloc (.cells #[.int .i64 2, .int .i64 n] 32)).cell? ⟨w.heap.size, 1, none⟩ = some (.int .i64 n) := by simp [go_sem]
  replace hT : Tab (w.alloc (.cells #[.int .i64 2, .int .i64 n] 32)) := fun j hj => by
    rw [World.cell?_of_block (w := w) (Below.heap_alloc w _ 0 (by omega))]
    exact hT j hj
  generalize hV : w.alloc (.cells #[.int .i64 2, .int .i64 n] 32) = V at *
  clear P
  go_enter Tryd.func10, Tryd.ntmps10
  go_wp2_with fail
  refine (level_c s x n V b0 ux hT hs).mono ?_
  rintro e V1 ⟨rfl, b1, g1⟩
  have c1 := c0.kept g1 n1
  have q1 := World.grownBy.cell g1 q1 (by simp; omega)
  replace g0 := g0.grown g1 (fun k e => by cases e; exact .inl rfl)
  clear g1 b0 c0
  go_wp2_with fail
  refine (rlevel_c r x n V1 c1).mono ?_
  rintro e V2 ⟨rfl, c2, g2⟩
  have b2 := b1.kept g2 n2
  replace g0 := g0.grown g2 (fun k e => by cases e; exact .inr (.inl rfl))
  clear g2 b1 c1
  generalize levV x n = zz
  generalize ckE n 0 30 = ee
  go_wp2
  go_ret
  exact ⟨rfl, _, b2, c2, u_levS ux, g0⟩

theorem rdA_nil (w : World) (f : Nat → Int) : RdA w (.slice none 0 0) 0 f := ⟨none, 0, rfl, .inl rfl⟩
set_option maxHeartbeats 2000000 in
theorem step_perm_no (s r : Nat) (x n : Int) (w : World) (P : Pr w w s r x) (h : ¬ ckOk n 0 65536) :
    Calls Tryd.prog 10 #[.pointer (some ⟨s, 0, none⟩), .pointer (some ⟨r, 0, none⟩), .agg #[.int .i64 3, .int .i64 n]] w fun e w' => e = .returned (.bool true) ∧ ∃ y, Pr w w' s r y := by
  have b0 := P.bs.alloc (.cells #[.int .i64 3, .int .i64 n] 32)
  have c0 := P.br.alloc (.cells #[.int .i64 3, .int .i64 n] 32)
  have g0 : G2 s r w (w.alloc (.cells #[.int .i64 3, .int .i64 n] 32)) := (G2.refl s r w).grown (World.grownBy_alloc w _ none) (by simp)
  have ne := P.ne
  have n1 : some r ≠ some s := by simpa using Ne.symm ne
  have n2 : some s ≠ some r := by simpa using ne
  have ux := P.u
  have sl := P.bs.lt
  have rl := P.br.lt
  have wl : w.heap.size < (w.alloc (.cells #[.int .i64 3, .int .i64 n] 32)).heap.size := by simp
  have q0 : (w.alloc (.cells #[.int .i64 3, .int .i64 n] 32)).cell? ⟨w.heap.size, 0, none⟩ = some (.int .i64 3) := by simp [go_sem]
  have q1 : (w.alloc (.cells #[.int .i64 3, .int .i64 n] 32)).cell? ⟨w.heap.size, 1, none⟩ = some (.int .i64 n) := by simp [go_sem]
  generalize hV : w.alloc (.cells #[.int .i64 3, .int .i64 n] 32) = V at *
  clear P
  have h1 := perm_no s n V h
  have h2 := rperm_no r n V h
  clear h
  go_enter Tryd.func10, Tryd.ntmps10
  go_wp2_with fail
  refine h1.mono ?_
  rintro e V1 ⟨rfl, rfl⟩
  go_wp2_with fail
  refine h2.mono ?_
  rintro e V1 ⟨rfl, rfl⟩
  go_wp2_with fail
  refine (same_eq _ _ 0 (fun _ => 0) _ (rdA_nil _ _) (rdA_nil _ _) (by decide)).mono ?_
  rintro e V1 ⟨rfl, g1⟩
  have b1 := b0.kept g1 (by simp)
  have c1 := c0.kept g1 (by simp)
  replace g0 := g0.grown g1 (by simp)
  clear g1 h1 h2 b0 c0 q0 q1
  go_wp2
  go_loopw [20] (fun iv wr => iv = .int .i64 0 ∧ V1 = wr) (fun _ _ => 0)
  case atStart => exact ⟨rfl, rfl⟩
  case round =>
    obtain ⟨rfl, rfl⟩ := hrel
    go_wp2
    go_ret
    exact ⟨rfl, _, b1, c1, ux, g0⟩

set_option maxRecDepth 100000 in
set_option maxHeartbeats 4000000 in
theorem step_perm_ok (s r : Nat) (x : Int) (m : Nat) (w : World) (P : Pr w w s r x) (hm : m ≤ 65536) :
    Calls Tryd.prog 10 #[.pointer (some ⟨s, 0, none⟩), .pointer (some ⟨r, 0, none⟩), .agg #[.int .i64 3, .int .i64 m]] w fun e w' => e = .returned (.bool true) ∧ ∃ y, Pr w w' s r y := by
  have b0 := P.bs.alloc (.cells #[.int .i64 3, .int .i64 m] 32)
  have c0 := P.br.alloc (.cells #[.int .i64 3, .int .i64 m] 32)
  have g0 : G2 s r w (w.alloc (.cells #[.int .i64 3, .int .i64 m] 32)) := (G2.refl s r w).grown (World.grownBy_alloc w _ none) (by simp)
  have ne := P.ne
  have n1 : some r ≠ some s := by simpa using Ne.symm ne
  have n2 : some s ≠ some r := by simpa using ne
  have ux := P.u
  have sl := P.bs.lt
  have rl := P.br.lt
  have wl : w.heap.size < (w.alloc (.cells #[.int .i64 3, .int .i64 m] 32)).heap.size := by simp
  have q0 : (w.alloc (.cells #[.int .i64 3, .int .i64 m] 32)).cell? ⟨w.heap.size, 0, none⟩ = some (.int .i64 3) := by simp [go_sem]
  have q1 : (w.alloc (.cells #[.int .i64 3, .int .i64 m] 32)).cell? ⟨w.heap.size, 1, none⟩ = some (.int .i64 m) := by simp [go_sem]
  generalize hV : w.alloc (.cells #[.int .i64 3, .int .i64 m] 32) = V at *
  clear P
  go_enter Tryd.func10, Tryd.ntmps10
  go_wp2_with fail
  refine (perm_ok s m x V b0 ux hm).mono ?_
  rintro e V1 ⟨rfl, A1, b1, g1⟩
  have c1 := c0.kept g1 n1
  have q1 := World.grownBy.cell g1 q1 (by simp; omega)
  have s1 := g1.size
  replace g0 := g0.grown g1 (fun k e => by cases e; exact .inl rfl)
  clear g1 b0 c0 q0
  go_wp2_with fail
  refine (rperm_ok r m x V1 c1 hm).mono ?_
  rintro e V2 ⟨v, rfl, R2, c2, g2, hv⟩
  have b2 := b1.kept g2 n2
  have A2 := A1.kept g2 (by simp; omega)
  have s2 := g2.size
  replace g0 := g0.grown g2 (fun k e => by cases e; exact .inr (.inl rfl))
  clear g2 b1 c1 A1 q1 hv
  go_wp2_with fail
  refine (same_eq _ _ m _ _ ⟨_, _, rfl, .inr ⟨_, rfl, A2⟩⟩ R2 hm).mono ?_
  rintro e V3 ⟨rfl, g3⟩
  have b3 := b2.kept g3 (by simp)
  have c3 := c2.kept g3 (by simp)
  have A3 := A2.kept g3 (by simp)
  replace g0 := g0.grown g3 (by simp)
  clear g3 b2 c2 A2 R2
  have uy := u_stN ux (m - 1)
  generalize stN x (m - 1) = y at *
  generalize pS x m (m - 1) = f at *
  have hg : ∃ g, V.heap.size = g := ⟨_, rfl⟩
  obtain ⟨g, hg⟩ := hg
  rw [hg] at A3 ⊢
  have gs : g ≠ s := by omega
  have gr : g ≠ r := by omega
  have gw : w.heap.size ≤ g := by omega
  clear hg
  go_wp2
  go_loopw [20] (fun iv wr => ∃ (k : Nat) (f : Nat → Int), iv = .int .i64 k ∧ k ≤ m ∧ Arr wr g m m f ∧ Boxed wr s 46 (.int .u64 y) ∧ Boxed wr r 30 (.int .u64 y) ∧ G2 s r w wr) (fun iv _ => m - (intOf iv).toNat)
  case atStart => exact ⟨0, f, rfl, Nat.zero_le _, A3, b3, c3, g0⟩
  case round =>
    clear A3 b3 c3 g0 f
    obtain ⟨k, f, rfl, hk, A, bb, cc, gg⟩ := hrel
    by_cases hlt : k < m
    · have hlt' : (k : Int) < m := by omega
      have cK := A.cell hlt
      have fK := A.frozen k
      go_wp2
      go_roundw
      case rel => exact ⟨k + 1, _, by simp, by omega, A.set hlt (-7), boxed_off bb gs _, boxed_off cc gr _, gg.set gw _⟩
      case measure => simp [intOf]; omega
    · obtain rfl : k = m := by omega
      have hlt' : ¬ (k : Int) < k := by omega
      go_wp2
      go_ret
      exact ⟨rfl, _, bb, cc, uy, gg⟩

/-- Any call. -/
theorem step_c (s r : Nat) (x k n : Int) (w : World) (P : Pr w w s r x) (hT : Tab w) (hs : 0 < s) :
    Calls Tryd.prog 10 #[.pointer (some ⟨s, 0, none⟩), .pointer (some ⟨r, 0, none⟩), .agg #[.int .i64 k, .int .i64 n]] w fun e w' => e = .returned (.bool true) ∧ ∃ y, Pr w w' s r y := by
  by_cases h1 : k = 1
  · subst h1; exact step_below s r x n w P
  by_cases h2 : k = 2
  · subst h2; exact step_level s r x n w P hT hs
  by_cases h3 : k = 3
  · subst h3
    by_cases h : ckOk n 0 65536
    · obtain ⟨m, rfl⟩ : ∃ m : Nat, n = m := ⟨n.toNat, by omega⟩
      exact step_perm_ok s r x m w P (by omega)
    · exact step_perm_no s r x n w P h
  · exact step_next s r x k n w P h1 h2 h3

end Go.Proofs.YtjediopfnjkihaaDoor
