/- RandWithin's walk. -/
import Derived.Test.YtjediopfnjkihaaDoorLevel
import Derived.Test.YtjediopfnjkihaaDoorNil
namespace Go.Proofs.YtjediopfnjkihaaDoor
open Go.RowKit Go.Shelf

/-- Two sources of the call's own. -/
structure Two (w V : World) (s t : Nat) (x y : Int) : Prop where
  bs : Boxed V s 46 (.int .u64 x)
  bt : Boxed V t 46 (.int .u64 y)
  ne : s ≠ t
  ls : w.heap.size ≤ s
  lt : w.heap.size ≤ t
  g : w.grownBy V none
theorem Two.left {w V V' : World} {s t : Nat} {x y x' : Int} (h : Two w V s t x y) (b : Boxed V' s 46 (.int .u64 x')) (g : V.grownBy V' (some s)) : Two w V' s t x' y :=
  ⟨b, h.bt.kept g (by simpa using Ne.symm h.ne), h.ne, h.ls, h.lt, grown_trans h.g g (.inr h.ls)⟩
theorem Two.right {w V V' : World} {s t : Nat} {x y y' : Int} (h : Two w V s t x y) (b : Boxed V' t 46 (.int .u64 y')) (g : V.grownBy V' (some t)) : Two w V' s t x y' :=
  ⟨h.bs.kept g (by simpa using h.ne), b, h.ne, h.ls, h.lt, grown_trans h.g g (.inr h.lt)⟩
theorem Two.still {w V V' : World} {s t : Nat} {x y : Int} (h : Two w V s t x y) (g : V.grownBy V' none) : Two w V' s t x y :=
  ⟨h.bs.kept g (by simp), h.bt.kept g (by simp), h.ne, h.ls, h.lt, grown_none h.g g⟩
theorem Two.tab {w V : World} {s t : Nat} {x y : Int} (h : Two w V s t x y) (hT : Tab w) (hw : 0 < w.heap.size) : Tab V := by
  intro j hj
  rw [World.cell?_of_block (w := w) (w' := V)]
  · exact hT j hj
  · exact h.g.block 0 hw (by simp)
theorem two_new (w : World) (x : Int) : Two w ((w.alloc (.cells #[.int .u64 x] 46)).alloc (.cells #[.int .u64 x] 46)) w.heap.size (w.heap.size + 1) x x := by
  have := Boxed.new (w.alloc (.cells #[.int .u64 x] 46)) 46 (.int .u64 x)
  rw [World.size_alloc] at this
  exact ⟨(Boxed.new w _ _).alloc _, this, by omega, Nat.le_refl _, by omega, grownBy_al (grownBy_al (grownBy_refl _ _) _) _⟩

set_option maxHeartbeats 1000000 in
theorem within_low (x n : Int) (w : World) (hx : U x) (h : n < 1) :
    Calls Tryd.prog 4 #[.int .u64 x, .int .i64 n] w fun e w' => e = .returned (.bool true) ∧ w.grownBy w' none := by
  have T0 := two_new w x
  generalize hV : (w.alloc (.cells #[.int .u64 x] 46)).alloc (.cells #[.int .u64 x] 46) = V at T0
  have hb := below_no w.heap.size n V (by omega)
  go_enter Tryd.func4, Tryd.ntmps4
  go_wp2_with fail
  refine (new_c _ _).mono ?_
  rintro e w1 ⟨rfl, rfl⟩
  go_wp2_with fail
  refine (new_c _ _).mono ?_
  rintro e w1 ⟨rfl, rfl⟩
  rw [hV, World.size_alloc]
  clear hV
  go_wp2_with fail
  refine hb.mono ?_
  rintro e w1 ⟨rfl, rfl⟩
  clear hb
  go_wp2_with fail
  refine (awake_c _).mono ?_
  rintro e w2 ⟨rfl, g2⟩
  replace T0 := T0.still g2
  clear g2
  go_wp2_with fail
  refine (next_c _ x _ T0.bs hx).mono ?_
  rintro e w3 ⟨rfl, b3, g3⟩
  replace T0 := T0.left b3 g3
  clear b3 g3
  go_wp2_with fail
  refine (next_c _ x _ T0.bt hx).mono ?_
  rintro e w4 ⟨rfl, b4, g4⟩
  replace T0 := T0.right b4 g4
  clear b4 g4
  go_wp2
  go_ret
  exact ⟨rfl, T0.g⟩
set_option maxHeartbeats 1000000 in
theorem within_high (x n : Int) (w : World) (hx : U x) (h : 1000000000 < n) :
    Calls Tryd.prog 4 #[.int .u64 x, .int .i64 n] w fun e w' => e = .returned (.bool true) ∧ w.grownBy w' none := by
  have T0 := two_new w x
  generalize hV : (w.alloc (.cells #[.int .u64 x] 46)).alloc (.cells #[.int .u64 x] 46) = V at T0
  have hb := below_no w.heap.size n V (by omega)
  go_enter Tryd.func4, Tryd.ntmps4
  go_wp2_with fail
  refine (new_c _ _).mono ?_
  rintro e w1 ⟨rfl, rfl⟩
  go_wp2_with fail
  refine (new_c _ _).mono ?_
  rintro e w1 ⟨rfl, rfl⟩
  rw [hV, World.size_alloc]
  clear hV
  go_wp2_with fail
  refine hb.mono ?_
  rintro e w1 ⟨rfl, rfl⟩
  clear hb
  go_wp2_with fail
  refine (awake_c _).mono ?_
  rintro e w2 ⟨rfl, g2⟩
  replace T0 := T0.still g2
  clear g2
  go_wp2_with fail
  refine (next_c _ x _ T0.bs hx).mono ?_
  rintro e w3 ⟨rfl, b3, g3⟩
  replace T0 := T0.left b3 g3
  clear b3 g3
  go_wp2_with fail
  refine (next_c _ x _ T0.bt hx).mono ?_
  rintro e w4 ⟨rfl, b4, g4⟩
  replace T0 := T0.right b4 g4
  clear b4 g4
  go_wp2
  go_ret
  exact ⟨rfl, T0.g⟩
set_option maxHeartbeats 2000000 in
theorem within_small (x n : Int) (w : World) (hx : U x) (n0 : 1 ≤ n) (n1 : n ≤ 30) (hT : Tab w) (hw : 0 < w.heap.size) :
    Calls Tryd.prog 4 #[.int .u64 x, .int .i64 n] w fun e w' => e = .returned (.bool true) ∧ w.grownBy w' none := by
  have T0 := two_new w x
  generalize hV : (w.alloc (.cells #[.int .u64 x] 46)).alloc (.cells #[.int .u64 x] 46) = V at T0
  have hb := below_ok w.heap.size x n V T0.bs hx (by omega)
  have r1 := Int.emod_nonneg (mx (stp x)) (b := n) (by omega)
  have r2 := Int.emod_lt_of_pos (mx (stp x)) (b := n) (by omega)
  have hn1 := fun V hV => next_c (w.heap.size + 1) x V hV hx
  obtain ⟨m1, m2⟩ := u_mx (stp x)
  have hl := fun V (T : Two w V w.heap.size (w.heap.size + 1) (stp x) x) => level_ok w.heap.size (stp x) n V T.bs (u_stp _) (by omega) (T.tab hT hw) hw
  obtain ⟨q0, hq⟩ : ∃ q, min (lz (mx (stp (stp x))) / 2) n = q := ⟨_, rfl⟩
  have z1 := lz_range (mx (stp (stp x))) (u_mx _)
  have q1 : 0 ≤ q0 := by omega
  have q2 : q0 ≤ n := by omega
  have q3 : q0 ≤ 30 := by omega
  rw [hq] at hl
  clear z1 hq
  generalize mx (stp x) = z at *
  generalize hr : z % n = rr at *
  have hmod : (z : Int) % n = rr := hr
  clear hr
  go_enter Tryd.func4, Tryd.ntmps4
  go_wp2_with fail
  refine (new_c _ _).mono ?_
  rintro e w1 ⟨rfl, rfl⟩
  go_wp2_with fail
  refine (new_c _ _).mono ?_
  rintro e w1 ⟨rfl, rfl⟩
  rw [hV, World.size_alloc]
  clear hV
  go_wp2_with fail
  refine hb.mono ?_
  rintro e w1 ⟨rfl, b1, g1⟩
  clear hb
  replace T0 := T0.left b1 g1
  clear b1 g1
  go_wp2_with fail
  refine (hl _ T0).mono ?_
  rintro e w2 ⟨rfl, b2, g2⟩
  clear hl
  replace T0 := T0.left b2 g2
  clear b2 g2
  go_wp2_with fail
  refine (hn1 _ T0.bt).mono ?_
  rintro e w3 ⟨rfl, b3, g3⟩
  clear hn1
  replace T0 := T0.right b3 g3
  clear b3 g3
  go_wp2_with fail
  refine (next_c _ (stp x) _ T0.bt (u_stp _)).mono ?_
  rintro e w4 ⟨rfl, b4, g4⟩
  replace T0 := T0.right b4 g4
  clear b4 g4
  go_wp2_with fail
  refine (awake_c _).mono ?_
  rintro e w5 ⟨rfl, g5⟩
  replace T0 := T0.still g5
  clear g5
  go_wp2_with fail
  refine (next_c _ (stp (stp x)) _ T0.bs (u_stp _)).mono ?_
  rintro e w6 ⟨rfl, b6, g6⟩
  replace T0 := T0.left b6 g6
  clear b6 g6
  go_wp2_with fail
  refine (next_c _ (stp (stp x)) _ T0.bt (u_stp _)).mono ?_
  rintro e w7 ⟨rfl, b7, g7⟩
  replace T0 := T0.right b7 g7
  clear b7 g7
  go_wp2
  go_ret
  exact ⟨rfl, T0.g⟩
set_option maxHeartbeats 2000000 in
theorem within_great (x n : Int) (w : World) (hx : U x) (n0 : 30 < n) (n1 : n ≤ 1000000000) :
    Calls Tryd.prog 4 #[.int .u64 x, .int .i64 n] w fun e w' => e = .returned (.bool true) ∧ w.grownBy w' none := by
  have T0 := two_new w x
  generalize hV : (w.alloc (.cells #[.int .u64 x] 46)).alloc (.cells #[.int .u64 x] 46) = V at T0
  have hb := below_ok w.heap.size x n V T0.bs hx (by omega)
  have r1 := Int.emod_nonneg (mx (stp x)) (b := n) (by omega)
  have r2 := Int.emod_lt_of_pos (mx (stp x)) (b := n) (by omega)
  have hn1 := fun V hV => next_c (w.heap.size + 1) x V hV hx
  obtain ⟨m1, m2⟩ := u_mx (stp x)
  have hl := fun V => level_no w.heap.size n V (by omega)
  generalize mx (stp x) = z at *
  generalize hr : z % n = rr at *
  have hmod : (z : Int) % n = rr := hr
  clear hr
  go_enter Tryd.func4, Tryd.ntmps4
  go_wp2_with fail
  refine (new_c _ _).mono ?_
  rintro e w1 ⟨rfl, rfl⟩
  go_wp2_with fail
  refine (new_c _ _).mono ?_
  rintro e w1 ⟨rfl, rfl⟩
  rw [hV, World.size_alloc]
  clear hV
  go_wp2_with fail
  refine hb.mono ?_
  rintro e w1 ⟨rfl, b1, g1⟩
  clear hb
  replace T0 := T0.left b1 g1
  clear b1 g1
  go_wp2_with fail
  refine (hl _).mono ?_
  rintro e w2 ⟨rfl, rfl⟩
  clear hl
  go_wp2_with fail
  refine (hn1 _ T0.bt).mono ?_
  rintro e w3 ⟨rfl, b3, g3⟩
  clear hn1
  replace T0 := T0.right b3 g3
  clear b3 g3
  go_wp2_with fail
  refine (awake_c _).mono ?_
  rintro e w5 ⟨rfl, g5⟩
  replace T0 := T0.still g5
  clear g5
  go_wp2_with fail
  refine (next_c _ (stp x) _ T0.bs (u_stp _)).mono ?_
  rintro e w6 ⟨rfl, b6, g6⟩
  replace T0 := T0.left b6 g6
  clear b6 g6
  go_wp2_with fail
  refine (next_c _ (stp x) _ T0.bt (u_stp _)).mono ?_
  rintro e w7 ⟨rfl, b7, g7⟩
  replace T0 := T0.right b7 g7
  clear b7 g7
  go_wp2
  go_ret
  exact ⟨rfl, T0.g⟩
theorem randWithin_any (x n : Int) (w : World) (hx : U x) (hT : Tab w) (hw : 0 < w.heap.size) :
    Calls Tryd.prog 4 #[.int .u64 x, .int .i64 n] w fun e w' => e = .returned (.bool true) ∧ w.grownBy w' none := by
  by_cases h1 : n < 1
  · exact within_low x n w hx h1
  by_cases h2 : 1000000000 < n
  · exact within_high x n w hx h2
  by_cases h3 : n ≤ 30
  · exact within_small x n w hx (by omega) h3 hT hw
  · exact within_great x n w hx (by omega) (by omega)

end Go.Proofs.YtjediopfnjkihaaDoor
