/- KmeansNear: the walk. -/
import Derived.Test.YtgglofeliffgbaaKRefC
import Derived.Test.YtgglofeliffgbaaKAwake
import Derived.Test.YtgglofeliffgbaaKBig
namespace Go.Proofs.Ytgglofeliffgbaa
open Go.RowKit

set_option maxRecDepth 100000 in
set_option maxHeartbeats 2000000 in
theorem near_law {w : World} {u v t : Value} {cs l : Vs} {x : List Int} (hu : RdV w u cs) (hv : RdI w v x) (ht : RdV w t l) :
    Calls Try.prog 4 #[u, v, t] w fun e w' => e = .returned (.bool true) ∧ Gb w w' := by
  have b1 := big_c hu
  have b2 := big_c ht
  have c1 := near_c hu hv
  have c2 := fun W (g : Gb w W) => rnear_c (hu.gb g) (hv.gb g)
  have c3 := fun W (g : Gb w W) => cost_c (hu.gb g) (ht.gb g)
  have c4 := fun W (g : Gb w W) => rcost_c (hu.gb g) (ht.gb g)
  obtain ⟨pu, cu, rfl, _⟩ := hu
  obtain ⟨pv, cv, rfl, _⟩ := hv
  obtain ⟨pt, ct, rfl, _⟩ := ht
  generalize (if nearE cs x = 0 then ((nearP cs x).1 : Int) else 0) = A at *
  generalize (if nearE cs x = 0 then (nearP cs x).2 else 0) = D at *
  generalize nearE cs x = E at *
  generalize (if costE cs l = 0 then costTo cs l l.length else 0) = C at *
  generalize costE cs l = G at *
  generalize cs.length = n1 at *
  generalize x.length = n2 at *
  generalize l.length = n3 at *
  go_enter Try.func4, Try.ntmps4
  go_wp2_with fail
  refine b1.mono ?_
  rintro e w' ⟨⟨b, rfl, hb⟩, e2⟩
  subst e2
  clear b1 hb
  cases b with
  | true =>
    clear b2 c1 c2 c3 c4
    go_wp2
    go_ret
    exact ⟨rfl, Below.refl _ _⟩
  | false =>
    go_wp2_with fail
    refine b2.mono ?_
    rintro e w' ⟨⟨b, rfl, hb⟩, e2⟩
    subst e2
    clear b2 hb
    cases b with
    | true =>
      clear c1 c2 c3 c4
      go_wp2
      go_ret
      exact ⟨rfl, Below.refl _ _⟩
    | false =>
      by_cases hbig : (65536 : Int) < (n2 : Int)
      · clear c1 c2 c3 c4
        go_wp2
        go_ret
        exact ⟨rfl, Below.refl _ _⟩
      · go_wp2_with fail
        refine c1.mono ?_
        rintro e w1 ⟨rfl, g1⟩
        clear c1
        have G1 : Gb w (w1.alloc (.cells #[.int .u64 (hi D), .int .u64 (lo D)] 34)) := gb_alloc g1.gb _
        have s0 : (w1.alloc (.cells #[.int .u64 (hi D), .int .u64 (lo D)] 34)).cell? ⟨w1.heap.size, 0, none⟩ = some (.int .u64 (hi D)) := by simp [go_sem]
        have s1 : (w1.alloc (.cells #[.int .u64 (hi D), .int .u64 (lo D)] 34)).cell? ⟨w1.heap.size, 1, none⟩ = some (.int .u64 (lo D)) := by simp [go_sem]
        go_wp2_with fail
        refine (c2 _ G1).mono ?_
        rintro e w2 ⟨rfl, g2⟩
        clear c2
        have G2 := gb_alloc (gb_trans G1 g2.gb) (.cells #[.int .u64 (hi D), .int .u64 (lo D)] 34)
        have s0 := alloc_keeps (g2.keeps s0) (.cells #[.int .u64 (hi D), .int .u64 (lo D)] 34)
        have s1 := alloc_keeps (g2.keeps s1) (.cells #[.int .u64 (hi D), .int .u64 (lo D)] 34)
        have t0 : (w2.alloc (.cells #[.int .u64 (hi D), .int .u64 (lo D)] 34)).cell? ⟨w2.heap.size, 0, none⟩ = some (.int .u64 (hi D)) := by simp [go_sem]
        have t1 : (w2.alloc (.cells #[.int .u64 (hi D), .int .u64 (lo D)] 34)).cell? ⟨w2.heap.size, 1, none⟩ = some (.int .u64 (lo D)) := by simp [go_sem]
        clear g1 g2 G1
        go_wp2_with fail
        refine (c3 _ G2).mono ?_
        rintro e w3 ⟨rfl, g3⟩
        clear c3
        have G3 := gb_alloc (gb_trans G2 g3.gb) (.cells #[.int .u64 (hi C), .int .u64 (lo C)] 34)
        have s0 := alloc_keeps (g3.keeps s0) (.cells #[.int .u64 (hi C), .int .u64 (lo C)] 34)
        have s1 := alloc_keeps (g3.keeps s1) (.cells #[.int .u64 (hi C), .int .u64 (lo C)] 34)
        have t0 := alloc_keeps (g3.keeps t0) (.cells #[.int .u64 (hi C), .int .u64 (lo C)] 34)
        have t1 := alloc_keeps (g3.keeps t1) (.cells #[.int .u64 (hi C), .int .u64 (lo C)] 34)
        have p0 : (w3.alloc (.cells #[.int .u64 (hi C), .int .u64 (lo C)] 34)).cell? ⟨w3.heap.size, 0, none⟩ = some (.int .u64 (hi C)) := by simp [go_sem]
        have p1 : (w3.alloc (.cells #[.int .u64 (hi C), .int .u64 (lo C)] 34)).cell? ⟨w3.heap.size, 1, none⟩ = some (.int .u64 (lo C)) := by simp [go_sem]
        clear g3 G2
        go_wp2_with fail
        refine (c4 _ G3).mono ?_
        rintro e w4 ⟨rfl, g4⟩
        clear c4
        have G4 : Hid (Gb w (w4.alloc (.cells #[.int .u64 (hi C), .int .u64 (lo C)] 34))) := gb_alloc (gb_trans G3 g4.gb) _
        have s0 := alloc_keeps (g4.keeps s0) (.cells #[.int .u64 (hi C), .int .u64 (lo C)] 34)
        have s1 := alloc_keeps (g4.keeps s1) (.cells #[.int .u64 (hi C), .int .u64 (lo C)] 34)
        have t0 := alloc_keeps (g4.keeps t0) (.cells #[.int .u64 (hi C), .int .u64 (lo C)] 34)
        have t1 := alloc_keeps (g4.keeps t1) (.cells #[.int .u64 (hi C), .int .u64 (lo C)] 34)
        have p0 := alloc_keeps (g4.keeps p0) (.cells #[.int .u64 (hi C), .int .u64 (lo C)] 34)
        have p1 := alloc_keeps (g4.keeps p1) (.cells #[.int .u64 (hi C), .int .u64 (lo C)] 34)
        have q0 : (w4.alloc (.cells #[.int .u64 (hi C), .int .u64 (lo C)] 34)).cell? ⟨w4.heap.size, 0, none⟩ = some (.int .u64 (hi C)) := by simp [go_sem]
        have q1 : (w4.alloc (.cells #[.int .u64 (hi C), .int .u64 (lo C)] 34)).cell? ⟨w4.heap.size, 1, none⟩ = some (.int .u64 (lo C)) := by simp [go_sem]
        clear g4 G3
        have ha := wd_same (hi D) (lo D)
        have hb := wd_same (hi C) (lo C)
        go_wp2_with (go_at_call 14; refine (awake_c _).mono ?_; rintro e w5 ⟨rfl, g5⟩; have s0 := gb_keeps g5 s0; have s1 := gb_keeps g5 s1; have t0 := gb_keeps g5 t0; have t1 := gb_keeps g5 t1; have p0 := gb_keeps g5 p0; have p1 := gb_keeps g5 p1; have q0 := gb_keeps g5 q0; have q1 := gb_keeps g5 q1)
        go_ret
        exact ⟨rfl, gb_trans G4.out g5⟩
end Go.Proofs.Ytgglofeliffgbaa
