/- VecHolds: the walk. -/
import Derived.Test.YtnhaloeeaejedaaHoldM
import Derived.Test.YtnhaloeeaejedaaVects
import Derived.Test.YtnhaloeeaejedaaAwake
namespace Go.Proofs.Ytnhaloeeaejedaa
open Go.RowKit Go.Sort Go.Maps

set_option maxHeartbeats 2000000 in
set_option maxRecDepth 100000 in
theorem holds_big {w : World} {u v : Value} {c : List Int} {rs : List Rw} (p : Int) (hu : RdI w u c) (h : RdW w v rs) (hlen : rs.length ≤ 9223372036854775807) (hb : 2000 < rs.length ∨ 65536 < c.length) :
    Calls Try.prog 8 #[v, u, .int .i64 p] w fun e w' => e = .returned (.bool true) ∧ Gb w w' := by
  have C23 := vects_c h 65536 hlen
  obtain ⟨a, cap, rfl, _⟩ := h
  obtain ⟨pc, cc, rfl, _⟩ := hu
  generalize rs.length = n at *
  generalize c.length = m at *
  go_enter Try.func8, Try.ntmps8
  go_wp2_with fail
  refine C23.mono ?_
  rintro e w1 ⟨⟨z, rfl⟩, e2⟩
  subst e2
  clear C23
  by_cases hz : z > 65536
  · go_wp2
    go_ret
    exact ⟨rfl, Below.refl _ _⟩
  by_cases hn : (n : Int) > 2000
  · go_wp2
    go_ret
    exact ⟨rfl, Below.refl _ _⟩
  · have hm : (m : Int) > 65536 := by omega
    go_wp2
    go_ret
    exact ⟨rfl, Below.refl _ _⟩

set_option maxHeartbeats 4000000 in
set_option maxRecDepth 100000 in
theorem holds_no {w : World} {u v : Value} {c : List Int} {rs : List Rw} (p : Int) (hu : RdI w u c) (h : RdW w v rs) (hlen : rs.length ≤ 4611686018427387904) (hwf : ∀ i, i < rs.length → (Lit.int .i64 rs[i]!.1).wf = true) (hn : rs.length ≤ 2000) (hm : c.length ≤ 65536) (hne : boxE rs c.length ≠ 0 ∨ ballE c rs ≠ 0) :
    Calls Try.prog 8 #[v, u, .int .i64 p] w fun e w' => e = .returned (.bool true) ∧ Gb w w' := by
  have C23 := vects_c h 65536 (by omega)
  have C25 := box_c h c.length hlen hwf
  have C26 := fun W' (g : Gb w W') => ball_c (hu.gb g) (h.gb g) hlen hwf
  obtain ⟨a, cap, rfl, _⟩ := h
  obtain ⟨pc, cc, rfl, _⟩ := hu
  have NE : Hid (boxE rs c.length ≠ 0 ∨ ballE c rs ≠ 0) := hne
  generalize boxE rs c.length = EA at *
  generalize ballE c rs = EB at *
  generalize boxR rs c.length = A at *
  generalize ballR c rs = B at *
  have kn : ¬ (rs.length : Int) > 2000 := by omega
  have km : ¬ (c.length : Int) > 65536 := by omega
  generalize rs.length = n at *
  generalize c.length = m at *
  clear hne hwf hlen hn hm
  go_enter Try.func8, Try.ntmps8
  go_wp2_with fail
  refine C23.mono ?_
  rintro e w1 ⟨⟨z, rfl⟩, e2⟩
  subst e2
  clear C23
  by_cases hz : z > 65536
  · go_wp2
    go_ret
    exact ⟨rfl, Below.refl _ _⟩
  go_wp2_with fail
  refine C25.mono ?_
  rintro e w1 ⟨vl, vh, vi, rfl, O1⟩
  obtain ⟨g1, o1, o2, o3, _⟩ := O1
  obtain ⟨pl, cl, rfl, _⟩ := o1.rd
  obtain ⟨ph, ch, rfl, _⟩ := o2.rd
  obtain ⟨pi, ci, rfl, _⟩ := o3.rd
  clear o1 o2 o3 C25
  obtain ⟨S, L, H, R, I⟩ := A
  dsimp only
  generalize L.length = nl at *
  generalize H.length = nh at *
  generalize I.length = ni at *
  have G1 : Gb w (w1.alloc (.cells #[.int .i64 S, .slice pl nl cl, .slice ph nh ch, .int .u64 (hi R), .int .u64 (lo R), .slice pi ni ci] 36)) := gb_alloc g1 _
  go_wp2_with fail
  refine (C26 _ G1).mono ?_
  rintro e w2 ⟨vl2, vh2, vi2, rfl, O2⟩
  obtain ⟨g2, o1, o2, o3, _⟩ := O2
  obtain ⟨pl2, cl2, rfl, _⟩ := o1.rd
  obtain ⟨ph2, ch2, rfl, _⟩ := o2.rd
  obtain ⟨pi2, ci2, rfl, _⟩ := o3.rd
  clear o1 o2 o3 C26
  obtain ⟨S2, L2, H2, R2, I2⟩ := B
  dsimp only
  generalize L2.length = nl2 at *
  generalize H2.length = nh2 at *
  generalize I2.length = ni2 at *
  have G2 : Gb w (w2.alloc (.cells #[.int .i64 S2, .slice pl2 nl2 cl2, .slice ph2 nh2 ch2, .int .u64 (hi R2), .int .u64 (lo R2), .slice pi2 ni2 ci2] 36)) := gb_alloc (gb_trans G1 g2) _
  by_cases z1 : EA = 0
  · subst z1
    have z2 : ¬ EB = 0 := by rcases NE.out with h | h; exact absurd rfl h; exact h
    have z2' : (EB == 0) = false := by rw [beq_eq_false_iff_ne]; exact z2
    go_wp2_with fail
    refine (awake_any _).mono ?_
    rintro e w5 ⟨rfl, g5⟩
    go_wp2
    go_ret
    exact ⟨rfl, gb_trans G2 g5⟩
  · have z1' : (EA == 0) = false := by rw [beq_eq_false_iff_ne]; exact z1
    go_wp2_with fail
    refine (awake_any _).mono ?_
    rintro e w5 ⟨rfl, g5⟩
    go_wp2
    go_ret
    exact ⟨rfl, gb_trans G2 g5⟩
end Go.Proofs.Ytnhaloeeaejedaa
