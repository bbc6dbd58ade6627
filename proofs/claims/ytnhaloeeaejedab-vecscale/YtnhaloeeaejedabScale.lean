/- VecScale: the walk. -/
import Derived.Test.YtnhaloeeaejedabAwake
import Derived.Test.YtnhaloeeaejedabMath
import Derived.Test.YtnhaloeeaejedabRAdd
namespace Go.Proofs.Ytnhaloeeaejedab
open Go.RowKit Go.Sort Go.Maps

theorem chk_two (l : List Int) (d : Int) (h : 1 ≤ d ∧ d ≤ 64 ∧ (l.length : Int) = d) : chk l d = vErr l ∧ (vErr l = 0 ∨ vErr l = 31) := by
  refine ⟨by unfold chk; rw [if_pos h], ?_⟩
  unfold vErr; split
  · exact .inl rfl
  · exact .inr rfl
/-- Two lists that are made beside one another: w the world as the loop begins. -/
structure MvSt (w W : World) (vx vy : Value) (lx ly : List Int) : Prop where
  rx : Own W w.heap.size vx lx
  ry : Own W w.heap.size vy ly
  ne : vx.ownBlock = none ∨ vx.ownBlock ≠ vy.ownBlock
  gb : Gb w W
theorem MvSt.swap {w W : World} {vx vy : Value} {lx ly : List Int} (h : MvSt w W vx vy lx ly) : MvSt w W vy vx ly lx :=
  ⟨h.ry, h.rx, by rcases h.ne with e | e
                  · rw [e]; cases hv : vy.ownBlock with
                    | none => exact .inl rfl
                    | some g => exact .inr (by simp)
                  · exact .inr (fun k => e k.symm), h.gb⟩
theorem MvSt.left {w W w1 : World} {vx vy v' : Value} {lx ly : List Int} {x : Int} {o : Obj} (h : MvSt w W vx vy lx ly) (ho : w1.ownsRow w.heap.size 3 1 v' (lx.length + 1) (lx.map (Value.int .i64) ++ [.int .i64 x])) (hg : (W.alloc o).grownBy w1 vx.ownBlock)
    (hloc : v'.ownBlock = vx.ownBlock ∨ v'.ownBlock = some (W.alloc o).heap.size) : MvSt w w1 v' vy (lx ++ [x]) ly := by
  have s0 := h.gb.size
  refine ⟨?_, ?_, ?_, ?_⟩
  · unfold Own; rw [List.length_append, List.map_append]; exact ho
  · refine (World.ownsRow.kept (World.ownsRow.alloc h.ry o) hg ?_)
    rcases h.swap.ne with e | e
    · exact .inl e
    · exact .inr e
  · rcases hloc with e | e
    · rw [e]; exact h.ne
    · right
      intro k
      rw [e] at k
      have := (World.ownsRow.lt h.ry _ k.symm).2
      rw [World.size_alloc] at this; omega
  · exact below_grown (gb_alloc h.gb o) hg (fun k e => (World.ownsRow.lt h.rx k e).1) (by rw [World.size_alloc]; omega)
/-- A list, twice as long. -/
def twL (a : List Int) (n : Nat) : List Int := tab (fun i => 2 * a[i]!) n
theorem twL_snoc (a : List Int) (q : Nat) : twL a (q + 1) = twL a q ++ [2 * a[q]!] := by
  unfold twL tab; rw [List.range_succ, List.map_append]; rfl
theorem twL_len (a : List Int) (q : Nat) : (twL a q).length = q := tab_len _ _
theorem tw_dst {a b : List Int} (n : Nat) (ha : a.length = n) : dst (twL a n) (twL b n) = 4 * dst a b := by
  unfold dst
  rw [twL_len, ha, ← sumN_mul]
  refine sumN_ext (fun i hi => ?_)
  unfold twL
  rw [tab_get _ hi, tab_get _ hi, gap_two]
  grind

set_option maxHeartbeats 8000000 in
set_option maxRecDepth 100000 in
theorem scale_in {w : World} {u v : Value} {a b : List Int} (hu : RdI w u a) (hv : RdI w v b) (la : a.length ≤ 65536) (lb : b.length ≤ 65536) (h0 : distE a b = 0) :
    Calls Try.prog 3 #[u, v] w fun e w' => e = .returned (.bool true) ∧ Gb w w' := by
  obtain ⟨_, _, e3, e4, e5, e6, e7⟩ := distE_ok h0
  have EV : distV a b = dst a b := by unfold distV; rw [if_pos h0]
  have C1 := dist_c hu hv
  rw [h0, EV] at C1
  have hsm : dst a b ≤ 64 * 18446744056529682436 := by
    have := dstN_le e6 e7 e3 a.length (Nat.le_refl _)
    have h2 : dst a b = dstN a b a.length := rfl
    omega
  have A1 := fun W => radd_ok (dst a b) (dst a b) (by omega) W
  have A2 := fun W => radd_ok (dst a b + dst a b) (dst a b + dst a b) (by omega) W
  have AB : Hid (a.length = b.length ∧ 1 ≤ a.length ∧ a.length ≤ 64 ∧ allR a = true ∧ allR b = true) := ⟨e3, e4, e5, e6, e7⟩
  have C4 : Hid (∀ W' u v, RdI W' u (twL a a.length) → RdI W' v (twL b a.length) → ∃ D E, (E = 31 ∨ (E = 0 ∧ D = dst a b + dst a b + (dst a b + dst a b))) ∧ Calls Try.prog 5 #[u, v] W' fun e w' => e = .returned (.tuple #[Wd D, .int .i64 E]) ∧ Gr W' w') := by
    intro W' u v h1 h2
    refine ⟨_, _, ?_, dist_c h1 h2⟩
    have l1 := twL_len a a.length
    have l2 := twL_len b a.length
    have k1 := chk_two (twL a a.length) (twL a a.length).length ⟨by omega, by omega, rfl⟩
    have k2 := chk_two (twL b a.length) (twL a a.length).length ⟨by omega, by omega, by omega⟩
    by_cases z : distE (twL a a.length) (twL b a.length) = 0
    · right
      refine ⟨z, ?_⟩
      unfold distV; rw [if_pos z, tw_dst _ rfl]; omega
    · left
      unfold distE at z ⊢
      rw [k1.1, k2.1] at z ⊢
      split
      · rename_i y; rw [if_pos y] at z; rcases k2.2 with h | h
        · exact absurd h z
        · exact h
      · rename_i y; rcases k1.2 with h | h
        · exact absurd h y
        · exact h
  obtain ⟨pa, ca, rfl, ha⟩ := hu
  obtain ⟨pb, cb, rfl, hb⟩ := hv
  have A : Hid (∀ i, i < a.length → ∃ b o, pa = some ⟨b, o, none⟩ ∧ w.cell? ⟨b, o + i, none⟩ = some (.int .i64 a[i]!)) := ha
  have B : Hid (∀ i, i < b.length → ∃ b' o, pb = some ⟨b', o, none⟩ ∧ w.cell? ⟨b', o + i, none⟩ = some (.int .i64 b[i]!)) := hb
  rw [← e3] at C1 ⊢
  obtain ⟨n, hN⟩ : ∃ n, n = a.length := ⟨_, rfl⟩
  have N : Hid (n = a.length) := hN
  rw [← hN] at C1 la e5 ⊢
  have k1 : ¬ (n : Int) > 65536 := by omega
  obtain ⟨D, hD⟩ : ∃ D, D = dst a b := ⟨_, rfl⟩
  rw [← hD] at C1 A1 A2 C4 hsm
  obtain ⟨i0, hi, hz0, hz1, hz2⟩ := info_parts Try.info3
  have II : Hid (Try.prog.info? 3 = some i0 ∧ i0.zero = some (.int .i64 0) ∧ i0.size = 1 ∧ i0.bytes = 8) := ⟨hi, hz0, hz1, hz2⟩
  clear hi hz0 hz1 hz2 hD hN ha hb h0 e3 e4 e6 e7 EV la lb
  go_enter Try.func3, Try.ntmps3
  go_wp2_with fail
  refine C1.mono ?_
  rintro e w1 ⟨rfl, g1⟩
  have G1 : Gb w (w1.alloc (.cells #[.int .u64 (hi D), .int .u64 (lo D)] 25)) := gb_alloc g1.gb _
  have D1 : Hid (At2 (w1.alloc (.cells #[.int .u64 (hi D), .int .u64 (lo D)] 25)) w1.heap.size D) := At2.new w1 D 25
  clear C1 g1
  go_wp2_with fail
  generalize w1.alloc (.cells #[.int .u64 (hi D), .int .u64 (lo D)] 25) = w4 at *
  go_loopw [7, 8, 9] (fun vx vy iv w' => ∃ q : Nat, iv = .int .i64 (q : Int) ∧ q ≤ n ∧ Hid (MvSt w4 w' vx vy (twL a q) (twL b q))) (fun _ _ iv _ => n - (intOf iv).toNat)
  case atStart => exact ⟨0, rfl, Nat.zero_le _, ⟨own_nil _ _, own_nil _ _, .inl rfl, Below.refl _ _⟩⟩
  case round =>
    obtain ⟨q, rfl, hq, Y⟩ := hrel
    by_cases hqn : q < n
    · have hqi : (q : Int) < (n : Int) := by omega
      have hqa : q < a.length := by have := N.out; omega
      have hqb : q < b.length := by have := AB.out.1; omega
      obtain ⟨b1, o1, ea, xaw⟩ := A.out q hqa
      obtain ⟨b2, o2, eb, xbw⟩ := B.out q hqb
      subst ea; subst eb
      have xa0 := gb_keeps (gb_trans G1 Y.out.gb) xaw
      obtain ⟨ax1, ax2⟩ := allR_get AB.out.2.2.2.1 hqa
      obtain ⟨bx1, bx2⟩ := allR_get AB.out.2.2.2.2 hqb
      have LX : Hid ((twL a q).length = q ∧ (twL b q).length = q) := ⟨twL_len _ _, twL_len _ _⟩
      have II' := II.out
      have tok1 : True := trivial
      have SN : Hid (twL a (q + 1) = twL a q ++ [2 * a[q]!] ∧ twL b (q + 1) = twL b q ++ [2 * b[q]!]) := ⟨twL_snoc _ _, twL_snoc _ _⟩
      generalize a[q]! = xa at *
      generalize b[q]! = xb at *
      go_wp2_with (first
        | (at_builtin; have _t := tok1; refine wpList_append_own_at _ rfl _ _ 22 rfl w4.heap.size 3 i0 (.int .i64 0) 1 8 Try.underlying22 II'.1 II'.2.1 II'.2.2.1 II'.2.2.2 rfl (by decide) _ _ _ rfl (World.ownsRow.alloc Y.out.rx _) ⟨wr.heap.size, 0, none⟩ 1 1 [.int .i64 (2 * xa)] rfl rfl (cell_one_new _ _ _) (ints_oneCell .i64 [2 * xa]) (by rw [LX.out.1]; unfold maxLen; omega) (by rw [LX.out.1]; omega) (by have := Y.out.gb.size; simp at this ⊢; omega) ?_; intro vx' w5 hox hgx hnx hlx; have Y5 := Y.out.left hox hgx hlx; have xb0 := gb_keeps (gb_trans G1 Y5.gb) xbw; clear tok1)
        | (at_builtin; refine wpList_append_own_at _ rfl _ _ 22 rfl w4.heap.size 3 i0 (.int .i64 0) 1 8 Try.underlying22 II'.1 II'.2.1 II'.2.2.1 II'.2.2.2 rfl (by decide) _ _ _ rfl (World.ownsRow.alloc Y5.ry _) ⟨w5.heap.size, 0, none⟩ 1 1 [.int .i64 (2 * xb)] rfl rfl (cell_one_new _ _ _) (ints_oneCell .i64 [2 * xb]) (by rw [LX.out.2]; unfold maxLen; omega) (by rw [LX.out.2]; omega) (by have := Y5.gb.size; simp at this ⊢; omega) ?_; intro vy' w6 hoy hgy hny hly; have Y6 := (Y5.swap.left hoy hgy hly).swap)
        | go_in)
      have Y7 : MvSt w4 w6 vx' vy' (twL a (q + 1)) (twL b (q + 1)) := by
        rw [SN.out.1, SN.out.2]
        exact Y6
      clear hox hgx hnx hlx hoy hgy hny hly Y5 Y6 xb0 xa0
      go_roundw
      case rel => exact ⟨q + 1, by go_num, hqn, Y7⟩
      case measure => simp [intOf]; omega
    · have hqi : ¬ (q : Int) < (n : Int) := by omega
      have hqe : q = a.length := by have := N.out; omega
      have Yq := Y.out
      rw [hqe] at Yq
      obtain ⟨DV, EV, HEV, C10⟩ := C4.out wr _ _ Yq.rx.rd Yq.ry.rd
      have GY := gb_trans G1 Yq.gb
      have s0 := gb_keeps Yq.gb D1.out.c0
      have s1 := gb_keeps Yq.gb D1.out.c1
      have L1 := Yq.rx.rd
      have L2 := Yq.ry.rd
      obtain ⟨px, cx, ex, _⟩ := L1
      obtain ⟨py, cy, ey, _⟩ := L2
      subst ex ey
      clear C4 Yq Y A B hsm
      go_wp2_with fail
      refine C10.mono ?_
      rintro e w5 ⟨rfl, g5⟩
      have g5' : Gb wr (w5.alloc (.cells #[.int .u64 (hi DV), .int .u64 (lo DV)] 25)) := gb_alloc g5.gb _
      have N5 : Hid (At2 (w5.alloc (.cells #[.int .u64 (hi DV), .int .u64 (lo DV)] 25)) w5.heap.size DV ∧ Gb w (w5.alloc (.cells #[.int .u64 (hi DV), .int .u64 (lo DV)] 25))) := ⟨At2.new w5 DV 25, gb_trans GY g5'⟩
      have s0 := gb_keeps g5' s0
      have s1 := gb_keeps g5' s1
      clear C10 g5 g5'
      go_wp2_with fail
      refine (A1 _).mono ?_
      rintro e w6 ⟨rfl, g6⟩
      have N6 : Hid (At2 (w6.alloc (.cells #[.int .u64 (hi (D + D)), .int .u64 (lo (D + D))] 25)) w5.heap.size DV ∧ At2 (w6.alloc (.cells #[.int .u64 (hi (D + D)), .int .u64 (lo (D + D))] 25)) w6.heap.size (D + D) ∧ Gb w (w6.alloc (.cells #[.int .u64 (hi (D + D)), .int .u64 (lo (D + D))] 25))) := ⟨(N5.out.1.gr g6).gr ((Gr.refl _).alloc _ _), At2.new w6 (D + D) 25, gb_alloc (gb_trans N5.out.2 g6.gb) _⟩
      clear s0 s1 N5 g6 A1
      have s0 := N6.out.2.1.c0
      have s1 := N6.out.2.1.c1
      go_wp2_with fail
      refine (A2 _).mono ?_
      rintro e w7 ⟨rfl, g7⟩
      have N7 : Hid (At2 (w7.alloc (.cells #[.int .u64 (hi (D + D + (D + D))), .int .u64 (lo (D + D + (D + D)))] 25)) w5.heap.size DV ∧ At2 (w7.alloc (.cells #[.int .u64 (hi (D + D + (D + D))), .int .u64 (lo (D + D + (D + D)))] 25)) w7.heap.size (D + D + (D + D)) ∧ Gb w (w7.alloc (.cells #[.int .u64 (hi (D + D + (D + D))), .int .u64 (lo (D + D + (D + D)))] 25))) := ⟨(N6.out.1.gr g7).gr ((Gr.refl _).alloc _ _), At2.new w7 _ 25, gb_alloc (gb_trans N6.out.2.2 g7.gb) _⟩
      clear s0 s1 N6 g7 A2
      rcases HEV with rfl | ⟨rfl, eD⟩
      · go_wp2_with fail
        refine (awake_any _).mono ?_
        rintro e w8 ⟨rfl, g8⟩
        go_wp2
        go_ret
        exact ⟨rfl, gb_trans N7.out.2.2 g8⟩
      · have heq := fun W => wd_same (hi (D + D + (D + D))) (lo (D + D + (D + D))) W
        rw [eD] at N7
        go_wp2_with fail
        refine (awake_any _).mono ?_
        rintro e w8 ⟨rfl, g8⟩
        have s0 := gb_keeps g8 N7.out.1.c0
        have s1 := gb_keeps g8 N7.out.1.c1
        have t0 := gb_keeps g8 N7.out.2.1.c0
        have t1 := gb_keeps g8 N7.out.2.1.c1
        go_wp2
        go_ret
        exact ⟨rfl, gb_trans N7.out.2.2 g8⟩
set_option maxHeartbeats 2000000 in
theorem scale_any {w : World} {u v : Value} {a b : List Int} (hu : RdI w u a) (hv : RdI w v b) : Calls Try.prog 3 #[u, v] w fun e w' => e = .returned (.bool true) ∧ Gb w w' := by
  by_cases h1 : 65536 < a.length
  · obtain ⟨pa, ca, rfl, _⟩ := hu
    obtain ⟨pb, cb, rfl, _⟩ := hv
    have k1 : (a.length : Int) > 65536 := by omega
    generalize a.length = na at *
    generalize b.length = nb at *
    go_enter Try.func3, Try.ntmps3
    go_wp2
    go_ret
    exact ⟨rfl, Below.refl _ _⟩
  by_cases h2 : 65536 < b.length
  · obtain ⟨pa, ca, rfl, _⟩ := hu
    obtain ⟨pb, cb, rfl, _⟩ := hv
    have k1 : ¬ (a.length : Int) > 65536 := by omega
    have k2 : (b.length : Int) > 65536 := by omega
    generalize a.length = na at *
    generalize b.length = nb at *
    go_enter Try.func3, Try.ntmps3
    go_wp2
    go_ret
    exact ⟨rfl, Below.refl _ _⟩
  by_cases h0 : distE a b = 0
  · exact scale_in hu hv (by omega) (by omega) h0
  · have C1 := dist_c hu hv
    obtain ⟨pa, ca, rfl, _⟩ := hu
    obtain ⟨pb, cb, rfl, _⟩ := hv
    have k1 : ¬ (a.length : Int) > 65536 := by omega
    have k2 : ¬ (b.length : Int) > 65536 := by omega
    have e1 : (distE a b == 0) = false := by rw [beq_eq_false_iff_ne]; exact h0
    generalize distE a b = E1 at *
    generalize distV a b = V1 at *
    generalize a.length = na at *
    generalize b.length = nb at *
    clear h1 h2
    go_enter Try.func3, Try.ntmps3
    go_wp2_with fail
    refine C1.mono ?_
    rintro e w1 ⟨rfl, g1⟩
    have G1 : Gb w (w1.alloc (.cells #[.int .u64 (hi V1), .int .u64 (lo V1)] 25)) := gb_alloc g1.gb _
    go_wp2_with fail
    all_goals
      refine (awake_any _).mono ?_
      rintro e w3 ⟨rfl, g3⟩
      go_wp2
      go_ret
      exact ⟨rfl, gb_trans G1 g3⟩
end Go.Proofs.Ytnhaloeeaejedab
