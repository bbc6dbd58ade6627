/- VecMoves: the walk. -/
import Derived.Test.YtnhaloeeaejedaaAwake
import Derived.Test.YtnhaloeeaejedaaMath
namespace Go.Proofs.Ytnhaloeeaejedaa
open Go.RowKit Go.Sort Go.Maps

theorem chk_two (l : List Int) (d : Int) (h : 1 ≤ d ∧ d ≤ 64 ∧ (l.length : Int) = d) : chk l d = vErr l ∧ (vErr l = 0 ∨ vErr l = 31) := by
  refine ⟨by unfold chk; rw [if_pos h], ?_⟩
  unfold vErr; split
  · exact .inl rfl
  · exact .inr rfl
theorem distE_sym {a b : List Int} (h : distE a b = 0) : distE b a = 0 := by
  obtain ⟨h1, h2, h3, h4, h5, h6, h7⟩ := distE_ok h
  unfold distE
  rw [← h3, if_pos h2, h1]
/-- Two lists that are made beside one another: w the world as the loop begins. -/
structure MvSt (w W : World) (vx vy : Value) (lx ly : List Int) : Prop where
  rx : Own W w.heap.size vx lx
  ry : Own W w.heap.size vy ly
  ne : vx.ownBlock = none ∨ vx.ownBlock ≠ vy.ownBlock
  gb : Gb w W
theorem MvSt.swap {w W : World} {vx vy : Value} {lx ly : List Int} (h : MvSt w W vx vy lx ly) : MvSt w W vy vx ly lx :=
  ⟨h.ry, h.rx, by rcases h.ne with e | e
                  · rw [e]; cases hv : vy.ownBlock with
                    | none => exact .inl rfl
                    | some g => exact .inr (by simp)
                  · exact .inr (fun k => e k.symm), h.gb⟩
theorem MvSt.left {w W w1 : World} {vx vy v' : Value} {lx ly : List Int} {x : Int} {o : Obj} (h : MvSt w W vx vy lx ly) (ho : w1.ownsRow w.heap.size 3 1 v' (lx.length + 1) (lx.map (Value.int .i64) ++ [.int .i64 x])) (hg : (W.alloc o).grownBy w1 vx.ownBlock)
    (hloc : v'.ownBlock = vx.ownBlock ∨ v'.ownBlock = some (W.alloc o).heap.size) : MvSt w w1 v' vy (lx ++ [x]) ly := by
  have s0 := h.gb.size
  refine ⟨?_, ?_, ?_, ?_⟩
  · unfold Own; rw [List.length_append, List.map_append]; exact ho
  · refine (World.ownsRow.kept (World.ownsRow.alloc h.ry o) hg ?_)
    rcases h.swap.ne with e | e
    · exact .inl e
    · exact .inr e
  · rcases hloc with e | e
    · rw [e]; exact h.ne
    · right
      intro k
      rw [e] at k
      have := (World.ownsRow.lt h.ry _ k.symm).2
      rw [World.size_alloc] at this; omega
  · exact below_grown (gb_alloc h.gb o) hg (fun k e => (World.ownsRow.lt h.rx k e).1) (by rw [World.size_alloc]; omega)
/-- By how much coordinate i is moved. -/
def mvN (by' : List Int) (i : Nat) : Int := if i < by'.length ∧ -4294967294 < by'[i]! ∧ by'[i]! < 4294967294 then by'[i]! else 0
theorem mvN_bd (by' : List Int) (i : Nat) : -4294967294 < mvN by' i ∧ mvN by' i < 4294967294 := by
  unfold mvN; split
  · rename_i h; exact h.2
  · omega
def mvL (a by' : List Int) (n : Nat) : List Int := tab (fun i => a[i]! + mvN by' i) n
theorem mvL_snoc (a by' : List Int) (q : Nat) : mvL a by' (q + 1) = mvL a by' q ++ [a[q]! + mvN by' q] := by
  unfold mvL tab; rw [List.range_succ, List.map_append]; rfl
theorem mvL_len (a by' : List Int) (q : Nat) : (mvL a by' q).length = q := tab_len _ _
theorem mv_dst {a b by' : List Int} (n : Nat) (ha : a.length = n) : dst (mvL a by' n) (mvL b by' n) = dst a b := by
  unfold dst
  rw [mvL_len, ha]
  refine sumN_ext (fun i hi => ?_)
  unfold mvL
  rw [tab_get _ hi, tab_get _ hi, gap_move]

set_option maxHeartbeats 8000000 in
set_option maxRecDepth 100000 in
theorem moves_in {w : World} {u v x : Value} {a b by' : List Int} (hu : RdI w u a) (hv : RdI w v b) (hx : RdI w x by') (la : a.length ≤ 65536) (lb : b.length ≤ 65536) (lc : by'.length ≤ 65536) (h0 : distE a b = 0) :
    Calls Try.prog 7 #[u, v, x] w fun e w' => e = .returned (.bool true) ∧ Gb w w' := by
  have h0' := distE_sym h0
  obtain ⟨_, _, e3, e4, e5, e6, e7⟩ := distE_ok h0
  have EV : distV a b = dst a b := by unfold distV; rw [if_pos h0]
  have EV2 : distV b a = dst a b := by unfold distV; rw [if_pos h0', dst_comm e3.symm]
  have C1 := dist_c hu hv
  rw [h0, EV] at C1
  have C2 := fun W' (g : Gb w W') => dist_c (hv.gb g) (hu.gb g)
  rw [h0', EV2] at C2
  have C3 := fun W' (g : Gb w W') => ints_v (hu.gb g) (hv.gb g) (by omega) (decide (dst a b = 0)) (by rw [decide_eq_decide]; exact (dst_zero e3).symm)
  have hz := fun W => wd_eq0 (dst a b) (decide (dst a b = 0)) rfl W
  have hne := fun W => wd_ne (dst a b) (dst a b) false (by simp) W
  have DD : Hid (∀ n, a.length = n → dst (mvL a by' n) (mvL b by' n) = dst a b) := fun n hn => mv_dst n hn
  have AB : Hid (a.length = b.length ∧ 1 ≤ a.length ∧ a.length ≤ 64 ∧ allR a = true ∧ allR b = true) := ⟨e3, e4, e5, e6, e7⟩
  have C4 : Hid (∀ W' u v, RdI W' u (mvL a by' a.length) → RdI W' v (mvL b by' a.length) → ∃ D E, (E = 31 ∨ (E = 0 ∧ D = dst a b)) ∧ Calls Try.prog 10 #[u, v] W' fun e w' => e = .returned (.tuple #[Wd D, .int .i64 E]) ∧ Gr W' w') := by
    intro W' u v h1 h2
    refine ⟨_, _, ?_, dist_c h1 h2⟩
    have l1 := mvL_len a by' a.length
    have l2 := mvL_len b by' a.length
    have k1 := chk_two (mvL a by' a.length) (mvL a by' a.length).length ⟨by omega, by omega, rfl⟩
    have k2 := chk_two (mvL b by' a.length) (mvL a by' a.length).length ⟨by omega, by omega, by omega⟩
    by_cases z : distE (mvL a by' a.length) (mvL b by' a.length) = 0
    · right
      refine ⟨z, ?_⟩
      unfold distV; rw [if_pos z]; exact mv_dst _ rfl
    · left
      unfold distE at z ⊢
      rw [k1.1, k2.1] at z ⊢
      split
      · rename_i y; rw [if_pos y] at z; rcases k2.2 with h | h
        · exact absurd h z
        · exact h
      · rename_i y; rcases k1.2 with h | h
        · exact absurd h y
        · exact h
  obtain ⟨pa, ca, rfl, ha⟩ := hu
  obtain ⟨pb, cb, rfl, hb⟩ := hv
  obtain ⟨pc, cc, rfl, hc⟩ := hx
  have A : Hid (∀ i, i < a.length → ∃ b o, pa = some ⟨b, o, none⟩ ∧ w.cell? ⟨b, o + i, none⟩ = some (.int .i64 a[i]!)) := ha
  have B : Hid (∀ i, i < b.length → ∃ b' o, pb = some ⟨b', o, none⟩ ∧ w.cell? ⟨b', o + i, none⟩ = some (.int .i64 b[i]!)) := hb
  have C : Hid (∀ i, i < by'.length → ∃ b' o, pc = some ⟨b', o, none⟩ ∧ w.cell? ⟨b', o + i, none⟩ = some (.int .i64 by'[i]!)) := hc
  rw [← e3] at C1 C2 C3 ⊢
  obtain ⟨n, hN⟩ : ∃ n, n = a.length := ⟨_, rfl⟩
  have N : Hid (n = a.length) := hN
  rw [← hN] at C1 C2 C3 la e5 ⊢
  obtain ⟨m, hM⟩ : ∃ m, m = by'.length := ⟨_, rfl⟩
  have M : Hid (m = by'.length) := hM
  rw [← hM] at lc ⊢
  have k1 : ¬ (n : Int) > 65536 := by omega
  have k2 : ¬ (m : Int) > 65536 := by omega
  obtain ⟨D, hD⟩ : ∃ D, D = dst a b := ⟨_, rfl⟩
  have HD : Hid (D = dst a b) := hD
  rw [← hD] at C1 C2 C3 hz hne
  obtain ⟨zz, hZ⟩ : ∃ zz, zz = decide (D = 0) := ⟨_, rfl⟩
  rw [← hZ] at C3 hz
  obtain ⟨i0, hi, hz0, hz1, hz2⟩ := info_parts Try.info3
  have II : Hid (Try.prog.info? 3 = some i0 ∧ i0.zero = some (.int .i64 0) ∧ i0.size = 1 ∧ i0.bytes = 8) := ⟨hi, hz0, hz1, hz2⟩
  clear hi hz0 hz1 hz2 hZ hD hM hN ha hb hc h0 h0' e3 e4 e6 e7 EV EV2 la lb lc DD
  go_enter Try.func7, Try.ntmps7
  go_wp2_with fail
  refine C1.mono ?_
  rintro e w1 ⟨rfl, g1⟩
  have G1 : Gb w (w1.alloc (.cells #[.int .u64 (hi D), .int .u64 (lo D)] 26)) := gb_alloc g1.gb _
  have D1 : Hid (At2 (w1.alloc (.cells #[.int .u64 (hi D), .int .u64 (lo D)] 26)) w1.heap.size D) := At2.new w1 D 26
  go_wp2_with fail
  refine (C2 _ G1).mono ?_
  rintro e w2 ⟨rfl, g2⟩
  have G2 : Gb w (w2.alloc (.cells #[.int .u64 (hi D), .int .u64 (lo D)] 26)) := gb_alloc (gb_trans G1 g2.gb) _
  have D2 : Hid (At2 (w2.alloc (.cells #[.int .u64 (hi D), .int .u64 (lo D)] 26)) w2.heap.size D) := At2.new w2 D 26
  have D3 : Hid (At2 (w2.alloc (.cells #[.int .u64 (hi D), .int .u64 (lo D)] 26)) w1.heap.size D) := (D1.out.gr g2).gr ((Gr.refl _).alloc _ _)
  clear C1 C2 g1 g2 D1
  have W3 : Hid (At2 (w2.alloc (.cells #[.int .u64 (hi D), .int .u64 (lo D)] 26)) w1.heap.size D) := D3.out
  go_wp2_with fail
  generalize w2.alloc (.cells #[.int .u64 (hi D), .int .u64 (lo D)] 26) = w3 at *
  have x0 := D3.out.c0
  have x1 := D3.out.c1
  have y0 := D2.out.c0
  have y1 := D2.out.c1
  have dr : Gb w w3.drew := gb_trans G2 (Below.refl _ _).drew
  go_region_held3 (fun w' => w'.cell? ⟨w1.heap.size, 0, none⟩ = some (.int .u64 (hi D)) ∧ w'.cell? ⟨w1.heap.size, 1, none⟩ = some (.int .u64 (lo D)) ∧ w'.cell? ⟨w2.heap.size, 0, none⟩ = some (.int .u64 (hi D)) ∧ w'.cell? ⟨w2.heap.size, 1, none⟩ = some (.int .u64 (lo D))) (first | (with_reducible exact four_call (by assumption) (by assumption)) | exact ⟨x0, x1, y0, y1⟩)
    (first
      | (go_at_call 32; refine (C3 _ dr).mono ?_; rintro e w4 ⟨rfl, g4⟩))
  all_goals
    have G4 : Gb w w4 := gb_trans dr g4.gb
    have dr4 : Gb w w4 := G4
    have D5 : Hid (At2 w4 w1.heap.size D) := (W3.out.gr ((Gr.refl _).drew)).gr g4
    clear x0 x1 y0 y1 g4 dr C3 hz D2 D3 W3 G1 G2
    go_wp2
    go_loopw [11, 12, 13] (fun vx vy iv w' => ∃ q : Nat, iv = .int .i64 (q : Int) ∧ q ≤ n ∧ Hid (MvSt w4 w' vx vy (mvL a by' q) (mvL b by' q))) (fun _ _ iv _ => n - (intOf iv).toNat)
    case atStart => exact ⟨0, rfl, Nat.zero_le _, ⟨own_nil _ _, own_nil _ _, .inl rfl, Below.refl _ _⟩⟩
    case round =>
      obtain ⟨q, rfl, hq, Y⟩ := hrel
      by_cases hqn : q < n
      · have hqi : (q : Int) < (n : Int) := by omega
        have hqa : q < a.length := by have := N.out; omega
        have hqb : q < b.length := by have := AB.out.1; omega
        obtain ⟨b1, o1, ea, xaw⟩ := A.out q hqa
        obtain ⟨b2, o2, eb, xbw⟩ := B.out q hqb
        subst ea; subst eb
        have xa0 := gb_keeps (gb_trans dr4 Y.out.gb) xaw
        have hax := allR_get AB.out.2.2.2.1 hqa
        have hbx := allR_get AB.out.2.2.2.2 hqb
        obtain ⟨ax1, ax2⟩ := hax
        obtain ⟨bx1, bx2⟩ := hbx
        have LX : Hid ((mvL a by' q).length = q ∧ (mvL b by' q).length = q) := ⟨mvL_len _ _ _, mvL_len _ _ _⟩
        have II' := II.out
        have tok1 : True := trivial
        have MV := mvN_bd by' q
        by_cases hm : q < m
        · have hmi : (q : Int) < (m : Int) := by omega
          have hmb : decide ((q : Int) < (m : Int)) = true := by simp; omega
          obtain ⟨b3, o3, ec, xcw⟩ := C.out q (by have := M.out; omega)
          subst ec
          have xc0 := gb_keeps (gb_trans dr4 Y.out.gb) xcw
          have EQ : Hid (mvN by' q = if -4294967294 < by'[q]! ∧ by'[q]! < 4294967294 then by'[q]! else 0) := by
            unfold Hid mvN
            by_cases h : -4294967294 < by'[q]! ∧ by'[q]! < 4294967294
            · rw [if_pos h, if_pos ⟨by have := M.out; omega, h⟩]
            · rw [if_neg h, if_neg (fun k => h k.2)]
          generalize by'[q]! = z at *
          by_cases z1 : z > -4294967294
          · by_cases z2 : z < 4294967294
            · have zb1 : decide (z > -4294967294) = true := by simp; omega
              have zb2 : decide (z < 4294967294) = true := by simp; omega
              have SN : Hid (mvL a by' (q + 1) = mvL a by' q ++ [a[q]! + z] ∧ mvL b by' (q + 1) = mvL b by' q ++ [b[q]! + z]) := by have e := EQ.out; rw [if_pos ⟨z1, z2⟩] at e; unfold Hid; rw [mvL_snoc, mvL_snoc, e]; exact ⟨rfl, rfl⟩
              generalize a[q]! = xa at *
              generalize b[q]! = xb at *
              clear EQ MV hm
              go_wp2_with (first
                | (at_builtin; have _t := tok1; refine wpList_append_own_at _ rfl _ _ 22 rfl w4.heap.size 3 i0 (.int .i64 0) 1 8 Try.underlying22 II'.1 II'.2.1 II'.2.2.1 II'.2.2.2 rfl (by decide) _ _ _ rfl (World.ownsRow.alloc Y.out.rx _) ⟨wr.heap.size, 0, none⟩ 1 1 [.int .i64 (xa + z)] rfl rfl (cell_one_new _ _ _) (ints_oneCell .i64 [xa + z]) (by rw [LX.out.1]; unfold maxLen; omega) (by rw [LX.out.1]; omega) (by have := Y.out.gb.size; simp at this ⊢; omega) ?_; intro vx' w5 hox hgx hnx hlx; have Y5 := Y.out.left hox hgx hlx; have xb0 := gb_keeps (gb_trans dr4 Y5.gb) xbw; clear tok1)
                | (at_builtin; refine wpList_append_own_at _ rfl _ _ 22 rfl w4.heap.size 3 i0 (.int .i64 0) 1 8 Try.underlying22 II'.1 II'.2.1 II'.2.2.1 II'.2.2.2 rfl (by decide) _ _ _ rfl (World.ownsRow.alloc Y5.ry _) ⟨w5.heap.size, 0, none⟩ 1 1 [.int .i64 (xb + z)] rfl rfl (cell_one_new _ _ _) (ints_oneCell .i64 [xb + z]) (by rw [LX.out.2]; unfold maxLen; omega) (by rw [LX.out.2]; omega) (by have := Y5.gb.size; simp at this ⊢; omega) ?_; intro vy' w6 hoy hgy hny hly; have Y6 := (Y5.swap.left hoy hgy hly).swap)
                | go_in)
              have Y7 : MvSt w4 w6 vx' vy' (mvL a by' (q + 1)) (mvL b by' (q + 1)) := by
                rw [SN.out.1, SN.out.2]
                exact Y6
              clear hox hgx hnx hlx hoy hgy hny hly Y5 Y6 xb0 xa0
              go_roundw
              case rel => exact ⟨q + 1, by go_num, hqn, Y7⟩
              case measure => simp [intOf]; omega
            · have zb1 : decide (z > -4294967294) = true := by simp; omega
              have zb2 : decide (z < 4294967294) = false := by simp; omega
              have SN : Hid (mvL a by' (q + 1) = mvL a by' q ++ [a[q]!] ∧ mvL b by' (q + 1) = mvL b by' q ++ [b[q]!]) := by have e := EQ.out; rw [if_neg (by omega)] at e; unfold Hid; rw [mvL_snoc, mvL_snoc, e, Int.add_zero, Int.add_zero]; exact ⟨rfl, rfl⟩
              generalize a[q]! = xa at *
              generalize b[q]! = xb at *
              clear EQ MV hm
              go_wp2_with (first
                | (at_builtin; have _t := tok1; refine wpList_append_own_at _ rfl _ _ 22 rfl w4.heap.size 3 i0 (.int .i64 0) 1 8 Try.underlying22 II'.1 II'.2.1 II'.2.2.1 II'.2.2.2 rfl (by decide) _ _ _ rfl (World.ownsRow.alloc Y.out.rx _) ⟨wr.heap.size, 0, none⟩ 1 1 [.int .i64 xa] rfl rfl (cell_one_new _ _ _) (ints_oneCell .i64 [xa]) (by rw [LX.out.1]; unfold maxLen; omega) (by rw [LX.out.1]; omega) (by have := Y.out.gb.size; simp at this ⊢; omega) ?_; intro vx' w5 hox hgx hnx hlx; have Y5 := Y.out.left hox hgx hlx; have xb0 := gb_keeps (gb_trans dr4 Y5.gb) xbw; clear tok1)
                | (at_builtin; refine wpList_append_own_at _ rfl _ _ 22 rfl w4.heap.size 3 i0 (.int .i64 0) 1 8 Try.underlying22 II'.1 II'.2.1 II'.2.2.1 II'.2.2.2 rfl (by decide) _ _ _ rfl (World.ownsRow.alloc Y5.ry _) ⟨w5.heap.size, 0, none⟩ 1 1 [.int .i64 xb] rfl rfl (cell_one_new _ _ _) (ints_oneCell .i64 [xb]) (by rw [LX.out.2]; unfold maxLen; omega) (by rw [LX.out.2]; omega) (by have := Y5.gb.size; simp at this ⊢; omega) ?_; intro vy' w6 hoy hgy hny hly; have Y6 := (Y5.swap.left hoy hgy hly).swap)
                | go_in)
              have Y7 : MvSt w4 w6 vx' vy' (mvL a by' (q + 1)) (mvL b by' (q + 1)) := by
                rw [SN.out.1, SN.out.2]
                exact Y6
              clear hox hgx hnx hlx hoy hgy hny hly Y5 Y6 xb0 xa0
              go_roundw
              case rel => exact ⟨q + 1, by go_num, hqn, Y7⟩
              case measure => simp [intOf]; omega
          · have zb1 : decide (z > -4294967294) = false := by simp; omega
            have SN : Hid (mvL a by' (q + 1) = mvL a by' q ++ [a[q]!] ∧ mvL b by' (q + 1) = mvL b by' q ++ [b[q]!]) := by have e := EQ.out; rw [if_neg (by omega)] at e; unfold Hid; rw [mvL_snoc, mvL_snoc, e, Int.add_zero, Int.add_zero]; exact ⟨rfl, rfl⟩
            generalize a[q]! = xa at *
            generalize b[q]! = xb at *
            clear EQ MV hm
            go_wp2_with (first
              | (at_builtin; have _t := tok1; refine wpList_append_own_at _ rfl _ _ 22 rfl w4.heap.size 3 i0 (.int .i64 0) 1 8 Try.underlying22 II'.1 II'.2.1 II'.2.2.1 II'.2.2.2 rfl (by decide) _ _ _ rfl (World.ownsRow.alloc Y.out.rx _) ⟨wr.heap.size, 0, none⟩ 1 1 [.int .i64 xa] rfl rfl (cell_one_new _ _ _) (ints_oneCell .i64 [xa]) (by rw [LX.out.1]; unfold maxLen; omega) (by rw [LX.out.1]; omega) (by have := Y.out.gb.size; simp at this ⊢; omega) ?_; intro vx' w5 hox hgx hnx hlx; have Y5 := Y.out.left hox hgx hlx; have xb0 := gb_keeps (gb_trans dr4 Y5.gb) xbw; clear tok1)
              | (at_builtin; refine wpList_append_own_at _ rfl _ _ 22 rfl w4.heap.size 3 i0 (.int .i64 0) 1 8 Try.underlying22 II'.1 II'.2.1 II'.2.2.1 II'.2.2.2 rfl (by decide) _ _ _ rfl (World.ownsRow.alloc Y5.ry _) ⟨w5.heap.size, 0, none⟩ 1 1 [.int .i64 xb] rfl rfl (cell_one_new _ _ _) (ints_oneCell .i64 [xb]) (by rw [LX.out.2]; unfold maxLen; omega) (by rw [LX.out.2]; omega) (by have := Y5.gb.size; simp at this ⊢; omega) ?_; intro vy' w6 hoy hgy hny hly; have Y6 := (Y5.swap.left hoy hgy hly).swap)
              | go_in)
            have Y7 : MvSt w4 w6 vx' vy' (mvL a by' (q + 1)) (mvL b by' (q + 1)) := by
              rw [SN.out.1, SN.out.2]
              exact Y6
            clear hox hgx hnx hlx hoy hgy hny hly Y5 Y6 xb0 xa0
            go_roundw
            case rel => exact ⟨q + 1, by go_num, hqn, Y7⟩
            case measure => simp [intOf]; omega
        · have hmb : decide ((q : Int) < (m : Int)) = false := by simp; omega
          have hmi : ¬ (q : Int) < (m : Int) := by omega
          have SN : Hid (mvL a by' (q + 1) = mvL a by' q ++ [a[q]!] ∧ mvL b by' (q + 1) = mvL b by' q ++ [b[q]!]) := by
            have e : mvN by' q = 0 := by unfold mvN; rw [if_neg (fun h => hm (by have := M.out; omega))]
            unfold Hid; rw [mvL_snoc, mvL_snoc, e, Int.add_zero, Int.add_zero]; exact ⟨rfl, rfl⟩
          generalize a[q]! = xa at *
          generalize b[q]! = xb at *
          clear MV hm
          go_wp2_with (first
            | (at_builtin; have _t := tok1; refine wpList_append_own_at _ rfl _ _ 22 rfl w4.heap.size 3 i0 (.int .i64 0) 1 8 Try.underlying22 II'.1 II'.2.1 II'.2.2.1 II'.2.2.2 rfl (by decide) _ _ _ rfl (World.ownsRow.alloc Y.out.rx _) ⟨wr.heap.size, 0, none⟩ 1 1 [.int .i64 xa] rfl rfl (cell_one_new _ _ _) (ints_oneCell .i64 [xa]) (by rw [LX.out.1]; unfold maxLen; omega) (by rw [LX.out.1]; omega) (by have := Y.out.gb.size; simp at this ⊢; omega) ?_; intro vx' w5 hox hgx hnx hlx; have Y5 := Y.out.left hox hgx hlx; have xb0 := gb_keeps (gb_trans dr4 Y5.gb) xbw; clear tok1)
            | (at_builtin; refine wpList_append_own_at _ rfl _ _ 22 rfl w4.heap.size 3 i0 (.int .i64 0) 1 8 Try.underlying22 II'.1 II'.2.1 II'.2.2.1 II'.2.2.2 rfl (by decide) _ _ _ rfl (World.ownsRow.alloc Y5.ry _) ⟨w5.heap.size, 0, none⟩ 1 1 [.int .i64 xb] rfl rfl (cell_one_new _ _ _) (ints_oneCell .i64 [xb]) (by rw [LX.out.2]; unfold maxLen; omega) (by rw [LX.out.2]; omega) (by have := Y5.gb.size; simp at this ⊢; omega) ?_; intro vy' w6 hoy hgy hny hly; have Y6 := (Y5.swap.left hoy hgy hly).swap)
            | go_in)
          have Y7 : MvSt w4 w6 vx' vy' (mvL a by' (q + 1)) (mvL b by' (q + 1)) := by
            rw [SN.out.1, SN.out.2]
            exact Y6
          clear hox hgx hnx hlx hoy hgy hny hly Y5 Y6 xb0 xa0
          go_roundw
          case rel => exact ⟨q + 1, by go_num, hqn, Y7⟩
          case measure => simp [intOf]; omega
      · have hqi : ¬ (q : Int) < (n : Int) := by omega
        have hqe : q = a.length := by have := N.out; omega
        have Yq := Y.out
        rw [hqe] at Yq
        obtain ⟨DV, EV, HEV, C10⟩ := C4.out wr _ _ Yq.rx.rd Yq.ry.rd
        have GY := gb_trans dr4 Yq.gb
        have s0 := gb_keeps Yq.gb D5.out.c0
        have s1 := gb_keeps Yq.gb D5.out.c1
        have L1 := Yq.rx.rd
        have L2 := Yq.ry.rd
        obtain ⟨px, cx, ex, _⟩ := L1
        obtain ⟨py, cy, ey, _⟩ := L2
        subst ex ey
        clear C4 Yq Y A B C
        rcases HEV with rfl | ⟨rfl, eD⟩
        · go_wp2_with fail
          refine C10.mono ?_
          rintro e w5 ⟨rfl, g5⟩
          have G6 : Gb w (w5.alloc (.cells #[.int .u64 (hi DV), .int .u64 (lo DV)] 26)) := gb_alloc (gb_trans GY g5.gb) _
          go_wp2_with fail
          refine (awake_any _).mono ?_
          rintro e w6 ⟨rfl, g6⟩
          go_wp2
          go_ret
          exact ⟨rfl, gb_trans G6 g6⟩
        · rw [← HD.out] at eD
          subst eD
          have heq := fun W => wd_same (hi DV) (lo DV) W
          go_wp2_with fail
          refine C10.mono ?_
          rintro e w5 ⟨rfl, g5⟩
          have G6 : Gb w (w5.alloc (.cells #[.int .u64 (hi DV), .int .u64 (lo DV)] 26)) := gb_alloc (gb_trans GY g5.gb) _
          have N5 : Hid (At2 (w5.alloc (.cells #[.int .u64 (hi DV), .int .u64 (lo DV)] 26)) w5.heap.size DV) := At2.new w5 DV 26
          have gg : Gb wr (w5.alloc (.cells #[.int .u64 (hi DV), .int .u64 (lo DV)] 26)) := gb_alloc g5.gb _
          have s0 := gb_keeps gg s0
          have s1 := gb_keeps gg s1
          go_wp2_with fail
          refine (awake_any _).mono ?_
          rintro e w6 ⟨rfl, g6⟩
          have s0 := gb_keeps g6 s0
          have s1 := gb_keeps g6 s1
          have t0 := gb_keeps g6 N5.out.c0
          have t1 := gb_keeps g6 N5.out.c1
          go_wp2
          go_ret
          exact ⟨rfl, gb_trans G6 g6⟩

set_option maxHeartbeats 2000000 in
theorem moves_out {w : World} {u v x : Value} {a b by' : List Int} (hu : RdI w u a) (hv : RdI w v b) (hx : RdI w x by') (h : 65536 < a.length ∨ 65536 < b.length ∨ 65536 < by'.length) :
    Calls Try.prog 7 #[u, v, x] w fun e w' => e = .returned (.bool true) ∧ Gb w w' := by
  obtain ⟨pa, ca, rfl, _⟩ := hu
  obtain ⟨pb, cb, rfl, _⟩ := hv
  obtain ⟨pc, cc, rfl, _⟩ := hx
  generalize a.length = na at *
  generalize b.length = nb at *
  generalize by'.length = nc at *
  by_cases h1 : 65536 < na
  · have k1 : (na : Int) > 65536 := by omega
    go_enter Try.func7, Try.ntmps7
    go_wp2
    go_ret
    exact ⟨rfl, Below.refl _ _⟩
  by_cases h2 : 65536 < nb
  · have k1 : ¬ (na : Int) > 65536 := by omega
    have k2 : (nb : Int) > 65536 := by omega
    go_enter Try.func7, Try.ntmps7
    go_wp2
    go_ret
    exact ⟨rfl, Below.refl _ _⟩
  · have k1 : ¬ (na : Int) > 65536 := by omega
    have k2 : ¬ (nb : Int) > 65536 := by omega
    have k3 : (nc : Int) > 65536 := by omega
    go_enter Try.func7, Try.ntmps7
    go_wp2
    go_ret
    exact ⟨rfl, Below.refl _ _⟩
set_option maxHeartbeats 2000000 in
theorem moves_no {w : World} {u v x : Value} {a b by' : List Int} (hu : RdI w u a) (hv : RdI w v b) (hx : RdI w x by') (la : a.length ≤ 65536) (lb : b.length ≤ 65536) (lc : by'.length ≤ 65536) (h0 : distE a b ≠ 0) :
    Calls Try.prog 7 #[u, v, x] w fun e w' => e = .returned (.bool true) ∧ Gb w w' := by
  have h1 : distE b a ≠ 0 := fun h => h0 (distE_sym h)
  have C1 := dist_c hu hv
  have C2 := fun W' (g : Gb w W') => dist_c (hv.gb g) (hu.gb g)
  obtain ⟨pa, ca, rfl, _⟩ := hu
  obtain ⟨pb, cb, rfl, _⟩ := hv
  obtain ⟨pc, cc, rfl, _⟩ := hx
  have k1 : ¬ (a.length : Int) > 65536 := by omega
  have k2 : ¬ (b.length : Int) > 65536 := by omega
  have k3 : ¬ (by'.length : Int) > 65536 := by omega
  have e1 : (distE a b == 0) = false := by rw [beq_eq_false_iff_ne]; exact h0
  have e2 : (distE b a == 0) = false := by rw [beq_eq_false_iff_ne]; exact h1
  generalize distE a b = E1 at *
  generalize distE b a = E2 at *
  generalize distV a b = V1 at *
  generalize distV b a = V2 at *
  generalize a.length = na at *
  generalize b.length = nb at *
  generalize by'.length = nc at *
  clear la lb lc
  go_enter Try.func7, Try.ntmps7
  go_wp2_with fail
  refine C1.mono ?_
  rintro e w1 ⟨rfl, g1⟩
  have G1 : Gb w (w1.alloc (.cells #[.int .u64 (hi V1), .int .u64 (lo V1)] 26)) := gb_alloc g1.gb _
  go_wp2_with fail
  refine (C2 _ G1).mono ?_
  rintro e w2 ⟨rfl, g2⟩
  have G2 : Gb w (w2.alloc (.cells #[.int .u64 (hi V2), .int .u64 (lo V2)] 26)) := gb_alloc (gb_trans G1 g2.gb) _
  go_wp2_with fail
  all_goals
    refine (awake_any _).mono ?_
    rintro e w3 ⟨rfl, g3⟩
    go_wp2
    go_ret
    exact ⟨by simp, gb_trans G2 g3⟩
theorem moves_any {w : World} {u v x : Value} {a b by' : List Int} (hu : RdI w u a) (hv : RdI w v b) (hx : RdI w x by') : Calls Try.prog 7 #[u, v, x] w fun e w' => e = .returned (.bool true) ∧ Gb w w' := by
  by_cases h : 65536 < a.length ∨ 65536 < b.length ∨ 65536 < by'.length
  · exact moves_out hu hv hx h
  · by_cases h0 : distE a b = 0
    · exact moves_in hu hv hx (by omega) (by omega) (by omega) h0
    · exact moves_no hu hv hx (by omega) (by omega) (by omega) h0
end Go.Proofs.Ytnhaloeeaejedaa
