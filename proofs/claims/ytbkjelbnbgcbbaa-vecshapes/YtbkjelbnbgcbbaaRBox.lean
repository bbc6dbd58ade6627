/- The reference's Box. -/
import Derived.Test.YtbkjelbnbgcbbaaRBall
namespace Go.Proofs.Ytbkjelbnbgcbbaa
open Go.RowKit Go.Sort Go.Maps

/-- The region that is made, in the first block behind w. -/
structure RxC (w W : World) (vl vh vi : Value) : Prop where
  c0 : W.cell? ⟨w.heap.size, 0, none⟩ = some (.int .i64 2)
  c1 : W.cell? ⟨w.heap.size, 1, none⟩ = some vl
  c2 : W.cell? ⟨w.heap.size, 2, none⟩ = some vh
  c3 : W.cell? ⟨w.heap.size, 3, none⟩ = some (.int .u64 0)
  c4 : W.cell? ⟨w.heap.size, 4, none⟩ = some (.int .u64 0)
  c5 : W.cell? ⟨w.heap.size, 5, none⟩ = some vi
  f1 : W.frozen? ⟨w.heap.size, 1, none⟩ = false
  f2 : W.frozen? ⟨w.heap.size, 2, none⟩ = false
  gb : Gb w W
  sz : w.heap.size + 1 ≤ W.heap.size
theorem RxC.grown {w W W5 : World} {vl vh vi : Value} {o : Obj} {row : Option Nat} (h : RxC w W vl vh vi) (g : (W.alloc o).grownBy W5 row) (hr : ∀ k, row = some k → w.heap.size + 1 ≤ k) : RxC w W5 vl vh vi := by
  have hb : W5.heap[w.heap.size]? = W.heap[w.heap.size]? := by
    have s := h.sz
    rw [g.block w.heap.size (by rw [World.size_alloc]; omega) (fun e => by have := hr _ e.symm; omega)]
    exact Below.heap_alloc W o _ (by omega)
  have kc : ∀ i, W5.cell? ⟨w.heap.size, i, none⟩ = W.cell? ⟨w.heap.size, i, none⟩ := fun i => World.cell?_of_block hb
  have kf : ∀ i, W5.frozen? ⟨w.heap.size, i, none⟩ = W.frozen? ⟨w.heap.size, i, none⟩ := fun i => World.frozen?_of_block hb
  have hs := g.size
  rw [World.size_alloc] at hs
  exact ⟨(kc _).trans h.c0, (kc _).trans h.c1, (kc _).trans h.c2, (kc _).trans h.c3, (kc _).trans h.c4, (kc _).trans h.c5, (kf _).trans h.f1, (kf _).trans h.f2,
    below_grown (gb_alloc h.gb o) g (fun k e => by have := hr k e; omega) (gb_alloc h.gb o).size, by have := h.sz; omega⟩
theorem RxC.setL {w W : World} {vl vh vi : Value} (h : RxC w W vl vh vi) (x : Value) : RxC w (W.setCell ⟨w.heap.size, 1, none⟩ x) x vh vi := by
  obtain ⟨c0, c1, c2, c3, c4, c5, f1, f2, g, s⟩ := h
  exact ⟨by simp [go_sem, c0], by simp [go_sem, c1], by simp [go_sem, c2], by simp [go_sem, c3], by simp [go_sem, c4], by simp [go_sem, c5], by simp [go_sem, f1], by simp [go_sem, f2], gb_set g (Nat.le_refl _) _, by simpa [World.setCell] using s⟩
theorem RxC.setH {w W : World} {vl vh vi : Value} (h : RxC w W vl vh vi) (x : Value) : RxC w (W.setCell ⟨w.heap.size, 2, none⟩ x) vl x vi := by
  obtain ⟨c0, c1, c2, c3, c4, c5, f1, f2, g, s⟩ := h
  exact ⟨by simp [go_sem, c0], by simp [go_sem, c1], by simp [go_sem, c2], by simp [go_sem, c3], by simp [go_sem, c4], by simp [go_sem, c5], by simp [go_sem, f1], by simp [go_sem, f2], gb_set g (Nat.le_refl _) _, by simpa [World.setCell] using s⟩
structure RxSt (w W : World) (vl vh vi : Value) (L H : List Int) : Prop where
  c : RxC w W vl vh vi
  lo : Own W (w.heap.size + 1) vl L
  hi : Own W (w.heap.size + 1) vh H
  ne : ∀ g, vl.ownBlock = some g → vh.ownBlock ≠ some g
theorem own_ge {W : World} {B k : Nat} {v : Value} {L : List Int} (h : Own W B v L) (e : v.ownBlock = some k) : B ≤ k := (World.ownsRow.lt h k e).1
theorem own_app {W : World} {B : Nat} {v : Value} {L : List Int} {x : Int} (r : W.ownsRow B 3 1 v (L.length + 1) (L.map (Value.int .i64) ++ [.int .i64 x])) : Own W B v (L ++ [x]) := by
  unfold Own; rw [List.length_append, List.map_append]; exact r
theorem own_b {W : World} {b : Nat} {v : Value} {L : List Int} (h : Own W (b + 1) v L) : v.ownBlock ≠ some b := fun e => by have := own_ge h e; omega
theorem RxSt.low {w W W5 : World} {vl vh vi vl' : Value} {L H : List Int} {x : Int} {o : Obj} (h : RxSt w W vl vh vi L H) (r : W5.ownsRow (w.heap.size + 1) 3 1 vl' (L.length + 1) (L.map (Value.int .i64) ++ [.int .i64 x])) (g : (W.alloc o).grownBy W5 vl.ownBlock) (l : vl'.ownBlock = vl.ownBlock ∨ vl'.ownBlock = some (W.alloc o).heap.size) :
    RxC w W5 vl vh vi ∧ RxSt w (W5.setCell ⟨w.heap.size, 1, none⟩ vl') vl' vh vi (L ++ [x]) H := by
  have k := h.c.grown g (fun k e => own_ge h.lo e)
  have lo' := own_app r
  have hi' : Own W5 (w.heap.size + 1) vh H := Own.kept (World.ownsRow.alloc h.hi o) g (by
    cases hv : vh.ownBlock with
    | none => exact .inl rfl
    | some y => exact .inr (fun e => h.ne y e.symm hv))
  refine ⟨k, k.setL vl', ownsRow_setCell_other lo' (own_b lo') _, ownsRow_setCell_other hi' (own_b hi') _, fun y hy e => ?_⟩
  rcases l with l | l
  · exact h.ne y (by rw [← l]; exact hy) e
  · have := (World.ownsRow.lt h.hi y e).2
    rw [l] at hy; injection hy with hy
    rw [World.size_alloc] at hy; omega
theorem RxSt.high {w W W5 : World} {vl vh vi vh' : Value} {L H : List Int} {x : Int} {o : Obj} (h : RxSt w W vl vh vi L H) (r : W5.ownsRow (w.heap.size + 1) 3 1 vh' (H.length + 1) (H.map (Value.int .i64) ++ [.int .i64 x])) (g : (W.alloc o).grownBy W5 vh.ownBlock) (l : vh'.ownBlock = vh.ownBlock ∨ vh'.ownBlock = some (W.alloc o).heap.size) :
    RxC w W5 vl vh vi ∧ RxSt w (W5.setCell ⟨w.heap.size, 2, none⟩ vh') vl vh' vi L (H ++ [x]) := by
  have k := h.c.grown g (fun k e => own_ge h.hi e)
  have hi' := own_app r
  have lo' : Own W5 (w.heap.size + 1) vl L := Own.kept (World.ownsRow.alloc h.lo o) g (by
    cases hv : vl.ownBlock with
    | none => exact .inl rfl
    | some y => exact .inr (fun e => h.ne y hv e.symm))
  refine ⟨k, k.setH vh', ownsRow_setCell_other lo' (own_b lo') _, ownsRow_setCell_other hi' (own_b hi') _, fun y hy e => ?_⟩
  rcases l with l | l
  · exact h.ne y hy (by rw [← l]; exact e)
  · have := (World.ownsRow.lt h.lo y hy).2
    rw [l] at e; injection e with e
    rw [World.size_alloc] at e; omega

set_option maxHeartbeats 4000000 in
set_option maxRecDepth 100000 in
theorem rbox_no {w : World} {v : Value} {rs : List Rw} (h : RdW w v rs) (d : Int) (hlen : rs.length ≤ 4611686018427387904) (hne : boxE rs d ≠ 0) :
    Calls Try.prog 9 #[v, .int .i64 d] w fun e w' => ∃ x, e = .returned (.tuple #[x, .int .i64 (boxE rs d)]) ∧ RdR w' x (boxR rs d) ∧ Gb w w' := by
  have ER : boxR rs d = ⟨0, [], [], 0, []⟩ := by unfold boxR; rw [if_neg hne]
  rw [ER]
  have E : Hid (boxE rs d = if 1 ≤ d ∧ d ≤ 64 then (if rs.length = 0 then 1 else idsE rs d) else 30) := rfl
  have G0 : Gr w (w.alloc z36) := (Gr.refl _).alloc _ _
  have C52 := rrows_c (h.gb G0.gb) d hlen
  obtain ⟨a, cap, rfl, _⟩ := h
  generalize boxE rs d = be at *
  clear ER
  by_cases hd : 1 ≤ d ∧ d ≤ 64
  · have hd1 : ¬ d < 1 := by omega
    have hd2 : ¬ 64 < d := by omega
    rw [if_pos hd] at E
    by_cases h0 : rs.length = 0
    · rw [if_pos h0] at E
      have e := E.out
      subst e
      rw [h0]
      clear hd C52 E h0 hlen hne
      go_enter Try.func9, Try.ntmps9
      go_wp2
      exact bodyPost_ret (v := .tuple #[.agg #[.int .i64 0, .slice none 0 0, .slice none 0 0, .int .u64 0, .int .u64 0, .slice none 0 0], .int .i64 1]) (by simp [results, Try.results9, go_sem]) rfl ⟨_, rfl, rdr_zero _, G0.gb⟩
    · rw [if_neg h0] at E
      have e := E.out
      rw [← e] at C52
      have h0' : ((rs.length : Int) == 0) = false := by rw [beq_eq_false_iff_ne]; omega
      have hne' : (be == 0) = false := by rw [beq_eq_false_iff_ne]; exact hne
      generalize rs.length = n at *
      clear hd E h0 hlen hne e
      go_enter Try.func9, Try.ntmps9
      go_wp2_with fail
      refine C52.mono ?_
      rintro e w1 ⟨rfl, g1⟩
      obtain ⟨⟨q0, q1, q2, q3, q4, q5⟩, qf⟩ := reg0 g1.gb
      have f0 := qf 0 (by omega)
      have f1 := qf 1 (by omega)
      have f2 := qf 2 (by omega)
      have f3 := qf 3 (by omega)
      have f4 := qf 4 (by omega)
      have f5 := qf 5 (by omega)
      clear qf
      have hB : w.heap.size ≤ w.heap.size := Nat.le_refl _
      have GG := gb_trans G0.gb g1.gb
      go_wp2
      exact bodyPost_ret (v := .tuple #[.agg #[.int .i64 0, .slice none 0 0, .slice none 0 0, .int .u64 0, .int .u64 0, .slice none 0 0], .int .i64 be]) (by simp [results, Try.results9, go_sem, q0, q1, q2, q3, q4, q5]) rfl ⟨_, rfl, rdr_zero _, gb_set (gb_set (gb_set (gb_set (gb_set (gb_set GG hB _) hB _) hB _) hB _) hB _) hB _⟩
  · rw [if_neg hd] at E
    have e := E.out
    subst e
    generalize rs.length = n at *
    clear E hlen hne C52
    by_cases hd1 : d < 1
    · clear hd
      go_enter Try.func9, Try.ntmps9
      go_wp2
      exact bodyPost_ret (v := .tuple #[.agg #[.int .i64 0, .slice none 0 0, .slice none 0 0, .int .u64 0, .int .u64 0, .slice none 0 0], .int .i64 30]) (by simp [results, Try.results9, go_sem]) rfl ⟨_, rfl, rdr_zero _, G0.gb⟩
    · have hd2 : 64 < d := by omega
      clear hd
      go_enter Try.func9, Try.ntmps9
      go_wp2
      exact bodyPost_ret (v := .tuple #[.agg #[.int .i64 0, .slice none 0 0, .slice none 0 0, .int .u64 0, .int .u64 0, .slice none 0 0], .int .i64 30]) (by simp [results, Try.results9, go_sem]) rfl ⟨_, rfl, rdr_zero _, G0.gb⟩
theorem rv_two (L H I : List Int) (vl vh vi : Value) : Value.agg #[.int .i64 2, vl, vh, .int .u64 0, .int .u64 0, vi] = rv ⟨2, L, H, 0, I⟩ vl vh vi := by
  first | rfl | simp [hi, lo]
theorem tab_snoc (f : Nat → Int) (n : Nat) : tab f (n + 1) = tab f n ++ [f n] := by simp [tab, List.range_succ]

set_option maxHeartbeats 8000000 in
set_option maxRecDepth 100000 in
theorem rbox_yes {w : World} {v : Value} {rs : List Rw} (h : RdW w v rs) (d : Int) (hn : rs.length ≤ 2000) (hok : boxE rs d = 0) :
    Calls Try.prog 9 #[v, .int .i64 d] w fun e w' => ∃ x, e = .returned (.tuple #[x, .int .i64 (boxE rs d)]) ∧ RdR w' x (boxR rs d) ∧ Gb w w' := by
  have ER : boxR rs d = ⟨2, boxL rs d.toNat, boxH rs d.toNat, 0, srt (idsOf rs)⟩ := by unfold boxR; rw [if_pos hok]
  rw [ER, hok]
  have DD : 1 ≤ d ∧ d ≤ 64 := by
    unfold boxE at hok; split at hok
    · assumption
    · cases hok
  unfold boxE at hok
  rw [if_pos DD] at hok
  have r0 : ¬ rs.length = 0 := by
    intro e; rw [if_pos e] at hok; cases hok
  rw [if_neg r0] at hok
  obtain ⟨r2, rok⟩ := idsE_ok hok
  obtain ⟨m, rfl⟩ := Int.eq_ofNat_of_zero_le (show 0 ≤ d by omega)
  have hm1 : 1 ≤ m := by omega
  have hm2 : m ≤ 64 := by omega
  have hd1 : ¬ (m : Int) < 1 := by omega
  have hd2 : ¬ (64 : Int) < m := by omega
  have G0 : Gr w (w.alloc z36) := (Gr.refl _).alloc _ _
  have C52 := rrows_c (h.gb G0.gb) (m : Int) (by omega)
  rw [hok] at C52
  have C53 := fun W (g : Gb w W) => rIds_c (h.gb g) hn
  have VL : Hid (∀ i, i < rs.length → rs[i]!.2.length = m) := by
    intro i hi
    have := chk_ok (rok i hi).1
    omega
  obtain ⟨a, cap, rfl, ha⟩ := h
  have A : Hid (∀ i, i < rs.length → ∃ b o u, a = some ⟨b, o, none⟩ ∧ w.cell? ⟨b, o + i * 2, none⟩ = some (.int .i64 rs[i]!.1) ∧ w.cell? ⟨b, o + i * 2 + 1, none⟩ = some u ∧ RdI w u rs[i]!.2) := ha
  obtain ⟨i0, hi, hz0, hz1, hz2⟩ := info_parts Try.info3
  have II : Hid (Try.prog.info? 3 = some i0 ∧ i0.zero = some (.int .i64 0) ∧ i0.size = 1 ∧ i0.bytes = 8) := ⟨hi, hz0, hz1, hz2⟩
  clear hi hz0 hz1 hz2
  obtain ⟨n, hN⟩ : ∃ n, n = rs.length := ⟨_, rfl⟩
  have N : Hid (n = rs.length) := hN
  rw [← hN] at C52 C53 r2 r0 ⊢
  have hn1 : 0 < n := by omega
  have hn0 : ((n : Int) == 0) = false := by rw [beq_eq_false_iff_ne]; omega
  have hn2 : (0 : Int) < (n : Int) := by omega
  rw [Int.toNat_natCast]
  clear hok ER rok ha hN hn DD r0
  go_enter Try.func9, Try.ntmps9
  go_wp2_with fail
  refine C52.mono ?_
  rintro e w1 ⟨rfl, g1⟩
  go_wp2_with fail
  refine (C53 _ (gb_trans G0.gb g1.gb)).mono ?_
  rintro e w2 ⟨vi, rfl, oi, g2⟩
  obtain ⟨pi, ci, ei, _⟩ := oi.rd
  subst ei
  generalize (srt (idsOf rs)).length = ni at *
  have S0 : Hid (RxSt w2 (w2.alloc (.cells #[.int .i64 2, .slice none 0 0, .slice none 0 0, .int .u64 0, .int .u64 0, .slice pi ni ci] 31)) (.slice none 0 0) (.slice none 0 0) (.slice pi ni ci) [] []) :=
    ⟨⟨by simp [go_sem], by simp [go_sem], by simp [go_sem], by simp [go_sem], by simp [go_sem], by simp [go_sem], by simp [go_sem], by simp [go_sem], gb_alloc (Below.refl _ _) _, by simp⟩, own_nil _ _, own_nil _ _, (fun g e => by cases e)⟩
  have OI : Hid (Own w2 (w.heap.size + 1) (.slice pi ni ci) (srt (idsOf rs)) ∧ Gb (w.alloc z36) w2) := ⟨oi.mono (by have := g1.gb.size; rwa [World.size_alloc] at this), gb_trans g1.gb g2⟩
  have GW : Gb w w2 := gb_trans G0.gb OI.out.2
  clear oi g1 g2 C52 C53
  go_wp2_with fail
  go_loopw [8] (fun iv w' => ∃ i : Nat, ∃ vl vh, iv = .int .i64 (i : Int) ∧ i ≤ m ∧ Hid (RxSt w2 w' vl vh (.slice pi ni ci) (boxL rs i) (boxH rs i))) (fun iv _ => m - (intOf iv).toNat)
  case atStart => exact ⟨0, _, _, rfl, Nat.zero_le _, S0⟩
  case round =>
    clear S0
    obtain ⟨i, vl, vh, rfl, hi, X⟩ := hrel
    by_cases him : i < m
    · have hii : (i : Int) < (m : Int) := by omega
      obtain ⟨b, o, u0, ea, y0, y1, y2⟩ := A.out 0 (by have := N.out; omega)
      subst ea
      have GY := gb_trans GW X.out.c.gb
      clear y0
      have y1 := gb_keeps GY y1
      have y2 := y2.gb GY
      obtain ⟨p0, k0, e0, hx0⟩ := y2
      subst e0
      obtain ⟨b0, o0, e0, hx0⟩ := hx0 i (by rw [VL.out 0 (by have := N.out; omega)]; exact him)
      subst e0
      rw [VL.out 0 (by have := N.out; omega)] at y1
      rw [Nat.zero_mul, Nat.add_zero] at y1
      have LO0 : Hid (rs[0]!.2[i]! = loAt rs 0 i ∧ rs[0]!.2[i]! = hiAt rs 0 i) := ⟨rfl, rfl⟩
      generalize rs[0]!.2[i]! = x0 at *
      go_wp2_with fail
      go_loopw [9, 10, 11] (fun lv hv kv w' => ∃ k : Nat, ∃ xl xh : Int, kv = .int .i64 (k : Int) ∧ lv = .int .i64 xl ∧ hv = .int .i64 xh ∧ k ≤ n ∧ w' = wr ∧ Hid (xl = loAt rs k i ∧ xh = hiAt rs k i)) (fun _ _ kv _ => n - (intOf kv).toNat)
      case atStart => exact ⟨0, x0, x0, rfl, rfl, rfl, Nat.zero_le _, rfl, LO0⟩
      case round =>
        obtain ⟨k, xl, xh, rfl, rfl, rfl, hk, rfl, Y⟩ := hrel
        by_cases hkn : k < n
        · have hki : (k : Int) < (n : Int) := by omega
          have hkl : k < rs.length := by have := N.out; omega
          obtain ⟨b', o', uk, ea, _, z1, z2⟩ := A.out k hkl
          cases ea
          have z1 := gb_keeps GY z1
          have z2 := z2.gb GY
          obtain ⟨pk, kk, ek, hxk⟩ := z2
          subst ek
          obtain ⟨bk, ok, ek, hxk⟩ := hxk i (by rw [VL.out k hkl]; exact him)
          subst ek
          rw [VL.out k hkl] at z1
          have R : Hid (min xl rs[k]!.2[i]! = loAt rs (k + 1) i ∧ max xh rs[k]!.2[i]! = hiAt rs (k + 1) i) := by
            refine ⟨?_, ?_⟩
            · rw [Y.out.1]; rfl
            · rw [Y.out.2]; rfl
          generalize rs[k]!.2[i]! = y at *
          go_wp2
          exact ⟨⟨k + 1, _, _, by go_num, rfl, rfl, hkn, trivial, R⟩, by simp [intOf]; omega⟩
        · have hki : ¬ (k : Int) < (n : Int) := by omega
          have E : Hid (boxL rs (i + 1) = boxL rs i ++ [xl] ∧ boxH rs (i + 1) = boxH rs i ++ [xh]) := by
            have h1 := Y.out
            rw [show k = rs.length by have := N.out; omega] at h1
            unfold Hid boxL boxH
            rw [tab_snoc, tab_snoc, h1.1, h1.2]; exact ⟨rfl, rfl⟩
          have lL : (boxL rs i).length ≤ 64 := by unfold boxL; rw [tab_len]; omega
          have lH : (boxH rs i).length ≤ 64 := by unfold boxH; rw [tab_len]; omega
          have c1 := alloc_keeps X.out.c.c1 (.cells #[.int .i64 xl] 3)
          have c1' := X.out.c.c1
          have SZ := X.out.c.sz
          clear Y y1 hx0 LO0 GY
          go_wp2_with first
            | (at_builtin; refine wpList_append_own_at _ rfl _ _ 23 rfl (w2.heap.size + 1) 3 i0 (.int .i64 0) 1 8 Try.underlying23 II.out.1 II.out.2.1 II.out.2.2.1 II.out.2.2.2 rfl (by decide) _ _ _ rfl (World.ownsRow.alloc X.out.lo _) ⟨_, 0, none⟩ 1 1 [.int .i64 xl] rfl rfl (cell_one_new _ _ _) (by simp [Value.oneCell']) (by simp only [maxLen]; omega) (by omega) (by rw [World.size_alloc]; omega) ?_; intro vl' W5 r5 g5 n5 l5; obtain ⟨nl, pv, cv, ev⟩ : ∃ nl pv cv, vl' = .slice pv nl cv := (by obtain ⟨pv, cv, ev, _⟩ := (own_app r5).rd; exact ⟨_, pv, cv, ev⟩); subst ev; have M5 : Hid (_ ∧ RxSt w2 (W5.setCell ⟨w2.heap.size, 1, none⟩ (.slice pv nl cv)) (.slice pv nl cv) vh (.slice pi ni ci) (boxL rs i ++ [xl]) (boxH rs i)) := X.out.low r5 g5 l5; have d1 := M5.out.1.c1; have d2 := M5.out.1.f1; have e1 := M5.out.2.c.c2; have e2 := M5.out.2.c.sz; have e3 := M5.out.1.c2; have e4 := alloc_keeps e1 (.cells #[.int .i64 xh] 3))
            | (at_builtin; refine wpList_append_own_at _ rfl _ _ 23 rfl (w2.heap.size + 1) 3 i0 (.int .i64 0) 1 8 Try.underlying23 II.out.1 II.out.2.1 II.out.2.2.1 II.out.2.2.2 rfl (by decide) _ _ _ rfl (World.ownsRow.alloc M5.out.2.hi _) ⟨W5.heap.size, 0, none⟩ 1 1 [.int .i64 xh] rfl rfl (by have hc := cell_one_new (W5.setCell ⟨w2.heap.size, 1, none⟩ (.slice pv nl cv)) (.int .i64 xh) 3; simpa [World.setCell] using hc) (by simp [Value.oneCell']) (by simp only [maxLen]; omega) (by omega) (by rw [World.size_alloc]; omega) ?_; intro vh' W6 r6 g6 n6 l6; obtain ⟨nh, qv, dv, ev⟩ : ∃ nl pv cv, vh' = .slice pv nl cv := (by obtain ⟨pv, cv, ev, _⟩ := (own_app r6).rd; exact ⟨_, pv, cv, ev⟩); subst ev; have M6 : Hid (_ ∧ RxSt w2 (W6.setCell ⟨w2.heap.size, 2, none⟩ (.slice qv nh dv)) (.slice pv nl cv) (.slice qv nh dv) (.slice pi ni ci) (boxL rs i ++ [xl]) (boxH rs i ++ [xh])) := M5.out.2.high r6 g6 l6; have d3 := M6.out.1.c2; have d4 := M6.out.1.f2)
            | go_in
          exact ⟨⟨i + 1, _, _, by go_num, him, by unfold Hid; rw [E.out.1, E.out.2]; exact M6.out.2⟩, by simp [intOf]; omega⟩
    · have hii : ¬ (i : Int) < (m : Int) := by omega
      obtain rfl : i = m := by omega
      obtain ⟨⟨s0, s1, s2, s3, s4, s5, _, _, gw, _⟩, oL, oH, _⟩ := X.out
      obtain ⟨⟨q0, q1, q2, q3, q4, q5⟩, qf⟩ := reg0 (gb_trans OI.out.2 gw)
      have f0 := qf 0 (by omega)
      have f1 := qf 1 (by omega)
      have f2 := qf 2 (by omega)
      have f3 := qf 3 (by omega)
      have f4 := qf 4 (by omega)
      have f5 := qf 5 (by omega)
      clear qf
      have hB : w.heap.size ≤ w.heap.size := Nat.le_refl _
      have z1 : w.heap.size + 1 ≤ w2.heap.size := by have := OI.out.2.size; rwa [World.size_alloc] at this
      have hne : w2.heap.size ≠ w.heap.size := by omega
      have GG := gb_trans GW gw
      obtain ⟨nl, pv, cv, ev⟩ : ∃ nl pv cv, vl = .slice pv nl cv := by obtain ⟨pv, cv, ev, _⟩ := oL.rd; exact ⟨_, pv, cv, ev⟩
      subst ev
      obtain ⟨nh, qv, dv, ev⟩ : ∃ nl pv cv, vh = .slice pv nl cv := by obtain ⟨pv, cv, ev, _⟩ := oH.rd; exact ⟨_, pv, cv, ev⟩
      subst ev
      have O5 : Own wr (w.heap.size + 1) (.slice pi ni ci) (srt (idsOf rs)) := OI.out.1.gb gw
      have FIN : Hid (Own wr (w.heap.size + 1) (.slice pi ni ci) (srt (idsOf rs)) ∧ Own wr (w.heap.size + 1) (.slice pv nl cv) (boxL rs i) ∧ Own wr (w.heap.size + 1) (.slice qv nh dv) (boxH rs i) ∧ Gb w wr) := ⟨O5, oL.mono (by omega), oH.mono (by omega), GG⟩
      clear O5 oL oH X
      go_wp2
      refine bodyPost_ret (v := .tuple #[.agg #[.int .i64 2, .slice pv nl cv, .slice qv nh dv, .int .u64 0, .int .u64 0, .slice pi ni ci], .int .i64 0]) (by simp [results, Try.results9, go_sem, q0, q1, q2, q3, q4, q5]) rfl ?_
      obtain ⟨O5, oL, oH, GG⟩ := FIN.out
      have GF := gb_set (gb_set (gb_set (gb_set (gb_set (gb_set GG hB (.int .i64 2) (p := ⟨w.heap.size, 0, none⟩)) hB (.slice pv nl cv) (p := ⟨w.heap.size, 1, none⟩)) hB (.slice qv nh dv) (p := ⟨w.heap.size, 2, none⟩)) hB (.int .u64 0) (p := ⟨w.heap.size, 3, none⟩)) hB (.int .u64 0) (p := ⟨w.heap.size, 4, none⟩)) hB (.slice pi ni ci) (p := ⟨w.heap.size, 5, none⟩)
      have OF : ∀ (v : Value) (l : List Int), Own wr (w.heap.size + 1) v l → Own ((((((wr.setCell ⟨w.heap.size, 0, none⟩ (.int .i64 2)).setCell ⟨w.heap.size, 1, none⟩ (.slice pv nl cv)).setCell ⟨w.heap.size, 2, none⟩ (.slice qv nh dv)).setCell ⟨w.heap.size, 3, none⟩ (.int .u64 0)).setCell ⟨w.heap.size, 4, none⟩ (.int .u64 0)).setCell ⟨w.heap.size, 5, none⟩ (.slice pi ni ci)) (w.heap.size + 1) v l := fun v l h => by
        have hnb := own_b h
        exact ownsRow_setCell_other (ownsRow_setCell_other (ownsRow_setCell_other (ownsRow_setCell_other (ownsRow_setCell_other (ownsRow_setCell_other h hnb _) hnb _) hnb _) hnb _) hnb _) hnb _
      exact ⟨_, rfl, ⟨_, _, _, rv_two _ _ _ _ _ _, (OF _ _ oL).rd, (OF _ _ oH).rd, (OF _ _ O5).rd⟩, GF⟩
theorem rbox_c {w : World} {v : Value} {rs : List Rw} (h : RdW w v rs) (d : Int) (hn : rs.length ≤ 2000) :
    Calls Try.prog 9 #[v, .int .i64 d] w fun e w' => ∃ x, e = .returned (.tuple #[x, .int .i64 (boxE rs d)]) ∧ RdR w' x (boxR rs d) ∧ Gb w w' := by
  by_cases hok : boxE rs d = 0
  · exact rbox_yes h d hn hok
  · exact rbox_no h d (by omega) hok
end Go.Proofs.Ytbkjelbnbgcbbaa
