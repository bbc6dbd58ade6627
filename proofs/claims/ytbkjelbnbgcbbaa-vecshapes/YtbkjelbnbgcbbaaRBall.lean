/- The reference's Ball. -/
import Derived.Test.YtbkjelbnbgcbbaaRRows
import Derived.Test.YtbkjelbnbgcbbaaBall
import Derived.Test.YtbkjelbnbgcbbaaFar
import Derived.Test.YtbkjelbnbgcbbaaRRoot
namespace Go.Proofs.Ytbkjelbnbgcbbaa
open Go.RowKit Go.Sort Go.Maps

theorem rdr_zero (W : World) : RdR W (.agg #[.int .i64 0, .slice none 0 0, .slice none 0 0, .int .u64 0, .int .u64 0, .slice none 0 0]) ⟨0, [], [], 0, []⟩ :=
  ⟨.slice none 0 0, .slice none 0 0, .slice none 0 0, rfl, rdi_nil _, rdi_nil _, rdi_nil _⟩
/-- The region that is made, in block b. -/
structure RbSt (w W : World) (b : Nat) (u vi : Value) (s : Nat) : Prop where
  c0 : W.cell? ⟨b, 0, none⟩ = some (.int .i64 3)
  c1 : W.cell? ⟨b, 1, none⟩ = some u
  c2 : W.cell? ⟨b, 2, none⟩ = some (.slice none 0 0)
  c3 : W.cell? ⟨b, 3, none⟩ = some (.int .u64 (hi s))
  c4 : W.cell? ⟨b, 4, none⟩ = some (.int .u64 (lo s))
  c5 : W.cell? ⟨b, 5, none⟩ = some vi
  f3 : W.frozen? ⟨b, 3, none⟩ = false
  f4 : W.frozen? ⟨b, 4, none⟩ = false
  gb : Gb w W
  hb : w.heap.size ≤ b
theorem RbSt.gr {w W W' : World} {b s : Nat} {u vi : Value} (h : RbSt w W b u vi s) (g : Gr W W') : RbSt w W' b u vi s :=
  ⟨g.keeps h.c0, g.keeps h.c1, g.keeps h.c2, g.keeps h.c3, g.keeps h.c4, g.keeps h.c5, (g.froz _).trans h.f3, (g.froz _).trans h.f4, gb_trans h.gb g.gb, h.hb⟩
theorem RbSt.set {w W : World} {b s : Nat} {u vi : Value} (h : RbSt w W b u vi s) (t : Nat) : RbSt w ((W.setCell ⟨b, 3, none⟩ (.int .u64 (hi t))).setCell ⟨b, 4, none⟩ (.int .u64 (lo t))) b u vi t := by
  obtain ⟨c0, c1, c2, c3, c4, c5, f3, f4, g, hb⟩ := h
  exact ⟨by simp [go_sem, c0], by simp [go_sem, c1], by simp [go_sem, c2], by simp [go_sem, c3], by simp [go_sem, c4], by simp [go_sem, c5], by simp [go_sem, f3], by simp [go_sem, f4], gb_set (gb_set g hb _) hb _, hb⟩

set_option maxHeartbeats 4000000 in
set_option maxRecDepth 100000 in
theorem rball_no {w : World} {u v : Value} {c : List Int} {rs : List Rw} (hu : RdI w u c) (h : RdW w v rs) (hlen : rs.length ≤ 4611686018427387904) (hne : ballE c rs ≠ 0) :
    Calls Try.prog 10 #[u, v] w fun e w' => ∃ x, e = .returned (.tuple #[x, .int .i64 (ballE c rs)]) ∧ RdR w' x (ballR c rs) ∧ Gb w w' := by
  have ER : ballR c rs = ⟨0, [], [], 0, []⟩ := by unfold ballR; rw [if_neg hne]
  rw [ER]
  have E : Hid (ballE c rs = if chk c c.length = 0 then idsE rs c.length else chk c c.length) := rfl
  have G0 : Gr w (w.alloc z36) := (Gr.refl _).alloc _ _
  have C15 := fun r hr => rcheck_v (hu.gb G0.gb) (c.length : Int) r hr
  have C52 := rrows_c (h.gb G0.gb) (c.length : Int) hlen
  obtain ⟨pc, cc, rfl, _⟩ := hu
  obtain ⟨a, cap, rfl, _⟩ := h
  generalize ballE c rs = be at *
  have hne' : (be == 0) = false := by rw [beq_eq_false_iff_ne]; exact hne
  by_cases h0 : chk c c.length = 0
  · rw [if_pos h0] at E
    have c15 := C15 _ h0
    rw [← E.out] at C52
    generalize rs.length = n at *
    generalize c.length = m at *
    clear E h0 C15 hlen ER
    go_enter Try.func10, Try.ntmps10
    go_wp2_with fail
    refine c15.mono ?_
    rintro e w' ⟨rfl, e2⟩
    subst e2
    go_wp2_with fail
    refine C52.mono ?_
    rintro e w1 ⟨rfl, g1⟩
    obtain ⟨⟨q0, q1, q2, q3, q4, q5⟩, qf⟩ := reg0 g1.gb
    have f0 := qf 0 (by omega)
    have f1 := qf 1 (by omega)
    have f2 := qf 2 (by omega)
    have f3 := qf 3 (by omega)
    have f4 := qf 4 (by omega)
    have f5 := qf 5 (by omega)
    clear qf
    have hB : w.heap.size ≤ w.heap.size := Nat.le_refl _
    have GG := gb_trans G0.gb g1.gb
    go_wp2
    exact bodyPost_ret (v := .tuple #[.agg #[.int .i64 0, .slice none 0 0, .slice none 0 0, .int .u64 0, .int .u64 0, .slice none 0 0], .int .i64 be]) (by simp [results, Try.results10, go_sem, q0, q1, q2, q3, q4, q5]) rfl ⟨_, rfl, rdr_zero _, gb_set (gb_set (gb_set (gb_set (gb_set (gb_set GG hB _) hB _) hB _) hB _) hB _) hB _⟩
  · rw [if_neg h0] at E
    have c15 := C15 be E.out.symm
    generalize rs.length = n at *
    generalize c.length = m at *
    clear E h0 C15 hlen ER C52
    go_enter Try.func10, Try.ntmps10
    go_wp2_with fail
    refine c15.mono ?_
    rintro e w' ⟨rfl, e2⟩
    subst e2
    go_wp2
    exact bodyPost_ret (v := .tuple #[.agg #[.int .i64 0, .slice none 0 0, .slice none 0 0, .int .u64 0, .int .u64 0, .slice none 0 0], .int .i64 be]) (by simp [results, Try.results10, go_sem]) rfl ⟨_, rfl, rdr_zero _, G0.gb⟩

set_option maxHeartbeats 4000000 in
set_option maxRecDepth 100000 in
theorem rball_yes {w : World} {u v : Value} {c : List Int} {rs : List Rw} (hu : RdI w u c) (h : RdW w v rs) (hn : rs.length ≤ 2000) (hok : ballE c rs = 0) :
    Calls Try.prog 10 #[u, v] w fun e w' => ∃ x, e = .returned (.tuple #[x, .int .i64 (ballE c rs)]) ∧ RdR w' x (ballR c rs) ∧ Gb w w' := by
  have ER : ballR c rs = ⟨3, c, [], radN c rs rs.length, srt (idsOf rs)⟩ := by unfold ballR; rw [if_pos hok]
  rw [ER, hok]
  obtain ⟨ce, ie⟩ := ballE_ok hok
  obtain ⟨r2, rok⟩ := idsE_ok ie
  obtain ⟨c1, c2, _, c4⟩ := chk_ok ce
  have G0 : Gr w (w.alloc z36) := (Gr.refl _).alloc _ _
  have C15 := rcheck_v (hu.gb G0.gb) (c.length : Int) 0 ce
  have C52 := rrows_c (h.gb G0.gb) (c.length : Int) (by omega)
  rw [ie] at C52
  have C53 := fun W (g : Gb w W) => rIds_c (h.gb g) hn
  have VL : Hid (∀ i, i < rs.length → rs[i]!.2.length = c.length ∧ allR rs[i]!.2 = true) := by
    intro i hi
    have := chk_ok (rok i hi).1
    exact ⟨by omega, this.2.2.2⟩
  have U : Hid (RdI w u c) := hu
  have DL : Hid (∀ i, i < rs.length → dst c rs[i]!.2 < 340282366920938463463374607431768211456) := fun i hi => dst_lt c4 (VL.out i hi).2 (VL.out i hi).1.symm c2
  have RL : Hid (∀ k, k ≤ rs.length → radN c rs k < 340282366920938463463374607431768211456) := by
    intro k
    induction k with
    | zero => intro _; simp [radN]
    | succ k ih =>
      intro hk
      rw [radN]
      split
      · exact DL.out k (by omega)
      · exact ih (by omega)
  have C35 : Hid (∀ i, i < rs.length → ∀ W' uv, Gb w W' → RdI W' uv rs[i]!.2 → Calls Try.prog 24 #[u, uv] W' fun e w' => e = .returned (Wd (dst c rs[i]!.2)) ∧ Gr W' w') := by
    intro i hi W' uv g hr
    exact far_c (hu.gb g) hr (VL.out i hi).1.symm c2 c4 (VL.out i hi).2
  obtain ⟨pc, cc, rfl, _⟩ := hu
  obtain ⟨a, cap, rfl, ha⟩ := h
  have A : Hid (∀ i, i < rs.length → ∃ b o u, a = some ⟨b, o, none⟩ ∧ w.cell? ⟨b, o + i * 2, none⟩ = some (.int .i64 rs[i]!.1) ∧ w.cell? ⟨b, o + i * 2 + 1, none⟩ = some u ∧ RdI w u rs[i]!.2) := ha
  obtain ⟨n, hN⟩ : ∃ n, n = rs.length := ⟨_, rfl⟩
  have N : Hid (n = rs.length) := hN
  rw [← hN] at C52 C53 r2 ⊢
  obtain ⟨m, hm⟩ : ∃ m, m = c.length := ⟨_, rfl⟩
  have M : Hid (m = c.length) := hm
  rw [← hm] at C52 C15 ⊢
  simp only [← hm] at C35 U
  clear hok ER rok ha hN ie ce c1 c2 c4 hm hn
  go_enter Try.func10, Try.ntmps10
  go_wp2_with fail
  refine C15.mono ?_
  rintro e w' ⟨rfl, e2⟩
  subst e2
  go_wp2_with fail
  refine C52.mono ?_
  rintro e w1 ⟨rfl, g1⟩
  go_wp2_with fail
  refine (C53 _ (gb_trans G0.gb g1.gb)).mono ?_
  rintro e w2 ⟨vi, rfl, oi, g2⟩
  obtain ⟨pi, ci, ei, _⟩ := oi.rd
  subst ei
  generalize (srt (idsOf rs)).length = ni at *
  have S0 : Hid (RbSt w2 (w2.alloc (.cells #[.int .i64 3, .slice pc m cc, .slice none 0 0, .int .u64 0, .int .u64 0, .slice pi ni ci] 31)) w2.heap.size (.slice pc m cc) (.slice pi ni ci) 0) :=
    ⟨by simp [go_sem], by simp [go_sem], by simp [go_sem], by simp [go_sem, hi], by simp [go_sem, lo], by simp [go_sem], by simp [go_sem], by simp [go_sem], gb_alloc (Below.refl _ _) _, Nat.le_refl _⟩
  have OI : Hid (Own w2 (w.heap.size + 1) (.slice pi ni ci) (srt (idsOf rs)) ∧ Gb (w.alloc z36) w2) := ⟨oi.mono (by have := g1.gb.size; rwa [World.size_alloc] at this), gb_trans g1.gb g2⟩
  have GW : Gb w w2 := gb_trans G0.gb OI.out.2
  clear oi g1 g2 C15 C52 C53
  go_wp2_with fail
  go_loopw [8] (fun iv w' => ∃ k s : Nat, iv = .int .i64 (k : Int) ∧ k ≤ n ∧ Hid (s = radN c rs k) ∧ Hid (RbSt w2 w' w2.heap.size (.slice pc m cc) (.slice pi ni ci) s)) (fun iv _ => n - (intOf iv).toNat)
  case atStart => exact ⟨0, 0, rfl, Nat.zero_le _, rfl, S0⟩
  case round =>
    clear S0
    obtain ⟨k, s, rfl, hk, X, Y⟩ := hrel
    by_cases hkn : k < n
    · have hki : (k : Int) < (n : Int) := by omega
      have hkl : k < rs.length := by have := N.out; omega
      obtain ⟨b, o, uk, ea, y0, y1, y2⟩ := A.out k hkl
      subst ea
      have GY := gb_trans GW Y.out.gb
      clear y0
      have y1 := gb_keeps GY y1
      have y2 := y2.gb GY
      have C := C35.out k hkl wr uk GY y2
      have RX : Hid (radN c rs (k + 1) = if radN c rs k < dst c rs[k]!.2 then dst c rs[k]!.2 else radN c rs k) := rfl
      have hs : s < 340282366920938463463374607431768211456 := by rw [X.out]; exact RL.out k (by omega)
      have hd : dst c rs[k]!.2 < 340282366920938463463374607431768211456 := DL.out k hkl
      obtain ⟨pk, ck, ek, _⟩ := y2
      subst ek
      generalize dst c rs[k]!.2 = dk at *
      generalize rs[k]!.2.length = nk at *
      clear hkl
      go_wp2_with fail
      refine C.mono ?_
      rintro e w4 ⟨rfl, g4⟩
      have Y4 : Hid (RbSt w2 (w4.alloc (.cells #[.int .u64 (hi dk), .int .u64 (lo dk)] 29)) w2.heap.size (.slice pc m cc) (.slice pi ni ci) s ∧ At2 (w4.alloc (.cells #[.int .u64 (hi dk), .int .u64 (lo dk)] 29)) w4.heap.size dk ∧ w2.heap.size < w4.heap.size) := by
        have h1 := Y.out.gr g4
        exact ⟨h1.gr ((Gr.refl _).alloc _ _), At2.new w4 dk 29, World.block_lt_of_cell? w4 _ h1.c0⟩
      have c3 := Y4.out.1.c3
      have c4 := Y4.out.1.c4
      clear C y1 GY g4 Y
      by_cases hlt : s < dk
      · have R : Hid (dk = radN c rs (k + 1)) := by
          have h1 := RX.out
          rw [← X.out, if_pos hlt] at h1; exact h1.symm
        go_wp2_with fail
        refine (rless_v s dk hs hd true (decide_eq_true hlt) _).mono ?_
        rintro e w5 ⟨rfl, g5⟩
        have Y5 : Hid (RbSt w2 w5 w2.heap.size (.slice pc m cc) (.slice pi ni ci) s) := Y4.out.1.gr g5
        have A5 := Y4.out.2.1.gr g5
        obtain ⟨d0, d1, _, _⟩ := A5
        have c3 := Y5.out.c3
        have c4 := Y5.out.c4
        have f3 := Y5.out.f3
        have f4 := Y5.out.f4
        go_wp2
        refine ⟨⟨k + 1, dk, by go_num, hkn, R, Y5.out.set dk⟩, by simp [intOf]; omega⟩
      · have R : Hid (s = radN c rs (k + 1)) := by
          have h1 := RX.out
          rw [← X.out, if_neg hlt] at h1; exact h1.symm
        go_wp2_with fail
        refine (rless_v s dk hs hd false (decide_eq_false hlt) _).mono ?_
        rintro e w5 ⟨rfl, g5⟩
        have Y5 : Hid (RbSt w2 w5 w2.heap.size (.slice pc m cc) (.slice pi ni ci) s) := Y4.out.1.gr g5
        go_wp2
        refine ⟨⟨k + 1, s, by go_num, hkn, R, Y5⟩, by simp [intOf]; omega⟩
    · have hki : ¬ (k : Int) < (n : Int) := by omega
      have E : Hid (s = radN c rs rs.length) := by
        have h1 := X.out
        rw [show k = rs.length by have := N.out; omega] at h1; exact h1
      obtain ⟨s0, s1, s2, s3, s4, s5, _, _, gw, _⟩ := Y.out
      obtain ⟨⟨q0, q1, q2, q3, q4, q5⟩, qf⟩ := reg0 (gb_trans OI.out.2 gw)
      have f0 := qf 0 (by omega)
      have f1 := qf 1 (by omega)
      have f2 := qf 2 (by omega)
      have f3 := qf 3 (by omega)
      have f4 := qf 4 (by omega)
      have f5 := qf 5 (by omega)
      clear qf
      have hB : w.heap.size ≤ w.heap.size := Nat.le_refl _
      have z1 : w.heap.size + 1 ≤ w2.heap.size := by have := OI.out.2.size; rwa [World.size_alloc] at this
      have hne : w2.heap.size ≠ w.heap.size := by omega
      have GG := gb_trans GW gw
      have O5 : Own wr (w.heap.size + 1) (.slice pi ni ci) (srt (idsOf rs)) := OI.out.1.gb gw
      have hnb : (Value.slice pi ni ci).ownBlock ≠ some w.heap.size := fun e => by have := (World.ownsRow.lt O5 _ e).1; omega
      have FIN : Hid (Own wr (w.heap.size + 1) (.slice pi ni ci) (srt (idsOf rs)) ∧ (Value.slice pi ni ci).ownBlock ≠ some w.heap.size ∧ Gb w wr) := ⟨O5, hnb, GG⟩
      clear O5 hnb X Y
      go_wp2
      refine bodyPost_ret (v := .tuple #[.agg #[.int .i64 3, .slice pc m cc, .slice none 0 0, .int .u64 (hi s), .int .u64 (lo s), .slice pi ni ci], .int .i64 0]) (by simp [results, Try.results10, go_sem, q0, q1, q2, q3, q4, q5]) rfl ?_
      obtain ⟨O5, hnb, GG⟩ := FIN.out
      have GF := gb_set (gb_set (gb_set (gb_set (gb_set (gb_set GG hB (.int .i64 3) (p := ⟨w.heap.size, 0, none⟩)) hB (.slice pc m cc) (p := ⟨w.heap.size, 1, none⟩)) hB (.slice none 0 0) (p := ⟨w.heap.size, 2, none⟩)) hB (.int .u64 (hi s)) (p := ⟨w.heap.size, 3, none⟩)) hB (.int .u64 (lo s)) (p := ⟨w.heap.size, 4, none⟩)) hB (.slice pi ni ci) (p := ⟨w.heap.size, 5, none⟩)
      have OF := ownsRow_setCell_other (ownsRow_setCell_other (ownsRow_setCell_other (ownsRow_setCell_other (ownsRow_setCell_other (ownsRow_setCell_other O5 hnb (.int .i64 3) (a := ⟨w.heap.size, 0, none⟩)) hnb (.slice pc m cc) (a := ⟨w.heap.size, 1, none⟩)) hnb (.slice none 0 0) (a := ⟨w.heap.size, 2, none⟩)) hnb (.int .u64 (hi s)) (a := ⟨w.heap.size, 3, none⟩)) hnb (.int .u64 (lo s)) (a := ⟨w.heap.size, 4, none⟩)) hnb (.slice pi ni ci) (a := ⟨w.heap.size, 5, none⟩)
      refine ⟨_, rfl, ⟨_, _, _, by rw [N.out, ← E.out], ?_, rdi_nil _, ?_⟩, GF⟩
      · exact U.out.gb GF
      · exact Own.rd OF
theorem rball_c {w : World} {u v : Value} {c : List Int} {rs : List Rw} (hu : RdI w u c) (h : RdW w v rs) (hn : rs.length ≤ 2000) :
    Calls Try.prog 10 #[u, v] w fun e w' => ∃ x, e = .returned (.tuple #[x, .int .i64 (ballE c rs)]) ∧ RdR w' x (ballR c rs) ∧ Gb w w' := by
  by_cases hok : ballE c rs = 0
  · exact rball_yes hu h hn hok
  · exact rball_no hu h (by omega) hok
end Go.Proofs.Ytbkjelbnbgcbbaa
