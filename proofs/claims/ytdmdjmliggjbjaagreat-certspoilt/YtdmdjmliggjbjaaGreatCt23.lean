import Derived.Test.YtdmdjmliggjbjaaGreatCt15
import Derived.Test.YtdmdjmliggjbjaaGreatCt22
import Derived.Test.YtdmdjmliggjbjaaGreatCt18
/- The reference's region: one whose rows lie in it. -/
namespace Go.Proofs.YtdmdjmliggjbjaaGreat
open Go.RowKit Go.Sort

theorem ckB_of {r : Reg} {a : List Int} {d : Int} (h : ckR r d = 0) (ha : chk a d = 0) : ckB r a = 0 := by
  have e : (a.length : Int) = d := (chk_ok ha).2.2.1.symm
  unfold ckB
  rw [e, if_pos h, ha]
theorem rin_v {w : World} {v u : Value} {r : Reg} {a : List Int} (hv : RdR w v r) (hu : RdI w u a) (h0 : ckB r a = 0) (hR : r.R < 340282366920938463463374607431768211456) (h : inV r a = true) :
    Calls Tryz.prog 70 #[v, u] w fun e w' => e = .returned (.bool true) ∧ Gr w w' := by
  have := rin_c hv hu h0 hR
  rw [h] at this
  exact this
set_option maxRecDepth 100000 in
set_option maxHeartbeats 2000000 in
theorem rregion_c {w : World} {v u : Value} {rs : List Rw} {r : Reg} (hv : RdW w v rs) (hu : RdR w u r) (hlen : rs.length ≤ 4611686018427387904) (hI : r.I.length ≤ 4611686018427387904) (d : Int) (h0 : ckR r d = 0) (hne : r.I ≠ []) (hR : r.R < 340282366920938463463374607431768211456)
    (hrow : ∀ row ∈ rs, chk row.2 d = 0) (hin : ∀ x ∈ r.I, ∃ row ∈ rs, row.1 = x) (hin2 : ∀ row ∈ rs, row.1 ∈ r.I → inV r row.2 = true) :
    Calls Tryz.prog 48 #[v, u, .int .i64 d] w fun e w' => e = .returned (.bool true) ∧ Gb w w' := by
  have V : Hid (RdW w v rs) := hv
  have U : Hid (RdR w u r) := hu
  have R0 : Hid (ckR r d = 0 ∧ r.R < 340282366920938463463374607431768211456) := ⟨h0, hR⟩
  have RW : Hid (∀ row ∈ rs, chk row.2 d = 0) := hrow
  have IN : Hid (∀ x ∈ r.I, ∃ row ∈ rs, row.1 = x) := hin
  have IN2 : Hid (∀ row ∈ rs, row.1 ∈ r.I → inV r row.2 = true) := hin2
  have LN : Hid (rs.length ≤ 4611686018427387904) := hlen
  obtain ⟨vl, vh, vi, rfl, hL, hH, hI'⟩ := hu
  obtain ⟨W1, hW1⟩ : ∃ W1, W1 = w.alloc (rc r vl vh vi) := ⟨_, rfl⟩
  have G0 : Gb w W1 := by rw [hW1]; exact gb_alloc (Below.refl _ _) _
  have RA : Hid (RegAt W1 w.heap.size r vl vh vi) := by rw [hW1]; exact RegAt.new w r vl vh vi
  have ck := rckR_v (U.out.gb G0) hI d 0 h0
  obtain ⟨av, cv, rfl, _⟩ := hv
  obtain ⟨pi, ci, rfl, aI⟩ := hI'
  have AI : Hid (∀ i, i < r.I.length → ∃ b o, pi = some ⟨b, o, none⟩ ∧ w.cell? ⟨b, o + i, none⟩ = some (.int .i64 r.I[i]!)) := aI
  obtain ⟨n, hn⟩ : ∃ n, n = rs.length := ⟨_, rfl⟩
  obtain ⟨m, hm⟩ : ∃ m, m = r.I.length := ⟨_, rfl⟩
  have M : Hid (m = r.I.length) := hm
  have N : Hid (n = rs.length) := hn
  have hm0 : 0 < m := by rw [hm]; exact List.length_pos_iff.2 hne
  have hm1 : ((m : Int) == 0) = false := by rw [beq_eq_false_iff_ne]; omega
  have hm2 : ¬ (m : Int) = 0 := by omega
  have hml : m ≤ 4611686018427387904 := by omega
  rw [← hn] at V ⊢
  rw [← hm] at U RA ck hW1 ⊢
  clear hn hm aI h0 hR hrow hin hin2 hlen hI hne hL hH
  obtain ⟨S, L, H, R, I⟩ := r
  dsimp only at *
  go_enter Tryz.func48, Tryz.ntmps48
  go_wp2_with fail
  rw [← hW1]
  obtain ⟨q0, q1, q2, q3, q4, q5⟩ := RA.out
  dsimp only at q0 q1 q2 q3 q4 q5
  go_wp2_with fail
  refine ck.mono ?_
  rintro e w2 ⟨rfl, g2⟩
  have G2 : Hid (Gb W1 w2) := g2.gb
  clear ck q0 q1 q2 q3 q4 q5 g2
  obtain ⟨q0, q1, q2, q3, q4, q5⟩ := RA.out.gb G2.out
  dsimp only at q0 q1 q2 q3 q4 q5
  go_wp2
  clear q0 q1 q2 q3 q4 q5
  have GW : Hid (Gb w W1) := G0
  clear G0 hW1
  go_loopw [7] (fun iv W => ∃ p : Nat, iv = .int .i64 (p : Int) ∧ p ≤ m ∧ Hid (Gb W1 W)) (fun iv _ => m - (intOf iv).toNat)
  case atStart => exact ⟨0, rfl, Nat.zero_le _, G2⟩
  case round =>
    obtain ⟨p, rfl, hp, X⟩ := hrel
    obtain ⟨q0, q1, q2, q3, q4, q5⟩ := RA.out.gb X.out
    dsimp only at q0 q1 q2 q3 q4 q5
    by_cases hpm : p < m
    · have hpi : (p : Int) < (m : Int) := by omega
      have hpl : p < I.length := by have := M.out; omega
      obtain ⟨bi, oi, ei, ci'⟩ := AI.out p hpl
      subst ei
      have GX0 : Hid (Gb w wr) := gb_trans GW.out X.out
      have hc := gb_keeps GX0.out ci'
      have cf := rfind_c (V.out.gb GX0.out) LN.out I[p]!
      have MEM : Hid (I[p]! ∈ I) := by unfold Hid; rw [getElem!_pos I p hpl]; exact List.getElem_mem hpl
      clear ci'
      generalize hx : I[p]! = x at hc cf
      have HX : Hid (x ∈ I) := by unfold Hid; rw [← hx]; exact MEM.out
      clear hx MEM hpl
      go_wp2_with fail
      refine cf.mono ?_
      rintro e w3 ⟨⟨z, rfl, hz⟩, e3⟩
      subst e3
      clear cf
      obtain ⟨i, hzi, hil, hix⟩ : ∃ i : Nat, z = (i : Int) ∧ i < rs.length ∧ rs[i]!.1 = x := by
        rcases hz with ⟨_, h⟩ | h
        · obtain ⟨row, hr, e⟩ := IN.out x HX.out
          obtain ⟨j, hj, e2⟩ := List.mem_iff_getElem.1 hr
          exact absurd (by rw [getElem!_pos rs j hj, e2]; exact e) (h j hj)
        · exact h
      subst hzi
      clear hz
      have hir : rs[i]! ∈ rs := by rw [getElem!_pos rs i hil]; exact List.getElem_mem hil
      obtain ⟨_, _, ev, hA⟩ := V.out
      obtain ⟨b, o, ur, ea, _, k2, k3⟩ := hA i hil
      injection ev with ev1 ev2 ev3
      subst ev1
      subst ea
      clear hA ev2 ev3
      have CB : Hid (ckB ⟨S, L, H, R, I⟩ rs[i]!.2 = 0) := ckB_of R0.out.1 (RW.out _ hir)
      have IV : Hid (inV ⟨S, L, H, R, I⟩ rs[i]!.2 = true) := IN2.out _ hir (by rw [hix]; exact HX.out)
      have GX : Hid (Gb w wr.drew) := GX0.out.drew
      have cin := fun W (g : Gb w W) => rin_v (U.out.gb g) (k3.gb g) CB.out R0.out.2 IV.out
      obtain ⟨pr', cr, eu, _⟩ := k3
      subst eu
      have FS0 : RegAt wr.drew w.heap.size ⟨S, L, H, R, I⟩ vl vh (.slice (some ⟨bi, oi, none⟩) m ci) ∧ wr.drew.cell? ⟨b, o + i * 2 + 1, none⟩ = some (.slice pr' rs[i]!.2.length cr) := ⟨RA.out.gb X.out.drew, gb_keeps GX0.out k2⟩
      generalize rs[i]!.2.length = nr at *
      generalize hur : Value.slice pr' nr cr = ur at *
      have hin' : i < n := by have := N.out; omega
      have hii : (i : Int) < (n : Int) := by omega
      have hi0 : decide ((i : Int) < 0) = false := by rw [decide_eq_false_iff_not]; omega
      have hi1 : ¬ (i : Int) < 0 := by omega
      clear k2 hir hix hil q0 q1 q2 q3 q4 q5 hc
      go_wp2_with fail
      refine wp_region_held_drew (S := fun W => RegAt W w.heap.size ⟨S, L, H, R, I⟩ vl vh (.slice (some ⟨bi, oi, none⟩) m ci) ∧ W.cell? ⟨b, o + i * 2 + 1, none⟩ = some ur) (by kernel_rfl) (FS0) (fun hHeld => ?_)
      refine wpAnyH_take (i := 0) (v := ?_) rfl (by kernel_rfl) (by kernel_rfl) (by kernel_rfl) (fun _ _ _ h => h) (Or.inl ⟨by rfl, ?_⟩) (by assumption) ?_
      rotate_left 1
      · (intro w hSw; (obtain ⟨⟨s0, s1, s2, s3, s4, s5⟩, s6⟩ := hSw); go_simp; try with_reducible rfl)
      try simp only [Act.put, List.getElem_toArray, List.getElem_cons_zero, List.setIfInBounds_toArray, List.set_cons_zero, List.set_cons_succ]
      refine wpAnyH_take (i := 1) (v := ?_) rfl (by kernel_rfl) (by kernel_rfl) (by kernel_rfl) (fun _ _ _ h => h) (Or.inl ⟨by rfl, ?_⟩) (by assumption) ?_
      rotate_left 1
      · (intro w hSw; (obtain ⟨⟨s0, s1, s2, s3, s4, s5⟩, s6⟩ := hSw); go_simp; try with_reducible rfl)
      try simp only [Act.put, List.getElem_toArray, List.getElem_cons_zero, List.getElem_cons_succ, List.setIfInBounds_toArray, List.set_cons_zero, List.set_cons_succ]
      refine wpAnyH_take (i := 2) (v := ?_) rfl (by kernel_rfl) (by kernel_rfl) (by kernel_rfl) (fun _ _ _ h => h) (Or.inl ⟨by rfl, ?_⟩) (by assumption) ?_
      rotate_left 1
      · (intro w hSw; (obtain ⟨⟨s0, s1, s2, s3, s4, s5⟩, s6⟩ := hSw); go_simp; try with_reducible rfl)
      try simp only [Act.put, List.getElem_toArray, List.getElem_cons_zero, List.getElem_cons_succ, List.setIfInBounds_toArray, List.set_cons_zero, List.set_cons_succ]
      refine wpAnyH_take (i := 3) (v := ?_) rfl (by kernel_rfl) (by kernel_rfl) (by kernel_rfl) (fun _ _ _ h => h) (Or.inl ⟨by rfl, ?_⟩) (by assumption) ?_
      rotate_left 1
      · (intro w hSw; (obtain ⟨⟨s0, s1, s2, s3, s4, s5⟩, s6⟩ := hSw); go_simp; try with_reducible rfl)
      try simp only [Act.put, List.getElem_toArray, List.getElem_cons_zero, List.getElem_cons_succ, List.setIfInBounds_toArray, List.set_cons_zero, List.set_cons_succ]
      refine wpAnyH_take (i := 4) (v := ?_) rfl (by kernel_rfl) (by kernel_rfl) (by kernel_rfl) (fun _ _ _ h => h) (Or.inl ⟨by rfl, ?_⟩) (by assumption) ?_
      rotate_left 1
      · (intro w hSw; (obtain ⟨⟨s0, s1, s2, s3, s4, s5⟩, s6⟩ := hSw); go_simp; try with_reducible rfl)
      try simp only [Act.put, List.getElem_toArray, List.getElem_cons_zero, List.getElem_cons_succ, List.setIfInBounds_toArray, List.set_cons_zero, List.set_cons_succ]
      refine wpAnyH_take (i := 5) (v := ?_) rfl (by kernel_rfl) (by kernel_rfl) (by kernel_rfl) (fun _ _ _ h => h) (Or.inl ⟨by rfl, ?_⟩) (by assumption) ?_
      rotate_left 1
      · (intro w hSw; (obtain ⟨⟨s0, s1, s2, s3, s4, s5⟩, s6⟩ := hSw); go_simp; try with_reducible rfl)
      try simp only [Act.put, List.getElem_toArray, List.getElem_cons_zero, List.getElem_cons_succ, List.setIfInBounds_toArray, List.set_cons_zero, List.set_cons_succ]
      refine wpAnyH_take (i := 6) (v := ?_) rfl (by kernel_rfl) (by kernel_rfl) (by kernel_rfl) (fun _ _ _ h => h) (Or.inl ⟨by rfl, ?_⟩) (by assumption) ?_
      rotate_left 1
      · (intro w hSw; (obtain ⟨⟨s0, s1, s2, s3, s4, s5⟩, s6⟩ := hSw); go_simp; try with_reducible rfl)
      try simp only [Act.put, List.getElem_toArray, List.getElem_cons_zero, List.getElem_cons_succ, List.setIfInBounds_toArray, List.set_cons_zero, List.set_cons_succ]
      refine wpAnyH_take (i := 7) (v := ?_) rfl (by kernel_rfl) (by kernel_rfl) (by kernel_rfl) (fun _ _ _ h => h) (Or.inl ⟨by rfl, ?_⟩) (by assumption) ?_
      rotate_left 1
      · (intro w hSw; (obtain ⟨⟨s0, s1, s2, s3, s4, s5⟩, s6⟩ := hSw); go_simp; try with_reducible rfl)
      try simp only [Act.put, List.getElem_toArray, List.getElem_cons_zero, List.getElem_cons_succ, List.setIfInBounds_toArray, List.set_cons_zero, List.set_cons_succ]
      refine wpAnyH_take (i := 8) (v := ?_) rfl (by kernel_rfl) (by kernel_rfl) (by kernel_rfl) (fun _ _ _ h => h) (Or.inl ⟨by rfl, ?_⟩) (by assumption) ?_
      rotate_left 1
      · (intro w hSw; (obtain ⟨⟨s0, s1, s2, s3, s4, s5⟩, s6⟩ := hSw); go_simp; try with_reducible rfl)
      try simp only [Act.put, List.getElem_toArray, List.getElem_cons_zero, List.getElem_cons_succ, List.setIfInBounds_toArray, List.set_cons_zero, List.set_cons_succ]
      refine wpAnyH_ready (rs := [9]) (by kernel_rfl) (by simp) ?_
      refine AllReadyH.cons rfl (fun K hK => ?_) AllReadyH.nil
      go_simp
      refine (cin _ GX.out).mono ?_
      rintro e w4 ⟨rfl, g4⟩
      refine hK.out _ _ (⟨hHeld.1.gb g4.gb, g4.keeps hHeld.2⟩) (fun hHeld => ?_)
      clear hK K
      try simp only [Act.put, List.getElem_toArray, List.getElem_cons_zero, List.getElem_cons_succ, List.setIfInBounds_toArray, List.set_cons_zero, List.set_cons_succ]
      refine wpAnyH_take (i := 10) (v := ?_) rfl (by kernel_rfl) (by kernel_rfl) (by kernel_rfl) (fun _ _ _ h => h) (Or.inl ⟨by rfl, ?_⟩) (by assumption) ?_
      rotate_left 1
      · (intro w hSw; (obtain ⟨⟨s0, s1, s2, s3, s4, s5⟩, s6⟩ := hSw); go_simp; try with_reducible rfl)
      try simp only [Act.put, List.getElem_toArray, List.getElem_cons_zero, List.getElem_cons_succ, List.setIfInBounds_toArray, List.set_cons_zero, List.set_cons_succ]
      refine wpAnyH_take (i := 11) (v := ?_) rfl (by kernel_rfl) (by kernel_rfl) (by kernel_rfl) (fun _ _ _ h => h) (Or.inl ⟨by rfl, ?_⟩) (by assumption) ?_
      rotate_left 1
      · (intro w hSw; (obtain ⟨⟨s0, s1, s2, s3, s4, s5⟩, s6⟩ := hSw); go_simp; try with_reducible rfl)
      try simp only [Act.put, List.getElem_toArray, List.getElem_cons_zero, List.getElem_cons_succ, List.setIfInBounds_toArray, List.set_cons_zero, List.set_cons_succ]
      refine wpAnyH_done (by kernel_rfl) ?_ _
      go_wp2
      go_roundw
      case rel => exact ⟨p + 1, by first | rfl | go_num | simp, hpm, gb_trans X.out.drew g4.gb⟩
      case measure => simp [intOf]; omega
    · have hpi : ¬ (p : Int) < (m : Int) := by omega
      have G : Hid (Gb w wr) := gb_trans GW.out X.out
      go_wp2
      go_ret
      exact ⟨rfl, G.out⟩
end Go.Proofs.YtdmdjmliggjbjaaGreat

/- The reference's Near: a ball, and neither. -/
namespace Go.Proofs.YtdmdjmliggjbjaaGreat
open Go.RowKit

theorem rmul_int (x y : Int) (n : Nat) (hx : 0 ≤ x) (hy : 0 ≤ y) (hx1 : x < 18446744073709551616) (hy1 : y < 18446744073709551616) (h : x.toNat * y.toNat = n) (w : World) :
    Calls Tryz.prog 78 #[.int .u64 x, .int .u64 y] w fun e w' => e = .returned (Wd n) ∧ Gr w w' := by
  have := rmul_any x.toNat y.toNat (by omega) (by omega) w
  rw [Int.toNat_of_nonneg hx, Int.toNat_of_nonneg hy, h] at this
  exact this

set_option maxHeartbeats 8000000 in
set_option maxRecDepth 100000 in
theorem rnear_ball {w : World} {v u : Value} {r : Reg} {a : List Int} (hv : RdR w v r) (hu : RdI w u a) (h0 : ckB r a = 0) (hR : r.R < 340282366920938463463374607431768211456) (s3 : r.S = 3) :
    Calls Tryz.prog 53 #[v, u] w fun e w' => e = .returned (Wd (bdV r a)) ∧ Gr w w' := by
  obtain ⟨vl, vh, vi, rfl, hL, hH, hI⟩ := hv
  have RA : Hid (RegAt (w.alloc (rc r vl vh vi)) w.heap.size r vl vh vi) := RegAt.new w r vl vh vi
  have G00 : Gr w (w.alloc (rc r vl vh vi)) := (Gr.refl _).alloc _ _
  have G01 : Gr (w.alloc (rc r vl vh vi)) (((w.alloc (rc r vl vh vi)).alloc (.cells #[.int .u64 0, .int .u64 0] 41)).alloc (.cells #[.int .u64 0, .int .u64 0] 41)) := ((Gr.refl _).alloc _ _).alloc _ _
  have G0 := G00.trans G01
  have AA : Hid (At2 (((w.alloc (rc r vl vh vi)).alloc (.cells #[.int .u64 0, .int .u64 0] 41)).alloc (.cells #[.int .u64 0, .int .u64 0] 41)) (w.heap.size + 1) 0 ∧ At2 (((w.alloc (rc r vl vh vi)).alloc (.cells #[.int .u64 0, .int .u64 0] 41)).alloc (.cells #[.int .u64 0, .int .u64 0] 41)) (w.heap.size + 1 + 1) 0) := by
    have h1 := At2.new (w.alloc (rc r vl vh vi)) 0 41
    have h2 := At2.new ((w.alloc (rc r vl vh vi)).alloc (.cells #[.int .u64 0, .int .u64 0] 41)) 0 41
    rw [World.size_alloc] at h1
    rw [World.size_alloc, World.size_alloc] at h2
    exact ⟨h1.gr ((Gr.refl _).alloc _ _), h2⟩
  obtain ⟨k1, k2, k3, k4⟩ := ball_ok h0 s3
  have c1 := far_c (hL.gb G0.gb) (hu.gb G0.gb) k1 k2 k3 k4
  have c2 := fun W => rroot_c (dst r.L a) (dst_lt k3 k4 k1 k2) W
  have c3 := fun W => rroot_c r.R hR W
  have l1 := rt_lt (dst_lt k3 k4 k1 k2)
  have l2 := rt_lt hR
  have E : Hid (bdV r a = if rt (dst r.L a) ≤ rt r.R then 0 else (rt (dst r.L a) - rup r.R) * (rt (dst r.L a) - rup r.R)) := by unfold Hid bdV; rw [if_neg (by omega), if_pos s3]; rfl
  have E2 : Hid (rup r.R = if rt r.R * rt r.R = r.R then rt r.R else rt r.R + 1) := rfl
  generalize bdV r a = res at *
  clear hH hI k1 k2 k3 k4 h0
  obtain ⟨S, L, H, R, I⟩ := r
  dsimp only at *
  subst s3
  obtain ⟨pl, cl, rfl, _⟩ := hL
  obtain ⟨pa, ca, rfl, _⟩ := hu
  generalize L.length = nl at *
  generalize a.length = na at *
  generalize dst L a = D at *
  generalize rt D = s at *
  generalize rup R = t' at *
  generalize rt R = t at *
  obtain ⟨W0, hW0⟩ : ∃ W0, ((w.alloc (rc ⟨3, L, H, R, I⟩ (.slice pl nl cl) vh vi)).alloc (.cells #[.int .u64 0, .int .u64 0] 41)).alloc (.cells #[.int .u64 0, .int .u64 0] 41) = W0 := ⟨_, rfl⟩
  obtain ⟨q0, q1, q2, q3, q4, q5⟩ := RA.out.gb G01.gb
  dsimp only at q0 q1 q2 q3 q4 q5
  rw [hW0] at c1 q0 q1 q2 q3 q4 q5
  have W1 : Hid (Gr (w.alloc (rc ⟨3, L, H, R, I⟩ (.slice pl nl cl) vh vi)) W0) := by unfold Hid; rw [← hW0]; exact G01
  have AA0 : Hid (At2 W0 (w.heap.size + 1) 0 ∧ At2 W0 (w.heap.size + 1 + 1) 0) := by rw [← hW0]; exact AA.out
  have GG : Hid (Gr w W0) := by rw [← hW0]; exact G0
  have SZ : Hid (w.heap.size + 1 + 1 + 1 = W0.heap.size) := by unfold Hid; rw [← hW0]; simp
  clear AA G00 G01 G0
  go_enter Tryz.func53, Tryz.ntmps53
  go_wp2_with fail
  refine c1.mono ?_
  rintro e w1 ⟨rfl, g1⟩
  clear hW0
  go_wp2_with fail
  refine (c2 _).mono ?_
  rintro e w2 ⟨rfl, g2⟩
  replace g2 := g1.trans g2
  clear q0 q1 q2 q3 q4 q5
  obtain ⟨_, _, _, q3, q4, _⟩ := RA.out.gb (W1.out.trans g2).gb
  dsimp only at q3 q4
  go_wp2_with fail
  refine (c3 _).mono ?_
  rintro e w3 ⟨rfl, g3⟩
  replace g3 := g2.trans g3
  clear c1 c2 c3 g1 g2 q3 q4
  obtain ⟨_, _, _, q3, q4, _⟩ := RA.out.gb (W1.out.trans g3).gb
  dsimp only at q3 q4
  have cm := fun W => rmul_any t t l2 l2 W
  by_cases ht : t * t = R
  · have hne := fun W => wd_ne (t * t) R false (by simp [ht]) W
    rw [if_pos ht] at E2
    have e := E2.out
    subst e
    by_cases hst : s ≤ t'
    · rw [if_pos hst] at E
      have e := E.out
      subst e
      have hst' : ¬ (t' : Int) < (s : Int) := by omega
      clear E E2 hst ht
      go_wp2
      go_region_held3 (fun w' => w'.cell? ⟨w.heap.size, 3, none⟩ = some (.int .u64 (hi R)) ∧ w'.cell? ⟨w.heap.size, 4, none⟩ = some (.int .u64 (lo R))) (first | (with_reducible exact call_keeps2 (by assumption) (by assumption)) | exact ⟨q3, q4⟩)
        (first
          | (go_at_call 78; refine (cm _).mono ?_; rintro e w4 ⟨rfl, g4⟩))
      all_goals
        have G4 := g3.drew.trans g4
        obtain ⟨A1, A2⟩ := AA0.out
        replace A1 := A1.gr G4
        replace A2 := A2.gr G4
        obtain ⟨u0, u1, _, _⟩ := A1.set 0
        obtain ⟨r0, r1, r2, r3⟩ := A1
        obtain ⟨s0, s1, _, _⟩ := A2
        go_wp2
        exact bodyPost_ret (v := Wd 0) (by simp [results, Tryz.results53, go_sem, u0, u1]) rfl ⟨rfl, ((GG.out.trans G4).setCell (by simp) _).setCell (by simp) _⟩
    · rw [if_neg hst] at E
      have hst' : (t' : Int) < (s : Int) := by omega
      have cs := fun W => rmul_int ((s : Int) - (t' : Int)) ((s : Int) - (t' : Int)) res (by omega) (by omega) (by omega) (by omega) (by rw [E.out]; congr 1 <;> omega) W
      have b1 : 0 ≤ (s : Int) - (t' : Int) := by omega
      have b2 : (s : Int) - (t' : Int) < 18446744073709551616 := by omega
      clear E E2 hst ht
      go_wp2
      go_region_held3 (fun w' => w'.cell? ⟨w.heap.size, 3, none⟩ = some (.int .u64 (hi R)) ∧ w'.cell? ⟨w.heap.size, 4, none⟩ = some (.int .u64 (lo R))) (first | (with_reducible exact call_keeps2 (by assumption) (by assumption)) | exact ⟨q3, q4⟩)
        (first
          | (go_at_call 78; refine (cm _).mono ?_; rintro e w4 ⟨rfl, g4⟩))
      all_goals
        have G4 := g3.drew.trans g4
        go_wp2_with fail
        refine (cs _).mono ?_
        rintro e w5 ⟨rfl, g5⟩
        have G5 := G4.trans g5
        obtain ⟨A1, A2⟩ := AA0.out
        replace A1 := A1.gr G5
        replace A2 := A2.gr G5
        have A3 := A2.set res
        obtain ⟨s0, s1, s2, s3⟩ := A2
        obtain ⟨v0, v1, _, _⟩ := A3
        have A4 : At2 ((w5.setCell ⟨w.heap.size + 1 + 1, 0, none⟩ (.int .u64 (hi res))).setCell ⟨w.heap.size + 1 + 1, 1, none⟩ (.int .u64 (lo res))) (w.heap.size + 1) 0 := by
          obtain ⟨r0, r1, r2, r3⟩ := A1
          exact ⟨set2_far' (by simp) r0 _ _, set2_far' (by simp) r1 _ _, by simpa using r2, by simpa using r3⟩
        have GX : Gr w ((w5.setCell ⟨w.heap.size + 1 + 1, 0, none⟩ (.int .u64 (hi res))).setCell ⟨w.heap.size + 1 + 1, 1, none⟩ (.int .u64 (lo res))) := ((GG.out.trans G5).setCell (by simp; omega) _).setCell (by simp; omega) _
        obtain ⟨u0, u1, _, _⟩ := A4.set res
        obtain ⟨r0, r1, r2, r3⟩ := A4
        go_wp2
        exact bodyPost_ret (v := Wd res) (by simp [results, Tryz.results53, go_sem, u0, u1]) rfl ⟨rfl, (GX.setCell (by simp) _).setCell (by simp) _⟩
  · have hne := fun W => wd_ne (t * t) R true (by simp [ht]) W
    rw [if_neg ht] at E2
    by_cases hst : s ≤ t
    · rw [if_pos hst] at E
      have e := E.out
      subst e
      have hst' : (s : Int) ≤ (t : Int) := by omega
      clear E E2 hst ht
      go_wp2
      go_region_held3 (fun w' => w'.cell? ⟨w.heap.size, 3, none⟩ = some (.int .u64 (hi R)) ∧ w'.cell? ⟨w.heap.size, 4, none⟩ = some (.int .u64 (lo R))) (first | (with_reducible exact call_keeps2 (by assumption) (by assumption)) | exact ⟨q3, q4⟩)
        (first
          | (go_at_call 78; refine (cm _).mono ?_; rintro e w4 ⟨rfl, g4⟩))
      all_goals
        have G4 := g3.drew.trans g4
        obtain ⟨A1, A2⟩ := AA0.out
        replace A1 := A1.gr G4
        replace A2 := A2.gr G4
        obtain ⟨u0, u1, _, _⟩ := A1.set 0
        obtain ⟨r0, r1, r2, r3⟩ := A1
        obtain ⟨s0, s1, _, _⟩ := A2
        go_wp2
        exact bodyPost_ret (v := Wd 0) (by simp [results, Tryz.results53, go_sem, u0, u1]) rfl ⟨rfl, ((GG.out.trans G4).setCell (by simp) _).setCell (by simp) _⟩
    · rw [if_neg hst] at E
      have hst' : ¬ (s : Int) ≤ (t : Int) := by omega
      have T1 : Hid ((t : Int) + 1 = (t' : Int)) := by unfold Hid; have := E2.out; omega
      have hT : t' = t + 1 := E2.out
      by_cases hs2 : s ≤ t'
      · have e : res = 0 := by rw [E.out, show s - t' = 0 by omega]
        subst e
        have H2 : Hid (¬ (t' : Int) < (s : Int)) := by unfold Hid; omega
        clear E E2 hst ht hs2 hT
        go_wp2
        go_region_held3 (fun w' => w'.cell? ⟨w.heap.size, 3, none⟩ = some (.int .u64 (hi R)) ∧ w'.cell? ⟨w.heap.size, 4, none⟩ = some (.int .u64 (lo R))) (first | (with_reducible exact call_keeps2 (by assumption) (by assumption)) | exact ⟨q3, q4⟩)
          (first
            | (go_at_call 78; refine (cm _).mono ?_; rintro e w4 ⟨rfl, g4⟩))
        all_goals
          have T2 := T1.out
          have h2 := H2.out
          have G4 := g3.drew.trans g4
          obtain ⟨A1, A2⟩ := AA0.out
          replace A1 := A1.gr G4
          replace A2 := A2.gr G4
          obtain ⟨u0, u1, _, _⟩ := A1.set 0
          obtain ⟨r0, r1, r2, r3⟩ := A1
          obtain ⟨s0, s1, _, _⟩ := A2
          go_wp2
          exact bodyPost_ret (v := Wd 0) (by simp [results, Tryz.results53, go_sem, u0, u1]) rfl ⟨rfl, ((GG.out.trans G4).setCell (by simp) _).setCell (by simp) _⟩
      · have cs := fun W => rmul_int ((s : Int) - (t' : Int)) ((s : Int) - (t' : Int)) res (by omega) (by omega) (by omega) (by omega) (by rw [E.out]; congr 1 <;> omega) W
        have H2 : Hid ((t' : Int) < (s : Int) ∧ 0 ≤ (s : Int) - (t' : Int) ∧ (s : Int) - (t' : Int) < 18446744073709551616) := ⟨by omega, by omega, by omega⟩
        clear E E2 hst ht hs2 hT
        go_wp2
        go_region_held3 (fun w' => w'.cell? ⟨w.heap.size, 3, none⟩ = some (.int .u64 (hi R)) ∧ w'.cell? ⟨w.heap.size, 4, none⟩ = some (.int .u64 (lo R))) (first | (with_reducible exact call_keeps2 (by assumption) (by assumption)) | exact ⟨q3, q4⟩)
          (first
            | (go_at_call 78; refine (cm _).mono ?_; rintro e w4 ⟨rfl, g4⟩))
        all_goals
          have G4 := g3.drew.trans g4
          have T2 := T1.out
          obtain ⟨h2, b1, b2⟩ := H2.out
          go_wp2_with fail
          refine (cs _).mono ?_
          rintro e w5 ⟨rfl, g5⟩
          have G5 := G4.trans g5
          obtain ⟨A1, A2⟩ := AA0.out
          replace A1 := A1.gr G5
          replace A2 := A2.gr G5
          have A3 := A2.set res
          obtain ⟨s0, s1, s2, s3⟩ := A2
          obtain ⟨v0, v1, _, _⟩ := A3
          have A4 : At2 ((w5.setCell ⟨w.heap.size + 1 + 1, 0, none⟩ (.int .u64 (hi res))).setCell ⟨w.heap.size + 1 + 1, 1, none⟩ (.int .u64 (lo res))) (w.heap.size + 1) 0 := by
            obtain ⟨r0, r1, r2, r3⟩ := A1
            exact ⟨set2_far' (by simp) r0 _ _, set2_far' (by simp) r1 _ _, by simpa using r2, by simpa using r3⟩
          have GX : Gr w ((w5.setCell ⟨w.heap.size + 1 + 1, 0, none⟩ (.int .u64 (hi res))).setCell ⟨w.heap.size + 1 + 1, 1, none⟩ (.int .u64 (lo res))) := ((GG.out.trans G5).setCell (by simp; omega) _).setCell (by simp; omega) _
          obtain ⟨u0, u1, _, _⟩ := A4.set res
          obtain ⟨r0, r1, r2, r3⟩ := A4
          go_wp2
          exact bodyPost_ret (v := Wd res) (by simp [results, Tryz.results53, go_sem, u0, u1]) rfl ⟨rfl, (GX.setCell (by simp) _).setCell (by simp) _⟩

set_option maxHeartbeats 4000000 in
theorem rnear_all {w : World} {v u : Value} {r : Reg} {a : List Int} (hv : RdR w v r) (hu : RdI w u a) (s2 : ¬ r.S = 2) (s3 : ¬ r.S = 3) :
    Calls Tryz.prog 53 #[v, u] w fun e w' => e = .returned (Wd (bdV r a)) ∧ Gr w w' := by
  obtain ⟨vl, vh, vi, rfl, hL, hH, hI⟩ := hv
  have G0 : Gr w (((w.alloc (rc r vl vh vi)).alloc (.cells #[.int .u64 0, .int .u64 0] 41)).alloc (.cells #[.int .u64 0, .int .u64 0] 41)) := (((Gr.refl _).alloc _ _).alloc _ _).alloc _ _
  have e : bdV r a = 0 := by unfold bdV; rw [if_neg s2, if_neg s3]
  rw [e]
  have s2' : (r.S == 2) = false := by rw [beq_eq_false_iff_ne]; exact s2
  have s3' : (r.S == 3) = false := by rw [beq_eq_false_iff_ne]; exact s3
  obtain ⟨pa, ca, rfl, _⟩ := hu
  clear hL hH hI e s2 s3
  obtain ⟨S, L, H, R, I⟩ := r
  dsimp only at *
  generalize a.length = na at *
  go_enter Tryz.func53, Tryz.ntmps53
  go_wp2
  exact bodyPost_ret (v := Wd 0) (by simp [results, Tryz.results53, go_sem, hi, lo]) rfl ⟨rfl, G0⟩

end Go.Proofs.YtdmdjmliggjbjaaGreat
