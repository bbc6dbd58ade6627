/- FlatNone: the walk. -/
import Derived.Test.YteaeaoekaoedoaaGreatFNone
namespace Go.Proofs.YteaeaoekaoedoaaGreat
open Go.RowKit Go.Sort
attribute [local go_sem ↓] Go.wp_at_zero Go.wp_at_succ

theorem wrap_i64 {n : Int} (h : n.natAbs < 9223372036854775808) : IntKind.i64.wrap n = n := by
  unfold IntKind.wrap IntKind.signed IntKind.bits
  simp
  omega
theorem row_dist2 {rs : List Rw} {q : List Int} (h : askE rs q = 0) {r : Rw} (hr : r ∈ rs) : distE r.2 q = 0 ∧ distV r.2 q = dst q r.2 := by
  obtain ⟨h1, h2⟩ := askE_zero.1 h
  have h3 := (h2.row r hr).2
  have h4 := chk_ok h3
  have hl : r.2.length = q.length := by omega
  have e : distE r.2 q = 0 := by unfold distE; rw [hl, if_pos h3, h1]
  exact ⟨e, by unfold distV; rw [if_pos e, dst_comm5 hl]⟩
theorem row_lt {rs : List Rw} {q : List Int} (h : askE rs q = 0) {r : Rw} (hr : r ∈ rs) : dst q r.2 < 340282366920938463463374607431768211456 := by
  obtain ⟨h1, h2⟩ := askE_zero.1 h
  have h3 := chk_ok (h2.row r hr).2
  have h4 := chk_ok h1
  exact dst_lt h4.2.2.2 h3.2.2.2 (by omega) h4.2.1

set_option maxRecDepth 100000 in
set_option maxHeartbeats 4000000 in
theorem none_law {w : World} {v u : Value} {rs : List Rw} {q : List Int} (hv : RdW w v rs) (hu : RdI w u q) (hwf : Wf rs) (k : Int) :
    Calls Tryz.prog 6 #[v, u, .int .i64 k] w fun e w' => e = .returned (.bool true) ∧ Gb w w' := by
  have cbig := big_c hv hu (Nat.le_trans hwf.1 (by decide))
  have ctop := topk_c hv hu hwf k
  have V : Hid (RdW w v rs) := hv
  have U : Hid (RdI w u q) := hu
  obtain ⟨av, cv, rfl, _⟩ := hv
  obtain ⟨au, cu, rfl, _⟩ := hu
  obtain ⟨n, hn⟩ : ∃ n, n = rs.length := ⟨_, rfl⟩
  obtain ⟨m, hm⟩ : ∃ m, m = q.length := ⟨_, rfl⟩
  have NH : Hid (n = rs.length) := hn
  rw [← hn] at V cbig ctop ⊢
  rw [← hm] at U cbig ctop ⊢
  clear hn hm hwf
  go_enter Tryz.func6, Tryz.ntmps6
  go_wp2_with fail
  refine cbig.mono ?_
  rintro e w' ⟨b, rfl, hb, e2⟩
  subst e2
  clear cbig
  cases b with
  | true =>
    clear ctop
    go_wp2
    go_ret
    exact ⟨rfl, Below.refl _ _⟩
  | false =>
    obtain ⟨hn, _⟩ := hb rfl
    clear hb
    by_cases hz : topE rs q k = 0
    · have ask := (topE_zero.1 hz).1
      have K1 : Hid (1 ≤ k ∧ k ≤ 64) := ⟨(topE_zero.1 hz).2.1, (topE_zero.1 hz).2.2⟩
      have OK : Hid (RowsOk rs (q.length : Int)) := (askE_zero.1 ask).2
      have AK : Hid (askE rs q = 0) := ask
      rw [hz] at ctop
      clear hz ask
      go_wp2_with fail
      refine ctop.mono ?_
      rintro e w1 ⟨v', rfl, g1, _, o⟩
      obtain ⟨o1, _, _⟩ := o (by first | rfl | trivial)
      clear ctop o
      have rd := Tk.own_rd o1
      clear o1
      simp only [] at rd
      obtain ⟨L, hL⟩ : ∃ L, L = Tk.firsts k.toNat (hitsOf q rs) := ⟨_, rfl⟩
      have LH : Hid (L = Tk.firsts k.toNat (hitsOf q rs)) := hL
      rw [← hL] at rd
      obtain ⟨pa, ca, rfl, hLies⟩ := rd.form
      have LI : Hid (∀ i, i < L.length → ∃ b o, pa = some ⟨b, o, none⟩ ∧ Tk.Lies w1 b o L) := hLies
      have hP : L.length ≤ 64 := by rw [hL, Tk.firsts_len]; have := K1.out; omega
      obtain ⟨P, hPe⟩ : ∃ P, P = L.length := ⟨_, rfl⟩
      have PH : Hid (P = L.length) := hPe
      rw [← hPe] at hP ⊢
      clear rd hLies hL hPe
      go_wp2
      go_loopw [9] (fun iv w' => ∃ i : Nat, iv = .int .i64 (i : Int) ∧ i ≤ n ∧ Hid (Gb w1 w')) (fun iv _ => n - (intOf iv).toNat)
      case atStart => exact ⟨0, rfl, Nat.zero_le _, Below.refl _ _⟩
      case round =>
        obtain ⟨i, rfl, hile, Y⟩ := hrel
        by_cases hin : i < n
        · have hini : (i : Int) < (n : Int) := by omega
          have hir : i < rs.length := by have := NH.out; omega
          obtain ⟨av', cv', ev, ha⟩ := V.out
          obtain ⟨b, o, x, ea, e1, e2, e3⟩ := ha i hir
          injection ev with ev1 ev2 ev3
          subst ev1; subst ev3; subst ea
          clear ha ev2
          have gr := gb_trans g1 Y.out
          have e1 := gb_keeps gr e1
          have e2 := gb_keeps gr e2
          have cD := rdist_c (e3.gb gr) (U.out.gb gr)
          obtain ⟨hd1, hd2⟩ := row_dist2 AK.out (List.getElem_mem hir)
          rw [← getElem!_pos rs i hir] at hd1 hd2
          rw [hd1, hd2] at cD
          have hDlt : dst q rs[i]!.2 < 340282366920938463463374607431768211456 := by rw [getElem!_pos rs i hir]; exact row_lt AK.out (List.getElem_mem hir)
          have RI : Hid (rs[i]! ∈ rs) := by unfold Hid; rw [getElem!_pos rs i hir]; exact List.getElem_mem hir
          obtain ⟨r, hr⟩ : ∃ r, r = rs[i]! := ⟨_, rfl⟩
          rw [← hr] at e1 e3 cD hDlt RI
          clear hr hd1 hd2 hir
          obtain ⟨y, D, hy⟩ : ∃ y D, y = r.1 ∧ D = dst q r.2 := ⟨_, _, rfl, rfl⟩
          have YD : Hid (y = r.1 ∧ D = dst q r.2) := hy
          rw [← hy.1] at e1
          rw [← hy.2] at cD hDlt
          clear hy
          obtain ⟨px, cx, rfl, _⟩ := e3
          generalize r.2.length = mr at *
          go_wp2_with fail
          refine cD.mono ?_
          rintro e w3 ⟨rfl, g3⟩
          clear cD
          have f1 := gb_keeps (gb_alloc g3.gb (.cells #[.int .u64 (hi D), .int .u64 (lo D)] 39)) e1
          have f2 := gb_keeps (gb_alloc (Below.refl _ _) (.cells #[.int .i64 0, .int .u64 0, .int .u64 0] 57)) f1
          go_wp2_with fail
          go_region
          obtain ⟨w4, hw4⟩ : ∃ w4, ((w3.alloc (.cells #[.int .u64 (hi D), .int .u64 (lo D)] 39)).alloc (.cells #[.int .i64 y, .int .u64 (hi D), .int .u64 (lo D)] 57)).drew = w4 := ⟨_, rfl⟩
          have k0 : w4.cell? ⟨w3.heap.size + 1, 0, none⟩ = some (.int .i64 y) := by rw [← hw4]; simp [go_sem]
          have k1 : w4.cell? ⟨w3.heap.size + 1, 1, none⟩ = some (.int .u64 (hi D)) := by rw [← hw4]; simp [go_sem]
          have k2 : w4.cell? ⟨w3.heap.size + 1, 2, none⟩ = some (.int .u64 (lo D)) := by rw [← hw4]; simp [go_sem]
          have G4 : Hid (Gb w1 w4) := by
            rw [← hw4]
            have h1 := gb_alloc (gb_alloc (gb_trans Y.out g3.gb) (.cells #[.int .u64 (hi D), .int .u64 (lo D)] 39)) (.cells #[.int .i64 y, .int .u64 (hi D), .int .u64 (lo D)] 57)
            exact gb_trans h1 ⟨rfl, rfl, rfl, Nat.le_refl _, fun _ _ => rfl⟩
          rw [hw4]
          clear hw4 f1 f2 g3 e1 e2 Y gr
          generalize w3.heap.size + 1 = B at *
          go_wp2
          go_loopw [13, 14] (fun tv nv w' => ∃ j : Nat, tv = .int .i64 (cnt L y j : Nat) ∧ nv = .int .i64 (j : Int) ∧ j ≤ P ∧ Hid (Gb w4 w')) (fun _ nv _ => P - (intOf nv).toNat)
          case atStart => exact ⟨0, rfl, rfl, Nat.zero_le _, Below.refl _ _⟩
          case round =>
            obtain ⟨j, rfl, rfl, hj, Z⟩ := hrel
            by_cases hjP : j < P
            · have hjPi : (j : Int) < (P : Int) := by omega
              have hjL : j < L.length := by have := PH.out; omega
              obtain ⟨b1, o1, ea, hl⟩ := LI.out j hjL
              obtain ⟨x0, x1, x2⟩ := (hl.gr (gb_trans G4.out Z.out)) j hjL
              have c0 := gb_keeps Z.out k0
              have c1 := gb_keeps Z.out k1
              have c2 := gb_keeps Z.out k2
              have hcs := cnt_succ y hjL
              have told : L[j]!.1 = y → L[j]! = (y, hi D, lo D) := fun e => by
                have h1 := told_is (q := q) (k := k.toNat) OK.out.ids (x := L[j]!) (by rw [← LH.out, getElem!_pos L j hjL]; exact List.getElem_mem hjL) RI.out (by rw [e, YD.out.1])
                rw [h1, YD.out.1, YD.out.2]
              have hcl : cnt L y j ≤ 64 := by have := cnt_le L y j (by rw [LH.out]; exact told_ids OK.out.ids); omega
              have XH : Hid (∃ x, x = L[j]!) := ⟨_, rfl⟩
              generalize L[j]! = x at *
              obtain ⟨xi, xh, xl⟩ := x
              subst ea
              clear hl hjL XH
              by_cases he : xi = y
              · have ex := told he
                obtain ⟨rfl, rfl, rfl⟩ : xi = y ∧ xh = hi D ∧ xl = lo D := by
                  injection ex with h1 h2; injection h2 with h2 h3; exact ⟨h1, h2, h3⟩
                rw [show ((xi == xi) = true) from by simp, if_pos rfl] at hcs
                have hne := fun W => Tk.hv_ne (xi, hi D, lo D) (xi, hi D, lo D) W
                rw [decide_eq_true rfl] at hne
                have CS : Hid (cnt L xi (j + 1) = cnt L xi j + 1) := hcs
                clear hcs told he ex
                generalize cnt L xi j = tc at *
                go_wp2
                go_quiet (fail)
                go_wp2
                go_quiet (fail)
                go_wp2
                go_roundw
                case rel => exact ⟨j + 1, by rw [CS.out]; simp, by simp, hjP, gb_trans Z.out ⟨rfl, rfl, rfl, Nat.le_refl _, fun _ _ => rfl⟩⟩
                case measure => simp [intOf]; omega
              · rw [show ((xi == y) = false) from by rw [beq_eq_false_iff_ne]; exact he, if_neg (by decide), Nat.add_zero] at hcs
                have CS : Hid (cnt L y (j + 1) = cnt L y j) := hcs
                have he' : (xi == y) = false := by rw [beq_eq_false_iff_ne]; exact he
                clear hcs told he
                generalize cnt L y j = tc at *
                go_wp2
                go_quiet (fail)
                go_wp2
                go_roundw
                case rel => exact ⟨j + 1, by rw [CS.out], by simp, hjP, gb_trans Z.out ⟨rfl, rfl, rfl, Nat.le_refl _, fun _ _ => rfl⟩⟩
                case measure => simp [intOf]; omega
            · have hjPi : ¬ (j : Int) < (P : Int) := by omega
              obtain rfl : j = P := by omega
              have c0 := gb_keeps Z.out k0
              have c1 := gb_keeps Z.out k1
              have c2 := gb_keeps Z.out k2
              have hc1 : cnt L y j ≤ 1 := cnt_le L y j (by rw [LH.out]; exact told_ids OK.out.ids)
              have hc0 : cnt L y j = 0 → ∀ x ∈ L, x.1 ≠ y := fun e => cnt_none (by rw [← PH.out]; exact e)
              have CH : Hid (cnt L y j = 0 → ∀ x ∈ L, x.1 ≠ y) := hc0
              clear hc0
              by_cases ht : cnt L y j = 0
              · have NT : Hid (∀ x ∈ L, x.1 ≠ y) := CH.out ht
                rw [ht]
                clear hc1 ht CH
                go_wp2_with fail
                by_cases hP0 : j = 0
                · have hP0' : ¬ (0 : Int) < (j : Int) := by omega
                  subst hP0
                  refine wp_region_held_drew (S := fun w' => w'.cell? ⟨B, 0, none⟩ = some (.int .i64 y) ∧ w'.cell? ⟨B, 1, none⟩ = some (.int .u64 (hi D)) ∧ w'.cell? ⟨B, 2, none⟩ = some (.int .u64 (lo D))) (by kernel_rfl) (⟨c0, c1, c2⟩) (fun hHeld => ?_)
                  refine wpAnyH_take (i := 0) (v := ?_) rfl (by kernel_rfl) (by kernel_rfl) (by kernel_rfl) (fun _ _ _ h => h) (Or.inl ⟨by rfl, ?_⟩) (by assumption) ?_
                  rotate_left 1
                  · (intro w hSw; (obtain ⟨q0, q1, q2⟩ := hSw); go_simp; try with_reducible rfl)
                  try simp only [Act.put, List.getElem_toArray, List.getElem_cons_zero, List.setIfInBounds_toArray, List.set_cons_zero, List.set_cons_succ]
                  refine wpAnyH_take (i := 1) (v := ?_) rfl (by kernel_rfl) (by kernel_rfl) (by kernel_rfl) (fun _ _ _ h => h) (Or.inl ⟨by rfl, ?_⟩) (by assumption) ?_
                  rotate_left 1
                  · (intro w hSw; (obtain ⟨q0, q1, q2⟩ := hSw); go_simp; try with_reducible rfl)
                  try simp only [Act.put, List.getElem_toArray, List.getElem_cons_zero, List.getElem_cons_succ, List.setIfInBounds_toArray, List.set_cons_zero, List.set_cons_succ]
                  refine wpAnyH_take (i := 2) (v := ?_) rfl (by kernel_rfl) (by kernel_rfl) (by kernel_rfl) (fun _ _ _ h => h) (Or.inl ⟨by rfl, ?_⟩) (by assumption) ?_
                  rotate_left 1
                  · (intro w hSw; (obtain ⟨q0, q1, q2⟩ := hSw); go_simp; try with_reducible rfl)
                  try simp only [Act.put, List.getElem_toArray, List.getElem_cons_zero, List.getElem_cons_succ, List.setIfInBounds_toArray, List.set_cons_zero, List.set_cons_succ]
                  refine wpAnyH_take (i := 3) (v := ?_) rfl (by kernel_rfl) (by kernel_rfl) (by kernel_rfl) (fun _ _ _ h => h) (Or.inl ⟨by rfl, ?_⟩) (by assumption) ?_
                  rotate_left 1
                  · (intro w hSw; (obtain ⟨q0, q1, q2⟩ := hSw); go_simp; try with_reducible rfl)
                  try simp only [Act.put, List.getElem_toArray, List.getElem_cons_zero, List.getElem_cons_succ, List.setIfInBounds_toArray, List.set_cons_zero, List.set_cons_succ]
                  refine wpAnyH_take (i := 4) (v := ?_) rfl (by kernel_rfl) (by kernel_rfl) (by kernel_rfl) (fun _ _ _ h => h) (Or.inl ⟨by rfl, ?_⟩) (by assumption) ?_
                  rotate_left 1
                  · (intro w hSw; (obtain ⟨q0, q1, q2⟩ := hSw); go_simp; try with_reducible rfl)
                  try simp only [Act.put, List.getElem_toArray, List.getElem_cons_zero, List.getElem_cons_succ, List.setIfInBounds_toArray, List.set_cons_zero, List.set_cons_succ]
                  refine wpAnyH_take (i := 5) (v := ?_) rfl (by kernel_rfl) (by kernel_rfl) (by kernel_rfl) (fun _ _ _ h => h) (Or.inl ⟨by rfl, ?_⟩) (by assumption) ?_
                  rotate_left 1
                  · (intro w hSw; (obtain ⟨q0, q1, q2⟩ := hSw); go_simp; try with_reducible rfl)
                  try simp only [Act.put, List.getElem_toArray, List.getElem_cons_zero, List.getElem_cons_succ, List.setIfInBounds_toArray, List.set_cons_zero, List.set_cons_succ]
                  refine wpAnyH_take (i := 6) (v := ?_) rfl (by kernel_rfl) (by kernel_rfl) (by kernel_rfl) (fun _ _ _ h => h) (Or.inl ⟨by rfl, ?_⟩) (by assumption) ?_
                  rotate_left 1
                  · (intro w hSw; (obtain ⟨q0, q1, q2⟩ := hSw); go_simp; try with_reducible rfl)
                  try simp only [Act.put, List.getElem_toArray, List.getElem_cons_zero, List.getElem_cons_succ, List.setIfInBounds_toArray, List.set_cons_zero, List.set_cons_succ]
                  refine wpAnyH_take (i := 7) (v := ?_) rfl (by kernel_rfl) (by kernel_rfl) (by kernel_rfl) (fun _ _ _ h => h) (Or.inl ⟨by rfl, ?_⟩) (by assumption) ?_
                  rotate_left 1
                  · (intro w hSw; (obtain ⟨q0, q1, q2⟩ := hSw); go_simp; try with_reducible rfl)
                  try simp only [Act.put, List.getElem_toArray, List.getElem_cons_zero, List.getElem_cons_succ, List.setIfInBounds_toArray, List.set_cons_zero, List.set_cons_succ]
                  refine wpAnyH_take (i := 8) (v := ?_) rfl (by kernel_rfl) (by kernel_rfl) (by kernel_rfl) (fun _ _ _ h => h) (Or.inl ⟨by rfl, ?_⟩) (by assumption) ?_
                  rotate_left 1
                  · (intro w hSw; (obtain ⟨q0, q1, q2⟩ := hSw); go_simp; try with_reducible rfl)
                  try simp only [Act.put, List.getElem_toArray, List.getElem_cons_zero, List.getElem_cons_succ, List.setIfInBounds_toArray, List.set_cons_zero, List.set_cons_succ]
                  refine wpAnyH_take (i := 9) (v := ?_) rfl (by kernel_rfl) (by kernel_rfl) (by kernel_rfl) (fun _ _ _ h => h) (Or.inl ⟨by rfl, ?_⟩) (by assumption) ?_
                  rotate_left 1
                  · (intro w hSw; (obtain ⟨q0, q1, q2⟩ := hSw); go_simp; try with_reducible rfl)
                  try simp only [Act.put, List.getElem_toArray, List.getElem_cons_zero, List.getElem_cons_succ, List.setIfInBounds_toArray, List.set_cons_zero, List.set_cons_succ]
                  refine wpAnyH_take (i := 10) (v := ?_) rfl (by kernel_rfl) (by kernel_rfl) (by kernel_rfl) (fun _ _ _ h => h) (Or.inl ⟨by rfl, ?_⟩) (by assumption) ?_
                  rotate_left 1
                  · (intro w hSw; (obtain ⟨q0, q1, q2⟩ := hSw); go_simp; try with_reducible rfl)
                  try simp only [Act.put, List.getElem_toArray, List.getElem_cons_zero, List.getElem_cons_succ, List.setIfInBounds_toArray, List.set_cons_zero, List.set_cons_succ]
                  refine wpAnyH_take (i := 11) (v := undef) rfl (by kernel_rfl) (by kernel_rfl) (by kernel_rfl) (fun _ _ _ h => h) (Or.inr ⟨by rfl, rfl⟩) (by assumption) ?_
                  try simp only [Act.put, List.getElem_toArray, List.getElem_cons_zero, List.getElem_cons_succ, List.setIfInBounds_toArray, List.set_cons_zero, List.set_cons_succ]
                  refine wpAnyH_take (i := 12) (v := undef) rfl (by kernel_rfl) (by kernel_rfl) (by kernel_rfl) (fun _ _ _ h => h) (Or.inr ⟨by rfl, rfl⟩) (by assumption) ?_
                  try simp only [Act.put, List.getElem_toArray, List.getElem_cons_zero, List.getElem_cons_succ, List.setIfInBounds_toArray, List.set_cons_zero, List.set_cons_succ]
                  refine wpAnyH_take (i := 13) (v := undef) rfl (by kernel_rfl) (by kernel_rfl) (by kernel_rfl) (fun _ _ _ h => h) (Or.inr ⟨by rfl, rfl⟩) (by assumption) ?_
                  try simp only [Act.put, List.getElem_toArray, List.getElem_cons_zero, List.getElem_cons_succ, List.setIfInBounds_toArray, List.set_cons_zero, List.set_cons_succ]
                  refine wpAnyH_take (i := 14) (v := undef) rfl (by kernel_rfl) (by kernel_rfl) (by kernel_rfl) (fun _ _ _ h => h) (Or.inr ⟨by rfl, rfl⟩) (by assumption) ?_
                  try simp only [Act.put, List.getElem_toArray, List.getElem_cons_zero, List.getElem_cons_succ, List.setIfInBounds_toArray, List.set_cons_zero, List.set_cons_succ]
                  refine wpAnyH_take (i := 15) (v := undef) rfl (by kernel_rfl) (by kernel_rfl) (by kernel_rfl) (fun _ _ _ h => h) (Or.inr ⟨by rfl, rfl⟩) (by assumption) ?_
                  try simp only [Act.put, List.getElem_toArray, List.getElem_cons_zero, List.getElem_cons_succ, List.setIfInBounds_toArray, List.set_cons_zero, List.set_cons_succ]
                  refine wpAnyH_take (i := 16) (v := undef) rfl (by kernel_rfl) (by kernel_rfl) (by kernel_rfl) (fun _ _ _ h => h) (Or.inr ⟨by rfl, rfl⟩) (by assumption) ?_
                  try simp only [Act.put, List.getElem_toArray, List.getElem_cons_zero, List.getElem_cons_succ, List.setIfInBounds_toArray, List.set_cons_zero, List.set_cons_succ]
                  refine wpAnyH_take (i := 17) (v := undef) rfl (by kernel_rfl) (by kernel_rfl) (by kernel_rfl) (fun _ _ _ h => h) (Or.inr ⟨by rfl, rfl⟩) (by assumption) ?_
                  try simp only [Act.put, List.getElem_toArray, List.getElem_cons_zero, List.getElem_cons_succ, List.setIfInBounds_toArray, List.set_cons_zero, List.set_cons_succ]
                  refine wpAnyH_take (i := 18) (v := undef) rfl (by kernel_rfl) (by kernel_rfl) (by kernel_rfl) (fun _ _ _ h => h) (Or.inr ⟨by rfl, rfl⟩) (by assumption) ?_
                  try simp only [Act.put, List.getElem_toArray, List.getElem_cons_zero, List.getElem_cons_succ, List.setIfInBounds_toArray, List.set_cons_zero, List.set_cons_succ]
                  refine wpAnyH_take (i := 19) (v := ?_) rfl (by kernel_rfl) (by kernel_rfl) (by kernel_rfl) (fun _ _ _ h => h) (Or.inl ⟨by rfl, ?_⟩) (by assumption) ?_
                  rotate_left 1
                  · (intro w hSw; (obtain ⟨q0, q1, q2⟩ := hSw); go_simp; try with_reducible rfl)
                  try simp only [Act.put, List.getElem_toArray, List.getElem_cons_zero, List.getElem_cons_succ, List.setIfInBounds_toArray, List.set_cons_zero, List.set_cons_succ]
                  refine wpAnyH_take (i := 20) (v := ?_) rfl (by kernel_rfl) (by kernel_rfl) (by kernel_rfl) (fun _ _ _ h => h) (Or.inl ⟨by rfl, ?_⟩) (by assumption) ?_
                  rotate_left 1
                  · (intro w hSw; (obtain ⟨q0, q1, q2⟩ := hSw); go_simp; try with_reducible rfl)
                  try simp only [Act.put, List.getElem_toArray, List.getElem_cons_zero, List.getElem_cons_succ, List.setIfInBounds_toArray, List.set_cons_zero, List.set_cons_succ]
                  refine wpAnyH_done (by kernel_rfl) ?_ _
                  have GZ : Hid (Gb w1 wr.drew) := gb_trans G4.out (gb_trans Z.out ⟨rfl, rfl, rfl, Nat.le_refl _, fun _ _ => rfl⟩)
                  clear c0 c1 c2 hHeld k0 k1 k2
                  go_wp2
                  go_roundw
                  case rel => exact ⟨i + 1, by simp, hin, GZ⟩
                  case measure => simp [intOf]; omega
                · obtain ⟨p, rfl⟩ : ∃ p, j = p + 1 := ⟨j - 1, by omega⟩
                  have hpL : p < L.length := by have := PH.out; omega
                  obtain ⟨b1, o1, ea, hl⟩ := LI.out p hpL
                  obtain ⟨x0, x1, x2⟩ := (hl.gr (gb_trans G4.out Z.out)) p hpL
                  have hlt := last_told (q := q) (k := k.toNat) RI.out (by rw [← LH.out]; intro x hx; rw [← YD.out.1]; exact NT.out x hx) (by rw [← LH.out]; omega)
                  rw [← LH.out, ← PH.out, show p + 1 - 1 = p by omega] at hlt
                  obtain ⟨r', hr', er⟩ := told_row (rs := rs) (q := q) (k := k.toNat) (n := p) (by rw [← LH.out]; exact hpL)
                  rw [← LH.out] at er
                  rw [er] at x0 x1 x2 hlt
                  have cB := fun W => before_c r.1 r'.1 (dst q r.2) (dst q r'.2) (row_lt AK.out RI.out) (row_lt AK.out hr') W
                  rw [hlt] at cB
                  rw [← YD.out.1, ← YD.out.2] at cB
                  have x0 : wr.cell? ⟨b1, o1 + p * 3, none⟩ = some (.int .i64 r'.1) := x0
                  have x1 : wr.cell? ⟨b1, o1 + p * 3 + 1, none⟩ = some (.int .u64 (hi (dst q r'.2))) := x1
                  have x2 : wr.cell? ⟨b1, o1 + p * 3 + 2, none⟩ = some (.int .u64 (lo (dst q r'.2))) := x2
                  generalize r'.1 = xi at *
                  generalize hi (dst q r'.2) = xh at *
                  generalize lo (dst q r'.2) = xl at *
                  subst ea
                  have hp1 : ((p + 1 : Nat) : Int) - 1 = (p : Int) := by omega
                  have hp2 : IntKind.i64.wrap (p : Int) = (p : Int) := wrap_i64 (by omega)
                  have hp3 : (0 : Int) < ((p + 1 : Nat) : Int) := by omega
                  have hp4 : (p : Int) < (p : Int) + 1 := by omega
                  clear hl hpL hlt hr' er
                  refine wp_region_held_drew (S := fun w' => w'.cell? ⟨B, 0, none⟩ = some (.int .i64 y) ∧ w'.cell? ⟨B, 1, none⟩ = some (.int .u64 (hi D)) ∧ w'.cell? ⟨B, 2, none⟩ = some (.int .u64 (lo D)) ∧ w'.cell? ⟨b1, o1 + p * 3, none⟩ = some (.int .i64 xi) ∧ w'.cell? ⟨b1, o1 + p * 3 + 1, none⟩ = some (.int .u64 xh) ∧ w'.cell? ⟨b1, o1 + p * 3 + 2, none⟩ = some (.int .u64 xl)) (by kernel_rfl) (⟨c0, c1, c2, x0, x1, x2⟩) (fun hHeld => ?_)
                  refine wpAnyH_take (i := 0) (v := ?_) rfl (by kernel_rfl) (by kernel_rfl) (by kernel_rfl) (fun _ _ _ h => h) (Or.inl ⟨by rfl, ?_⟩) (by assumption) ?_
                  rotate_left 1
                  · (intro w hSw; (obtain ⟨q0, q1, q2, q3, q4, q5⟩ := hSw); go_simp; try with_reducible rfl)
                  try simp only [Act.put, List.getElem_toArray, List.getElem_cons_zero, List.setIfInBounds_toArray, List.set_cons_zero, List.set_cons_succ]
                  refine wpAnyH_take (i := 1) (v := ?_) rfl (by kernel_rfl) (by kernel_rfl) (by kernel_rfl) (fun _ _ _ h => h) (Or.inl ⟨by rfl, ?_⟩) (by assumption) ?_
                  rotate_left 1
                  · (intro w hSw; (obtain ⟨q0, q1, q2, q3, q4, q5⟩ := hSw); go_simp; try with_reducible rfl)
                  try simp only [Act.put, List.getElem_toArray, List.getElem_cons_zero, List.getElem_cons_succ, List.setIfInBounds_toArray, List.set_cons_zero, List.set_cons_succ]
                  refine wpAnyH_take (i := 2) (v := ?_) rfl (by kernel_rfl) (by kernel_rfl) (by kernel_rfl) (fun _ _ _ h => h) (Or.inl ⟨by rfl, ?_⟩) (by assumption) ?_
                  rotate_left 1
                  · (intro w hSw; (obtain ⟨q0, q1, q2, q3, q4, q5⟩ := hSw); go_simp; try with_reducible rfl)
                  try simp only [Act.put, List.getElem_toArray, List.getElem_cons_zero, List.getElem_cons_succ, List.setIfInBounds_toArray, List.set_cons_zero, List.set_cons_succ]
                  refine wpAnyH_take (i := 3) (v := ?_) rfl (by kernel_rfl) (by kernel_rfl) (by kernel_rfl) (fun _ _ _ h => h) (Or.inl ⟨by rfl, ?_⟩) (by assumption) ?_
                  rotate_left 1
                  · (intro w hSw; (obtain ⟨q0, q1, q2, q3, q4, q5⟩ := hSw); go_simp; try with_reducible rfl)
                  try simp only [Act.put, List.getElem_toArray, List.getElem_cons_zero, List.getElem_cons_succ, List.setIfInBounds_toArray, List.set_cons_zero, List.set_cons_succ]
                  refine wpAnyH_take (i := 4) (v := ?_) rfl (by kernel_rfl) (by kernel_rfl) (by kernel_rfl) (fun _ _ _ h => h) (Or.inl ⟨by rfl, ?_⟩) (by assumption) ?_
                  rotate_left 1
                  · (intro w hSw; (obtain ⟨q0, q1, q2, q3, q4, q5⟩ := hSw); go_simp; try with_reducible rfl)
                  try simp only [Act.put, List.getElem_toArray, List.getElem_cons_zero, List.getElem_cons_succ, List.setIfInBounds_toArray, List.set_cons_zero, List.set_cons_succ]
                  refine wpAnyH_take (i := 5) (v := ?_) rfl (by kernel_rfl) (by kernel_rfl) (by kernel_rfl) (fun _ _ _ h => h) (Or.inl ⟨by rfl, ?_⟩) (by assumption) ?_
                  rotate_left 1
                  · (intro w hSw; (obtain ⟨q0, q1, q2, q3, q4, q5⟩ := hSw); go_simp; try with_reducible rfl)
                  try simp only [Act.put, List.getElem_toArray, List.getElem_cons_zero, List.getElem_cons_succ, List.setIfInBounds_toArray, List.set_cons_zero, List.set_cons_succ]
                  refine wpAnyH_take (i := 6) (v := ?_) rfl (by kernel_rfl) (by kernel_rfl) (by kernel_rfl) (fun _ _ _ h => h) (Or.inl ⟨by rfl, ?_⟩) (by assumption) ?_
                  rotate_left 1
                  · (intro w hSw; (obtain ⟨q0, q1, q2, q3, q4, q5⟩ := hSw); go_simp; try with_reducible rfl)
                  try simp only [Act.put, List.getElem_toArray, List.getElem_cons_zero, List.getElem_cons_succ, List.setIfInBounds_toArray, List.set_cons_zero, List.set_cons_succ]
                  refine wpAnyH_take (i := 7) (v := ?_) rfl (by kernel_rfl) (by kernel_rfl) (by kernel_rfl) (fun _ _ _ h => h) (Or.inl ⟨by rfl, ?_⟩) (by assumption) ?_
                  rotate_left 1
                  · (intro w hSw; (obtain ⟨q0, q1, q2, q3, q4, q5⟩ := hSw); go_simp; try with_reducible rfl)
                  try simp only [Act.put, List.getElem_toArray, List.getElem_cons_zero, List.getElem_cons_succ, List.setIfInBounds_toArray, List.set_cons_zero, List.set_cons_succ]
                  refine wpAnyH_take (i := 8) (v := ?_) rfl (by kernel_rfl) (by kernel_rfl) (by kernel_rfl) (fun _ _ _ h => h) (Or.inl ⟨by rfl, ?_⟩) (by assumption) ?_
                  rotate_left 1
                  · (intro w hSw; (obtain ⟨q0, q1, q2, q3, q4, q5⟩ := hSw); go_simp; try with_reducible rfl)
                  try simp only [Act.put, List.getElem_toArray, List.getElem_cons_zero, List.getElem_cons_succ, List.setIfInBounds_toArray, List.set_cons_zero, List.set_cons_succ]
                  refine wpAnyH_take (i := 9) (v := ?_) rfl (by kernel_rfl) (by kernel_rfl) (by kernel_rfl) (fun _ _ _ h => h) (Or.inl ⟨by rfl, ?_⟩) (by assumption) ?_
                  rotate_left 1
                  · (intro w hSw; (obtain ⟨q0, q1, q2, q3, q4, q5⟩ := hSw); go_simp; try with_reducible rfl)
                  try simp only [Act.put, List.getElem_toArray, List.getElem_cons_zero, List.getElem_cons_succ, List.setIfInBounds_toArray, List.set_cons_zero, List.set_cons_succ]
                  refine wpAnyH_take (i := 10) (v := ?_) rfl (by kernel_rfl) (by kernel_rfl) (by kernel_rfl) (fun _ _ _ h => h) (Or.inl ⟨by rfl, ?_⟩) (by assumption) ?_
                  rotate_left 1
                  · (intro w hSw; (obtain ⟨q0, q1, q2, q3, q4, q5⟩ := hSw); go_simp; try with_reducible rfl)
                  try simp only [Act.put, List.getElem_toArray, List.getElem_cons_zero, List.getElem_cons_succ, List.setIfInBounds_toArray, List.set_cons_zero, List.set_cons_succ]
                  refine wpAnyH_take (i := 11) (v := ?_) rfl (by kernel_rfl) (by kernel_rfl) (by kernel_rfl) (fun _ _ _ h => h) (Or.inl ⟨by rfl, ?_⟩) (by assumption) ?_
                  rotate_left 1
                  · (intro w hSw; (obtain ⟨q0, q1, q2, q3, q4, q5⟩ := hSw); go_simp; try with_reducible rfl)
                  try simp only [Act.put, List.getElem_toArray, List.getElem_cons_zero, List.getElem_cons_succ, List.setIfInBounds_toArray, List.set_cons_zero, List.set_cons_succ]
                  refine wpAnyH_take (i := 12) (v := ?_) rfl (by kernel_rfl) (by kernel_rfl) (by kernel_rfl) (fun _ _ _ h => h) (Or.inl ⟨by rfl, ?_⟩) (by assumption) ?_
                  rotate_left 1
                  · (intro w hSw; (obtain ⟨q0, q1, q2, q3, q4, q5⟩ := hSw); go_simp; try with_reducible rfl)
                  try simp only [Act.put, List.getElem_toArray, List.getElem_cons_zero, List.getElem_cons_succ, List.setIfInBounds_toArray, List.set_cons_zero, List.set_cons_succ]
                  refine wpAnyH_take (i := 13) (v := ?_) rfl (by kernel_rfl) (by kernel_rfl) (by kernel_rfl) (fun _ _ _ h => h) (Or.inl ⟨by rfl, ?_⟩) (by assumption) ?_
                  rotate_left 1
                  · (intro w hSw; (obtain ⟨q0, q1, q2, q3, q4, q5⟩ := hSw); go_simp; try with_reducible rfl)
                  try simp only [Act.put, List.getElem_toArray, List.getElem_cons_zero, List.getElem_cons_succ, List.setIfInBounds_toArray, List.set_cons_zero, List.set_cons_succ]
                  refine wpAnyH_take (i := 14) (v := ?_) rfl (by kernel_rfl) (by kernel_rfl) (by kernel_rfl) (fun _ _ _ h => h) (Or.inl ⟨by rfl, ?_⟩) (by assumption) ?_
                  rotate_left 1
                  · (intro w hSw; (obtain ⟨q0, q1, q2, q3, q4, q5⟩ := hSw); go_simp; try with_reducible rfl)
                  try simp only [Act.put, List.getElem_toArray, List.getElem_cons_zero, List.getElem_cons_succ, List.setIfInBounds_toArray, List.set_cons_zero, List.set_cons_succ]
                  refine wpAnyH_take (i := 15) (v := ?_) rfl (by kernel_rfl) (by kernel_rfl) (by kernel_rfl) (fun _ _ _ h => h) (Or.inl ⟨by rfl, ?_⟩) (by assumption) ?_
                  rotate_left 1
                  · (intro w hSw; (obtain ⟨q0, q1, q2, q3, q4, q5⟩ := hSw); go_simp; try with_reducible rfl)
                  try simp only [Act.put, List.getElem_toArray, List.getElem_cons_zero, List.getElem_cons_succ, List.setIfInBounds_toArray, List.set_cons_zero, List.set_cons_succ]
                  refine wpAnyH_take (i := 16) (v := ?_) rfl (by kernel_rfl) (by kernel_rfl) (by kernel_rfl) (fun _ _ _ h => h) (Or.inl ⟨by rfl, ?_⟩) (by assumption) ?_
                  rotate_left 1
                  · (intro w hSw; (obtain ⟨q0, q1, q2, q3, q4, q5⟩ := hSw); go_simp; try with_reducible rfl)
                  try simp only [Act.put, List.getElem_toArray, List.getElem_cons_zero, List.getElem_cons_succ, List.setIfInBounds_toArray, List.set_cons_zero, List.set_cons_succ]
                  refine wpAnyH_take (i := 17) (v := ?_) rfl (by kernel_rfl) (by kernel_rfl) (by kernel_rfl) (fun _ _ _ h => h) (Or.inl ⟨by rfl, ?_⟩) (by assumption) ?_
                  rotate_left 1
                  · (intro w hSw; (obtain ⟨q0, q1, q2, q3, q4, q5⟩ := hSw); go_simp; try with_reducible rfl)
                  try simp only [Act.put, List.getElem_toArray, List.getElem_cons_zero, List.getElem_cons_succ, List.setIfInBounds_toArray, List.set_cons_zero, List.set_cons_succ]
                  refine wpAnyH_ready (rs := [18]) (by kernel_rfl) (by simp) ?_
                  refine AllReadyH.cons rfl (fun K hK => ?_) AllReadyH.nil
                  go_simp
                  go_at_call 27
                  refine (cB _).mono ?_
                  rintro e w6 ⟨rfl, g6⟩
                  refine hK.out _ _ (⟨g6.keeps hHeld.1, g6.keeps hHeld.2.1, g6.keeps hHeld.2.2.1, g6.keeps hHeld.2.2.2.1, g6.keeps hHeld.2.2.2.2.1, g6.keeps hHeld.2.2.2.2.2⟩) (fun hHeld => ?_)
                  clear hK K
                  try simp only [Act.put, List.getElem_toArray, List.getElem_cons_zero, List.getElem_cons_succ, List.setIfInBounds_toArray, List.set_cons_zero, List.set_cons_succ]
                  refine wpAnyH_take (i := 19) (v := ?_) rfl (by kernel_rfl) (by kernel_rfl) (by kernel_rfl) (fun _ _ _ h => h) (Or.inl ⟨by rfl, ?_⟩) (by assumption) ?_
                  rotate_left 1
                  · (intro w hSw; (obtain ⟨q0, q1, q2, q3, q4, q5⟩ := hSw); go_simp; try with_reducible rfl)
                  try simp only [Act.put, List.getElem_toArray, List.getElem_cons_zero, List.getElem_cons_succ, List.setIfInBounds_toArray, List.set_cons_zero, List.set_cons_succ]
                  refine wpAnyH_take (i := 20) (v := ?_) rfl (by kernel_rfl) (by kernel_rfl) (by kernel_rfl) (fun _ _ _ h => h) (Or.inl ⟨by rfl, ?_⟩) (by assumption) ?_
                  rotate_left 1
                  · (intro w hSw; (obtain ⟨q0, q1, q2, q3, q4, q5⟩ := hSw); go_simp; try with_reducible rfl)
                  try simp only [Act.put, List.getElem_toArray, List.getElem_cons_zero, List.getElem_cons_succ, List.setIfInBounds_toArray, List.set_cons_zero, List.set_cons_succ]
                  refine wpAnyH_done (by kernel_rfl) ?_ _
                  have gdr : Gb wr wr.drew := ⟨rfl, rfl, rfl, Nat.le_refl _, fun _ _ => rfl⟩
                  have GZ : Hid (Gb w1 w6) := gb_trans (gb_trans G4.out (gb_trans Z.out gdr)) g6.gb
                  clear c0 c1 c2 hHeld k0 k1 k2 x0 x1 x2
                  go_wp2
                  go_roundw
                  case rel => exact ⟨i + 1, by simp, hin, GZ⟩
                  case measure => simp [intOf]; omega
              · have h1 : cnt L y j = 1 := by omega
                rw [h1]
                clear hc1 ht CH h1
                go_wp2_with fail
                refine wp_region_held_drew (S := fun w' => w'.cell? ⟨B, 0, none⟩ = some (.int .i64 y) ∧ w'.cell? ⟨B, 1, none⟩ = some (.int .u64 (hi D)) ∧ w'.cell? ⟨B, 2, none⟩ = some (.int .u64 (lo D))) (by kernel_rfl) (⟨c0, c1, c2⟩) (fun hHeld => ?_)
                refine wpAnyH_take (i := 0) (v := ?_) rfl (by kernel_rfl) (by kernel_rfl) (by kernel_rfl) (fun _ _ _ h => h) (Or.inl ⟨by rfl, ?_⟩) (by assumption) ?_
                rotate_left 1
                · (intro w hSw; (obtain ⟨q0, q1, q2⟩ := hSw); go_simp; try with_reducible rfl)
                try simp only [Act.put, List.getElem_toArray, List.getElem_cons_zero, List.setIfInBounds_toArray, List.set_cons_zero, List.set_cons_succ]
                refine wpAnyH_take (i := 1) (v := ?_) rfl (by kernel_rfl) (by kernel_rfl) (by kernel_rfl) (fun _ _ _ h => h) (Or.inl ⟨by rfl, ?_⟩) (by assumption) ?_
                rotate_left 1
                · (intro w hSw; (obtain ⟨q0, q1, q2⟩ := hSw); go_simp; try with_reducible rfl)
                try simp only [Act.put, List.getElem_toArray, List.getElem_cons_zero, List.getElem_cons_succ, List.setIfInBounds_toArray, List.set_cons_zero, List.set_cons_succ]
                refine wpAnyH_take (i := 2) (v := ?_) rfl (by kernel_rfl) (by kernel_rfl) (by kernel_rfl) (fun _ _ _ h => h) (Or.inl ⟨by rfl, ?_⟩) (by assumption) ?_
                rotate_left 1
                · (intro w hSw; (obtain ⟨q0, q1, q2⟩ := hSw); go_simp; try with_reducible rfl)
                try simp only [Act.put, List.getElem_toArray, List.getElem_cons_zero, List.getElem_cons_succ, List.setIfInBounds_toArray, List.set_cons_zero, List.set_cons_succ]
                refine wpAnyH_take (i := 3) (v := ?_) rfl (by kernel_rfl) (by kernel_rfl) (by kernel_rfl) (fun _ _ _ h => h) (Or.inl ⟨by rfl, ?_⟩) (by assumption) ?_
                rotate_left 1
                · (intro w hSw; (obtain ⟨q0, q1, q2⟩ := hSw); go_simp; try with_reducible rfl)
                try simp only [Act.put, List.getElem_toArray, List.getElem_cons_zero, List.getElem_cons_succ, List.setIfInBounds_toArray, List.set_cons_zero, List.set_cons_succ]
                refine wpAnyH_take (i := 4) (v := ?_) rfl (by kernel_rfl) (by kernel_rfl) (by kernel_rfl) (fun _ _ _ h => h) (Or.inl ⟨by rfl, ?_⟩) (by assumption) ?_
                rotate_left 1
                · (intro w hSw; (obtain ⟨q0, q1, q2⟩ := hSw); go_simp; try with_reducible rfl)
                try simp only [Act.put, List.getElem_toArray, List.getElem_cons_zero, List.getElem_cons_succ, List.setIfInBounds_toArray, List.set_cons_zero, List.set_cons_succ]
                refine wpAnyH_take (i := 5) (v := ?_) rfl (by kernel_rfl) (by kernel_rfl) (by kernel_rfl) (fun _ _ _ h => h) (Or.inl ⟨by rfl, ?_⟩) (by assumption) ?_
                rotate_left 1
                · (intro w hSw; (obtain ⟨q0, q1, q2⟩ := hSw); go_simp; try with_reducible rfl)
                try simp only [Act.put, List.getElem_toArray, List.getElem_cons_zero, List.getElem_cons_succ, List.setIfInBounds_toArray, List.set_cons_zero, List.set_cons_succ]
                refine wpAnyH_take (i := 6) (v := undef) rfl (by kernel_rfl) (by kernel_rfl) (by kernel_rfl) (fun _ _ _ h => h) (Or.inr ⟨by rfl, rfl⟩) (by assumption) ?_
                try simp only [Act.put, List.getElem_toArray, List.getElem_cons_zero, List.getElem_cons_succ, List.setIfInBounds_toArray, List.set_cons_zero, List.set_cons_succ]
                refine wpAnyH_take (i := 7) (v := undef) rfl (by kernel_rfl) (by kernel_rfl) (by kernel_rfl) (fun _ _ _ h => h) (Or.inr ⟨by rfl, rfl⟩) (by assumption) ?_
                try simp only [Act.put, List.getElem_toArray, List.getElem_cons_zero, List.getElem_cons_succ, List.setIfInBounds_toArray, List.set_cons_zero, List.set_cons_succ]
                refine wpAnyH_take (i := 8) (v := undef) rfl (by kernel_rfl) (by kernel_rfl) (by kernel_rfl) (fun _ _ _ h => h) (Or.inr ⟨by rfl, rfl⟩) (by assumption) ?_
                try simp only [Act.put, List.getElem_toArray, List.getElem_cons_zero, List.getElem_cons_succ, List.setIfInBounds_toArray, List.set_cons_zero, List.set_cons_succ]
                refine wpAnyH_take (i := 9) (v := ?_) rfl (by kernel_rfl) (by kernel_rfl) (by kernel_rfl) (fun _ _ _ h => h) (Or.inl ⟨by rfl, ?_⟩) (by assumption) ?_
                rotate_left 1
                · (intro w hSw; (obtain ⟨q0, q1, q2⟩ := hSw); go_simp; try with_reducible rfl)
                try simp only [Act.put, List.getElem_toArray, List.getElem_cons_zero, List.getElem_cons_succ, List.setIfInBounds_toArray, List.set_cons_zero, List.set_cons_succ]
                refine wpAnyH_take (i := 10) (v := ?_) rfl (by kernel_rfl) (by kernel_rfl) (by kernel_rfl) (fun _ _ _ h => h) (Or.inl ⟨by rfl, ?_⟩) (by assumption) ?_
                rotate_left 1
                · (intro w hSw; (obtain ⟨q0, q1, q2⟩ := hSw); go_simp; try with_reducible rfl)
                try simp only [Act.put, List.getElem_toArray, List.getElem_cons_zero, List.getElem_cons_succ, List.setIfInBounds_toArray, List.set_cons_zero, List.set_cons_succ]
                refine wpAnyH_take (i := 11) (v := undef) rfl (by kernel_rfl) (by kernel_rfl) (by kernel_rfl) (fun _ _ _ h => h) (Or.inr ⟨by rfl, rfl⟩) (by assumption) ?_
                try simp only [Act.put, List.getElem_toArray, List.getElem_cons_zero, List.getElem_cons_succ, List.setIfInBounds_toArray, List.set_cons_zero, List.set_cons_succ]
                refine wpAnyH_take (i := 12) (v := undef) rfl (by kernel_rfl) (by kernel_rfl) (by kernel_rfl) (fun _ _ _ h => h) (Or.inr ⟨by rfl, rfl⟩) (by assumption) ?_
                try simp only [Act.put, List.getElem_toArray, List.getElem_cons_zero, List.getElem_cons_succ, List.setIfInBounds_toArray, List.set_cons_zero, List.set_cons_succ]
                refine wpAnyH_take (i := 13) (v := undef) rfl (by kernel_rfl) (by kernel_rfl) (by kernel_rfl) (fun _ _ _ h => h) (Or.inr ⟨by rfl, rfl⟩) (by assumption) ?_
                try simp only [Act.put, List.getElem_toArray, List.getElem_cons_zero, List.getElem_cons_succ, List.setIfInBounds_toArray, List.set_cons_zero, List.set_cons_succ]
                refine wpAnyH_take (i := 14) (v := undef) rfl (by kernel_rfl) (by kernel_rfl) (by kernel_rfl) (fun _ _ _ h => h) (Or.inr ⟨by rfl, rfl⟩) (by assumption) ?_
                try simp only [Act.put, List.getElem_toArray, List.getElem_cons_zero, List.getElem_cons_succ, List.setIfInBounds_toArray, List.set_cons_zero, List.set_cons_succ]
                refine wpAnyH_take (i := 15) (v := undef) rfl (by kernel_rfl) (by kernel_rfl) (by kernel_rfl) (fun _ _ _ h => h) (Or.inr ⟨by rfl, rfl⟩) (by assumption) ?_
                try simp only [Act.put, List.getElem_toArray, List.getElem_cons_zero, List.getElem_cons_succ, List.setIfInBounds_toArray, List.set_cons_zero, List.set_cons_succ]
                refine wpAnyH_take (i := 16) (v := undef) rfl (by kernel_rfl) (by kernel_rfl) (by kernel_rfl) (fun _ _ _ h => h) (Or.inr ⟨by rfl, rfl⟩) (by assumption) ?_
                try simp only [Act.put, List.getElem_toArray, List.getElem_cons_zero, List.getElem_cons_succ, List.setIfInBounds_toArray, List.set_cons_zero, List.set_cons_succ]
                refine wpAnyH_take (i := 17) (v := undef) rfl (by kernel_rfl) (by kernel_rfl) (by kernel_rfl) (fun _ _ _ h => h) (Or.inr ⟨by rfl, rfl⟩) (by assumption) ?_
                try simp only [Act.put, List.getElem_toArray, List.getElem_cons_zero, List.getElem_cons_succ, List.setIfInBounds_toArray, List.set_cons_zero, List.set_cons_succ]
                refine wpAnyH_take (i := 18) (v := undef) rfl (by kernel_rfl) (by kernel_rfl) (by kernel_rfl) (fun _ _ _ h => h) (Or.inr ⟨by rfl, rfl⟩) (by assumption) ?_
                try simp only [Act.put, List.getElem_toArray, List.getElem_cons_zero, List.getElem_cons_succ, List.setIfInBounds_toArray, List.set_cons_zero, List.set_cons_succ]
                refine wpAnyH_take (i := 19) (v := ?_) rfl (by kernel_rfl) (by kernel_rfl) (by kernel_rfl) (fun _ _ _ h => h) (Or.inl ⟨by rfl, ?_⟩) (by assumption) ?_
                rotate_left 1
                · (intro w hSw; (obtain ⟨q0, q1, q2⟩ := hSw); go_simp; try with_reducible rfl)
                try simp only [Act.put, List.getElem_toArray, List.getElem_cons_zero, List.getElem_cons_succ, List.setIfInBounds_toArray, List.set_cons_zero, List.set_cons_succ]
                refine wpAnyH_take (i := 20) (v := ?_) rfl (by kernel_rfl) (by kernel_rfl) (by kernel_rfl) (fun _ _ _ h => h) (Or.inl ⟨by rfl, ?_⟩) (by assumption) ?_
                rotate_left 1
                · (intro w hSw; (obtain ⟨q0, q1, q2⟩ := hSw); go_simp; try with_reducible rfl)
                try simp only [Act.put, List.getElem_toArray, List.getElem_cons_zero, List.getElem_cons_succ, List.setIfInBounds_toArray, List.set_cons_zero, List.set_cons_succ]
                refine wpAnyH_done (by kernel_rfl) ?_ _
                have GZ : Hid (Gb w1 wr.drew) := gb_trans G4.out (gb_trans Z.out ⟨rfl, rfl, rfl, Nat.le_refl _, fun _ _ => rfl⟩)
                clear c0 c1 c2 hHeld k0 k1 k2
                go_wp2
                go_roundw
                case rel => exact ⟨i + 1, by simp, hin, GZ⟩
                case measure => simp [intOf]; omega
        · have hini : ¬ (i : Int) < (n : Int) := by omega
          have G5 := Y.out
          clear Y
          go_wp2
          go_loopw [15] (fun nv w' => ∃ j : Nat, nv = .int .i64 (j : Int) ∧ 1 ≤ j ∧ j ≤ 65 ∧ Hid (Gb w1 w')) (fun nv _ => 66 - (intOf nv).toNat)
          case atStart => exact ⟨1, rfl, Nat.le_refl _, by omega, G5⟩
          case round =>
            obtain ⟨j, rfl, hj1, hj2, Z⟩ := hrel
            clear G5
            by_cases hjP : j < P
            · have hjPi : (j : Int) < (P : Int) := by omega
              obtain ⟨p, rfl⟩ : ∃ p, j = p + 1 := ⟨j - 1, by omega⟩
              have hpL : p + 1 < L.length := by have := PH.out; omega
              obtain ⟨b1, o1, ea, hl⟩ := LI.out p (by omega)
              obtain ⟨x0, x1, x2⟩ := (hl.gr Z.out) p (by omega)
              obtain ⟨y0, y1, y2⟩ := (hl.gr Z.out) (p + 1) hpL
              have hlt := told_rise (q := q) (k := k.toNat) OK.out.ids (n := p) (by rw [← LH.out]; exact hpL)
              obtain ⟨r, hr, er⟩ := told_row (rs := rs) (q := q) (k := k.toNat) (n := p) (by rw [← LH.out]; omega)
              obtain ⟨r', hr', er'⟩ := told_row (rs := rs) (q := q) (k := k.toNat) (n := p + 1) (by rw [← LH.out]; exact hpL)
              rw [← LH.out] at er er' hlt
              rw [er] at x0 x1 x2 hlt
              rw [er'] at y0 y1 y2 hlt
              have cB := fun W => before_c r.1 r'.1 (dst q r.2) (dst q r'.2) (row_lt AK.out hr) (row_lt AK.out hr') W
              rw [hlt] at cB
              have x0 : wr.cell? ⟨b1, o1 + p * 3, none⟩ = some (.int .i64 r.1) := x0
              have x1 : wr.cell? ⟨b1, o1 + p * 3 + 1, none⟩ = some (.int .u64 (hi (dst q r.2))) := x1
              have x2 : wr.cell? ⟨b1, o1 + p * 3 + 2, none⟩ = some (.int .u64 (lo (dst q r.2))) := x2
              have y0 : wr.cell? ⟨b1, o1 + (p + 1) * 3, none⟩ = some (.int .i64 r'.1) := y0
              have y1 : wr.cell? ⟨b1, o1 + (p + 1) * 3 + 1, none⟩ = some (.int .u64 (hi (dst q r'.2))) := y1
              have y2 : wr.cell? ⟨b1, o1 + (p + 1) * 3 + 2, none⟩ = some (.int .u64 (lo (dst q r'.2))) := y2
              generalize r'.1 = yi at *
              generalize hi (dst q r'.2) = yh at *
              generalize lo (dst q r'.2) = yl at *
              generalize r.1 = xi at *
              generalize hi (dst q r.2) = xh at *
              generalize lo (dst q r.2) = xl at *
              subst ea
              have hp1 : ((p + 1 : Nat) : Int) - 1 = (p : Int) := by omega
              have hp1' : (p : Int) + 1 - 1 = (p : Int) := by omega
              have hp2 : IntKind.i64.wrap (p : Int) = (p : Int) := wrap_i64 (by omega)
              have hp4 : (p : Int) < (P : Int) := by omega
              have hp5 : (p : Int) + 1 < (P : Int) := by omega
              have hp6 : (0 : Int) ≤ (p : Int) + 1 := by omega
              clear hl hpL hlt hr' er er' hr
              go_wp2_with fail
              refine wp_region_held_drew (S := fun w' => w'.cell? ⟨b1, o1 + p * 3, none⟩ = some (.int .i64 xi) ∧ w'.cell? ⟨b1, o1 + p * 3 + 1, none⟩ = some (.int .u64 xh) ∧ w'.cell? ⟨b1, o1 + p * 3 + 2, none⟩ = some (.int .u64 xl) ∧ w'.cell? ⟨b1, o1 + (p + 1) * 3, none⟩ = some (.int .i64 yi) ∧ w'.cell? ⟨b1, o1 + (p + 1) * 3 + 1, none⟩ = some (.int .u64 yh) ∧ w'.cell? ⟨b1, o1 + (p + 1) * 3 + 2, none⟩ = some (.int .u64 yl)) (by kernel_rfl) (⟨x0, x1, x2, y0, y1, y2⟩) (fun hHeld => ?_)
              refine wpAnyH_take (i := 0) (v := ?_) rfl (by kernel_rfl) (by kernel_rfl) (by kernel_rfl) (fun _ _ _ h => h) (Or.inl ⟨by rfl, ?_⟩) (by assumption) ?_
              rotate_left 1
              · (intro w hSw; (obtain ⟨q0, q1, q2, q3, q4, q5⟩ := hSw); go_simp; try with_reducible rfl)
              try simp only [Act.put, List.getElem_toArray, List.getElem_cons_zero, List.setIfInBounds_toArray, List.set_cons_zero, List.set_cons_succ]
              refine wpAnyH_take (i := 1) (v := ?_) rfl (by kernel_rfl) (by kernel_rfl) (by kernel_rfl) (fun _ _ _ h => h) (Or.inl ⟨by rfl, ?_⟩) (by assumption) ?_
              rotate_left 1
              · (intro w hSw; (obtain ⟨q0, q1, q2, q3, q4, q5⟩ := hSw); go_simp; try with_reducible rfl)
              try simp only [Act.put, List.getElem_toArray, List.getElem_cons_zero, List.getElem_cons_succ, List.setIfInBounds_toArray, List.set_cons_zero, List.set_cons_succ]
              refine wpAnyH_take (i := 2) (v := ?_) rfl (by kernel_rfl) (by kernel_rfl) (by kernel_rfl) (fun _ _ _ h => h) (Or.inl ⟨by rfl, ?_⟩) (by assumption) ?_
              rotate_left 1
              · (intro w hSw; (obtain ⟨q0, q1, q2, q3, q4, q5⟩ := hSw); go_simp; try with_reducible rfl)
              try simp only [Act.put, List.getElem_toArray, List.getElem_cons_zero, List.getElem_cons_succ, List.setIfInBounds_toArray, List.set_cons_zero, List.set_cons_succ]
              refine wpAnyH_take (i := 3) (v := ?_) rfl (by kernel_rfl) (by kernel_rfl) (by kernel_rfl) (fun _ _ _ h => h) (Or.inl ⟨by rfl, ?_⟩) (by assumption) ?_
              rotate_left 1
              · (intro w hSw; (obtain ⟨q0, q1, q2, q3, q4, q5⟩ := hSw); go_simp; try with_reducible rfl)
              try simp only [Act.put, List.getElem_toArray, List.getElem_cons_zero, List.getElem_cons_succ, List.setIfInBounds_toArray, List.set_cons_zero, List.set_cons_succ]
              refine wpAnyH_take (i := 4) (v := ?_) rfl (by kernel_rfl) (by kernel_rfl) (by kernel_rfl) (fun _ _ _ h => h) (Or.inl ⟨by rfl, ?_⟩) (by assumption) ?_
              rotate_left 1
              · (intro w hSw; (obtain ⟨q0, q1, q2, q3, q4, q5⟩ := hSw); go_simp; try with_reducible rfl)
              try simp only [Act.put, List.getElem_toArray, List.getElem_cons_zero, List.getElem_cons_succ, List.setIfInBounds_toArray, List.set_cons_zero, List.set_cons_succ]
              refine wpAnyH_take (i := 5) (v := ?_) rfl (by kernel_rfl) (by kernel_rfl) (by kernel_rfl) (fun _ _ _ h => h) (Or.inl ⟨by rfl, ?_⟩) (by assumption) ?_
              rotate_left 1
              · (intro w hSw; (obtain ⟨q0, q1, q2, q3, q4, q5⟩ := hSw); go_simp; try with_reducible rfl)
              try simp only [Act.put, List.getElem_toArray, List.getElem_cons_zero, List.getElem_cons_succ, List.setIfInBounds_toArray, List.set_cons_zero, List.set_cons_succ]
              refine wpAnyH_take (i := 6) (v := ?_) rfl (by kernel_rfl) (by kernel_rfl) (by kernel_rfl) (fun _ _ _ h => h) (Or.inl ⟨by rfl, ?_⟩) (by assumption) ?_
              rotate_left 1
              · (intro w hSw; (obtain ⟨q0, q1, q2, q3, q4, q5⟩ := hSw); go_simp; try with_reducible rfl)
              try simp only [Act.put, List.getElem_toArray, List.getElem_cons_zero, List.getElem_cons_succ, List.setIfInBounds_toArray, List.set_cons_zero, List.set_cons_succ]
              refine wpAnyH_take (i := 7) (v := ?_) rfl (by kernel_rfl) (by kernel_rfl) (by kernel_rfl) (fun _ _ _ h => h) (Or.inl ⟨by rfl, ?_⟩) (by assumption) ?_
              rotate_left 1
              · (intro w hSw; (obtain ⟨q0, q1, q2, q3, q4, q5⟩ := hSw); go_simp; try with_reducible rfl)
              try simp only [Act.put, List.getElem_toArray, List.getElem_cons_zero, List.getElem_cons_succ, List.setIfInBounds_toArray, List.set_cons_zero, List.set_cons_succ]
              refine wpAnyH_take (i := 8) (v := ?_) rfl (by kernel_rfl) (by kernel_rfl) (by kernel_rfl) (fun _ _ _ h => h) (Or.inl ⟨by rfl, ?_⟩) (by assumption) ?_
              rotate_left 1
              · (intro w hSw; (obtain ⟨q0, q1, q2, q3, q4, q5⟩ := hSw); go_simp; try with_reducible rfl)
              try simp only [Act.put, List.getElem_toArray, List.getElem_cons_zero, List.getElem_cons_succ, List.setIfInBounds_toArray, List.set_cons_zero, List.set_cons_succ]
              refine wpAnyH_ready (rs := [9]) (by kernel_rfl) (by simp) ?_
              refine AllReadyH.cons rfl (fun K hK => ?_) AllReadyH.nil
              go_simp
              go_at_call 27
              refine (cB _).mono ?_
              rintro e w6 ⟨rfl, g6⟩
              refine hK.out _ _ (⟨g6.keeps hHeld.1, g6.keeps hHeld.2.1, g6.keeps hHeld.2.2.1, g6.keeps hHeld.2.2.2.1, g6.keeps hHeld.2.2.2.2.1, g6.keeps hHeld.2.2.2.2.2⟩) (fun hHeld => ?_)
              clear hK K
              try simp only [Act.put, List.getElem_toArray, List.getElem_cons_zero, List.getElem_cons_succ, List.setIfInBounds_toArray, List.set_cons_zero, List.set_cons_succ]
              refine wpAnyH_take (i := 10) (v := ?_) rfl (by kernel_rfl) (by kernel_rfl) (by kernel_rfl) (fun _ _ _ h => h) (Or.inl ⟨by rfl, ?_⟩) (by assumption) ?_
              rotate_left 1
              · (intro w hSw; (obtain ⟨q0, q1, q2, q3, q4, q5⟩ := hSw); go_simp; try with_reducible rfl)
              try simp only [Act.put, List.getElem_toArray, List.getElem_cons_zero, List.getElem_cons_succ, List.setIfInBounds_toArray, List.set_cons_zero, List.set_cons_succ]
              refine wpAnyH_done (by kernel_rfl) ?_ _
              have gdr : Gb wr wr.drew := ⟨rfl, rfl, rfl, Nat.le_refl _, fun _ _ => rfl⟩
              have GZ : Hid (Gb w1 w6) := gb_trans (gb_trans Z.out gdr) g6.gb
              clear x0 x1 x2 y0 y1 y2 hHeld
              go_wp2
              go_roundw
              case rel => exact ⟨p + 1 + 1, by simp, by omega, by omega, GZ⟩
              case measure => simp [intOf]; omega
            · have hjPi : ¬ (j : Int) < (P : Int) := by omega
              have hmin : min k (n : Int) = (P : Int) := by
                have h1 := PH.out
                have h2 := NH.out
                have h3 := K1.out
                rw [LH.out, Tk.firsts_len, hitsOf_len] at h1
                omega
              have Z' := Z.out
              clear Z
              go_wp2_with fail
              refine (awake_c _).mono ?_
              rintro e w8 ⟨rfl, g8⟩
              go_wp2
              go_ret
              exact ⟨rfl, gb_trans g1 (gb_trans Z' g8)⟩
    · have hz' : (topE rs q k == 0) = false := by rw [beq_eq_false_iff_ne]; exact hz
      have ZH : Hid (topE rs q k ≠ 0) := hz
      generalize topE rs q k = z at *
      clear hz
      go_wp2_with fail
      refine ctop.mono ?_
      rintro e w1 ⟨v', rfl, g1, e1, _⟩
      obtain rfl := e1 ZH.out
      clear ctop e1
      go_wp2_with fail
      refine (awake_c _).mono ?_
      rintro e w2 ⟨rfl, g2⟩
      go_wp2
      go_ret
      exact ⟨rfl, gb_trans g1 g2⟩
end Go.Proofs.YteaeaoekaoedoaaGreat
