/- FlatWhole: the walk. -/
import Derived.Test.YteaeaoekaoedoaaFAwake
import Derived.Test.YteaeaoekaoedoaaFBg
import Derived.Test.YteaeaoekaoedoaaFWholeM
import Derived.Test.YteaeaoekaoedoaaRLess
namespace Go.Proofs.Yteaeaoekaoedoaa
open Go.RowKit Go.Sort
attribute [local go_sem ↓] Go.wp_at_zero Go.wp_at_succ

theorem wrap64 {n : Int} (h : n.natAbs < 9223372036854775808) : IntKind.i64.wrap n = n := by
  unfold IntKind.wrap IntKind.signed IntKind.bits
  simp
  omega
set_option maxRecDepth 100000 in
set_option maxHeartbeats 4000000 in
theorem whole_law {w : World} {a : Option Addr} {n cap : Nat} {u : Value} {rs : List Rw} {q : List Int} (hv : RdW w (.slice a n cap) rs) (hcap : n ≤ cap) (hu : RdI w u q) (hwf : Wf rs) (k more : Int) :
    Calls Try.prog 4 #[.slice a n cap, u, .int .i64 k, .int .i64 more] w fun e w' => e = .returned (.bool true) ∧ Gb w w' := by
  have cbig := big_c hv hu (Nat.le_trans hwf.1 (by decide))
  have ctop := topk_c hv hu hwf k
  have hnr : n = rs.length := by obtain ⟨_, _, e, _⟩ := hv; injection e
  have NH : Hid (n = rs.length) := hnr
  have V : Hid (RdW w (.slice a n cap) rs) := hv
  have U : Hid (RdI w u q) := hu
  have WH : Hid (Wf rs) := hwf
  obtain ⟨au, cu, rfl, _⟩ := hu
  obtain ⟨m, hm⟩ : ∃ m, m = q.length := ⟨_, rfl⟩
  rw [← hm] at U cbig ctop ⊢
  rw [← hnr] at cbig
  clear hm hwf hv hnr
  go_enter Try.func4, Try.ntmps4
  go_wp2_with fail
  refine cbig.mono ?_
  rintro e w' ⟨b, rfl, hb, e2⟩
  subst e2
  clear cbig
  cases b with
  | true =>
    clear ctop
    go_wp2
    go_ret
    exact ⟨rfl, Below.refl _ _⟩
  | false =>
    obtain ⟨hn, _⟩ := hb rfl
    clear hb
    by_cases h1 : more < 0
    · clear ctop
      go_wp2
      go_ret
      exact ⟨rfl, Below.refl _ _⟩
    by_cases h2 : 1000 < more
    · clear ctop
      go_wp2
      go_ret
      exact ⟨rfl, Below.refl _ _⟩
    obtain ⟨M, rfl⟩ : ∃ M : Nat, more = (M : Int) := ⟨more.toNat, by omega⟩
    have hM : M ≤ 1000 := by omega
    have hnM : (n : Int) + (M : Int) ≤ 3000 := by omega
    have hcast : ((n + M : Nat) : Int) = (n : Int) + (M : Int) := by omega
    by_cases hz : topE rs q k = 0
    · have hask := (topE_zero.1 hz).1
      have ZH : Hid (topE rs q k = 0 ∧ askE rs q = 0) := ⟨hz, hask⟩
      rw [hz] at ctop
      clear hz hask
      go_wp2_with fail
      refine ctop.mono ?_
      rintro e wa ⟨v1, rfl, g1, _, o1⟩
      obtain ⟨o1, _, _⟩ := o1 (by first | rfl | trivial)
      clear ctop
      have cS := search_ok (V.out.gb g1) hcap (U.out.gb g1) WH.out k ZH.out.1 (n + M) (by omega)
      rw [hcast, show min (n + M) n = n by omega] at cS
      go_wp2_with fail
      refine cS.mono ?_
      rintro e wb ⟨vh, vs, vr, rfl, B1, B2, _, _, _, g2, o2, _, o3, _, o4⟩
      clear cS
      rw [List.take_of_length_le (by rw [← NH.out]; exact Nat.le_refl _)] at o2
      have e2 : ∃ x y z, vs = Value.slice x y z := by obtain ⟨x, z, e, _⟩ := o3.rd; exact ⟨_, _, _, e⟩
      have e3 : ∃ x y z, vr = Value.slice x y z := by
        rcases o4 with ⟨_, e⟩ | ⟨_, vi, g, e, _⟩
        · exact ⟨_, _, _, e⟩
        · exact ⟨_, _, _, e⟩
      obtain ⟨s1, s2, s3, rfl⟩ := e2
      obtain ⟨r1, r2, r3, rfl⟩ := e3
      clear o3 o4
      have o1 := Tk.own_gr o1 g2
      have hL64 : (Tk.firsts k.toNat (hitsOf q rs)).length ≤ 64 := by rw [Tk.firsts_len]; have := (topE_zero.1 ZH.out.1).2; omega
      by_cases h0 : (Tk.firsts k.toNat (hitsOf q rs)).length = 0
      · have e1 : v1 = .slice none 0 0 ∨ ∃ g c, v1 = .slice (some ⟨g, 0, none⟩) 0 c := by
          rcases o1.2 with ⟨e, _⟩ | ⟨g, c, cur, e, _⟩
          · exact .inl e
          · exact .inr ⟨g, c, by rw [e]; simp [h0]⟩
        have e4 : ∃ x c, vh = .slice x 0 c := by
          rcases o2.2 with ⟨e, _⟩ | ⟨g, c, cur, e, _⟩
          · exact ⟨_, _, e⟩
          · exact ⟨some ⟨g, 0, none⟩, c, by rw [e]; simp [h0]⟩
        obtain ⟨x4, c4, rfl⟩ := e4
        obtain ⟨x1, c1, rfl⟩ : ∃ x c, v1 = .slice x 0 c := by
          rcases e1 with e | ⟨g, c, e⟩
          · exact ⟨_, _, e⟩
          · exact ⟨_, _, e⟩
        clear o1 o2 h0 hL64 e1
        go_wp2_with fail
        refine (awake_c _).mono ?_
        rintro e wc ⟨rfl, g3⟩
        have cb := gb_keeps g3 (show (wb.alloc (.cells #[.slice x4 0 c4, .slice s1 s2 s3, .slice r1 r2 r3] 35)).cell? ⟨wb.heap.size, 0, none⟩ = some (.slice x4 0 c4) by simp [go_sem])
        go_wp2
        go_ret
        exact ⟨rfl, gb_trans g1 (gb_trans g2 (gb_trans (gb_alloc (Below.refl _ _) _) g3))⟩
      · obtain ⟨p, hp⟩ : ∃ p, (Tk.firsts k.toNat (hitsOf q rs)).length = p + 1 := ⟨(Tk.firsts k.toNat (hitsOf q rs)).length - 1, by omega⟩
        clear h0
        have hmax := last_max hp
        have hmem : (Tk.firsts k.toNat (hitsOf q rs))[p]! ∈ Tk.firsts k.toNat (hitsOf q rs) := by rw [getElem!_pos _ p (by omega)]; exact List.getElem_mem _
        have wn := whole_near hmax
        have wr' := whole_rest hmem
        obtain ⟨ga, ca, rfl, hca, la⟩ := own_sl o1 (by omega)
        obtain ⟨gh, ch, rfl, _, lh⟩ := own_sl o2 (by omega)
        have hin : ∀ x ∈ Tk.firsts k.toNat (hitsOf q rs), ∃ r ∈ rs, x = hitOf q r := fun x hx => by
          obtain ⟨r, hr, e⟩ := List.mem_map.1 ((Tk.srt_perm _).subset ((List.take_sublist _ _).subset hx)); exact ⟨r, hr, e.symm⟩
        have hinS : ∀ x ∈ Tk.srt (nearL (Tk.firsts k.toNat (hitsOf q rs))[p]!.2.1 (Tk.firsts k.toNat (hitsOf q rs))[p]!.2.2 q rs), ∃ r ∈ rs, x = hitOf q r := fun x hx => by
          have h1 := (Tk.srt_perm _).subset hx
          unfold nearL at h1
          obtain ⟨r, hr, e⟩ := List.mem_map.1 (List.mem_filter.1 h1).1; exact ⟨r, hr, e.symm⟩
        obtain ⟨rz, hrz, ez⟩ := hin _ hmem
        have xz := la p (by omega)
        have cR := fun W (g : Gb w W) => rng_ok (Tk.firsts k.toNat (hitsOf q rs))[p]!.2.1 (Tk.firsts k.toNat (hitsOf q rs))[p]!.2.2 (V.out.gb g) (U.out.gb g) WH.out ZH.out.2
        have hWN : Tk.srt (nearL (Tk.firsts k.toNat (hitsOf q rs))[p]!.2.1 (Tk.firsts k.toNat (hitsOf q rs))[p]!.2.2 q rs) = Tk.firsts k.toNat (hitsOf q rs) ++ ((Tk.srt (hitsOf q rs)).drop k.toNat).filter (inRad (Tk.firsts k.toNat (hitsOf q rs))[p]!.2.1 (Tk.firsts k.toNat (hitsOf q rs))[p]!.2.2) := wn
        generalize hL : Tk.firsts k.toNat (hitsOf q rs) = L at *
        rw [ez] at cR hWN wr' xz hinS
        dsimp only at cR hWN wr' hinS
        have xz : wb.cell? ⟨ga, 0 + p * 3, none⟩ = some (.int .i64 rz.1) ∧ wb.cell? ⟨ga, 0 + p * 3 + 1, none⟩ = some (.int .u64 (hi (dst q rz.2))) ∧ wb.cell? ⟨ga, 0 + p * 3 + 2, none⟩ = some (.int .u64 (lo (dst q rz.2))) := xz
        obtain ⟨mz, hmz⟩ : ∃ mz, mz = dst q rz.2 := ⟨_, rfl⟩
        have hmzl : mz < 340282366920938463463374607431768211456 := by rw [hmz]; exact row_lt5 ZH.out.2 hrz
        rw [← hmz] at cR hWN wr' xz hinS
        generalize ((Tk.srt (hitsOf q rs)).drop k.toNat).filter (inRad (hi mz) (lo mz)) = R at *
        have hC2 : (Tk.srt (nearL (hi mz) (lo mz) q rs)).length ≤ 2000 := by rw [Tk.srt_len]; have := nearL_len (hi mz) (lo mz) q rs; have := NH.out; omega
        generalize Tk.srt (nearL (hi mz) (lo mz) q rs) = C at *
        have RH : Hid (∀ y ∈ R, Tk.hlt y (rz.1, hi mz, lo mz) = false) := by rw [hmz]; exact wr'
        have CH : Hid (∀ x ∈ C, ∃ r ∈ rs, x = hitOf q r) := hinS
        have hCt : C.take (p + 1) = L := by rw [hWN, List.take_append_of_le_length (by omega), List.take_of_length_le (by omega)]
        have hCl : C.length = p + 1 + R.length := by rw [hWN, List.length_append, hp]
        have WN : Hid (C = L ++ R) := hWN
        have AZ : Hid (askE rs q = 0) := ZH.out.2
        obtain ⟨_, xz1, xz2⟩ := xz
        rw [Nat.zero_add] at xz1 xz2
        rw [hp] at hca hL64 ⊢
        clear wn wr' hinS hmax hmem hin ez hL hmz o1 o2 hWN ZH
        have gA : Gb wb (wb.alloc (.cells #[.slice (some ⟨gh, 0, none⟩) (p + 1) ch, .slice s1 s2 s3, .slice r1 r2 r3] 35)) := gb_alloc (Below.refl _ _) _
        have gB : Gb w (wb.alloc (.cells #[.slice (some ⟨gh, 0, none⟩) (p + 1) ch, .slice s1 s2 s3, .slice r1 r2 r3] 35)) := gb_trans g1 (gb_trans g2 gA)
        have cRR := cR _ gB
        clear cR
        have x1 := gb_keeps gA xz1
        have x2 := gb_keeps gA xz2
        have x2' : (wb.alloc (.cells #[.slice (some ⟨gh, 0, none⟩) (p + 1) ch, .slice s1 s2 s3, .slice r1 r2 r3] 35)).cell? ⟨ga, p * 3 + 1 + 1, none⟩ = some (.int .u64 (lo mz)) := x2
        have hp1 : ((p + 1 : Nat) : Int) - 1 = (p : Int) := by omega
        have hp1' : (p : Int) + 1 - 1 = (p : Int) := by omega
        have hp2 : IntKind.i64.wrap (p : Int) = (p : Int) := wrap64 (by omega)
        have hp3 : (p : Int) < (p : Int) + 1 := by omega
        have hp4 : ¬ ((p : Int) + 1 = 0) := by omega
        have hp5 : ((p : Int) + 1 == 0) = false := by rw [beq_eq_false_iff_ne]; omega
        go_wp2_with fail
        refine cRR.mono ?_
        rintro e wc ⟨v3, rfl, o5, g5, _⟩
        clear cRR
        obtain ⟨gc, cc, rfl, hcc, lc⟩ := own_sl o5 (by omega)
        clear o5
        obtain ⟨N, hN⟩ : ∃ N, N = C.length := ⟨_, rfl⟩
        have NC : Hid (N = C.length) := hN
        rw [← hN] at hcc ⊢
        have hN1 : p + 1 ≤ N := by omega
        have hN5 : N ≤ 2000 := by omega
        have hN2 : ¬ ((N : Int) < (p : Int) + 1) := by omega
        have hN3 : (p : Int) + 1 ≤ (cc : Int) := by omega
        have hN4 : p + 1 ≤ cc := by omega
        have PH : Hid (L.length = p + 1 ∧ N = p + 1 + R.length) := ⟨hp, by omega⟩
        have cH1 := Tk.same_c (rd_take (cap := cc) lc rfl (c := p + 1) (by omega)) (.inr (.inr ⟨ga, 0, ca, by rw [hp], (la.gr gA).gr g5⟩)) (by rw [List.length_take]; omega)
        rw [decide_eq_true hCt] at cH1
        clear hN hCl hp hCt hC2
        go_wp2_with fail
        refine cH1.mono ?_
        rintro e wd ⟨rfl, gd⟩
        clear cH1
        have cA := gb_keeps gd (gb_keeps g5 (show (wb.alloc (.cells #[.slice (some ⟨gh, 0, none⟩) (p + 1) ch, .slice s1 s2 s3, .slice r1 r2 r3] 35)).cell? ⟨wb.heap.size, 0, none⟩ = some (.slice (some ⟨gh, 0, none⟩) (p + 1) ch) by simp [go_sem]))
        have cH2 := Tk.same_c (.inr (.inr ⟨gh, 0, ch, by rw [PH.out.1], ((lh.gr gA).gr g5).gr gd⟩)) (.inr (.inr ⟨ga, 0, ca, by rw [PH.out.1], ((la.gr gA).gr g5).gr gd⟩)) (by rw [PH.out.1]; omega)
        rw [decide_eq_true rfl] at cH2
        go_wp2_with fail
        refine cH2.mono ?_
        rintro e we ⟨rfl, ge⟩
        clear cH2
        have G5 : Gb (wb.alloc (.cells #[.slice (some ⟨gh, 0, none⟩) (p + 1) ch, .slice s1 s2 s3, .slice r1 r2 r3] 35)) we := gb_trans g5 (gb_trans gd ge)
        have x1 := gb_keeps G5 x1
        have x2 := gb_keeps G5 x2'
        have lc := (lc.gr gd).gr ge
        have gE := gb_trans gB G5
        clear x2' cA G5 gA gB g5 gd ge la lh xz1 xz2
        go_wp2
        go_loopw [15] (fun nv w' => ∃ j : Nat, nv = .int .i64 (j : Int) ∧ p + 1 ≤ j ∧ j ≤ N ∧ Hid (Gb we w')) (fun nv _ => N - (intOf nv).toNat)
        case atStart => exact ⟨p + 1, by simp, Nat.le_refl _, hN1, Below.refl _ _⟩
        case round =>
          obtain ⟨j, rfl, hj1, hj2, Z⟩ := hrel
          by_cases hjN : j < N
          · have hjNi : (j : Int) < (N : Int) := by omega
            have hjC : j < C.length := by have := NC.out; omega
            obtain ⟨_, y1, y2⟩ := (lc.gr Z.out) j hjC
            have hjm : C[j]! ∈ C := by rw [getElem!_pos C j hjC]; exact List.getElem_mem hjC
            have hjR : C[j]! ∈ R := by
              have e := WN.out
              have hR : j - (p + 1) < R.length := by have := PH.out.2; omega
              rw [getElem!_pos C j hjC]
              have e2 : C[j] = R[j - (p + 1)] := by
                have h1 := PH.out.1
                simp only [e]
                rw [List.getElem_append_right (by omega)]
                simp only [h1]
              rw [e2]; exact List.getElem_mem _
            obtain ⟨rc, hrc, ec⟩ := CH.out _ hjm
            have hlt := RH.out _ hjR
            rw [ec] at y1 y2 hlt
            have y1 : wr.cell? ⟨gc, 0 + j * 3 + 1, none⟩ = some (.int .u64 (hi (dst q rc.2))) := y1
            have y2 : wr.cell? ⟨gc, 0 + j * 3 + 2, none⟩ = some (.int .u64 (lo (dst q rc.2))) := y2
            rw [Nat.zero_add] at y1 y2
            have y2 : wr.cell? ⟨gc, j * 3 + 1 + 1, none⟩ = some (.int .u64 (lo (dst q rc.2))) := y2
            have hml := row_lt5 AZ.out hrc
            have hnl : ¬ dst q rc.2 < mz := by
              intro h
              rw [← Bool.not_eq_true, hlt_hit] at hlt
              exact hlt (.inl h)
            obtain ⟨mc, hmc⟩ : ∃ mc, mc = dst q rc.2 := ⟨_, rfl⟩
            rw [← hmc] at y1 y2 hml hnl
            have cL := fun W => less_any mc mz hml hmzl W
            rw [decide_eq_false hnl] at cL
            have x1 := gb_keeps Z.out x1
            have x2 := gb_keeps Z.out x2
            clear hlt hjR hjm hjC hmc ec hrc hnl hml
            go_wp2_with fail
            refine wp_region_held_drew (S := fun w' => w'.cell? ⟨gc, j * 3 + 1, none⟩ = some (.int .u64 (hi mc)) ∧ w'.cell? ⟨gc, j * 3 + 1 + 1, none⟩ = some (.int .u64 (lo mc)) ∧ w'.cell? ⟨ga, p * 3 + 1, none⟩ = some (.int .u64 (hi mz)) ∧ w'.cell? ⟨ga, p * 3 + 1 + 1, none⟩ = some (.int .u64 (lo mz))) (by kernel_rfl) (⟨y1, y2, x1, x2⟩) (fun hHeld => ?_)
            refine wpAnyH_take (i := 0) (v := ?_) rfl (by kernel_rfl) (by kernel_rfl) (by kernel_rfl) (fun _ _ _ h => h) (Or.inl ⟨by rfl, ?_⟩) (by assumption) ?_
            rotate_left 1
            · (intro w hSw; (obtain ⟨q0, q1, q2, q3⟩ := hSw); go_simp; try with_reducible rfl)
            try simp only [Act.put, List.getElem_toArray, List.getElem_cons_zero, List.setIfInBounds_toArray, List.set_cons_zero, List.set_cons_succ]
            refine wpAnyH_take (i := 1) (v := ?_) rfl (by kernel_rfl) (by kernel_rfl) (by kernel_rfl) (fun _ _ _ h => h) (Or.inl ⟨by rfl, ?_⟩) (by assumption) ?_
            rotate_left 1
            · (intro w hSw; (obtain ⟨q0, q1, q2, q3⟩ := hSw); go_simp; try with_reducible rfl)
            try simp only [Act.put, List.getElem_toArray, List.getElem_cons_zero, List.getElem_cons_succ, List.setIfInBounds_toArray, List.set_cons_zero, List.set_cons_succ]
            refine wpAnyH_take (i := 2) (v := ?_) rfl (by kernel_rfl) (by kernel_rfl) (by kernel_rfl) (fun _ _ _ h => h) (Or.inl ⟨by rfl, ?_⟩) (by assumption) ?_
            rotate_left 1
            · (intro w hSw; (obtain ⟨q0, q1, q2, q3⟩ := hSw); go_simp; try with_reducible rfl)
            try simp only [Act.put, List.getElem_toArray, List.getElem_cons_zero, List.getElem_cons_succ, List.setIfInBounds_toArray, List.set_cons_zero, List.set_cons_succ]
            refine wpAnyH_take (i := 3) (v := ?_) rfl (by kernel_rfl) (by kernel_rfl) (by kernel_rfl) (fun _ _ _ h => h) (Or.inl ⟨by rfl, ?_⟩) (by assumption) ?_
            rotate_left 1
            · (intro w hSw; (obtain ⟨q0, q1, q2, q3⟩ := hSw); go_simp; try with_reducible rfl)
            try simp only [Act.put, List.getElem_toArray, List.getElem_cons_zero, List.getElem_cons_succ, List.setIfInBounds_toArray, List.set_cons_zero, List.set_cons_succ]
            refine wpAnyH_take (i := 4) (v := ?_) rfl (by kernel_rfl) (by kernel_rfl) (by kernel_rfl) (fun _ _ _ h => h) (Or.inl ⟨by rfl, ?_⟩) (by assumption) ?_
            rotate_left 1
            · (intro w hSw; (obtain ⟨q0, q1, q2, q3⟩ := hSw); go_simp; try with_reducible rfl)
            try simp only [Act.put, List.getElem_toArray, List.getElem_cons_zero, List.getElem_cons_succ, List.setIfInBounds_toArray, List.set_cons_zero, List.set_cons_succ]
            refine wpAnyH_take (i := 5) (v := ?_) rfl (by kernel_rfl) (by kernel_rfl) (by kernel_rfl) (fun _ _ _ h => h) (Or.inl ⟨by rfl, ?_⟩) (by assumption) ?_
            rotate_left 1
            · (intro w hSw; (obtain ⟨q0, q1, q2, q3⟩ := hSw); go_simp; try with_reducible rfl)
            try simp only [Act.put, List.getElem_toArray, List.getElem_cons_zero, List.getElem_cons_succ, List.setIfInBounds_toArray, List.set_cons_zero, List.set_cons_succ]
            refine wpAnyH_take (i := 6) (v := ?_) rfl (by kernel_rfl) (by kernel_rfl) (by kernel_rfl) (fun _ _ _ h => h) (Or.inl ⟨by rfl, ?_⟩) (by assumption) ?_
            rotate_left 1
            · (intro w hSw; (obtain ⟨q0, q1, q2, q3⟩ := hSw); go_simp; try with_reducible rfl)
            try simp only [Act.put, List.getElem_toArray, List.getElem_cons_zero, List.getElem_cons_succ, List.setIfInBounds_toArray, List.set_cons_zero, List.set_cons_succ]
            refine wpAnyH_take (i := 7) (v := ?_) rfl (by kernel_rfl) (by kernel_rfl) (by kernel_rfl) (fun _ _ _ h => h) (Or.inl ⟨by rfl, ?_⟩) (by assumption) ?_
            rotate_left 1
            · (intro w hSw; (obtain ⟨q0, q1, q2, q3⟩ := hSw); go_simp; try with_reducible rfl)
            try simp only [Act.put, List.getElem_toArray, List.getElem_cons_zero, List.getElem_cons_succ, List.setIfInBounds_toArray, List.set_cons_zero, List.set_cons_succ]
            refine wpAnyH_take (i := 8) (v := ?_) rfl (by kernel_rfl) (by kernel_rfl) (by kernel_rfl) (fun _ _ _ h => h) (Or.inl ⟨by rfl, ?_⟩) (by assumption) ?_
            rotate_left 1
            · (intro w hSw; (obtain ⟨q0, q1, q2, q3⟩ := hSw); go_simp; try with_reducible rfl)
            try simp only [Act.put, List.getElem_toArray, List.getElem_cons_zero, List.getElem_cons_succ, List.setIfInBounds_toArray, List.set_cons_zero, List.set_cons_succ]
            refine wpAnyH_take (i := 9) (v := ?_) rfl (by kernel_rfl) (by kernel_rfl) (by kernel_rfl) (fun _ _ _ h => h) (Or.inl ⟨by rfl, ?_⟩) (by assumption) ?_
            rotate_left 1
            · (intro w hSw; (obtain ⟨q0, q1, q2, q3⟩ := hSw); go_simp; try with_reducible rfl)
            try simp only [Act.put, List.getElem_toArray, List.getElem_cons_zero, List.getElem_cons_succ, List.setIfInBounds_toArray, List.set_cons_zero, List.set_cons_succ]
            refine wpAnyH_take (i := 10) (v := ?_) rfl (by kernel_rfl) (by kernel_rfl) (by kernel_rfl) (fun _ _ _ h => h) (Or.inl ⟨by rfl, ?_⟩) (by assumption) ?_
            rotate_left 1
            · (intro w hSw; (obtain ⟨q0, q1, q2, q3⟩ := hSw); go_simp; try with_reducible rfl)
            try simp only [Act.put, List.getElem_toArray, List.getElem_cons_zero, List.getElem_cons_succ, List.setIfInBounds_toArray, List.set_cons_zero, List.set_cons_succ]
            refine wpAnyH_take (i := 11) (v := ?_) rfl (by kernel_rfl) (by kernel_rfl) (by kernel_rfl) (fun _ _ _ h => h) (Or.inl ⟨by rfl, ?_⟩) (by assumption) ?_
            rotate_left 1
            · (intro w hSw; (obtain ⟨q0, q1, q2, q3⟩ := hSw); go_simp; try with_reducible rfl)
            try simp only [Act.put, List.getElem_toArray, List.getElem_cons_zero, List.getElem_cons_succ, List.setIfInBounds_toArray, List.set_cons_zero, List.set_cons_succ]
            refine wpAnyH_ready (rs := [12]) (by kernel_rfl) (by simp) ?_
            refine AllReadyH.cons rfl (fun K hK => ?_) AllReadyH.nil
            go_simp
            go_at_call 12
            refine (cL _).mono ?_
            rintro e w9 ⟨rfl, g9⟩
            refine hK.out _ _ (⟨g9.keeps hHeld.1, g9.keeps hHeld.2.1, g9.keeps hHeld.2.2.1, g9.keeps hHeld.2.2.2⟩) (fun hHeld => ?_)
            clear hK K
            try simp only [Act.put, List.getElem_toArray, List.getElem_cons_zero, List.getElem_cons_succ, List.setIfInBounds_toArray, List.set_cons_zero, List.set_cons_succ]
            refine wpAnyH_done (by kernel_rfl) ?_ _
            have gdr : Gb wr wr.drew := ⟨rfl, rfl, rfl, Nat.le_refl _, fun _ _ => rfl⟩
            have GZ : Hid (Gb we w9) := gb_trans (gb_trans Z.out gdr) g9.gb
            clear x1 x2 y1 y2 hHeld
            go_wp2
            go_roundw
            case rel => exact ⟨j + 1, by simp, by omega, by omega, GZ⟩
            case measure => simp [intOf]; omega
          · have hjNi : ¬ (j : Int) < (N : Int) := by omega
            have Z' := Z.out
            clear Z
            go_wp2_with fail
            refine (awake_c _).mono ?_
            rintro e w8 ⟨rfl, g8⟩
            go_wp2
            go_ret
            exact ⟨rfl, gb_trans gE (gb_trans Z' g8)⟩
    · have hz' : (topE rs q k == 0) = false := by rw [beq_eq_false_iff_ne]; exact hz
      have hs : searchE rs q k ((n : Int) + (M : Int)) = topE rs q k := by unfold searchE; rw [if_neg hz]
      have ZN : Hid (topE rs q k ≠ 0) := hz
      go_wp2_with fail
      refine ctop.mono ?_
      rintro e wa ⟨v1, rfl, g1, e1, _⟩
      obtain rfl := e1 ZN.out
      clear ctop e1
      have cS := search_no (V.out.gb g1) (U.out.gb g1) WH.out k ((n : Int) + (M : Int)) (by rw [hs]; exact hz)
      rw [hs] at cS
      clear hs hz
      generalize topE rs q k = z at *
      go_wp2_with fail
      refine cS.mono ?_
      rintro e wb ⟨rfl, g2⟩
      clear cS
      go_wp2_with fail
      refine (awake_c _).mono ?_
      rintro e wc ⟨rfl, g3⟩
      have cb := gb_keeps g3 (show (wb.alloc (.cells #[.slice none 0 0, .slice none 0 0, .slice none 0 0] 35)).cell? ⟨wb.heap.size, 0, none⟩ = some (.slice none 0 0) by simp [go_sem])
      go_wp2
      go_ret
      exact ⟨rfl, gb_trans g1 (gb_trans g2 (gb_trans (gb_alloc (Below.refl _ _) _) g3))⟩
end Go.Proofs.Yteaeaoekaoedoaa
