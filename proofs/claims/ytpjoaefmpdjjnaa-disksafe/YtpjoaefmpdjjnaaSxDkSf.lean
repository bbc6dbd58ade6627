/- DiskSafe: the walk. -/
import Derived.Test.YtpjoaefmpdjjnaaSxDkSe
import Derived.Test.YtpjoaefmpdjjnaaSxDkP2
import Derived.BigQuiet
import Derived.Deep.RegionHeld3
namespace Go.Proofs.Ytpjoaefmpdjjnaa
open Go.RowKit Go.Lib Go.Maps

variable {w w0 W W' : World} {b b' : Nat} {q q' q2 : Dq} {F G : Nat → Prop}
theorem StE.playAll {v : Value} {ops : List OpP} (h : StE w W b q) (ok : q.Ok) (hi : q.Inj) (h0 : q.st = 0) (hs : RdS w v ops) (hr : ∀ i, i < ops.length → OpR ops[i]!) (hl : LgF ops ops.length) :
    Calls Try.prog 16 #[.pointer (some ⟨b, 0, none⟩), v] W fun e w' => e = .returned (.tuple #[]) ∧ Hid (∃ q', StE w w' b q' ∧ q'.Ok ∧ q'.Inj ∧ q'.st ≤ 1000) := by
  obtain ⟨F, h⟩ := h
  have hl1 := hl.1
  refine (play_c h.1 ok (SkS.of hs h.2.1 h.2.2) hr hl.2 hl1 (by omega)).mono ?_
  rintro e w' ⟨rfl, o⟩
  have T : ops.foldl Dq.play1 q = plT q ops ops.length := by unfold plT; rw [List.take_length]
  refine ⟨rfl, _, ⟨_, h.op o⟩, ?_, play_inj hi ops, ?_⟩
  · rw [T]; exact plT_ok ok hr _
  · rw [T]; have := plT_st q ops ops.length; omega
theorem EnS.cap {x : By} {m s n k : Nat} {z v : Value} {a : Option Addr} {c : Nat} (h : EnS w b x m s n k z v (.slice a k c) W) : k ≤ c ∧ (a = none → k = 0 ∧ c = 0) := by
  obtain ⟨q, all, r, h1, _, _, _, _, rfl, _⟩ := h
  obtain ⟨⟨_, _, e, hc, _⟩, hn⟩ := h1.rd (v := .slice a r.length c) (l := r) (List.mem_cons_self ..)
  cases e
  exact ⟨hc, fun e => by subst e; exact hn _ _ rfl⟩
set_option maxHeartbeats 8000000 in
set_option maxRecDepth 100000 in
theorem safe_law (w : World) (r : Int) {v : Value} {ops : List OpP} (hs : RdS w v ops) (hr : ∀ i, i < ops.length → OpR ops[i]!) {x : By} (hx : KWfS x) {vm : Value} {ls : List By} (hm : RdBs w vm ls) {cs ds : List Int} {va vb : Value} (hc : RdI w va cs) (hcs : ∀ c ∈ cs, InR c) (hd : RdI w vb ds) (hds : ∀ c ∈ ds, InR c) :
    Calls Try.prog 5 #[.int .i64 r, v, .string (sb x), vm, va, vb] w fun e w' => e = .returned (.bool true) ∧ Gb w w' := by
  have cL := large_c hs
  have HS : Hid (RdS w v ops ∧ (∀ i, i < ops.length → OpR ops[i]!) ∧ KWfS x ∧ RdBs w vm ls ∧ RdI w va cs ∧ RdI w vb ds) := ⟨hs, hr, hx, hm, hc, hd⟩
  have HC : Hid ((∀ c ∈ cs, InR c) ∧ ∀ c ∈ ds, InR c) := ⟨hcs, hds⟩
  obtain ⟨a, cap, rfl, _⟩ := id hs
  obtain ⟨am, capm, rfl, _⟩ := id hm
  obtain ⟨ac, capc, rfl, _⟩ := id hc
  obtain ⟨ad, capd, rfl, _⟩ := id hd
  obtain ⟨N, hN⟩ : ∃ N, N = ls.length := ⟨_, rfl⟩
  have NN : Hid (N = ls.length) := hN
  rw [← hN]
  generalize hNc : cs.length = nc at *
  generalize hNd : ds.length = nd at *
  generalize hsx : sb x = sx at *
  have SX : Hid (sb x = sx) := hsx
  clear hs hr hx hm hc hd hcs hds hN hNc hNd hsx
  go_enter Try.func5, Try.ntmps5
  go_wp2_with fail
  refine cL.mono ?_
  rintro e w1 ⟨bl, rfl, hbl, g1⟩
  clear cL
  cases bl with
  | true =>
    clear HS HC hbl NN SX
    go_wp2
    go_ret
    exact ⟨rfl, g1⟩
  | false =>
  by_cases hn1 : (1000 : Int) < (N : Int)
  · clear HS HC hbl NN SX
    go_wp2
    go_ret
    exact ⟨rfl, g1⟩
  by_cases hn2 : (1000 : Int) < (nc : Int)
  · clear HS HC hbl NN SX
    go_wp2
    go_ret
    exact ⟨rfl, g1⟩
  by_cases hn3 : (1000 : Int) < (nd : Int)
  · clear HS HC hbl NN SX
    go_wp2
    go_ret
    exact ⟨rfl, g1⟩
  by_cases hroom : ¬ (1 ≤ r ∧ r ≤ 4194304)
  · clear HS HC hbl NN SX
    go_wp2_with fail
    refine (new_no r hroom _).mono ?_
    rintro e w2 ⟨rfl, rfl⟩
    go_wp2_with fail
    refine (awake_c _).mono ?_
    rintro e w3 ⟨rfl, g3⟩
    have g4 := gb_trans g1 g3
    clear g1 g3
    go_wp2
    go_ret
    exact ⟨rfl, g4⟩
  have hroom : 1 ≤ r ∧ r ≤ 4194304 := Decidable.not_not.1 hroom
  have LG : Hid (LgF ops ops.length) := hbl rfl
  have cN1 := new_c r hroom w1
  have OKN : Hid ((nwQ r).Ok) := nwQ_ok hroom
  have G1 : Hid (Gb w w1) := g1
  clear g1 hbl hroom
  go_wp2_with fail
  refine cN1.mono ?_
  rintro e w2 ⟨b, rfl, N1⟩
  have S1 : Hid (StE w w2 b (nwQ r)) := StE.new G1.out N1
  clear N1 cN1
  have cP := S1.out.playAll OKN.out (nwQ_inj r) rfl HS.out.1 HS.out.2.1 LG.out
  clear S1 OKN G1 LG
  go_wp2_with fail
  refine cP.mono ?_
  rintro e w3 ⟨rfl, S2⟩
  obtain ⟨q1, S2, ok1, i1, t1⟩ := S2.out
  have cS := start_c S2 ok1 i1 t1 HS.out.2.2.1
  rw [SX.out] at cS
  clear cP S2 ok1 i1 t1
  go_wp2_with fail
  refine cS.mono ?_
  rintro e w4 ⟨rfl, cS⟩
  have cS := cS.out
  go_wp2_with fail
  refine cS.mono ?_
  rintro e w5 ⟨r1, rfl, cS⟩
  have cS := cS.out
  go_wp2_with fail
  refine cS.mono ?_
  rintro e w6 ⟨r2, rfl, cS⟩
  obtain ⟨rr, cS⟩ := cS.out
  go_wp2_with fail
  refine cS.mono ?_
  rintro e w7 ⟨rfl, cS⟩
  by_cases hrr : rr = 0
  case neg =>
    have g7 := cS.out.1 hrr
    have hrb : (rr == 0) = false := by rw [beq_eq_false_iff_ne]; exact hrr
    clear cS HS HC NN SX
    go_wp2_with fail
    refine (awake_c _).mono ?_
    rintro e w8 ⟨rfl, g8⟩
    have g9 := gb_trans g7 g8
    clear g7 g8
    go_wp2
    go_ret
    exact ⟨rfl, g9⟩
  subst hrr
  have cR := cS.out.2 rfl
  clear cS
  go_wp2_with fail
  refine cR.mono ?_
  rintro e w8 ⟨a15, c15, n0, rfl, L0⟩
  clear cR
  go_wp2
  go_loopw [15, 17, 18] (fun z y iv W => ∃ i s n : Nat, ∃ az cz ay cy, z = .slice az s cz ∧ y = .slice ay n cy ∧ iv = .int .i64 (i : Int) ∧ i ≤ N ∧ Hid (LpS w b x (1003 + 2 * i) s n z y W)) (fun _ _ iv _ => N - (intOf iv).toNat)
  case atStart => exact ⟨0, n0, n0, a15, c15, a15, c15, rfl, rfl, rfl, Nat.zero_le _, L0.out⟩
  case round =>
    clear L0
    obtain ⟨i, s, n, az, cz, ay, cy, rfl, rfl, rfl, hi, X⟩ := hrel
    by_cases hiN : i < N
    · have hii : (i : Int) < (N : Int) := by omega
      have hi9 : i < 1000 := by omega
      obtain ⟨am', capm', em, hat⟩ := HS.out.2.2.2.1
      obtain ⟨g, o, vb, e2, c0, hY⟩ := hat i (by have := NN.out; omega)
      injection em with em1 em2 em3
      subst em1
      subst em3
      subst e2
      clear hat em2
      obtain ⟨⟨ua, uc, eu, _⟩, _⟩ := id hY
      subst eu
      have c0' := gb_keeps X.out.base c0
      have hcap := X.out.cap
      generalize ls[i]! = l at *
      by_cases hlong : (65536 : Int) < (l.length : Int)
      · have gw := X.out.base
        clear X hY HS HC NN SX hcap c0
        generalize l.length = M at *
        go_wp2
        go_ret
        exact ⟨rfl, gw⟩
      obtain ⟨ra, cA⟩ := X.out.append (by omega) HS.out.2.2.1 hY (by omega)
      rw [SX.out] at cA
      clear X hY
      generalize l.length = M at *
      go_wp2_with fail
      refine cA.mono ?_
      rintro e w9 ⟨rfl, A⟩
      clear cA
      have c0' := gb_keeps A.out.1 c0
      by_cases hra : ra = 0
      · subst hra
        obtain ⟨ax, c', Y, happ, gY, L⟩ := A.out.2.2 rfl w9.drew (Below.refl _ _).drew
        clear A
        have hc1 := hcap.1
        have hc1i : (n : Int) ≤ (cy : Int) := by omega
        have NX : Hid (LpS w b x (1003 + 2 * i + 1) s (n + M) (.slice az s cz) (.slice ax (n + M) c') Y) := L.out
        have c0d := gb_keeps (Below.refl _ _).drew c0'
        have cm := gb_keeps (gb_trans (Below.refl _ _).drew gY) c0'
        clear L gY
        go_wp2
        refine wp_region_held_drew (by kernel_rfl) (S := fun w' => w'.cell? ⟨g, o + i, none⟩ = some (.slice ua M uc)) c0d (fun hSd => ?_)
        refine tke 0 104 (.slice ay n cy) rfl (fun w _ => (BigFrame.run_move (.tmp 17) rfl w).trans (by kernel_rfl)) ?_
        refine tke 1 105 (.slice ay n cy) rfl (fun w _ => (BigFrame.run_move (.tmp 17) rfl w).trans (by kernel_rfl)) ?_
        refine tke 2 106 (.int .i64 (n : Int)) rfl (fun w _ => run_len (a := ay) (n := n) (c := cy) (.tmp 105) rfl (by kernel_rfl)) ?_
        refine tke 3 107 (.slice ay n cy) rfl (fun w _ => (BigFrame.run_move (.tmp 17) rfl w).trans (by kernel_rfl)) ?_
        refine tke 4 108 (.int .i64 (n : Int)) rfl (fun w _ => run_len (a := ay) (n := n) (c := cy) (.tmp 107) rfl (by kernel_rfl)) ?_
        refine tke 5 109 (.slice ay n n) rfl (fun w _ => run_slice3 (a := ay) (n := n) (c := cy) (.tmp 104) (.tmp 106) (.tmp 108) _ rfl rfl (by kernel_rfl) (by kernel_rfl) (by kernel_rfl) hcap.1 hcap.2) ?_
        refine tke 6 110 (.slice (some ⟨g, o, none⟩) N capm) rfl (fun w _ => (BigFrame.run_move (.tmp 3) rfl w).trans (by kernel_rfl)) ?_
        refine tke 7 111 (.int .i64 (i : Int)) rfl (fun w _ => (BigFrame.run_move (.tmp 18) rfl w).trans (by kernel_rfl)) ?_
        refine tke 8 112 (.pointer (some ⟨g, o + i, none⟩)) rfl (fun w _ => run_at (g := g) (f := o) (n := N) (c := capm) (i := i) (.tmp 110) (.tmp 111) rfl (by kernel_rfl) (by kernel_rfl) hiN) ?_
        refine tke 9 113 (.slice ua M uc) rfl (fun w hS => run_load (p := ⟨g, o + i, none⟩) (.tmp 112) rfl (by kernel_rfl) hS ⟨_, _, _, rfl⟩) ?_
        refine wpAnyH_ready (rs := [10]) (by kernel_rfl) (by simp) (AllReadyH.cons rfl (fun K hK => ?_) AllReadyH.nil)
        refine step_append_run' rfl 114 rfl (.tmp 109) (.tmp 113) 33 rfl (.slice ay n n) (.slice ua M uc) (by kernel_rfl) (by kernel_rfl) (happ _) ?_
        refine hK.out _ _ cm (fun hHeld => ?_)
        refine tke 11 17 (.slice ax (n + M) c') rfl (fun w _ => (BigFrame.run_assign (.tmp 114) rfl w).trans (by kernel_rfl)) ?_
        refine wpAnyH_done (by kernel_rfl) ?_ _
        simp only [Act.put, List.setIfInBounds_toArray, List.set_cons_zero, List.set_cons_succ]
        clear c0' c0d cm happ hcap hHeld hSd
        by_cases h3 : (i : Int) % 3 = 1
        · have h3b : ((i : Int) % 3 == 1) = true := by rw [beq_iff_eq]; exact h3
          have cY := NX.out.sync (by omega) HS.out.2.2.1
          rw [SX.out] at cY
          clear h3
          go_wp2_with fail
          refine cY.mono ?_
          rintro e wa ⟨rfl, L⟩
          clear cY
          go_wp2
          go_roundw
          case rel => exact ⟨i + 1, n + M, n + M, ax, c', ax, c', rfl, rfl, by simp, hiN, L.out.more (by omega)⟩
          case measure => simp [intOf]; omega
        · have h3b : ((i : Int) % 3 == 1) = false := by rw [beq_eq_false_iff_ne]; exact h3
          clear h3
          go_wp2
          go_roundw
          case rel => exact ⟨i + 1, s, n + M, az, cz, ax, c', rfl, rfl, by simp, hiN, NX.out.more (by omega)⟩
          case measure => simp [intOf]; omega
      · have hrb : (ra == 0) = false := by rw [beq_eq_false_iff_ne]; exact hra
        have L : Hid (LpS w b x (1003 + 2 * i + 1) s n (.slice az s cz) (.slice ay n cy) w9) := A.out.2.1 hra
        clear A hcap
        by_cases h3 : (i : Int) % 3 = 1
        · have h3b : ((i : Int) % 3 == 1) = true := by rw [beq_iff_eq]; exact h3
          have cY := L.out.sync (by omega) HS.out.2.2.1
          rw [SX.out] at cY
          clear h3
          go_wp2_with fail
          refine cY.mono ?_
          rintro e wa ⟨rfl, L⟩
          clear cY
          go_wp2
          go_roundw
          case rel => exact ⟨i + 1, n, n, ay, cy, ay, cy, rfl, rfl, by simp, hiN, L.out.more (by omega)⟩
          case measure => simp [intOf]; omega
        · have h3b : ((i : Int) % 3 == 1) = false := by rw [beq_eq_false_iff_ne]; exact h3
          clear h3
          go_wp2
          go_roundw
          case rel => exact ⟨i + 1, s, n, az, cz, ay, cy, rfl, rfl, by simp, hiN, L.out.more (by omega)⟩
          case measure => simp [intOf]; omega
    · have hii : ¬ (i : Int) < (N : Int) := by omega
      have hi9 : i ≤ 1000 := by omega
      have cC := X.out.crash (by omega) HS.out.2.2.1 HS.out.2.2.2.2.1 HC.out.1
      rw [SX.out] at cC
      clear X
      go_wp2_with fail
      refine cC.mono ?_
      rintro e wa ⟨rfl, cC⟩
      have cC := cC.out
      go_wp2_with fail
      refine cC.mono ?_
      rintro e wb ⟨ab, cb, k, rfl, hsk, hkn, E⟩
      have hsk1 : ¬ (k : Int) < (s : Int) := by omega
      have hkn1 : ¬ (n : Int) < (k : Int) := by omega
      have cB := E.out.bytes
      have hcap := E.out.cap
      have hsc : (s : Int) ≤ (cb : Int) := by omega
      have hs0 : (0 : Int) ≤ (s : Int) := by omega
      clear cC
      cases ab with
      | none =>
        obtain ⟨rfl, rfl⟩ := hcap.2 rfl
        obtain rfl : s = 0 := by omega
        go_wp2_with fail
        refine cB.mono ?_
        rintro e wc ⟨rfl, gc⟩
        have E3 : Hid (EnS w b x (1003 + 2 * i) 0 n 0 (.slice az 0 cz) (.slice ay n cy) (.slice none 0 0) wc) := E.out.gb gc
        have cE := E3.out.end (by omega) HS.out.2.2.1 HS.out.2.2.2.2.2 HC.out.2
        rw [SX.out] at cE
        clear E E3 cB gc hcap hsk1 hkn1 hsc hs0 HS HC NN SX hi hi9 hii
        go_wp2
        refine wp_loop_rounds 1 ?_
        rw [rounds_succ]
        go_wp2_with fail
        refine cE.mono ?_
        rintro e x1 ⟨a24, c24, l24, rfl, cE⟩
        have cE := cE.out
        go_wp2_with fail
        refine cE.mono ?_
        rintro e x2 ⟨rfl, cE⟩
        have cE := cE.out
        go_wp2_with fail
        refine cE.mono ?_
        rintro e x3 ⟨a25, c25, rfl, cE⟩
        have cE := cE.out.2
        go_wp2_with fail
        refine (awake_c _).mono ?_
        rintro e x4 ⟨rfl, g4⟩
        have cE := cE _ g4
        clear g4
        go_wp2_with fail
        refine cE.mono ?_
        rintro e x5 ⟨rfl, cE⟩
        have cE := cE.out
        go_wp2_with fail
        refine cE.mono ?_
        rintro e x6 ⟨a26, c26, rfl, cE⟩
        have cE := cE.out
        go_wp2_with fail
        refine cE.mono ?_
        rintro e x7 ⟨rfl, cE⟩
        have cE := cE.out
        go_wp2_with fail
        refine cE.mono ?_
        rintro e x8 ⟨rfl, g8⟩
        clear cE
        go_wp2
        go_ret
        exact ⟨rfl, g8⟩
      | some adb =>
        go_wp2_with fail
        refine cB.mono ?_
        rintro e wc ⟨rfl, gc⟩
        have E2 : Hid (EnS w b x (1003 + 2 * i) s n k (.slice az s cz) (.slice ay n cy) (.slice (some adb) k cb) wc) := E.out.gb gc
        go_wp2
        obtain ⟨f, gf, hcl, hor⟩ := E2.out.cells
        have CL : Hid (∀ i, i < k → (∃ b o, some adb = some ⟨b, o, none⟩ ∧ wc.cell? ⟨b, o + i, none⟩ = some (.int .u8 (f i))) ∧ ∃ b o, ay = some ⟨b, o, none⟩ ∧ wc.cell? ⟨b, o + i, none⟩ = some (.int .u8 (gf i))) := hcl
        have OR : Hid ((∀ i, s ≤ i → i < k → f i = 0) ∨ ∀ i, s ≤ i → i < k → f i = gf i) := hor
        have hk4 : k ≤ 4194304 := by rcases E2.out.small with h | h <;> omega
        have HK : Hid (s ≤ k ∧ k ≤ n) := ⟨hsk, hkn⟩
        clear hcl hor hsk1 hkn1 hsc hs0 cB gc hcap E
        have d1 : decide (k < s) = false := decide_eq_false (by omega)
        have d2 : decide (n < k) = false := decide_eq_false (by omega)
        simp only [d1, d2, Bool.or_false]
        clear d1 d2 hsk hkn
        go_loopw [21, 22, 23] (fun z y iv W => ∃ (B1 B2 : Bool) (j : Nat), z = .bool B1 ∧ y = .bool B2 ∧ iv = .int .i64 (j : Int) ∧ s ≤ j ∧ j ≤ k ∧ Hid (((∀ i, s ≤ i → i < k → f i = 0) → B1 = true) ∧ ((∀ i, s ≤ i → i < k → f i = gf i) → B2 = true) ∧ Gb wc W)) (fun _ _ iv _ => k - (intOf iv).toNat)
        case atStart => exact ⟨true, true, s, rfl, rfl, rfl, Nat.le_refl _, HK.out.1, fun _ => rfl, fun _ => rfl, Below.refl _ _⟩
        case round =>
          obtain ⟨B1, B2, j, rfl, rfl, rfl, hsj, hjk, X⟩ := hrel
          by_cases hjl : j < k
          · have hji : (j : Int) < (k : Int) := by omega
            have hjn : (j : Int) < (n : Int) := by have := HK.out.2; omega
            obtain ⟨⟨b1, o1, e1, k1⟩, b2, o2, e2, k2⟩ := CL.out j hjl
            cases e1
            subst e2
            have k1 := gb_keeps X.out.2.2 k1
            have k2 := gb_keeps X.out.2.2 k2
            have F0 : Hid (∀ W', Gb wr W' → ((∀ i, s ≤ i → i < k → f i = 0) → B1 = true ∧ f j = 0) ∧ ((∀ i, s ≤ i → i < k → f i = gf i) → B2 = true ∧ f j = gf j) ∧ Gb wc W') := fun W' g => ⟨fun p => ⟨X.out.1 p, p j hsj hjl⟩, fun p => ⟨X.out.2.1 p, p j hsj hjl⟩, gb_trans X.out.2.2 g⟩
            generalize f j = f1 at *
            generalize gf j = g1 at *
            clear X E2 CL OR HS HC NN SX
            cases B1 <;> cases B2
            all_goals
              go_wp2
              go_quiet (fail)
              go_wp2
              have F1 := F0.out _ (below_drewN (Below.refl _ _) nq)
              go_roundw
              case rel => exact ⟨_, _, j + 1, rfl, rfl, by simp, by omega, by omega, fun p => by have := F1.1 p; simp_all, fun p => by have := F1.2.1 p; simp_all, F1.2.2⟩
              case measure => simp [intOf]; omega
          · have ej : j = k := by omega
            subst ej
            have hji : ¬ (j : Int) < (j : Int) := by omega
            have HB : Hid (B1 = true ∨ B2 = true) := OR.out.imp X.out.1 X.out.2.1
            have E3 : Hid (EnS w b x (1003 + 2 * i) s n j (.slice az s cz) (.slice ay n cy) (.slice (some adb) j cb) wr) := E2.out.gb X.out.2.2
            clear X E2 CL OR
            have cE := E3.out.end (by omega) HS.out.2.2.1 HS.out.2.2.2.2.2 HC.out.2
            rw [SX.out] at cE
            have hBB : B1 = true ∨ B1 = false ∧ B2 = true := by
              rcases HB.out with h | h
              · exact .inl h
              · cases B1
                · exact .inr ⟨rfl, h⟩
                · exact .inl rfl
            clear HB E3 HS HC NN SX hi hi9 hii
            rcases hBB with rfl | ⟨rfl, rfl⟩
            all_goals
              go_wp2_with fail
              refine cE.mono ?_
              rintro e x1 ⟨a24, c24, l24, rfl, cE⟩
              have cE := cE.out
              go_wp2_with fail
              refine cE.mono ?_
              rintro e x2 ⟨rfl, cE⟩
              have cE := cE.out
              go_wp2_with fail
              refine cE.mono ?_
              rintro e x3 ⟨a25, c25, rfl, cE⟩
              have cE := cE.out.2
              go_wp2_with fail
              refine (awake_c _).mono ?_
              rintro e x4 ⟨rfl, g4⟩
              have cE := cE _ g4
              clear g4
              go_wp2_with fail
              refine cE.mono ?_
              rintro e x5 ⟨rfl, cE⟩
              have cE := cE.out
              go_wp2_with fail
              refine cE.mono ?_
              rintro e x6 ⟨a26, c26, rfl, cE⟩
              have cE := cE.out
              go_wp2_with fail
              refine cE.mono ?_
              rintro e x7 ⟨rfl, cE⟩
              have cE := cE.out
              go_wp2_with fail
              refine cE.mono ?_
              rintro e x8 ⟨rfl, g8⟩
              clear cE
              go_wp2
              go_ret
              exact ⟨rfl, g8⟩
end Go.Proofs.Ytpjoaefmpdjjnaa
