/- The reference's Crash: the walk. -/
import Derived.Test.YtkagnoinifffdaaRx38
import Derived.BigRegion
import Derived.BigQuiet
namespace Go.Proofs.Ytkagnoinifffdaa
open Go.RowKit Go.Lib Go.Maps

variable {w w' W : World} {p : Nat} {q q' : Dq} {nu : List Int} {r : Rf} {L : List (Value × Nat)} {fv nv sv cv : Value} {F G B : Nat → Prop}
set_option maxHeartbeats 8000000 in
set_option maxRecDepth 100000 in
theorem rcrash_r (h : RfD w p q G B) (ok : q.Ok) (hi : q.Inj) (hst : q.st < 10000) {v : Value} {cs : List Int} (hcs : ∀ x ∈ cs, InR x) (_hl : cs.length ≤ 1000) (hR : ∀ X, Kf G w X → RdI X v cs) : Calls Try.prog 52 #[.pointer (some ⟨p, 0, none⟩), v] w fun e w' => e = .returned (.tuple #[]) ∧ RfO w w' p (q.crash cs) G B := by
  obtain ⟨nu, r, L, fv, nv, sv, cv, h, hr, hG, hB⟩ := h
  obtain ⟨⟨c0, c1, c2, c3, c4, c5, c6⟩, fz⟩ := h.cells
  have f6 := fz 6
  have hp := h.lt
  have H1 : RfM (w.setCell ⟨p, 6, none⟩ (.int .i64 (-1))) p { q with lf := -1 } nu r L fv nv sv cv G B := by
    refine h.mvP (fun k _ hk => Below.heap_setCell _ _ _ _ hk) rfl rfl ?_
    rw [heap_set0 h.blk]; rfl
  have K1 : Kf G w (w.setCell ⟨p, 6, none⟩ (.int .i64 (-1))) := (Kf.refl _ _).set (fun _ => h.inG.1) _
  obtain ⟨sa, sc, rfl⟩ := row_fm h.sfs
  obtain ⟨ca, cc, rfl⟩ := row_fm h.chs
  have hcl := ok.sfL
  have hc1 := hr.cl
  have hle := shr_le (chc cs 0) r.ch.length
  have CC : Hid (∀ n, Calls Try.prog 70 #[v, .int .i64 0] ((w.setCell ⟨p, 6, none⟩ (.int .i64 (-1))).drewN n) fun e w' => e = .returned (.int .i64 (chc cs 0)) ∧ w' = (w.setCell ⟨p, 6, none⟩ (.int .i64 (-1))).drewN n) := fun n => rchoice_c (hR _ (K1.drewN n)) 0
  have CS : Hid (∀ W, Calls Try.prog 69 #[.int .i64 (chc cs 0), .int .i64 (r.ch.length : Int)] W fun e w' => e = .returned (.int .i64 (shr (chc cs 0) r.ch.length : Int)) ∧ w' = W) := fun W => rsays_c _ _ _ (chc_in hcs 0) (by omega)
  obtain ⟨⟨d0, d1, d2, d3, d4, d5, d6⟩, dz⟩ := H1.cells
  have hp1 := H1.lt
  have EL : Hid (∀ i, i < r.ch.length → ∃ g, ca = some ⟨g, 0, none⟩ ∧ ∀ W, Gb (w.setCell ⟨p, 6, none⟩ (.int .i64 (-1))) W → W.cell? ⟨p, 4, none⟩ = some (.slice ca r.ch.length cc) ∧ W.cell? ⟨g, i * 4, none⟩ = some (.int .i64 r.ch[i]!.1) ∧ W.cell? ⟨g, i * 4 + 1, none⟩ = some (.string (sb r.ch[i]!.2.1)) ∧ W.cell? ⟨g, i * 4 + 2, none⟩ = some (.string (sb r.ch[i]!.2.2.1)) ∧ W.cell? ⟨g, i * 4 + 3, none⟩ = some (.int .i64 (r.ch[i]!.2.2.2 : Int)) ∧ g < W.heap.size) := fun i hil => by
    rcases id H1.chs.2 with ⟨e, e0⟩ | ⟨g, cap', cur, e, _⟩
    · omega
    · obtain ⟨e1, _, _⟩ := Value.slice.inj e
      refine ⟨g, e1, fun W gW => ?_⟩
      have key : ∀ j u, (rcV r.ch[i]!)[j]? = some u → j < 4 → W.cell? ⟨g, i * 4 + j, none⟩ = some u := fun j u hj hj4 => by
        have := World.ownsRow.cells H1.chs (g := g) (by rw [e1]; rfl) (i * 4 + j) u (by rw [fm_get rcV 4 (fun _ => rfl) r.ch i j hil hj4]; exact hj)
        rw [Addr.add_lit, Nat.zero_add] at this
        exact gb_keeps gW this
      have k0 := key 0 _ rfl (by omega)
      exact ⟨(H1.g gW).cells.1.2.2.2.2.1, k0, key 1 _ rfl (by omega), key 2 _ rfl (by omega), key 3 _ rfl (by omega), cell_lt k0⟩
  have AC : Hid (∀ i, i < r.ch.length → ∀ W u, Gb (w.setCell ⟨p, 6, none⟩ (.int .i64 (-1))) W → OwR W 0 u (apU r.sf r.ch i) → Calls Try.prog 71 #[u, .agg #[.int .i64 r.ch[i]!.1, .string (sb r.ch[i]!.2.1), .string (sb r.ch[i]!.2.2.1), .int .i64 (r.ch[i]!.2.2.2 : Int)]] W fun e w' => ∃ b m d, e = .returned (.slice b m d) ∧ Hid (Gb (w.setCell ⟨p, 6, none⟩ (.int .i64 (-1))) w' ∧ OwR w' 0 (.slice b m d) (apU r.sf r.ch (i + 1)))) := fun i hil W u gW hu => by
    have l1 := apU_len r.sf r.ch i (by omega)
    have l2 := hr.sf.len (hi.at_ 0).ks
    refine (rapply_c hu (by omega)).mono ?_
    rintro e w' ⟨v', rfl, o, g⟩
    obtain ⟨b, d, rfl⟩ := row_fm o
    exact ⟨b, _, d, rfl, gb_trans gW g, by rw [apU_succ hil]; exact o.mono (Nat.zero_le _)⟩
  have WX : Hid (∀ W u, Gb (w.setCell ⟨p, 6, none⟩ (.int .i64 (-1))) W → OwR W 0 u (apU r.sf r.ch (shr (chc cs 0) r.ch.length)) → Calls Try.prog 42 #[u, .string ByteArray.empty] W fun e w2 => ∃ b d, e = .returned (.slice b (crR r cs).length d) ∧ (∃ z, w2.cell? ⟨p, 2, none⟩ = some z) ∧ w2.frozen? ⟨p, 2, none⟩ = false ∧ p < w2.heap.size ∧ Hid (CrI w p q nu r fv (.slice b (crR r cs).length d) (.slice sa r.sf.length sc) (.slice ca r.ch.length cc) cs G B 0 (w2.setCell ⟨p, 2, none⟩ (.slice b (crR r cs).length d)))) := fun W u gW hu => by
    have l1 := apU_len r.sf r.ch _ hle
    have l2 := hr.sf.len (hi.at_ 0).ks
    refine (rwithout_c (x := []) hu (by omega)).mono ?_
    rintro e w2 ⟨v', rfl, o, g⟩
    obtain ⟨b, d, e⟩ := row_fm o
    subst e
    have h2 := H1.g (gb_trans gW g)
    obtain ⟨⟨_, _, z2, _⟩, fz2⟩ := h2.cells
    exact ⟨b, d, rfl, ⟨_, z2⟩, fz2 2, h2.lt, crI_start h hG hB H1 K1 (gb_trans gW g) (o.mono gW.size)⟩
  have RD : Hid (∀ (u : Value) i W, CrI w p q nu r fv u (.slice sa r.sf.length sc) (.slice ca r.ch.length cc) cs G B i W → i < (crR r cs).length → ∃ g gn f s y b c cap capn, CrF w p q nu r fv u (.slice sa r.sf.length sc) (.slice ca r.ch.length cc) cs G B i W g gn f s y b c cap capn) := fun u i W h hil => crI_round h hr ok hi hG hil
  have FI : Hid (∀ (u : Value) W, CrI w p q nu r fv u (.slice sa r.sf.length sc) (.slice ca r.ch.length cc) cs G B (crR r cs).length W → W.cell? ⟨p, 2, none⟩ = some u ∧ Calls Try.prog 42 #[u, .string ByteArray.empty] W fun e w2 => ∃ b m d, e = .returned (.slice b m d) ∧ (∃ z, w2.cell? ⟨p, 3, none⟩ = some z) ∧ (∃ z, w2.cell? ⟨p, 4, none⟩ = some z) ∧ w2.frozen? ⟨p, 3, none⟩ = false ∧ w2.frozen? ⟨p, 4, none⟩ = false ∧ p < w2.heap.size ∧ Hid (RfO w ((w2.setCell ⟨p, 3, none⟩ (.slice b m d)).setCell ⟨p, 4, none⟩ (.slice none 0 0)) p (q.crash cs) G B)) := fun u W hC => by
    obtain ⟨L', B', M, _⟩ := id hC
    have l1 := apU_len r.sf r.ch _ hle
    have l2 := hr.sf.len (hi.at_ 0).ks
    have l3 := woR_len (apU r.sf r.ch (shr (chc cs 0) r.ch.length)) []
    refine ⟨M.cells.1.2.2.1, (rwithout_c (x := []) M.nms (by show (crR r cs).length ≤ _; unfold crR; omega)).mono ?_⟩
    rintro e w2 ⟨v', rfl, o, g⟩
    obtain ⟨b, d, e⟩ := row_fm o
    subst e
    have h2 := M.g g
    obtain ⟨⟨_, _, _, z3, z4, _⟩, fz2⟩ := h2.cells
    exact ⟨b, _, d, rfl, ⟨_, z3⟩, ⟨_, z4⟩, fz2 3, fz2 4, h2.lt, crI_end hC hr ok hi hG g o⟩
  have CH : Hid (∀ (u : Value) i W X n, CrI w p q nu r fv u (.slice sa r.sf.length sc) (.slice ca r.ch.length cc) cs G B i W → Gb W X → Calls Try.prog 70 #[v, .int .i64 ((n : Nat) : Int)] X fun e w' => e = .returned (.int .i64 (chc cs n)) ∧ w' = X) := fun u i W X n hC g => by
    obtain ⟨_, _, _, _, _, k⟩ := hC
    exact rchoice_c (hR X (k.then (Kf.gb g G) fun _ _ h => h)) n
  have O0 : Hid (OwR (w.setCell ⟨p, 6, none⟩ (.int .i64 (-1))) 0 (.slice sa r.sf.length sc) (apU r.sf r.ch 0)) := H1.sfs
  have NB : Hid ((crR r cs).length ≤ 10000 ∧ ∀ i, InR (chc cs i)) := by
    have l1 := apU_len r.sf r.ch _ hle
    have l2 := hr.sf.len (hi.at_ 0).ks
    have l3 := woR_len (apU r.sf r.ch (shr (chc cs 0) r.ch.length)) []
    exact ⟨by unfold crR; omega, fun i => chc_in hcs i⟩
  have hnb : r.ch.length ≤ 100000 := by omega
  clear h hr hG hB ok hi hcs hR H1 K1 hcl hc1 fz dz
  generalize hnc : r.ch.length = nc at *
  generalize hns : r.sf.length = ns at *
  generalize hch : chc cs 0 = c at *
  generalize hsh : shr c nc = k at *
  generalize hnn : (crR r cs).length = nn at *
  clear hnc hns hch hsh hnn
  go_enter Try.func52, Try.ntmps52
  go_wp2
  generalize (w.setCell ⟨p, 6, none⟩ (.int .i64 (-1))) = w1 at *
  go_quiet (first | (go_at_call 70; exact Calls.quiet_of_same (CC.out _)) | (go_at_call 69; exact Calls.quiet_of_same (CS.out _)))
  clear CC CS
  go_wp2
  have G1 : Hid (Gb w1 (w1.drewN nq)) := below_drewN (Below.refl _ _) nq
  go_loopw [4, 6] (fun ov iv W => ∃ i : Nat, ∃ b m d, iv = .int .i64 (i : Int) ∧ ov = .slice b m d ∧ i ≤ k ∧ Hid (Gb w1 W ∧ OwR W 0 (.slice b m d) (apU r.sf r.ch i))) (fun _ iv _ => k - (intOf iv).toNat)
  case atStart => exact ⟨0, sa, ns, sc, rfl, rfl, Nat.zero_le _, G1.out, OwR.gb O0.out G1.out⟩
  case round =>
    obtain ⟨i, b, m, d, rfl, rfl, hik, X⟩ := hrel
    by_cases hi : i < k
    · have hii : (i : Int) < (k : Int) := by omega
      have hin : i < nc := by omega
      have hini : (i : Int) < (nc : Int) := by omega
      obtain ⟨g, rfl, cl⟩ := EL.out i hin
      obtain ⟨x4, y0, y1, y2, y3, yg⟩ := cl _ X.out.1
      have cA := AC.out i hin _ _ X.out.1 X.out.2
      generalize sb r.ch[i]!.2.1 = s1 at *
      generalize sb r.ch[i]!.2.2.1 = s2 at *
      generalize (r.ch[i]!.2.2.2 : Int) = s3 at *
      generalize r.ch[i]!.1 = s0 at *
      clear EL AC WX RD FI CH O0 cl NB
      go_wp2_with fail
      refine cA.mono ?_
      rintro e w3 ⟨b', m', d', rfl, R⟩
      clear cA
      go_wp2
      go_roundw
      case rel => exact ⟨i + 1, b', m', d', by simp, rfl, hi, R.out⟩
      case measure => simp [intOf]; omega
    · have ei : i = k := by omega
      subst ei
      have hii : ¬ (i : Int) < (i : Int) := by omega
      have cW := WX.out _ _ X.out.1 X.out.2
      clear WX EL AC X O0 G1
      go_wp2_with fail
      refine cW.mono ?_
      rintro e w2 ⟨b2, d2, rfl, ⟨z, z2⟩, zf, zp, C0⟩
      clear cW
      go_wp2
      generalize w2.setCell ⟨p, 2, none⟩ (.slice b2 nn d2) = X0 at *
      clear z2 z zf zp
      have C0' : Hid (CrI w p q nu r fv (.slice b2 nn d2) (.slice sa ns sc) (.slice ca nc cc) cs G B 0 X0) := C0
      clear C0
      go_loopw [7] (fun iv W => ∃ i : Nat, iv = .int .i64 (i : Int) ∧ i ≤ nn ∧ Hid (CrI w p q nu r fv (.slice b2 nn d2) (.slice sa ns sc) (.slice ca nc cc) cs G B i W)) (fun iv _ => nn - (intOf iv).toNat)
      case atStart => exact ⟨0, rfl, Nat.zero_le _, C0'.out⟩
      case round =>
        clear C0'
        obtain ⟨j, rfl, hj, X⟩ := hrel
        by_cases hjn : j < nn
        · have hji : (j : Int) < (nn : Int) := by omega
          obtain ⟨g, gn, f, s, y, b, c', cap, capn, ev, en, hf, hsy, hy4, hyc, hbn, CE0, l, ll, ob, NEXT0⟩ := RD.out _ j _ X.out hjn
          obtain ⟨e1, e2, e3⟩ := Value.slice.inj en
          clear en e2
          subst e1
          subst e3
          subst ev
          obtain ⟨x1, x2, x3, x4, x5, ⟨x6, x7⟩, x8, x9, x10⟩ := CE0 wr (Below.refl _ _)
          have hfi : (f : Int) < (nu.length : Int) := by omega
          have CE : Hid _ := CE0
          have OB : Hid _ := ob
          have LL : Hid _ := ll
          have NEXT : Hid _ := NEXT0
          have XX : Hid (CrI w p q nu r (.slice (some ⟨g, 0, none⟩) nu.length cap) (.slice (some ⟨gn, 0, none⟩) nn d2) (.slice sa ns sc) (.slice ca nc cc) cs G B j wr) := X.out
          have RDX : Hid (∀ X n, Gb wr X → Calls Try.prog 70 #[v, .int .i64 ((n : Nat) : Int)] X fun e w' => e = .returned (.int .i64 (chc cs n)) ∧ w' = X) := fun X n g => CH.out _ _ _ X n XX.out g
          have FB : Hid (s ≤ y ∧ y ≤ 4194304 ∧ y ≤ c' ∧ (b = none → y = 0 ∧ c' = 0)) := ⟨hsy, hy4, hyc, hbn⟩
          clear RD FI CH ob ll X hsy hy4 hyc hbn CE0 NEXT0
          generalize hnl : nu.length = nl at *
          go_wp2
          go_region
          have gX1 : Hid (Gb wr (wr.alloc (.cells #[.slice b y c', .int .i64 (s : Int)] 78)).drew) := (gb_alloc (Below.refl _ wr) _).drew
          have y0 : (wr.alloc (.cells #[.slice b y c', .int .i64 (s : Int)] 78)).drew.cell? ⟨wr.heap.size, 0, none⟩ = some (.slice b y c') := by simp [go_sem]
          have y1 : (wr.alloc (.cells #[.slice b y c', .int .i64 (s : Int)] 78)).drew.cell? ⟨wr.heap.size, 1, none⟩ = some (.int .i64 (s : Int)) := by simp [go_sem]
          have y2 : wr.heap.size < (wr.alloc (.cells #[.slice b y c', .int .i64 (s : Int)] 78)).drew.heap.size := cell_lt y0
          generalize (wr.alloc (.cells #[.slice b y c', .int .i64 (s : Int)] 78)).drew = X1 at *
          have cQ := RDX.out X1 (j + 1) gX1.out
          rw [show ((j + 1 : Nat) : Int) = (j : Int) + 1 from rfl] at cQ
          obtain ⟨f1, f2, f3, f4⟩ := FB.out
          have cS := rsays_c (chc cs (j + 1)) (y - s) X1 (NB.out.2 _) (by omega)
          have hwr : IntKind.i64.wrap ((y : Int) - (s : Int)) = ((y - s : Nat) : Int) := by rw [IntKind.wrap_i64]; omega
          have hk2 := shr_le (chc cs (j + 1)) (y - s)
          have KK : Hid (∀ l : By, l.length = y → (crB l s (chc cs (j + 1)) = if chc cs (j + 1) < 0 then zr (l.take (s + shr (chc cs (j + 1)) (y - s))) s (s + shr (chc cs (j + 1)) (y - s)) else l.take (s + shr (chc cs (j + 1)) (y - s))) ∧ (crB l s (chc cs (j + 1))).length = s + shr (chc cs (j + 1)) (y - s)) := fun l ll => by
            have e := crB_len (chc cs (j + 1)) (show s ≤ l.length by omega)
            refine ⟨?_, by rw [e]; unfold crN; rw [ll]⟩
            split
            · rename_i hc
              have := zr_last (show s ≤ l.length by omega) hc
              rw [ll, List.length_take, Nat.min_eq_left (by omega)] at this
              exact this.symm
            · rename_i hc
              unfold crB; rw [if_neg hc, ll]
          have hadd : IntKind.i64.wrap ((s : Int) + (shr (chc cs (j + 1)) (y - s) : Int)) = ((s + shr (chc cs (j + 1)) (y - s) : Nat) : Int) := by rw [IntKind.wrap_i64]; omega
          generalize shr (chc cs (j + 1)) (y - s) = k2 at *
          generalize chc cs (j + 1) = cj at *
          have hmc : ((s + k2 : Nat) : Int) ≤ (c' : Int) := by omega
          have hm0 : (0 : Int) ≤ ((s + k2 : Nat) : Int) := by omega
          have hmy : s + k2 ≤ y := by omega
          have R1 : Hid (∀ u, (u = .slice b (s + k2) c' ∨ b = none ∧ s + k2 = 0 ∧ u = .slice none 0 0) → ∃ a1 c1 W1, (Builtin.append_ #[33, 33] 33 #[.slice none 0 0, u]).run Try.prog X1 = .ok (.slice a1 (s + k2) c1) W1 ∧ OwnB W1 wr.heap.size (.slice a1 (s + k2) c1) (l.take (s + k2)) ∧ Gb wr W1 ∧ Gb X1 W1) := fun u hu => by
            obtain ⟨a1, c1, W1, h1, h2, h3⟩ := first_run gX1.out LL.out OB.out hmy f2 hu
            obtain ⟨a2, c2, W2, h4, h5, h6⟩ := first_run (Below.refl _ X1) LL.out (OwnB.gb OB.out gX1.out) hmy f2 hu
            have := h1.symm.trans h4
            injection this with e1 e2
            subst e2
            exact ⟨a1, c1, W1, h1, h2, h3, h6⟩
          have hnn4 : nn ≤ 10000 := NB.out.1
          have hj4 : (j : Int) < 10000 := by omega
          have FB2 : Hid _ := FB.out
          clear RDX FB hk2 f1 f2 f3 f4 NB
          go_wp2_with fail
          refine cQ.mono ?_
          rintro e w5 ⟨rfl, rfl⟩
          clear cQ
          go_wp2_with fail
          refine cS.mono ?_
          rintro e w5 ⟨rfl, rfl⟩
          clear cS
          obtain ⟨f1, f2, f3, f4⟩ := FB2.out
          cases b with
          | none =>
            obtain ⟨rfl, rfl⟩ := f4 rfl
            obtain rfl : s = 0 := by omega
            obtain rfl : k2 = 0 := by omega
            obtain ⟨a1, c1, W1, hr1, ho1, g1, g2⟩ := R1.out (.slice none 0 0) (.inr ⟨rfl, rfl, rfl⟩)
            rw [Nat.zero_add] at hr1 ho1
            have FINL : Hid (OwnB W1 wr.heap.size (.slice a1 0 c1) (crB l 0 cj) ∧ Gb wr W1) := by
              refine ⟨?_, g1⟩
              rw [(KK.out l LL.out).1, zr_first]
              split <;> exact ho1
            have v1 := gb_keeps g2 y1
            have v2 := cell_lt v1
            have KL := (KK.out l LL.out).2
            obtain ⟨x1, x2, x3, x4, x5, ⟨x6, x7⟩, x8, x9, x10⟩ := CE.out W1 g1
            have NX := NEXT.out W1.drew g1.drew _ FINL.out.1
            rw [KL] at NX
            have NX : Hid _ := NX
            clear R1 ho1 g1 g2 OB f1 f2 f3 f4 FB2 KL FINL NEXT CE KK XX
            go_wp2_with (first | (at_builtin; refine wpl_append rfl (.tmp 82) (.tmp 89) 33 rfl _ _ rfl rfl hr1 ?_) | go_in)
            refine wp_loop_rounds 1 ?_
            rw [rounds_succ]
            clear hr1 y0 y1 y2 v1 v2
            go_wp2
            go_region
            go_wp2
            exact ⟨⟨j + 1, by simp, hjn, NX.out⟩, by simp [intOf]; omega⟩
          | some adb =>
            obtain ⟨gb, rfl⟩ : ∃ g, adb = ⟨g, 0, none⟩ := by
              rcases OB.out.2 with ⟨e, _⟩ | ⟨g, _, _, e, _⟩
              · cases e
              · exact ⟨g, Option.some.inj (Value.slice.inj e).1⟩
            obtain ⟨a1, c1, W1, hr1, ho1, g1, g2⟩ := R1.out _ (.inl rfl)
            have hm4 : s + k2 ≤ 4194304 := by omega
            have OW : Hid (OwnB W1 wr.heap.size (.slice a1 (s + k2) c1) (l.take (s + k2))) := ho1
            have GW := g1
            have v1 := gb_keeps g2 y1
            have v2 := cell_lt v1
            clear R1 ho1 g1 g2 OB f1 f2 f3 f4 FB2
            go_wp2_with (first | (at_builtin; refine wpl_append rfl (.tmp 82) (.tmp 89) 33 rfl _ _ rfl rfl hr1 ?_) | go_in)
            obtain ⟨wq, hwq⟩ : ∃ x : World, x = wr := ⟨_, rfl⟩
            subst hwq
            --@d
            go_loopw [12] (fun kv W => ∃ k : Nat, kv = .int .i64 (k : Int) ∧ s ≤ k ∧ k ≤ s + k2 ∧ Hid (OwnB W wq.heap.size (.slice a1 (s + k2) c1) (if cj < 0 then zr (l.take (s + k2)) s k else l.take (s + k2)) ∧ Gb wq W)) (fun kv _ => s + k2 - (intOf kv).toNat)
            case atStart =>
              refine ⟨s, rfl, Nat.le_refl _, by omega, ?_, GW⟩
              rw [zr_first]
              split <;> exact OW.out
            case round =>
              obtain ⟨k, rfl, hsk, hkm, Y⟩ := hrel
              have lm : (l.take (s + k2)).length = s + k2 := by rw [List.length_take, LL.out]; omega
              by_cases hk : k < s + k2
              · have hki : (k : Int) < ((s + k2 : Nat) : Int) := by omega
                by_cases hc : cj < 0
                · have Y1 := Y.out.1
                  rw [if_pos hc] at Y1
                  obtain ⟨gz, rfl, ⟨zz, z1⟩, z2, z3, z4, z5⟩ := own_zero Y1 hsk (by omega) lm
                  have Z : Hid (OwnB (wr.setCell ⟨gz, k, none⟩ (.int .u8 0)) wq.heap.size (.slice (some ⟨gz, 0, none⟩) (s + k2) c1) (if cj < 0 then zr (l.take (s + k2)) s (k + 1) else l.take (s + k2)) ∧ Gb wq (wr.setCell ⟨gz, k, none⟩ (.int .u8 0))) := ⟨by rw [if_pos hc]; exact z5, gb_set Y.out.2 z4 _⟩
                  clear Y Y1 z4 z5 lm
                  go_wp2
                  exact ⟨⟨k + 1, by simp, by omega, hk, Z.out⟩, by simp [intOf]; omega⟩
                · have FINL : Hid (OwnB wr wq.heap.size (.slice a1 (s + k2) c1) (crB l s cj) ∧ Gb wq wr) := by
                    have Y1 := Y.out
                    rw [if_neg hc] at Y1
                    refine ⟨?_, Y1.2⟩
                    rw [(KK.out l LL.out).1, if_neg hc]; exact Y1.1
                  have G9 := FINL.out.2
                  obtain ⟨x1, x2, x3, x4, x5, ⟨x6, x7⟩, x8, x9, x10⟩ := CE.out wr G9
                  have NX := NEXT.out wr.drew G9.drew _ FINL.out.1
                  rw [(KK.out l LL.out).2] at NX
                  have NX : Hid _ := NX
                  clear FINL G9 NEXT CE KK Y OW XX hr1 y0 y1 y2 v1 v2 lm
                  go_wp2
                  go_region
                  go_wp2
                  exact ⟨⟨j + 1, by simp, hjn, NX.out⟩, by simp [intOf]; omega⟩
              · obtain rfl : k = s + k2 := by omega
                have FINL : Hid (OwnB wr wq.heap.size (.slice a1 (s + k2) c1) (crB l s cj) ∧ Gb wq wr) := by
                  refine ⟨?_, Y.out.2⟩
                  rw [(KK.out l LL.out).1]; exact Y.out.1
                have hki : ¬ ((s + k2 : Nat) : Int) < ((s + k2 : Nat) : Int) := by omega
                have G9 := FINL.out.2
                obtain ⟨x1, x2, x3, x4, x5, ⟨x6, x7⟩, x8, x9, x10⟩ := CE.out wr G9
                have NX := NEXT.out wr.drew G9.drew _ FINL.out.1
                rw [(KK.out l LL.out).2] at NX
                have NX : Hid _ := NX
                clear FINL G9 NEXT CE KK Y OW XX hr1 y0 y1 y2 v1 v2 lm
                go_wp2
                go_region
                go_wp2
                exact ⟨⟨j + 1, by simp, hjn, NX.out⟩, by simp [intOf]; omega⟩
        · obtain rfl : j = nn := by omega
          have hji : ¬ (j : Int) < (j : Int) := by omega
          obtain ⟨x2, cW⟩ := FI.out _ _ X.out
          clear RD FI CH X NB
          go_wp2_with fail
          refine cW.mono ?_
          rintro e w3 ⟨b3, m3, d3, rfl, ⟨z3, y3⟩, ⟨z4, y4⟩, f3, f4, lp, O⟩
          clear cW
          go_wp2
          go_end0
          exact ⟨rfl, O.out⟩
end Go.Proofs.Ytkagnoinifffdaa
