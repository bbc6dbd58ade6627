/- cert.places. -/
import Derived.Test.YtdmdjmliggjbjaaGreatCt36
import Derived.Test.YtdmdjmliggjbjaaGreatCtCM
namespace Go.Proofs.YtdmdjmliggjbjaaGreat
open Go.RowKit Go.Sort Go.Maps Go.Shelf

theorem makeI (n : Int) (w : World) : (Instr.makeMap 69 (some (.int .i64 n))).run Tryz.prog w = .ok (.map (some w.heap.size)) (w.alloc (.map #[] 0)) := by
  have hu := run_underlying Tryz.underlying69 w
  simp [Instr.makeMap, hu, go_sem]
/-- What places tells: the map, and whether each id stands just once; if so where each stands. -/
def PlOut (w : World) (rs : List Rw) (a : Ans) (e : Ending) (w' : World) : Prop :=
  ∃ M r ks g, e = .returned (.tuple #[.map (some M), .bool r]) ∧ Gb w w' ∧ w.heap.size ≤ M ∧ MapA Tryz.prog 3 w' M ks (fun x => .int .i64 (g x)) ∧ (∀ x, x ∈ ks ↔ x ∈ idsOf rs) ∧ (r = true ↔ (allIds a).Perm (idsOf rs)) ∧ (r = true → Plcd (idsOf rs) a a.rest.length g)
theorem gb_kp {S : Nat → Prop} {w W W' : World} (g : Gb w W) (k : Tk.Kp S W W') (hS : ∀ b, S b → w.heap.size ≤ b) : Gb w W' := g.trans (k.gr g.size hS)
theorem rdi_blk {w : World} {v : Value} {l : List Int} (h : RdI w v l) {b o n c : Nat} (e : v = .slice (some ⟨b, o, none⟩) n c) (hn : n ≠ 0) : b < w.heap.size := by
  obtain ⟨a, cap, e2, ha⟩ := h
  rw [e] at e2
  injection e2 with e3 e4 e5
  subst e4
  obtain ⟨b', o', e6, hc⟩ := ha 0 (by omega)
  rw [← e3] at e6
  injection e6 with e6
  injection e6 with e7 e8
  subst e7
  exact cell_lt hc
set_option maxRecDepth 100000 in
set_option maxHeartbeats 2000000 in
theorem places_c {w : World} {v vh vs vr : Value} {rs : List Rw} {q : List Int} {a : Ans} (hv : RdW w v rs) (ha : RdA w vh vs vr a) (hask : askE rs q = 0) (hwf : Wf rs) (hlen : (allIds a).length ≤ 100000 ∧ a.rest.length ≤ 100000) (hkw : ∀ x ∈ allIds a, KWf x) :
    Calls Tryz.prog 32 #[v, .agg #[vh, vs, vr]] w fun e w' => PlOut w rs a e w' := by
  have V : Hid (RdW w v rs) := hv
  have A : Hid (RdA w vh vs vr a) := ha
  have AK : Hid (askE rs q = 0) := hask
  have WF : Hid (Wf rs) := hwf
  have LN : Hid ((allIds a).length ≤ 100000 ∧ a.rest.length ≤ 100000) := hlen
  have KW : Hid (∀ x ∈ allIds a, KWf x) := hkw
  obtain ⟨av, cv, rfl, zz⟩ := hv
  obtain ⟨ah, ch, evh, _⟩ := ha.hits.form
  obtain ⟨sa, cs, evs, aS⟩ := ha.seen
  obtain ⟨ar, cr, evr, aR⟩ := ha.rest
  subst evh; subst evs; subst evr
  clear aS aR ha hask hwf hlen hkw zz
  obtain ⟨n, hn⟩ : ∃ n, n = rs.length := ⟨_, rfl⟩
  obtain ⟨nh, hnh⟩ : ∃ nh, nh = a.hits.length := ⟨_, rfl⟩
  obtain ⟨ns, hns⟩ : ∃ ns, ns = a.seen.length := ⟨_, rfl⟩
  obtain ⟨nr, hnr⟩ : ∃ nr, nr = a.rest.length := ⟨_, rfl⟩
  have NN : Hid (n = rs.length ∧ nh = a.hits.length ∧ ns = a.seen.length ∧ nr = a.rest.length) := ⟨hn, hnh, hns, hnr⟩
  rw [← hn] at V ⊢
  rw [← hnh, ← hns, ← hnr] at A ⊢
  have hnb : n ≤ 512 := by have := (askE_zero.1 AK.out).2.few; omega
  clear hn hnh hns hnr
  have mk := makeI
  obtain ⟨N0, hN0⟩ : ∃ N0, N0 = w.heap.size := ⟨_, rfl⟩
  obtain ⟨W0, hW0⟩ : ∃ W0, W0 = ((w.alloc (.cells #[.slice ah nh ch, .slice sa ns cs, .slice ar nr cr] 27)).alloc (.map #[] 0)).alloc (.cells #[.map (some (w.heap.size + 1))] 69) := ⟨_, rfl⟩
  have G0 : Hid (Gb w W0) := by unfold Hid; rw [hW0]; exact gb_alloc (gb_alloc (gb_alloc (Below.refl _ _) _) _) _
  have SZ : Hid (W0.heap.size = N0 + 1 + 1 + 1 ∧ N0 = w.heap.size) := by unfold Hid; rw [hW0, hN0]; exact ⟨by simp [World.size_alloc], rfl⟩
  have BX : Hid (W0.cell? ⟨N0, 0, none⟩ = some (.slice ah nh ch) ∧ W0.cell? ⟨N0, 1, none⟩ = some (.slice sa ns cs) ∧ W0.cell? ⟨N0, 2, none⟩ = some (.slice ar nr cr) ∧ W0.cell? ⟨N0 + 1 + 1, 0, none⟩ = some (.map (some (N0 + 1)))) := by
    unfold Hid; rw [hW0, hN0]; exact ⟨by simp [go_sem], by simp [go_sem], by simp [go_sem], by simp [go_sem]⟩
  have M0 : Hid (MapA Tryz.prog 3 W0 (N0 + 1) [] (fun _ => .int .i64 0)) := by
    unfold Hid
    have h1 := MapA.new (P := Tryz.prog) (kt := 3) (w.alloc (.cells #[.slice ah nh ch, .slice sa ns cs, .slice ar nr cr] 27)) (fun _ => .int .i64 0)
    have e1 : (w.alloc (.cells #[.slice ah nh ch, .slice sa ns cs, .slice ar nr cr] 27)).heap.size = N0 + 1 := by rw [World.size_alloc, hN0]
    rw [e1] at h1
    refine h1.same ?_
    rw [hW0]
    exact (gb_alloc (Below.refl _ _) _).block (N0 + 1) (by rw [World.size_alloc, e1]; omega)
  go_enter Tryz.func32, Tryz.ntmps32
  go_wp2
  rw [← hW0, ← hN0]
  clear hW0 hN0 mk
  go_loopw [18] (fun iv W => ∃ p : Nat, iv = .int .i64 (p : Int) ∧ p ≤ n ∧ Hid (Tk.Kp (fun b => b = N0 + 1) W0 W ∧ ∃ ks, MapA Tryz.prog 3 W (N0 + 1) ks (fun _ => .int .i64 0) ∧ (∀ x, x ∈ ks ↔ x ∈ (idsOf rs).take p) ∧ ks.length ≤ p)) (fun iv _ => n - (intOf iv).toNat)
  case atStart => exact ⟨0, rfl, Nat.zero_le _, Tk.Kp.refl _ _, [], M0.out, by simp, Nat.le_refl _⟩
  case round =>
    obtain ⟨p, rfl, hp, X⟩ := hrel
    by_cases hpn : p < n
    · have hpi : (p : Int) < (n : Int) := by omega
      have hpl : p < rs.length := by have := NN.out; omega
      obtain ⟨KP, ks, hM, hks, hkl⟩ := X.out
      have GW : Hid (Gb w wr) := gb_kp G0.out KP (fun k e => by have := SZ.out; omega)
      obtain ⟨_, _, ev, hA⟩ := V.out
      obtain ⟨b, o, u, ea, c1, c2, c3⟩ := hA p hpl
      injection ev with ev1 ev2 ev3
      subst ev1; subst ea
      have c1 := gb_keeps GW.out c1
      have c2 := gb_keeps GW.out c2
      obtain ⟨pu, cu, rfl, zu⟩ := c3
      have hxw : KWf rs[p]!.1 := KWf.of (WF.out.2 p hpl)
      have b4 := KP.cell BX.out.2.2.2 (by dsimp only; omega)
      have TK : Hid ((idsOf rs).take (p + 1) = (idsOf rs).take p ++ [rs[p]!.1]) := ids_take hpl
      have hkn : ks.length < 1000000 := by omega
      obtain ⟨W1, hW1⟩ : ∃ W1, W1 = wr.alloc (.cells #[.int .i64 rs[p]!.1, .slice pu rs[p]!.2.length cu] 46) := ⟨_, rfl⟩
      have G1 : Gb wr W1 := by rw [hW1]; exact gb_alloc (Below.refl _ _) _
      obtain ⟨w2, hput, hm2, hmt⟩ := (hM.same (G1.block _ hM.lt)).put Tryz.underlying3 Tryz.underlying69 hkn hxw (.int .i64 0)
      have XN : Hid (Tk.Kp (fun b => b = N0 + 1) W0 w2 ∧ ∃ ks, MapA Tryz.prog 3 w2 (N0 + 1) ks (fun _ => .int .i64 0) ∧ (∀ x, x ∈ ks ↔ x ∈ (idsOf rs).take (p + 1)) ∧ ks.length ≤ p + 1) := by
        refine ⟨(KP.trans (Tk.Kp.of_gr G1)).trans ((Tk.Kp.grown hmt.grown).mono (fun k _ e => by injection e)), putK ks rs[p]!.1, hm2.ext (fun y _ => ?_), fun x => ?_, ?_⟩
        · unfold putF; split <;> rfl
        · rw [mem_putK, hks x, TK.out, List.mem_append, List.mem_singleton]
          exact Or.comm
        · unfold putK
          split
          · omega
          · simp only [List.length_cons]; omega
      have b4' := gb_keeps G1 b4
      clear X hM hm2 hmt TK hks hkl zu hxw hpl KP GW ev2 ev3 hA hkn G1
      subst hW1
      generalize rs[p]!.1 = x at *
      generalize rs[p]!.2.length = nx at *
      go_wp2
      go_roundw
      case rel => exact ⟨p + 1, by first | rfl | go_num, hpn, XN.out⟩
      case measure => simp [intOf]; omega
    · have hpi : ¬ (p : Int) < (n : Int) := by omega
      obtain ⟨KP, ks, hM, hks, hkl⟩ := X.out
      rw [List.take_of_length_le (by unfold idsOf; rw [List.length_map]; have := NN.out; omega)] at hks
      have hkn : ks.length < 1000000 := by omega
      have KS : Hid (∀ x, x ∈ ks ↔ x ∈ idsOf rs) := hks
      obtain ⟨W3, hW3⟩ : ∃ W3, W3 = wr.alloc (.cells #[.int .i64 (n : Int)] 3) := ⟨_, rfl⟩
      have G3 : Gb wr W3 := by rw [hW3]; exact gb_alloc (Below.refl _ _) _
      have GW : Hid (Gb w W3) := gb_trans (gb_kp G0.out KP (fun k e => by have := SZ.out; omega)) G3
      obtain ⟨bl, hbl⟩ : ∃ bl, bl = wr.heap.size := ⟨_, rfl⟩
      have SB : Hid (N0 + 1 + 1 < bl ∧ w.heap.size ≤ bl) := by
        have h1 := KP.size
        have h2 := SZ.out
        exact ⟨by omega, by omega⟩
      have PS : Hid (PlSt W3 (N0 + 1 + 1) bl (N0 + 1) ks (fun _ => 0) (n : Int)) := by
        refine ⟨gb_keeps G3 (KP.cell BX.out.2.2.2 (by dsimp only; omega)), ?_, ?_, hM.same (G3.block _ hM.lt), by have := SB.out; omega, by omega, by have := SB.out; omega⟩
        · rw [hW3, hbl]; simp [go_sem]
        · rw [hW3, hbl]; simp [go_sem]
      have B3 : Hid (W3.cell? ⟨N0, 1, none⟩ = some (.slice sa ns cs) ∧ W3.cell? ⟨N0, 2, none⟩ = some (.slice ar nr cr)) :=
        ⟨gb_keeps G3 (KP.cell BX.out.2.1 (by dsimp only; omega)), gb_keeps G3 (KP.cell BX.out.2.2.1 (by dsimp only; omega))⟩
      have hnb' := LN.out
      have IDN : Hid ((idsOf rs).Nodup) := ids_ndp AK.out
      have cs := standAt_c (p := 1) (ids := idsOf rs) PS.out hks hkn (A.out.seen.gb GW.out) (by have := hnb'.1; unfold allIds at this; rw [List.length_append] at this; omega)
        (fun i hi' => KW.out _ (by unfold allIds; exact List.mem_append_left _ (by rw [getElem!_pos a.seen i hi']; exact List.getElem_mem hi')))
        (by have := hnb'.1; unfold allIds at this; rw [List.length_append] at this; omega)
        (fun b o n c e h => by have := rdi_blk A.out.seen e h; have := SB.out; omega)
      have s1 := B3.out.1
      rw [hW3] at s1
      clear X hM hks hkl KP G3 M0 BX hnb'
      go_wp2_with fail
      rw [← hW3, ← hbl]
      clear hW3 hbl s1
      go_fit cs
      rintro e w4 (⟨g1, hg1, rfl, P4, K4⟩ | ⟨hno, rfl, g1, L1, P4, K4⟩)
      · have X4 : Hid (∃ g, Plcd (idsOf rs) a 0 g ∧ PlSt w4 (N0 + 1 + 1) bl (N0 + 1) ks g ((n : Int) - ((a.seen ++ restTo a 0).length : Nat)) ∧ Tk.Kp (fun b => b = N0 + 1 ∨ b = bl) W3 w4) :=
          ⟨g1, Plcd.start hg1, by rw [restTo_zero, List.append_nil]; exact P4, K4⟩
        have s2 := K4.cell B3.out.2 (by dsimp only; have := SB.out; omega)
        clear cs hg1 P4 K4
        go_wp2
        clear s2
        go_loopw [38] (fun iv W => ∃ t : Nat, iv = .int .i64 (t : Int) ∧ t ≤ nr ∧ Hid (∃ g, Plcd (idsOf rs) a t g ∧ PlSt W (N0 + 1 + 1) bl (N0 + 1) ks g ((n : Int) - ((a.seen ++ restTo a t).length : Nat)) ∧ Tk.Kp (fun b => b = N0 + 1 ∨ b = bl) W3 W)) (fun iv _ => nr - (intOf iv).toNat)
        case atStart => exact ⟨0, rfl, Nat.zero_le _, X4.out⟩
        case round =>
          clear X4
          obtain ⟨t, rfl, ht, X⟩ := hrel
          obtain ⟨g, hPl, hPS, hKp⟩ := X.out
          have PL : Hid (Plcd (idsOf rs) a t g) := hPl
          have PT : Hid (PlSt wr (N0 + 1 + 1) bl (N0 + 1) ks g ((n : Int) - ((a.seen ++ restTo a t).length : Nat))) := hPS
          have KT : Hid (Tk.Kp (fun b => b = N0 + 1 ∨ b = bl) W3 wr) := hKp
          have GT : Hid (Gb w wr) := gb_kp GW.out hKp (fun k e => by have := SZ.out; have := SB.out; omega)
          clear X hPl hPS hKp
          by_cases htn : t < nr
          · have hti : (t : Int) < (nr : Int) := by omega
            have htl : t < a.rest.length := by have := NN.out; omega
            obtain ⟨_, _, ea, hA⟩ := A.out.rest
            obtain ⟨b1, o1, y1, y2, y3, e1, c0, c1, c2, c3, c4, c5, r1, r2, r3⟩ := hA t htl
            injection ea with ea1 ea2 ea3
            subst ea1; subst e1
            clear hA ea2 ea3
            obtain ⟨W5, hW5⟩ : ∃ W5, W5 = wr.alloc (.cells #[.int .i64 (a.rest[t]).S, y1, y2, .int .u64 (hi (a.rest[t]).R), .int .u64 (lo (a.rest[t]).R), y3] 48) := ⟨_, rfl⟩
            have G5 : Hid (Gb wr W5) := by unfold Hid; rw [hW5]; exact gb_alloc (Below.refl _ _) _
            have hsz : (a.seen ++ restTo a t).length + (a.rest[t]).I.length ≤ (allIds a).length := by
              have h1 := restTo_le (a := a) (t + 1)
              rw [restTo_succ htl, ← List.append_assoc, List.length_append] at h1
              exact h1
            have hsl := PL.out.left
            have hnr : (idsOf rs).length = n := by unfold idsOf; rw [List.length_map]; exact NN.out.1.symm
            have cs := standAt_c (p := 2 + (t : Int)) (ids := idsOf rs) (PT.out.gb G5.out) KS.out hkn ((r3.gb GT.out).gb G5.out) (by have := LN.out.1; omega)
              (fun i hi' => KW.out _ (by
                rw [← restTo_all]
                exact List.mem_append_right _ (restTo_mem htl htl (by rw [getElem!_pos _ i hi']; exact List.getElem_mem hi'))))
              (by have := LN.out.1; omega)
              (fun b o n c e h => by have := rdi_blk r3 e h; have := SB.out; omega)
            have a0 := gb_keeps GT.out c0
            have a1 := gb_keeps GT.out c1
            have a2 := gb_keeps GT.out c2
            have a3 := gb_keeps GT.out c3
            have a4 := gb_keeps GT.out c4
            have a5 := gb_keeps GT.out c5
            have NX : Hid ((a.seen ++ restTo a (t + 1)).length = (a.seen ++ restTo a t).length + (a.rest[t]).I.length) := by
              unfold Hid
              rw [restTo_succ htl, ← List.append_assoc, List.length_append]
            have hht : t ≤ 100000 := by have := LN.out.2; omega
            obtain ⟨u1, u2, e, z1⟩ := r1; subst e
            obtain ⟨u3, u4, e, z2⟩ := r2; subst e
            obtain ⟨u5, u6, e, z3⟩ := r3; subst e
            obtain ⟨l, hl⟩ : ∃ l, l = (a.rest[t]).I := ⟨_, rfl⟩
            have HLq : Hid (∀ h : t < a.rest.length, l = (a.rest[t]).I) := fun _ => hl
            rw [← hl] at cs a5 hW5 NX
            have HT : Hid (t < a.rest.length) := htl
            generalize (a.rest[t]).L.length = d1 at *
            generalize (a.rest[t]).H.length = d2 at *
            generalize (a.rest[t]).S = d3 at *
            generalize hi (a.rest[t]).R = d4 at *
            generalize lo (a.rest[t]).R = d5 at *
            obtain ⟨nl, hnl⟩ : ∃ nl, nl = l.length := ⟨_, rfl⟩
            have HNL : Hid (nl = l.length) := hnl
            rw [← hnl] at cs a5 hW5
            clear z1 z2 z3 c0 c1 c2 c3 c4 c5 hl hnl htl hsz hsl hnr
            go_wp2_with fail
            rw [← hW5]
            go_fit cs
            rintro e w6 (⟨g2, hg2, rfl, P6, K6⟩ | ⟨hno, rfl, g2, L2, P6, K6⟩)
            · have XN : Hid (∃ g, Plcd (idsOf rs) a (t + 1) g ∧ PlSt w6 (N0 + 1 + 1) bl (N0 + 1) ks g ((n : Int) - ((a.seen ++ restTo a (t + 1)).length : Nat)) ∧ Tk.Kp (fun b => b = N0 + 1 ∨ b = bl) W3 w6) := by
                refine ⟨g2, PL.out.next HT.out (by rw [← HLq.out HT.out]; exact hg2), ?_, (KT.out.trans (Tk.Kp.of_gr G5.out)).trans (K6.mono (fun k _ e => e))⟩
                rw [NX.out]
                have e1 : (n : Int) - (((a.seen ++ restTo a t).length + l.length : Nat) : Int) = (n : Int) - ((a.seen ++ restTo a t).length : Nat) - (l.length : Int) := by omega
                rw [e1]
                exact P6
              clear cs hg2 P6 K6 hW5 G5 NX a0 a1 a2 a3 a4 a5
              go_wp2
              go_roundw
              case rel => exact ⟨t + 1, by first | rfl | go_num, htn, XN.out⟩
              case measure => simp [intOf]; omega
            · have m6 := P6.m
              have FO : Hid (PlOut w rs a (.returned (.tuple #[.map (some (N0 + 1)), .bool false])) w6) :=
                ⟨N0 + 1, false, ks, g2, rfl, gb_kp (gb_trans GT.out G5.out) K6 (fun k e => by have := SZ.out; have := SB.out; omega), by have := SZ.out; omega, P6.a, KS.out, ⟨fun h => (by cases h), fun h => absurd h (PL.out.no HT.out IDN.out (by rw [← HLq.out HT.out]; exact hno))⟩, fun h => (by cases h)⟩
              clear cs hno P6 K6 hW5 G5 NX a0 a1 a2 a3 a4 a5
              go_wp2
              go_ret2
              exact FO.out
          · have hti : ¬ (t : Int) < (nr : Int) := by omega
            have e : t = a.rest.length := by have := NN.out; omega
            have m4 := PT.out.m
            have l4 := PT.out.l
            have hPl := PL.out
            rw [e] at hPl
            have hal := hPl.all
            have hnr : (idsOf rs).length = n := by unfold idsOf; rw [List.length_map]; exact NN.out.1.symm
            have FO : Hid (∀ W, Gb wr W → PlOut w rs a (.returned (.tuple #[.map (some (N0 + 1)), .bool (decide ((n : Int) - ((a.seen ++ restTo a t).length : Nat) = 0))])) W) := fun W hg => by
              refine ⟨N0 + 1, _, ks, g, rfl, gb_trans GT.out hg, by have := SZ.out; omega, PT.out.a.same (hg.block _ PT.out.a.lt), KS.out, ?_, fun _ => hPl⟩
              rw [← hal.2, decide_eq_true_eq, e, restTo_all]
              omega
            generalize (n : Int) - ((a.seen ++ restTo a t).length : Nat) = z at *
            clear hPl hal hnr e
            go_wp2_with fail
            go_quiet (fail)
            have FF := FO.out _ (below_drewN (Below.refl _ _) nq)
            clear m4 l4 FO
            go_wp2
            go_ret2
            first | exact FF | (simpa using FF)
      · have m4 := P4.m
        have FO : Hid (PlOut w rs a (.returned (.tuple #[.map (some (N0 + 1)), .bool false])) w4) :=
          ⟨N0 + 1, false, ks, g1, rfl, gb_kp GW.out K4 (fun k e => by have := SZ.out; have := SB.out; omega), by have := SZ.out; omega, P4.a, KS.out, ⟨fun h => (by cases h), fun h => absurd h (stand_seen_no IDN.out hno)⟩, fun h => (by cases h)⟩
        clear cs P4 K4 hno
        go_wp2
        go_ret2
        exact FO.out
end Go.Proofs.YtdmdjmliggjbjaaGreat
