/- KmeansMoves: the walk. -/
import Derived.Test.YtgglofeliffgbaaKShift
import Derived.Test.YtgglofeliffgbaaKAwake
import Derived.Test.YtgglofeliffgbaaKBig
namespace Go.Proofs.Ytgglofeliffgbaa
open Go.RowKit Go.Maps

/-- A list of lists of numbers, all of the call's own. -/
structure Ll (w W : World) (v : Value) (us : List Value) (xs : Vs) : Prop where
  row : W.ownsRow w.heap.size 30 1 v us.length us
  len : us.length = xs.length
  own : ∀ i, i < us.length → Own W w.heap.size us[i]! xs[i]!
  gb : Gb w W
theorem own_ne {W : World} {B B' n : Nat} {u v : Value} {x : List Int} {xs : List Value} (h : Own W B u x) (r : W.ownsRow B' 30 1 v n xs) : u.ownBlock = none ∨ u.ownBlock ≠ v.ownBlock := by
  rcases h.2 with ⟨rfl, _⟩ | ⟨g, cap, cur, rfl, _, h2, _⟩
  · exact .inl rfl
  · rcases r.2 with ⟨rfl, _⟩ | ⟨g', cap', cur', rfl, _, h4, _⟩
    · exact .inr (by simp [Value.ownBlock])
    · refine .inr (fun e => ?_)
      simp only [Value.ownBlock, Option.some.injEq] at e
      rw [e, h4] at h2
      injection h2 with h2
      injection h2 with _ h2
      exact absurd h2 (by decide)
theorem ll_nil (w : World) : Ll w w (.slice none 0 0) [] [] := ⟨World.ownsRow_nil _ _ _ _, rfl, fun _ hi => absurd hi (Nat.not_lt_zero _), Below.refl _ _⟩
theorem Ll.next {w W W1 W2 : World} {v v' u : Value} {us : List Value} {xs : Vs} {x : List Int} (h : Ll w W v us xs) (g1 : Gb W W1) (hu : Own W1 w.heap.size u x)
    (hr : W2.ownsRow w.heap.size 30 1 v' (us.length + 1) (us ++ [u])) (hg : W1.grownBy W2 v.ownBlock) : Ll w W2 v' (us ++ [u]) (xs ++ [x]) := by
  have r1 : W1.ownsRow w.heap.size 30 1 v us.length us := World.ownsRow.kept h.row (row := none) ⟨g1.os, g1.tape, g1.output, g1.size, fun k hk _ => g1.block k hk⟩ (by cases hv : v.ownBlock <;> simp)
  refine ⟨by rw [List.length_append]; exact hr, by rw [List.length_append, List.length_append, h.len]; rfl, fun i hi => ?_, below_grown (gb_trans h.gb g1) hg (fun k e => (World.ownsRow.lt h.row k e).1) (Nat.le_trans h.gb.size g1.size)⟩
  rw [List.length_append] at hi
  by_cases e : i < us.length
  · have o1 := (h.own i e).gb g1
    rw [getElem!_pos (us ++ [u]) i (by rw [List.length_append]; exact hi), getElem!_pos (xs ++ [x]) i (by rw [List.length_append, ← h.len]; exact hi), List.getElem_append_left e, List.getElem_append_left (by rw [← h.len]; exact e), ← getElem!_pos us i e, ← getElem!_pos xs i (by rw [← h.len]; exact e)]
    exact o1.kept hg (own_ne o1 r1)
  · have e' : i = us.length := by simp at hi; omega
    subst e'
    have e2 : (us ++ [u])[us.length]! = u := by rw [getElem!_pos _ _ (by simp)]; simp
    have e3 : (xs ++ [x])[us.length]! = x := by rw [h.len, getElem!_pos _ _ (by simp)]; simp
    rw [e2, e3]
    exact hu.kept hg (own_ne hu r1)
theorem Ll.rd {w W : World} {v : Value} {us : List Value} {xs : Vs} (h : Ll w W v us xs) : RdV W v xs := by
  rcases h.row.2 with ⟨rfl, h0⟩ | ⟨g, cap, cur, rfl, _⟩
  · have : xs = [] := List.eq_nil_of_length_eq_zero (by rw [← h.len]; exact h0)
    subst this; exact rdv_nil _
  · refine ⟨_, cap, by rw [h.len], fun i hi => ⟨g, 0, us[i]!, rfl, ?_, (h.own i (by rw [h.len]; exact hi)).rd⟩⟩
    have hi' : i < us.length := by rw [h.len]; exact hi
    have := World.ownsRow.cells h.row (g := g) rfl i us[i]! (by rw [List.getElem?_eq_getElem hi', getElem!_pos us i hi'])
    rwa [Addr.add_lit] at this
theorem three_gb {w0 W w' : World} {p q : Addr} {u v : Value} (g : Gb W w') (h : Gb w0 W ∧ W.cell? p = some u ∧ W.cell? q = some v) : Gb w0 w' ∧ w'.cell? p = some u ∧ w'.cell? q = some v := ⟨gb_trans h.1 g, gb_keeps g h.2.1, gb_keeps g h.2.2⟩

theorem slice_form {w : World} {v : Value} {l : List Int} (h : RdI w v l) : ∃ p c n, v = .slice p n c := by
  obtain ⟨p, c, e, _⟩ := h
  exact ⟨p, c, _, e⟩

set_option maxRecDepth 100000 in
set_option maxHeartbeats 4000000 in
theorem moves_ok {w : World} {v b : Value} {l : Vs} {bs : List Int} (hv : RdV w v l) (hb : RdI w b bs) (hbl : bs.length ≤ 9223372036854775807) (k r x : Int) (hx : Rn.U x) (hz : trainE l k r = 0) :
    Calls Try.prog 7 #[v, .int .i64 k, .int .i64 r, .int .u64 x, b] w fun e w' => e = .returned (.bool true) ∧ Gb w w' := by
  have cbig := big_c hv
  have ct := train_ok_c hv x hx hz
  obtain ⟨h1, h2, h3, h4⟩ := trainE_zero.1 hz
  have TO := train_ok hz x r.toNat
  have TM : Hid (trainV (shVs (mv bs) l) k.toNat r.toNat x = shVs (mv bs) (trainV l k.toNat r.toNat x)) := train_move (mv bs) hz x
  have TE : Hid (trainE (shVs (mv bs) l) k r = 0 ∨ trainE (shVs (mv bs) l) k r = 31) := trainE_move (mv bs) hz
  have hd0 := h4.get (i := 0) (by omega)
  change Within l (trainV l k.toNat r.toNat x) _ ∧ VsOk (trainV l k.toNat r.toNat x) _ ∧ (trainV l k.toNat r.toNat x).length = _ at TO
  generalize trainV l k.toNat r.toNat x = cs at *
  have V : Hid (RdV w v l) := hv
  have B : Hid (RdI w b bs) := hb
  have CL : Hid (cs.length = k.toNat ∧ (∀ i, i < k.toNat → cs[i]!.length = l[0]!.length) ∧ ∀ i, i < k.toNat → allR cs[i]! = true ∧ cs[i]!.length ≤ 64) := ⟨TO.2.2, fun i hi => (TO.1 i (by omega)).1, fun i hi => by have := TO.2.1.get (i := i) (by omega); exact ⟨this.2.2.2, this.2.1⟩⟩
  have LO : Hid (∀ j, j < l.length → allR l[j]! = true ∧ l[j]!.length ≤ 64) := fun j hj => by have := h4.get hj; exact ⟨this.2.2.2, this.2.1⟩
  have DS : Hid ((shVs (mv bs) l)[0]!.length = l[0]!.length) := by unfold Hid; rw [shVs_get (mv bs) (show 0 < l.length by omega), shV_len]
  obtain ⟨a, cap, rfl, _⟩ := hv
  obtain ⟨ab, cb', rfl, _⟩ := hb
  obtain ⟨n, hN⟩ : ∃ n, n = l.length := ⟨_, rfl⟩
  have N : Hid (n = l.length) := hN
  obtain ⟨m, hM⟩ : ∃ m, m = bs.length := ⟨_, rfl⟩
  have M : Hid (m = bs.length) := hM
  rw [← hN] at cbig ct V h2 h3 ⊢
  rw [← hM] at B hbl ⊢
  clear hz TO h4 hN hM hd0
  obtain ⟨i0, hi, hz0, hz1, hz2⟩ := info_parts' Try.infoV
  have II : Hid (Try.prog.info? 30 = some i0 ∧ i0.zero = some (.slice none 0 0) ∧ i0.size = 1 ∧ i0.bytes = 24) := ⟨hi, hz0, hz1, hz2⟩
  clear hi hz0 hz1 hz2
  obtain ⟨k1, k2, k3, k4⟩ := h1
  go_enter Try.func7, Try.ntmps7
  go_wp2_with fail
  refine cbig.mono ?_
  rintro e w' ⟨⟨bb, rfl, hb⟩, e2⟩
  subst e2
  clear cbig
  cases bb with
  | true =>
    clear ct
    go_wp2
    go_ret
    exact ⟨rfl, Below.refl _ _⟩
  | false =>
    clear hb
    by_cases hbig : (65536 : Int) < (m : Int)
    · clear ct
      go_wp2
      go_ret
      exact ⟨rfl, Below.refl _ _⟩
    go_wp2_with fail
    refine ct.mono ?_
    rintro e w1 ⟨cv, rfl, oC, g1⟩
    have RC : Hid (RdV w1 cv cs) := outC_rd oC CL.out.1 CL.out.2.1
    obtain ⟨cb, gs, cp, rfl, _⟩ := oC
    have V1 : Hid (RdV w1 (.slice a n cap) l) := V.out.gb g1
    have B1 : Hid (RdI w1 (.slice ab m cb') bs) := B.out.gb g1
    have G1 : Hid (Gb w w1) := g1
    clear ct V B g1
    go_wp2
    go_loopw [13, 14] (fun ov iv W => ∃ (q : Nat) (us : List Value), iv = .int .i64 (q : Int) ∧ q ≤ n ∧ Hid (Ll w1 W ov us ((shVs (mv bs) l).take q))) (fun _ iv _ => n - (intOf iv).toNat)
    case atStart => exact ⟨0, [], rfl, Nat.zero_le _, ll_nil _⟩
    case round =>
      obtain ⟨q, us, rfl, hq, X⟩ := hrel
      by_cases hqn : q < n
      · have hqi : (q : Int) < (n : Int) := by omega
        have hql : q < l.length := by have := N.out; omega
        obtain ⟨b1, o1, u1, ea, y1, y2⟩ := cen_at V1.out hql
        subst ea
        have gX := X.out.gb
        have x0 := gb_keeps gX y1
        have csh := shifted_c (y2.gb gX) (B1.out.gb gX) (LO.out q hql).1 (LO.out q hql).2 (by have := M.out; omega)
        have NX : Hid ((shVs (mv bs) l).take (q + 1) = (shVs (mv bs) l).take q ++ [shV (mv bs) l[q]!]) := shVs_take (mv bs) hql
        have hul : Hid (us.length = q) := by unfold Hid; rw [X.out.len, List.length_take, shVs_len]; omega
        obtain ⟨pu, cu, rfl, _⟩ := y2
        generalize l[q]!.length = nl at *
        generalize shV (mv bs) l[q]! = sx at *
        have hrow := X.out.row
        obtain ⟨nv, pv, cv, ev⟩ : ∃ nv pv cv, u13 = .slice pv nv cv := by obtain ⟨pv, cv, ev, _⟩ := X.out.rd; exact ⟨_, pv, cv, ev⟩
        subst ev
        clear y1
        go_wp2_with fail
        refine csh.mono ?_
        rintro e w2 ⟨v', rfl, ho, g2⟩
        have ho' := ho.mono gX.size
        obtain ⟨ne, pe, ce, ee⟩ : ∃ ne pe ce, v' = .slice pe ne ce := by obtain ⟨pv, cv, ev, _⟩ := ho.rd; exact ⟨_, pv, cv, ev⟩
        subst ee
        have hrow2 : w2.ownsRow w1.heap.size 30 1 (.slice pv nv cv) us.length us := World.ownsRow.kept hrow (row := none) ⟨g2.os, g2.tape, g2.output, g2.size, fun k hk _ => g2.block k hk⟩ (by cases (Value.slice pv nv cv).ownBlock <;> simp)
        have hw0 : w1.heap.size ≤ w2.heap.size := Nat.le_trans gX.size g2.size
        have hu512 : us.length ≤ 512 := by have := hul.out; omega
        have II' := II.out
        have FIN : Hid (∀ (v' : Value) (w3 : World), w3.ownsRow w1.heap.size 30 1 v' (us.length + 1) (us ++ [.slice pe ne ce]) → (w2.alloc (.cells #[.slice pe ne ce] 30)).grownBy w3 (Value.slice pv nv cv).ownBlock → Ll w1 w3 v' (us ++ [.slice pe ne ce]) ((shVs (mv bs) l).take (q + 1))) := fun v' w3 hr hg => by
          rw [NX.out]
          exact X.out.next (gb_trans g2 (gb_alloc (Below.refl _ _) _)) (ho'.gb (gb_alloc (Below.refl _ _) _)) hr hg
        clear csh ho ho' g2 X hrow gX x0
        go_wp2_with (first
          | (at_builtin; refine wpList_append_own_at _ rfl _ _ 22 rfl w1.heap.size 30 i0 (.slice none 0 0) 1 24 Try.underlying22 II'.1 II'.2.1 II'.2.2.1 II'.2.2.2 rfl (by decide) (.slice pv nv cv) us.length us rfl (World.ownsRow.alloc hrow2 _) ⟨w2.heap.size, 0, none⟩ 1 1 [.slice pe ne ce] rfl rfl (cell_one_new _ _ _) (by simp [Value.oneCell']) (by unfold maxLen; omega) (by omega) (by rw [World.size_alloc]; omega) ?_; intro v' w3 hown' hgrow2 hnil2 hloc)
          | go_in)
        have F := FIN.out v' w3 hown' hgrow2
        clear hown' hgrow2 hnil2 hloc hrow2 FIN
        go_roundw
        case rel => exact ⟨q + 1, _, by go_num, hqn, F⟩
        case measure => simp [intOf]; omega
      · have hqi : ¬ (q : Int) < (n : Int) := by omega
        have X' := X.out
        rw [List.take_of_length_le (by rw [shVs_len]; have := N.out; omega)] at X'
        have RM := X'.rd
        have G2 : Hid (Gb w wr) := gb_trans G1.out X'.gb
        have RCW : Hid (RdV wr (.slice (some ⟨cb, 0, none⟩) k.toNat k.toNat) cs) := RC.out.gb X'.gb
        have BW : Hid (RdI wr (.slice ab m cb') bs) := B1.out.gb X'.gb
        clear X X' V1 RC B1
        rcases TE.out with hE | hE
        · have cm := train_ok_c RM x hx hE
          rw [TM.out, DS.out] at cm
          obtain ⟨pm, cm', rfl, _⟩ := RM
          generalize (shVs (mv bs) l).length = nm at *
          clear TM TE hE
          go_wp2_with fail
          refine cm.mono ?_
          rintro e w2 ⟨dv, rfl, oD, g2⟩
          have RD : Hid (RdV w2 dv (shVs (mv bs) cs)) := outC_rd oD (by rw [shVs_len]; exact CL.out.1) (fun i hi => by rw [shVs_get (mv bs) (by rw [CL.out.1]; exact hi), shV_len]; exact CL.out.2.1 i hi)
          obtain ⟨db, gs2, cp2, rfl, _⟩ := oD
          have RC2 : Hid (RdV w2 (.slice (some ⟨cb, 0, none⟩) k.toNat k.toNat) cs) := RCW.out.gb g2
          have B2 : Hid (RdI w2 (.slice ab m cb') bs) := BW.out.gb g2
          have G3 : Hid (Gb w w2) := gb_trans G2.out g2
          clear cm g2 RCW BW G2
          obtain ⟨K, hK⟩ : ∃ K, K = k.toNat := ⟨_, rfl⟩
          rw [← hK] at RD RC2 CL ⊢
          have hK64 : K ≤ 64 := by omega
          go_wp2
          go_loopw [18] (fun iv W => ∃ q : Nat, iv = .int .i64 (q : Int) ∧ q ≤ K ∧ Gb w2 W) (fun iv _ => K - (intOf iv).toNat)
          case atStart => exact ⟨0, rfl, Nat.zero_le _, Below.refl _ _⟩
          case round =>
            obtain ⟨t, rfl, ht, gW⟩ := hrel
            by_cases htn : t < K
            · have hti : (t : Int) < (K : Int) := by omega
              have htl : t < cs.length := by rw [CL.out.1]; exact htn
              obtain ⟨b1, o1, u1, ea, y1, y2⟩ := cen_at (RD.out.gb gW) (i := t) (by rw [shVs_len]; exact htl)
              cases ea
              obtain ⟨b2, o2, u2, eb, y3, y4⟩ := cen_at (RC2.out.gb gW) htl
              cases eb
              rw [shVs_get (mv bs) htl] at y2
              rw [Nat.zero_add] at y1 y3
              have csh := fun W' (g : Gb wr W') => shifted_c (y4.gb g) ((B2.out.gb gW).gb g) (CL.out.2.2 t htn).1 (CL.out.2.2 t htn).2 (by have := M.out; omega)
              have hl64 : (shV (mv bs) cs[t]!).length ≤ 4611686018427387904 := by rw [shV_len]; have := (CL.out.2.2 t htn).2; omega
              have cin := fun W' (g : Gb wr W') v2 (ho : RdI W' v2 (shV (mv bs) cs[t]!)) => ints_c (y2.gb g) ho hl64
              simp only [decide_true] at cin
              obtain ⟨pu, cu, rfl, _⟩ := y2
              obtain ⟨pu2, cu2, rfl, _⟩ := y4
              generalize shV (mv bs) cs[t]! = sx at *
              generalize cs[t]!.length = nl at *
              generalize sx.length = ns at *
              have GW : Hid (Gb w2 wr) := gW
              have dr : Gb wr wr.drew := (Below.refl _ _).drew
              clear gW hl64
              go_wp2
              go_region_held3 (fun w' => Gb wr w' ∧ w'.cell? ⟨db, t, none⟩ = some (.slice pu ns cu) ∧ w'.cell? ⟨cb, t, none⟩ = some (.slice pu2 nl cu2))
                (first | (with_reducible exact three_gb (by assumption) (by assumption)) | exact ⟨dr, y1, y3⟩)
                (first
                  | (go_at_call 21; refine (csh _ (And.left (by assumption))).mono ?_; rintro e w4 ⟨v2, rfl, ho, g4⟩; obtain ⟨p4, c4, n4, rfl⟩ := slice_form ho.rd)
                  | (go_at_call 22; refine (cin _ (And.left (by assumption)) _ (ho.rd)).mono ?_; rintro e w5 ⟨rfl, g5r⟩; have g5 := g5r.gb))
              all_goals
                have G5 : Gb w2 w5 := gb_trans GW.out (gb_trans dr (gb_trans g4 g5))
                clear csh cin ho g4 g5 g5r
                go_wp2
                exact ⟨⟨t + 1, by go_num, htn, G5⟩, by simp [intOf]; omega⟩
            · have hti : ¬ (t : Int) < (K : Int) := by omega
              have GW : Hid (Gb w wr) := gb_trans G3.out gW
              clear gW
              go_wp2_with (go_at_call 14; refine (awake_c _).mono ?_; rintro e w5 ⟨rfl, g5⟩)
              go_ret
              exact ⟨rfl, gb_trans GW.out g5⟩
        · have cm := train_no_c RM k r x (by rw [hE]; decide)
          rw [hE] at cm
          obtain ⟨pm, cm', rfl, _⟩ := RM
          generalize (shVs (mv bs) l).length = nm at *
          clear TM TE hE
          go_wp2_with fail
          refine cm.mono ?_
          rintro e w2 ⟨rfl, e2⟩
          subst e2
          clear cm
          go_wp2_with (go_at_call 14; refine (awake_c _).mono ?_; rintro e w5 ⟨rfl, g5⟩)
          go_ret
          exact ⟨rfl, gb_trans G2.out g5⟩

set_option maxRecDepth 100000 in
set_option maxHeartbeats 1000000 in
theorem moves_no {w : World} {v b : Value} {l : Vs} {bs : List Int} (hv : RdV w v l) (hb : RdI w b bs) (k r x : Int) (hz : trainE l k r ≠ 0) :
    Calls Try.prog 7 #[v, .int .i64 k, .int .i64 r, .int .u64 x, b] w fun e w' => e = .returned (.bool true) ∧ Gb w w' := by
  have cbig := big_c hv
  have ct := train_no_c hv k r x hz
  have hz' : (trainE l k r == 0) = false := by rw [beq_eq_false_iff_ne]; exact hz
  obtain ⟨a, cap, rfl, _⟩ := hv
  obtain ⟨ab, cb', rfl, _⟩ := hb
  generalize trainE l k r = z at *
  generalize l.length = n at *
  generalize bs.length = m at *
  go_enter Try.func7, Try.ntmps7
  go_wp2_with fail
  refine cbig.mono ?_
  rintro e w' ⟨⟨bb, rfl, hb⟩, e2⟩
  subst e2
  clear cbig
  cases bb with
  | true =>
    clear ct
    go_wp2
    go_ret
    exact ⟨rfl, Below.refl _ _⟩
  | false =>
    clear hb
    by_cases hbig : (65536 : Int) < (m : Int)
    · clear ct
      go_wp2
      go_ret
      exact ⟨rfl, Below.refl _ _⟩
    go_wp2_with fail
    refine ct.mono ?_
    rintro e w1 ⟨rfl, e2⟩
    subst e2
    clear ct
    go_wp2_with (go_at_call 14; refine (awake_c _).mono ?_; rintro e w5 ⟨rfl, g5⟩)
    go_ret
    exact ⟨rfl, g5⟩
theorem moves_law {w : World} {v b : Value} {l : Vs} {bs : List Int} (hv : RdV w v l) (hb : RdI w b bs) (hbl : bs.length ≤ 9223372036854775807) (k r x : Int) (hx : Rn.U x) :
    Calls Try.prog 7 #[v, .int .i64 k, .int .i64 r, .int .u64 x, b] w fun e w' => e = .returned (.bool true) ∧ Gb w w' := by
  by_cases hz : trainE l k r = 0
  · exact moves_ok hv hb hbl k r x hx hz
  · exact moves_no hv hb k r x hz
end Go.Proofs.Ytgglofeliffgbaa
