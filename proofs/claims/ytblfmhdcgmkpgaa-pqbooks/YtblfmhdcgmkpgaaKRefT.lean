/- The reference's round. -/
import Derived.Test.YtblfmhdcgmkpgaaKRefD
namespace Go.Proofs.Ytblfmhdcgmkpgaa
open Go.RowKit Go.Maps

/-- To which centre each of the first p vectors is nearest. -/
def wherL (cs l : Vs) (p : Nat) : List Int := (List.range p).map fun j => ((nearP cs l[j]!).1 : Int)
theorem wherL_len (cs l : Vs) (p : Nat) : (wherL cs l p).length = p := by simp [wherL]
theorem wherL_succ (cs l : Vs) (p : Nat) : wherL cs l (p + 1) = wherL cs l p ++ [((nearP cs l[p]!).1 : Int)] := by simp [wherL, List.range_succ]
theorem wherL_get (cs l : Vs) {p i : Nat} (h : i < p) : (wherL cs l p)[i]! = ((nearP cs l[i]!).1 : Int) := by
  rw [getElem!_pos _ i (by rw [wherL_len]; exact h)]; simp [wherL]
/-- The sum of coordinate t of those among the first q vectors that are nearest to centre i. -/
def sumB (cs l : Vs) (i q : Nat) (t : Nat) : Int := sumTo l (belTo cs l i q) t (belTo cs l i q).length
theorem sumTo_app (l : Vs) (ps qs : List Nat) (t : Nat) : ∀ n, n ≤ ps.length → sumTo l (ps ++ qs) t n = sumTo l ps t n
  | 0, _ => rfl
  | n + 1, h => by
    rw [sumTo, sumTo, sumTo_app l ps qs t n (by omega)]
    rw [getElem!_pos (ps ++ qs) n (by rw [List.length_append]; omega), List.getElem_append_left (by omega), ← getElem!_pos ps n (by omega)]
theorem sumB_in {cs l : Vs} {i q : Nat} (h : (nearP cs l[q]!).1 = i) (t : Nat) : sumB cs l i (q + 1) t = sumB cs l i q t + l[q]![t]! := by
  unfold sumB
  rw [belTo_next, if_pos h, List.length_append, List.length_singleton, sumTo, sumTo_app l _ _ t _ (Nat.le_refl _)]
  rw [getElem!_pos (belTo cs l i q ++ [q]) _ (by simp)]
  simp
theorem sumB_out {cs l : Vs} {i q : Nat} (h : (nearP cs l[q]!).1 ≠ i) (t : Nat) : sumB cs l i (q + 1) t = sumB cs l i q t := by
  unfold sumB
  rw [belTo_next, if_neg h]
theorem sumB_bd {cs l : Vs} {d i q t : Nat} (hl : VsOk l (d : Int)) (ht : t < d) (hq : q ≤ l.length) (hn : l.length ≤ 512) : -1100000000000 ≤ sumB cs l i q t ∧ sumB cs l i q t ≤ 1100000000000 := by
  have h1 := belTo_len cs l i q
  have h2 := sumTo_within l (belTo cs l i q) t (-2147483647) 2147483647 (belTo cs l i q).length (Nat.le_refl _) (fun j hj => by
    have hm : (belTo cs l i q)[j]! < q := belTo_lt (by rw [getElem!_pos _ j hj]; exact List.getElem_mem hj)
    have h3 := hl.get (i := (belTo cs l i q)[j]!) (by omega)
    exact allR_get h3.2.2.2 (by omega))
  unfold sumB
  have h4 : ((belTo cs l i q).length : Int) ≤ 512 := by omega
  omega
theorem middle_sum {cs l : Vs} {i t d : Nat} (hi : i < cs.length) (hd : cs[i]!.length = d) (ht : t < d) (h : (belTo cs l i l.length).length ≠ 0) : (roundV l cs)[i]![t]! = sumB cs l i l.length t / ((belTo cs l i l.length).length : Int) := by
  rw [roundV_get l hi, middle_get h (by omega)]; rfl
theorem roundV_same {cs l : Vs} {i : Nat} (hi : i < cs.length) (h : (belTo cs l i l.length).length = 0) : (roundV l cs)[i]! = cs[i]! := by
  rw [roundV_get l hi]; unfold middle; rw [if_pos h]
theorem wrapZ {x : Int} (h : -9223372036854775808 ≤ x ∧ x ≤ 9223372036854775807) : wrap64 x = x := by simp only [wrap64]; omega
theorem arr_list {w : World} {g d : Nat} {f : Nat → Int} {x : List Int} (h : Rn.Arr w g d d f) (hx : x.length = d) (hf : ∀ t, t < d → f t = x[t]!) : RdI w (.slice (some ⟨g, 0, none⟩) d d) x := arr_rd h hx hf
theorem arr_gb {w w' : World} {g n cap : Nat} {f : Nat → Int} (h : Rn.Arr w g n cap f) (g' : Gb w w') : Rn.Arr w' g n cap f := by
  have hl := h.lt
  obtain ⟨cur, h1, h2⟩ := h
  exact ⟨cur, (g'.block g hl).trans h1, h2⟩

set_option maxRecDepth 100000 in
set_option maxHeartbeats 2000000 in
theorem rround_c {P : Nat → Prop} {w : World} {cv lv : Value} {cs l : Vs} {d : Nat} (hP : ∀ b, w.heap.size ≤ b → P b) (hc : RdVP P w cv cs) (hl : RdV w lv l) (hco : VsOk cs (d : Int)) (hlo : VsOk l (d : Int)) (h1 : 1 ≤ cs.length) (h64 : cs.length ≤ 64) (hn : l.length ≤ 512) (hd0 : 1 ≤ d) :
    Calls Try.prog 50 #[cv, lv] w fun e w' => ∃ v', e = .returned v' ∧ RdVP P w' v' (roundV l cs) ∧ Gb w w' := by
  have C : Hid (RdVP P w cv cs) := hc
  have HP : Hid (∀ b, w.heap.size ≤ b → P b) := hP
  clear hP
  have L : Hid (RdV w lv l) := hl
  have OK : Hid (VsOk cs (d : Int) ∧ VsOk l (d : Int)) := ⟨hco, hlo⟩
  have cn := fun W (g : Gb w W) (u : Value) (x : List Int) (hu : RdI W u x) (hx : chk x (d : Int) = 0) => rnearest_c (C.out.rd.gb g) hu OK.out.1 hx h1 h64
  obtain ⟨ac, cc, rfl, _⟩ := hc
  obtain ⟨al, cl, rfl, _⟩ := hl
  obtain ⟨i0, hi0, hz0, hz1, hz2⟩ := info_parts' Try.infoI
  have II : Hid (Try.prog.info? 3 = some i0 ∧ i0.zero = some (.int .i64 0) ∧ i0.size = 1 ∧ i0.bytes = 8) := ⟨hi0, hz0, hz1, hz2⟩
  obtain ⟨j0, hj0, hy0, hy1, hy2⟩ := info_parts' Try.infoV
  have JJ : Hid (Try.prog.info? 40 = some j0 ∧ j0.zero = some (.slice none 0 0) ∧ j0.size = 1 ∧ j0.bytes = 24) := ⟨hj0, hy0, hy1, hy2⟩
  obtain ⟨n, hN⟩ : ∃ n, n = l.length := ⟨_, rfl⟩
  obtain ⟨k, hK⟩ : ∃ k, k = cs.length := ⟨_, rfl⟩
  have NN : Hid (n = l.length ∧ k = cs.length) := ⟨hN, hK⟩
  rw [← hN] at L hn ⊢
  rw [← hK] at C h1 h64 ⊢
  simp only [← hK] at cn
  clear hN hK hco hlo hi0 hz0 hz1 hz2 hj0 hy0 hy1 hy2
  go_enter Try.func50, Try.ntmps50
  go_wp2
  go_loopw [5, 6] (fun wv iv W => ∃ p : Nat, iv = .int .i64 (p : Int) ∧ p ≤ n ∧ Hid (Gb w W ∧ Own W w.heap.size wv (wherL cs l p))) (fun _ iv _ => n - (intOf iv).toNat)
  case atStart => exact ⟨0, rfl, Nat.zero_le _, Below.refl _ _, own_nil _ _⟩
  case round =>
    obtain ⟨p, rfl, hp, X⟩ := hrel
    by_cases hpn : p < n
    · have hpi : (p : Int) < (n : Int) := by omega
      have hpl : p < l.length := by have := NN.out; omega
      obtain ⟨_, _, ev, hA⟩ := L.out
      obtain ⟨b, o, ur, ea, k1, k2⟩ := hA p hpl
      injection ev with ev1 ev2 ev3
      subst ev1
      subst ea
      have k1 := gb_keeps X.out.1 k1
      have cnp := cn _ X.out.1 ur l[p]! (k2.gb X.out.1) (OK.out.2 p hpl)
      have NX : Hid (wherL cs l (p + 1) = wherL cs l p ++ [((nearP cs l[p]!).1 : Int)]) := wherL_succ cs l p
      obtain ⟨x, hx⟩ : ∃ x : Nat, x = (nearP cs l[p]!).1 := ⟨_, rfl⟩
      rw [← hx] at cnp NX
      generalize (nearP cs l[p]!).2 = y at *
      obtain ⟨pu, cu, eu, _⟩ := k2
      subst eu
      generalize l[p]!.length = np at *
      have WL : Hid ((wherL cs l p).length = p) := wherL_len cs l p
      clear hA ev2 ev3 hpl hx
      go_wp2_with fail
      go_fit cnp
      rintro e w2 ⟨rfl, g2⟩
      have G2 : Hid (Gb w w2) := gb_trans X.out.1 g2.gb
      have hrow : w2.ownsRow w.heap.size 3 1 u5 p ((wherL cs l p).map (Value.int .i64)) := by
        have h := X.out.2.gb g2.gb
        unfold Own at h
        rw [WL.out] at h
        exact h
      clear cnp k1 g2 X
      go_wp2_with (first
        | (at_builtin; refine wpList_append_own_at _ rfl _ _ 40 rfl w.heap.size 3 i0 (.int .i64 0) 1 8 Try.underlying40 II.out.1 II.out.2.1 II.out.2.2.1 II.out.2.2.2 rfl (by decide) u5 p _ rfl ((hrow.alloc _).alloc _) ⟨w2.heap.size + 1, 0, none⟩ 1 1 [.int .i64 (x : Int)] rfl rfl (by have := cell_one_new (w2.alloc (.cells #[.int .u64 (hi y), .int .u64 (lo y)] 51)) (.int .i64 (x : Int)) 3; rw [World.size_alloc] at this; exact this) (ints_oneCell .i64 [(x : Int)]) (by simp only [maxLen]; omega) (by omega) (by have := G2.out.size; simp; omega) ?_; intro v5 w5 hown5 hgrow5 hnil5 hloc5)
        | go_in)
      have XN : Hid (Gb w w5 ∧ Own w5 w.heap.size v5 (wherL cs l (p + 1))) := by
        refine ⟨below_grown (gb_alloc (gb_alloc G2.out _) _) hgrow5 (fun j e => (hrow.lt j e).1) (gb_alloc (gb_alloc G2.out _) _).size, ?_⟩
        rw [NX.out]
        unfold Own
        rw [List.length_append, WL.out, List.map_append]
        exact hown5
      clear hown5 hgrow5 hnil5 hloc5 hrow
      go_roundw
      case rel => exact ⟨p + 1, by first | rfl | go_num | simp, hpn, XN⟩
      case measure => simp [intOf]; omega
    · have hpi : ¬ (p : Int) < (n : Int) := by omega
      have WO : Hid (Gb w wr ∧ Own wr w.heap.size u5 (wherL cs l n)) := by have h := X.out; rw [show p = n by omega] at h; exact h
      have WR0 : RdI wr u5 (wherL cs l n) := WO.out.2.rd
      obtain ⟨pw, cw, ew, _⟩ := WO.out.2.rd
      rw [wherL_len] at ew
      subst ew
      clear X
      go_wp2
      obtain ⟨Wa, hWa⟩ : ∃ Wa, Wa = wr := ⟨_, rfl⟩
      rw [← hWa] at WO WR0 ⊢
      have WR : Hid (RdI Wa (.slice pw n cw) (wherL cs l n)) := WR0
      clear hWa WR0
      go_loopw [9, 10] (fun ov iv W => ∃ c : Nat, iv = .int .i64 (c : Int) ∧ c ≤ k ∧ Hid (Gb Wa W ∧ OwnV P w W Wa.heap.size ov ((roundV l cs).take c))) (fun _ iv _ => k - (intOf iv).toNat)
      case atStart => exact ⟨0, rfl, Nat.zero_le _, Below.refl _ _, by rw [List.take_zero]; exact ownV_nil _ _ _ _⟩
      case round =>
        obtain ⟨c, rfl, hc, X⟩ := hrel
        by_cases hcn : c < k
        · have hci : decide ((c : Int) < (k : Int)) = true := by rw [decide_eq_true_eq]; omega
          have hcp : (c : Int) < (k : Int) := by omega
          have hcl : c < cs.length := by have := NN.out; omega
          obtain ⟨Wb, hWb⟩ : ∃ Wb, Wb = wr := ⟨_, rfl⟩
          rw [← hWb] at X ⊢
          clear hWb
          have GB : Hid (Gb w Wb) := gb_trans WO.out.1 X.out.1
          obtain ⟨_, _, ev, hA⟩ := C.out
          obtain ⟨bc, oc, uc, ea, _, k1, k2⟩ := hA c hcl
          injection ev with ev1 ev2 ev3
          subst ev1
          subst ea
          have CL : Hid (cs[c]!.length = d) := by have := OK.out.1.get hcl; unfold Hid; omega
          have K2 : Hid (RdIP P w uc cs[c]!) := k2
          obtain ⟨pc, cc', eu, _⟩ := k2
          subst eu
          rw [CL.out] at k1 K2
          have K1 : Hid (w.cell? ⟨bc, oc + c, none⟩ = some (.slice pc d cc')) := k1
          have k1 := gb_keeps GB.out k1
          have hdb : d ≤ 64 := by have := OK.out.1.get hcl; omega
          have hmk := run_make_row' (P := Try.prog) 40 3 (.int .i64 0) 8 Try.underlying40 Try.infoI rfl .i64 .i64 d (by omega) (by omega) Wb
          have A0 := Rn.arr_made Wb d
          generalize hV : Wb.alloc (.cells (madeCells #[Value.int .i64 0] d) 3) = V at *
          have GV : Hid (Gb Wb V) := by unfold Hid; rw [← hV]; exact gb_alloc (Below.refl _ _) _
          have AV : Hid (Rn.Arr V Wb.heap.size d d (fun s => sumB cs l c 0 s)) := A0.congr (fun i _ => by simp [sumB, belTo, sumTo])
          clear hV A0 hA ev2 ev3
          obtain ⟨g, hg⟩ : ∃ g, g = Wb.heap.size := ⟨_, rfl⟩
          have GG : Hid (g = Wb.heap.size) := hg
          rw [← hg] at AV hmk
          clear hg
          go_wp2
          clear hmk k1
          go_loopw [11, 13] (fun mv iv W => ∃ (q m : Nat), iv = .int .i64 (q : Int) ∧ q ≤ n ∧ mv = .int .i64 (m : Int) ∧ Hid (m = (belTo cs l c q).length ∧ m ≤ 512 ∧ Gb Wb W ∧ Rn.Arr W g d d (sumB cs l c q))) (fun _ iv _ => n - (intOf iv).toNat)
          case atStart => exact ⟨0, 0, rfl, Nat.zero_le _, rfl, by simp [belTo], Nat.zero_le _, GV.out, AV.out⟩
          case round =>
            clear AV
            obtain ⟨q, m, rfl, hq, rfl, Y⟩ := hrel
            have hmb : m ≤ 512 := Y.out.2.1
            have GW : Hid (Gb w wr) := gb_trans GB.out Y.out.2.2.1
            by_cases hqn : q < n
            · have hqi : decide ((q : Int) < (n : Int)) = true := by rw [decide_eq_true_eq]; omega
              have hqp : (q : Int) < (n : Int) := by omega
              have hql : q < l.length := by have := NN.out; omega
              obtain ⟨_, _, ew, hwc⟩ := WR.out
              obtain ⟨bw, ow, ew2, kw⟩ := hwc q (by rw [wherL_len]; exact hqn)
              injection ew with ew3 ew4 ew5
              subst ew3
              subst ew2
              rw [wherL_get cs l hqn] at kw
              have kw := gb_keeps (gb_trans X.out.1 Y.out.2.2.1) kw
              clear hwc ew4 ew5
              obtain ⟨x, hx⟩ : ∃ x : Nat, x = (nearP cs l[q]!).1 := ⟨_, rfl⟩
              rw [← hx] at kw
              by_cases hxc : x = c
              · have BI : Hid ((belTo cs l c (q + 1)).length = (belTo cs l c q).length + 1) := by unfold Hid; rw [belTo_next, if_pos (by rw [← hx]; exact hxc)]; simp
                have SI : Hid (∀ t, sumB cs l c (q + 1) t = sumB cs l c q t + l[q]![t]!) := fun t => sumB_in (by rw [← hx]; exact hxc) t
                have LQ : Hid (l[q]!.length = d ∧ q < l.length) := ⟨by have := OK.out.2.get hql; omega, hql⟩
                subst hxc
                clear hx hql
                go_wp2
                clear kw
                go_loopw [14] (fun kv W => ∃ t : Nat, kv = .int .i64 (t : Int) ∧ t ≤ d ∧ Hid (Gb Wb W ∧ Rn.Arr W g d d (fun s => if s < t then sumB cs l x (q + 1) s else sumB cs l x q s))) (fun kv _ => d - (intOf kv).toNat)
                case atStart => exact ⟨0, rfl, Nat.zero_le _, Y.out.2.2.1, Y.out.2.2.2.congr (fun i _ => by simp)⟩
                case round =>
                  obtain ⟨t, rfl, ht, Z⟩ := hrel
                  by_cases htd : t < d
                  · have hti : (t : Int) < (d : Int) := by omega
                    obtain ⟨b, o, b', o', c', ea, e1, e2⟩ := coord_at (L.out.gb (gb_trans GB.out Z.out.1)) LQ.out.2 (t := t) (by rw [LQ.out.1]; exact htd)
                    subst ea
                    rw [LQ.out.1] at e1
                    have hbb : b < w.heap.size ∧ b' < w.heap.size := by
                      obtain ⟨_, _, _, _, _, ea', e1', e2'⟩ := coord_at L.out LQ.out.2 (t := t) (by rw [LQ.out.1]; exact htd)
                      cases ea'
                      have h1 := World.block_lt_of_cell? w _ e1'
                      have h2 := gb_keeps (gb_trans GB.out Z.out.1) e1'
                      rw [LQ.out.1] at h2
                      rw [e1] at h2
                      injection h2 with h2
                      injection h2 with h2
                      injection h2 with h2
                      injection h2 with h2
                      subst h2
                      exact ⟨h1, World.block_lt_of_cell? w _ e2'⟩
                    have hgb : g ≠ b ∧ g ≠ b' := by have := GG.out; have := GB.out.size; omega
                    obtain ⟨hgb1, hgb2⟩ := hgb
                    have A := Z.out.2
                    have c0 := A.cell htd
                    have f0 := A.frozen t
                    simp only [Nat.lt_irrefl, if_false] at c0
                    have bd := sumB_bd (cs := cs) (i := x) OK.out.2 htd (show q ≤ l.length by have := LQ.out.2; omega) (by have := NN.out; omega)
                    have bd2 := allR_get (OK.out.2.get LQ.out.2).2.2.2 (i := t) (by rw [LQ.out.1]; exact htd)
                    obtain ⟨z, hz⟩ : ∃ z, z = sumB cs l x (q + 1) t := ⟨_, rfl⟩
                    have hzz : sumB cs l x q t + l[q]![t]! = z := by rw [hz, SI.out t]
                    have ZN : Hid (Gb Wb (wr.drew.setCell ⟨g, t, none⟩ (.int .i64 z)) ∧ Rn.Arr (wr.drew.setCell ⟨g, t, none⟩ (.int .i64 z)) g d d (fun s => if s < t + 1 then sumB cs l x (q + 1) s else sumB cs l x q s)) := by
                      have AD : Rn.Arr wr.drew g d d (fun s => if s < t then sumB cs l x (q + 1) s else sumB cs l x q s) := A
                      refine ⟨gb_set Z.out.1.drew (by dsimp only; have := GG.out; omega) _, (AD.set htd z).congr (fun i _ => ?_)⟩
                      by_cases e : i = t
                      · subst e; simp [hz]
                      · by_cases e' : i < t
                        · simp [e, e', show i < t + 1 by omega]
                        · simp [e, e', show ¬ i < t + 1 by omega]
                    generalize sumB cs l x q t = xv at c0 hzz bd
                    generalize l[q]![t]! = y at e2 hzz bd2
                    have hw1 : wrap64 (xv + y) = z := by rw [wrapZ (by omega)]; exact hzz
                    have hw2 : IntKind.i64.wrap (xv + y) = z := by rw [IntKind.wrap_i64]; omega
                    have FS0 : wr.drew.cell? ⟨b, o + q, none⟩ = some (.slice (some ⟨b', o', none⟩) d c') ∧ wr.drew.cell? ⟨b', o' + t, none⟩ = some (.int .i64 y) := ⟨e1, e2⟩
                    have c0 : wr.drew.cell? ⟨g, t, none⟩ = some (.int .i64 xv) := c0
                    have f0 : wr.drew.frozen? ⟨g, t, none⟩ = false := f0
                    clear A bd bd2 hz e1 e2 Z hzz hbb
                    go_wp2_with fail
                    refine wp_region_held_drew (S := fun W => W.cell? ⟨b, o + q, none⟩ = some (.slice (some ⟨b', o', none⟩) d c') ∧ W.cell? ⟨b', o' + t, none⟩ = some (.int .i64 y)) (by kernel_rfl) (FS0) (fun hHeld => ?_)
                    refine wpAnyH_take (i := 0) (v := ?_) rfl (by kernel_rfl) (by kernel_rfl) (by kernel_rfl) (fun _ _ _ h => h) (Or.inl ⟨by rfl, ?_⟩) (by assumption) ?_
                    rotate_left 1
                    · (intro w hSw; (obtain ⟨s0, s1⟩ := hSw); go_simp; try with_reducible rfl)
                    try simp only [Act.put, List.getElem_toArray, List.getElem_cons_zero, List.setIfInBounds_toArray, List.set_cons_zero, List.set_cons_succ]
                    refine wpAnyH_take (i := 1) (v := ?_) rfl (by kernel_rfl) (by kernel_rfl) (by kernel_rfl) (fun _ _ _ h => h) (Or.inl ⟨by rfl, ?_⟩) (by assumption) ?_
                    rotate_left 1
                    · (intro w hSw; (obtain ⟨s0, s1⟩ := hSw); go_simp; try with_reducible rfl)
                    try simp only [Act.put, List.getElem_toArray, List.getElem_cons_zero, List.getElem_cons_succ, List.setIfInBounds_toArray, List.set_cons_zero, List.set_cons_succ]
                    refine wpAnyH_take (i := 2) (v := ?_) rfl (by kernel_rfl) (by kernel_rfl) (by kernel_rfl) (fun _ _ _ h => h) (Or.inl ⟨by rfl, ?_⟩) (by assumption) ?_
                    rotate_left 1
                    · (intro w hSw; (obtain ⟨s0, s1⟩ := hSw); go_simp; try with_reducible rfl)
                    try simp only [Act.put, List.getElem_toArray, List.getElem_cons_zero, List.getElem_cons_succ, List.setIfInBounds_toArray, List.set_cons_zero, List.set_cons_succ]
                    refine wpAnyH_take (i := 3) (v := ?_) rfl (by kernel_rfl) (by kernel_rfl) (by kernel_rfl) (fun _ _ _ h => h) (Or.inl ⟨by rfl, ?_⟩) (by assumption) ?_
                    rotate_left 1
                    · (intro w hSw; (obtain ⟨s0, s1⟩ := hSw); go_simp; try with_reducible rfl)
                    try simp only [Act.put, List.getElem_toArray, List.getElem_cons_zero, List.getElem_cons_succ, List.setIfInBounds_toArray, List.set_cons_zero, List.set_cons_succ]
                    refine wpAnyH_take (i := 4) (v := ?_) rfl (by kernel_rfl) (by kernel_rfl) (by kernel_rfl) (fun _ _ _ h => h) (Or.inl ⟨by rfl, ?_⟩) (by assumption) ?_
                    rotate_left 1
                    · (intro w hSw; (obtain ⟨s0, s1⟩ := hSw); go_simp; try with_reducible rfl)
                    try simp only [Act.put, List.getElem_toArray, List.getElem_cons_zero, List.getElem_cons_succ, List.setIfInBounds_toArray, List.set_cons_zero, List.set_cons_succ]
                    refine wpAnyH_take (i := 6) (v := ?_) rfl (by kernel_rfl) (by kernel_rfl) (by kernel_rfl) (fun _ _ _ h => h) (Or.inl ⟨by rfl, ?_⟩) (by assumption) ?_
                    rotate_left 1
                    · (intro w hSw; (obtain ⟨s0, s1⟩ := hSw); go_simp; try with_reducible rfl)
                    try simp only [Act.put, List.getElem_toArray, List.getElem_cons_zero, List.getElem_cons_succ, List.setIfInBounds_toArray, List.set_cons_zero, List.set_cons_succ]
                    refine wpAnyH_take (i := 7) (v := ?_) rfl (by kernel_rfl) (by kernel_rfl) (by kernel_rfl) (fun _ _ _ h => h) (Or.inl ⟨by rfl, ?_⟩) (by assumption) ?_
                    rotate_left 1
                    · (intro w hSw; (obtain ⟨s0, s1⟩ := hSw); go_simp; try with_reducible rfl)
                    try simp only [Act.put, List.getElem_toArray, List.getElem_cons_zero, List.getElem_cons_succ, List.setIfInBounds_toArray, List.set_cons_zero, List.set_cons_succ]
                    refine wpAnyH_take (i := 8) (v := ?_) rfl (by kernel_rfl) (by kernel_rfl) (by kernel_rfl) (fun _ _ _ h => h) (Or.inl ⟨by rfl, ?_⟩) (by assumption) ?_
                    rotate_left 1
                    · (intro w hSw; (obtain ⟨s0, s1⟩ := hSw); go_simp; try with_reducible rfl)
                    try simp only [Act.put, List.getElem_toArray, List.getElem_cons_zero, List.getElem_cons_succ, List.setIfInBounds_toArray, List.set_cons_zero, List.set_cons_succ]
                    refine wpAnyH_take (i := 9) (v := ?_) rfl (by kernel_rfl) (by kernel_rfl) (by kernel_rfl) (fun _ _ _ h => h) (Or.inl ⟨by rfl, ?_⟩) (by assumption) ?_
                    rotate_left 1
                    · (intro w hSw; (obtain ⟨s0, s1⟩ := hSw); go_simp; try with_reducible rfl)
                    try simp only [Act.put, List.getElem_toArray, List.getElem_cons_zero, List.getElem_cons_succ, List.setIfInBounds_toArray, List.set_cons_zero, List.set_cons_succ]
                    refine wpAnyH_take (i := 10) (v := ?_) rfl (by kernel_rfl) (by kernel_rfl) (by kernel_rfl) (fun _ _ _ h => h) (Or.inl ⟨by rfl, ?_⟩) (by assumption) ?_
                    rotate_left 1
                    · (intro w hSw; (obtain ⟨s0, s1⟩ := hSw); go_simp; try with_reducible rfl)
                    try simp only [Act.put, List.getElem_toArray, List.getElem_cons_zero, List.getElem_cons_succ, List.setIfInBounds_toArray, List.set_cons_zero, List.set_cons_succ]
                    refine wpAnyH_take (i := 11) (v := ?_) rfl (by kernel_rfl) (by kernel_rfl) (by kernel_rfl) (fun _ _ _ h => h) (Or.inl ⟨by rfl, ?_⟩) (by assumption) ?_
                    rotate_left 1
                    · (intro w hSw; (obtain ⟨s0, s1⟩ := hSw); go_simp; try with_reducible rfl)
                    try simp only [Act.put, List.getElem_toArray, List.getElem_cons_zero, List.getElem_cons_succ, List.setIfInBounds_toArray, List.set_cons_zero, List.set_cons_succ]
                    refine wpAnyH_take (i := 12) (v := ?_) rfl (by kernel_rfl) (by kernel_rfl) (by kernel_rfl) (fun _ _ _ h => h) (Or.inl ⟨by rfl, ?_⟩) (by assumption) ?_
                    rotate_left 1
                    · (intro w hSw; (obtain ⟨s0, s1⟩ := hSw); go_simp; try with_reducible rfl)
                    try simp only [Act.put, List.getElem_toArray, List.getElem_cons_zero, List.getElem_cons_succ, List.setIfInBounds_toArray, List.set_cons_zero, List.set_cons_succ]
                    refine wpAnyH_ready (rs := [5]) (by kernel_rfl) (by simp) ?_
                    refine AllReadyH.cons rfl (fun K hK => ?_) AllReadyH.nil
                    go_simp
                    refine hK.out _ _ (hHeld) (fun hHeld => ?_)
                    clear hK K
                    try simp only [Act.put, List.getElem_toArray, List.getElem_cons_zero, List.getElem_cons_succ, List.setIfInBounds_toArray, List.set_cons_zero, List.set_cons_succ]
                    refine wpAnyH_take (i := 13) (v := ?_) rfl (by kernel_rfl) (by kernel_rfl) (by kernel_rfl) (fun _ _ _ h => h) (Or.inl ⟨by rfl, ?_⟩) (by assumption) ?_
                    rotate_left 1
                    · (intro w hSw; (obtain ⟨s0, s1⟩ := hSw); go_simp; try with_reducible rfl)
                    try simp only [Act.put, List.getElem_toArray, List.getElem_cons_zero, List.getElem_cons_succ, List.setIfInBounds_toArray, List.set_cons_zero, List.set_cons_succ]
                    refine wpAnyH_take (i := 14) (v := ?_) rfl (by kernel_rfl) (by kernel_rfl) (by kernel_rfl) (fun _ _ _ h => h) (Or.inl ⟨by rfl, ?_⟩) (by assumption) ?_
                    rotate_left 1
                    · (intro w hSw; (obtain ⟨s0, s1⟩ := hSw); go_simp; try with_reducible rfl)
                    try simp only [Act.put, List.getElem_toArray, List.getElem_cons_zero, List.getElem_cons_succ, List.setIfInBounds_toArray, List.set_cons_zero, List.set_cons_succ]
                    refine wpAnyH_ready (rs := [15]) (by kernel_rfl) (by simp) ?_
                    refine AllReadyH.cons rfl (fun K hK => ?_) AllReadyH.nil
                    go_simp
                    refine hK.out _ _ (⟨(World.cell?_setCell_far _ _ _ _ (by dsimp only; omega)).trans hHeld.1, (World.cell?_setCell_far _ _ _ _ (by dsimp only; omega)).trans hHeld.2⟩) (fun hHeld => ?_)
                    clear hK K
                    try simp only [Act.put, List.getElem_toArray, List.getElem_cons_zero, List.getElem_cons_succ, List.setIfInBounds_toArray, List.set_cons_zero, List.set_cons_succ]
                    refine wpAnyH_done (by kernel_rfl) ?_ _
                    go_wp2
                    go_roundw
                    case rel => exact ⟨t + 1, by first | rfl | go_num | simp, htd, ZN⟩
                    case measure => simp [intOf]; omega
                  · have hti : ¬ (t : Int) < (d : Int) := by omega
                    have YN : Hid (m + 1 = (belTo cs l x (q + 1)).length ∧ m + 1 ≤ 512 ∧ Gb Wb wr ∧ Rn.Arr wr g d d (sumB cs l x (q + 1))) := by
                      have h1 := belTo_len cs l x (q + 1)
                      have h2 := BI.out
                      have h3 := Y.out.1
                      have h4 := LQ.out
                      have h5 := NN.out
                      exact ⟨by omega, by omega, Z.out.1, Z.out.2.congr (fun i hi => by rw [if_pos (by omega)])⟩
                    clear Z Y BI SI LQ
                    go_wp2
                    go_roundw
                    case rel => exact ⟨q + 1, m + 1, by first | rfl | go_num | simp, hqn, by first | rfl | go_num | simp, YN⟩
                    case measure => simp [intOf]; omega
              · have hxc1 : ((x : Int) == (c : Int)) = false := by rw [beq_eq_false_iff_ne]; omega
                have hxc2 : ¬ (x : Int) = (c : Int) := by omega
                have YN : Hid (m = (belTo cs l c (q + 1)).length ∧ m ≤ 512 ∧ Gb Wb wr ∧ Rn.Arr wr g d d (sumB cs l c (q + 1))) := by
                  have hne : (nearP cs l[q]!).1 ≠ c := by rw [← hx]; exact hxc
                  refine ⟨?_, hmb, Y.out.2.2.1, Y.out.2.2.2.congr (fun i _ => (sumB_out hne i).symm)⟩
                  rw [belTo_next, if_neg hne]; exact Y.out.1
                clear hx hxc Y hql
                go_wp2
                go_roundw
                case rel => exact ⟨q + 1, m, by first | rfl | go_num | simp, hqn, rfl, YN⟩
                case measure => simp [intOf]; omega
            · have hqi : ¬ (q : Int) < (n : Int) := by omega
              have k1 := gb_keeps GW.out K1.out
              have YE : Hid (m = (belTo cs l c l.length).length ∧ Gb Wb wr ∧ Rn.Arr wr g d d (sumB cs l c l.length)) := by
                have h := Y.out
                rw [show q = l.length by have := NN.out; omega] at h
                exact ⟨h.1, h.2.2.1, h.2.2.2⟩
              have CL2 : Hid (c < cs.length ∧ (roundV l cs).take (c + 1) = (roundV l cs).take c ++ [(roundV l cs)[c]!] ∧ ((roundV l cs).take c).length = c) := by
                refine ⟨hcl, ?_, ?_⟩
                · rw [List.take_succ_eq_append_getElem (by rw [roundV_len]; exact hcl), getElem!_pos (roundV l cs) c (by rw [roundV_len]; exact hcl)]
                · rw [List.length_take, roundV_len]; omega
              clear Y hcl
              by_cases hm0 : m = 0
              · subst hm0
                have RW : Hid (RdZ P w wr (.slice pc d cc') (roundV l cs)[c]!) := by unfold Hid; rw [roundV_same CL2.out.1 YE.out.1.symm]; exact .inl K2.out
                have XO : Hid (OwnV P w wr Wa.heap.size u9 ((roundV l cs).take c)) := X.out.2.gb YE.out.2.1
                have GA : Hid (Gb Wa wr) := gb_trans X.out.1 YE.out.2.1
                obtain ⟨xs, hown, hcells⟩ := XO.out
                rw [CL2.out.2.2] at hown
                have HC : Hid (∀ i, i < ((roundV l cs).take c).length → ∃ u, xs[i]? = some u ∧ RdZ P w wr u ((roundV l cs).take c)[i]!) := hcells
                clear hcells
                go_wp2_with (first
                  | (at_builtin; refine wpList_append_own_at _ rfl _ _ 22 rfl Wa.heap.size 40 j0 (.slice none 0 0) 1 24 Try.underlying22 JJ.out.1 JJ.out.2.1 JJ.out.2.2.1 JJ.out.2.2.2 rfl (by decide) u9 c xs rfl (hown.alloc _) ⟨wr.heap.size, 0, none⟩ 1 1 [.slice pc d cc'] rfl rfl (cell_one_new _ _ _) (by simp [Value.oneCell']) (by simp only [maxLen]; omega) (by omega) (by have h2 := GA.out.size; simp; omega) ?_; intro v5 w5 hown5 hgrow5 hnil5 hloc5)
                  | go_in)
                have XN : Hid (Gb Wa w5 ∧ OwnV P w w5 Wa.heap.size v5 ((roundV l cs).take (c + 1))) := by
                  have G5 : Gb Wa w5 := below_grown (gb_alloc GA.out _) hgrow5 (fun j e => (hown.lt j e).1) (gb_alloc GA.out _).size
                  refine ⟨G5, ?_⟩
                  rw [CL2.out.2.1]
                  have kp : ∀ u x, RdZ P w wr u x → RdZ P w w5 u x := fun u x r => (r.gb (gb_alloc (Below.refl _ _) _)).kept hgrow5 (fun k cur e => row_type hown k cur e)
                  refine OwnV.push (xs := xs) (fun i hi => ?_) (by have := hown.1; rw [CL2.out.2.2]; omega) (u := .slice pc d cc') ?_ (by rw [CL2.out.2.2]; exact hown5)
                  · obtain ⟨u, e, r⟩ := HC.out i hi
                    exact ⟨u, e, kp u _ r⟩
                  · exact kp _ _ RW.out
                clear hown hown5 hgrow5 hnil5 hloc5
                go_roundw
                case rel => exact ⟨c + 1, by first | rfl | go_num | simp, hcn, XN⟩
                case measure => simp [intOf]; omega
              · have hm1 : (0 : Int) < (m : Int) := by omega
                go_wp2
                clear k1
                go_loopw [16] (fun kv W => ∃ t : Nat, kv = .int .i64 (t : Int) ∧ t ≤ d ∧ Hid (Gb Wb W ∧ Rn.Arr W g d d (fun s => if s < t then sumB cs l c l.length s / (m : Int) else sumB cs l c l.length s))) (fun kv _ => d - (intOf kv).toNat)
                case atStart => exact ⟨0, rfl, Nat.zero_le _, YE.out.2.1, YE.out.2.2.congr (fun i _ => by simp)⟩
                case round =>
                  obtain ⟨t, rfl, ht, Z⟩ := hrel
                  by_cases htd : t < d
                  · have hti : (t : Int) < (d : Int) := by omega
                    have A := Z.out.2
                    have c0 := A.cell htd
                    simp only [Nat.lt_irrefl, if_false] at c0
                    have bd := sumB_bd (cs := cs) (i := c) OK.out.2 htd (Nat.le_refl l.length) (by have := NN.out; omega)
                    obtain ⟨xv, hxv⟩ : ∃ xv, xv = sumB cs l c l.length t := ⟨_, rfl⟩
                    rw [← hxv] at c0 bd
                    have cd := rdown_c xv m (by omega) (by omega) (by omega) wr
                    have f0 := A.frozen t
                    have ZN : Hid (Gb Wb (wr.setCell ⟨g, t, none⟩ (.int .i64 (xv / (m : Int)))) ∧ Rn.Arr (wr.setCell ⟨g, t, none⟩ (.int .i64 (xv / (m : Int)))) g d d (fun s => if s < t + 1 then sumB cs l c l.length s / (m : Int) else sumB cs l c l.length s)) := by
                      refine ⟨gb_set Z.out.1 (by dsimp only; have := GG.out; omega) _, (A.set htd (xv / (m : Int))).congr (fun i _ => ?_)⟩
                      by_cases e : i = t
                      · subst e; simp [hxv]
                      · by_cases e' : i < t
                        · simp [e, e', show i < t + 1 by omega]
                        · simp [e, e', show ¬ i < t + 1 by omega]
                    generalize xv / (m : Int) = z at *
                    clear A bd hxv Z
                    go_wp2_with fail
                    go_fit cd
                    rintro e w6 ⟨rfl, e6⟩
                    subst e6
                    clear cd
                    go_wp2
                    go_roundw
                    case rel => exact ⟨t + 1, by first | rfl | go_num | simp, htd, ZN⟩
                    case measure => simp [intOf]; omega
                  · have hti : ¬ (t : Int) < (d : Int) := by omega
                    have RW : Hid (RdZ P w wr (.slice (some ⟨g, 0, none⟩) d d) (roundV l cs)[c]!) := by
                      have hcl := CL2.out.1
                      have hcd : cs[c]!.length = d := CL.out
                      have hld : (roundV l cs)[c]!.length = d := by rw [roundV_get l hcl, middle_len]; exact hcd
                      refine .inr ⟨g, d, _, by rw [hld], HP.out g (by have := GG.out; have := GB.out.size; omega), by rw [hld]; exact Z.out.2, fun s hs => ?_⟩
                      rw [hld] at hs
                      rw [if_pos (by omega), middle_sum hcl hcd hs (by rw [← YE.out.1]; exact hm0), ← YE.out.1]
                    have XO : Hid (OwnV P w wr Wa.heap.size u9 ((roundV l cs).take c)) := X.out.2.gb Z.out.1
                    have GA : Hid (Gb Wa wr) := gb_trans X.out.1 Z.out.1
                    clear Z
                    obtain ⟨xs, hown, hcells⟩ := XO.out
                    rw [CL2.out.2.2] at hown
                    have HC : Hid (∀ i, i < ((roundV l cs).take c).length → ∃ u, xs[i]? = some u ∧ RdZ P w wr u ((roundV l cs).take c)[i]!) := hcells
                    clear hcells
                    go_wp2_with (first
                      | (at_builtin; refine wpList_append_own_at _ rfl _ _ 22 rfl Wa.heap.size 40 j0 (.slice none 0 0) 1 24 Try.underlying22 JJ.out.1 JJ.out.2.1 JJ.out.2.2.1 JJ.out.2.2.2 rfl (by decide) u9 c xs rfl (hown.alloc _) ⟨wr.heap.size, 0, none⟩ 1 1 [.slice (some ⟨g, 0, none⟩) d d] rfl rfl (cell_one_new _ _ _) (by simp [Value.oneCell']) (by simp only [maxLen]; omega) (by omega) (by have h2 := GA.out.size; simp; omega) ?_; intro v5 w5 hown5 hgrow5 hnil5 hloc5)
                      | go_in)
                    have XN : Hid (Gb Wa w5 ∧ OwnV P w w5 Wa.heap.size v5 ((roundV l cs).take (c + 1))) := by
                      have G5 : Gb Wa w5 := below_grown (gb_alloc GA.out _) hgrow5 (fun j e => (hown.lt j e).1) (gb_alloc GA.out _).size
                      refine ⟨G5, ?_⟩
                      rw [CL2.out.2.1]
                      have kp : ∀ u x, RdZ P w wr u x → RdZ P w w5 u x := fun u x r => (r.gb (gb_alloc (Below.refl _ _) _)).kept hgrow5 (fun k cur e => row_type hown k cur e)
                      refine OwnV.push (xs := xs) (fun i hi => ?_) (by have := hown.1; rw [CL2.out.2.2]; omega) (u := .slice (some ⟨g, 0, none⟩) d d) ?_ (by rw [CL2.out.2.2]; exact hown5)
                      · obtain ⟨u, e, r⟩ := HC.out i hi
                        exact ⟨u, e, kp u _ r⟩
                      · exact kp _ _ RW.out
                    clear hown hown5 hgrow5 hnil5 hloc5
                    go_roundw
                    case rel => exact ⟨c + 1, by first | rfl | go_num | simp, hcn, XN⟩
                    case measure => simp [intOf]; omega
        · have hci : ¬ (c : Int) < (k : Int) := by omega
          have XE : Hid (Gb w wr ∧ RdVP P wr u9 (roundV l cs)) := by
            have h := X.out
            rw [List.take_of_length_le (by rw [roundV_len]; have := NN.out; omega)] at h
            exact ⟨gb_trans WO.out.1 h.1, h.2.rd (gb_trans WO.out.1 h.1) (fun b hb => HP.out b (Nat.le_trans WO.out.1.size hb))⟩
          clear X
          go_wp2
          go_ret
          exact ⟨_, rfl, XE.out.2, XE.out.1⟩
end Go.Proofs.Ytblfmhdcgmkpgaa
