/- FlatOrder: the walk. -/
import Derived.Test.YteaeaoekaoedoaaFAwake
import Derived.Test.YteaeaoekaoedoaaFBg
import Derived.Test.YteaeaoekaoedoaaFOrdT
namespace Go.Proofs.Yteaeaoekaoedoaa
open Go.RowKit Go.Sort
attribute [local go_sem ↓] Go.wp_at_zero Go.wp_at_succ

theorem topE_perm {rs rs' : List Rw} {q : List Int} {k : Int} (p : rs.Perm rs') : topE rs q k = 0 ↔ topE rs' q k = 0 := by
  rw [topE_zero, askE_zero, topE_zero, askE_zero]
  exact ⟨fun h => ⟨⟨h.1.1, h.1.2.perm p⟩, h.2⟩, fun h => ⟨⟨h.1.1, h.1.2.perm p.symm⟩, h.2⟩⟩
theorem wf_perm {rs rs' : List Rw} (p : rs.Perm rs') (h : Wf rs) : Wf rs' := by
  refine ⟨by rw [← p.length_eq]; exact h.1, fun i hi => ?_⟩
  rw [getElem!_pos rs' i hi]
  obtain ⟨j, hj, e⟩ := List.mem_iff_getElem.1 (p.mem_iff.2 (List.getElem_mem hi))
  rw [← e, ← getElem!_pos rs j hj]
  exact h.2 j hj
theorem rd_nilH (w : World) : Tk.Rd w (.slice none 0 0) [] := .inl ⟨rfl, rfl⟩

set_option maxRecDepth 100000 in
set_option maxHeartbeats 2000000 in
theorem order_law {w : World} {a : Option Addr} {n cap : Nat} {d u : Value} {rs : List Rw} {od q : List Int} (hv : RdW w (.slice a n cap) rs) (hcap : n ≤ cap) (hd : RdI w d od) (hu : RdI w u q) (hwf : Wf rs) (k : Int) :
    Calls Try.prog 3 #[.slice a n cap, d, u, .int .i64 k] w fun e w' => e = .returned (.bool true) ∧ Gb w w' := by
  have cbig := big_c hv hu (Nat.le_trans hwf.1 (by decide))
  have ctop := topk_c hv hu hwf k
  have hnr : n = rs.length := by obtain ⟨_, _, e, _⟩ := hv; injection e
  have NH : Hid (n = rs.length) := hnr
  have V : Hid (RdW w (.slice a n cap) rs) := hv
  have U : Hid (RdI w u q) := hu
  have D : Hid (RdI w d od) := hd
  have WH : Hid (Wf rs) := hwf
  obtain ⟨au, cu, rfl, _⟩ := hu
  obtain ⟨ad, cd, rfl, _⟩ := hd
  obtain ⟨m, hm⟩ : ∃ m, m = q.length := ⟨_, rfl⟩
  obtain ⟨m2, hm2⟩ : ∃ m2, m2 = od.length := ⟨_, rfl⟩
  have M2 : Hid (m2 = od.length) := hm2
  rw [← hm] at U cbig ctop ⊢
  rw [← hm2] at D ⊢
  rw [← hnr] at cbig
  clear hm hm2 hwf hv hnr
  go_enter Try.func3, Try.ntmps3
  go_wp2_with fail
  refine cbig.mono ?_
  rintro e w' ⟨b, rfl, hb, e2⟩
  subst e2
  clear cbig
  cases b with
  | true =>
    clear ctop
    go_wp2
    go_ret
    exact ⟨rfl, Below.refl _ _⟩
  | false =>
    obtain ⟨hn, _⟩ := hb rfl
    clear hb
    by_cases h1 : (65536 : Int) < (m2 : Int)
    · clear ctop
      go_wp2
      go_ret
      exact ⟨rfl, Below.refl _ _⟩
    by_cases hz : topE rs q k = 0
    · have K1 := (topE_zero.1 hz).2
      have ZA : Hid (askE rs q = 0) := (topE_zero.1 hz).1
      have ZH : Hid (topE rs q k = 0) := hz
      obtain ⟨K, rfl⟩ : ∃ K : Nat, k = (K : Int) := ⟨k.toNat, by omega⟩
      rw [hz] at ctop
      clear hz
      go_wp2_with fail
      refine ctop.mono ?_
      rintro e w1 ⟨v1, rfl, g1, _, o1⟩
      obtain ⟨o1, _, _⟩ := o1 (by first | rfl | trivial)
      clear ctop
      have RX : RdX w1 w1 (.slice a n cap) rs := by
        obtain ⟨a', c', e, h⟩ := V.out.gb g1
        cases e
        exact ⟨_, _, rfl, by have := NH.out; omega, h⟩
      have ctu := turned_c RX (D.out.gb g1) (by have := NH.out; omega) (by have := M2.out; omega)
      go_wp2_with fail
      refine ctu.mono ?_
      rintro e w2 ⟨v2, os, rfl, rx2, pm, g2⟩
      clear ctu RX
      have R2 := rx2.rdw g2
      have cto := topk_c R2 (U.out.gb (gb_trans g1 g2)) (wf_perm pm.symm WH.out) K
      rw [(topE_perm pm).2 ZH.out, Tk.firsts_perm _ (hitsOf_perm q pm)] at cto
      obtain ⟨av2, cv2, rfl, _⟩ := rx2
      generalize os.length = nos at *
      go_wp2_with fail
      refine cto.mono ?_
      rintro e w3 ⟨v3, rfl, g3, _, o3⟩
      obtain ⟨o3, _, _⟩ := o3 (by first | rfl | trivial)
      clear cto R2
      rw [show ((K : Int).toNat) = K by omega] at o1 o3
      have r1 := (Tk.own_rd o1).gr (gb_trans g2 g3)
      have r3 := Tk.own_rd o3
      simp only [] at r1 r3
      have l1 := Tk.firsts_len K (hitsOf q rs)
      have cs := Tk.same_c r1 r3 (by simpa using Nat.le_trans (Nat.le_of_eq l1) (by omega))
      simp only [decide_true] at cs
      have G3 : Gb w w3 := gb_trans g1 (gb_trans g2 g3)
      obtain ⟨x1, y1, t1, rfl⟩ := own_slice o1
      obtain ⟨x3, y3, t3, rfl⟩ := own_slice o3
      have V3 : Hid (RdW w3 (.slice a n cap) rs) := V.out.gb G3
      have U3 : Hid (RdI w3 (.slice au m cu) q) := U.out.gb G3
      have O1 : Hid (Tk.Own w1 (.slice x1 y1 t1) (Tk.firsts K (hitsOf q rs)).toArray ∧ Gb w1 w3) := ⟨o1, gb_trans g2 g3⟩
      have GH : Hid (Gb w w3) := G3
      clear o1 o3 r1 r3 g1 g2 g3 G3 V U D
      go_wp2_with fail
      refine cs.mono ?_
      rintro e w4 ⟨rfl, g4⟩
      clear cs
      have G4 : Hid (Gb w w4) := gb_trans GH.out g4
      by_cases hK : (K : Int) = 64
      · have hK' : ((K : Int) == 64) = true := by rw [beq_iff_eq]; exact hK
        clear hK
        go_wp2_with (go_at_call 9; refine (awake_c _).mono ?_; rintro e w5 ⟨rfl, g5⟩)
        go_ret
        exact ⟨rfl, gb_trans G4.out g5⟩
      · have hK' : ((K : Int) == 64) = false := by rw [beq_eq_false_iff_ne]; exact hK
        have hZ2 : topE rs q ((K : Int) + 1) = 0 := topE_zero.2 ⟨ZA.out, by omega, by omega⟩
        have ct2 := topk_c (V3.out.gb g4) (U3.out.gb g4) WH.out ((K : Int) + 1)
        rw [hZ2] at ct2
        clear hZ2
        go_wp2_with fail
        refine ct2.mono ?_
        rintro e w5 ⟨v5, rfl, g5, _, o5⟩
        obtain ⟨o5, _, _⟩ := o5 (by first | rfl | trivial)
        clear ct2
        rw [show (((K : Int) + 1).toNat) = K + 1 by omega] at o5
        have FM := first_more K (hitsOf q rs)
        have l2 := Tk.firsts_len (K + 1) (hitsOf q rs)
        have hl1 : y1 = (Tk.firsts K (hitsOf q rs)).length := by
          rcases (Tk.own_rd O1.out.1) with ⟨e, e2⟩ | ⟨_, _, e, e2⟩ | ⟨_, _, _, e, _⟩
          · injection e with _ e3; simp only [] at e2; rw [e2]; exact e3
          · injection e with _ e3; simp only [] at e2; rw [e2]; exact e3
          · injection e
        have ra := ((Tk.own_rd O1.out.1).gr O1.out.2).gr (gb_trans g4 g5)
        simp only [] at ra
        have G5 : Hid (Gb w w5) := gb_trans G4.out g5
        generalize Tk.firsts K (hitsOf q rs) = L1 at *
        by_cases hne : 0 < (Tk.firsts (K + 1) (hitsOf q rs)).length
        · obtain ⟨g, c5, rfl, hc5, lies⟩ := own_sl o5 hne
          generalize Tk.firsts (K + 1) (hitsOf q rs) = L2 at *
          have hle : L1.length ≤ L2.length := by omega
          have hle2 : L2.length ≤ L1.length + 1 := by omega
          have hT : L2.take L1.length = L1 := by
            rw [FM, List.length_take]
            by_cases e : K ≤ L2.length
            · rw [Nat.min_eq_left e]
            · rw [Nat.min_eq_right (by omega), List.take_of_length_le (Nat.le_refl _), List.take_of_length_le (by omega)]
          have rT : Tk.Rd w5 (.slice (some ⟨g, 0, none⟩) L1.length c5) L1 := by have := rd_take (cap := c5) lies rfl hle; rwa [hT] at this
          have hl64 : L1.length ≤ 64 := by omega
          subst hl1
          have csame := fun W (gW : Gb w5 W) => Tk.same_c (rT.gr gW) (ra.gr gW) (Nat.le_trans hl64 (by decide))
          simp only [decide_true] at csame
          have hcc : L1.length ≤ c5 := by omega
          generalize L2.length = n2 at *
          generalize hn1 : L1.length = n1 at *
          have hi1 : (n1 : Int) ≤ (n2 : Int) := by omega
          have hi2 : (n2 : Int) ≤ (n1 : Int) + 1 := by omega
          have hi3 : (n1 : Int) ≤ (c5 : Int) := by omega
          clear O1 V3 U3 FM l1 l2 lies hT rT ra hne o5 g4 g5 hn1
          go_wp2_with (first
            | (go_at_call 9; refine (awake_c _).mono ?_; rintro e w6 ⟨rfl, g6⟩)
            | (go_at_call 8; refine (csame _ g6).mono ?_; rintro e w7 ⟨rfl, g7⟩))
          go_ret
          exact ⟨rfl, gb_trans G5.out (gb_trans g6 g7)⟩
        · have e2 : Tk.firsts (K + 1) (hitsOf q rs) = [] := List.eq_nil_of_length_eq_zero (by omega)
          rw [e2] at o5 FM
          have e1 : L1 = [] := by rw [FM]; simp
          subst e1
          have r5 := Tk.own_rd o5
          rw [List.length_nil] at hl1
          subst hl1
          have RT : ∃ x5 t5, v5 = .slice x5 0 t5 ∧ Tk.Rd w5 (.slice x5 0 t5) [] := by
            rcases r5 with ⟨e, _⟩ | ⟨a5, c5, e, _⟩ | ⟨b5, o5', c5, e, _⟩
            · exact ⟨none, 0, e, .inl ⟨rfl, rfl⟩⟩
            · exact ⟨some a5, c5, e, .inr (.inl ⟨a5, c5, rfl, rfl⟩)⟩
            · exact ⟨some ⟨b5, o5', none⟩, c5, e, .inr (.inl ⟨_, _, rfl, rfl⟩)⟩
          obtain ⟨x5, t5, rfl, rT⟩ := RT
          have csame := fun W (gW : Gb w5 W) => Tk.same_c (rT.gr gW) (ra.gr gW) (by decide)
          simp only [decide_true] at csame
          clear O1 V3 U3 FM l1 l2 ra hne o5 r5 rT g4 g5 e2
          go_wp2_with (first
            | (go_at_call 9; refine (awake_c _).mono ?_; rintro e w6 ⟨rfl, g6⟩)
            | (go_at_call 8; refine (csame _ g6).mono ?_; rintro e w7 ⟨rfl, g7⟩))
          go_ret
          exact ⟨rfl, gb_trans G5.out (gb_trans g6 g7)⟩
    · have hz' : (topE rs q k == 0) = false := by rw [beq_eq_false_iff_ne]; exact hz
      have ZH : Hid (topE rs q k ≠ 0) := hz
      go_wp2_with fail
      refine ctop.mono ?_
      rintro e w1 ⟨v1, rfl, g1, o1, _⟩
      have o1 := o1 hz
      subst o1
      clear ctop
      have RX : RdX w1 w1 (.slice a n cap) rs := by
        obtain ⟨a', c', e, h⟩ := V.out.gb g1
        cases e
        exact ⟨_, _, rfl, by have := NH.out; omega, h⟩
      have ctu := turned_c RX (D.out.gb g1) (by have := NH.out; omega) (by have := M2.out; omega)
      have TP : Hid (∀ os : List Rw, os.Perm rs → topE os q k ≠ 0) := fun os pm e => hz ((topE_perm pm).1 e)
      generalize topE rs q k = z0 at *
      go_wp2_with fail
      refine ctu.mono ?_
      rintro e w2 ⟨v2, os, rfl, rx2, pm, g2⟩
      clear ctu RX
      have R2 := rx2.rdw g2
      have cto := topk_c R2 (U.out.gb (gb_trans g1 g2)) (wf_perm pm.symm WH.out) k
      have hzo : topE os q k ≠ 0 := TP.out os pm
      have hzo' : (topE os q k == 0) = false := by rw [beq_eq_false_iff_ne]; exact hzo
      obtain ⟨av2, cv2, rfl, _⟩ := rx2
      generalize os.length = nos at *
      go_wp2_with fail
      refine cto.mono ?_
      rintro e w3 ⟨v3, rfl, g3, o3, _⟩
      have o3 := o3 hzo
      subst o3
      clear cto R2
      have cs := Tk.same_c (rd_nilH w3) (rd_nilH w3) (by decide)
      simp only [decide_true] at cs
      generalize topE os q k = z1 at *
      have G3 : Hid (Gb w w3) := gb_trans g1 (gb_trans g2 g3)
      go_wp2_with fail
      refine cs.mono ?_
      rintro e w4 ⟨rfl, g4⟩
      clear cs
      have G4 : Hid (Gb w w4) := gb_trans G3.out g4
      go_wp2_with (go_at_call 9; refine (awake_c _).mono ?_; rintro e w5 ⟨rfl, g5⟩)
      go_ret
      exact ⟨rfl, gb_trans G4.out g5⟩
end Go.Proofs.Yteaeaoekaoedoaa
