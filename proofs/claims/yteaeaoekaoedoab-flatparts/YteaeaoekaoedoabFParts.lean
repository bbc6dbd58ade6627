/- FlatParts: the walk. -/
import Derived.Test.YteaeaoekaoedoabFAwake
import Derived.Test.YteaeaoekaoedoabFBg
import Derived.Test.YteaeaoekaoedoabTkMerge
namespace Go.Proofs.Yteaeaoekaoedoab
open Go.RowKit Go.Sort
attribute [local go_sem ↓] Go.wp_at_zero Go.wp_at_succ

theorem topE_sub {rs rs' : List Rw} {q : List Int} {k : Int} (h : topE rs q k = 0) (p : rs'.Sublist rs) : topE rs' q k = 0 := by
  rw [topE_zero, askE_zero] at h ⊢
  exact ⟨⟨h.1.1, h.1.2.sub p⟩, h.2⟩
theorem parts_eq (K c : Nat) (q : List Int) (rs : List Rw) : Tk.firsts K [Tk.firsts K (hitsOf q (rs.take c)), Tk.firsts K (hitsOf q (rs.drop c))].flatten = Tk.firsts K (hitsOf q rs) := by
  rw [List.flatten_cons, List.flatten_cons, List.flatten_nil, List.append_nil, firsts_parts, ← hitsOf_app, List.take_append_drop]
theorem wf_take {rs : List Rw} (h : Wf rs) (c : Nat) : Wf (rs.take c) := by
  refine ⟨Nat.le_trans (by rw [List.length_take]; omega) h.1, fun i hi => ?_⟩
  rw [List.length_take] at hi
  rw [getElem!_pos (rs.take c) i (by rw [List.length_take]; omega), List.getElem_take, ← getElem!_pos rs i (by omega)]
  exact h.2 i (by omega)
theorem wf_drop {rs : List Rw} (h : Wf rs) (c : Nat) : Wf (rs.drop c) := by
  refine ⟨Nat.le_trans (by rw [List.length_drop]; omega) h.1, fun i hi => ?_⟩
  rw [List.length_drop] at hi
  rw [getElem!_pos (rs.drop c) i (by rw [List.length_drop]; omega), List.getElem_drop, ← getElem!_pos rs (c + i) (by omega)]
  exact h.2 (c + i) (by omega)

set_option maxRecDepth 100000 in
set_option maxHeartbeats 4000000 in
theorem parts_law {w : World} {a : Option Addr} {n cap : Nat} {u : Value} {rs : List Rw} {q : List Int} (hv : RdW w (.slice a n cap) rs) (hcap : n ≤ cap) (hu : RdI w u q) (hwf : Wf rs) (cut k : Int) :
    Calls Try.prog 3 #[.slice a n cap, .int .i64 cut, u, .int .i64 k] w fun e w' => e = .returned (.bool true) ∧ Gb w w' := by
  have cbig := big_c hv hu (Nat.le_trans hwf.1 (by decide))
  have ctop := topk_c hv hu hwf k
  have hnr : n = rs.length := by obtain ⟨_, _, e, _⟩ := hv; injection e
  have NH : Hid (n = rs.length) := hnr
  have V : Hid (RdW w (.slice a n cap) rs) := hv
  have U : Hid (RdI w u q) := hu
  have WH : Hid (Wf rs) := hwf
  obtain ⟨au, cu, rfl, _⟩ := hu
  obtain ⟨m, hm⟩ : ∃ m, m = q.length := ⟨_, rfl⟩
  rw [← hm] at U cbig ctop ⊢
  rw [← hnr] at cbig
  clear hm hwf hv hnr
  go_enter Try.func3, Try.ntmps3
  go_wp2_with fail
  refine cbig.mono ?_
  rintro e w' ⟨b, rfl, hb, e2⟩
  subst e2
  clear cbig
  cases b with
  | true =>
    clear ctop
    go_wp2
    go_ret
    exact ⟨rfl, Below.refl _ _⟩
  | false =>
    obtain ⟨hn, _⟩ := hb rfl
    clear hb
    by_cases h1 : cut < 0
    · clear ctop
      go_wp2
      go_ret
      exact ⟨rfl, Below.refl _ _⟩
    by_cases h2 : (n : Int) < cut
    · clear ctop
      go_wp2
      go_ret
      exact ⟨rfl, Below.refl _ _⟩
    obtain ⟨c, rfl⟩ : ∃ c : Nat, cut = (c : Int) := ⟨cut.toNat, by omega⟩
    have hcn : c ≤ n := by omega
    have hcc : c ≤ cap := by omega
    have hcc' : (c : Int) ≤ (cap : Int) := by omega
    have hcn' : (c : Int) ≤ (n : Int) := by omega
    have V1 : Hid (RdW w (.slice a c cap) (rs.take c)) := rdw_take V.out hcn
    have V2 : Hid (RdW w (.slice (if cap = c then a else Option.map (fun x => x.add (c * 2)) a) (n - c) (cap - c)) (rs.drop c)) := rdw_drop V.out hcap hcn
    generalize hA : (if cap = c then a else Option.map (fun x => x.add (c * 2)) a) = a2 at *
    have hA' : ∀ (x y : Nat), Value.slice (if cap = c then a else Option.map (fun x => x.add (c * 2)) a) x y = Value.slice a2 x y := fun x y => by rw [hA]
    by_cases hz : topE rs q k = 0
    · have K1 := (topE_zero.1 hz).2
      have z1 : topE (rs.take c) q k = 0 := topE_sub hz (List.take_sublist _ _)
      have z2 : topE (rs.drop c) q k = 0 := topE_sub hz (List.drop_sublist _ _)
      obtain ⟨K, rfl⟩ : ∃ K : Nat, k = (K : Int) := ⟨k.toNat, by omega⟩
      rw [hz] at ctop
      clear hz
      go_wp2_with fail
      refine ctop.mono ?_
      rintro e w1 ⟨v1, rfl, g1, _, o1⟩
      obtain ⟨o1, _, _⟩ := o1 (by first | rfl | trivial)
      clear ctop
      have c1 := topk_c (V1.out.gb g1) (U.out.gb g1) (wf_take WH.out c) K
      rw [z1] at c1
      go_wp2_with fail
      refine c1.mono ?_
      rintro e w2 ⟨v2, rfl, g2, _, o2⟩
      obtain ⟨o2, _, _⟩ := o2 (by first | rfl | trivial)
      clear c1
      have c2 := topk_c (V2.out.gb (gb_trans g1 g2)) (U.out.gb (gb_trans g1 g2)) (wf_drop WH.out c) K
      rw [z2] at c2
      go_wp2_with fail
      refine c2.mono ?_
      rintro e w3 ⟨v3, rfl, g3, _, o3⟩
      obtain ⟨o3, _, _⟩ := o3 (by first | rfl | trivial)
      clear c2
      rw [show ((K : Int).toNat) = K by omega] at o1 o2 o3
      have r1 := (Tk.own_rd o1).gr (gb_trans g2 g3)
      have r2 := (Tk.own_rd o2).gr g3
      have r3 := Tk.own_rd o3
      have PE := parts_eq K c q rs
      have l2 := Tk.firsts_len K (hitsOf q (rs.take c))
      have l3 := Tk.firsts_len K (hitsOf q (rs.drop c))
      have l1 := Tk.firsts_len K (hitsOf q rs)
      obtain ⟨x2, y2, t2, rfl⟩ := own_slice o2
      obtain ⟨x3, y3, t3, rfl⟩ := own_slice o3
      have hll : (Tk.firsts K (hitsOf q (rs.take c))).length ≤ 64 ∧ (Tk.firsts K (hitsOf q (rs.drop c))).length ≤ 64 ∧ (Tk.firsts K (hitsOf q rs)).length ≤ 64 := ⟨by omega, by omega, by omega⟩
      simp only [] at r1 r2 r3
      generalize Tk.firsts K (hitsOf q (rs.take c)) = L2 at *
      generalize Tk.firsts K (hitsOf q (rs.drop c)) = L3 at *
      generalize Tk.firsts K (hitsOf q rs) = L1 at *
      have gA : Gb w3 (w3.alloc (.cells #[.slice x2 y2 t2, .slice x3 y3 t3] 25)) := gb_alloc (Below.refl _ _) _
      have RL : Tk.RdL (w3.alloc (.cells #[.slice x2 y2 t2, .slice x3 y3 t3] 25)) (.slice (some ⟨w3.heap.size, 0, none⟩) 2 2) [L2, L3] := by
        refine ⟨_, _, rfl, fun i hi => ?_⟩
        simp only [List.length_cons, List.length_nil] at hi
        rcases i with _ | _ | i
        · exact ⟨_, _, _, rfl, by simp [go_sem], r2.gr gA⟩
        · exact ⟨_, _, _, rfl, by simp [go_sem], r3.gr gA⟩
        · omega
      have cm := Tk.merge_c K (by omega) (by omega) RL (by simp) (by simp [Tk.tot]; omega)
      rw [PE] at cm
      clear RL o1 o2 o3 l1 l2 l3 z1 z2 V V1 V2 U WH
      go_wp2_with fail
      refine cm.mono ?_
      rintro e w4 ⟨v4, rfl, o4, g4, _⟩
      clear cm
      go_wp2_with fail
      refine (awake_c _).mono ?_
      rintro e w5 ⟨rfl, g5⟩
      have r4 := (Tk.own_rd o4).gr g5
      have cs := Tk.same_c r4 (r1.gr (gb_trans gA (gb_trans g4 g5))) (by simpa using Nat.le_trans hll.2.2 (by decide))
      go_wp2_with fail
      refine cs.mono ?_
      rintro e w6 ⟨rfl, g6⟩
      simp only [decide_true]
      go_wp2
      go_ret
      exact ⟨rfl, gb_trans g1 (gb_trans g2 (gb_trans g3 (gb_trans gA (gb_trans g4 (gb_trans g5 g6)))))⟩
    · have hz' : (topE rs q k == 0) = false := by rw [beq_eq_false_iff_ne]; exact hz
      go_wp2_with fail
      refine ctop.mono ?_
      rintro e w1 ⟨v1, rfl, g1, _, _⟩
      clear ctop
      have c1 := topk_c (V1.out.gb g1) (U.out.gb g1) (wf_take WH.out c) k
      go_wp2_with fail
      refine c1.mono ?_
      rintro e w2 ⟨v2, rfl, g2, _, _⟩
      clear c1
      have c2 := topk_c (V2.out.gb (gb_trans g1 g2)) (U.out.gb (gb_trans g1 g2)) (wf_drop WH.out c) k
      go_wp2_with fail
      refine c2.mono ?_
      rintro e w3 ⟨v3, rfl, g3, _, _⟩
      clear c2
      generalize topE (rs.take c) q k = z1 at *
      generalize topE (rs.drop c) q k = z2 at *
      generalize topE rs q k = z0 at *
      go_wp2_with fail
      refine (awake_c _).mono ?_
      rintro e w5 ⟨rfl, g5⟩
      go_wp2
      go_ret
      exact ⟨rfl, gb_trans g1 (gb_trans g2 (gb_trans g3 g5))⟩
end Go.Proofs.Yteaeaoekaoedoab
