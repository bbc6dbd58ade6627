/- theodolitekeep.Back; theodoliteref03.Dist; VecDists: the walk. -/
import Derived.Test.YteaeaoekaoedoaaGreatLend
namespace Go.Proofs.YteaeaoekaoedoaaGreat
open Go.RowKit Go.Sort Go.Maps

theorem grown_set {w W : World} {g i : Nat} (h : w.grownBy W (some g)) (u : Value) : w.grownBy (W.setCell ⟨g, i, none⟩ u) (some g) :=
  ⟨h.os, h.tape, h.output, by simpa [World.setCell] using h.size, fun k hk hn => (Below.heap_setCell _ _ _ _ (fun e => hn (by rw [e]))).trans (h.block k hk hn)⟩
theorem grown_gb {w W : World} {g : Nat} (h : Gb w W) : w.grownBy W (some g) := ⟨h.os, h.tape, h.output, h.size, fun k hk _ => h.block k hk⟩

set_option maxHeartbeats 4000000 in
set_option maxRecDepth 100000 in
theorem back_c {w : World} {B g : Nat} {v : Value} {l : List Int} (hg : Lent w B g l) (hv : RdI w v l) (hn : l.length ≤ 65536) :
    Calls Tryz.prog 12 #[.slice (some ⟨g, 0, none⟩) l.length (l.length + 1), v] w fun e w' => e = .returned (.bool true) ∧ w.grownBy w' (some g) := by
  have c32 := ints_v hg.rd hv (by omega) true (by simp)
  have mk := hg.mark
  have HG : Hid (Lent w B g l) := hg
  obtain ⟨a, cap, rfl, _⟩ := hv
  have OW : Hid (∀ W, Gb w W → Own W B (.slice (some ⟨g, 0, none⟩) (l.length + 1) (l.length + 1)) (tab (fun i => if i < l.length then l[i]! else -77) (l.length + 1))) := fun W k => (HG.out.gb k).own hn
  obtain ⟨n, hN⟩ : ∃ n, n = l.length := ⟨_, rfl⟩
  rw [← hN] at c32 mk hn OW ⊢
  obtain ⟨m, hM⟩ : ∃ m, m = n + 1 := ⟨_, rfl⟩
  have hm : (n : Int) + 1 = (m : Int) := by omega
  have hnm : (n : Int) < (m : Int) := by omega
  have hnm2 : n < m := by omega
  have hmb : m ≤ 65537 := by omega
  rw [← hM] at c32 OW ⊢
  clear HG hN hg hM
  go_enter Tryz.func12, Tryz.ntmps12
  go_wp2_with fail
  refine c32.mono ?_
  rintro e w1 ⟨rfl, g1⟩
  have mk1 := gb_keeps g1.gb mk
  clear mk c32
  go_wp2
  go_loopw [6] (fun iv w' => ∃ q : Nat, ∃ f : Nat → Int, iv = .int .i64 (q : Int) ∧ q ≤ m ∧ Hid (Own w' B (.slice (some ⟨g, 0, none⟩) m m) (tab f m) ∧ w.grownBy w' (some g))) (fun iv _ => m - (intOf iv).toNat)
  case atStart => exact ⟨0, _, rfl, Nat.zero_le _, OW.out w1 g1.gb, grown_gb g1.gb⟩
  case round =>
    clear mk1 OW g1
    obtain ⟨q, f, rfl, hq, X⟩ := hrel
    by_cases hqm : q < m
    · have hqi : (q : Int) < (m : Int) := by omega
      obtain ⟨c0, f0⟩ := X.out.1.at hqm
      go_wp2
      refine ⟨⟨q + 1, _, by go_num, hqm, own_set X.out.1 hqm _, grown_set X.out.2 _⟩, by simp [intOf]; omega⟩
    · have hqi : ¬ (q : Int) < (m : Int) := by omega
      go_wp2
      go_ret
      exact ⟨rfl, X.out.2⟩
set_option maxHeartbeats 2000000 in
theorem rdist_c {w : World} {u v : Value} {a b : List Int} (hu : RdI w u a) (hv : RdI w v b) :
    Calls Tryz.prog 26 #[u, v] w fun e w' => e = .returned (.tuple #[Wd (distV a b), .int .i64 (distE a b)]) ∧ Gr w w' := by
  have U : Hid (RdI w u a) := hu
  have V : Hid (RdI w v b) := hv
  have G0 : Gr w (w.alloc (.cells #[.int .u64 0, .int .u64 0] 39)) := (Gr.refl _).alloc _ _
  have cA := fun r h => rcheck_v (hu.gb G0.gb) (a.length : Int) r h
  have cB := fun r h => rcheck_v (hv.gb G0.gb) (a.length : Int) r h
  obtain ⟨pa, ca, rfl, _⟩ := hu
  obtain ⟨pb, cb, rfl, _⟩ := hv
  by_cases h1 : chk a a.length = 0
  · have c1 := cA _ h1
    by_cases h2 : chk b a.length = 0
    · have c2 := cB _ h2
      have E : distE a b = 0 := by unfold distE; rw [if_pos h1, h2]
      have E2 : distV a b = dst a b := by unfold distV; rw [if_pos E]
      obtain ⟨_, _, h3, h4, h5, h6, h7⟩ := distE_ok E
      have c3 := far_c (U.out.gb G0.gb) (V.out.gb G0.gb) h3 h5 h6 h7
      rw [E, E2]
      clear cA cB h1 h2 h3 h4 h5 h6 h7 E E2 U V
      generalize dst a b = s at *
      generalize b.length = m at *
      generalize a.length = n at *
      go_enter Tryz.func26, Tryz.ntmps26
      go_wp2_with fail
      refine c1.mono ?_
      rintro e w' ⟨rfl, e2⟩
      subst e2
      go_wp2_with fail
      refine c2.mono ?_
      rintro e w' ⟨rfl, e2⟩
      subst e2
      go_wp2_with fail
      refine c3.mono ?_
      rintro e w' ⟨rfl, g⟩
      obtain ⟨v0, v1, v2, v3⟩ := g.var2
      go_wp2
      exact bodyPost_ret (v := .tuple #[Wd s, .int .i64 0]) (by simp [results, Tryz.results26, go_sem, v0, v1]) rfl ⟨rfl, ((G0.trans g).setCell (by simp) _).setCell (by simp) _⟩
    · have c2 := cB _ rfl
      have E : distE a b = chk b a.length := by unfold distE; rw [if_pos h1]
      have E2 : distV a b = 0 := by unfold distV; rw [E, if_neg h2]
      have h3 : (chk b a.length == 0) = false := by rw [beq_eq_false_iff_ne]; exact h2
      rw [E, E2]
      clear cA cB h1 h2 E E2 U V
      generalize chk b a.length = s at *
      generalize b.length = m at *
      generalize a.length = n at *
      go_enter Tryz.func26, Tryz.ntmps26
      go_wp2_with fail
      refine c1.mono ?_
      rintro e w' ⟨rfl, e2⟩
      subst e2
      go_wp2_with fail
      refine c2.mono ?_
      rintro e w' ⟨rfl, e2⟩
      subst e2
      go_wp2
      exact bodyPost_ret (v := .tuple #[Wd 0, .int .i64 s]) (by simp [results, Tryz.results26, go_sem, hi, lo]) rfl ⟨rfl, G0⟩
  · have c1 := cA _ rfl
    have E : distE a b = chk a a.length := by unfold distE; rw [if_neg h1]
    have E2 : distV a b = 0 := by unfold distV; rw [E, if_neg h1]
    have h3 : (chk a a.length == 0) = false := by rw [beq_eq_false_iff_ne]; exact h1
    rw [E, E2]
    clear cA cB h1 E E2 U V
    generalize chk a a.length = s at *
    generalize b.length = m at *
    generalize a.length = n at *
    go_enter Tryz.func26, Tryz.ntmps26
    go_wp2_with fail
    refine c1.mono ?_
    rintro e w' ⟨rfl, e2⟩
    subst e2
    go_wp2
    exact bodyPost_ret (v := .tuple #[Wd 0, .int .i64 s]) (by simp [results, Tryz.results26, go_sem, hi, lo]) rfl ⟨rfl, G0⟩

end Go.Proofs.YteaeaoekaoedoaaGreat
