/- FlatRange: the walk. -/
import Derived.Test.YteaeaoekaoedoaaGreatFRefG
namespace Go.Proofs.YteaeaoekaoedoaaGreat
open Go.RowKit Go.Sort

set_option maxRecDepth 100000 in
set_option maxHeartbeats 1000000 in
theorem range_law {w : World} {v u : Value} {rs : List Rw} {q : List Int} {R : Nat} (hR : R < 340282366920938463463374607431768211456) (hv : RdW w v rs) (hu : RdI w u q) (hwf : Wf rs) :
    Calls Tryz.prog 4 #[v, u, .agg #[.int .u64 (hi R), .int .u64 (lo R)]] w fun e w' => e = .returned (.bool true) ∧ Gb w w' := by
  have G0 : Gb w (w.alloc (.cells #[.int .u64 (hi R), .int .u64 (lo R)] 39)) := gb_alloc (Below.refl _ _) _
  have r0 : (w.alloc (.cells #[.int .u64 (hi R), .int .u64 (lo R)] 39)).cell? ⟨w.heap.size, 0, none⟩ = some (.int .u64 (hi R)) := by simp [go_sem]
  have r1 : (w.alloc (.cells #[.int .u64 (hi R), .int .u64 (lo R)] 39)).cell? ⟨w.heap.size, 1, none⟩ = some (.int .u64 (lo R)) := by simp [go_sem]
  have cbig := big_c (hv.gb G0) (hu.gb G0) (Nat.le_trans hwf.1 (by decide))
  have V : Hid (RdW w v rs) := hv
  have U : Hid (RdI w u q) := hu
  have WH : Hid (Wf rs) := hwf
  obtain ⟨av, cv, rfl, _⟩ := hv
  obtain ⟨au, cu, rfl, _⟩ := hu
  obtain ⟨n, hn⟩ : ∃ n, n = rs.length := ⟨_, rfl⟩
  obtain ⟨m, hm⟩ : ∃ m, m = q.length := ⟨_, rfl⟩
  rw [← hn] at V cbig ⊢
  rw [← hm] at U cbig ⊢
  clear hn hm hwf
  go_enter Tryz.func4, Tryz.ntmps4
  go_wp2_with fail
  refine cbig.mono ?_
  rintro e w' ⟨b, rfl, hb, e2⟩
  subst e2
  clear cbig
  cases b with
  | true =>
    go_wp2
    go_ret
    exact ⟨rfl, G0⟩
  | false =>
    clear hb
    by_cases hz : askE rs q = 0
    · have c1 := rng_ok (hi R) (lo R) (V.out.gb G0) (U.out.gb G0) WH.out hz
      have c2 := fun W (g : Gb w W) => rrange_ok hR (V.out.gb g) (U.out.gb g) hz
      have hlen : (Tk.srt (nearL (hi R) (lo R) q rs)).length ≤ 4000 := by
        rw [Tk.srt_len]; unfold nearL
        refine Nat.le_trans (List.length_filter_le _ _) ?_
        rw [hitsOf_len]
        have := (askE_zero.1 hz).2.few
        omega
      generalize Tk.srt (nearL (hi R) (lo R) q rs) = A at *
      clear hz hR
      go_wp2_with fail
      refine c1.mono ?_
      rintro e w1 ⟨v1, rfl, o1, g1, _⟩
      have G1 := gb_trans G0 g1
      have r0 := gb_keeps g1 r0
      have r1 := gb_keeps g1 r1
      obtain ⟨x1, y1, t1, rfl⟩ := own_slice o1
      clear c1
      go_wp2_with fail
      refine (c2 w1 G1).mono ?_
      rintro e w2 ⟨v2, rfl, rd2, g2⟩
      have rd1 := (Tk.own_rd o1).gr g2
      simp only [] at rd1
      have G2 : Hid (Gb w w2) := gb_trans G1 g2
      obtain ⟨x2, c2', e2, _⟩ := rd2.form
      subst e2
      have cs := fun W (gW : Gb w2 W) => Tk.same_c (rd1.gr gW) (rd2.gr gW) hlen
      simp only [decide_true] at cs
      generalize A.length = nA at *
      clear c2 rd1 rd2 o1 g1 g2 r0 r1
      go_wp2_with (first
        | (go_at_call 15; refine (awake_c _).mono ?_; rintro e w6 ⟨rfl, g6⟩)
        | (go_at_call 17; refine (cs _ g6).mono ?_; rintro e w7 ⟨rfl, g7⟩))
      go_ret
      exact ⟨rfl, gb_trans G2.out (gb_trans g6 g7)⟩
    · have c1 := rng_no (hi R) (lo R) (V.out.gb G0) (U.out.gb G0) WH.out hz
      have c2 := fun W (g : Gb w W) => rrange_no (hi R) (lo R) (V.out.gb g) (U.out.gb g) WH.out.1 hz
      generalize askE rs q = z at *
      clear hz hR
      go_wp2_with fail
      refine c1.mono ?_
      rintro e w1 ⟨rfl, g1⟩
      have G1 := gb_trans G0 g1
      have r0 := gb_keeps g1 r0
      have r1 := gb_keeps g1 r1
      clear c1
      go_wp2_with fail
      refine (c2 w1 G1).mono ?_
      rintro e w2 ⟨rfl, g2⟩
      have G2 : Hid (Gb w w2) := gb_trans G1 g2
      have cs := fun W (gW : Gb w2 W) => Tk.same_c (w := W) (u := .slice none 0 0) (v := .slice none 0 0) (l := []) (m := []) (.inl ⟨rfl, rfl⟩) (.inl ⟨rfl, rfl⟩) (by decide)
      simp only [decide_true] at cs
      clear c2 g1 g2 r0 r1
      go_wp2_with (first
        | (go_at_call 15; refine (awake_c _).mono ?_; rintro e w6 ⟨rfl, g6⟩)
        | (go_at_call 17; refine (cs _ g6).mono ?_; rintro e w7 ⟨rfl, g7⟩))
      go_ret
      exact ⟨rfl, gb_trans G2.out (gb_trans g6 g7)⟩
end Go.Proofs.YteaeaoekaoedoaaGreat
