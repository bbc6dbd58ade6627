/- The law CodecReads. -/
import Derived.Test.YtmlincnmhjkjgaaCyCoYw
import Derived.Test.YtmlincnmhjkjgaaCyCoW
import Derived.Test.YtmlincnmhjkjgaaCyFKr
import Derived.Test.YtmlincnmhjkjgaaCyKeep
namespace Go.Proofs.Ytmlincnmhjkjgaa
open Go.RowKit Go.Lib

theorem gcP_shape (l : List UInt8) : ∃ (k i ee : Int) (vs : List Int), vs.length ≤ 1000 ∧ ∀ w w' e, gcP l w w' e → ∃ v', e = .returned (.tuple #[Ch k i v', .int .i64 ee]) ∧ RdI w' v' vs ∧ Gb w w' := by
  by_cases h : GOk l
  · refine ⟨(gK l : Int), (gI l : Int), 0, gV l, ?_, fun w w' e hh => ?_⟩
    · unfold gV
      split
      · rw [vecOf_length]; have : gD l < 256 := tk_lt 1 _; omega
      · simp
    · unfold gcP at hh
      rw [if_pos h] at hh
      obtain ⟨v', h1, h2, h3⟩ := hh
      exact ⟨v', h1, h2.rd, h3⟩
  · refine ⟨0, 0, 161, [], by simp, fun w w' e hh => ?_⟩
    unfold gcP at hh
    rw [if_neg h] at hh
    exact ⟨.slice none 0 0, hh.1, rdi_nil _, hh.2⟩
theorem grP_shape (l : List UInt8) : ∃ (ee : Int) (rs : List Rw), rs.length ≤ 65536 ∧ (∀ r ∈ rs, r.2.length ≤ 1000) ∧ ∀ w w' e, grP l w w' e → ∃ v', e = .returned (.tuple #[v', .int .i64 ee]) ∧ RdW w' v' rs ∧ Gb w w' := by
  by_cases h : HOk l
  · refine ⟨0, hR l, ?_, fun r hr => ?_, fun w w' e hh => ?_⟩
    · have := (crE_zero.1 h.2.1).few; omega
    · have := rwT_mem (crE_zero.1 h.2.1) r hr
      have := (crE_zero.1 h.2.1).dim
      omega
    · unfold grP at hh
      rw [if_pos h] at hh
      obtain ⟨v', h1, h2, _, h3⟩ := hh
      exact ⟨v', h1, h2, h3⟩
  · refine ⟨161, [], by simp, fun r hr => by simp at hr, fun w w' e hh => ?_⟩
    unfold grP at hh
    rw [if_neg h] at hh
    exact ⟨.slice none 0 0, hh.1, ⟨none, 0, rfl, fun i hi => absurd hi (Nat.not_lt_zero _)⟩, hh.2⟩
set_option maxHeartbeats 8000000 in
set_option maxRecDepth 100000 in
theorem reads_law (t : List UInt8) (w : World) :
    Calls Try.prog 3 #[.string (sb t)] w fun e w' => e = .returned (.bool true) ∧ Gb w w' := by
  have hsz := sb_size t
  by_cases h1 : 524288 < t.length
  · generalize sb t = s at *
    generalize t.length = m at *
    have h1' : (524288 : Int) < (m : Int) := by omega
    go_enter Try.func3, Try.ntmps3
    go_wp2
    go_ret
    exact ⟨rfl, Below.refl _ _⟩
  have h1' : ¬ (524288 : Int) < (t.length : Int) := by omega
  obtain ⟨k, i, ee, vs, hvs, HG⟩ := gcP_shape t
  obtain ⟨er, rs, hrs, hrr, HR⟩ := grP_shape t
  have VS : Hid (vs.length ≤ 1000) := hvs
  have RS : Hid (rs.length ≤ 65536 ∧ ∀ r ∈ rs, r.2.length ≤ 1000) := ⟨hrs, hrr⟩
  have c1 := fun W => (getChange_c t (by omega) W).mono (fun e w' h => HG W w' e h)
  have c2 := fun W => (rgetChange_c t (by omega) W).mono (fun e w' h => HG W w' e h)
  have c3 := fun W => (getRows_c t (by omega) W).mono (fun e w' h => HR W w' e h)
  have c4 := fun W => (rgetRows_c t (by omega) W).mono (fun e w' h => HR W w' e h)
  unfold Ch at c1 c2
  generalize sb t = s at *
  generalize t.length = m at *
  clear HG HR hvs hrs hrr h1
  go_enter Try.func3, Try.ntmps3
  go_wp2_with fail
  refine (c1 _).mono ?_
  rintro e w1 ⟨v1, rfl, r1, g1⟩
  obtain ⟨a1, p1, e1⟩ : ∃ a c, v1 = .slice a vs.length c := by obtain ⟨x1, x2, x3, _⟩ := r1; exact ⟨x1, x2, x3⟩
  have R1 : Hid (RdI w1 v1 vs) := r1
  clear r1
  obtain ⟨nv, hnv⟩ : ∃ nv, nv = vs.length := ⟨_, rfl⟩
  have NV : Hid (nv = vs.length) := hnv
  rw [← hnv] at e1
  subst e1
  have B1 : Hid (∀ W, Gb (w1.alloc (.cells #[.int .i64 k, .int .i64 i, .slice a1 nv p1] 25)) W → W.cell? ⟨w1.heap.size, 0, none⟩ = some (.int .i64 k) ∧ W.cell? ⟨w1.heap.size, 1, none⟩ = some (.int .i64 i) ∧ W.cell? ⟨w1.heap.size, 2, none⟩ = some (.slice a1 nv p1)) :=
    fun W g => ⟨gb_keeps g (by simp [go_sem]), gb_keeps g (by simp [go_sem]), gb_keeps g (by simp [go_sem])⟩
  have GA : Hid (Gb w1 (w1.alloc (.cells #[.int .i64 k, .int .i64 i, .slice a1 nv p1] 25))) := gb_alloc (Below.refl _ _) _
  clear hnv
  go_wp2_with fail
  refine (c2 _).mono ?_
  rintro e w2 ⟨v2, rfl, r2, g2⟩
  obtain ⟨a2, p2, e2⟩ : ∃ a c, v2 = .slice a vs.length c := by obtain ⟨x1, x2, x3, _⟩ := r2; exact ⟨x1, x2, x3⟩
  have R2 : Hid (RdI w2 v2 vs) := r2
  clear r2
  rw [← NV.out] at e2
  subst e2
  have B2 : Hid (∀ W, Gb (w2.alloc (.cells #[.int .i64 k, .int .i64 i, .slice a2 nv p2] 25)) W → W.cell? ⟨w2.heap.size, 0, none⟩ = some (.int .i64 k) ∧ W.cell? ⟨w2.heap.size, 1, none⟩ = some (.int .i64 i) ∧ W.cell? ⟨w2.heap.size, 2, none⟩ = some (.slice a2 nv p2)) :=
    fun W g => ⟨gb_keeps g (by simp [go_sem]), gb_keeps g (by simp [go_sem]), gb_keeps g (by simp [go_sem])⟩
  have GB : Hid (Gb w2 (w2.alloc (.cells #[.int .i64 k, .int .i64 i, .slice a2 nv p2] 25))) := gb_alloc (Below.refl _ _) _
  go_wp2_with fail
  refine (c3 _).mono ?_
  rintro e w3 ⟨v3, rfl, r3, g3⟩
  have R3 : Hid (RdW w3 v3 rs) := r3
  obtain ⟨a3, p3, rfl, _⟩ := r3
  go_wp2_with fail
  refine (c4 _).mono ?_
  rintro e w4 ⟨v4, rfl, r4, g4⟩
  have R4 : Hid (RdW w4 v4 rs) := r4
  obtain ⟨a4, p4, rfl, _⟩ := r4
  go_wp2_with fail
  refine (awake_c _).mono ?_
  rintro e w5 ⟨rfl, g5⟩
  have H35 := gb_trans g4 g5
  have H25 := gb_trans GB.out (gb_trans g3 H35)
  have H15 := gb_trans GA.out (gb_trans g2 H25)
  obtain ⟨x0, x1, x2⟩ := B1.out _ (gb_trans g2 H25)
  obtain ⟨y0, y1, y2⟩ := B2.out _ (gb_trans g3 H35)
  have ci := ints_v (R1.out.gb H15) (R2.out.gb H25) (by have := VS.out; omega) true (by simp)
  have ck := fun W (g : Gb w5 W) => krsame_c ((R3.out.gb H35).gb g) ((R4.out.gb g5).gb g) (by have := RS.out.1; omega) (fun r hr => by have := RS.out.2 r hr; omega)
  have G5 : Hid (Gb w w5) := gb_trans g1 H15
  generalize rs.length = nr at *
  clear c1 c2 c3 c4 g1 g2 g3 g4 g5 H35 H25 H15
  go_wp2_with fail
  refine ci.mono ?_
  rintro e w6 ⟨rfl, g6⟩
  go_wp2_with fail
  refine (ck _ g6.gb).mono ?_
  rintro e w7 ⟨rfl, g7⟩
  go_wp2
  go_ret
  exact ⟨rfl, gb_trans G5.out (gb_trans g6.gb g7)⟩
end Go.Proofs.Ytmlincnmhjkjgaa
