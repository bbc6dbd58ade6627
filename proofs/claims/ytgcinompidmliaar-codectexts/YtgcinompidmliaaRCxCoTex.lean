/- The law CodecTexts. -/
import Derived.Test.YtgcinompidmliaaRCxCoU
import Derived.Test.YtgcinompidmliaaRCxCoQr
import Derived.Test.YtgcinompidmliaaRCxFLendC
import Derived.Test.YtgcinompidmliaaRCxFBackC
namespace Go.Proofs.YtgcinompidmliaaR
open Go.RowKit Go.Lib

theorem pcV_shape (k id : Int) (v : List Int) : ∃ (S : ByteArray) (e : Int), pcV k id v = .tuple #[.string S, .int .i64 e] := ⟨_, _, rfl⟩
theorem prV_shape (rs : List Rw) : ∃ (S : ByteArray) (e : Int), prV rs = .tuple #[.string S, .int .i64 e] := ⟨_, _, rfl⟩
set_option maxHeartbeats 8000000 in
set_option maxRecDepth 100000 in
theorem texts_law {w : World} {u v : Value} {cv : List Int} {rs : List Rw} (k id : Int) (hu : RdI w u cv) (hv : RdW w v rs) (hwf : WfR rs) (hrow : ∀ i, i < rs.length → rs[i]!.2.length ≤ 4611686018427387904) :
    Calls Try.prog 4 #[Ch k id u, v] w fun e w' => e = .returned (.bool true) ∧ Gb w w' := by
  have U : Hid (RdI w u cv) := hu
  have V : Hid (RdW w v rs ∧ WfR rs) := ⟨hv, hwf⟩
  have cB := fun W (g : Gb w W) => big16_c (hv.gb g) hwf.1 hrow
  obtain ⟨S1, e1, hP⟩ := pcV_shape k id cv
  obtain ⟨S2, e2, hR⟩ := prV_shape rs
  have PS : Hid (pcV k id cv = .tuple #[.string S1, .int .i64 e1] ∧ prV rs = .tuple #[.string S2, .int .i64 e2]) := ⟨hP, hR⟩
  obtain ⟨a, cap, rfl, _⟩ := hu
  obtain ⟨a2, cap2, rfl, _⟩ := hv
  obtain ⟨n, hN⟩ : ∃ n, n = cv.length := ⟨_, rfl⟩
  have N : Hid (n = cv.length) := hN
  obtain ⟨n2, hN2⟩ : ∃ n, n = rs.length := ⟨_, rfl⟩
  have N2 : Hid (n2 = rs.length) := hN2
  rw [← hN2] at cB ⊢
  rw [← hN]
  unfold Ch
  by_cases h1 : (524288 : Int) < (n : Int)
  · clear cB U V hN hN2 hP hR hrow hwf
    go_enter Try.func4, Try.ntmps4
    go_wp2
    go_ret
    exact ⟨rfl, gb_alloc (Below.refl _ _) _⟩
  have NB : Hid (cv.length ≤ 1048576) := by unfold Hid; omega
  clear hN hN2 hP hR hrow hwf
  go_enter Try.func4, Try.ntmps4
  go_wp2_with fail
  refine (cB _ (gb_alloc (Below.refl _ _) _)).mono ?_
  rintro e w' ⟨⟨b, rfl, hb⟩, rfl⟩
  cases b
  case true =>
    go_wp2
    go_ret
    exact ⟨rfl, gb_alloc (Below.refl _ _) _⟩
  case false =>
    have BB : Hid (rs.length ≤ 1048576 ∧ ∀ i, i < rs.length → rs[i]!.2.length ≤ 1048576) := by
      have h2 := hb rfl
      refine ⟨by have := N2.out; omega, fun i hi => ?_⟩
      have := coords_row hi
      omega
    clear hb cB
    have GA : Gb w (w.alloc (.cells #[.int .i64 k, .int .i64 id, .slice a n cap] 37)) := gb_alloc (Below.refl _ _) _
    have B0 : Hid (∀ W, Gb (w.alloc (.cells #[.int .i64 k, .int .i64 id, .slice a n cap] 37)) W → W.cell? ⟨w.heap.size, 0, none⟩ = some (.int .i64 k) ∧ W.cell? ⟨w.heap.size, 1, none⟩ = some (.int .i64 id) ∧ W.cell? ⟨w.heap.size, 2, none⟩ = some (.slice a n cap)) :=
      fun W g => ⟨gb_keeps g (by simp [go_sem]), gb_keeps g (by simp [go_sem]), gb_keeps g (by simp [go_sem])⟩
    have SA : Hid (w.heap.size < (w.alloc (.cells #[.int .i64 k, .int .i64 id, .slice a n cap] 37)).heap.size) := by unfold Hid; simp
    have cL := lend_c (U.out.gb GA) NB.out
    rw [← N.out] at cL
    generalize w.alloc (.cells #[.int .i64 k, .int .i64 id, .slice a n cap] 37) = wA at *
    obtain ⟨x0, x1, x2⟩ := B0.out _ (Below.refl _ wA)
    go_wp2_with fail
    refine cL.mono ?_
    rintro e w1 ⟨g, rfl, h1', g1⟩
    have L1 : Hid (Lent w1 wA.heap.size g cv) := h1'
    obtain ⟨y0, y1, y2⟩ := B0.out _ g1
    have cP := putChange_c k id L1.out.rd
    rw [PS.out.1, ← N.out] at cP
    unfold Ch at cP
    clear cL h1' x0 x1 x2
    go_wp2_with fail
    refine cP.mono ?_
    rintro e w2 ⟨rfl, g2⟩
    obtain ⟨y0, y1, y2⟩ := B0.out _ (gb_trans g1 g2)
    have cK := back_c (L1.out.gb g2) (U.out.gb (gb_trans GA (gb_trans g1 g2))) NB.out
    rw [← N.out] at cK
    clear cP
    go_wp2_with fail
    refine cK.mono ?_
    rintro e w3 ⟨rfl, g3⟩
    have G3 : Gb wA w3 := below_grown' (gb_trans g1 g2) g3 (fun i e => by cases e; exact L1.out.1)
    obtain ⟨z0, z1, z2⟩ := B0.out _ G3
    have cR := rputChange_c k id (U.out.gb (gb_trans GA G3))
    rw [PS.out.1, ← N.out] at cR
    unfold Ch at cR
    clear cK y0 y1 y2 g3
    go_wp2_with fail
    refine cR.mono ?_
    rintro e w4 ⟨rfl, g4⟩
    have G4 : Hid (Gb w w4) := gb_trans GA (gb_trans G3 g4)
    have cl := lendrows_c (V.out.1.gb G4.out) BB.out.1 BB.out.2
    rw [← N2.out] at cl
    clear cR z0 z1 z2
    go_wp2_with fail
    refine cl.mono ?_
    rintro e w5 ⟨G, rfl, h5⟩
    have L5 : Hid (LentR w4 w5 G rs) := h5
    have G5 : Hid (Gb w4 w5) := by obtain ⟨f, h⟩ := h5; exact h.gb
    have cp := putRows_c L5.out.rd (fun a n c e => by cases e; exact Nat.le_succ _) V.out.2
    rw [PS.out.2, ← N2.out] at cp
    clear cl h5
    go_wp2_with fail
    refine cp.mono ?_
    rintro e w6 ⟨rfl, g6⟩
    have G6 : Hid (Gb w4 w6) := gb_trans G5.out g6
    obtain ⟨f, gs, T1⟩ := L5.out.lt
    have T6 : LT w4.heap.size w5.heap.size w6 G rs f gs := T1.keep fun j h1 h2 => g6.block j h2
    have cr := backrows_c T6 G6.out (Nat.le_refl _) (V.out.1.gb G4.out) BB.out.1 BB.out.2
    rw [← N2.out] at cr
    clear cp T1 T6
    go_wp2_with fail
    refine cr.mono ?_
    rintro e w7 ⟨rfl, m7⟩
    have G7 : Hid (Gb w w7) := gb_trans G4.out (m7.gb G6.out (Nat.le_refl _))
    have cq := rputRows_c (V.out.1.gb G7.out) V.out.2.1
    rw [PS.out.2, ← N2.out] at cq
    clear cr m7
    go_wp2_with fail
    refine cq.mono ?_
    rintro e w8 ⟨rfl, g8⟩
    have G8 : Hid (Gb w w8) := gb_trans G7.out g8
    go_wp2_with fail
    refine (awake_c _).mono ?_
    rintro e w9 ⟨rfl, g9⟩
    go_wp2
    go_ret
    exact ⟨rfl, gb_trans G8.out g9⟩
end Go.Proofs.YtgcinompidmliaaR
