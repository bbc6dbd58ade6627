/- kmeans.Train. -/
import Derived.Test.YtblfmhdcgmkpgaaKRound
namespace Go.Proofs.Ytblfmhdcgmkpgaa
open Go.RowKit Go.Maps

set_option maxHeartbeats 1000000 in
theorem roundOf_c (a c : Option Addr) (n m k j : Nat) (w : World) :
    Calls Try.prog 71 #[.slice a n m, .slice c k j] w fun e w' => e = .returned (.func (.func 77) #[] #[.pointer (some ⟨w.heap.size, 0, none⟩), .pointer (some ⟨w.heap.size + 1, 0, none⟩)]) ∧
      w' = (w.alloc (.cells #[.slice a n m] 22)).alloc (.cells #[.slice c k j] 22) := by
  go_enter Try.func71, Try.ntmps71
  go_wp2
  go_ret
  exact ⟨rfl, rfl⟩

/-- Behind some rounds. -/
structure Tr (w W : World) (cb b0 b1 : Nat) (gs cp : Nat → Nat) (k d : Nat) (lv : Value) (cs : Vs) : Prop where
  cen : Cen w.heap.size W cb gs cp k d (cenF cs)
  x0 : Boxed W b0 22 lv
  x1 : Boxed W b1 22 (.slice (some ⟨cb, 0, none⟩) k k)
  n0 : ¬ Gs gs k b0
  n1 : ¬ Gs gs k b1
  gb : Gb w W
/-- What Train leaves: centres of the call's own. -/
def OutC (w w' : World) (v : Value) (k d : Nat) (cs : Vs) : Prop := ∃ cb gs cp, v = .slice (some ⟨cb, 0, none⟩) k k ∧ Cen w.heap.size w' cb gs cp k d (cenF cs)

set_option maxHeartbeats 4000000 in
set_option maxRecDepth 100000 in
theorem train_ok_c {w : World} {lv : Value} {l : Vs} (hl : RdV w lv l) {k r : Int} (x : Int) (hx : Rn.U x) (hz : trainE l k r = 0) :
    Calls Try.prog 61 #[lv, .int .i64 k, .int .i64 r, .int .u64 x] w fun e w' => ∃ v, e = .returned (.tuple #[v, .int .i64 0]) ∧ OutC w w' v k.toNat l[0]!.length (trainV l k.toNat r.toNat x) ∧ Gb w w' := by
  have ck := checkTraining_c hl k r
  rw [hz] at ck
  obtain ⟨h1, h2, h3, h4⟩ := trainE_zero.1 hz
  have TO : Hid (∀ q, VsOk (roundsV l (drawnV l k.toNat x) q) (l[0]!.length : Int) ∧ (roundsV l (drawnV l k.toNat x) q).length = k.toNat) := fun q => (train_ok hz x q).2
  have LO : Hid (VsOk l (l[0]!.length : Int) ∧ l.length ≤ 512) := ⟨h4, h2⟩
  obtain ⟨K, rfl⟩ : ∃ K : Nat, k = (K : Int) := ⟨k.toNat, by omega⟩
  obtain ⟨R, rfl⟩ : ∃ R : Nat, r = (R : Int) := ⟨r.toNat, by omega⟩
  simp only [Int.toNat_natCast] at TO ⊢
  have cd := drawn_c hl h4 K (by omega) (by omega) h2 x hx
  have KB : Hid (1 ≤ K ∧ K ≤ 64) := ⟨by omega, by omega⟩
  have L : Hid (RdV w lv l) := hl
  have TV : Hid (trainV l K R x = roundsV l (drawnV l K x) R) := rfl
  obtain ⟨al, cl, rfl, _⟩ := hl
  generalize l[0]!.length = d at *
  obtain ⟨nl, hnl⟩ : ∃ nl, nl = l.length := ⟨_, rfl⟩
  rw [← hnl] at ck cd L
  have hR : R ≤ 20 := by omega
  clear h1 h2 h3 h4 hz
  rw [← hnl]
  clear hnl
  go_enter Try.func61, Try.ntmps61
  go_wp2_with fail
  refine ck.mono ?_
  rintro e w' ⟨rfl, e2⟩
  subst e2
  go_wp2_with fail
  refine cd.mono ?_
  rintro e w1 ⟨cb, gs, cp, rfl, hC, g1⟩
  clear ck cd
  go_wp2_with fail
  refine (roundOf_c _ _ _ _ _ _ _).mono ?_
  rintro e w2 ⟨rfl, hw2⟩
  have T0 : Tr w w2 cb w1.heap.size (w1.heap.size + 1) gs cp K d (.slice al nl cl) (roundsV l (drawnV l K x) 0) := by
    have hlt : ∀ i, i < K → gs i < w1.heap.size := fun i hi => (hC.arr i hi).lt
    have b2 := Boxed.new (w1.alloc (.cells #[.slice al nl cl] 22)) 22 (.slice (some ⟨cb, 0, none⟩) K K)
    rw [World.size_alloc] at b2
    rw [hw2]
    exact ⟨(hC.gb (gb_alloc (Below.refl _ _) _)).gb (gb_alloc (Below.refl _ _) _), (Boxed.new w1 _ _).alloc _, b2, fun ⟨i, hi, e⟩ => by have := hlt i hi; omega, fun ⟨i, hi, e⟩ => by have := hlt i hi; omega, gb_alloc (gb_alloc g1 _) _⟩
  generalize w1.heap.size = b0 at *
  generalize b0 + 1 = b1 at *
  clear hC g1 hw2
  go_wp2
  go_loopw [28] (fun iv W => ∃ q : Nat, iv = .int .i64 (q : Int) ∧ q ≤ R ∧ Hid (Tr w W cb b0 b1 gs cp K d (.slice al nl cl) (roundsV l (drawnV l K x) q))) (fun iv _ => R - (intOf iv).toNat)
  case atStart => exact ⟨0, rfl, Nat.zero_le _, T0⟩
  case round =>
    clear T0
    obtain ⟨q, rfl, hq, X⟩ := hrel
    by_cases hqn : q < R
    · have hqi : (q : Int) < (R : Int) := by omega
      have cr := round_c L.out X.out.gb X.out.cen (TO.out q).2 X.out.x0 X.out.x1 X.out.n0 X.out.n1 LO.out.1 (TO.out q).1 KB.out.1 KB.out.2 LO.out.2
      have NX : Hid (roundsV l (drawnV l K x) (q + 1) = roundV l (roundsV l (drawnV l K x) q)) := rfl
      go_wp2_with (go_at_call 77; refine cr.mono ?_; rintro e w4 ⟨rfl, hC4, g4⟩)
      have X4 : Tr w w4 cb b0 b1 gs cp K d (.slice al nl cl) (roundsV l (drawnV l K x) (q + 1)) :=
        ⟨by rw [NX.out]; exact hC4, boxed_kp X.out.x0 g4 X.out.n0, boxed_kp X.out.x1 g4 X.out.n1, X.out.n0, X.out.n1, g4.below X.out.gb (fun b ⟨i, hi, e⟩ => by rw [e]; exact X.out.cen.base i hi)⟩
      clear X hC4 g4 cr
      go_roundw
      case rel => exact ⟨q + 1, by go_num, hqn, X4⟩
      case measure => simp [intOf]; omega
    · have hqi : ¬ (q : Int) < (R : Int) := by omega
      have hqr : q = R := by omega
      subst hqr
      have X' := X.out
      clear X
      go_wp2
      go_ret2
      exact ⟨_, rfl, ⟨cb, gs, cp, rfl, by rw [TV.out]; exact X'.cen⟩, X'.gb⟩
set_option maxHeartbeats 1000000 in
theorem train_no_c {w : World} {lv : Value} {l : Vs} (hl : RdV w lv l) (k r x : Int) (hz : trainE l k r ≠ 0) :
    Calls Try.prog 61 #[lv, .int .i64 k, .int .i64 r, .int .u64 x] w fun e w' => e = .returned (.tuple #[.slice none 0 0, .int .i64 (trainE l k r)]) ∧ w = w' := by
  have ck := checkTraining_c hl k r
  have hz' : (trainE l k r == 0) = false := by rw [beq_eq_false_iff_ne]; exact hz
  obtain ⟨al, cl, rfl, _⟩ := hl
  generalize trainE l k r = z at *
  generalize l.length = nl at *
  go_enter Try.func61, Try.ntmps61
  go_wp2_with (go_at_call 69; refine ck.mono ?_; rintro e w' ⟨rfl, e2⟩; subst e2)
  go_ret2
  exact ⟨rfl, rfl⟩
end Go.Proofs.Ytblfmhdcgmkpgaa
