/- theodolitekeep.Back; theodoliteref03.Dist; VecDists: the walk. -/
import Derived.Test.YtgmjokmiifmckaaLend
namespace Go.Proofs.Ytgmjokmiifmckaa
open Go.RowKit Go.Sort Go.Maps

theorem grown_set {w W : World} {g i : Nat} (h : w.grownBy W (some g)) (u : Value) : w.grownBy (W.setCell ⟨g, i, none⟩ u) (some g) :=
  ⟨h.os, h.tape, h.output, by simpa [World.setCell] using h.size, fun k hk hn => (Below.heap_setCell _ _ _ _ (fun e => hn (by rw [e]))).trans (h.block k hk hn)⟩
theorem grown_gb {w W : World} {g : Nat} (h : Gb w W) : w.grownBy W (some g) := ⟨h.os, h.tape, h.output, h.size, fun k hk _ => h.block k hk⟩

set_option maxHeartbeats 4000000 in
set_option maxRecDepth 100000 in
theorem back_c {w : World} {B g : Nat} {v : Value} {l : List Int} (hg : Lent w B g l) (hv : RdI w v l) (hn : l.length ≤ 65536) :
    Calls Try.prog 15 #[.slice (some ⟨g, 0, none⟩) l.length (l.length + 1), v] w fun e w' => e = .returned (.bool true) ∧ w.grownBy w' (some g) := by
  have c32 := ints_v hg.rd hv (by omega) true (by simp)
  have mk := hg.mark
  have HG : Hid (Lent w B g l) := hg
  obtain ⟨a, cap, rfl, _⟩ := hv
  have OW : Hid (∀ W, Gb w W → Own W B (.slice (some ⟨g, 0, none⟩) (l.length + 1) (l.length + 1)) (tab (fun i => if i < l.length then l[i]! else -77) (l.length + 1))) := fun W k => (HG.out.gb k).own hn
  obtain ⟨n, hN⟩ : ∃ n, n = l.length := ⟨_, rfl⟩
  rw [← hN] at c32 mk hn OW ⊢
  obtain ⟨m, hM⟩ : ∃ m, m = n + 1 := ⟨_, rfl⟩
  have hm : (n : Int) + 1 = (m : Int) := by omega
  have hnm : (n : Int) < (m : Int) := by omega
  have hnm2 : n < m := by omega
  have hmb : m ≤ 65537 := by omega
  rw [← hM] at c32 OW ⊢
  clear HG hN hg hM
  go_enter Try.func15, Try.ntmps15
  go_wp2_with fail
  refine c32.mono ?_
  rintro e w1 ⟨rfl, g1⟩
  have mk1 := gb_keeps g1.gb mk
  clear mk c32
  go_wp2
  go_loopw [6] (fun iv w' => ∃ q : Nat, ∃ f : Nat → Int, iv = .int .i64 (q : Int) ∧ q ≤ m ∧ Hid (Own w' B (.slice (some ⟨g, 0, none⟩) m m) (tab f m) ∧ w.grownBy w' (some g))) (fun iv _ => m - (intOf iv).toNat)
  case atStart => exact ⟨0, _, rfl, Nat.zero_le _, OW.out w1 g1.gb, grown_gb g1.gb⟩
  case round =>
    clear mk1 OW g1
    obtain ⟨q, f, rfl, hq, X⟩ := hrel
    by_cases hqm : q < m
    · have hqi : (q : Int) < (m : Int) := by omega
      obtain ⟨c0, f0⟩ := X.out.1.at hqm
      go_wp2
      refine ⟨⟨q + 1, _, by go_num, hqm, own_set X.out.1 hqm _, grown_set X.out.2 _⟩, by simp [intOf]; omega⟩
    · have hqi : ¬ (q : Int) < (m : Int) := by omega
      go_wp2
      go_ret
      exact ⟨rfl, X.out.2⟩
end Go.Proofs.Ytgmjokmiifmckaa
