/- The law's spoil: it writes over a list, its room too, and nowhere else. -/
import Derived.Test.YtfefojgncemohaaMerge
namespace Go.Proofs.Ytfefojgncemohaa
open Go.RowKit Go.Sort
attribute [local go_sem ↓] Go.wp_at_zero Go.wp_at_succ

/-- A row of so many hits' cells. -/
def Room (w : World) (g cap : Nat) : Prop := ∃ cur, w.heap[g]? = some (.cells cur 26 (0, 0)) ∧ cur.size = cap * 3
theorem Room.lt {w : World} {g cap : Nat} (h : Room w g cap) : g < w.heap.size := by
  obtain ⟨cur, h, _⟩ := h; exact (Array.getElem?_eq_some_iff.1 h).1
theorem Room.gr {w w' : World} {g cap : Nat} (h : Room w g cap) (k : Gr w w') : Room w' g cap := by
  have hl := h.lt
  obtain ⟨cur, h, hs⟩ := h; exact ⟨cur, by rw [k.block g hl]; exact h, hs⟩
theorem Room.cell {w : World} {g cap : Nat} (h : Room w g cap) {o : Nat} (ho : o < cap * 3) : ∃ v, w.cell? ⟨g, o, none⟩ = some v := by
  obtain ⟨cur, h, hs⟩ := h
  exact ⟨cur[o]'(by omega), by simp [World.cell?, h, hs, ho]⟩
theorem Room.froz {w : World} {g cap : Nat} (h : Room w g cap) (o : Nat) : w.frozen? ⟨g, o, none⟩ = false := by
  obtain ⟨cur, h, hs⟩ := h; simp [World.frozen?, h]
theorem Room.set {w : World} {g cap : Nat} (h : Room w g cap) (o : Nat) (v : Value) : Room (w.setCell ⟨g, o, none⟩ v) g cap := by
  obtain ⟨cur, h, hs⟩ := h
  exact ⟨cur.setIfInBounds o v, by simp [World.setCell, Array.getElem?_modify, h], by simpa using hs⟩

set_option maxHeartbeats 2000000 in
set_option maxRecDepth 100000 in
theorem spoil_c {w : World} {g n cap : Nat} (h : Room w g cap) (hn : n ≤ cap) (hc : cap ≤ maxLen) :
    Calls Try.prog 20 #[.slice (some ⟨g, 0, none⟩) n cap] w fun e w' => e = .returned (.tuple #[]) ∧ Kp (fun b => b = g) w w' := by
  have H : Hid (Room w g cap) := h
  have hcm : cap ≤ 9223372036854775807 := by simp only [maxLen] at hc; omega
  have hn' : (n : Int) ≤ (cap : Int) := by omega
  clear h hc
  go_enter Try.func20, Try.ntmps20
  go_wp2
  go_loopw [2] (fun iv w' => ∃ r : Nat, iv = .int .i64 (r : Int) ∧ r ≤ cap ∧ Hid (Room w' g cap ∧ Kp (fun b => b = g) w w')) (fun iv _ => cap - (intOf iv).toNat)
  case atStart => exact ⟨0, rfl, Nat.zero_le _, ⟨H.out, Kp.refl _ _⟩⟩
  case round =>
    obtain ⟨r, rfl, hr, X⟩ := hrel
    by_cases hrc : r < cap
    · have hri : (r : Int) < (cap : Int) := by omega
      go_wp2_with fail
      refine (hit_c (-9) 9 _).mono ?_
      rintro e w1 ⟨rfl, g1⟩
      have R : Hid (Room w1 g cap ∧ Kp (fun b => b = g) w w1) := ⟨X.out.1.gr g1, X.out.2.trans (Kp.of_gr g1)⟩
      obtain ⟨v0, c0⟩ := R.out.1.cell (o := r * 3) (by omega)
      obtain ⟨v1, c1⟩ := R.out.1.cell (o := r * 3 + 1) (by omega)
      obtain ⟨v2, c2⟩ := R.out.1.cell (o := r * 3 + 2) (by omega)
      have f0 := R.out.1.froz (r * 3)
      have f1 := R.out.1.froz (r * 3 + 1)
      have f2 := R.out.1.froz (r * 3 + 2)
      clear g1
      go_wp2
      have Y : Hid (Room (((w1.setCell ⟨g, r * 3, none⟩ (.int .i64 (-9))).setCell ⟨g, r * 3 + 1, none⟩ (.int .u64 0)).setCell ⟨g, r * 3 + 2, none⟩ (.int .u64 9)) g cap ∧ Kp (fun b => b = g) w (((w1.setCell ⟨g, r * 3, none⟩ (.int .i64 (-9))).setCell ⟨g, r * 3 + 1, none⟩ (.int .u64 0)).setCell ⟨g, r * 3 + 2, none⟩ (.int .u64 9))) :=
        ⟨((R.out.1.set _ _).set _ _).set _ _, ((R.out.2.setCell (.inl rfl) _).setCell (.inl rfl) _).setCell (.inl rfl) _⟩
      go_roundw
      case rel => exact ⟨r + 1, by simp, hrc, Y.out⟩
      case measure => simp [intOf]; omega
    · have hri : ¬ (r : Int) < (cap : Int) := by omega
      go_wp2
      go_end0
      exact ⟨rfl, X.out.2⟩
theorem spoil_nil (w : World) : Calls Try.prog 20 #[.slice none 0 0] w fun e w' => e = .returned (.tuple #[]) ∧ w' = w := by
  go_enter Try.func20, Try.ntmps20
  go_wp2
  refine wp_loop_rounds 1 ?_
  rw [rounds_succ]
  go_wp2
  go_end0
  exact ⟨rfl, rfl⟩
/-- spoil of a list that came out. -/
theorem spoil_out {w : World} {v : Value} {d : Array Ht} (h : Own w v d) : Calls Try.prog 20 #[v] w fun e w' => e = .returned (.tuple #[]) ∧ Kp (fun b => some b = v.ownBlock) w w' := by
  rcases h.2 with ⟨rfl, _⟩ | ⟨g, cap, cur, rfl, _, hh, h1, h2, h3, _⟩
  · refine (spoil_nil w).mono ?_
    rintro e w' ⟨rfl, rfl⟩
    exact ⟨rfl, Kp.refl _ _⟩
  · refine (spoil_c ⟨cur, hh, h3⟩ h1 h2).mono ?_
    rintro e w' ⟨rfl, k⟩
    exact ⟨rfl, k.mono (fun i _ e => by rw [e]; rfl)⟩
end Go.Proofs.Ytfefojgncemohaa
