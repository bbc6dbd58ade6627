/- The four methods that container/heap calls. -/
import Derived.Test.YteaeaoekaoedoaaGreatTkRow
namespace Go.Proofs.YteaeaoekaoedoaaGreat.Tk
open Go.RowKit Go.Sort
attribute [local go_sem ↓] Go.wp_at_zero Go.wp_at_succ

theorem len72 (a : Option Addr) (n cap : Nat) (w : World) : Calls Tryz.prog 152 #[.slice a n cap] w fun e w' => e = .returned (.int .i64 (n : Nat)) ∧ w' = w := by
  go_enter Tryz.func152, Tryz.ntmps152
  go_wp2
  go_ret
  exact ⟨rfl, rfl⟩

set_option maxHeartbeats 2000000 in
theorem less73_c (g n cap i j : Nat) (hi : i < n) (hj : j < n) (x y : Ht) (w : World)
    (hx : w.cell? ⟨g, i * 3, none⟩ = some (.int .i64 x.id) ∧ w.cell? ⟨g, i * 3 + 1, none⟩ = some (.int .u64 x.hi) ∧ w.cell? ⟨g, i * 3 + 2, none⟩ = some (.int .u64 x.lo))
    (hy : w.cell? ⟨g, j * 3, none⟩ = some (.int .i64 y.id) ∧ w.cell? ⟨g, j * 3 + 1, none⟩ = some (.int .u64 y.hi) ∧ w.cell? ⟨g, j * 3 + 2, none⟩ = some (.int .u64 y.lo)) :
    Calls Tryz.prog 153 #[.slice (some ⟨g, 0, none⟩) n cap, .int .i64 i, .int .i64 j] w fun e w' => e = .returned (.bool (hlt y x)) ∧ Gw w w' := by
  obtain ⟨x0, x1, x2⟩ := hx
  obtain ⟨y0, y1, y2⟩ := hy
  have i0 : (0 : Int) ≤ (i : Int) := by omega
  have i1 : (i : Int) < (n : Int) := by omega
  have j0 : (0 : Int) ≤ (j : Int) := by omega
  have j1 : (j : Int) < (n : Int) := by omega
  have C : Gw w w := Gw.refl _
  go_enter Tryz.func153, Tryz.ntmps153
  go_wp2
  go_region_held3 (fun w' => Gw w w' ∧ w'.cell? ⟨g, i * 3, none⟩ = some (.int .i64 x.id) ∧ w'.cell? ⟨g, i * 3 + 1, none⟩ = some (.int .u64 x.hi) ∧ w'.cell? ⟨g, i * 3 + 2, none⟩ = some (.int .u64 x.lo) ∧ w'.cell? ⟨g, j * 3, none⟩ = some (.int .i64 y.id) ∧ w'.cell? ⟨g, j * 3 + 1, none⟩ = some (.int .u64 y.hi) ∧ w'.cell? ⟨g, j * 3 + 2, none⟩ = some (.int .u64 y.lo)) (first | (with_reducible exact six_call (by assumption) (by assumption)) | (with_reducible assumption) | exact ⟨C.drew, x0, x1, x2, y0, y1, y2⟩) (first | (go_at_call 63; refine (less_c y x _).mono ?_; rintro e w' ⟨rfl, hg⟩))
  all_goals
    go_wp2
    go_ret
    exact ⟨rfl, And.left (by assumption)⟩
theorem less73 {w : World} {g cap : Nat} {d : Array Ht} (h : Own w (.slice (some ⟨g, 0, none⟩) d.size cap) d) {i j : Nat} (hi : i < d.size) (hj : j < d.size) :
    Calls Tryz.prog 153 #[.slice (some ⟨g, 0, none⟩) d.size cap, .int .i64 i, .int .i64 j] w fun e w' => e = .returned (.bool (hlt d[j]! d[i]!)) ∧ Gw w w' :=
  less73_c g d.size cap i j hi hj _ _ w (own_cell h hi) (own_cell h hj)

theorem set_drew (w : World) (a : Addr) (v : Value) : (w.setCell a v).drew = w.drew.setCell a v := rfl
theorem drew_one (w : World) : w.drew = w.drewN 1 := rfl
set_option maxHeartbeats 2000000 in
theorem swap74_c (g n cap i j : Nat) (hi : i < n) (hj : j < n) (hne : i ≠ j) (x y : Ht) (w : World) (hf : ∀ o, w.frozen? ⟨g, o, none⟩ = false)
    (hx : w.cell? ⟨g, i * 3, none⟩ = some (.int .i64 x.id) ∧ w.cell? ⟨g, i * 3 + 1, none⟩ = some (.int .u64 x.hi) ∧ w.cell? ⟨g, i * 3 + 2, none⟩ = some (.int .u64 x.lo))
    (hy : w.cell? ⟨g, j * 3, none⟩ = some (.int .i64 y.id) ∧ w.cell? ⟨g, j * 3 + 1, none⟩ = some (.int .u64 y.hi) ∧ w.cell? ⟨g, j * 3 + 2, none⟩ = some (.int .u64 y.lo)) :
    Calls Tryz.prog 154 #[.slice (some ⟨g, 0, none⟩) n cap, .int .i64 i, .int .i64 j] w fun e w' => e = .returned (.tuple #[]) ∧ ∃ q, w' = ((w.drewN q).setCells g (i * 3) (enc y)).setCells g (j * 3) (enc x) := by
  obtain ⟨x0, x1, x2⟩ := hx
  obtain ⟨y0, y1, y2⟩ := hy
  have i0 : (0 : Int) ≤ (i : Int) := by omega
  have i1 : (i : Int) < (n : Int) := by omega
  have j0 : (0 : Int) ≤ (j : Int) := by omega
  have j1 : (j : Int) < (n : Int) := by omega
  have f0 := hf (i * 3); have f1 := hf (i * 3 + 1); have f2 := hf (i * 3 + 2)
  have k0 := hf (j * 3); have k1 := hf (j * 3 + 1); have k2 := hf (j * 3 + 2)
  clear hf
  go_enter Tryz.func154, Tryz.ntmps154
  go_wp2
  go_region
  go_end0
  refine ⟨rfl, 1, ?_⟩
  rw [← drew_one]
  simp only [enc, World.setCells, set_drew, Nat.add_assoc]
theorem swap74 {w : World} {g cap : Nat} {d : Array Ht} (h : Own w (.slice (some ⟨g, 0, none⟩) d.size cap) d) {i j : Nat} (hi : i < d.size) (hj : j < d.size) (hne : i ≠ j) :
    Calls Tryz.prog 154 #[.slice (some ⟨g, 0, none⟩) d.size cap, .int .i64 i, .int .i64 j] w fun e w' => e = .returned (.tuple #[]) ∧ Own w' (.slice (some ⟨g, 0, none⟩) d.size cap) (swp d i j) ∧ Kp (fun k => k = g) w w' := by
  refine (swap74_c g d.size cap i j hi hj hne d[i]! d[j]! w (own_froz h) (own_cell h hi) (own_cell h hj)).mono ?_
  rintro e w' ⟨rfl, q, rfl⟩
  have hw := swap_worldK enc 3 enc_len w 0 q g 0 d i j hi hj
  rw [Nat.zero_add, Nat.zero_add, Nat.zero_add, ahead_zero, putRowK_self enc 3 w g 0 d (own_holds h)] at hw
  rw [hw]
  exact ⟨rfl, own_put h q _ (size_swp d i j), Kp.put w _⟩

theorem info57 : ∃ i z, Tryz.prog.info? 57 = some i ∧ i.zero = some z ∧ i.size = 3 ∧ i.bytes = 24 ∧ z.cells.size = 3 := by
  obtain ⟨i, hi⟩ := Option.isSome_iff_exists.1 (show (Tryz.prog.info? 57).isSome = true by kernel_rfl)
  refine ⟨i, .agg #[.int .i64 0, .int .u64 0, .int .u64 0], hi, ?_, ?_, ?_, rfl⟩
  · have h : (Tryz.prog.info? 57).map (·.zero) = some (some (.agg #[.int .i64 0, .int .u64 0, .int .u64 0])) := by kernel_rfl
    rw [hi] at h; simpa using h
  · have h : (Tryz.prog.info? 57).map (·.size) = some 3 := by kernel_rfl
    rw [hi] at h; simpa using h
  · have h : (Tryz.prog.info? 57).map (·.bytes) = some 24 := by kernel_rfl
    rw [hi] at h; simpa using h

end Go.Proofs.YteaeaoekaoedoaaGreat.Tk
