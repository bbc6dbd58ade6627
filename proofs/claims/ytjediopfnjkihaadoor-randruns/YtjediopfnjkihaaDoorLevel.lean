/- Level. -/
import Derived.Test.YtjediopfnjkihaaDoorAwake
import Derived.Shelf.Lay
import Derived.Ground.Names7Prog
import Derived.Shelf.Spec.TrailingZeros
namespace Go.Proofs.YtjediopfnjkihaaDoor
open Go.RowKit Go.Shelf
shelf_lay Lays7.n29 Nm7 29 at Tryd as Tryd.laysTz

/-- The library's table, in its variable. -/
abbrev Tab (w : World) : Prop := TabAt 0 Lib.deBruijn64tab w
/-- How many noughts stand at the lower end. -/
def lz (z : Int) : Int := (Lib.ctz 64 z.toNat : Int)
theorem tz_c (z : Int) (w : World) (h : U z) (hT : Tab w) : Calls Tryd.prog 23 #[.int .u64 z] w fun e w' => e = .returned (.int .i64 (lz z)) ∧ w = w' := by
  have e1 : ((z.toNat : Nat) : Int) = z := Int.toNat_of_nonneg h.1
  have := Any7.bits_TrailingZeros64 Tryd.laysTz z.toNat (by have := h.2; omega) w (fun _ => hT)
  change Calls Tryd.prog 23 _ _ _ at this
  rw [e1] at this
  exact this.mono fun e w' ⟨h1, h2⟩ => ⟨h1, h2.symm⟩

set_option maxHeartbeats 400000 in
theorem level_no (b : Nat) (n : Int) (w : World) (h : ¬ ckOk n 0 30) :
    Calls Tryd.prog 13 #[.pointer (some ⟨b, 0, none⟩), .int .i64 n] w fun e w' => e = .returned (.tuple #[.int .i64 0, .int .i64 1]) ∧ w = w' := by
  have hck := check_c ⟨b, 0, none⟩ n 0 30 w
  rw [ckE_no h] at hck
  clear h
  go_enter Tryd.func13, Tryd.ntmps13
  go_wp2_with (go_at_call 20; refine hck.mono ?_; rintro e w1 ⟨rfl, rfl⟩)
  exact bodyPost_ret (v := .tuple #[.int .i64 0, .int .i64 1]) (by simp [results, Tryd.results13, go_sem]) rfl ⟨rfl, rfl⟩
theorem lz_range (z : Int) (h : U z) : 0 ≤ lz z ∧ lz z ≤ 64 := by
  refine ⟨Int.natCast_nonneg _, ?_⟩
  unfold lz Lib.ctz
  split
  · simp
  · rename_i h0
    obtain ⟨_, _, hk⟩ := Lib.ctzFrom_spec 64 z.toNat (by omega) (by have := h.1; have := h.2; omega)
    omega
theorem tab_kept {w w' : World} {b : Nat} (h : Tab w) (g : w.grownBy w' (some b)) (hb : 0 < b) (hw : 0 < w.heap.size) : Tab w' := by
  intro j hj
  have := h j hj
  rw [World.cell?_of_block (w := w) (w' := w')]
  · exact this
  · exact g.block 0 hw (by simp; omega)
set_option maxHeartbeats 400000 in
theorem level_ok (b : Nat) (x n : Int) (w : World) (hb : Boxed w b 46 (.int .u64 x)) (hx : U x) (h : ckOk n 0 30) (hT : Tab w) (h0 : 0 < b) :
    Calls Tryd.prog 13 #[.pointer (some ⟨b, 0, none⟩), .int .i64 n] w fun e w' => e = .returned (.tuple #[.int .i64 (min (lz (mx (stp x)) / 2) n), .int .i64 0]) ∧ Boxed w' b 46 (.int .u64 (stp x)) ∧ w.grownBy w' (some b) := by
  have hbl := hb.lt
  have hck := check_c ⟨b, 0, none⟩ n 0 30 w
  rw [ckE_ok h] at hck
  have hn := next_c b x w hb hx
  have hr := fun W hW => tz_c (mx (stp x)) W (u_mx _) hW
  have hz := lz_range (mx (stp x)) (u_mx _)
  generalize lz (mx (stp x)) = q at *
  generalize mx (stp x) = z at *
  obtain ⟨k1, k2⟩ := h
  obtain ⟨z1, z2⟩ := hz
  have hT' : ∀ w', w.grownBy w' (some b) → Tab w' := fun w' g => tab_kept hT g h0 (by omega)
  clear hT
  go_enter Tryd.func13, Tryd.ntmps13
  go_wp2_with first | (go_at_call 20; refine hck.mono ?_; rintro e w1 ⟨rfl, rfl⟩) | (go_at_call 12; refine hn.mono ?_; rintro e w2 ⟨rfl, hb2, g2⟩) | (go_at_call 23; refine (hr _ (hT' _ g2)).mono ?_; rintro e w3 ⟨rfl, rfl⟩)
  · exact bodyPost_ret (v := .tuple #[.int .i64 (min (q / 2) n), .int .i64 0]) (by rw [Int.min_eq_right (by omega)]; simp [results, Tryd.results13, go_sem]) rfl ⟨rfl, hb2, g2⟩
  · exact bodyPost_ret (v := .tuple #[.int .i64 (min (q / 2) n), .int .i64 0]) (by rw [Int.min_eq_left (by omega)]; simp [results, Tryd.results13, go_sem]) rfl ⟨rfl, hb2, g2⟩

end Go.Proofs.YtjediopfnjkihaaDoor
