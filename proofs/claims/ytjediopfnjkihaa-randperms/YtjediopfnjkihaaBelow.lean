/- Below, and the calls on no source. -/
import Derived.Test.YtjediopfnjkihaaNext
namespace Go.Proofs.Ytjediopfnjkihaa
open Go.RowKit Go.Shelf

set_option maxHeartbeats 400000 in
theorem below_nil (n : Int) (w : World) :
    Calls Try.prog 14 #[.pointer none, .int .i64 n] w fun e w' => e = .returned (.tuple #[.int .i64 0, .int .i64 3]) ∧ w = w' := by
  go_enter Try.func14, Try.ntmps14
  go_wp2_with (go_at_call 10; refine (check_nil _ _ _ _).mono ?_; rintro e w1 ⟨rfl, rfl⟩)
  exact bodyPost_ret (v := .tuple #[.int .i64 0, .int .i64 3]) (by simp [results, Try.results14, go_sem]) rfl ⟨rfl, rfl⟩
/-- P4.2. -/
abbrev ckOk (n lo hi : Int) : Prop := lo ≤ n ∧ n ≤ hi
theorem ckE_ok {n lo hi : Int} (h : ckOk n lo hi) : ckE n lo hi = 0 := if_neg (by have := h.1; have := h.2; omega)
theorem ckE_no {n lo hi : Int} (h : ¬ ckOk n lo hi) : ckE n lo hi = 1 := if_pos (by omega)
set_option maxHeartbeats 400000 in
theorem below_no (b : Nat) (n : Int) (w : World) (h : ¬ ckOk n 1 1000000000) :
    Calls Try.prog 14 #[.pointer (some ⟨b, 0, none⟩), .int .i64 n] w fun e w' => e = .returned (.tuple #[.int .i64 0, .int .i64 1]) ∧ w = w' := by
  have hck := check_c ⟨b, 0, none⟩ n 1 1000000000 w
  rw [ckE_no h] at hck
  clear h
  go_enter Try.func14, Try.ntmps14
  go_wp2_with (go_at_call 10; refine hck.mono ?_; rintro e w1 ⟨rfl, rfl⟩)
  exact bodyPost_ret (v := .tuple #[.int .i64 0, .int .i64 1]) (by simp [results, Try.results14, go_sem]) rfl ⟨rfl, rfl⟩
set_option maxHeartbeats 400000 in
theorem below_ok (b : Nat) (x n : Int) (w : World) (hb : Boxed w b 36 (.int .u64 x)) (hx : U x) (h : ckOk n 1 1000000000) :
    Calls Try.prog 14 #[.pointer (some ⟨b, 0, none⟩), .int .i64 n] w fun e w' => e = .returned (.tuple #[.int .i64 (mx (stp x) % n), .int .i64 0]) ∧ Boxed w' b 36 (.int .u64 (stp x)) ∧ w.grownBy w' (some b) := by
  have hck := check_c ⟨b, 0, none⟩ n 1 1000000000 w
  rw [ckE_ok h] at hck
  have hn := next_c b x w hb hx
  have hr := fun W => rest_c (mx (stp x)) n W (u_mx _) h.1 h.2
  generalize mx (stp x) = z at *
  clear h
  go_enter Try.func14, Try.ntmps14
  go_wp2_with first | (go_at_call 10; refine hck.mono ?_; rintro e w1 ⟨rfl, rfl⟩) | (go_at_call 8; refine hn.mono ?_; rintro e w2 ⟨rfl, hb2, g2⟩) | (go_at_call 13; refine (hr _).mono ?_; rintro e w3 ⟨rfl, rfl⟩)
  exact bodyPost_ret (v := .tuple #[.int .i64 (z % n), .int .i64 0]) (by simp [results, Try.results14, go_sem]) rfl ⟨rfl, hb2, g2⟩
/-- P4.2 in one. -/
def belV (x n : Int) : Int := if ckOk n 1 1000000000 then mx (stp x) % n else 0
def belS (x n : Int) : Int := if ckOk n 1 1000000000 then stp x else x
theorem below_c (b : Nat) (x n : Int) (w : World) (hb : Boxed w b 36 (.int .u64 x)) (hx : U x) :
    Calls Try.prog 14 #[.pointer (some ⟨b, 0, none⟩), .int .i64 n] w fun e w' => e = .returned (.tuple #[.int .i64 (belV x n), .int .i64 (ckE n 1 1000000000)]) ∧ Boxed w' b 36 (.int .u64 (belS x n)) ∧ w.grownBy w' (some b) := by
  by_cases h : ckOk n 1 1000000000
  · rw [belV, belS, if_pos h, if_pos h, ckE_ok h]; exact below_ok b x n w hb hx h
  · rw [belV, belS, if_neg h, if_neg h, ckE_no h]
    refine (below_no b n w h).mono ?_
    rintro e w' ⟨rfl, rfl⟩
    exact ⟨rfl, hb, grownBy_refl _ _⟩
theorem u_belS {x n : Int} (h : U x) : U (belS x n) := by
  unfold belS; split
  · exact u_stp _
  · exact h

end Go.Proofs.Ytjediopfnjkihaa
