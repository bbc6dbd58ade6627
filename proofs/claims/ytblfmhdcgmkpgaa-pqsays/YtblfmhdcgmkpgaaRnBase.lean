/- The source's state and what it draws: the plain functions of layer 4, and the calls that touch no state. -/
import Derived.Test.YtblfmhdcgmkpgaaProg
import Derived.RangeFuncNested
import Derived.RangeFuncBound
import Derived.RangeFuncCalls
import Derived.RangeFuncLeaves
import Derived.Shelf.Abstract
import Derived.Shelf.RegionOpen
import Derived.WalkKit
import Derived.OwnWalkIn
import Derived.TacticsInMore
import Derived.LoopNIn
import Derived.LoopIn
namespace Go.Proofs.Ytblfmhdcgmkpgaa.Rn
open Go.RowKit Go.Shelf

/-- A number of 64 bits. -/
abbrev U (z : Int) : Prop := 0 ≤ z ∧ z < 18446744073709551616
theorem u_wrap (z : Int) : U (IntKind.u64.wrap z) := by
  rw [IntKind.wrap_u64]; exact ⟨Int.emod_nonneg _ (by decide), Int.emod_lt_of_pos _ (by decide)⟩
theorem u_bits (o : BinOp) (x y : Int) : U (bits o .u64 x y) := by
  unfold bits; exact u_wrap _
/-- P4.1: what a state becomes, and the number that it tells. -/
def stp (x : Int) : Int := IntKind.u64.wrap (x + 11400714819323198485)
def sh (z m c : Int) : Int := IntKind.u64.wrap (bits .xor .u64 z (z / m) * c)
def mx0 (z : Int) : Int := bits .xor .u64 z (z / 2147483648)
def mx (z : Int) : Int := mx0 (sh (sh z 1073741824 13787848793156543929) 134217728 10723151780598845931)
theorem u_stp (x : Int) : U (stp x) := u_wrap _
theorem u_mx (z : Int) : U (mx z) := by unfold mx mx0; exact u_bits _ _ _
/-- The state behind k draws. -/
def stN (x : Int) : Nat → Int
  | 0 => x
  | k + 1 => stp (stN x k)
theorem stN_succ (x : Int) (k : Nat) : stN x (k + 1) = IntKind.u64.wrap (stN x k + 11400714819323198485) := rfl
theorem stN_stp (x : Int) : ∀ k, stN (stp x) k = stN x (k + 1)
  | 0 => rfl
  | k + 1 => by show stp (stN (stp x) k) = _; rw [stN_stp x k]; rfl
theorem u_stN {x : Int} (h : U x) : ∀ k, U (stN x k)
  | 0 => h
  | _ + 1 => u_stp _

set_option maxHeartbeats 400000 in
theorem mix_c (z : Int) (w : World) (h : U z) :
    Calls Try.prog 89 #[.int .u64 z] w fun e w' => e = .returned (.int .u64 (mx z)) ∧ w = w' := by
  obtain ⟨h0, h1⟩ := h
  go_enter Try.func89, Try.ntmps89
  go_wp2
  go_ret
  exact ⟨rfl, rfl⟩
set_option maxHeartbeats 400000 in
theorem rest_c (z n : Int) (w : World) (h : U z) (hn : 1 ≤ n) (hm : n ≤ 1000000000) :
    Calls Try.prog 85 #[.int .u64 z, .int .i64 n] w fun e w' => e = .returned (.int .i64 (z % n)) ∧ w = w' := by
  obtain ⟨h0, h1⟩ := h
  have e1 : wrap64 (z % n) = z % n := by
    have := Int.emod_nonneg z (b := n) (by omega)
    have := Int.emod_lt_of_pos z (b := n) (by omega)
    simp only [wrap64]; omega
  go_enter Try.func85, Try.ntmps85
  go_wp2
  go_ret
  exact ⟨by simp [e1], rfl⟩
set_option maxHeartbeats 400000 in
theorem new_c (x : Int) (w : World) :
    Calls Try.prog 75 #[.int .u64 x] w fun e w' => e = .returned (.pointer (some ⟨w.heap.size, 0, none⟩)) ∧ w' = w.alloc (.cells #[.int .u64 x] 115) := by
  go_enter Try.func75, Try.ntmps75
  go_wp2
  go_ret
  exact ⟨rfl, rfl⟩
set_option maxHeartbeats 400000 in
theorem draws_c (p : Option Addr) (k : Int) (w : World) :
    Calls Try.prog 84 #[.pointer p, .int .i64 k] w fun e w' => e = .returned (.func (.func 88) #[] #[.pointer (some ⟨w.heap.size, 0, none⟩), .pointer (some ⟨w.heap.size + 1, 0, none⟩)]) ∧ w' = (w.alloc (.cells #[.pointer p] 109)).alloc (.cells #[.int .i64 k] 3) := by
  go_enter Try.func84, Try.ntmps84
  go_wp2
  go_ret
  exact ⟨rfl, rfl⟩

/-- What keeps a source from drawing for n. -/
def ckE (n lo hi : Int) : Int := if n < lo ∨ hi < n then 1 else 0
set_option maxHeartbeats 400000 in
theorem check_nil (n lo hi : Int) (w : World) :
    Calls Try.prog 82 #[.pointer none, .int .i64 n, .int .i64 lo, .int .i64 hi] w fun e w' => e = .returned (.int .i64 3) ∧ w = w' := by
  go_enter Try.func82, Try.ntmps82
  go_wp2
  go_ret
  exact ⟨rfl, rfl⟩
set_option maxHeartbeats 400000 in
theorem check_c (a : Addr) (n lo hi : Int) (w : World) :
    Calls Try.prog 82 #[.pointer (some a), .int .i64 n, .int .i64 lo, .int .i64 hi] w fun e w' => e = .returned (.int .i64 (ckE n lo hi)) ∧ w = w' := by
  unfold ckE
  by_cases h1 : n < lo
  · rw [if_pos (.inl h1)]
    go_enter Try.func82, Try.ntmps82
    go_wp2
    go_ret
    exact ⟨rfl, rfl⟩
  · by_cases h2 : hi < n
    · rw [if_pos (.inr h2)]
      go_enter Try.func82, Try.ntmps82
      go_wp2
      go_ret
      exact ⟨rfl, rfl⟩
    · rw [if_neg (by omega)]
      go_enter Try.func82, Try.ntmps82
      go_wp2
      go_ret
      exact ⟨rfl, rfl⟩

end Go.Proofs.Ytblfmhdcgmkpgaa.Rn
