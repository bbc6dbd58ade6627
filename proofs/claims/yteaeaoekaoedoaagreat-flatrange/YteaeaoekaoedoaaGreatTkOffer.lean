/- The heap's own calls: New, Len, Full, Worst, Offer. -/
import Derived.Test.YteaeaoekaoedoaaGreatTkFix
import Derived.BigQuiet
namespace Go.Proofs.YteaeaoekaoedoaaGreat.Tk
open Go.RowKit Go.Sort
attribute [local go_sem ↓] Go.wp_at_zero Go.wp_at_succ

set_option maxHeartbeats 1000000 in
theorem new_lo (k : Int) (hk : k < 1) (w : World) : Calls Tryz.prog 54 #[.int .i64 k] w fun e w' => e = .returned (.tuple #[.pointer none, .int .i64 1]) ∧ w' = w := by
  go_enter Tryz.func54, Tryz.ntmps54
  go_wp2
  go_ret2
  exact ⟨rfl, rfl⟩
set_option maxHeartbeats 1000000 in
theorem new_hi (k : Int) (hk : 64 < k) (w : World) : Calls Tryz.prog 54 #[.int .i64 k] w fun e w' => e = .returned (.tuple #[.pointer none, .int .i64 1]) ∧ w' = w := by
  have h0 : ¬ k < 1 := by omega
  go_enter Tryz.func54, Tryz.ntmps54
  go_wp2
  go_ret2
  exact ⟨rfl, rfl⟩
set_option maxHeartbeats 1000000 in
theorem new_ok (k : Int) (h1 : 1 ≤ k) (h2 : k ≤ 64) (w : World) : Calls Tryz.prog 54 #[.int .i64 k] w fun e w' => e = .returned (.tuple #[.pointer (some ⟨w.heap.size, 0, none⟩), .int .i64 0]) ∧ w' = w.alloc (.cells #[.int .i64 k, .slice none 0 0] 113) := by
  have h0 : ¬ k < 1 := by omega
  have h3 : ¬ 64 < k := by omega
  go_enter Tryz.func54, Tryz.ntmps54
  go_wp2
  go_ret2
  exact ⟨rfl, rfl⟩
theorem new_hp (k : Int) (w : World) : Hp (w.alloc (.cells #[.int .i64 k, .slice none 0 0] 113)) w.heap.size k (.slice none 0 0) #[] :=
  ⟨heap_alloc_new w _, own_nil _, by simp [Value.ownBlock]⟩

theorem Hp.form {w : World} {hb : Nat} {k : Int} {v : Value} {d : Array Ht} (h : Hp w hb k v d) : ∃ a cap, v = .slice a d.size cap := by
  rcases h.own.2 with ⟨rfl, h0⟩ | ⟨g, cap, cur, rfl, _⟩
  · exact ⟨none, 0, by rw [h0]⟩
  · exact ⟨_, _, rfl⟩

set_option maxHeartbeats 1000000 in
theorem len17 {w : World} {hb : Nat} {k : Int} {v : Value} {d : Array Ht} (h : Hp w hb k v d) : Calls Tryz.prog 98 #[.pointer (some ⟨hb, 0, none⟩)] w fun e w' => e = .returned (.int .i64 (d.size : Nat)) ∧ w' = w := by
  have c1 := h.cell1
  obtain ⟨a, cap, rfl⟩ := h.form
  clear h
  generalize d.size = n at c1 ⊢
  go_enter Tryz.func98, Tryz.ntmps98
  go_wp2
  go_ret
  exact ⟨rfl, rfl⟩
theorem len17_nil (w : World) : Calls Tryz.prog 98 #[.pointer none] w fun e w' => e = .returned (.int .i64 0) ∧ w' = w := by
  go_enter Tryz.func98, Tryz.ntmps98
  go_wp2
  go_ret
  exact ⟨rfl, rfl⟩

set_option maxHeartbeats 1000000 in
theorem worst15_none (p : Value) (w : World) (hl : ∀ W, Gr w W → Calls Tryz.prog 98 #[p] W fun e w' => e = .returned (.int .i64 0) ∧ w' = W) :
    Calls Tryz.prog 77 #[p] w fun e w' => e = .returned (.tuple #[hv ⟨0, 0, 0⟩, .bool false]) ∧ Gr w w' := by
  go_enter Tryz.func77, Tryz.ntmps77
  go_wp2_with fail
  refine (hl _ (by go_grown)).mono ?_
  rintro e w' ⟨rfl, rfl⟩
  clear hl
  go_wp2
  refine bodyPost_ret (v := .tuple #[hv ⟨0, 0, 0⟩, .bool false]) (by simp [results, Tryz.results77, go_sem]) rfl ?_
  exact ⟨rfl, by go_grown⟩

set_option maxHeartbeats 1000000 in
theorem worst15 {w : World} {hb : Nat} {k : Int} {v : Value} {d : Array Ht} (h : Hp w hb k v d) (hd : 0 < d.size) (hn : d.size ≤ 4000) : Calls Tryz.prog 77 #[.pointer (some ⟨hb, 0, none⟩)] w fun e w' => e = .returned (.tuple #[hv d[0]!, .bool true]) ∧ Gr w w' := by
  obtain ⟨g, cap, cur, rfl, _⟩ := own_form h.own hd
  have hA : Hid (Hp (w.alloc (.cells #[.int .i64 0, .int .u64 0, .int .u64 0] 57)) hb k (.slice (some ⟨g, 0, none⟩) d.size cap) d) := h.gr (by go_grown)
  have hl := len17 hA.out
  have c1 := hA.out.cell1
  have cc := own_cell hA.out.own hd
  rw [Nat.zero_mul] at cc
  obtain ⟨x0, x1, x2⟩ := cc
  generalize d[0]! = x at *
  obtain ⟨n, hN⟩ : ∃ n, n = d.size := ⟨_, rfl⟩
  rw [← hN] at *
  clear h hN hA
  go_enter Tryz.func77, Tryz.ntmps77
  go_wp2_with fail
  refine hl.mono ?_
  rintro e w' ⟨rfl, rfl⟩
  clear hl
  go_wp2
  refine bodyPost_ret (v := .tuple #[hv x, .bool true]) (by simp [results, Tryz.results77, go_sem]) rfl ?_
  exact ⟨rfl, by go_grown⟩
end Go.Proofs.YteaeaoekaoedoaaGreat.Tk
