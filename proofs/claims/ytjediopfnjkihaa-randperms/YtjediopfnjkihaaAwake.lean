/- The document's examples; no source. -/
import Derived.Test.YtjediopfnjkihaaBelow
import Derived.KernelRfl
namespace Go.Proofs.Ytjediopfnjkihaa
open Go.RowKit Go.Shelf

set_option maxHeartbeats 400000 in
theorem perm_nil (n : Int) (w : World) :
    Calls Try.prog 6 #[.pointer none, .int .i64 n] w fun e w' => e = .returned (.tuple #[.slice none 0 0, .int .i64 3]) ∧ w = w' := by
  refine (callsIn_wide (n := 4)).1 ?_
  refine callsIn_of_wp_marks Try.func6 rfl trivial ?_ rfl
  simp only [Try.ntmps6, List.size_toArray, List.length_cons, List.length_nil, Nat.reduceAdd, Nat.reduceSub, Array.replicate_succ, Array.replicate_zero, List.push_toArray, List.append_toArray, List.nil_append, List.cons_append]
  gi_wp2_with (refine ⟨trivial, ?_⟩; gi_at_call 10; refine (callsIn_wide.2 (check_nil _ _ _ _)).mono ?_; rintro e w1 ⟨rfl, rfl⟩)
  exact ⟨.tuple #[.slice none 0 0, .int .i64 3], by simp [results, Try.results6, go_sem], rfl, rfl⟩

theorem mx1 : mx (stp 0) = 16294208416658607535 := by kernel_rfl
theorem mx2 : mx (stp (stp 0)) = 7960286522194355700 := by kernel_rfl
theorem st1 : stp 0 = 11400714819323198485 := by kernel_rfl

theorem grown_trans {a b c : World} {r : Nat} {q : Option Nat} (h : a.grownBy b q) (k : b.grownBy c (some r)) (hr : q = some r ∨ a.heap.size ≤ r) : a.grownBy c q :=
  ⟨k.os.trans h.os, k.tape.trans h.tape, k.output.trans h.output, Nat.le_trans h.size k.size, fun i hi hn => (k.block i (Nat.lt_of_lt_of_le hi h.size) (fun e => by
    rcases hr with hr | hr
    · exact hn (by rw [e, hr])
    · cases e; omega)).trans (h.block i hi hn)⟩

set_option maxHeartbeats 1000000 in
theorem awake_c (w : World) : Calls Try.prog 7 #[] w fun e w' => e = .returned (.bool true) ∧ w.grownBy w' none := by
  obtain ⟨V, hV⟩ : ∃ V, (w.alloc (.cells #[.int .u64 0] 36)).alloc (.cells #[.int .u64 0] 36) = V := ⟨_, rfl⟩
  have hs : w.heap.size + 2 = V.heap.size := by rw [← hV]; simp
  have bS0 : Boxed (w.alloc (.cells #[.int .u64 0] 36)) w.heap.size 36 (.int .u64 0) := Boxed.new w _ _
  have bS : Boxed V w.heap.size 36 (.int .u64 0) := by rw [← hV]; exact bS0.alloc _
  have bT : Boxed V (w.heap.size + 1) 36 (.int .u64 0) := by
    rw [← hV]; have := Boxed.new (w.alloc (.cells #[.int .u64 0] 36)) 36 (.int .u64 0); rwa [World.size_alloc] at this
  have gV : w.grownBy V none := by rw [← hV]; exact grownBy_al (grownBy_al (grownBy_refl _ _) _) _
  have hcl := clone_c w.heap.size 0 _ bS0
  rw [World.size_alloc] at hcl
  have h1 := next_c w.heap.size 0 V bS ⟨by decide, by decide⟩
  rw [mx1] at h1
  have h2 := fun W hW => next_c w.heap.size (stp 0) W hW (u_stp 0)
  rw [mx2] at h2
  have h3 := fun W hW => below_ok (w.heap.size + 1) 0 10 W hW ⟨by decide, by decide⟩ ⟨by decide, by decide⟩
  have h4 := fun W => below_no (w.heap.size + 1) 0 W (by decide)
  have h5 := fun W hW => below_ok (w.heap.size + 1) (stp 0) 7 W hW (u_stp 0) ⟨by decide, by decide⟩
  simp only [mx1, mx2, show (16294208416658607535 : Int) % 10 = 5 by decide, show (7960286522194355700 : Int) % 7 = 1 by decide] at h3 h5
  have n1 : some (w.heap.size + 1) ≠ some w.heap.size := by simp
  go_enter Try.func7, Try.ntmps7
  go_wp2_with fail
  refine (new_c _ _).mono ?_
  rintro e w1 ⟨rfl, rfl⟩
  go_wp2_with fail
  refine hcl.mono ?_
  rintro e w2 ⟨rfl, rfl⟩
  rw [hV]
  clear hcl bS0 hV
  go_wp2_with fail
  refine h1.mono ?_
  rintro e w3 ⟨rfl, b3, g3⟩
  clear h1 bS
  replace bT := bT.kept g3 n1
  replace gV := grown_trans gV g3 (.inr (Nat.le_refl _))
  clear g3 hs
  go_wp2_with fail
  refine (h2 w3 b3).mono ?_
  rintro e w4 ⟨rfl, b4, g4⟩
  clear h2 b3
  replace bT := bT.kept g4 n1
  replace gV := grown_trans gV g4 (.inr (Nat.le_refl _))
  clear g4 b4
  go_wp2_with fail
  refine (h3 w4 bT).mono ?_
  rintro e w5 ⟨rfl, b5, g5⟩
  clear h3 bT
  replace gV := grown_trans gV g5 (.inr (by omega))
  clear g5
  go_wp2_with fail
  refine (h4 w5).mono ?_
  rintro e w6 ⟨rfl, rfl⟩
  clear h4
  go_wp2_with fail
  refine (h5 w5 b5).mono ?_
  rintro e w7 ⟨rfl, b7, g7⟩
  clear h5 b5
  replace gV := grown_trans gV g7 (.inr (by omega))
  clear g7 b7
  go_wp2
  go_ret
  exact ⟨rfl, gV⟩

end Go.Proofs.Ytjediopfnjkihaa
