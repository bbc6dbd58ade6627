/- The reference's Wide and Add, as contracts. -/
import Derived.Test.YtblfmhdcgmkpgaaRLess
namespace Go.Proofs.Ytblfmhdcgmkpgaa
open Go.RowKit

set_option maxHeartbeats 2000000 in
theorem wide_any (n : Nat) (hn : n < 340282366920938463463374607431768211456) (o : Bool) (w : World) :
    Calls Try.prog 59 #[Nm n o] w fun e w' => e = .returned (Wd n) ∧ Gr w w' := by
  have n0 := ((NumAt.new w n o 79).call ((Gr.refl _).alloc #[.int .u64 0, .int .u64 0] 51)).call ((Gr.refl _).alloc #[.int .u64 0, .int .u64 0] 51)
  go_enter Try.func59, Try.ntmps59
  go_wp2
  go_loopw [4] (fun iv w' => ∃ z : Int, ∃ k x y : Nat, iv = .int .i64 z ∧ z = (k : Int) - 1 ∧ k ≤ 4 ∧ Hid (x = n / 18446744073709551616 / 65536 ^ k ∧ y = n % 18446744073709551616 / 65536 ^ k) ∧ Gr (((w.alloc (.cells #[.int .i64 (dd n 0), .int .i64 (dd n 1), .int .i64 (dd n 2), .int .i64 (dd n 3), .int .i64 (dd n 4), .int .i64 (dd n 5), .int .i64 (dd n 6), .int .i64 (dd n 7), .bool o] 79)).alloc (.cells #[.int .u64 0, .int .u64 0] 51))) w' ∧ NumAt w' w.heap.size n o ∧ w'.cell? ⟨w.heap.size + 1 + 1, 0, none⟩ = some (.int .u64 (x : Int)) ∧ w'.cell? ⟨w.heap.size + 1 + 1, 1, none⟩ = some (.int .u64 (y : Int)) ∧ w'.frozen? ⟨w.heap.size + 1 + 1, 0, none⟩ = false ∧ w'.frozen? ⟨w.heap.size + 1 + 1, 1, none⟩ = false) (fun iv _ => (intOf iv + 1).toNat)
  case atStart =>
    refine ⟨3, 4, 0, 0, rfl, by omega, by omega, ?_, (Gr.refl _).alloc _ _, n0, by simp [go_sem], by simp [go_sem], by simp [go_sem], by simp [go_sem]⟩
    show 0 = n / 18446744073709551616 / 65536 ^ 4 ∧ 0 = n % 18446744073709551616 / 65536 ^ 4
    simp only [Nat.reducePow]; omega
  case round =>
    clear n0
    obtain ⟨z, k, x, y, rfl, hz, hk, X, hG, hN, c0, c1, f0, f1⟩ := hrel
    cases k with
    | zero =>
      have hz' : z < 0 := by omega
      have E : Hid ((x : Int) = hi n ∧ (y : Int) = lo n) := by
        have := X.out
        simp at this
        obtain ⟨h1, h2⟩ := this
        subst h1 h2; exact ⟨rfl, rfl⟩
      have V := hG.var2
      simp only [World.size_alloc] at V
      obtain ⟨v0, v1, v2, v3⟩ := V
      clear hz X hN
      go_wp2
      refine bodyPost_ret (v := Wd n) ?_ rfl ⟨rfl, ?_⟩
      · rw [Wd, ← E.out.1, ← E.out.2]; simp [results, Try.results59, go_sem, v0, v1]
      · exact (((((Gr.refl _).alloc _ _).alloc _ _).trans hG).setCell (by simp) _).setCell (by simp) _
    | succ t =>
      have hzt : z = (t : Int) := by omega
      subst hzt
      obtain ⟨e, he, he1, he2⟩ := dd_nat n t
      obtain ⟨f, hf, hf1, hf2⟩ := dd_nat n (4 + t)
      have ca := hN.d t (by omega)
      have cb := hN.d (4 + t) (by omega)
      rw [he] at ca; rw [hf] at cb
      have hnb : w.heap.size + 1 + 1 ≠ w.heap.size := by omega
      have hx : x < 281474976710656 ∧ y < 281474976710656 := by
        obtain ⟨h1, h2⟩ := X.out
        have ht : t = 0 ∨ t = 1 ∨ t = 2 ∨ t = 3 := by omega
        rcases ht with rfl | rfl | rfl | rfl <;> (simp only [Nat.reduceAdd, Nat.reducePow] at h1 h2; omega)
      obtain ⟨x1, y1⟩ := hx
      have X' : Hid (65536 * x + f = n / 18446744073709551616 / 65536 ^ t ∧ 65536 * y + e = n % 18446744073709551616 / 65536 ^ t) := by
        obtain ⟨h1, h2⟩ := X.out
        have ht : t = 0 ∨ t = 1 ∨ t = 2 ∨ t = 3 := by omega
        unfold Hid
        rcases ht with rfl | rfl | rfl | rfl <;> (simp only [Nat.reduceAdd, Nat.reducePow] at *; omega)
      clear he he2 hf hf2 X hz
      go_wp2
      go_region
      go_wp2
      go_region
      go_wp2
      refine ⟨⟨(t : Int) - 1, t, 65536 * x + f, 65536 * y + e, by go_num, rfl, by omega, X', ?_, ?_, ?_, ?_, ?_, ?_⟩, by simp [intOf]⟩
      · exact (((hG.setCell (by simp) _).drew.setCell (by simp) _).drew)
      · exact ((hN.far _ _ hnb _).far _ _ hnb _).call ((Gr.refl _).drew.drew)
      · simp [go_sem, c0]
      · simp [go_sem, c1]
      · simp [go_sem, f0]
      · simp [go_sem, f1]

end Go.Proofs.Ytblfmhdcgmkpgaa
