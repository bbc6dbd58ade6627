/- wide.withDigit where the number is too great. -/
import Derived.Test.YtlckjohmllagoaaForm
namespace Go.Proofs.Ytlckjohmllagoaa
open Go.RowKit

set_option maxHeartbeats 2000000 in
theorem withDigit_noB (a d : Nat) (ha : a < 340282366920938463463374607431768211456) (h1 : a / 18446744073709551616 * 10 < 18446744073709551616) (h : 340282366920938463463374607431768211456 ≤ 10 * a) (w : World) :
    Calls Try.prog 32 #[Wd a, .int .u8 (d : Int)] w fun e w' => e = .returned (.tuple #[.agg #[.int .u64 0, .int .u64 0], .int .i64 10]) ∧ Gr w w' := by
  have h0 : hi (a / 18446744073709551616 * 10) = 0 := by unfold hi; omega
  go_enter Try.func32, Try.ntmps32
  go_wp2_with (go_at_call 14; refine (mul10_hi a ha _).mono ?_; rintro e w1 ⟨rfl, hg1⟩; obtain ⟨hc1, hf1, hz1⟩ := hg1.rules)
  have b0 : ((w.alloc (.cells #[.int .u64 (hi a), .int .u64 (lo a)] 24)).alloc (.cells #[.int .u64 0, .int .u64 0] 24)).cell? ⟨w.heap.size, 1, none⟩ = some (.int .u64 (lo a)) := by simp [go_sem]
  have c0 : (w1.alloc (Obj.cells #[.int .u64 0, .int .u64 (lo (a / 18446744073709551616 * 10))] 24)).cell? ⟨w.heap.size, 1, none⟩ = some (.int .u64 (lo a)) := alloc_keeps (hg1.keeps b0) _
  have c1 : (w1.alloc (Obj.cells #[.int .u64 0, .int .u64 (lo (a / 18446744073709551616 * 10))] 24)).cell? ⟨w1.heap.size, 1, none⟩ = some (.int .u64 (lo (a / 18446744073709551616 * 10))) := by simp [go_sem]
  clear b0
  have z0 : w.heap.size + 2 ≤ w1.heap.size := by simpa using hg1.size
  have l2 := lt_two
  have l3 := lt_three
  go_region_held3 (fun w' => w'.cell? ⟨w.heap.size, 1, none⟩ = some (.int .u64 (lo a)) ∧ w'.cell? ⟨w1.heap.size, 1, none⟩ = some (.int .u64 (lo (a / 18446744073709551616 * 10)))) (first | exact ⟨c0, c1⟩ | exact call_keeps2 (by assumption) (by assumption) | exact alloc_keeps2 (by assumption) | exact alloc_keeps2 (call_keeps2 hg3 (call_keeps2 hg2 ⟨c0, c1⟩)) | exact set_far2 (by dsimp only; omega) (by dsimp only; omega) (set_far2 (by dsimp only; omega) (by dsimp only; omega) (by assumption)))
        (first
          | (go_at_call 14; refine (mul10_lo a _).mono ?_; rintro e w2 ⟨rfl, hg2⟩; obtain ⟨hc2, hf2, hz2⟩ := hg2.rules; have z2 := hg2.size; simp only [World.size_alloc, World.size_drew] at z2)
          | (go_at_call 9; refine (add_ten_no a h1 h _).mono ?_; rintro e w3 ⟨rfl, hg3⟩; obtain ⟨hc3, hf3, hz3⟩ := hg3.rules))
  · have hG : Gr ((w.alloc (.cells #[.int .u64 (hi a), .int .u64 (lo a)] 24)).alloc (.cells #[.int .u64 0, .int .u64 0] 24)) (w3.alloc (.cells #[.int .u64 0, .int .u64 0] 24)) := by repeat (first | exact hg1 | apply Gr.drew | apply Gr.alloc | (refine Gr.trans ?_ hg3) | (refine Gr.trans ?_ hg2) | (refine Gr.setCell ?_ (by simp; omega) _))
    have hV := hG.var2; simp only [World.size_alloc] at hV; obtain ⟨v0, v1, v2, v3⟩ := hV
    go_wp2
    exact bodyPost_ret (v := (.tuple #[.agg #[.int .u64 0, .int .u64 0], .int .i64 10])) (by simp [results, Try.results32, go_sem, v0, v1]) rfl ⟨rfl, by repeat (first | exact ((Gr.refl _).alloc _ _).trans (((Gr.refl _).alloc _ _).trans hG) | refine Gr.setCell ?_ (by simp) _)⟩
  · have hq := hg3.var2
    obtain ⟨q0, q1, q2, q3⟩ := hq
    have hG : Gr ((w.alloc (.cells #[.int .u64 (hi a), .int .u64 (lo a)] 24)).alloc (.cells #[.int .u64 0, .int .u64 0] 24)) ((w3.setCell ⟨w2.heap.size, 0, none⟩ (.int .u64 0)).setCell ⟨w2.heap.size, 1, none⟩ (.int .u64 0)) := by repeat (first | exact hg1 | apply Gr.drew | apply Gr.alloc | (refine Gr.trans ?_ hg3) | (refine Gr.trans ?_ hg2) | (refine Gr.setCell ?_ (by simp; omega) _))
    have hV := hG.var2; simp only [World.size_alloc] at hV; obtain ⟨v0, v1, v2, v3⟩ := hV
    go_wp2
    exact bodyPost_ret (v := (.tuple #[.agg #[.int .u64 0, .int .u64 0], .int .i64 10])) (by simp [results, Try.results32, go_sem, v0, v1]) rfl ⟨rfl, by repeat (first | exact ((Gr.refl _).alloc _ _).trans (((Gr.refl _).alloc _ _).trans hG) | refine Gr.setCell ?_ (by simp) _)⟩
  · have hq := (((Gr.refl _).drew.trans hg2).trans hg3).var2
    simp only [World.size_alloc] at hq
    obtain ⟨q0, q1, q2, q3⟩ := hq
    have hG : Gr ((w.alloc (.cells #[.int .u64 (hi a), .int .u64 (lo a)] 24)).alloc (.cells #[.int .u64 0, .int .u64 0] 24)) ((w3.setCell ⟨w1.heap.size + 1, 0, none⟩ (.int .u64 0)).setCell ⟨w1.heap.size + 1, 1, none⟩ (.int .u64 0)) := by repeat (first | exact hg1 | apply Gr.drew | apply Gr.alloc | (refine Gr.trans ?_ hg3) | (refine Gr.trans ?_ hg2) | (refine Gr.setCell ?_ (by simp; omega) _))
    have hV := hG.var2; simp only [World.size_alloc] at hV; obtain ⟨v0, v1, v2, v3⟩ := hV
    go_wp2
    exact bodyPost_ret (v := (.tuple #[.agg #[.int .u64 0, .int .u64 0], .int .i64 10])) (by simp [results, Try.results32, go_sem, v0, v1]) rfl ⟨rfl, by repeat (first | exact ((Gr.refl _).alloc _ _).trans (((Gr.refl _).alloc _ _).trans hG) | refine Gr.setCell ?_ (by simp) _)⟩


set_option maxHeartbeats 1000000 in
theorem withDigit_noA (a d : Nat) (ha : a < 340282366920938463463374607431768211456) (h1 : 18446744073709551616 ≤ a / 18446744073709551616 * 10) (w : World) :
    Calls Try.prog 32 #[Wd a, .int .u8 (d : Int)] w fun e w' => e = .returned (.tuple #[.agg #[.int .u64 0, .int .u64 0], .int .i64 10]) ∧ Gr w w' := by
  have h0 : (hi (a / 18446744073709551616 * 10) == 0) = false := by rw [beq_eq_false_iff_ne]; unfold hi; omega
  go_enter Try.func32, Try.ntmps32
  go_wp2_with (go_at_call 14; refine (mul10_hi a ha _).mono ?_; rintro e w1 ⟨rfl, hg1⟩; have hG := hg1.alloc #[.int .u64 (hi (a / 18446744073709551616 * 10)), .int .u64 (lo (a / 18446744073709551616 * 10))] 24; have hV := hG.var2; simp only [World.size_alloc] at hV; obtain ⟨v0, v1, v2, v3⟩ := hV)
  exact bodyPost_ret (v := .tuple #[.agg #[.int .u64 0, .int .u64 0], .int .i64 10]) (by simp [results, Try.results32, go_sem, v0, v1]) rfl ⟨rfl, by repeat (first | exact ((Gr.refl _).alloc _ _).trans (((Gr.refl _).alloc _ _).trans hG) | refine Gr.setCell ?_ (by simp) _)⟩

theorem withDigit_no (a d : Nat) (hd : d < 10) (ha : a < 340282366920938463463374607431768211456) (h : 340282366920938463463374607431768211456 ≤ 10 * a + d) (w : World) :
    Calls Try.prog 32 #[Wd a, .int .u8 (d : Int)] w fun e w' => e = .returned (.tuple #[.agg #[.int .u64 0, .int .u64 0], .int .i64 10]) ∧ Gr w w' := by
  by_cases h1 : 18446744073709551616 ≤ a / 18446744073709551616 * 10
  · exact withDigit_noA a d ha h1 w
  by_cases h2 : 340282366920938463463374607431768211456 ≤ 10 * a
  · exact withDigit_noB a d ha (by omega) h2 w
  · exact withDigit_noC a d hd (by omega) h w

end Go.Proofs.Ytlckjohmllagoaa
