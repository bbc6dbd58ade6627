/- The reference's Add where the sum is too great, as a contract. -/
import Derived.Test.YtblfmhdcgmkpgaaRAddBase
namespace Go.Proofs.Ytblfmhdcgmkpgaa
open Go.RowKit

set_option maxHeartbeats 4000000 in
theorem radd_no (a b : Nat) (ha : a < 340282366920938463463374607431768211456) (hb : b < 340282366920938463463374607431768211456) (h : 340282366920938463463374607431768211456 ≤ a + b) (w : World) :
    Calls Try.prog 43 #[Wd a, Wd b] w fun e w' => e = .returned (.tuple #[.agg #[.int .u64 0, .int .u64 0], .int .i64 10]) ∧ Gr w w' := by
  have G0 : Gr ((w.alloc (.cells #[.int .u64 (hi a), .int .u64 (lo a)] 51)).alloc (.cells #[.int .u64 (hi b), .int .u64 (lo b)] 51)) (((w.alloc (.cells #[.int .u64 (hi a), .int .u64 (lo a)] 51)).alloc (.cells #[.int .u64 (hi b), .int .u64 (lo b)] 51)).alloc (.cells #[.int .u64 0, .int .u64 0] 51)) := (Gr.refl _).alloc _ _
  have C := G0.drew.args2
  have C2 := (G0.alloc #[.int .i64 0, .int .i64 0, .int .i64 0, .int .i64 0, .int .i64 0, .int .i64 0, .int .i64 0, .int .i64 0, .bool false] 79).drew.args2
  have l2 := lt_two
  have l3 := lt_three
  go_enter Try.func43, Try.ntmps43
  go_wp2
  go_region_held3 (fun w' => w'.cell? ⟨w.heap.size, 0, none⟩ = some (.int .u64 (hi a)) ∧ w'.cell? ⟨w.heap.size, 1, none⟩ = some (.int .u64 (lo a)) ∧ w'.cell? ⟨w.heap.size + 1, 0, none⟩ = some (.int .u64 (hi b)) ∧ w'.cell? ⟨w.heap.size + 1, 1, none⟩ = some (.int .u64 (lo b))) (first | (with_reducible exact C) | (with_reducible exact C2) | (with_reducible exact far9_keeps4 (by dsimp only; omega) (by dsimp only; omega) (by dsimp only; omega) (by dsimp only; omega) _ _ _ _ _ _ _ _ _ (by assumption)) | (with_reducible exact call_keeps4 (by assumption) (by assumption)) | (with_reducible exact alloc_keeps4 (by assumption)) | (with_reducible exact alloc_keeps4 (call_keeps4 g3 (call_keeps4 g2 (call_keeps4 g1 C)))))
    (first
      | (go_at_call_of 45 (hi a); refine (of_any a ha _).mono ?_; rintro e w1 ⟨rfl, g1⟩; have z1 := g1.size; try simp only [World.size_alloc, World.size_drew] at z1)
      | (go_at_call_of 45 (hi b); refine (of_any b hb _).mono ?_; rintro e w2 ⟨rfl, g2⟩; have z2 := g2.size; try simp only [World.size_alloc] at z2)
      | (go_at_call 58; refine (sum_no a b ha hb h _).mono ?_; rintro e w3 ⟨q, rfl, hq, g3⟩; (try (first | (with_reducible have hZ := (NumAt.zero w2 79).call g3) | (with_reducible have hZ := ((NumAt.zero w1 79).call g2).call g3) | (with_reducible have hZ := (((NumAt.zero (((w.alloc (.cells #[.int .u64 (hi a), .int .u64 (lo a)] 51)).alloc (.cells #[.int .u64 (hi b), .int .u64 (lo b)] 51)).alloc (.cells #[.int .u64 0, .int .u64 0] 51)) 79).drew.call g1).call g2).call g3))); (try simp only [World.size_alloc] at hZ); (try obtain ⟨y0, y1, y2, y3, y4, y5, y6, y7, y8⟩ := hZ.cells); (try obtain ⟨x0, x1, x2, x3, x4, x5, x6, x7, x8⟩ := hZ.open9)))
  · clear C C2 G0
    have hG : Gr (((w.alloc (.cells #[.int .u64 (hi a), .int .u64 (lo a)] 51)).alloc (.cells #[.int .u64 (hi b), .int .u64 (lo b)] 51)).alloc (.cells #[.int .u64 0, .int .u64 0] 51)) (w3.alloc (.cells #[.int .i64 (dd (q) 0), .int .i64 (dd (q) 1), .int .i64 (dd (q) 2), .int .i64 (dd (q) 3), .int .i64 (dd (q) 4), .int .i64 (dd (q) 5), .int .i64 (dd (q) 6), .int .i64 (dd (q) 7), .bool true] 79)) := (((((Gr.refl _).drew.trans g1).trans g2).trans g3).alloc _ _)
    have hN : NumAt (w3.alloc (.cells #[.int .i64 (dd (q) 0), .int .i64 (dd (q) 1), .int .i64 (dd (q) 2), .int .i64 (dd (q) 3), .int .i64 (dd (q) 4), .int .i64 (dd (q) 5), .int .i64 (dd (q) 6), .int .i64 (dd (q) 7), .bool true] 79)) w3.heap.size (q) true := NumAt.new w3 (q) true 79
    generalize (w3.alloc (.cells #[.int .i64 (dd (q) 0), .int .i64 (dd (q) 1), .int .i64 (dd (q) 2), .int .i64 (dd (q) 3), .int .i64 (dd (q) 4), .int .i64 (dd (q) 5), .int .i64 (dd (q) 6), .int .i64 (dd (q) 7), .bool true] 79)) = V at *
    generalize w3.heap.size = B at *
    clear g1 g2 g3
    have hV := hG.var2
    simp only [World.size_alloc] at hV
    obtain ⟨v0, v1, v2, v3⟩ := hV
    obtain ⟨m0, m1, m2, m3, m4, m5, m6, m7, m8⟩ := hN.cells
    go_wp2
    exact bodyPost_ret (v := .tuple #[.agg #[.int .u64 0, .int .u64 0], .int .i64 10]) (by simp [results, Try.results43, go_sem, v0, v1]) rfl ⟨rfl, ((((((Gr.refl _).alloc _ _).alloc _ _).alloc _ _).trans hG).setCell (by dsimp only; omega) _).setCell (by dsimp only; omega) _⟩
  · clear C C2 G0 y0 y1 y2 y3 y4 y5 y6 y7 y8 x0 x1 x2 x3 x4 x5 x6 x7 x8
    have hG : Gr (((w.alloc (.cells #[.int .u64 (hi a), .int .u64 (lo a)] 51)).alloc (.cells #[.int .u64 (hi b), .int .u64 (lo b)] 51)).alloc (.cells #[.int .u64 0, .int .u64 0] 51)) (((((((((w3.setCell ⟨w2.heap.size, 0, none⟩ (.int .i64 (dd (q) 0))).setCell ⟨w2.heap.size, 1, none⟩ (.int .i64 (dd (q) 1))).setCell ⟨w2.heap.size, 2, none⟩ (.int .i64 (dd (q) 2))).setCell ⟨w2.heap.size, 3, none⟩ (.int .i64 (dd (q) 3))).setCell ⟨w2.heap.size, 4, none⟩ (.int .i64 (dd (q) 4))).setCell ⟨w2.heap.size, 5, none⟩ (.int .i64 (dd (q) 5))).setCell ⟨w2.heap.size, 6, none⟩ (.int .i64 (dd (q) 6))).setCell ⟨w2.heap.size, 7, none⟩ (.int .i64 (dd (q) 7))).setCell ⟨w2.heap.size, 8, none⟩ (.bool true)) := ((((((Gr.refl _).drew.trans g1).trans g2).alloc _ _).trans g3).store9 (by simp only [World.size_alloc]; omega) _ _ _ _ _ _ _ _ _)
    have hN : NumAt (((((((((w3.setCell ⟨w2.heap.size, 0, none⟩ (.int .i64 (dd (q) 0))).setCell ⟨w2.heap.size, 1, none⟩ (.int .i64 (dd (q) 1))).setCell ⟨w2.heap.size, 2, none⟩ (.int .i64 (dd (q) 2))).setCell ⟨w2.heap.size, 3, none⟩ (.int .i64 (dd (q) 3))).setCell ⟨w2.heap.size, 4, none⟩ (.int .i64 (dd (q) 4))).setCell ⟨w2.heap.size, 5, none⟩ (.int .i64 (dd (q) 5))).setCell ⟨w2.heap.size, 6, none⟩ (.int .i64 (dd (q) 6))).setCell ⟨w2.heap.size, 7, none⟩ (.int .i64 (dd (q) 7))).setCell ⟨w2.heap.size, 8, none⟩ (.bool true)) w2.heap.size (q) true := hZ.store (q) true
    generalize (((((((((w3.setCell ⟨w2.heap.size, 0, none⟩ (.int .i64 (dd (q) 0))).setCell ⟨w2.heap.size, 1, none⟩ (.int .i64 (dd (q) 1))).setCell ⟨w2.heap.size, 2, none⟩ (.int .i64 (dd (q) 2))).setCell ⟨w2.heap.size, 3, none⟩ (.int .i64 (dd (q) 3))).setCell ⟨w2.heap.size, 4, none⟩ (.int .i64 (dd (q) 4))).setCell ⟨w2.heap.size, 5, none⟩ (.int .i64 (dd (q) 5))).setCell ⟨w2.heap.size, 6, none⟩ (.int .i64 (dd (q) 6))).setCell ⟨w2.heap.size, 7, none⟩ (.int .i64 (dd (q) 7))).setCell ⟨w2.heap.size, 8, none⟩ (.bool true)) = V at *
    generalize w2.heap.size = B at *
    clear g1 g2 g3 hZ
    have hV := hG.var2
    simp only [World.size_alloc] at hV
    obtain ⟨v0, v1, v2, v3⟩ := hV
    obtain ⟨m0, m1, m2, m3, m4, m5, m6, m7, m8⟩ := hN.cells
    go_wp2
    exact bodyPost_ret (v := .tuple #[.agg #[.int .u64 0, .int .u64 0], .int .i64 10]) (by simp [results, Try.results43, go_sem, v0, v1]) rfl ⟨rfl, ((((((Gr.refl _).alloc _ _).alloc _ _).alloc _ _).trans hG).setCell (by dsimp only; omega) _).setCell (by dsimp only; omega) _⟩
  · clear C C2 G0 y0 y1 y2 y3 y4 y5 y6 y7 y8 x0 x1 x2 x3 x4 x5 x6 x7 x8
    have hG : Gr (((w.alloc (.cells #[.int .u64 (hi a), .int .u64 (lo a)] 51)).alloc (.cells #[.int .u64 (hi b), .int .u64 (lo b)] 51)).alloc (.cells #[.int .u64 0, .int .u64 0] 51)) (((((((((w3.setCell ⟨w1.heap.size, 0, none⟩ (.int .i64 (dd (q) 0))).setCell ⟨w1.heap.size, 1, none⟩ (.int .i64 (dd (q) 1))).setCell ⟨w1.heap.size, 2, none⟩ (.int .i64 (dd (q) 2))).setCell ⟨w1.heap.size, 3, none⟩ (.int .i64 (dd (q) 3))).setCell ⟨w1.heap.size, 4, none⟩ (.int .i64 (dd (q) 4))).setCell ⟨w1.heap.size, 5, none⟩ (.int .i64 (dd (q) 5))).setCell ⟨w1.heap.size, 6, none⟩ (.int .i64 (dd (q) 6))).setCell ⟨w1.heap.size, 7, none⟩ (.int .i64 (dd (q) 7))).setCell ⟨w1.heap.size, 8, none⟩ (.bool true)) := ((((((Gr.refl _).drew.trans g1).alloc _ _).trans g2).trans g3).store9 (by simp only [World.size_alloc]; omega) _ _ _ _ _ _ _ _ _)
    have hN : NumAt (((((((((w3.setCell ⟨w1.heap.size, 0, none⟩ (.int .i64 (dd (q) 0))).setCell ⟨w1.heap.size, 1, none⟩ (.int .i64 (dd (q) 1))).setCell ⟨w1.heap.size, 2, none⟩ (.int .i64 (dd (q) 2))).setCell ⟨w1.heap.size, 3, none⟩ (.int .i64 (dd (q) 3))).setCell ⟨w1.heap.size, 4, none⟩ (.int .i64 (dd (q) 4))).setCell ⟨w1.heap.size, 5, none⟩ (.int .i64 (dd (q) 5))).setCell ⟨w1.heap.size, 6, none⟩ (.int .i64 (dd (q) 6))).setCell ⟨w1.heap.size, 7, none⟩ (.int .i64 (dd (q) 7))).setCell ⟨w1.heap.size, 8, none⟩ (.bool true)) w1.heap.size (q) true := hZ.store (q) true
    generalize (((((((((w3.setCell ⟨w1.heap.size, 0, none⟩ (.int .i64 (dd (q) 0))).setCell ⟨w1.heap.size, 1, none⟩ (.int .i64 (dd (q) 1))).setCell ⟨w1.heap.size, 2, none⟩ (.int .i64 (dd (q) 2))).setCell ⟨w1.heap.size, 3, none⟩ (.int .i64 (dd (q) 3))).setCell ⟨w1.heap.size, 4, none⟩ (.int .i64 (dd (q) 4))).setCell ⟨w1.heap.size, 5, none⟩ (.int .i64 (dd (q) 5))).setCell ⟨w1.heap.size, 6, none⟩ (.int .i64 (dd (q) 6))).setCell ⟨w1.heap.size, 7, none⟩ (.int .i64 (dd (q) 7))).setCell ⟨w1.heap.size, 8, none⟩ (.bool true)) = V at *
    generalize w1.heap.size = B at *
    clear g1 g2 g3 hZ
    have hV := hG.var2
    simp only [World.size_alloc] at hV
    obtain ⟨v0, v1, v2, v3⟩ := hV
    obtain ⟨m0, m1, m2, m3, m4, m5, m6, m7, m8⟩ := hN.cells
    go_wp2
    exact bodyPost_ret (v := .tuple #[.agg #[.int .u64 0, .int .u64 0], .int .i64 10]) (by simp [results, Try.results43, go_sem, v0, v1]) rfl ⟨rfl, ((((((Gr.refl _).alloc _ _).alloc _ _).alloc _ _).trans hG).setCell (by dsimp only; omega) _).setCell (by dsimp only; omega) _⟩
  · clear C C2 G0 y0 y1 y2 y3 y4 y5 y6 y7 y8 x0 x1 x2 x3 x4 x5 x6 x7 x8
    have hG : Gr (((w.alloc (.cells #[.int .u64 (hi a), .int .u64 (lo a)] 51)).alloc (.cells #[.int .u64 (hi b), .int .u64 (lo b)] 51)).alloc (.cells #[.int .u64 0, .int .u64 0] 51)) (((((((((w3.setCell ⟨w.heap.size + 1 + 1 + 1, 0, none⟩ (.int .i64 (dd (q) 0))).setCell ⟨w.heap.size + 1 + 1 + 1, 1, none⟩ (.int .i64 (dd (q) 1))).setCell ⟨w.heap.size + 1 + 1 + 1, 2, none⟩ (.int .i64 (dd (q) 2))).setCell ⟨w.heap.size + 1 + 1 + 1, 3, none⟩ (.int .i64 (dd (q) 3))).setCell ⟨w.heap.size + 1 + 1 + 1, 4, none⟩ (.int .i64 (dd (q) 4))).setCell ⟨w.heap.size + 1 + 1 + 1, 5, none⟩ (.int .i64 (dd (q) 5))).setCell ⟨w.heap.size + 1 + 1 + 1, 6, none⟩ (.int .i64 (dd (q) 6))).setCell ⟨w.heap.size + 1 + 1 + 1, 7, none⟩ (.int .i64 (dd (q) 7))).setCell ⟨w.heap.size + 1 + 1 + 1, 8, none⟩ (.bool true)) := ((((((Gr.refl _).alloc _ _).drew.trans g1).trans g2).trans g3).store9 (by simp only [World.size_alloc]; omega) _ _ _ _ _ _ _ _ _)
    have hN : NumAt (((((((((w3.setCell ⟨w.heap.size + 1 + 1 + 1, 0, none⟩ (.int .i64 (dd (q) 0))).setCell ⟨w.heap.size + 1 + 1 + 1, 1, none⟩ (.int .i64 (dd (q) 1))).setCell ⟨w.heap.size + 1 + 1 + 1, 2, none⟩ (.int .i64 (dd (q) 2))).setCell ⟨w.heap.size + 1 + 1 + 1, 3, none⟩ (.int .i64 (dd (q) 3))).setCell ⟨w.heap.size + 1 + 1 + 1, 4, none⟩ (.int .i64 (dd (q) 4))).setCell ⟨w.heap.size + 1 + 1 + 1, 5, none⟩ (.int .i64 (dd (q) 5))).setCell ⟨w.heap.size + 1 + 1 + 1, 6, none⟩ (.int .i64 (dd (q) 6))).setCell ⟨w.heap.size + 1 + 1 + 1, 7, none⟩ (.int .i64 (dd (q) 7))).setCell ⟨w.heap.size + 1 + 1 + 1, 8, none⟩ (.bool true)) (w.heap.size + 1 + 1 + 1) (q) true := hZ.store (q) true
    generalize (((((((((w3.setCell ⟨w.heap.size + 1 + 1 + 1, 0, none⟩ (.int .i64 (dd (q) 0))).setCell ⟨w.heap.size + 1 + 1 + 1, 1, none⟩ (.int .i64 (dd (q) 1))).setCell ⟨w.heap.size + 1 + 1 + 1, 2, none⟩ (.int .i64 (dd (q) 2))).setCell ⟨w.heap.size + 1 + 1 + 1, 3, none⟩ (.int .i64 (dd (q) 3))).setCell ⟨w.heap.size + 1 + 1 + 1, 4, none⟩ (.int .i64 (dd (q) 4))).setCell ⟨w.heap.size + 1 + 1 + 1, 5, none⟩ (.int .i64 (dd (q) 5))).setCell ⟨w.heap.size + 1 + 1 + 1, 6, none⟩ (.int .i64 (dd (q) 6))).setCell ⟨w.heap.size + 1 + 1 + 1, 7, none⟩ (.int .i64 (dd (q) 7))).setCell ⟨w.heap.size + 1 + 1 + 1, 8, none⟩ (.bool true)) = V at *
    generalize (w.heap.size + 1 + 1 + 1) = B at *
    clear g1 g2 g3 hZ
    have hV := hG.var2
    simp only [World.size_alloc] at hV
    obtain ⟨v0, v1, v2, v3⟩ := hV
    obtain ⟨m0, m1, m2, m3, m4, m5, m6, m7, m8⟩ := hN.cells
    go_wp2
    exact bodyPost_ret (v := .tuple #[.agg #[.int .u64 0, .int .u64 0], .int .i64 10]) (by simp [results, Try.results43, go_sem, v0, v1]) rfl ⟨rfl, ((((((Gr.refl _).alloc _ _).alloc _ _).alloc _ _).trans hG).setCell (by dsimp only; omega) _).setCell (by dsimp only; omega) _⟩

end Go.Proofs.Ytblfmhdcgmkpgaa
