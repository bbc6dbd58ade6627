/- PutChange. -/
import Derived.Test.YtmlincnmhjkjgaaCyCoV
namespace Go.Proofs.Ytmlincnmhjkjgaa
open Go.RowKit

theorem chE_zero {k id : Int} {v : List Int} (h : chE k id v = 0) : (1 ≤ id ∧ id ≤ 1000000000) ∧ (k = 1 ∧ chk v v.length = 0 ∧ 1 ≤ v.length ∧ v.length ≤ 64 ∨ k = 2 ∧ v = []) := by
  unfold chE at h
  split at h
  · omega
  split at h
  · omega
  refine ⟨by omega, ?_⟩
  split at h
  · rename_i hk
    refine .inl ⟨hk, h, ?_⟩
    unfold chk at h
    split at h
    · omega
    · omega
  · split at h
    · omega
    · exact .inr ⟨by omega, List.eq_nil_of_length_eq_zero (by omega)⟩
/-- What PutChange tells. -/
def pcV (k id : Int) (v : List Int) : Value := .tuple #[.string (sb (if chE k id v = 0 then chT k id v else [])), .int .i64 (chE k id v)]
set_option maxHeartbeats 2000000 in
theorem putChange_c {w : World} {u : Value} {v : List Int} (k id : Int) (hu : RdI w u v) :
    Calls Try.prog 23 #[Ch k id u] w fun e w' => e = .returned (pcV k id v) ∧ Gb w w' := by
  have c1 := fun W (g : Gb w W) => checkChange_c k id (hu.gb g)
  by_cases hz : chE k id v = 0
  · have PV : Hid (pcV k id v = .tuple #[.string (sb (chT k id v)), .int .i64 0]) := by unfold Hid pcV; rw [hz, if_pos rfl]
    rw [hz] at c1
    obtain ⟨⟨i1, i2⟩, hh⟩ := chE_zero hz
    rcases hh with ⟨rfl, hc, l1, l2⟩ | ⟨rfl, rfl⟩
    · have TT : Hid (chT 1 id v = [] ++ leB 1 1 ++ leB id.toNat 4 ++ leB v.length 1 ++ coB v) := by unfold Hid chT; rw [if_pos rfl]; simp
      have U : Hid (RdI w u v) := hu
      obtain ⟨a, cap, rfl, _⟩ := hu
      have I : Hid (((id.toNat : Nat) : Int) = id) := by unfold Hid; omega
      have LV : Hid (v.length ≤ 64) := l2
      generalize hn : v.length = n at *
      have NN : Hid (v.length = n) := hn
      clear hn hz hc
      unfold Ch at *
      go_enter Try.func23, Try.ntmps23
      go_wp2_with fail
      refine (c1 _ (gb_alloc (Below.refl _ _) _)).mono ?_
      rintro e w2 ⟨rfl, g2⟩
      have G0 : Gb w (w.alloc (.cells #[.int .i64 1, .int .i64 id, .slice a n cap] 25)) := gb_alloc (Below.refl _ _) _
      have B0 : (w.alloc (.cells #[.int .i64 1, .int .i64 id, .slice a n cap] 25)).cell? ⟨w.heap.size, 0, none⟩ = some (.int .i64 1) ∧ (w.alloc (.cells #[.int .i64 1, .int .i64 id, .slice a n cap] 25)).cell? ⟨w.heap.size, 1, none⟩ = some (.int .i64 id) ∧ (w.alloc (.cells #[.int .i64 1, .int .i64 id, .slice a n cap] 25)).cell? ⟨w.heap.size, 2, none⟩ = some (.slice a n cap) := by simp [go_sem]
      generalize w.alloc (.cells #[.int .i64 1, .int .i64 id, .slice a n cap] 25) = w1 at *
      have b0 := gb_keeps g2 B0.1
      have b1 := gb_keeps g2 B0.2.1
      have b2 := gb_keeps g2 B0.2.2
      have n1 := withNumber_g g2 (ownb_nil w2 w1.heap.size) 1 1 (by decide) (by simp)
      go_wp2_with fail
      refine n1.mono ?_
      rintro e w3 ⟨v3, rfl, o3, g3⟩
      have b0 := gb_keeps g3 B0.1
      have b1 := gb_keeps g3 B0.2.1
      have b2 := gb_keeps g3 B0.2.2
      have n2 := withNumber_g g3 o3 id.toNat 4 (by omega) (by simp [leB_length])
      rw [I.out] at n2
      go_wp2_with fail
      refine n2.mono ?_
      rintro e w4 ⟨v4, rfl, o4, g4⟩
      have b0 := gb_keeps g4 B0.1
      have b1 := gb_keeps g4 B0.2.1
      have b2 := gb_keeps g4 B0.2.2
      have n3 := withNumber_g g4 o4 n 1 (by omega) (by simp [leB_length])
      go_wp2_with fail
      refine n3.mono ?_
      rintro e w5 ⟨v5, rfl, o5, g5⟩
      have b0 := gb_keeps g5 B0.1
      have b1 := gb_keeps g5 B0.2.1
      have b2 := gb_keeps g5 B0.2.2
      have UU := U.out.gb G0
      have n4 := withVector_g UU g5 o5 (by simp [leB_length]; rw [NN.out]; omega)
      go_wp2_with fail
      refine n4.mono ?_
      rintro e w6 ⟨v6, rfl, o6, g6⟩
      have hs := str_of o6.rd
      have RS : Hid ([] ++ leB 1 1 ++ leB id.toNat 4 ++ leB n 1 ++ coB v = chT 1 id v) := by unfold Hid; rw [TT.out]
      rw [RS.out] at hs
      go_wp2
      exact bodyPost_ret (v := .tuple #[.string (sb (chT 1 id v)), .int .i64 0]) (by simp [results, Try.results23, go_sem]) rfl ⟨by rw [PV.out], gb_trans G0 g6⟩
    · have TT : Hid (chT 2 id [] = [] ++ leB 2 1 ++ leB id.toNat 4) := by unfold Hid chT; simp
      obtain ⟨a, cap, rfl, _⟩ := hu
      have I : Hid (((id.toNat : Nat) : Int) = id) := by unfold Hid; omega
      clear hz
      simp only [List.length_nil] at *
      unfold Ch at *
      go_enter Try.func23, Try.ntmps23
      go_wp2_with fail
      refine (c1 _ (gb_alloc (Below.refl _ _) _)).mono ?_
      rintro e w2 ⟨rfl, g2⟩
      have G0 : Gb w (w.alloc (.cells #[.int .i64 2, .int .i64 id, .slice a 0 cap] 25)) := gb_alloc (Below.refl _ _) _
      have B0 : (w.alloc (.cells #[.int .i64 2, .int .i64 id, .slice a 0 cap] 25)).cell? ⟨w.heap.size, 0, none⟩ = some (.int .i64 2) ∧ (w.alloc (.cells #[.int .i64 2, .int .i64 id, .slice a 0 cap] 25)).cell? ⟨w.heap.size, 1, none⟩ = some (.int .i64 id) ∧ (w.alloc (.cells #[.int .i64 2, .int .i64 id, .slice a 0 cap] 25)).cell? ⟨w.heap.size, 2, none⟩ = some (.slice a 0 cap) := by simp [go_sem]
      generalize w.alloc (.cells #[.int .i64 2, .int .i64 id, .slice a 0 cap] 25) = w1 at *
      have b0 := gb_keeps g2 B0.1
      have b1 := gb_keeps g2 B0.2.1
      have b2 := gb_keeps g2 B0.2.2
      have n1 := withNumber_g g2 (ownb_nil w2 w1.heap.size) 2 1 (by decide) (by simp)
      go_wp2_with fail
      refine n1.mono ?_
      rintro e w3 ⟨v3, rfl, o3, g3⟩
      have b0 := gb_keeps g3 B0.1
      have b1 := gb_keeps g3 B0.2.1
      have b2 := gb_keeps g3 B0.2.2
      have n2 := withNumber_g g3 o3 id.toNat 4 (by omega) (by simp [leB_length])
      rw [I.out] at n2
      go_wp2_with fail
      refine n2.mono ?_
      rintro e w4 ⟨v4, rfl, o4, g4⟩
      have b0 := gb_keeps g4 B0.1
      have b1 := gb_keeps g4 B0.2.1
      have b2 := gb_keeps g4 B0.2.2
      have hs := str_of o4.rd
      have RS : Hid ([] ++ leB 2 1 ++ leB id.toNat 4 = chT 2 id []) := by unfold Hid; rw [TT.out]
      rw [RS.out] at hs
      go_wp2
      exact bodyPost_ret (v := .tuple #[.string (sb (chT 2 id [])), .int .i64 0]) (by simp [results, Try.results23, go_sem]) rfl ⟨by rw [PV.out], gb_trans G0 g4⟩
  · have PV : Hid (pcV k id v = .tuple #[.string (sb []), .int .i64 (chE k id v)]) := by unfold Hid pcV; rw [if_neg hz]
    have hz' : (chE k id v != 0) = true := by simp [bne_iff_ne]; exact hz
    obtain ⟨a, cap, rfl, _⟩ := hu
    generalize chE k id v = z at *
    generalize v.length = n at *
    clear hz
    unfold Ch at *
    go_enter Try.func23, Try.ntmps23
    go_wp2_with fail
    refine (c1 _ (gb_alloc (Below.refl _ _) _)).mono ?_
    rintro e w2 ⟨rfl, g2⟩
    go_wp2
    exact bodyPost_ret (v := .tuple #[.string (sb []), .int .i64 z]) (by simp [results, Try.results23, go_sem]; rfl) rfl ⟨by rw [PV.out], gb_trans (gb_alloc (Below.refl _ _) _) g2⟩
end Go.Proofs.Ytmlincnmhjkjgaa
