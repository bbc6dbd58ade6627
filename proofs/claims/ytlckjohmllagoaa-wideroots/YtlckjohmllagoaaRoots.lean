/- WideRoots: a root's square is not above its number, the next one's is: the walk. -/
import Derived.Test.YtlckjohmllagoaaProds
import Derived.Deep.RegionWith
namespace Go.Proofs.Ytlckjohmllagoaa
open Go.RowKit

theorem rmul_succ (r : Nat) (h : r + 1 < 18446744073709551616) (w : World) :
    Calls Try.prog 15 #[.int .u64 (IntKind.u64.wrap ((r : Int) + 1)), .int .u64 (IntKind.u64.wrap ((r : Int) + 1))] w fun e w' => e = .returned (Wd ((r + 1) * (r + 1))) ∧ Gr w w' := by
  have e : ((r : Int) + 1) = ((r + 1 : Nat) : Int) := by omega
  rw [e, wrapc _ h]; exact rmul_any (r + 1) (r + 1) h h w

set_option maxHeartbeats 2000000 in
theorem roots_any (a : Nat) (ha : a < 340282366920938463463374607431768211456) (w : World) :
    Calls Try.prog 5 #[Wd a] w fun e w' => e = .returned (.bool true) ∧ Gr w w' := by
  go_enter Try.func5, Try.ntmps5
  go_wp2_with fail
  refine (sqrt_any a ha _).mono ?_
  rintro e w1 ⟨r, rfl, hr, R, g1⟩
  obtain ⟨c0, c1, _, _⟩ := g1.var2
  have hsq := mul_lt r r hr hr
  have hle : r * r ≤ a := R.1
  have hgt : a < (r + 1) * (r + 1) := R.2
  have RR : Hid (r * r ≤ a ∧ a < (r + 1) * (r + 1)) := ⟨hle, hgt⟩
  clear R hle hgt
  go_wp2_with fail
  go_region_held3 (fun w' => w'.cell? ⟨w.heap.size, 0, none⟩ = some (.int .u64 (hi a)) ∧ w'.cell? ⟨w.heap.size, 1, none⟩ = some (.int .u64 (lo a))) (first | (with_reducible exact ⟨c0, c1⟩) | (with_reducible exact call_keeps2 (by assumption) (by assumption)) | exact ⟨c0, c1⟩)
    (first
      | (go_at_call 15; refine (rmul_any r r hr hr _).mono ?_; rintro e w2 ⟨rfl, g2⟩)
      | (go_at_call 12; refine (less_not a (r * r) ha hsq RR.out.1 _).mono ?_; rintro e w3 ⟨rfl, g3⟩))
  have G3 := (g1.drew.trans g2).trans g3
  obtain ⟨d0, d1, _, _⟩ := G3.var2
  clear c0 c1 g1 g2 g3
  by_cases ht : r = 18446744073709551615
  · subst ht
    clear RR hsq hr
    go_wp2_with fail
    first | (go_region_with (go_at_call 13; refine (awake_any _).mono ?_; rintro e w4 ⟨rfl, g4⟩)) | fail
    all_goals
      go_wp2
      go_ret
      exact ⟨rfl, (((Gr.refl _).alloc _ _).trans G3.drew).trans g4⟩
  · have hb : ((r : Int) == 18446744073709551615) = false := by simp; omega
    have hr1 : r + 1 < 18446744073709551616 := by omega
    clear ht
    go_wp2_with fail
    go_region_held3 (fun w' => w'.cell? ⟨w.heap.size, 0, none⟩ = some (.int .u64 (hi a)) ∧ w'.cell? ⟨w.heap.size, 1, none⟩ = some (.int .u64 (lo a))) (first | (with_reducible exact ⟨d0, d1⟩) | (with_reducible exact call_keeps2 (by assumption) (by assumption)) | exact ⟨d0, d1⟩)
      (first
        | (go_at_call 13; refine (awake_any _).mono ?_; rintro e w4 ⟨rfl, g4⟩)
        | (go_at_call 15; refine (rmul_succ r hr1 _).mono ?_; rintro e w5 ⟨rfl, g5⟩)
        | (go_at_call 12; refine (less_yes a ((r + 1) * (r + 1)) ha (mul_lt _ _ hr1 hr1) RR.out.2 _).mono ?_; rintro e w6 ⟨rfl, g6⟩))
    all_goals
      go_wp2
      go_ret
      exact ⟨rfl, (((Gr.refl _).alloc _ _).trans ((G3.drew.trans g4).trans g5)).trans g6⟩

end Go.Proofs.Ytlckjohmllagoaa
