/- What is ranged over: the draws of a source. -/
import Derived.Test.YtblfmhdcgmkpgaaRnRange
namespace Go.Proofs.Ytblfmhdcgmkpgaa.Rn
open Go.RowKit Go.Shelf
attribute [local go_sem] Oper.semAt_some

theorem Boxed.ne {W : World} {A B : Nat} {t u : TypeId} {v v' : Value} (h : Boxed W A t v) (k : Boxed W B u v') (hn : t ≠ u) : A ≠ B := by
  rintro rfl
  have := (show W.heap[A]? = _ from h).symm.trans k
  simp at this
  exact hn this.2
theorem Boxed.past {W : World} {A B : Nat} {t : TypeId} {v : Value} (h : Boxed W A t v) (hn : A ≠ B) (u : Value) : Boxed (W.setCell ⟨B, 0, none⟩ u) A t v :=
  h.kept (grownBy_setCell' W B u) (by simpa using hn)

set_option maxHeartbeats 1000000 in
theorem draws1_gives (n : Nat) (hn : 1 ≤ n) (Bs Bc b : Nat) (c x : Int) (_hx : U x) (hc : c ≤ 1000000) (I : Nat → World → Prop)
    (hr : ∀ k W, I k W → Boxed W Bs 109 (.pointer (some ⟨b, 0, none⟩)) ∧ Boxed W Bc 3 (.int .i64 c) ∧ Boxed W b 115 (.int .u64 (stN x k))) :
    Gives n Try.prog 88 #[.pointer (some ⟨Bs, 0, none⟩), .pointer (some ⟨Bc, 0, none⟩)] c.toNat b (fun k => .int .u64 (stN x (k + 1))) (fun k => .int .u64 (mx (stN x (k + 1)))) I := by
  intro l J J1 Jx W hJI hst hY h0
  refine callsIn_of_wp Try.func88 rfl trivial ?_ rfl
  simp only [Try.ntmps88, List.size_toArray, List.length_cons, List.length_nil, Nat.reduceAdd, Nat.reduceSub, Array.replicate_succ, Array.replicate_zero, List.push_toArray, List.append_toArray, List.nil_append, List.cons_append]
  obtain ⟨r1, r2, r3⟩ := hr 0 W (hJI 0 W h0)
  have c1 := r1.cell
  have c2 := r2.cell
  gi_wp2
  clear c1 c2 r1 r2 r3
  gi_loopw [7] (fun v wr => ∃ k : Nat, v = .int .i64 k ∧ k ≤ c.toNat ∧ J k wr) (fun v _ => c.toNat - (intOf v).toNat)
  case atStart => exact ⟨0, rfl, Nat.zero_le _, h0⟩
  case round =>
    obtain ⟨k, rfl, hk, hj⟩ := hrel
    by_cases hlt : k < c.toNat
    · have hlt' : (k : Int) < c := by omega
      obtain ⟨r1, r2, r3⟩ := hr k wr (hJI k wr hj)
      have n1 := Boxed.ne r1 r3 (by decide)
      have c1 := r1.cell
      have c3 := r3.cell
      have f3 := r3.frozen
      have c4 := (Boxed.past r1 n1 (.int .u64 (IntKind.u64.wrap (stN x k + 11400714819323198485)))).cell
      have c5 := (r3.set (.int .u64 (IntKind.u64.wrap (stN x k + 11400714819323198485)))).cell
      obtain ⟨fn, tmps, assign, body, hy, hR⟩ := hY k _ hlt (hst k wr hlt hj)
      simp only [stN_succ] at hy hR
      gi_wp2_with (refine ⟨trivial, ?_⟩; gi_at_call 89; refine (callsIn_wide.2 (mix_c _ _ (u_wrap _))).mono ?_; rintro e w1 ⟨rfl, rfl⟩)
      refine hR.mono ?_
      rintro e W3 (⟨rfl, hJ3⟩ | ⟨rfl, hJx3⟩)
      · gi_wp2
        go_roundw
        case rel => exact ⟨k + 1, by simp, by omega, hJ3⟩
        case measure => simp [intOf]; omega
      · gi_wp2
        refine bodyPost_ret (results_none rfl _ _ _) rfl ?_
        exact ⟨⟨_, rfl⟩, .inr ⟨k, hlt, hJx3⟩⟩
    · have hlt' : ¬ (k : Int) < c := by omega
      gi_wp2
      go_end0
      obtain rfl : k = c.toNat := by omega
      exact ⟨⟨_, rfl⟩, .inl hj⟩

end Go.Proofs.Ytblfmhdcgmkpgaa.Rn
