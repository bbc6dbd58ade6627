/- The reference's ids. -/
import Derived.Test.YteaeaoekaoedoaaGreatG8
import Derived.Test.YteaeaoekaoedoaaGreatM44
namespace Go.Proofs.YteaeaoekaoedoaaGreat
open Go.RowKit

theorem rid_q (x : Int) (b : Bool) (h : okId x = b) (w : World) : Calls Tryz.prog 57 #[.int .i64 x] w fun e w' => e = .returned (.bool b) ∧ ∃ n, w' = w.drewN n :=
  (rid_v x b h w).mono fun _ _ ⟨h1, h2⟩ => ⟨h1, 0, h2.symm⟩

set_option maxHeartbeats 4000000 in
set_option maxRecDepth 100000 in
theorem rids_c {w : World} {v : Value} {l : List Int} (h : RdI w v l) (hlen : l.length ≤ 4611686018427387904) :
    Calls Tryz.prog 119 #[v] w fun e w' => e = .returned (.bool (rise l)) ∧ Gr w w' := by
  obtain ⟨a, cap, rfl, ha⟩ := h
  have A : Hid (∀ i, i < l.length → ∃ b o, a = some ⟨b, o, none⟩ ∧ w.cell? ⟨b, o + i, none⟩ = some (.int .i64 l[i]!)) := ha
  obtain ⟨n, hN⟩ : ∃ n, n = l.length := ⟨_, rfl⟩
  have N : Hid (n = l.length) := hN
  rw [← hN] at hlen ⊢
  clear ha hN
  go_enter Tryz.func119, Tryz.ntmps119
  go_wp2
  go_loopw [3] (fun iv w' => ∃ q : Nat, iv = .int .i64 (q : Int) ∧ q ≤ n ∧ Gr w w' ∧ Hid (riseTo l q = true)) (fun iv _ => n - (intOf iv).toNat)
  case atStart => exact ⟨0, rfl, Nat.zero_le _, Gr.refl _, rfl⟩
  case round =>
    obtain ⟨q, rfl, hq, G, X⟩ := hrel
    by_cases hqn : q < n
    · have hqi : (q : Int) < (n : Int) := by omega
      have hql : q < l.length := by have := N.out; omega
      obtain ⟨b, o, ea, hc⟩ := A.out q hql
      replace hc := G.keeps hc
      by_cases hid : okId l[q]! = true
      · have c := fun W => rid_q l[q]! true hid W
        by_cases h0 : q = 0
        · have R : Hid (riseTo l (q + 1) = true) := by unfold Hid; simp only [riseTo, okAt]; rw [X.out, hid, h0]; rfl
          subst ea
          have h0' : decide (0 < q) = false := by rw [decide_eq_false_iff_not]; omega
          generalize l[q]! = x at *
          clear X hid hql h0
          go_wp2
          go_quiet (first | (go_at_call 57; exact Calls.quiet_of (c _)))
          go_wp2
          go_roundw
          case rel => exact ⟨q + 1, by simp, hqn, G.drewN _, R⟩
          case measure => simp [intOf]; omega
        · obtain ⟨p, hp⟩ : ∃ p, q = p + 1 := ⟨q - 1, by omega⟩
          obtain ⟨b', o', ea', hc'⟩ := A.out p (by omega)
          rw [ea] at ea'
          cases ea'
          replace hc' := G.keeps hc'
          have hpi : (q : Int) - 1 = (p : Int) := by omega
          have hpn : (p : Int) < (n : Int) := by omega
          have hp0 : decide (0 < q) = true := by rw [decide_eq_true_eq]; omega
          have hqp : q - 1 = p := by omega
          by_cases hlt : l[p]! < l[q]!
          · have R : Hid (riseTo l (q + 1) = true) := by
              have x1 := X.out
              unfold Hid
              rw [riseTo, x1, okAt, hid, hqp, decide_eq_true hlt]; simp
            have hlt' : decide (l[q]! ≤ l[p]!) = false := by rw [decide_eq_false_iff_not]; omega
            subst ea
            generalize l[q]! = x at *
            generalize l[p]! = y at *
            clear X hid hql h0 hlt hqp hp
            go_wp2
            go_quiet (first | (go_at_call 57; exact Calls.quiet_of (c _)))
            go_wp2
            go_roundw
            case rel => exact ⟨q + 1, by simp, hqn, G.drewN _, R⟩
            case measure => simp [intOf]; omega
          · have R : Hid (rise l = false) := rise_no hql (by rw [okAt, hid, hqp, decide_eq_false hlt]; simp; omega)
            have hlt' : decide (l[q]! ≤ l[p]!) = true := by rw [decide_eq_true_eq]; omega
            subst ea
            generalize l[q]! = x at *
            generalize l[p]! = y at *
            clear X hid hql h0 hlt hqp hp
            go_wp2
            go_quiet (first | (go_at_call 57; exact Calls.quiet_of (c _)))
            go_wp2
            go_ret
            exact ⟨by rw [R.out]; rfl, G.drewN _⟩
      · have c := fun W => rid_q l[q]! false (by simpa using hid) W
        have R : Hid (rise l = false) := rise_no hql (by rw [okAt, show okId l[q]! = false by simpa using hid]; rfl)
        subst ea
        generalize l[q]! = x at *
        clear X hid hql
        go_wp2
        go_quiet (first | (go_at_call 57; exact Calls.quiet_of (c _)))
        go_wp2
        go_ret
        exact ⟨by rw [R.out]; rfl, G.drewN _⟩
    · have hqi : ¬ (q : Int) < (n : Int) := by omega
      have R : Hid (rise l = true) := by
        have h1 := X.out
        have h2 : q = l.length := by have := N.out; omega
        rw [h2] at h1; exact h1
      go_wp2
      go_ret
      exact ⟨by rw [R.out]; rfl, G⟩

end Go.Proofs.YteaeaoekaoedoaaGreat
