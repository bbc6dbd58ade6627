/- theodolitekeep.Ints; the law's own box and ball. -/
import Derived.Test.YtmlincnmhjkjgaaCyInB
import Derived.Test.YtmlincnmhjkjgaaCyBoxY
namespace Go.Proofs.Ytmlincnmhjkjgaa
open Go.RowKit Go.Sort

theorem take_snoc {l : List Int} {q : Nat} (h : q < l.length) : l.take (q + 1) = l.take q ++ [l[q]!] := by
  rw [List.take_succ_eq_append_getElem h, getElem!_pos l q h]

set_option maxHeartbeats 2000000 in
set_option maxRecDepth 100000 in
theorem ints_c {w : World} {u v : Value} {l m : List Int} (hu : RdI w u l) (hv : RdI w v m) (hlen : l.length ≤ 4611686018427387904) :
    Calls Try.prog 9 #[u, v] w fun e w' => e = .returned (.bool (decide (l = m))) ∧ Gr w w' := by
  obtain ⟨a, ca, rfl, ha⟩ := hu
  obtain ⟨b, cb, rfl, hb⟩ := hv
  by_cases hlm : l.length = m.length
  · have A : Hid (∀ i, i < l.length → ∃ b o, a = some ⟨b, o, none⟩ ∧ w.cell? ⟨b, o + i, none⟩ = some (.int .i64 l[i]!)) := ha
    have B : Hid (∀ i, i < m.length → ∃ b' o, b = some ⟨b', o, none⟩ ∧ w.cell? ⟨b', o + i, none⟩ = some (.int .i64 m[i]!)) := hb
    have L : Hid (l.length = m.length) := hlm
    rw [← hlm]
    obtain ⟨n, hN⟩ : ∃ n, n = l.length := ⟨_, rfl⟩
    have N : Hid (n = l.length) := hN
    rw [← hN] at hlen ⊢
    clear ha hb hlm hN
    go_enter Try.func9, Try.ntmps9
    go_wp2
    go_loopw [5] (fun iv w' => ∃ q : Nat, iv = .int .i64 (q : Int) ∧ q ≤ n ∧ Hid (l.take q = m.take q ∧ Gr w w')) (fun iv _ => n - (intOf iv).toNat)
    case atStart => exact ⟨0, rfl, Nat.zero_le _, ⟨by simp, Gr.refl _⟩⟩
    case round =>
      obtain ⟨q, rfl, hq, X⟩ := hrel
      by_cases hqn : q < n
      · have hql : q < l.length := by have := N.out; omega
        have hqm : q < m.length := by have := L.out; omega
        obtain ⟨b1, o1, ea, h1⟩ := A.out q hql
        obtain ⟨b2, o2, eb, h2⟩ := B.out q hqm
        subst ea; subst eb
        have h1 := X.out.2.keeps h1
        have h2 := X.out.2.keeps h2
        by_cases hxy : l[q]! = m[q]!
        · have R : Hid (l.take (q + 1) = m.take (q + 1)) := by unfold Hid; rw [take_snoc hql, take_snoc hqm, X.out.1, hxy]
          rw [hxy] at h1
          generalize m[q]! = x at *
          clear hxy hql hqm
          go_wp2
          go_quiet (fail)
          go_wp2
          go_roundw
          case rel => exact ⟨q + 1, by simp, hqn, R.out, X.out.2.drewN _⟩
          case measure => simp [intOf]; omega
        · have R : Hid (decide (l = m) = false) := decide_eq_false (fun e => hxy (by rw [e]))
          have hne : (l[q]! == m[q]!) = false := by rw [beq_eq_false_iff_ne]; exact hxy
          generalize l[q]! = x at *
          generalize m[q]! = y at *
          clear hxy hql hqm
          go_wp2
          go_quiet (fail)
          go_wp2
          go_ret
          exact ⟨by rw [R.out]; rfl, X.out.2.drewN _⟩
      · have R : Hid (decide (l = m) = true) := by
          have e := X.out.1
          have h1 := N.out
          have h2 := L.out
          rw [List.take_of_length_le (by omega), List.take_of_length_le (by omega)] at e
          exact decide_eq_true e
        go_wp2
        go_ret
        exact ⟨by rw [R.out]; rfl, X.out.2⟩
  · have R : Hid (decide (l = m) = false) := decide_eq_false (fun e => hlm (by rw [e]))
    have hne : ((l.length : Int) == (m.length : Int)) = false := by rw [beq_eq_false_iff_ne]; omega
    generalize l.length = n1 at *
    generalize m.length = n2 at *
    clear ha hb hlm
    go_enter Try.func9, Try.ntmps9
    go_wp2
    go_ret
    exact ⟨by rw [R.out]; rfl, Gr.refl _⟩
theorem ints_v {w : World} {u v : Value} {l m : List Int} (hu : RdI w u l) (hv : RdI w v m) (hlen : l.length ≤ 4611686018427387904) (r : Bool) (hr : decide (l = m) = r) :
    Calls Try.prog 9 #[u, v] w fun e w' => e = .returned (.bool r) ∧ Gr w w' := by
  subst hr; exact ints_c hu hv hlen

theorem rdi_two (W : World) (x y : Int) : RdI (W.alloc (.cells #[.int .i64 x, .int .i64 y] 3)) (.slice (some ⟨W.heap.size, 0, none⟩) 2 2) [x, y] := by
  refine ⟨_, 2, rfl, fun i hi => ⟨W.heap.size, 0, rfl, ?_⟩⟩
  have : i = 0 ∨ i = 1 := by simp at hi; omega
  rcases this with rfl | rfl <;> simp [go_sem]
theorem rdi_one (W : World) (x : Int) : RdI (W.alloc (.cells #[.int .i64 x] 3)) (.slice (some ⟨W.heap.size, 0, none⟩) 1 1) [x] := by
  refine ⟨_, 1, rfl, fun i hi => ⟨W.heap.size, 0, rfl, ?_⟩⟩
  have : i = 0 := by simp at hi; omega
  subst this; simp [go_sem]
end Go.Proofs.Ytmlincnmhjkjgaa
