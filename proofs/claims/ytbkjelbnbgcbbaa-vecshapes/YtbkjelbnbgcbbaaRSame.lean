/- The reference's Ints and Same. -/
import Derived.Test.YtbkjelbnbgcbbaaKeep
namespace Go.Proofs.Ytbkjelbnbgcbbaa
open Go.RowKit Go.Sort Go.Maps

set_option maxHeartbeats 2000000 in
set_option maxRecDepth 100000 in
theorem rints_c {w : World} {u v : Value} {l m : List Int} (hu : RdI w u l) (hv : RdI w v m) (hlen : l.length ≤ 4611686018427387904) :
    Calls Try.prog 33 #[u, v] w fun e w' => e = .returned (.bool (decide (l = m))) ∧ Gr w w' := by
  obtain ⟨a, ca, rfl, ha⟩ := hu
  obtain ⟨b, cb, rfl, hb⟩ := hv
  by_cases hlm : l.length = m.length
  · have A : Hid (∀ i, i < l.length → ∃ b o, a = some ⟨b, o, none⟩ ∧ w.cell? ⟨b, o + i, none⟩ = some (.int .i64 l[i]!)) := ha
    have B : Hid (∀ i, i < m.length → ∃ b' o, b = some ⟨b', o, none⟩ ∧ w.cell? ⟨b', o + i, none⟩ = some (.int .i64 m[i]!)) := hb
    have L : Hid (l.length = m.length) := hlm
    rw [← hlm]
    obtain ⟨n, hN⟩ : ∃ n, n = l.length := ⟨_, rfl⟩
    have N : Hid (n = l.length) := hN
    rw [← hN] at hlen ⊢
    clear ha hb hlm hN
    go_enter Try.func33, Try.ntmps33
    go_wp2
    go_loopw [5] (fun iv w' => ∃ q : Nat, iv = .int .i64 (q : Int) ∧ q ≤ n ∧ Hid (l.take q = m.take q ∧ Gr w w')) (fun iv _ => n - (intOf iv).toNat)
    case atStart => exact ⟨0, rfl, Nat.zero_le _, ⟨by simp, Gr.refl _⟩⟩
    case round =>
      obtain ⟨q, rfl, hq, X⟩ := hrel
      by_cases hqn : q < n
      · have hql : q < l.length := by have := N.out; omega
        have hqm : q < m.length := by have := L.out; omega
        obtain ⟨b1, o1, ea, h1⟩ := A.out q hql
        obtain ⟨b2, o2, eb, h2⟩ := B.out q hqm
        subst ea; subst eb
        have h1 := X.out.2.keeps h1
        have h2 := X.out.2.keeps h2
        by_cases hxy : l[q]! = m[q]!
        · have R : Hid (l.take (q + 1) = m.take (q + 1)) := by unfold Hid; rw [take_snoc hql, take_snoc hqm, X.out.1, hxy]
          rw [hxy] at h1
          generalize m[q]! = x at *
          clear hxy hql hqm
          go_wp2
          go_quiet (fail)
          go_wp2
          go_roundw
          case rel => exact ⟨q + 1, by simp, hqn, R.out, X.out.2.drewN _⟩
          case measure => simp [intOf]; omega
        · have R : Hid (decide (l = m) = false) := decide_eq_false (fun e => hxy (by rw [e]))
          have hne : (l[q]! == m[q]!) = false := by rw [beq_eq_false_iff_ne]; exact hxy
          generalize l[q]! = x at *
          generalize m[q]! = y at *
          clear hxy hql hqm
          go_wp2
          go_quiet (fail)
          go_wp2
          go_ret
          exact ⟨by rw [R.out]; rfl, X.out.2.drewN _⟩
      · have R : Hid (decide (l = m) = true) := by
          have e := X.out.1
          have h1 := N.out
          have h2 := L.out
          rw [List.take_of_length_le (by omega), List.take_of_length_le (by omega)] at e
          exact decide_eq_true e
        go_wp2
        go_ret
        exact ⟨by rw [R.out]; rfl, X.out.2⟩
  · have R : Hid (decide (l = m) = false) := decide_eq_false (fun e => hlm (by rw [e]))
    have hne : ((l.length : Int) == (m.length : Int)) = false := by rw [beq_eq_false_iff_ne]; omega
    generalize l.length = n1 at *
    generalize m.length = n2 at *
    clear ha hb hlm
    go_enter Try.func33, Try.ntmps33
    go_wp2
    go_ret
    exact ⟨by rw [R.out]; rfl, Gr.refl _⟩
theorem rints_v {w : World} {u v : Value} {l m : List Int} (hu : RdI w u l) (hv : RdI w v m) (hlen : l.length ≤ 4611686018427387904) (r : Bool) (hr : decide (l = m) = r) :
    Calls Try.prog 33 #[u, v] w fun e w' => e = .returned (.bool r) ∧ Gr w w' := by
  subst hr; exact rints_c hu hv hlen

theorem wd_same (a b : Int) (W : World) : (binOp .eql 29 (.agg #[.int .u64 a, .int .u64 b]) (.agg #[.int .u64 a, .int .u64 b])).run Try.prog W = .ok (.bool true) W := by
  rw [wd_run]; simp
set_option maxHeartbeats 4000000 in
set_option maxRecDepth 100000 in
theorem rsame_c {w : World} {u v : Value} {r : Reg} (hu : RdR w u r) (hv : RdR w v r) (hL : r.L.length ≤ 4611686018427387904) (hH : r.H.length ≤ 4611686018427387904) (hI : r.I.length ≤ 4611686018427387904) :
    Calls Try.prog 12 #[u, v] w fun e w' => e = .returned (.bool true) ∧ Gr w w' := by
  obtain ⟨l1, h1, i1, rfl, a1, b1, d1⟩ := hu
  obtain ⟨l2, h2, i2, rfl, a2, b2, d2⟩ := hv
  have cL := fun W (g : Gr w W) => rints_v (a1.gb g.gb) (a2.gb g.gb) hL true (by simp)
  have cH := fun W (g : Gr w W) => rints_v (b1.gb g.gb) (b2.gb g.gb) hH true (by simp)
  have cI := fun W (g : Gr w W) => rints_v (d1.gb g.gb) (d2.gb g.gb) hI true (by simp)
  have hw := fun W => wd_same (hi r.R) (lo r.R) W
  have G0 : Gr w ((w.alloc (.cells #[.int .i64 r.S, l1, h1, .int .u64 (hi r.R), .int .u64 (lo r.R), i1] 31)).alloc (.cells #[.int .i64 r.S, l2, h2, .int .u64 (hi r.R), .int .u64 (lo r.R), i2] 31)) := ((Gr.refl _).alloc _ _).alloc _ _
  obtain ⟨p1, q1, rfl, _⟩ := a1
  obtain ⟨p2, q2, rfl, _⟩ := a2
  obtain ⟨p3, q3, rfl, _⟩ := b1
  obtain ⟨p4, q4, rfl, _⟩ := b2
  obtain ⟨p5, q5, rfl, _⟩ := d1
  obtain ⟨p6, q6, rfl, _⟩ := d2
  generalize r.L.length = nl at *
  generalize r.H.length = nh at *
  generalize r.I.length = ni at *
  go_enter Try.func12, Try.ntmps12
  go_wp2_with fail
  refine (cL _ G0).mono ?_
  rintro e w1 ⟨rfl, g1⟩
  have k2 := g1.keeps (p := ⟨w.heap.size, 2, none⟩) (v := .slice p3 nh q3) (by simp [go_sem])
  have k3 := g1.keeps (p := ⟨w.heap.size + 1, 2, none⟩) (v := .slice p4 nh q4) (by simp [go_sem])
  have k4 := g1.keeps (p := ⟨w.heap.size, 5, none⟩) (v := .slice p5 ni q5) (by simp [go_sem])
  have k5 := g1.keeps (p := ⟨w.heap.size + 1, 5, none⟩) (v := .slice p6 ni q6) (by simp [go_sem])
  have G1 := G0.trans g1
  clear G0 g1
  go_wp2_with fail
  refine (cH _ G1).mono ?_
  rintro e w2 ⟨rfl, g2⟩
  replace k4 := g2.keeps k4
  replace k5 := g2.keeps k5
  have G2 := G1.trans g2
  clear G1 g2
  go_wp2_with fail
  refine (cI _ G2).mono ?_
  rintro e w3 ⟨rfl, g3⟩
  go_wp2
  go_ret
  exact ⟨rfl, G2.trans g3⟩
end Go.Proofs.Ytbkjelbnbgcbbaa
