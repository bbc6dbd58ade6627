/- Full and Same again: what they do to memory, to the draw. -/
import Derived.Test.YtfefojgncemohaaSame
namespace Go.Proofs.Ytfefojgncemohaa
open Go.RowKit Go.Sort
attribute [local go_sem ↓] Go.wp_at_zero Go.wp_at_succ

/-- All that came are draws. -/
def Dr (w w' : World) : Prop := ∃ z, w' = w.drewN z
theorem Dr.refl (w : World) : Dr w w := ⟨0, rfl⟩
theorem Dr.more {w w' : World} (h : Dr w w') (n : Nat) : Dr w (w'.drewN n) := by
  obtain ⟨z, rfl⟩ := h; exact ⟨z + n, by rw [World.drewN_drewN]⟩
theorem Dr.gr {w w' : World} (h : Dr w w') : Gr w w' := by
  obtain ⟨z, rfl⟩ := h; exact below_drewN (Below.refl _ _) _
set_option maxHeartbeats 1000000 in
theorem full18q {w : World} {hb : Nat} {k : Int} {v : Value} {d : Array Ht} (h : Hp w hb k v d) : Calls Try.prog 18 #[.pointer (some ⟨hb, 0, none⟩)] w fun e w' => e = .returned (.bool ((d.size : Int) == k)) ∧ Dr w w' := by
  have c0 := h.cell0
  have c1 := h.cell1
  obtain ⟨a, cap, rfl⟩ := h.form
  clear h
  generalize d.size = n at c1 ⊢
  go_enter Try.func18, Try.ntmps18
  go_wp2
  go_quiet (fail)
  go_wp2
  go_ret
  exact ⟨rfl, _, rfl⟩
theorem full_q {w : World} {hb k : Nat} {v : Value} {m : List Ht} (h : Has w hb k v m) : Calls Try.prog 18 #[.pointer (some ⟨hb, 0, none⟩)] w fun e w' => e = .returned (.bool ((m.length : Int) == (k : Int))) ∧ Dr w w' := by
  obtain ⟨d, hp, hm, pm, hs, hl, k1, k2⟩ := h
  have := full18q hp
  rwa [show d.size = m.length by have := pm.length_eq; simpa using this] at this

set_option maxHeartbeats 2000000 in
set_option maxRecDepth 100000 in
theorem same_q {w : World} {u v : Value} {l m : List Ht} (hu : Rd w u l) (hv' : Rd w v m) (hlen : l.length ≤ 4000) :
    Calls Try.prog 19 #[u, v] w fun e w' => e = .returned (.bool (decide (l = m))) ∧ Dr w w' := by
  obtain ⟨a, ca, rfl, ha⟩ := hu.form
  obtain ⟨b, cb, rfl, hb⟩ := hv'.form
  clear hu hv'
  by_cases hlm : l.length = m.length
  · have A : Hid (∀ i, i < l.length → ∃ b o, a = some ⟨b, o, none⟩ ∧ Lies w b o l) := ha
    have B : Hid (∀ i, i < m.length → ∃ b' o, b = some ⟨b', o, none⟩ ∧ Lies w b' o m) := hb
    have L : Hid (l.length = m.length) := hlm
    rw [← hlm]
    obtain ⟨n, hN⟩ : ∃ n, n = l.length := ⟨_, rfl⟩
    have N : Hid (n = l.length) := hN
    rw [← hN] at hlen ⊢
    clear ha hb hlm hN
    go_enter Try.func19, Try.ntmps19
    go_wp2
    go_loopw [5] (fun iv w' => ∃ q : Nat, iv = .int .i64 (q : Int) ∧ q ≤ n ∧ Hid (l.take q = m.take q ∧ Dr w w')) (fun iv _ => n - (intOf iv).toNat)
    case atStart => exact ⟨0, rfl, Nat.zero_le _, ⟨by simp, Dr.refl _⟩⟩
    case round =>
      obtain ⟨q, rfl, hq, X⟩ := hrel
      by_cases hqn : q < n
      · obtain ⟨b1, o1, ea, h1⟩ := A.out q (by have := N.out; omega)
        obtain ⟨b2, o2, eb, h2⟩ := B.out q (by have := L.out; have := N.out; omega)
        obtain ⟨x0, x1, x2⟩ := (h1.gr X.out.2.gr) q (by have := N.out; omega)
        obtain ⟨y0, y1, y2⟩ := (h2.gr X.out.2.gr) q (by have := L.out; have := N.out; omega)
        subst ea; subst eb
        have Q : Hid (q < l.length ∧ q < m.length) := ⟨by have := N.out; omega, by have := L.out; have := N.out; omega⟩
        obtain ⟨x, hx⟩ : ∃ x, x = l[q]! := ⟨_, rfl⟩
        obtain ⟨y, hy⟩ : ∃ y, y = m[q]! := ⟨_, rfl⟩
        have XY : Hid (x = l[q]! ∧ y = m[q]!) := ⟨hx, hy⟩
        rw [← hx] at x0 x1 x2
        rw [← hy] at y0 y1 y2
        clear hx hy h1 h2
        have hne := fun W => hv_ne x y W
        by_cases hxy : x = y
        · have E : Hid (x = y) := hxy
          rw [decide_eq_true hxy] at hne
          clear hxy
          go_wp2
          go_quiet (fail)
          go_wp2
          go_roundw
          case rel =>
            refine ⟨q + 1, by simp, hqn, ⟨?_, X.out.2.more _⟩⟩
            obtain ⟨e1, e2⟩ := XY.out
            have e3 := E.out
            rw [e1, e2, getElem!_pos l q Q.out.1, getElem!_pos m q Q.out.2] at e3
            rw [List.take_succ_eq_append_getElem Q.out.1, List.take_succ_eq_append_getElem Q.out.2, X.out.1, e3]
          case measure => simp [intOf]; omega
        · have E : Hid (l ≠ m) := by
            intro e
            obtain ⟨e1, e2⟩ := XY.out
            exact hxy (by rw [e1, e2, e])
          rw [decide_eq_false hxy] at hne
          have R : Hid (decide (l = m) = false) := decide_eq_false E.out
          clear hxy
          go_wp2
          go_quiet (fail)
          go_wp2
          go_ret
          exact ⟨by rw [R.out]; rfl, X.out.2.more _⟩
      · have R : Hid (decide (l = m) = true) := by
          have e := X.out.1
          have h1 := N.out
          have h2 := L.out
          rw [List.take_of_length_le (by omega), List.take_of_length_le (by omega)] at e
          exact decide_eq_true e
        go_wp2
        go_ret
        exact ⟨by rw [R.out]; rfl, X.out.2⟩
  · have R : Hid (decide (l = m) = false) := decide_eq_false (fun e => hlm (by rw [e]))
    have hne : ((l.length : Int) == (m.length : Int)) = false := by rw [beq_eq_false_iff_ne]; omega
    generalize l.length = n1 at *
    generalize m.length = n2 at *
    clear ha hb hlm
    go_enter Try.func19, Try.ntmps19
    go_wp2
    go_ret
    exact ⟨by rw [R.out]; rfl, Dr.refl _⟩
end Go.Proofs.Ytfefojgncemohaa
