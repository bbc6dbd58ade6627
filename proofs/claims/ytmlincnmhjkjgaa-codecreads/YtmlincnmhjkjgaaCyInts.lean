/- Lists of whole numbers that are read; vec.isDim, vec.Check and the reference's Check. -/
import Derived.Test.YtmlincnmhjkjgaaCy1
import Derived.Sort.Grow
import Derived.Deep.RegionWith
import Derived.BigQuiet
namespace Go.Proofs.Ytmlincnmhjkjgaa
open Go.RowKit

/-- Nothing that was there has turned. -/
abbrev Gb (w w' : World) : Prop := Below w.heap.size w w'
theorem gb_trans {a b c : World} (h : Gb a b) (k : Gb b c) : Gb a c := h.trans (k.mono h.size)
theorem gb_alloc {a w : World} (h : Gb a w) (o : Obj) : Gb a (w.alloc o) := h.alloc h.size o
theorem gb_keeps {a b : World} (h : Gb a b) {p : Addr} {v : Value} (hc : a.cell? p = some v) : b.cell? p = some v :=
  (h.cell (World.block_lt_of_cell? a p hc)).trans hc
theorem gb_set {a w : World} (h : Gb a w) {p : Addr} (hp : a.heap.size ≤ p.block) (u : Value) : Gb a (w.setCell p u) := h.setCell hp u

/-- The slice v reads as these numbers. -/
def RdI (w : World) (v : Value) (l : List Int) : Prop := ∃ a cap, v = .slice a l.length cap ∧ ∀ i, i < l.length → ∃ b o, a = some ⟨b, o, none⟩ ∧ w.cell? ⟨b, o + i, none⟩ = some (.int .i64 l[i]!)
theorem RdI.gb {w w' : World} {v : Value} {l : List Int} (h : RdI w v l) (g : Gb w w') : RdI w' v l := by
  obtain ⟨a, cap, e, h⟩ := h
  refine ⟨a, cap, e, fun i hi => ?_⟩
  obtain ⟨b, o, e1, e2⟩ := h i hi
  exact ⟨b, o, e1, gb_keeps g e2⟩
theorem rdi_nil (w : World) : RdI w (.slice none 0 0) [] := ⟨none, 0, rfl, fun _ hi => absurd hi (Nat.not_lt_zero _)⟩

/-- A coordinate that may be; a list of such. -/
def inR (x : Int) : Bool := decide (-2147483647 ≤ x) && decide (x ≤ 2147483647)
theorem inR_iff (x : Int) : inR x = true ↔ -2147483647 ≤ x ∧ x ≤ 2147483647 := by simp [inR]
def allR (l : List Int) : Bool := l.all inR
theorem allR_get {l : List Int} (h : allR l = true) {i : Nat} (hi : i < l.length) : -2147483647 ≤ l[i]! ∧ l[i]! ≤ 2147483647 := by
  rw [← inR_iff, getElem!_pos l i hi]
  exact List.all_eq_true.1 h _ (List.getElem_mem hi)
theorem allR_take {l : List Int} {q : Nat} (hq : q < l.length) (h : allR (l.take q) = true) (hx : inR l[q]! = true) : allR (l.take (q + 1)) = true := by
  unfold allR at *
  rw [List.take_succ_eq_append_getElem hq, List.all_append, h, getElem!_pos l q hq] at *
  simpa using hx
theorem allR_no {l : List Int} {q : Nat} (hq : q < l.length) (hx : inR l[q]! = false) : allR l = false := by
  unfold allR
  rw [List.all_eq_false]
  refine ⟨l[q], List.getElem_mem hq, ?_⟩
  rw [getElem!_pos l q hq] at hx
  simp [hx]
def vErr (l : List Int) : Int := if allR l = true then 0 else 31
/-- What Check answers. -/
def chk (l : List Int) (dim : Int) : Int := if 1 ≤ dim ∧ dim ≤ 64 ∧ (l.length : Int) = dim then (vErr l) else 30

theorem isDim_c (d : Int) (w : World) : Calls Try.prog 39 #[.int .i64 d] w fun e w' => e = .returned (.bool (decide (1 ≤ d) && decide (d ≤ 64))) ∧ w = w' := by
  by_cases h : 1 ≤ d
  · go_enter Try.func39, Try.ntmps39
    go_wp2
    go_ret
    exact ⟨by simp [h], rfl⟩
  · go_enter Try.func39, Try.ntmps39
    go_wp2
    go_ret
    exact ⟨by simp; omega, rfl⟩
theorem isDim_v (d : Int) (b : Bool) (h : (decide (1 ≤ d) && decide (d ≤ 64)) = b) (w : World) : Calls Try.prog 39 #[.int .i64 d] w fun e w' => e = .returned (.bool b) ∧ w = w' := by
  subst h; exact isDim_c d w

set_option maxHeartbeats 1000000 in
theorem check_no {w : World} {v : Value} {l : List Int} (h : RdI w v l) (d : Int) (hn : ¬ (1 ≤ d ∧ d ≤ 64 ∧ (l.length : Int) = d)) :
    Calls Try.prog 28 #[v, .int .i64 d] w fun e w' => e = .returned (.int .i64 30) ∧ w = w' := by
  obtain ⟨a, cap, rfl, ha⟩ := h
  clear ha
  generalize l.length = n at *
  by_cases h1 : (decide (1 ≤ d) && decide (d ≤ 64)) = true
  · have h2 : ((n : Int) == d) = false := by rw [beq_eq_false_iff_ne]; simp at h1; omega
    have c := fun W => isDim_v d true h1 W
    clear hn h1
    go_enter Try.func28, Try.ntmps28
    go_wp2_with (go_at_call 39; refine (c _).mono ?_; rintro e w' ⟨rfl, rfl⟩)
    go_ret
    exact ⟨rfl, rfl⟩
  · have c := fun W => isDim_v d false (by simpa using h1) W
    clear hn h1
    go_enter Try.func28, Try.ntmps28
    go_wp2_with (go_at_call 39; refine (c _).mono ?_; rintro e w' ⟨rfl, rfl⟩)
    go_ret
    exact ⟨rfl, rfl⟩

set_option maxHeartbeats 2000000 in
set_option maxRecDepth 100000 in
theorem check_in {w : World} {v : Value} {l : List Int} (h : RdI w v l) (hn : 1 ≤ l.length ∧ l.length ≤ 64) :
    Calls Try.prog 28 #[v, .int .i64 (l.length : Int)] w fun e w' => e = .returned (.int .i64 (vErr l)) ∧ w = w' := by
  obtain ⟨a, cap, rfl, ha⟩ := h
  have A : Hid (∀ i, i < l.length → ∃ b o, a = some ⟨b, o, none⟩ ∧ w.cell? ⟨b, o + i, none⟩ = some (.int .i64 l[i]!)) := ha
  obtain ⟨n, hN⟩ : ∃ n, n = l.length := ⟨_, rfl⟩
  have N : Hid (n = l.length) := hN
  rw [← hN] at hn ⊢
  obtain ⟨hn1, hn2⟩ := hn
  have c := fun W => isDim_v (n : Int) true (by simp; omega) W
  clear ha hN
  go_enter Try.func28, Try.ntmps28
  go_wp2_with (go_at_call 39; refine (c _).mono ?_; rintro e w' ⟨rfl, rfl⟩)
  go_loopw [18] (fun iv w' => ∃ q : Nat, iv = .int .i64 (q : Int) ∧ q ≤ n ∧ w = w' ∧ Hid (allR (l.take q) = true)) (fun iv _ => n - (intOf iv).toNat)
  case atStart => exact ⟨0, rfl, Nat.zero_le _, rfl, by simp [Hid, allR]⟩
  case round =>
    obtain ⟨q, rfl, hq, rfl, X⟩ := hrel
    by_cases hqn : q < n
    · have hqi : (q : Int) < (n : Int) := by omega
      obtain ⟨b, o, ea, hc⟩ := A.out q (by have := N.out; omega)
      subst ea
      obtain ⟨x, hx⟩ : ∃ x, x = l[q]! := ⟨_, rfl⟩
      rw [← hx] at hc
      have XX : Hid (x = l[q]! ∧ q < l.length) := ⟨hx, by have := N.out; omega⟩
      clear hx
      by_cases h1 : x < -2147483647
      · have R : Hid (vErr l = 31) := by unfold Hid vErr; rw [allR_no XX.out.2 (by rw [← XX.out.1, ← Bool.not_eq_true, inR_iff]; omega)]; rfl
        go_wp2
        go_ret
        exact ⟨by rw [R.out]; rfl, by first | rfl | trivial⟩
      by_cases h2 : x > 2147483647
      · have R : Hid (vErr l = 31) := by unfold Hid vErr; rw [allR_no XX.out.2 (by rw [← XX.out.1, ← Bool.not_eq_true, inR_iff]; omega)]; rfl
        go_wp2
        go_ret
        exact ⟨by rw [R.out]; rfl, by first | rfl | trivial⟩
      · have R : Hid (allR (l.take (q + 1)) = true) := allR_take XX.out.2 X.out (by rw [← XX.out.1, inR_iff]; omega)
        go_wp2
        go_roundw
        case rel => exact ⟨q + 1, by simp, hqn, by first | rfl | trivial, R⟩
        case measure => simp [intOf]; omega
    · have hqi : ¬ (q : Int) < (n : Int) := by omega
      have R : Hid (vErr l = 0) := by
        have := X.out
        rw [List.take_of_length_le (by have := N.out; omega)] at this
        unfold Hid vErr; rw [this]; rfl
      go_wp2
      go_ret
      exact ⟨by rw [R.out]; rfl, by first | rfl | trivial⟩

theorem check_c {w : World} {v : Value} {l : List Int} (h : RdI w v l) (d : Int) :
    Calls Try.prog 28 #[v, .int .i64 d] w fun e w' => e = .returned (.int .i64 (chk l d)) ∧ w = w' := by
  unfold chk
  by_cases hn : 1 ≤ d ∧ d ≤ 64 ∧ (l.length : Int) = d
  · rw [if_pos hn]
    obtain ⟨h1, h2, rfl⟩ := hn
    exact check_in h (by omega)
  · rw [if_neg hn]
    exact check_no h d hn
theorem check_v {w : World} {v : Value} {l : List Int} (h : RdI w v l) (d r : Int) (hr : chk l d = r) :
    Calls Try.prog 28 #[v, .int .i64 d] w fun e w' => e = .returned (.int .i64 r) ∧ w = w' := by
  subst hr; exact check_c h d
end Go.Proofs.Ytmlincnmhjkjgaa
