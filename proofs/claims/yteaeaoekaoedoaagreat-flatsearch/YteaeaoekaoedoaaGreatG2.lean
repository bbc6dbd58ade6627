import Derived.Test.YteaeaoekaoedoaaGreatM1
import Derived.Sort.Grow
import Derived.Deep.RegionWith
import Derived.BigQuiet
/- Lists of whole numbers that are read; vec.isDim, vec.Check and the reference's Check. -/
namespace Go.Proofs.YteaeaoekaoedoaaGreat
open Go.RowKit

/-- Nothing that was there has turned. -/
abbrev Gb (w w' : World) : Prop := Below w.heap.size w w'
theorem gb_trans {a b c : World} (h : Gb a b) (k : Gb b c) : Gb a c := h.trans (k.mono h.size)
theorem gb_alloc {a w : World} (h : Gb a w) (o : Obj) : Gb a (w.alloc o) := h.alloc h.size o
theorem gb_keeps {a b : World} (h : Gb a b) {p : Addr} {v : Value} (hc : a.cell? p = some v) : b.cell? p = some v :=
  (h.cell (World.block_lt_of_cell? a p hc)).trans hc
theorem gb_set {a w : World} (h : Gb a w) {p : Addr} (hp : a.heap.size ≤ p.block) (u : Value) : Gb a (w.setCell p u) := h.setCell hp u

/-- The slice v reads as these numbers. -/
def RdI (w : World) (v : Value) (l : List Int) : Prop := ∃ a cap, v = .slice a l.length cap ∧ ∀ i, i < l.length → ∃ b o, a = some ⟨b, o, none⟩ ∧ w.cell? ⟨b, o + i, none⟩ = some (.int .i64 l[i]!)
theorem RdI.gb {w w' : World} {v : Value} {l : List Int} (h : RdI w v l) (g : Gb w w') : RdI w' v l := by
  obtain ⟨a, cap, e, h⟩ := h
  refine ⟨a, cap, e, fun i hi => ?_⟩
  obtain ⟨b, o, e1, e2⟩ := h i hi
  exact ⟨b, o, e1, gb_keeps g e2⟩
theorem rdi_nil (w : World) : RdI w (.slice none 0 0) [] := ⟨none, 0, rfl, fun _ hi => absurd hi (Nat.not_lt_zero _)⟩

/-- A coordinate that may be; a list of such. -/
def inR (x : Int) : Bool := decide (-2147483647 ≤ x) && decide (x ≤ 2147483647)
theorem inR_iff (x : Int) : inR x = true ↔ -2147483647 ≤ x ∧ x ≤ 2147483647 := by simp [inR]
def allR (l : List Int) : Bool := l.all inR
theorem allR_get {l : List Int} (h : allR l = true) {i : Nat} (hi : i < l.length) : -2147483647 ≤ l[i]! ∧ l[i]! ≤ 2147483647 := by
  rw [← inR_iff, getElem!_pos l i hi]
  exact List.all_eq_true.1 h _ (List.getElem_mem hi)
theorem allR_take {l : List Int} {q : Nat} (hq : q < l.length) (h : allR (l.take q) = true) (hx : inR l[q]! = true) : allR (l.take (q + 1)) = true := by
  unfold allR at *
  rw [List.take_succ_eq_append_getElem hq, List.all_append, h, getElem!_pos l q hq] at *
  simpa using hx
theorem allR_no {l : List Int} {q : Nat} (hq : q < l.length) (hx : inR l[q]! = false) : allR l = false := by
  unfold allR
  rw [List.all_eq_false]
  refine ⟨l[q], List.getElem_mem hq, ?_⟩
  rw [getElem!_pos l q hq] at hx
  simp [hx]
def vErr (l : List Int) : Int := if allR l = true then 0 else 31
/-- What Check answers. -/
def chk (l : List Int) (dim : Int) : Int := if 1 ≤ dim ∧ dim ≤ 64 ∧ (l.length : Int) = dim then (vErr l) else 30

theorem isDim_c (d : Int) (w : World) : Calls Tryz.prog 51 #[.int .i64 d] w fun e w' => e = .returned (.bool (decide (1 ≤ d) && decide (d ≤ 64))) ∧ w = w' := by
  by_cases h : 1 ≤ d
  · go_enter Tryz.func51, Tryz.ntmps51
    go_wp2
    go_ret
    exact ⟨by simp [h], rfl⟩
  · go_enter Tryz.func51, Tryz.ntmps51
    go_wp2
    go_ret
    exact ⟨by simp; omega, rfl⟩
theorem isDim_v (d : Int) (b : Bool) (h : (decide (1 ≤ d) && decide (d ≤ 64)) = b) (w : World) : Calls Tryz.prog 51 #[.int .i64 d] w fun e w' => e = .returned (.bool b) ∧ w = w' := by
  subst h; exact isDim_c d w

set_option maxHeartbeats 1000000 in
theorem check_no {w : World} {v : Value} {l : List Int} (h : RdI w v l) (d : Int) (hn : ¬ (1 ≤ d ∧ d ≤ 64 ∧ (l.length : Int) = d)) :
    Calls Tryz.prog 58 #[v, .int .i64 d] w fun e w' => e = .returned (.int .i64 30) ∧ w = w' := by
  obtain ⟨a, cap, rfl, ha⟩ := h
  clear ha
  generalize l.length = n at *
  by_cases h1 : (decide (1 ≤ d) && decide (d ≤ 64)) = true
  · have h2 : ((n : Int) == d) = false := by rw [beq_eq_false_iff_ne]; simp at h1; omega
    have c := fun W => isDim_v d true h1 W
    clear hn h1
    go_enter Tryz.func58, Tryz.ntmps58
    go_wp2_with (go_at_call 51; refine (c _).mono ?_; rintro e w' ⟨rfl, rfl⟩)
    go_ret
    exact ⟨rfl, rfl⟩
  · have c := fun W => isDim_v d false (by simpa using h1) W
    clear hn h1
    go_enter Tryz.func58, Tryz.ntmps58
    go_wp2_with (go_at_call 51; refine (c _).mono ?_; rintro e w' ⟨rfl, rfl⟩)
    go_ret
    exact ⟨rfl, rfl⟩

set_option maxHeartbeats 2000000 in
set_option maxRecDepth 100000 in
theorem check_in {w : World} {v : Value} {l : List Int} (h : RdI w v l) (hn : 1 ≤ l.length ∧ l.length ≤ 64) :
    Calls Tryz.prog 58 #[v, .int .i64 (l.length : Int)] w fun e w' => e = .returned (.int .i64 (vErr l)) ∧ w = w' := by
  obtain ⟨a, cap, rfl, ha⟩ := h
  have A : Hid (∀ i, i < l.length → ∃ b o, a = some ⟨b, o, none⟩ ∧ w.cell? ⟨b, o + i, none⟩ = some (.int .i64 l[i]!)) := ha
  obtain ⟨n, hN⟩ : ∃ n, n = l.length := ⟨_, rfl⟩
  have N : Hid (n = l.length) := hN
  rw [← hN] at hn ⊢
  obtain ⟨hn1, hn2⟩ := hn
  have c := fun W => isDim_v (n : Int) true (by simp; omega) W
  clear ha hN
  go_enter Tryz.func58, Tryz.ntmps58
  go_wp2_with (go_at_call 51; refine (c _).mono ?_; rintro e w' ⟨rfl, rfl⟩)
  go_loopw [18] (fun iv w' => ∃ q : Nat, iv = .int .i64 (q : Int) ∧ q ≤ n ∧ w = w' ∧ Hid (allR (l.take q) = true)) (fun iv _ => n - (intOf iv).toNat)
  case atStart => exact ⟨0, rfl, Nat.zero_le _, rfl, by simp [Hid, allR]⟩
  case round =>
    obtain ⟨q, rfl, hq, rfl, X⟩ := hrel
    by_cases hqn : q < n
    · have hqi : (q : Int) < (n : Int) := by omega
      obtain ⟨b, o, ea, hc⟩ := A.out q (by have := N.out; omega)
      subst ea
      obtain ⟨x, hx⟩ : ∃ x, x = l[q]! := ⟨_, rfl⟩
      rw [← hx] at hc
      have XX : Hid (x = l[q]! ∧ q < l.length) := ⟨hx, by have := N.out; omega⟩
      clear hx
      by_cases h1 : x < -2147483647
      · have R : Hid (vErr l = 31) := by unfold Hid vErr; rw [allR_no XX.out.2 (by rw [← XX.out.1, ← Bool.not_eq_true, inR_iff]; omega)]; rfl
        go_wp2
        go_ret
        exact ⟨by rw [R.out]; rfl, by first | rfl | trivial⟩
      by_cases h2 : x > 2147483647
      · have R : Hid (vErr l = 31) := by unfold Hid vErr; rw [allR_no XX.out.2 (by rw [← XX.out.1, ← Bool.not_eq_true, inR_iff]; omega)]; rfl
        go_wp2
        go_ret
        exact ⟨by rw [R.out]; rfl, by first | rfl | trivial⟩
      · have R : Hid (allR (l.take (q + 1)) = true) := allR_take XX.out.2 X.out (by rw [← XX.out.1, inR_iff]; omega)
        go_wp2
        go_roundw
        case rel => exact ⟨q + 1, by simp, hqn, by first | rfl | trivial, R⟩
        case measure => simp [intOf]; omega
    · have hqi : ¬ (q : Int) < (n : Int) := by omega
      have R : Hid (vErr l = 0) := by
        have := X.out
        rw [List.take_of_length_le (by have := N.out; omega)] at this
        unfold Hid vErr; rw [this]; rfl
      go_wp2
      go_ret
      exact ⟨by rw [R.out]; rfl, by first | rfl | trivial⟩

theorem check_c {w : World} {v : Value} {l : List Int} (h : RdI w v l) (d : Int) :
    Calls Tryz.prog 58 #[v, .int .i64 d] w fun e w' => e = .returned (.int .i64 (chk l d)) ∧ w = w' := by
  unfold chk
  by_cases hn : 1 ≤ d ∧ d ≤ 64 ∧ (l.length : Int) = d
  · rw [if_pos hn]
    obtain ⟨h1, h2, rfl⟩ := hn
    exact check_in h (by omega)
  · rw [if_neg hn]
    exact check_no h d hn
theorem check_v {w : World} {v : Value} {l : List Int} (h : RdI w v l) (d r : Int) (hr : chk l d = r) :
    Calls Tryz.prog 58 #[v, .int .i64 d] w fun e w' => e = .returned (.int .i64 r) ∧ w = w' := by
  subst hr; exact check_c h d
end Go.Proofs.YteaeaoekaoedoaaGreat

/- vec.side, its closure, vec.withSquare. -/
namespace Go.Proofs.YteaeaoekaoedoaaGreat
open Go.RowKit

/-- How much x lies below low, or above high. -/
def gap (l h x : Int) : Nat := if x < l then (l - x).toNat else if h < x then (x - h).toNat else 0

theorem side_c (l h : Int) (w : World) : Calls Tryz.prog 103 #[.int .i64 l, .int .i64 h] w fun e w' =>
    e = .returned (.func (.func 125) #[] #[.pointer (some ⟨w.heap.size, 0, none⟩), .pointer (some ⟨w.heap.size + 1, 0, none⟩)]) ∧ w' = (w.alloc (.cells #[.int .i64 l] 3)).alloc (.cells #[.int .i64 h] 3) := by
  go_enter Tryz.func103, Tryz.ntmps103
  go_wp2
  go_ret
  exact ⟨rfl, rfl⟩

set_option maxHeartbeats 1000000 in
theorem side1_c (l h x : Int) (hl : -2147483647 ≤ l ∧ l ≤ 2147483647) (hh : -2147483647 ≤ h ∧ h ≤ 2147483647) (hx : -2147483647 ≤ x ∧ x ≤ 2147483647) (b c : Nat) (w : World)
    (c0 : w.cell? ⟨b, 0, none⟩ = some (.int .i64 l)) (c1 : w.cell? ⟨c, 0, none⟩ = some (.int .i64 h)) :
    Calls Tryz.prog 125 #[.int .i64 x, .pointer (some ⟨b, 0, none⟩), .pointer (some ⟨c, 0, none⟩)] w fun e w' => e = .returned (.int .u64 (gap l h x : Int)) ∧ w = w' := by
  obtain ⟨l0, l1⟩ := hl
  obtain ⟨h0, h1⟩ := hh
  obtain ⟨x0, x1⟩ := hx
  by_cases k1 : x < l
  · have G : Hid ((gap l h x : Int) = l - x) := by unfold Hid gap; rw [if_pos k1]; omega
    go_enter Tryz.func125, Tryz.ntmps125
    go_wp2
    go_ret
    exact ⟨by rw [G.out]; simp, rfl⟩
  by_cases k2 : h < x
  · have G : Hid ((gap l h x : Int) = x - h) := by unfold Hid gap; rw [if_neg k1, if_pos k2]; omega
    go_enter Tryz.func125, Tryz.ntmps125
    go_wp2
    go_ret
    exact ⟨by rw [G.out]; simp, rfl⟩
  · have G : Hid ((gap l h x : Int) = 0) := by unfold Hid gap; rw [if_neg k1, if_neg k2]; rfl
    go_enter Tryz.func125, Tryz.ntmps125
    go_wp2
    go_ret
    exact ⟨by rw [G.out]; rfl, rfl⟩

set_option maxHeartbeats 2000000 in
theorem withSquare_c (s n : Nat) (hn : n < 18446744073709551616) (hs : s + n * n < 340282366920938463463374607431768211456) (w : World) :
    Calls Tryz.prog 102 #[Wd s, .int .u64 (n : Int)] w fun e w' => e = .returned (Wd (s + n * n)) ∧ Gr w w' := by
  have c0 : ((w.alloc (.cells #[.int .u64 (hi s), .int .u64 (lo s)] 39)).alloc (.cells #[.int .u64 0, .int .u64 0] 39)).cell? ⟨w.heap.size, 0, none⟩ = some (.int .u64 (hi s)) := by simp [go_sem]
  have c1 : ((w.alloc (.cells #[.int .u64 (hi s), .int .u64 (lo s)] 39)).alloc (.cells #[.int .u64 0, .int .u64 0] 39)).cell? ⟨w.heap.size, 1, none⟩ = some (.int .u64 (lo s)) := by simp [go_sem]
  have l1 : ∀ n : Nat, n < n + 1 := fun n => by omega
  have l2 := lt_two
  have l3 := lt_three
  go_enter Tryz.func102, Tryz.ntmps102
  go_wp2
  go_region_held3 (fun w' => w'.cell? ⟨w.heap.size, 0, none⟩ = some (.int .u64 (hi s)) ∧ w'.cell? ⟨w.heap.size, 1, none⟩ = some (.int .u64 (lo s))) (first | exact ⟨c0, c1⟩ | exact call_keeps2 (by assumption) (by assumption) | exact alloc_keeps2 (by assumption) | exact alloc_keeps2 ⟨c0, c1⟩ | exact alloc_keeps2 (call_keeps2 g2 (call_keeps2 g1 ⟨c0, c1⟩)) | exact set_far2 (by dsimp only; omega) (by dsimp only; omega) (set_far2 (by dsimp only; omega) (by dsimp only; omega) (by assumption)))
    (first
      | (go_at_call 124; refine (mul_any n n hn hn _).mono ?_; rintro e w1 ⟨rfl, g1⟩; obtain ⟨hc1, hf1, hz1⟩ := g1.rules; have z1 := g1.size; simp only [World.size_alloc, World.size_drew] at z1)
      | (go_at_call 123; refine (add_ok s (n * n) hs _).mono ?_; rintro e w2 ⟨rfl, g2⟩; obtain ⟨hc2, hf2, hz2⟩ := g2.rules))
  · have hG : Gr ((w.alloc (.cells #[.int .u64 (hi s), .int .u64 (lo s)] 39)).alloc (.cells #[.int .u64 0, .int .u64 0] 39)) (w2.alloc (.cells #[.int .u64 (hi (s + n * n)), .int .u64 (lo (s + n * n))] 39)) := ((((Gr.refl _).drew.trans g1).trans g2).alloc _ _)
    have hV := hG.var2; simp only [World.size_alloc] at hV; obtain ⟨v0, v1, v2, v3⟩ := hV
    go_wp2
    exact bodyPost_ret (v := Wd (s + n * n)) (by simp [results, Tryz.results102, go_sem, v0, v1]) rfl ⟨rfl, by repeat (first | exact ((Gr.refl _).alloc _ _).trans (((Gr.refl _).alloc _ _).trans hG) | refine Gr.setCell ?_ (by simp) _)⟩
  · have hq := g2.var2
    obtain ⟨q0, q1, q2, q3⟩ := hq
    have hG : Gr ((w.alloc (.cells #[.int .u64 (hi s), .int .u64 (lo s)] 39)).alloc (.cells #[.int .u64 0, .int .u64 0] 39)) ((w2.setCell ⟨w1.heap.size, 0, none⟩ (.int .u64 (hi (s + n * n)))).setCell ⟨w1.heap.size, 1, none⟩ (.int .u64 (lo (s + n * n)))) := ((((((Gr.refl _).drew.trans g1).alloc _ _).trans g2).setCell (by simp; omega) _).setCell (by simp; omega) _)
    have hV := hG.var2; simp only [World.size_alloc] at hV; obtain ⟨v0, v1, v2, v3⟩ := hV
    go_wp2
    exact bodyPost_ret (v := Wd (s + n * n)) (by simp [results, Tryz.results102, go_sem, v0, v1]) rfl ⟨rfl, by repeat (first | exact ((Gr.refl _).alloc _ _).trans (((Gr.refl _).alloc _ _).trans hG) | refine Gr.setCell ?_ (by simp) _)⟩
  · have hq := (((Gr.refl _).drew.trans g1).trans g2).var2
    simp only [World.size_alloc] at hq
    obtain ⟨q0, q1, q2, q3⟩ := hq
    have hG : Gr ((w.alloc (.cells #[.int .u64 (hi s), .int .u64 (lo s)] 39)).alloc (.cells #[.int .u64 0, .int .u64 0] 39)) ((w2.setCell ⟨w.heap.size + 1 + 1, 0, none⟩ (.int .u64 (hi (s + n * n)))).setCell ⟨w.heap.size + 1 + 1, 1, none⟩ (.int .u64 (lo (s + n * n)))) := ((((((Gr.refl _).alloc _ _).drew.trans g1).trans g2).setCell (by simp only [World.size_alloc]; omega) _).setCell (by simp only [World.size_alloc]; omega) _)
    have hV := hG.var2; simp only [World.size_alloc] at hV; obtain ⟨v0, v1, v2, v3⟩ := hV
    go_wp2
    exact bodyPost_ret (v := Wd (s + n * n)) (by simp [results, Tryz.results102, go_sem, v0, v1]) rfl ⟨rfl, by repeat (first | exact ((Gr.refl _).alloc _ _).trans (((Gr.refl _).alloc _ _).trans hG) | refine Gr.setCell ?_ (by simp) _)⟩
end Go.Proofs.YteaeaoekaoedoaaGreat
