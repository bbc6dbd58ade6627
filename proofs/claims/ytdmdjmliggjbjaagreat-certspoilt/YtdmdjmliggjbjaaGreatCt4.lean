import Derived.Test.YtdmdjmliggjbjaaGreatCt3
import Derived.Sort.Grow
import Derived.Deep.RegionWith
import Derived.BigQuiet
/- Lists of whole numbers that are read; vec.isDim, vec.Check and the reference's Check. -/
namespace Go.Proofs.YtdmdjmliggjbjaaGreat
open Go.RowKit

/-- Nothing that was there has turned. -/
abbrev Gb (w w' : World) : Prop := Below w.heap.size w w'
theorem gb_trans {a b c : World} (h : Gb a b) (k : Gb b c) : Gb a c := h.trans (k.mono h.size)
theorem gb_alloc {a w : World} (h : Gb a w) (o : Obj) : Gb a (w.alloc o) := h.alloc h.size o
theorem gb_keeps {a b : World} (h : Gb a b) {p : Addr} {v : Value} (hc : a.cell? p = some v) : b.cell? p = some v :=
  (h.cell (World.block_lt_of_cell? a p hc)).trans hc
theorem gb_set {a w : World} (h : Gb a w) {p : Addr} (hp : a.heap.size ≤ p.block) (u : Value) : Gb a (w.setCell p u) := h.setCell hp u

/-- The slice v reads as these numbers. -/
def RdI (w : World) (v : Value) (l : List Int) : Prop := ∃ a cap, v = .slice a l.length cap ∧ ∀ i, i < l.length → ∃ b o, a = some ⟨b, o, none⟩ ∧ w.cell? ⟨b, o + i, none⟩ = some (.int .i64 l[i]!)
theorem RdI.gb {w w' : World} {v : Value} {l : List Int} (h : RdI w v l) (g : Gb w w') : RdI w' v l := by
  obtain ⟨a, cap, e, h⟩ := h
  refine ⟨a, cap, e, fun i hi => ?_⟩
  obtain ⟨b, o, e1, e2⟩ := h i hi
  exact ⟨b, o, e1, gb_keeps g e2⟩
theorem rdi_nil (w : World) : RdI w (.slice none 0 0) [] := ⟨none, 0, rfl, fun _ hi => absurd hi (Nat.not_lt_zero _)⟩

/-- A coordinate that may be; a list of such. -/
def inR (x : Int) : Bool := decide (-2147483647 ≤ x) && decide (x ≤ 2147483647)
theorem inR_iff (x : Int) : inR x = true ↔ -2147483647 ≤ x ∧ x ≤ 2147483647 := by simp [inR]
def allR (l : List Int) : Bool := l.all inR
theorem allR_get {l : List Int} (h : allR l = true) {i : Nat} (hi : i < l.length) : -2147483647 ≤ l[i]! ∧ l[i]! ≤ 2147483647 := by
  rw [← inR_iff, getElem!_pos l i hi]
  exact List.all_eq_true.1 h _ (List.getElem_mem hi)
theorem allR_take {l : List Int} {q : Nat} (hq : q < l.length) (h : allR (l.take q) = true) (hx : inR l[q]! = true) : allR (l.take (q + 1)) = true := by
  unfold allR at *
  rw [List.take_succ_eq_append_getElem hq, List.all_append, h, getElem!_pos l q hq] at *
  simpa using hx
theorem allR_no {l : List Int} {q : Nat} (hq : q < l.length) (hx : inR l[q]! = false) : allR l = false := by
  unfold allR
  rw [List.all_eq_false]
  refine ⟨l[q], List.getElem_mem hq, ?_⟩
  rw [getElem!_pos l q hq] at hx
  simp [hx]
def vErr (l : List Int) : Int := if allR l = true then 0 else 31
/-- What Check answers. -/
def chk (l : List Int) (dim : Int) : Int := if 1 ≤ dim ∧ dim ≤ 64 ∧ (l.length : Int) = dim then (vErr l) else 30

theorem isDim_c (d : Int) (w : World) : Calls Tryz.prog 92 #[.int .i64 d] w fun e w' => e = .returned (.bool (decide (1 ≤ d) && decide (d ≤ 64))) ∧ w = w' := by
  by_cases h : 1 ≤ d
  · go_enter Tryz.func92, Tryz.ntmps92
    go_wp2
    go_ret
    exact ⟨by simp [h], rfl⟩
  · go_enter Tryz.func92, Tryz.ntmps92
    go_wp2
    go_ret
    exact ⟨by simp; omega, rfl⟩
theorem isDim_v (d : Int) (b : Bool) (h : (decide (1 ≤ d) && decide (d ≤ 64)) = b) (w : World) : Calls Tryz.prog 92 #[.int .i64 d] w fun e w' => e = .returned (.bool b) ∧ w = w' := by
  subst h; exact isDim_c d w

set_option maxHeartbeats 1000000 in
theorem check_no {w : World} {v : Value} {l : List Int} (h : RdI w v l) (d : Int) (hn : ¬ (1 ≤ d ∧ d ≤ 64 ∧ (l.length : Int) = d)) :
    Calls Tryz.prog 79 #[v, .int .i64 d] w fun e w' => e = .returned (.int .i64 30) ∧ w = w' := by
  obtain ⟨a, cap, rfl, ha⟩ := h
  clear ha
  generalize l.length = n at *
  by_cases h1 : (decide (1 ≤ d) && decide (d ≤ 64)) = true
  · have h2 : ((n : Int) == d) = false := by rw [beq_eq_false_iff_ne]; simp at h1; omega
    have c := fun W => isDim_v d true h1 W
    clear hn h1
    go_enter Tryz.func79, Tryz.ntmps79
    go_wp2_with (go_at_call 92; refine (c _).mono ?_; rintro e w' ⟨rfl, rfl⟩)
    go_ret
    exact ⟨rfl, rfl⟩
  · have c := fun W => isDim_v d false (by simpa using h1) W
    clear hn h1
    go_enter Tryz.func79, Tryz.ntmps79
    go_wp2_with (go_at_call 92; refine (c _).mono ?_; rintro e w' ⟨rfl, rfl⟩)
    go_ret
    exact ⟨rfl, rfl⟩

set_option maxHeartbeats 2000000 in
set_option maxRecDepth 100000 in
theorem check_in {w : World} {v : Value} {l : List Int} (h : RdI w v l) (hn : 1 ≤ l.length ∧ l.length ≤ 64) :
    Calls Tryz.prog 79 #[v, .int .i64 (l.length : Int)] w fun e w' => e = .returned (.int .i64 (vErr l)) ∧ w = w' := by
  obtain ⟨a, cap, rfl, ha⟩ := h
  have A : Hid (∀ i, i < l.length → ∃ b o, a = some ⟨b, o, none⟩ ∧ w.cell? ⟨b, o + i, none⟩ = some (.int .i64 l[i]!)) := ha
  obtain ⟨n, hN⟩ : ∃ n, n = l.length := ⟨_, rfl⟩
  have N : Hid (n = l.length) := hN
  rw [← hN] at hn ⊢
  obtain ⟨hn1, hn2⟩ := hn
  have c := fun W => isDim_v (n : Int) true (by simp; omega) W
  clear ha hN
  go_enter Tryz.func79, Tryz.ntmps79
  go_wp2_with (go_at_call 92; refine (c _).mono ?_; rintro e w' ⟨rfl, rfl⟩)
  go_loopw [18] (fun iv w' => ∃ q : Nat, iv = .int .i64 (q : Int) ∧ q ≤ n ∧ w = w' ∧ Hid (allR (l.take q) = true)) (fun iv _ => n - (intOf iv).toNat)
  case atStart => exact ⟨0, rfl, Nat.zero_le _, rfl, by simp [Hid, allR]⟩
  case round =>
    obtain ⟨q, rfl, hq, rfl, X⟩ := hrel
    by_cases hqn : q < n
    · have hqi : (q : Int) < (n : Int) := by omega
      obtain ⟨b, o, ea, hc⟩ := A.out q (by have := N.out; omega)
      subst ea
      obtain ⟨x, hx⟩ : ∃ x, x = l[q]! := ⟨_, rfl⟩
      rw [← hx] at hc
      have XX : Hid (x = l[q]! ∧ q < l.length) := ⟨hx, by have := N.out; omega⟩
      clear hx
      by_cases h1 : x < -2147483647
      · have R : Hid (vErr l = 31) := by unfold Hid vErr; rw [allR_no XX.out.2 (by rw [← XX.out.1, ← Bool.not_eq_true, inR_iff]; omega)]; rfl
        go_wp2
        go_ret
        exact ⟨by rw [R.out]; rfl, by first | rfl | trivial⟩
      by_cases h2 : x > 2147483647
      · have R : Hid (vErr l = 31) := by unfold Hid vErr; rw [allR_no XX.out.2 (by rw [← XX.out.1, ← Bool.not_eq_true, inR_iff]; omega)]; rfl
        go_wp2
        go_ret
        exact ⟨by rw [R.out]; rfl, by first | rfl | trivial⟩
      · have R : Hid (allR (l.take (q + 1)) = true) := allR_take XX.out.2 X.out (by rw [← XX.out.1, inR_iff]; omega)
        go_wp2
        go_roundw
        case rel => exact ⟨q + 1, by simp, hqn, by first | rfl | trivial, R⟩
        case measure => simp [intOf]; omega
    · have hqi : ¬ (q : Int) < (n : Int) := by omega
      have R : Hid (vErr l = 0) := by
        have := X.out
        rw [List.take_of_length_le (by have := N.out; omega)] at this
        unfold Hid vErr; rw [this]; rfl
      go_wp2
      go_ret
      exact ⟨by rw [R.out]; rfl, by first | rfl | trivial⟩

theorem check_c {w : World} {v : Value} {l : List Int} (h : RdI w v l) (d : Int) :
    Calls Tryz.prog 79 #[v, .int .i64 d] w fun e w' => e = .returned (.int .i64 (chk l d)) ∧ w = w' := by
  unfold chk
  by_cases hn : 1 ≤ d ∧ d ≤ 64 ∧ (l.length : Int) = d
  · rw [if_pos hn]
    obtain ⟨h1, h2, rfl⟩ := hn
    exact check_in h (by omega)
  · rw [if_neg hn]
    exact check_no h d hn
theorem check_v {w : World} {v : Value} {l : List Int} (h : RdI w v l) (d r : Int) (hr : chk l d = r) :
    Calls Tryz.prog 79 #[v, .int .i64 d] w fun e w' => e = .returned (.int .i64 r) ∧ w = w' := by
  subst hr; exact check_c h d
end Go.Proofs.YtdmdjmliggjbjaaGreat

/- vec.side, its closure, vec.withSquare. -/
namespace Go.Proofs.YtdmdjmliggjbjaaGreat
open Go.RowKit

/-- How much x lies below low, or above high. -/
def gap (l h x : Int) : Nat := if x < l then (l - x).toNat else if h < x then (x - h).toNat else 0

theorem side_c (l h : Int) (w : World) : Calls Tryz.prog 116 #[.int .i64 l, .int .i64 h] w fun e w' =>
    e = .returned (.func (.func 135) #[] #[.pointer (some ⟨w.heap.size, 0, none⟩), .pointer (some ⟨w.heap.size + 1, 0, none⟩)]) ∧ w' = (w.alloc (.cells #[.int .i64 l] 3)).alloc (.cells #[.int .i64 h] 3) := by
  go_enter Tryz.func116, Tryz.ntmps116
  go_wp2
  go_ret
  exact ⟨rfl, rfl⟩

set_option maxHeartbeats 1000000 in
theorem side1_c (l h x : Int) (hl : -2147483647 ≤ l ∧ l ≤ 2147483647) (hh : -2147483647 ≤ h ∧ h ≤ 2147483647) (hx : -2147483647 ≤ x ∧ x ≤ 2147483647) (b c : Nat) (w : World)
    (c0 : w.cell? ⟨b, 0, none⟩ = some (.int .i64 l)) (c1 : w.cell? ⟨c, 0, none⟩ = some (.int .i64 h)) :
    Calls Tryz.prog 135 #[.int .i64 x, .pointer (some ⟨b, 0, none⟩), .pointer (some ⟨c, 0, none⟩)] w fun e w' => e = .returned (.int .u64 (gap l h x : Int)) ∧ w = w' := by
  obtain ⟨l0, l1⟩ := hl
  obtain ⟨h0, h1⟩ := hh
  obtain ⟨x0, x1⟩ := hx
  by_cases k1 : x < l
  · have G : Hid ((gap l h x : Int) = l - x) := by unfold Hid gap; rw [if_pos k1]; omega
    go_enter Tryz.func135, Tryz.ntmps135
    go_wp2
    go_ret
    exact ⟨by rw [G.out]; simp, rfl⟩
  by_cases k2 : h < x
  · have G : Hid ((gap l h x : Int) = x - h) := by unfold Hid gap; rw [if_neg k1, if_pos k2]; omega
    go_enter Tryz.func135, Tryz.ntmps135
    go_wp2
    go_ret
    exact ⟨by rw [G.out]; simp, rfl⟩
  · have G : Hid ((gap l h x : Int) = 0) := by unfold Hid gap; rw [if_neg k1, if_neg k2]; rfl
    go_enter Tryz.func135, Tryz.ntmps135
    go_wp2
    go_ret
    exact ⟨by rw [G.out]; rfl, rfl⟩

set_option maxHeartbeats 2000000 in
theorem withSquare_c (s n : Nat) (hn : n < 18446744073709551616) (hs : s + n * n < 340282366920938463463374607431768211456) (w : World) :
    Calls Tryz.prog 115 #[Wd s, .int .u64 (n : Int)] w fun e w' => e = .returned (Wd (s + n * n)) ∧ Gr w w' := by
  have c0 : ((w.alloc (.cells #[.int .u64 (hi s), .int .u64 (lo s)] 41)).alloc (.cells #[.int .u64 0, .int .u64 0] 41)).cell? ⟨w.heap.size, 0, none⟩ = some (.int .u64 (hi s)) := by simp [go_sem]
  have c1 : ((w.alloc (.cells #[.int .u64 (hi s), .int .u64 (lo s)] 41)).alloc (.cells #[.int .u64 0, .int .u64 0] 41)).cell? ⟨w.heap.size, 1, none⟩ = some (.int .u64 (lo s)) := by simp [go_sem]
  have l1 : ∀ n : Nat, n < n + 1 := fun n => by omega
  have l2 := lt_two
  have l3 := lt_three
  go_enter Tryz.func115, Tryz.ntmps115
  go_wp2
  go_region_held3 (fun w' => w'.cell? ⟨w.heap.size, 0, none⟩ = some (.int .u64 (hi s)) ∧ w'.cell? ⟨w.heap.size, 1, none⟩ = some (.int .u64 (lo s))) (first | exact ⟨c0, c1⟩ | exact call_keeps2 (by assumption) (by assumption) | exact alloc_keeps2 (by assumption) | exact alloc_keeps2 ⟨c0, c1⟩ | exact alloc_keeps2 (call_keeps2 g2 (call_keeps2 g1 ⟨c0, c1⟩)) | exact set_far2 (by dsimp only; omega) (by dsimp only; omega) (set_far2 (by dsimp only; omega) (by dsimp only; omega) (by assumption)))
    (first
      | (go_at_call 118; refine (mul_any n n hn hn _).mono ?_; rintro e w1 ⟨rfl, g1⟩; obtain ⟨hc1, hf1, hz1⟩ := g1.rules; have z1 := g1.size; simp only [World.size_alloc, World.size_drew] at z1)
      | (go_at_call 134; refine (add_ok s (n * n) hs _).mono ?_; rintro e w2 ⟨rfl, g2⟩; obtain ⟨hc2, hf2, hz2⟩ := g2.rules))
  · have hG : Gr ((w.alloc (.cells #[.int .u64 (hi s), .int .u64 (lo s)] 41)).alloc (.cells #[.int .u64 0, .int .u64 0] 41)) (w2.alloc (.cells #[.int .u64 (hi (s + n * n)), .int .u64 (lo (s + n * n))] 41)) := ((((Gr.refl _).drew.trans g1).trans g2).alloc _ _)
    have hV := hG.var2; simp only [World.size_alloc] at hV; obtain ⟨v0, v1, v2, v3⟩ := hV
    go_wp2
    exact bodyPost_ret (v := Wd (s + n * n)) (by simp [results, Tryz.results115, go_sem, v0, v1]) rfl ⟨rfl, by repeat (first | exact ((Gr.refl _).alloc _ _).trans (((Gr.refl _).alloc _ _).trans hG) | refine Gr.setCell ?_ (by simp) _)⟩
  · have hq := g2.var2
    obtain ⟨q0, q1, q2, q3⟩ := hq
    have hG : Gr ((w.alloc (.cells #[.int .u64 (hi s), .int .u64 (lo s)] 41)).alloc (.cells #[.int .u64 0, .int .u64 0] 41)) ((w2.setCell ⟨w1.heap.size, 0, none⟩ (.int .u64 (hi (s + n * n)))).setCell ⟨w1.heap.size, 1, none⟩ (.int .u64 (lo (s + n * n)))) := ((((((Gr.refl _).drew.trans g1).alloc _ _).trans g2).setCell (by simp; omega) _).setCell (by simp; omega) _)
    have hV := hG.var2; simp only [World.size_alloc] at hV; obtain ⟨v0, v1, v2, v3⟩ := hV
    go_wp2
    exact bodyPost_ret (v := Wd (s + n * n)) (by simp [results, Tryz.results115, go_sem, v0, v1]) rfl ⟨rfl, by repeat (first | exact ((Gr.refl _).alloc _ _).trans (((Gr.refl _).alloc _ _).trans hG) | refine Gr.setCell ?_ (by simp) _)⟩
  · have hq := (((Gr.refl _).drew.trans g1).trans g2).var2
    simp only [World.size_alloc] at hq
    obtain ⟨q0, q1, q2, q3⟩ := hq
    have hG : Gr ((w.alloc (.cells #[.int .u64 (hi s), .int .u64 (lo s)] 41)).alloc (.cells #[.int .u64 0, .int .u64 0] 41)) ((w2.setCell ⟨w.heap.size + 1 + 1, 0, none⟩ (.int .u64 (hi (s + n * n)))).setCell ⟨w.heap.size + 1 + 1, 1, none⟩ (.int .u64 (lo (s + n * n)))) := ((((((Gr.refl _).alloc _ _).drew.trans g1).trans g2).setCell (by simp only [World.size_alloc]; omega) _).setCell (by simp only [World.size_alloc]; omega) _)
    have hV := hG.var2; simp only [World.size_alloc] at hV; obtain ⟨v0, v1, v2, v3⟩ := hV
    go_wp2
    exact bodyPost_ret (v := Wd (s + n * n)) (by simp [results, Tryz.results115, go_sem, v0, v1]) rfl ⟨rfl, by repeat (first | exact ((Gr.refl _).alloc _ _).trans (((Gr.refl _).alloc _ _).trans hG) | refine Gr.setCell ?_ (by simp) _)⟩
end Go.Proofs.YtdmdjmliggjbjaaGreat

/- vec.distance and vec.Dist. -/
namespace Go.Proofs.YtdmdjmliggjbjaaGreat
open Go.RowKit

theorem Gr.gb {a b : World} (h : Gr a b) : Gb a b := h.below
/-- The sum of the first n of some numbers. -/
def sumN (f : Nat → Nat) : Nat → Nat
  | 0 => 0
  | n + 1 => sumN f n + f n
theorem sumN_le (f : Nat → Nat) (c n : Nat) (h : ∀ i, i < n → f i ≤ c) : sumN f n ≤ n * c := by
  induction n with
  | zero => simp [sumN]
  | succ n ih =>
    have := ih (fun i hi => h i (by omega))
    have := h n (by omega)
    simp only [sumN, Nat.add_mul]; omega
/-- A square of a number below 2 to the power of 32. -/
theorem sq_small (g : Nat) (h : g ≤ 4294967294) : g * g ≤ 18446744056529682436 := by
  have := Nat.mul_le_mul h h; omega
theorem gap_le (l h x : Int) (hl : -2147483647 ≤ l ∧ l ≤ 2147483647) (hh : -2147483647 ≤ h ∧ h ≤ 2147483647) (hx : -2147483647 ≤ x ∧ x ≤ 2147483647) : gap l h x ≤ 4294967294 := by
  unfold gap; split
  · omega
  · split <;> omega
/-- The distance of two lists. -/
def dst (a b : List Int) : Nat := sumN (fun i => gap a[i]! a[i]! b[i]! * gap a[i]! a[i]! b[i]!) a.length
def dstN (a b : List Int) (q : Nat) : Nat := sumN (fun i => gap a[i]! a[i]! b[i]! * gap a[i]! a[i]! b[i]!) q
theorem dstN_le {a b : List Int} (ha : allR a = true) (hb : allR b = true) (hab : a.length = b.length) (q : Nat) (hq : q ≤ a.length) : dstN a b q ≤ q * 18446744056529682436 :=
  sumN_le _ _ _ (fun i hi => sq_small _ (gap_le _ _ _ (allR_get ha (by omega)) (allR_get ha (by omega)) (allR_get hb (by omega))))

/-- A place of a variable of two words: what it holds, and that it is open. -/
structure At2 (w : World) (b s : Nat) : Prop where
  c0 : w.cell? ⟨b, 0, none⟩ = some (.int .u64 (hi s))
  c1 : w.cell? ⟨b, 1, none⟩ = some (.int .u64 (lo s))
  f0 : w.frozen? ⟨b, 0, none⟩ = false
  f1 : w.frozen? ⟨b, 1, none⟩ = false
theorem At2.gr {w w' : World} {b s : Nat} (h : At2 w b s) (g : Gr w w') : At2 w' b s := ⟨g.keeps h.c0, g.keeps h.c1, (g.froz _).trans h.f0, (g.froz _).trans h.f1⟩
theorem At2.new (w : World) (s : Nat) (t : TypeId) : At2 (w.alloc (.cells #[.int .u64 (hi s), .int .u64 (lo s)] t)) w.heap.size s := ⟨by simp [go_sem], by simp [go_sem], by simp [go_sem], by simp [go_sem]⟩
theorem At2.set {w : World} {b s : Nat} (h : At2 w b s) (t : Nat) : At2 ((w.setCell ⟨b, 0, none⟩ (.int .u64 (hi t))).setCell ⟨b, 1, none⟩ (.int .u64 (lo t))) b t := by
  obtain ⟨c0, c1, f0, f1⟩ := h
  exact ⟨by simp [go_sem, c0], by simp [go_sem, c1], by simp [go_sem, f0], by simp [go_sem, f1]⟩

/-- side, and what its closure reads. -/
theorem side_at (l h : Int) (w : World) : Calls Tryz.prog 116 #[.int .i64 l, .int .i64 h] w fun e w' => ∃ b c : Nat,
    e = .returned (.func (.func 135) #[] #[.pointer (some ⟨b, 0, none⟩), .pointer (some ⟨c, 0, none⟩)]) ∧ w'.cell? ⟨b, 0, none⟩ = some (.int .i64 l) ∧ w'.cell? ⟨c, 0, none⟩ = some (.int .i64 h) ∧ Gr w w' := by
  refine (side_c l h w).mono ?_
  rintro e w' ⟨rfl, rfl⟩
  exact ⟨_, _, rfl, by simp [go_sem], by simp [go_sem], ((Gr.refl _).alloc _ _).alloc _ _⟩
theorem five_call {W w' : World} {p0 p1 p2 q0 q1 : Addr} {v0 v1 v2 : Value} (g : Gr W w') (h : W.cell? p0 = some v0 ∧ W.cell? p1 = some v1 ∧ W.cell? p2 = some v2 ∧ W.frozen? q0 = false ∧ W.frozen? q1 = false) :
    w'.cell? p0 = some v0 ∧ w'.cell? p1 = some v1 ∧ w'.cell? p2 = some v2 ∧ w'.frozen? q0 = false ∧ w'.frozen? q1 = false := ⟨g.keeps h.1, g.keeps h.2.1, g.keeps h.2.2.1, (g.froz _).trans h.2.2.2.1, (g.froz _).trans h.2.2.2.2⟩

set_option maxHeartbeats 4000000 in
set_option maxRecDepth 100000 in
theorem distance_c {w : World} {u v : Value} {a b : List Int} (hu : RdI w u a) (hv : RdI w v b) (hab : a.length = b.length) (hn : a.length ≤ 64) (ha : allR a = true) (hb : allR b = true) :
    Calls Tryz.prog 98 #[u, v] w fun e w' => e = .returned (Wd (dst a b)) ∧ Gr w w' := by
  obtain ⟨pa, ca, rfl, hu⟩ := hu
  obtain ⟨pb, cb, rfl, hv⟩ := hv
  have A : Hid (∀ i, i < a.length → ∃ b o, pa = some ⟨b, o, none⟩ ∧ w.cell? ⟨b, o + i, none⟩ = some (.int .i64 a[i]!)) := hu
  have B : Hid (∀ i, i < b.length → ∃ b' o, pb = some ⟨b', o, none⟩ ∧ w.cell? ⟨b', o + i, none⟩ = some (.int .i64 b[i]!)) := hv
  have H : Hid (a.length = b.length ∧ allR a = true ∧ allR b = true) := ⟨hab, ha, hb⟩
  rw [← hab]
  obtain ⟨n, hN⟩ : ∃ n, n = a.length := ⟨_, rfl⟩
  have N : Hid (n = a.length) := hN
  rw [← hN] at hn ⊢
  clear hu hv hab ha hb hN
  have S0 : At2 ((w.alloc (.cells #[.int .u64 0, .int .u64 0] 41)).alloc (.cells #[.int .u64 0, .int .u64 0] 41)) (w.heap.size + 1) 0 := by
    have := At2.new (w.alloc (.cells #[.int .u64 0, .int .u64 0] 41)) 0 41
    rw [World.size_alloc] at this
    exact this
  have G0 : Gr (w.alloc (.cells #[.int .u64 0, .int .u64 0] 41)) ((w.alloc (.cells #[.int .u64 0, .int .u64 0] 41)).alloc (.cells #[.int .u64 0, .int .u64 0] 41)) := (Gr.refl _).alloc _ _
  go_enter Tryz.func98, Tryz.ntmps98
  go_wp2
  go_loopw [10] (fun iv w' => ∃ q s : Nat, iv = .int .i64 (q : Int) ∧ q ≤ n ∧ Hid (s = dstN a b q) ∧ Gr (w.alloc (.cells #[.int .u64 0, .int .u64 0] 41)) w' ∧ At2 w' (w.heap.size + 1) s) (fun iv _ => n - (intOf iv).toNat)
  case atStart => exact ⟨0, 0, rfl, Nat.zero_le _, rfl, G0, S0⟩
  case round =>
    clear S0 G0
    obtain ⟨q, s, rfl, hq, X, hG, hS⟩ := hrel
    by_cases hqn : q < n
    · have hqi : (q : Int) < (n : Int) := by omega
      have hqa : q < a.length := by have := N.out; omega
      have hqb : q < b.length := by have := H.out.1; omega
      obtain ⟨b1, o1, ea, h1⟩ := A.out q hqa
      obtain ⟨b2, o2, eb, h2⟩ := B.out q hqb
      subst ea; subst eb
      have G1 : Gr w wr := ((Gr.refl _).alloc _ _).trans hG
      have x0 := G1.keeps h1
      have y0 := G1.keeps h2
      have hx := allR_get H.out.2.1 hqa
      have hy := allR_get H.out.2.2 hqb
      have hs0 : s ≤ q * 18446744056529682436 := by rw [X.out]; exact dstN_le H.out.2.1 H.out.2.2 H.out.1 q (by omega)
      have Y : Hid (dstN a b (q + 1) = dstN a b q + gap a[q]! a[q]! b[q]! * gap a[q]! a[q]! b[q]!) := rfl
      generalize a[q]! = x at *
      generalize b[q]! = y at *
      have hg : gap x x y < 18446744073709551616 := by have := gap_le x x y hx hx hy; omega
      have hgs : s + gap x x y * gap x x y < 340282366920938463463374607431768211456 := by have := sq_small _ (gap_le x x y hx hx hy); omega
      have Z : Hid (s + gap x x y * gap x x y = dstN a b (q + 1)) := by unfold Hid; rw [Y.out, X.out]
      have c57 := fun W => withSquare_c s (gap x x y) hg hgs W
      have c70 := fun b c W c0 c1 => side1_c x x y hx hx hy b c W c0 c1
      have hS0 := hS
      obtain ⟨s0, s1, s2, s3⟩ := hS
      clear h1 h2 hx hy hs0 Y X hg hgs hqa hqb G1
      generalize s + gap x x y * gap x x y = t at *
      generalize gap x x y = g at *
      go_wp2
      go_region_with (first
          | (go_at_call 116; refine (side_at _ _ _).mono ?_; rintro e w1 ⟨bb, cc, rfl, k0, k1, g1⟩; have s0 := g1.keeps s0; have s1 := g1.keeps s1; have y0 := g1.keeps y0; have s2 := (g1.froz _).trans s2; have s3 := (g1.froz _).trans s3)
          | (go_at_call 135; refine (c70 _ _ _ k0 k1).mono ?_; rintro e w2 ⟨rfl, e2⟩; subst e2)
          | (go_at_call 115; refine (c57 _).mono ?_; rintro e w3 ⟨rfl, g3⟩; have s0 := g3.keeps s0; have s1 := g3.keeps s1; have s2 := (g3.froz _).trans s2; have s3 := (g3.froz _).trans s3))
      all_goals
        have hG3 := (hG.drew.trans g1).trans g3
        have hS3 : At2 w3 (w.heap.size + 1) s := ⟨s0, s1, s2, s3⟩
        clear c57 c70 hS0 x0 y0 s0 s1 s2 s3 k0 k1 g1 g3 hG
        go_wp2
        refine ⟨⟨q + 1, t, by go_num, hqn, Z, (hG3.setCell (by simp) _).setCell (by simp) _, hS3.set t⟩, by simp [intOf]; omega⟩
    · have hqi : ¬ (q : Int) < (n : Int) := by omega
      have E : Hid (s = dst a b) := by
        have h1 := X.out
        have h2 : q = a.length := by have := N.out; omega
        rw [h2] at h1; exact h1
      obtain ⟨s0, s1, s2, s3⟩ := hS
      obtain ⟨v0, v1, v2, v3⟩ := hG.var2
      go_wp2
      exact bodyPost_ret (v := Wd s) (by simp [results, Tryz.results98, go_sem, v0, v1]) rfl ⟨by rw [E.out], by repeat (first | exact ((Gr.refl _).alloc _ _).trans hG | refine Gr.setCell ?_ (by simp) _)⟩

theorem dst_lt {a b : List Int} (ha : allR a = true) (hb : allR b = true) (hab : a.length = b.length) (hn : a.length ≤ 64) : dst a b < 340282366920938463463374607431768211456 := by
  have := dstN_le ha hb hab a.length (Nat.le_refl _)
  have h2 : dst a b = dstN a b a.length := rfl
  omega
theorem vErr_ok {l : List Int} (h : vErr l = 0) : allR l = true := by
  unfold vErr at h; split at h
  · assumption
  · cases h
theorem chk_ok {l : List Int} {d : Int} (h : chk l d = 0) : 1 ≤ l.length ∧ l.length ≤ 64 ∧ d = (l.length : Int) ∧ allR l = true := by
  unfold chk at h; split at h
  · exact ⟨by omega, by omega, by omega, vErr_ok h⟩
  · cases h
/-- What Dist answers: the error, and the distance beside none. -/
def distE (a b : List Int) : Int := if chk a a.length = 0 then chk b a.length else chk a a.length
def distV (a b : List Int) : Nat := if distE a b = 0 then dst a b else 0
theorem distE_ok {a b : List Int} (h : distE a b = 0) : chk a a.length = 0 ∧ chk b a.length = 0 ∧ a.length = b.length ∧ 1 ≤ a.length ∧ a.length ≤ 64 ∧ allR a = true ∧ allR b = true := by
  unfold distE at h; split at h
  · rename_i h1
    have h2 := chk_ok h1
    have h3 := chk_ok h
    exact ⟨h1, h, by omega, by omega, by omega, h2.2.2.2, h3.2.2.2⟩
  · rename_i h1; exact absurd h h1

set_option maxHeartbeats 2000000 in
theorem dist_c {w : World} {u v : Value} {a b : List Int} (hu : RdI w u a) (hv : RdI w v b) :
    Calls Tryz.prog 82 #[u, v] w fun e w' => e = .returned (.tuple #[Wd (distV a b), .int .i64 (distE a b)]) ∧ Gr w w' := by
  have U : Hid (RdI w u a) := hu
  have V : Hid (RdI w v b) := hv
  have G0 : Gr w (w.alloc (.cells #[.int .u64 0, .int .u64 0] 41)) := (Gr.refl _).alloc _ _
  have cA := fun r h => check_v (hu.gb G0.gb) (a.length : Int) r h
  have cB := fun r h => check_v (hv.gb G0.gb) (a.length : Int) r h
  obtain ⟨pa, ca, rfl, _⟩ := hu
  obtain ⟨pb, cb, rfl, _⟩ := hv
  by_cases h1 : chk a a.length = 0
  · have c1 := cA _ h1
    by_cases h2 : chk b a.length = 0
    · have c2 := cB _ h2
      have E : distE a b = 0 := by unfold distE; rw [if_pos h1, h2]
      have E2 : distV a b = dst a b := by unfold distV; rw [if_pos E]
      obtain ⟨_, _, h3, h4, h5, h6, h7⟩ := distE_ok E
      have c3 := distance_c (U.out.gb G0.gb) (V.out.gb G0.gb) h3 h5 h6 h7
      rw [E, E2]
      clear cA cB h1 h2 h3 h4 h5 h6 h7 E E2 U V
      generalize dst a b = s at *
      generalize b.length = m at *
      generalize a.length = n at *
      go_enter Tryz.func82, Tryz.ntmps82
      go_wp2_with fail
      refine c1.mono ?_
      rintro e w' ⟨rfl, e2⟩
      subst e2
      go_wp2_with fail
      refine c2.mono ?_
      rintro e w' ⟨rfl, e2⟩
      subst e2
      go_wp2_with fail
      refine c3.mono ?_
      rintro e w' ⟨rfl, g⟩
      obtain ⟨v0, v1, v2, v3⟩ := g.var2
      go_wp2
      exact bodyPost_ret (v := .tuple #[Wd s, .int .i64 0]) (by simp [results, Tryz.results82, go_sem, v0, v1]) rfl ⟨rfl, ((G0.trans g).setCell (by simp) _).setCell (by simp) _⟩
    · have c2 := cB _ rfl
      have E : distE a b = chk b a.length := by unfold distE; rw [if_pos h1]
      have E2 : distV a b = 0 := by unfold distV; rw [E, if_neg h2]
      have h3 : (chk b a.length == 0) = false := by rw [beq_eq_false_iff_ne]; exact h2
      rw [E, E2]
      clear cA cB h1 h2 E E2 U V
      generalize chk b a.length = s at *
      generalize b.length = m at *
      generalize a.length = n at *
      go_enter Tryz.func82, Tryz.ntmps82
      go_wp2_with fail
      refine c1.mono ?_
      rintro e w' ⟨rfl, e2⟩
      subst e2
      go_wp2_with fail
      refine c2.mono ?_
      rintro e w' ⟨rfl, e2⟩
      subst e2
      go_wp2
      exact bodyPost_ret (v := .tuple #[Wd 0, .int .i64 s]) (by simp [results, Tryz.results82, go_sem, hi, lo]) rfl ⟨rfl, G0⟩
  · have c1 := cA _ rfl
    have E : distE a b = chk a a.length := by unfold distE; rw [if_neg h1]
    have E2 : distV a b = 0 := by unfold distV; rw [E, if_neg h1]
    have h3 : (chk a a.length == 0) = false := by rw [beq_eq_false_iff_ne]; exact h1
    rw [E, E2]
    clear cA cB h1 E E2 U V
    generalize chk a a.length = s at *
    generalize b.length = m at *
    generalize a.length = n at *
    go_enter Tryz.func82, Tryz.ntmps82
    go_wp2_with fail
    refine c1.mono ?_
    rintro e w' ⟨rfl, e2⟩
    subst e2
    go_wp2
    exact bodyPost_ret (v := .tuple #[Wd 0, .int .i64 s]) (by simp [results, Tryz.results82, go_sem, hi, lo]) rfl ⟨rfl, G0⟩
end Go.Proofs.YtdmdjmliggjbjaaGreat
