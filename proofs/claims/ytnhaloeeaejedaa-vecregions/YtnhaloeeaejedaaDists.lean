/- VecDists: the walk. -/
import Derived.Test.YtnhaloeeaejedaaBack
namespace Go.Proofs.Ytnhaloeeaejedaa
open Go.RowKit Go.Sort Go.Maps

theorem gb_grown {w W W' : World} {g : Nat} (h : Gb w W) (k : W.grownBy W' (some g)) (hg : w.heap.size ≤ g) : Gb w W' :=
  below_grown h k (fun j e => by cases e; exact hg) h.size
theorem grown_at2 {W W' : World} {g b s : Nat} (k : W.grownBy W' (some g)) (h : At2 W b s) (hne : b ≠ g) : At2 W' b s := by
  have hb := k.block b (World.block_lt_of_cell? W _ h.c0) (by simpa using hne)
  exact ⟨(World.cell?_of_block (a := ⟨b, 0, none⟩) hb).trans h.c0, (World.cell?_of_block (a := ⟨b, 1, none⟩) hb).trans h.c1, (World.frozen?_of_block (a := ⟨b, 0, none⟩) hb).trans h.f0, (World.frozen?_of_block (a := ⟨b, 1, none⟩) hb).trans h.f1⟩
theorem At2.gb {w w' : World} {b s : Nat} (h : At2 w b s) (g : Gb w w') : At2 w' b s := grown_at2 (g := b + 1) (grown_gb g) h (by omega)
theorem Lent.lt {W : World} {B g : Nat} {l : List Int} (h : Lent W B g l) : g < W.heap.size := (Array.getElem?_eq_some_iff.1 h.2).1

set_option maxHeartbeats 4000000 in
set_option maxRecDepth 100000 in
theorem dists_in {w : World} {u v : Value} {a b : List Int} (hu : RdI w u a) (hv : RdI w v b) (la : a.length ≤ 65536) (lb : b.length ≤ 65536) (d : Int) :
    Calls Try.prog 3 #[u, v, .int .i64 d] w fun e w' => e = .returned (.bool true) ∧ Gb w w' := by
  have C1 := lend_c hu la
  have C2 := fun W' (g : Gb w W') => lend_c (hv.gb g) lb
  have C3 := fun W' gx gy (h1 : Lent W' w.heap.size gx a) (h2 : Lent W' w.heap.size gy b) => dist_c h1.rd h2.rd
  have C4 := fun W' gx (h1 : Lent W' w.heap.size gx a) => check_c h1.rd d
  have C5 := fun W' gx (h1 : Lent W' w.heap.size gx a) (g : Gb w W') => back_c h1 (hu.gb g) la
  have C6 := fun W' gx (h1 : Lent W' w.heap.size gx b) (g : Gb w W') => back_c h1 (hv.gb g) lb
  have C7 := fun W' (g : Gb w W') => rdist_c (hu.gb g) (hv.gb g)
  have C8 := fun W' (g : Gb w W') => rcheck_c (hu.gb g) d
  obtain ⟨pa, ca, rfl, _⟩ := hu
  obtain ⟨pb, cb, rfl, _⟩ := hv
  generalize distV a b = D at *
  generalize distE a b = E at *
  generalize chk a d = K at *
  have k1 : ¬ (a.length : Int) > 65536 := by omega
  have k2 : ¬ (b.length : Int) > 65536 := by omega
  obtain ⟨n, hN⟩ : ∃ n, n = a.length := ⟨_, rfl⟩
  obtain ⟨m, hM⟩ : ∃ m, m = b.length := ⟨_, rfl⟩
  simp only [← hN] at C1 C3 C4 C5 C7 C8 k1 la ⊢
  simp only [← hM] at C2 C3 C6 C7 k2 lb ⊢
  clear hN hM
  go_enter Try.func3, Try.ntmps3
  go_wp2_with fail
  refine C1.mono ?_
  rintro e w1 ⟨gx, rfl, X1, g1⟩
  have XX : Hid (Lent w1 w.heap.size gx a ∧ Gb w w1) := ⟨X1, g1⟩
  clear X1 g1 C1
  go_wp2_with fail
  refine (C2 _ XX.out.2).mono ?_
  rintro e w2 ⟨gy, rfl, Y1, g2⟩
  have YY : Hid (Lent w2 w.heap.size gx a ∧ Lent w2 w.heap.size gy b ∧ Gb w w2 ∧ gx < gy) := by
    have h1 := XX.out.1.lt
    have h2 := XX.out.2.size
    exact ⟨XX.out.1.gb g2, ⟨by have := Y1.1; omega, Y1.2⟩, gb_trans XX.out.2 g2, by have := Y1.1; omega⟩
  clear Y1 g2 C2 XX
  go_wp2_with fail
  refine (C3 _ _ _ YY.out.1 YY.out.2.1).mono ?_
  rintro e w3 ⟨rfl, g3⟩
  have ZZ : Hid (Lent (w3.alloc (.cells #[.int .u64 (hi D), .int .u64 (lo D)] 26)) w.heap.size gx a ∧ Lent (w3.alloc (.cells #[.int .u64 (hi D), .int .u64 (lo D)] 26)) w.heap.size gy b ∧ Gb w (w3.alloc (.cells #[.int .u64 (hi D), .int .u64 (lo D)] 26)) ∧ gx < gy ∧ gy < w3.heap.size ∧ At2 (w3.alloc (.cells #[.int .u64 (hi D), .int .u64 (lo D)] 26)) w3.heap.size D) := by
    obtain ⟨y1, y2, y3, y4⟩ := YY.out
    have k := gb_alloc g3.gb (.cells #[.int .u64 (hi D), .int .u64 (lo D)] 26)
    exact ⟨y1.gb k, y2.gb k, gb_trans y3 k, y4, (y2.gb g3.gb).lt, At2.new w3 D 26⟩
  clear g3 C3 YY
  go_wp2_with fail
  refine (C4 _ _ ZZ.out.1).mono ?_
  rintro e w4 ⟨rfl, e4⟩
  subst e4
  clear C4
  go_wp2_with fail
  refine (C5 _ _ ZZ.out.1 ZZ.out.2.2.1).mono ?_
  rintro e w5 ⟨rfl, g5⟩
  have Z5 : Hid (Lent w5 w.heap.size gy b ∧ Gb w w5 ∧ gy < w3.heap.size ∧ At2 w5 w3.heap.size D) := by
    obtain ⟨y1, y2, y3, y4, y5, y6⟩ := ZZ.out
    exact ⟨y2.far g5 (by omega), gb_grown y3 g5 y1.1, y5, grown_at2 g5 y6 (by omega)⟩
  clear g5 C5 ZZ
  go_wp2_with fail
  refine (C6 _ _ Z5.out.1 Z5.out.2.1).mono ?_
  rintro e w6 ⟨rfl, g6⟩
  have Z6 : Hid (Gb w w6 ∧ At2 w6 w3.heap.size D) := by
    obtain ⟨y1, y2, y3, y4⟩ := Z5.out
    exact ⟨gb_grown y2 g6 y1.1, grown_at2 g6 y4 (by omega)⟩
  clear g6 C6 Z5
  go_wp2_with fail
  refine (C7 _ Z6.out.1).mono ?_
  rintro e w7 ⟨rfl, g7⟩
  have Z7 : Hid (Gb w (w7.alloc (.cells #[.int .u64 (hi D), .int .u64 (lo D)] 26)) ∧ At2 (w7.alloc (.cells #[.int .u64 (hi D), .int .u64 (lo D)] 26)) w3.heap.size D ∧ At2 (w7.alloc (.cells #[.int .u64 (hi D), .int .u64 (lo D)] 26)) w7.heap.size D) := by
    have k := gb_alloc g7.gb (.cells #[.int .u64 (hi D), .int .u64 (lo D)] 26)
    exact ⟨gb_trans Z6.out.1 k, Z6.out.2.gb k, At2.new w7 D 26⟩
  clear g7 C7 Z6
  have heq := fun W => wd_same (hi D) (lo D) W
  go_wp2_with fail
  refine (awake_any _).mono ?_
  rintro e w8 ⟨rfl, g8⟩
  have s0 := gb_keeps g8 Z7.out.2.1.c0
  have s1 := gb_keeps g8 Z7.out.2.1.c1
  have t0 := gb_keeps g8 Z7.out.2.2.c0
  have t1 := gb_keeps g8 Z7.out.2.2.c1
  have G8 := gb_trans Z7.out.1 g8
  go_wp2_with fail
  refine (C8 _ G8).mono ?_
  rintro e w9 ⟨rfl, e9⟩
  subst e9
  go_wp2
  go_ret
  exact ⟨by simp, G8⟩
set_option maxHeartbeats 2000000 in
theorem dists_any {w : World} {u v : Value} {a b : List Int} (hu : RdI w u a) (hv : RdI w v b) (d : Int) : Calls Try.prog 3 #[u, v, .int .i64 d] w fun e w' => e = .returned (.bool true) ∧ Gb w w' := by
  by_cases h1 : 65536 < a.length
  · obtain ⟨pa, ca, rfl, _⟩ := hu
    obtain ⟨pb, cb, rfl, _⟩ := hv
    have k1 : (a.length : Int) > 65536 := by omega
    generalize a.length = na at *
    generalize b.length = nb at *
    go_enter Try.func3, Try.ntmps3
    go_wp2
    go_ret
    exact ⟨rfl, Below.refl _ _⟩
  by_cases h2 : 65536 < b.length
  · obtain ⟨pa, ca, rfl, _⟩ := hu
    obtain ⟨pb, cb, rfl, _⟩ := hv
    have k1 : ¬ (a.length : Int) > 65536 := by omega
    have k2 : (b.length : Int) > 65536 := by omega
    generalize a.length = na at *
    generalize b.length = nb at *
    go_enter Try.func3, Try.ntmps3
    go_wp2
    go_ret
    exact ⟨rfl, Below.refl _ _⟩
  · exact dists_in hu hv (by omega) (by omega) d
end Go.Proofs.Ytnhaloeeaejedaa
