/- What came in: vectors with room, tables, a way of training; the law's big and train. -/
import Derived.Test.YtblfmhdcgmkpgaaPAwake
import Derived.Test.YtblfmhdcgmkpgaaLift
import Derived.Test.YtblfmhdcgmkpgaaKBig
namespace Go.Proofs.Ytblfmhdcgmkpgaa
open Go.ChangeShapes Go.WideShapes Go.ChangeAt Go.RowKit Go.Joins Go.Deep

theorem cellsW : Try.prog.cellsOf 51 = 2 := by kernel_rfl
theorem cellsU : Try.prog.cellsOf 23 = 1 := by kernel_rfl
theorem cellsN : Try.prog.cellsOf 71 = 1 := by kernel_rfl
theorem cellsH : Try.prog.cellsOf 25 = 5 := by kernel_rfl
/-- A list of numbers, with its room. -/
theorem trodJ {H : Type} {enc : TypeId × Value → H} {W : World} {base fuel : Nat} {hd : Bool} {cs : List Value} {x : DataW H × List MemPlace}
    (h : DataW.trod enc Try.prog W base (fun _ => true) hd fuel 40 cs = some x) : ∃ v l, cs = [v] ∧ RdJ W v l ∧ l.length ≤ maxLen := by
  rcases open_slice1 Try.underlying40 Try.cells3 h with ⟨rfl, _⟩ | ⟨a, len, cap, m, n, V, D, Pl, rfl, _, hlc, hcm, hm, _, hx⟩
  · exact ⟨_, [], rfl, ⟨rdi_nil _, fun a n c e => by cases e; exact Nat.le_refl _⟩, Nat.zero_le _⟩
  · rw [if_pos rfl] at hm
    subst hm
    have hy : ∀ i, i < len → ∃ y : Int, W.cell? (a.add i) = some (.int .i64 y) := by
      intro i hi
      obtain ⟨hc, ht⟩ := hx i (by omega)
      obtain ⟨y, e, _⟩ := DataW.trod_int Try.underlying3 ht
      simp at e
      exact ⟨y, by rw [hc, e]⟩
    obtain ⟨Y, hY⟩ := choose_lt (α := Int) (p := fun i y => W.cell? (a.add i) = some (.int .i64 y)) hy
    refine ⟨_, (List.range len).map Y, rfl, ⟨⟨some a, m, by simp, fun i hi => ?_⟩, fun a n c e => by cases e; exact hlc⟩, by simp; omega⟩
    have hi' : i < len := by simpa using hi
    have ha : a = ⟨a.block, a.off, none⟩ := spot_none (by simpa [Addr.add] using hY 0 (by omega))
    refine ⟨a.block, a.off, by rw [← ha], ?_⟩
    have e : ((List.range len).map Y)[i]! = Y i := by rw [getElem!_pos _ i hi]; simp
    rw [e]
    have := hY i hi'
    rwa [ha, Addr.add_lit] at this
set_option maxRecDepth 100000 in
theorem open_intsJ {H : Type} {enc : TypeId × Value → H} {W : World} {b0 : Nat} {r : Reach} {v : Value} {d : DataW H} {p : List MemPlace}
    (hv' : Value.okWide Try.prog W r b0 40 v) (h : DataW.Trod enc Try.prog W 0 (fun _ => true) true 40 v d p) : ∃ l, RdJ W v l ∧ l.length ≤ maxLen := by
  obtain ⟨a0, len, cap, rfl⟩ := okWide_slice Try.underlying40 hv'
  obtain ⟨fuel, hf⟩ := h
  obtain ⟨v, l, e, hr⟩ := trodJ (by simpa [Value.cells] using hf)
  cases e
  exact ⟨l, hr⟩
set_option maxRecDepth 100000 in
/-- Vectors that came in. -/
theorem open_vecsJ {H : Type} {enc : TypeId × Value → H} {W : World} {b0 : Nat} {r : Reach} {v : Value} {d : DataW H} {p : List MemPlace}
    (hv' : Value.okWide Try.prog W r b0 22 v) (h : DataW.Trod enc Try.prog W 0 (fun _ => true) true 22 v d p) : ∃ vs : Vs, RdVJ W v vs ∧ vs.length ≤ maxLen ∧ ∀ i, i < vs.length → vs[i]!.length ≤ maxLen := by
  obtain ⟨a0, len, cap, rfl⟩ := okWide_slice Try.underlying22 hv'
  obtain ⟨fuel, hf⟩ := h
  rcases open_slice1 Try.underlying22 Try.cellsV (by simpa [Value.cells] using hf) with ⟨e, _⟩ | ⟨a, len, cap, m, n, V, D, Pl, e, _, hlc, hcm, hm, _, hx⟩
  · cases e
    exact ⟨[], ⟨none, 0, rfl, fun _ hi => absurd hi (Nat.not_lt_zero _)⟩, Nat.zero_le _, fun i hi => absurd hi (Nat.not_lt_zero _)⟩
  · cases e
    rw [if_pos rfl] at hm
    subst hm
    have hy : ∀ i, i < len → ∃ y : List Int, (∃ u, W.cell? (a.add i) = some u ∧ RdJ W u y) ∧ y.length ≤ maxLen := by
      intro i hi
      obtain ⟨hc, ht⟩ := hx i (by omega)
      obtain ⟨u, l, e6, rl, ll⟩ := trodJ ht
      simp at e6
      exact ⟨l, ⟨u, by rw [hc, e6], rl⟩, ll⟩
    obtain ⟨Y, hY⟩ := choose_lt (α := List Int) (p := fun i y => (∃ u, W.cell? (a.add i) = some u ∧ RdJ W u y) ∧ y.length ≤ maxLen) hy
    have hg : ∀ i, i < len → ((List.range len).map Y)[i]! = Y i := by
      intro i hi
      rw [getElem!_pos _ i (by simpa using hi)]; simp
    refine ⟨(List.range len).map Y, ⟨some a, m, by simp, fun i hi => ?_⟩, by simp; omega, fun i hi => ?_⟩
    · have hi' : i < len := by simpa using hi
      obtain ⟨⟨u0, q0, _⟩, _⟩ := hY 0 (by omega)
      have ha : a = ⟨a.block, a.off, none⟩ := spot_none (by simpa [Addr.add] using q0)
      obtain ⟨⟨u, q1, q3⟩, _⟩ := hY i hi'
      rw [hg i hi']
      rw [ha, Addr.add_lit] at q1
      exact ⟨a.block, a.off, u, by rw [← ha], q1, q3⟩
    · have hi' : i < len := by simpa using hi
      rw [hg i hi']; exact (hY i hi').2
set_option maxRecDepth 100000 in
/-- A list of great numbers, read. -/
theorem trodN {H : Type} {enc : TypeId × Value → H} {W : World} {base fuel : Nat} {hd : Bool} {cs : List Value} {x : DataW H × List MemPlace}
    (h : DataW.trod enc Try.prog W base (fun _ => true) hd fuel 71 cs = some x) : ∃ v l, cs = [v] ∧ RdN W v l ∧ ∀ i, i < l.length → l[i]! < 340282366920938463463374607431768211456 := by
  rcases open_slice Try.underlying71 h with ⟨rfl, _⟩ | ⟨a, len, cap, m, n, D, Pl, rfl, _, hlc, hcm, hm, _, hx⟩
  · exact ⟨_, [], rfl, ⟨none, 0, rfl, fun i hi => absurd hi (Nat.not_lt_zero _)⟩, fun i hi => absurd hi (Nat.not_lt_zero _)⟩
  · rw [if_pos rfl] at hm
    subst hm
    have hy : ∀ i, i < len → ∃ y : Nat, (W.cell? (a.add (i * 2)) = some (.int .u64 (hi y)) ∧ W.cell? ((a.add (i * 2)).add 1) = some (.int .u64 (lo y))) ∧ y < 340282366920938463463374607431768211456 := by
      intro i hi
      obtain ⟨cs, hc, ht⟩ := hx i (by omega)
      obtain ⟨z0, z1, k, _, hl1, j0, j1⟩ := trod_struct2 Try.underlying51 ht
      rw [cellsW] at hl1 hc
      match cs, hl1 with
      | [c0, c1], _ =>
        obtain ⟨p, e5, _, wa⟩ := DataW.trod_int Try.underlying23 j0
        obtain ⟨q, e6, _, wb⟩ := DataW.trod_int Try.underlying23 j1
        simp [cellsU] at e5 e6
        subst e5 e6
        obtain ⟨_, _, hcc⟩ := World.cells?_some hc
        have q0 := hcc 0 (by omega)
        have q1 := hcc 1 (by omega)
        obtain ⟨a0, a1⟩ := word_of_wf wa
        obtain ⟨l0, l1⟩ := word_of_wf wb
        obtain ⟨r1, r2⟩ := hi_lo p q a0 l0 l1
        exact ⟨(p * 18446744073709551616 + q).toNat, ⟨by rw [r1]; simpa [Addr.add] using q0, by rw [r2]; simpa using q1⟩, wd_lt p q a1 l1⟩
    obtain ⟨Y, hY⟩ := choose_lt (α := Nat) (p := fun i y => (W.cell? (a.add (i * 2)) = some (.int .u64 (hi y)) ∧ W.cell? ((a.add (i * 2)).add 1) = some (.int .u64 (lo y))) ∧ y < 340282366920938463463374607431768211456) hy
    have hg : ∀ i, i < len → ((List.range len).map Y)[i]! = Y i := by
      intro i hi
      rw [getElem!_pos _ i (by simpa using hi)]; simp
    refine ⟨_, (List.range len).map Y, rfl, ⟨some a, m, by simp, fun i hi => ?_⟩, fun i hi => ?_⟩
    · have hi' : i < len := by simpa using hi
      obtain ⟨⟨q0, _⟩, _⟩ := hY 0 (by omega)
      have ha : a = ⟨a.block, a.off, none⟩ := spot_none (by simpa [Addr.add] using q0)
      obtain ⟨⟨q1, q2⟩, _⟩ := hY i hi'
      rw [hg i hi']
      rw [ha, Addr.add_lit] at q1
      rw [ha, Addr.add_lit, Addr.add_lit] at q2
      exact ⟨a.block, a.off, by rw [← ha], q1, q2⟩
    · have hi' : i < len := by simpa using hi
      rw [hg i hi']; exact (hY i hi').2
set_option maxRecDepth 100000 in
/-- A table that came in. -/
theorem open_table {H : Type} {enc : TypeId × Value → H} {W : World} {b0 : Nat} {r : Reach} {v : Value} {d : DataW H} {p : List MemPlace}
    (hv' : Value.okWide Try.prog W r b0 44 v) (h : DataW.Trod enc Try.prog W 0 (fun _ => true) true 44 v d p) : ∃ t, RdT W v t ∧ TabOk t := by
  obtain ⟨a0, len, cap, rfl⟩ := okWide_slice Try.underlying44 hv'
  obtain ⟨fuel, hf⟩ := h
  rcases open_slice1 Try.underlying44 cellsN (by simpa [Value.cells] using hf) with ⟨e, _⟩ | ⟨a, len, cap, m, n, V, D, Pl, e, _, hlc, hcm, hm, _, hx⟩
  · cases e
    exact ⟨[], ⟨none, 0, rfl, fun _ hi => absurd hi (Nat.not_lt_zero _)⟩, fun i hi => absurd hi (Nat.not_lt_zero _)⟩
  · cases e
    rw [if_pos rfl] at hm
    subst hm
    have hy : ∀ i, i < len → ∃ y : List Nat, (∃ u, W.cell? (a.add i) = some u ∧ RdN W u y) ∧ ∀ j, j < y.length → y[j]! < 340282366920938463463374607431768211456 := by
      intro i hi
      obtain ⟨hc, ht⟩ := hx i (by omega)
      obtain ⟨u, l, e6, rl, ll⟩ := trodN ht
      simp at e6
      exact ⟨l, ⟨u, by rw [hc, e6], rl⟩, ll⟩
    obtain ⟨Y, hY⟩ := choose_lt (α := List Nat) (p := fun i y => (∃ u, W.cell? (a.add i) = some u ∧ RdN W u y) ∧ ∀ j, j < y.length → y[j]! < 340282366920938463463374607431768211456) hy
    have hg : ∀ i, i < len → ((List.range len).map Y)[i]! = Y i := by
      intro i hi
      rw [getElem!_pos _ i (by simpa using hi)]; simp
    refine ⟨(List.range len).map Y, ⟨some a, m, by simp, fun i hi => ?_⟩, fun i hi => ?_⟩
    · have hi' : i < len := by simpa using hi
      obtain ⟨⟨u0, q0, _⟩, _⟩ := hY 0 (by omega)
      have ha : a = ⟨a.block, a.off, none⟩ := spot_none (by simpa [Addr.add] using q0)
      obtain ⟨⟨u, q1, q3⟩, _⟩ := hY i hi'
      rw [hg i hi']
      rw [ha, Addr.add_lit] at q1
      exact ⟨a.block, a.off, u, by rw [← ha], q1, q3⟩
    · have hi' : i < len := by simpa using hi
      rw [hg i hi']; exact (hY i hi').2
set_option maxRecDepth 100000 in
/-- A way of training that came in. -/
theorem open_how {H : Type} {enc : TypeId × Value → H} {W : World} {b0 : Nat} {r : Reach} {v : Value} {d : DataW H} {p : List MemPlace}
    (hv' : Value.okWide Try.prog W r b0 25 v) (h : DataW.Trod enc Try.prog W 0 (fun _ => true) true 25 v d p) :
    ∃ a b c e x : Int, v = .agg #[.int .i64 a, .int .i64 b, .int .i64 c, .int .i64 e, .int .u64 x] ∧ Rn.U x := by
  obtain ⟨cs, rfl, hsz⟩ := okWide_struct Try.underlying25 hv'
  obtain ⟨fuel, hf⟩ := h
  obtain ⟨l⟩ := cs
  simp only [Value.cells] at hf
  obtain ⟨y0, y1, y2, y3, y4, n, hl, k0, k1, k2, k3, k4⟩ := trod_struct5 Try.underlying25 hf
  rw [cellsH] at hl
  match l, hl with
  | [c0, c1, c2, c3, c4], _ =>
    obtain ⟨a, e0, _⟩ := DataW.trod_int Try.underlying3 k0
    obtain ⟨b, e1, _⟩ := DataW.trod_int Try.underlying3 k1
    obtain ⟨c, e2, _⟩ := DataW.trod_int Try.underlying3 k2
    obtain ⟨e, e3, _⟩ := DataW.trod_int Try.underlying3 k3
    obtain ⟨x, e4, _, wx⟩ := DataW.trod_int Try.underlying23 k4
    simp [Try.cells3, cellsU] at e0 e1 e2 e3 e4
    subst e0 e1 e2 e3 e4
    exact ⟨a, b, c, e, x, rfl, word_of_wf wx⟩

/-- The law's big tells something. -/
def SomeB (w : World) (e : Ending) (w' : World) : Prop := (∃ b, e = .returned (.bool b)) ∧ w = w'
set_option maxHeartbeats 1000000 in
set_option maxRecDepth 100000 in
theorem big_c {w : World} {v : Value} {vs : Vs} (h : RdV w v vs) :
    Calls Try.prog 9 #[v] w fun e w' => SomeB w e w' := by
  obtain ⟨a, cap, rfl, ha⟩ := h
  have A : Hid (∀ i, i < vs.length → ∃ b o u, a = some ⟨b, o, none⟩ ∧ w.cell? ⟨b, o + i, none⟩ = some u ∧ RdI w u vs[i]!) := ha
  obtain ⟨n, hN⟩ : ∃ n, n = vs.length := ⟨_, rfl⟩
  have N : Hid (n = vs.length) := hN
  rw [← hN]
  clear ha hN
  by_cases hb : 32768 < n
  · clear A N
    have h0 : 0 < n := by omega
    go_enter Try.func9, Try.ntmps9
    go_wp2
    go_loopw [3, 4] (fun sv iv w' => sv = .int .i64 (n : Int) ∧ iv = .int .i64 0 ∧ w = w') (fun _ _ _ => 0)
    case atStart => exact ⟨rfl, rfl, rfl⟩
    case round =>
      obtain ⟨rfl, rfl, rfl⟩ := hrel
      go_wp2
      go_ret
      exact ⟨⟨true, rfl⟩, by first | rfl | trivial⟩
  go_enter Try.func9, Try.ntmps9
  go_wp2
  go_loopw [3, 4] (fun sv iv w' => ∃ (q : Nat) (z : Int), iv = .int .i64 (q : Int) ∧ q ≤ n ∧ sv = .int .i64 z ∧ w = w') (fun _ iv _ => n - (intOf iv).toNat)
  case atStart => exact ⟨0, n, rfl, Nat.zero_le _, rfl, rfl⟩
  case round =>
    obtain ⟨q, z, rfl, hq, rfl, rfl⟩ := hrel
    by_cases hqn : q < n
    · have hqi : (q : Int) < (n : Int) := by omega
      by_cases hz : z ≤ 32768
      · obtain ⟨b, o, u, ea, k1, k2⟩ := A.out q (by have := N.out; omega)
        subst ea
        obtain ⟨pu, cu, rfl, _⟩ := k2
        generalize vs[q]!.length = m at *
        go_wp2
        go_roundw
        case rel => exact ⟨q + 1, _, by go_num, hqn, rfl, by first | rfl | trivial⟩
        case measure => simp [intOf]; omega
      · go_wp2
        go_ret
        exact ⟨⟨_, rfl⟩, by first | rfl | trivial⟩
    · have hqi : ¬ (q : Int) < (n : Int) := by omega
      go_wp2
      go_ret
      exact ⟨⟨_, rfl⟩, by first | rfl | trivial⟩
set_option maxHeartbeats 1000000 in
theorem lawtrain_no {w : World} {lv : Value} {l : Vs} (hl : RdV w lv l) (d m k r x : Int) (hz : pqE l d m k r ≠ 0) :
    Calls Try.prog 10 #[lv, .agg #[.int .i64 d, .int .i64 m, .int .i64 k, .int .i64 r, .int .u64 x]] w fun e w' => e = .returned (.tuple #[.pointer none, .int .i64 (pqE l d m k r)]) ∧ Gb w w' := by
  have c := ptrain_no (hl.gb (gb_alloc (Below.refl _ _) (.cells #[.int .i64 d, .int .i64 m, .int .i64 k, .int .i64 r, .int .u64 x] 25))) d m k r x hz
  obtain ⟨al, cl, rfl, _⟩ := hl
  generalize pqE l d m k r = z at *
  generalize l.length = n at *
  go_enter Try.func10, Try.ntmps10
  go_wp2_with fail
  go_fit c
  rintro e w1 ⟨rfl, e1⟩
  subst e1
  clear c
  go_wp2
  go_ret2
  exact ⟨rfl, gb_alloc (Below.refl _ _) _⟩
set_option maxHeartbeats 1000000 in
theorem lawtrain_ok {w : World} {lv : Value} {l : Vs} (hl : RdVJ w lv l) {m s k r : Nat} (T : TrOk l m s k r) (x : Int) (hx : Rn.U x) :
    Calls Try.prog 10 #[lv, .agg #[.int .i64 ((m * s : Nat) : Int), .int .i64 (m : Int), .int .i64 (k : Int), .int .i64 (r : Int), .int .u64 x]] w fun e w' => ∃ p, e = .returned (.tuple #[.pointer (some ⟨p, 0, none⟩), .int .i64 0]) ∧ CodAt w' p (m * s) (booksV l m k r x) ∧ Gb w w' := by
  have c := ptrain_ok (hl.gb (gb_alloc (Below.refl _ _) (.cells #[.int .i64 ((m * s : Nat) : Int), .int .i64 (m : Int), .int .i64 (k : Int), .int .i64 (r : Int), .int .u64 x] 25))) T x hx
  obtain ⟨al, cl, rfl, _⟩ := hl
  generalize booksV l m k r x = bs at *
  generalize l.length = n at *
  generalize m * s = d at *
  go_enter Try.func10, Try.ntmps10
  go_wp2_with fail
  go_fit c
  rintro e w1 ⟨p, rfl, hc, g1⟩
  have H : Hid (CodAt w1 p d bs ∧ Gb w w1) := ⟨hc, gb_trans (gb_alloc (Below.refl _ _) _) g1⟩
  clear c hc g1
  go_wp2
  go_ret2
  exact ⟨p, rfl, H.out.1, H.out.2⟩
end Go.Proofs.Ytblfmhdcgmkpgaa
