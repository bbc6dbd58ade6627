/- theodolitekeep.Bytes, LendBytes, BackBytes. -/
import Derived.Test.YtkagnoinifffdaaRx1
namespace Go.Proofs.Ytkagnoinifffdaa
open Go.RowKit Go.Lib

set_option maxHeartbeats 1000000 in
theorem bytes_same {w : World} {u v : Value} {l : List UInt8} (hu : RdB w u l) (hv : RdB w v l) (hl : l.length ≤ 4611686018427387904) :
    Calls Try.prog 23 #[u, v] w fun e w' => e = .returned (.bool true) ∧ Gb w w' := by
  obtain ⟨a, ca, rfl, _, ha⟩ := hu
  obtain ⟨b, cb, rfl, _, hb⟩ := hv
  have A : Hid (∀ i, i < l.length → ∃ b o, a = some ⟨b, o, none⟩ ∧ w.cell? ⟨b, o + i, none⟩ = some (.int .u8 (l[i]!.toNat : Int))) := ha
  have B : Hid (∀ i, i < l.length → ∃ b' o, b = some ⟨b', o, none⟩ ∧ w.cell? ⟨b', o + i, none⟩ = some (.int .u8 (l[i]!.toNat : Int))) := hb
  obtain ⟨n, hN⟩ : ∃ n, n = l.length := ⟨_, rfl⟩
  have N : Hid (n = l.length) := hN
  rw [← hN] at hl ⊢
  clear ha hb hN
  go_enter Try.func23, Try.ntmps23
  go_wp2
  go_loopw [5] (fun iv W => ∃ q : Nat, iv = .int .i64 (q : Int) ∧ q ≤ n ∧ Hid (Gb w W)) (fun iv _ => n - (intOf iv).toNat)
  case atStart => exact ⟨0, rfl, Nat.zero_le _, Below.refl _ _⟩
  case round =>
    obtain ⟨q, rfl, hq, X⟩ := hrel
    by_cases hqn : q < n
    · have hqi : (q : Int) < (n : Int) := by omega
      obtain ⟨b1, o1, e1, k1⟩ := A.out q (by have := N.out; omega)
      obtain ⟨b2, o2, e2, k2⟩ := B.out q (by have := N.out; omega)
      have k1 := gb_keeps X.out k1
      have k2 := gb_keeps X.out k2
      generalize (l[q]!.toNat : Int) = z at *
      subst e1
      subst e2
      go_wp2
      go_quiet (fail)
      go_wp2
      exact ⟨⟨q + 1, by simp, hqn, below_drewN X.out _⟩, by simp [intOf]; omega⟩
    · have e : q = n := by omega
      subst e
      go_wp2
      go_ret
      exact ⟨rfl, X.out⟩
/-- Bytes that were lent: block g, the two marks behind them. -/
def LentB (W : World) (g : Nat) (l : List UInt8) : Prop := W.heap[g]? = some (.cells ((l ++ [165, 90]).map bv).toArray 5 (0, 0))
theorem LentB.rd {W : World} {g : Nat} {l : List UInt8} (h : LentB W g l) : RdB W (.slice (some ⟨g, 0, none⟩) l.length (l.length + 2)) l := by
  refine ⟨_, _, rfl, by omega, fun i hi => ⟨g, 0, rfl, ?_⟩⟩
  unfold LentB at h
  simp only [World.cell?, h, Nat.zero_add]
  simp only [Option.isSome_none, Bool.false_eq_true, if_false, List.getElem?_toArray, List.map_append]
  rw [List.getElem?_append_left (by simpa using hi)]
  simp [bv, hi]
theorem LentB.gb {W W' : World} {g : Nat} {l : List UInt8} (h : LentB W g l) (k : Gb W W') : LentB W' g l := (k.block g (Array.getElem?_eq_some_iff.1 h).1).trans h
set_option maxHeartbeats 2000000 in
set_option maxRecDepth 100000 in
theorem lendB_c {w : World} {u : Value} {l : List UInt8} (hu : RdB w u l) (hn : l.length ≤ 1048576) :
    Calls Try.prog 44 #[u] w fun e w' => e = .returned (.slice (some ⟨w.heap.size, 0, none⟩) l.length (l.length + 2)) ∧ LentB w' w.heap.size l ∧ Gb w w' ∧ w.heap.size < w'.heap.size := by
  obtain ⟨a, cap, rfl, _⟩ := id hu
  have hmk := run_make_row' (P := Try.prog) 33 5 (.int .u8 0) 1 Try.underlying33 Try.infoB rfl .i64 .i64 (l.length + 2) (by omega) (by omega) w
  obtain ⟨V, hcp, hV, gV, sV⟩ := copy_in hu (l.length + 2) (by omega) 3
  have e2 : tk (l.length + 2) l = l ++ [0, 0] := by
    unfold tk
    rw [List.take_of_length_le (by omega), show l.length + 2 - l.length = 2 by omega]; rfl
  rw [e2] at hV
  have hmin : Nat.min l.length (l.length + 2) = l.length := Nat.min_eq_left (by omega)
  rw [hmin] at hcp
  have c0 : V.cell? ⟨w.heap.size, l.length, none⟩ = some (.int .u8 0) := by simp [World.cell?, hV, bv]
  have c1 : V.cell? ⟨w.heap.size, l.length + 1, none⟩ = some (.int .u8 0) := by simp [World.cell?, hV, bv]
  have f0 : V.frozen? ⟨w.heap.size, l.length, none⟩ = false := by simp [World.frozen?, hV]
  have f1 : V.frozen? ⟨w.heap.size, l.length + 1, none⟩ = false := by simp [World.frozen?, hV]
  have F : Hid (LentB ((V.setCell ⟨w.heap.size, l.length, none⟩ (.int .u8 165)).setCell ⟨w.heap.size, l.length + 1, none⟩ (.int .u8 90)) w.heap.size l ∧ Gb w ((V.setCell ⟨w.heap.size, l.length, none⟩ (.int .u8 165)).setCell ⟨w.heap.size, l.length + 1, none⟩ (.int .u8 90)) ∧ w.heap.size < ((V.setCell ⟨w.heap.size, l.length, none⟩ (.int .u8 165)).setCell ⟨w.heap.size, l.length + 1, none⟩ (.int .u8 90)).heap.size) := by
    refine ⟨?_, gb_set (gb_set gV (Nat.le_refl _) _) (Nat.le_refl _) _, by rw [World.size_setCell, World.size_setCell, sV]; omega⟩
    unfold LentB
    rw [heap_set0 (heap_set0 hV)]
    congr 2
    apply Array.ext'
    rw [Array.toList_setIfInBounds, Array.toList_setIfInBounds]
    show (((l ++ [0, 0]).map bv).set l.length (.int .u8 165)).set (l.length + 1) (.int .u8 90) = (l ++ [165, 90]).map bv
    simp [List.set_append_right, bv]
  clear hu hV gV sV e2 hmin
  generalize l.length = n at *
  obtain ⟨m, hM⟩ : ∃ m, m = n + 2 := ⟨_, rfl⟩
  have hm : (n : Int) + 2 = (m : Int) := by omega
  have hnm : (n : Int) < (m : Int) := by omega
  have hnm1 : (n : Int) + 1 < (m : Int) := by omega
  have hnm2 : n ≤ m := by omega
  rw [← hM] at hmk hcp ⊢
  have hmb : m ≤ 1048578 := by omega
  clear hM
  go_enter Try.func44, Try.ntmps44
  go_wp2
  go_ret
  exact ⟨rfl, F.out⟩
/-- Bytes under way: all of block g are numbers of a byte. -/
def AnyB (W : World) (g m : Nat) : Prop := ∃ cs : Array Value, W.heap[g]? = some (.cells cs 5 (0, 0)) ∧ cs.size = m ∧ ∀ i, i < m → ∃ z, cs[i]? = some (.int .u8 z)
theorem AnyB.cell {W : World} {g m i : Nat} (h : AnyB W g m) (hi : i < m) : ∃ z, W.cell? ⟨g, i, none⟩ = some (.int .u8 z) ∧ W.frozen? ⟨g, i, none⟩ = false := by
  obtain ⟨cs, h1, _, h3⟩ := h
  obtain ⟨z, hz⟩ := h3 i hi
  exact ⟨z, by simp [World.cell?, h1, hz], by simp [World.frozen?, h1]⟩
theorem AnyB.set {W : World} {g m i : Nat} (h : AnyB W g m) (z : Int) : AnyB (W.setCell ⟨g, i, none⟩ (.int .u8 z)) g m := by
  obtain ⟨cs, h1, h2, h3⟩ := h
  refine ⟨_, heap_set0 h1, by simpa using h2, fun j hj => ?_⟩
  by_cases e : j = i
  · subst e
    exact ⟨z, by rw [Array.getElem?_setIfInBounds_self_of_lt (by omega)]⟩
  · rw [Array.getElem?_setIfInBounds_ne (by omega)]
    exact h3 j hj
theorem LentB.any {W : World} {g : Nat} {l : List UInt8} (h : LentB W g l) : AnyB W g (l.length + 2) := by
  refine ⟨_, h, by simp, fun i hi => ?_⟩
  rw [List.getElem?_toArray, List.getElem?_map, List.getElem?_eq_getElem (by simp; omega)]
  exact ⟨_, rfl⟩
theorem LentB.marks {W : World} {g : Nat} {l : List UInt8} (h : LentB W g l) : W.cell? ⟨g, l.length, none⟩ = some (.int .u8 165) ∧ W.cell? ⟨g, l.length + 1, none⟩ = some (.int .u8 90) := by
  unfold LentB at h
  exact ⟨by simp [World.cell?, h, bv], by simp [World.cell?, h, bv]⟩
set_option maxHeartbeats 2000000 in
set_option maxRecDepth 100000 in
theorem backB_c {w w0 : World} {g : Nat} {u : Value} {l : List UInt8} (h : LentB w g l) (hu : RdB w u l) (g0 : Gb w0 w) (hg : w0.heap.size ≤ g) (hn : l.length ≤ 1048576) :
    Calls Try.prog 45 #[.slice (some ⟨g, 0, none⟩) l.length (l.length + 2), u] w fun e w' => e = .returned (.bool true) ∧ Gb w0 w' := by
  obtain ⟨m1, m2⟩ := h.marks
  have AA : Hid (AnyB w g (l.length + 2)) := h.any
  have G0 : Hid (Gb w0 w ∧ w0.heap.size ≤ g) := ⟨g0, hg⟩
  obtain ⟨a, cap, rfl, _, ha⟩ := hu
  obtain ⟨_, _, eh, _, hb⟩ := h.rd
  cases eh
  have A : Hid (∀ i, i < l.length → ∃ b o, a = some ⟨b, o, none⟩ ∧ w.cell? ⟨b, o + i, none⟩ = some (.int .u8 (l[i]!.toNat : Int))) := ha
  have B : Hid (∀ i, i < l.length → w.cell? ⟨g, i, none⟩ = some (.int .u8 (l[i]!.toNat : Int))) := fun i hi => by
    obtain ⟨b, o, e, k⟩ := hb i hi
    cases e
    rwa [Nat.zero_add] at k
  obtain ⟨n, hN⟩ : ∃ n, n = l.length := ⟨_, rfl⟩
  have N : Hid (n = l.length) := hN
  obtain ⟨m, hM⟩ : ∃ m, m = n + 2 := ⟨_, rfl⟩
  have A2 : Hid (AnyB w g m) := by rw [hM, hN]; exact AA.out
  rw [← hN] at m1 m2 hn ⊢
  rw [← hM]
  have hm : (n : Int) + 2 = (m : Int) := by omega
  have hnm : (n : Int) < (m : Int) := by omega
  have hnm1 : (n : Int) + 1 < (m : Int) := by omega
  have hnm2 : n ≤ m := by omega
  have hmb : m ≤ 1048578 := by omega
  clear ha hb h hN g0 hg hM AA
  go_enter Try.func45, Try.ntmps45
  go_wp2
  go_loopw [6, 7] (fun ov iv W => ov = .bool true ∧ ∃ q : Nat, iv = .int .i64 (q : Int) ∧ q ≤ n ∧ Hid (Gb w W)) (fun _ iv _ => n - (intOf iv).toNat)
  case atStart => exact ⟨rfl, 0, rfl, Nat.zero_le _, Below.refl _ _⟩
  case round =>
    obtain ⟨rfl, q, rfl, hq, X⟩ := hrel
    by_cases hqn : q < n
    · have hqi : (q : Int) < (n : Int) := by omega
      obtain ⟨b1, o1, e1, k1⟩ := A.out q (by have := N.out; omega)
      have k1 := gb_keeps X.out k1
      have k2 := gb_keeps X.out (B.out q (by have := N.out; omega))
      generalize (l[q]!.toNat : Int) = z at *
      subst e1
      go_wp2
      go_quiet (fail)
      go_wp2
      exact ⟨⟨rfl, q + 1, by simp, hqn, below_drewN X.out _⟩, by simp [intOf]; omega⟩
    · have e : q = n := by omega
      subst e
      have A3 : Hid (AnyB wr g m) := by
        obtain ⟨cs, h1, h2⟩ := A2.out
        exact ⟨cs, (X.out.block g (Array.getElem?_eq_some_iff.1 h1).1).trans h1, h2⟩
      have G3 : Hid (Gb w0 wr) := gb_trans G0.out.1 X.out
      clear X
      go_wp2
      go_loopw [8] (fun iv W => ∃ q : Nat, iv = .int .i64 (q : Int) ∧ q ≤ m ∧ Hid (AnyB W g m ∧ Gb w0 W)) (fun iv _ => m - (intOf iv).toNat)
      case atStart => exact ⟨0, rfl, Nat.zero_le _, A3.out, G3.out⟩
      case round =>
        obtain ⟨p, rfl, hp, Y⟩ := hrel
        by_cases hpm : p < m
        · have hpi : (p : Int) < (m : Int) := by omega
          obtain ⟨z, k1, k2⟩ := Y.out.1.cell hpm
          have Y1 := fun z' => Y.out.1.set (i := p) z'
          have Y2 := fun z' => gb_set Y.out.2 (p := ⟨g, p, none⟩) G0.out.2 (.int .u8 z')
          go_wp2
          exact ⟨⟨p + 1, by simp, hpm, Y1 _, Y2 _⟩, by simp [intOf]; omega⟩
        · have e : p = m := by omega
          subst e
          go_wp2
          go_ret
          exact ⟨rfl, Y.out.2⟩
end Go.Proofs.Ytkagnoinifffdaa
