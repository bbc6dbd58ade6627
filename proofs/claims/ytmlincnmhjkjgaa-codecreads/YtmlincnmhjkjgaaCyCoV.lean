/- withNumber and number above what was there; withVector, coord; checkChange. -/
import Derived.Test.YtmlincnmhjkjgaaCyCoO
namespace Go.Proofs.Ytmlincnmhjkjgaa
open Go.RowKit

theorem OwnB.below {w1 w w' : World} {v v' : Value} {l : List UInt8} (g : Gb w1 w) (h : OwnB w w1.heap.size v l) (k : GrB w w' v v') : Gb w1 w' :=
  g.trans (k.below (fun i e => (h.lo i e).1) g.size)
theorem withNumber_g {w1 w : World} {v : Value} {l : List UInt8} (g : Gb w1 w) (h : OwnB w w1.heap.size v l) (m k : Nat) (hm : m < 4294967296) (hl : l.length + k ≤ 140737488355328) :
    Calls Try.prog 36 #[v, .int .u32 (m : Int), .int .i64 (k : Int)] w fun e w' => ∃ v', e = .returned v' ∧ OwnB w' w1.heap.size v' (l ++ leB m k) ∧ Gb w1 w' :=
  (withNumber_c h g.size m k hm hl).mono fun _ _ ⟨v', e, o, r⟩ => ⟨v', e, o, h.below g r⟩
theorem rnumber_g {w1 w : World} {v : Value} {l : List UInt8} (g : Gb w1 w) (h : OwnB w w1.heap.size v l) (m k : Nat) (hm : m < 9223372036854775808) (hl : l.length + k ≤ 140737488355328) :
    Calls Try.prog 30 #[v, .int .i64 (m : Int), .int .i64 (k : Int)] w fun e w' => ∃ v', e = .returned v' ∧ OwnB w' w1.heap.size v' (l ++ leB m k) ∧ Gb w1 w' :=
  (rnumber_c h g.size m k hm hl).mono fun _ _ ⟨v', e, o, r⟩ => ⟨v', e, o, h.below g r⟩
/-- A coordinate's bytes; a vector's. -/
def co1 (x : Int) : List UInt8 := leB (x % 4294967296).toNat 4
def coB (v : List Int) : List UInt8 := v.flatMap co1
theorem co1_length (x : Int) : (co1 x).length = 4 := leB_length _ _
theorem coB_length (v : List Int) : (coB v).length = 4 * v.length := by
  unfold coB
  induction v with
  | nil => rfl
  | cons x v ih => rw [List.flatMap_cons, List.length_append, co1_length, ih, List.length_cons]; omega
theorem coB_take {v : List Int} {q : Nat} (hq : q < v.length) : coB (v.take (q + 1)) = coB (v.take q) ++ co1 v[q]! := by
  unfold coB
  rw [List.take_succ_eq_append_getElem hq, List.flatMap_append, getElem!_pos v q hq]; simp
set_option maxHeartbeats 1000000 in
theorem rcoord_g {w1 w : World} {v : Value} {l : List UInt8} (g : Gb w1 w) (h : OwnB w w1.heap.size v l) (x : Int) (h1 : -2147483648 ≤ x) (h2 : x ≤ 2147483648) (hl : l.length + 4 ≤ 140737488355328) :
    Calls Try.prog 32 #[v, .int .i64 x] w fun e w' => ∃ v', e = .returned v' ∧ OwnB w' w1.heap.size v' (l ++ co1 x) ∧ Gb w1 w' := by
  have c := rnumber_g g h (x % 4294967296).toNat 4 (by omega) hl
  obtain ⟨a, cap, rfl, _⟩ := h.rd
  by_cases hx : x < 0
  · rw [show (((x % 4294967296).toNat : Nat) : Int) = x + 4294967296 by omega] at c
    go_enter Try.func32, Try.ntmps32
    go_wp2_with fail
    refine c.mono ?_
    rintro e w' ⟨v', rfl, o, g'⟩
    go_wp2
    go_ret
    exact ⟨_, rfl, o, g'⟩
  · rw [show (((x % 4294967296).toNat : Nat) : Int) = x by omega] at c
    go_enter Try.func32, Try.ntmps32
    go_wp2_with fail
    refine c.mono ?_
    rintro e w' ⟨v', rfl, o, g'⟩
    go_wp2
    go_ret
    exact ⟨_, rfl, o, g'⟩
set_option maxHeartbeats 1000000 in
theorem withVector_g {w1 w : World} {v u : Value} {l : List UInt8} {xs : List Int} (hu : RdI w1 u xs) (g : Gb w1 w) (h : OwnB w w1.heap.size v l) (hl : l.length + 4 * xs.length ≤ 140737488355328) :
    Calls Try.prog 37 #[v, u] w fun e w' => ∃ v', e = .returned v' ∧ OwnB w' w1.heap.size v' (l ++ coB xs) ∧ Gb w1 w' := by
  obtain ⟨a, cap, rfl, ha⟩ := hu
  have A : Hid (∀ i, i < xs.length → ∃ b o, a = some ⟨b, o, none⟩ ∧ w1.cell? ⟨b, o + i, none⟩ = some (.int .i64 xs[i]!)) := ha
  have O : Hid (Gb w1 w ∧ OwnB w w1.heap.size v l) := ⟨g, h⟩
  have L : Hid (l.length + 4 * xs.length ≤ 140737488355328) := hl
  obtain ⟨n, hN⟩ : ∃ n, n = xs.length := ⟨_, rfl⟩
  have N : Hid (n = xs.length) := hN
  rw [← hN]
  have hn : n ≤ 35184372088832 := by have := L.out; omega
  obtain ⟨a0, cap0, rfl, _⟩ := h.rd
  clear ha hN g h hl
  go_enter Try.func37, Try.ntmps37
  go_wp2
  go_loopw [0, 9] (fun bb iv w' => ∃ q : Nat, iv = .int .i64 (q : Int) ∧ q ≤ n ∧ Hid (OwnB w' w1.heap.size bb (l ++ coB (xs.take q)) ∧ Gb w1 w')) (fun _ iv _ => n - (intOf iv).toNat)
  case atStart => exact ⟨0, rfl, Nat.zero_le _, by simpa [coB] using O.out.2, O.out.1⟩
  case round =>
    obtain ⟨q, rfl, hq, X⟩ := hrel
    by_cases hqn : q < n
    · have hqi : (q : Int) < (n : Int) := by omega
      have hql : q < xs.length := by have := N.out; omega
      obtain ⟨b, o, ea, hc⟩ := A.out q hql
      have S : Hid (coB (xs.take (q + 1)) = coB (xs.take q) ++ co1 xs[q]!) := coB_take hql
      have hcell := gb_keeps X.out.2 hc
      have LL : Hid ((l ++ coB (xs.take q)).length + 4 ≤ 140737488355328) := by
        unfold Hid; rw [List.length_append, coB_length, List.length_take]; have := L.out; have := N.out; have := Nat.min_le_left q xs.length; have := Nat.min_eq_left (Nat.le_of_lt hql); omega
      have c := withNumber_g X.out.2 X.out.1 (xs[q]! % 4294967296).toNat 4 (by omega) LL.out
      have LQ : Hid ((l ++ coB (xs.take q)) ++ leB (xs[q]! % 4294967296).toNat 4 = l ++ coB (xs.take (q + 1))) := by unfold Hid; rw [S.out, List.append_assoc]; rfl
      rw [LQ.out] at c
      generalize xs[q]! = x at *
      rw [show (((x % 4294967296).toNat : Nat) : Int) = x % 4294967296 by omega] at c
      obtain ⟨a2, cap2, rfl, _⟩ := X.out.1.rd
      generalize (l ++ coB (xs.take q)).length = n2 at *
      clear hc hql
      subst ea
      go_wp2_with (first
        | (go_at_call 36; refine c.mono ?_; rintro e w' ⟨v', rfl, o', g'⟩)
        | go_in)
      exact ⟨⟨q + 1, by simp, hqn, o', g'⟩, by simp [intOf]; omega⟩
    · have e : q = n := by omega
      subst e
      have E : Hid (xs.take q = xs) := by unfold Hid; rw [List.take_of_length_le (by have := N.out; omega)]
      go_wp2
      go_ret
      have Y := X.out
      rw [E.out] at Y
      exact ⟨_, rfl, Y.1, Y.2⟩

/-- A change as a value; what keeps it from having a text; its text. -/
def Ch (k id : Int) (u : Value) : Value := .agg #[.int .i64 k, .int .i64 id, u]
def chE (k id : Int) (v : List Int) : Int := if k ≠ 1 ∧ k ≠ 2 then 160 else if id < 1 ∨ 1000000000 < id then 50 else if k = 1 then chk v v.length else if 0 < v.length then 1 else 0
def chT (k id : Int) (v : List Int) : List UInt8 := leB k.toNat 1 ++ leB id.toNat 4 ++ (if k = 1 then leB v.length 1 ++ coB v else [])
set_option maxHeartbeats 1000000 in
theorem checkChange_c {w : World} {u : Value} {v : List Int} (k id : Int) (hu : RdI w u v) :
    Calls Try.prog 14 #[Ch k id u] w fun e w' => e = .returned (.int .i64 (chE k id v)) ∧ Gb w w' := by
  unfold Ch
  have c := fun W (g : Gb w W) => check_c (hu.gb g) (v.length : Int)
  obtain ⟨a, cap, rfl, _⟩ := hu
  have EE : Hid (chE k id v = chE k id v) := rfl
  unfold chE at EE ⊢
  generalize hz : chk v v.length = z at *
  generalize hn : v.length = n at *
  clear hz hn EE
  by_cases hk : k ≠ 1 ∧ k ≠ 2
  · rw [if_pos hk]
    have h1 : (k != 1) = true := by simp [bne_iff_ne]; exact hk.1
    have h2 : (k != 2) = true := by simp [bne_iff_ne]; exact hk.2
    clear hk
    go_enter Try.func14, Try.ntmps14
    go_wp2
    go_ret
    exact ⟨rfl, gb_alloc (Below.refl _ _) _⟩
  rw [if_neg hk]
  by_cases hi : id < 1 ∨ 1000000000 < id
  · rw [if_pos hi]
    by_cases hk1 : k = 1
    · subst hk1
      clear hk
      by_cases hi1 : id < 1
      · go_enter Try.func14, Try.ntmps14
        go_wp2
        go_ret
        exact ⟨rfl, gb_alloc (Below.refl _ _) _⟩
      · have hi2 : 1000000000 < id := by omega
        clear hi
        go_enter Try.func14, Try.ntmps14
        go_wp2
        go_ret
        exact ⟨rfl, gb_alloc (Below.refl _ _) _⟩
    · have hk2 : k = 2 := by omega
      subst hk2
      clear hk hk1
      by_cases hi1 : id < 1
      · go_enter Try.func14, Try.ntmps14
        go_wp2
        go_ret
        exact ⟨rfl, gb_alloc (Below.refl _ _) _⟩
      · have hi2 : 1000000000 < id := by omega
        clear hi
        go_enter Try.func14, Try.ntmps14
        go_wp2
        go_ret
        exact ⟨rfl, gb_alloc (Below.refl _ _) _⟩
  rw [if_neg hi]
  have hi1 : ¬ id < 1 := by omega
  have hi2 : ¬ 1000000000 < id := by omega
  clear hi
  by_cases hk1 : k = 1
  · subst hk1
    rw [if_pos rfl]
    clear hk
    go_enter Try.func14, Try.ntmps14
    go_wp2_with fail
    refine (c _ (gb_alloc (Below.refl _ _) _)).mono ?_
    rintro e w' ⟨rfl, rfl⟩
    go_wp2
    go_ret
    exact ⟨rfl, gb_alloc (Below.refl _ _) _⟩
  · have hk2 : k = 2 := by omega
    subst hk2
    clear hk hk1 c
    rw [if_neg (by decide)]
    by_cases hn : 0 < n
    · rw [if_pos hn]
      go_enter Try.func14, Try.ntmps14
      go_wp2
      go_ret
      exact ⟨rfl, gb_alloc (Below.refl _ _) _⟩
    · rw [if_neg hn]
      go_enter Try.func14, Try.ntmps14
      go_wp2
      go_ret
      exact ⟨rfl, gb_alloc (Below.refl _ _) _⟩

/-- These bytes as a string. -/
def sb (l : List UInt8) : ByteArray := ⟨l.toArray⟩
theorem str_of {w : World} {v : Value} {l : List UInt8} (h : RdB w v l) : (convert 40 9 v).run Try.prog w = .ok (.string (sb l)) w := by
  obtain ⟨a, cap, rfl, _, ha⟩ := h
  by_cases hl : l = []
  · subst hl
    rcases a with _ | a
    · exact run_convert_bytes_nil w 40 5 Try.underlying40 Try.underlying5 0 cap 9 Try.underlying9
    · obtain ⟨b, o, r⟩ := a
      rw [run_convert_bytes_string w 40 9 5 _ _ cap Try.underlying40 Try.underlying5 Try.underlying9]
      simp [Conv.bytesToString, loadCells]
      rfl
  · have h0 : 0 < l.length := List.length_pos_iff.2 hl
    obtain ⟨b, o, rfl, _⟩ := ha 0 h0
    have := run_convert_bytes_arg w 40 5 Try.underlying40 Try.underlying5 b o l.length cap (l.map fun x => (x.toNat : Int)) (by simp) (fun i hi => by
      obtain ⟨b', o', e, hc⟩ := ha i hi
      cases e
      rw [hc]; simp [List.getD, hi]) 9 Try.underlying9
    have e : (l.map (fun x => (x.toNat : Int))).map (fun n => UInt8.ofNat n.toNat) = l := by
      rw [List.map_map]
      conv => rhs; rw [← List.map_id l]
      apply List.map_congr_left
      intro x _
      simp
    unfold strOfNums at this
    rw [e] at this
    exact this
end Go.Proofs.Ytmlincnmhjkjgaa
