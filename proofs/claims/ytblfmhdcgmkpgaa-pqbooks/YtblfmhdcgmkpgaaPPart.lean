/- pq.partOf, checkTraining, bookMaker. -/
import Derived.Test.YtblfmhdcgmkpgaaPM
import Derived.Test.YtblfmhdcgmkpgaaKRd
namespace Go.Proofs.Ytblfmhdcgmkpgaa
open Go.RowKit

set_option maxHeartbeats 1000000 in
theorem partOf_at (w : World) (b o n cap m i s : Nat) (hm : m ≤ 8) (hi : i < m) (hs : n / m = s) (hs1 : 1 ≤ s) (hn : n ≤ 64) (hc : n ≤ cap) :
    Calls Try.prog 36 #[.slice (some ⟨b, o, none⟩) n cap, .int .i64 (i : Int), .int .i64 (m : Int)] w fun e w' => e = .returned (.slice (some ⟨b, o + i * s, none⟩) s s) ∧ w = w' := by
  have hr := part_room (n := n) hi
  rw [hs] at hr
  have hq : wrap64 ((n : Int) / (m : Int)) = (s : Int) := by
    have : (n : Int) / (m : Int) = ((n / m : Nat) : Int) := rfl
    rw [this, hs]; simp only [wrap64]; omega
  obtain ⟨f, hf⟩ : ∃ f, f = i * s := ⟨_, rfl⟩
  rw [← hf] at hr ⊢
  have e1 : wrap64 ((i : Int) * (s : Int)) = (f : Int) := by
    have : (i : Int) * (s : Int) = (f : Int) := by rw [hf]; simp
    rw [this]; simp only [wrap64]; omega
  have e2 : wrap64 (((i : Int) + 1) * (s : Int)) = ((f + s : Nat) : Int) := by
    have : ((i : Int) + 1) * (s : Int) = ((f + s : Nat) : Int) := by rw [hf, Int.add_mul]; simp
    rw [this]; simp only [wrap64]; omega
  obtain ⟨t, ht⟩ : ∃ t, t = f + s := ⟨_, rfl⟩
  rw [← ht] at e2
  have hft : f < t := by omega
  have htc : t ≤ cap := by omega
  have hb0 : ((m : Int) == 0) = false := by rw [beq_eq_false_iff_ne]; omega
  have hb1 : ¬ (m : Int) = 0 := by omega
  have hb2 : ¬ (m : Int) = -1 := by omega
  have hi8 : i < 8 := by omega
  have HS : Hid (s = t - f) := by unfold Hid; omega
  clear hs hr hf ht hn hc hi hm hs1
  go_enter Try.func36, Try.ntmps36
  go_wp2
  go_ret
  exact ⟨by rw [HS.out]; rfl, rfl⟩

/-- What checkTraining tells of numbers that may not be. -/
theorem pcheck_out {w : World} {v : Value} {l : Vs} (h : RdV w v l) (d m k r : Int) (hd : ¬ (1 ≤ d ∧ d ≤ 64)) :
    Calls Try.prog 46 #[v, .int .i64 d, .int .i64 m, .int .i64 k, .int .i64 r] w fun e w' => e = .returned (.int .i64 30) ∧ w = w' := by
  obtain ⟨a, cap, rfl, ha⟩ := h
  generalize l.length = n at *
  clear ha
  by_cases h1 : d < 1
  · clear hd
    go_enter Try.func46, Try.ntmps46
    go_wp2
    go_ret
    exact ⟨rfl, rfl⟩
  · have h2 : 64 < d := by omega
    clear hd
    go_enter Try.func46, Try.ntmps46
    go_wp2
    go_ret
    exact ⟨rfl, rfl⟩
set_option maxHeartbeats 2000000 in
theorem pcheck_arg {w : World} {v : Value} {l : Vs} (h : RdV w v l) (d m k r : Int) (hd1 : 1 ≤ d) (hd2 : d ≤ 64) (hn : ¬ (1 ≤ m ∧ m ≤ 8 ∧ 1 ≤ k ∧ k ≤ 16 ∧ 0 ≤ r ∧ r ≤ 20)) :
    Calls Try.prog 46 #[v, .int .i64 d, .int .i64 m, .int .i64 k, .int .i64 r] w fun e w' => e = .returned (.int .i64 1) ∧ w = w' := by
  obtain ⟨a, cap, rfl, ha⟩ := h
  generalize l.length = n at *
  clear ha
  by_cases h1 : m < 1
  · clear hn
    go_enter Try.func46, Try.ntmps46
    go_wp2
    go_ret
    exact ⟨rfl, rfl⟩
  by_cases h2 : 8 < m
  · clear hn
    go_enter Try.func46, Try.ntmps46
    go_wp2
    go_ret
    exact ⟨rfl, rfl⟩
  by_cases h3 : k < 1
  · clear hn
    go_enter Try.func46, Try.ntmps46
    go_wp2
    go_ret
    exact ⟨rfl, rfl⟩
  by_cases h4 : 16 < k
  · clear hn
    go_enter Try.func46, Try.ntmps46
    go_wp2
    go_ret
    exact ⟨rfl, rfl⟩
  by_cases h5 : r < 0
  · clear hn
    go_enter Try.func46, Try.ntmps46
    go_wp2
    go_ret
    exact ⟨rfl, rfl⟩
  have h6 : 20 < r := by omega
  clear hn
  go_enter Try.func46, Try.ntmps46
  go_wp2
  go_ret
  exact ⟨rfl, rfl⟩
set_option maxHeartbeats 2000000 in
set_option maxRecDepth 100000 in
theorem pcheck_in {w : World} {v : Value} {l : Vs} (h : RdV w v l) (d m k r : Nat) (h1 : 1 ≤ d ∧ d ≤ 64) (h2 : 1 ≤ m ∧ m ≤ 8) (h3 : 1 ≤ k ∧ k ≤ 16) (h4 : r ≤ 20) (z : Int) (hz : z = if d % m = 0 then (if l.length ≤ 512 then (if (l.length : Int) < k then 60 else vecsE l d) else 2) else 100) :
    Calls Try.prog 46 #[v, .int .i64 (d : Int), .int .i64 (m : Int), .int .i64 (k : Int), .int .i64 (r : Int)] w fun e w' => e = .returned (.int .i64 z) ∧ w = w' := by
  obtain ⟨a, cap, rfl, ha⟩ := h
  have A : Hid (∀ i, i < l.length → ∃ b o u, a = some ⟨b, o, none⟩ ∧ w.cell? ⟨b, o + i, none⟩ = some u ∧ RdI w u l[i]!) := ha
  obtain ⟨n, hN⟩ : ∃ n, n = l.length := ⟨_, rfl⟩
  have N : Hid (n = l.length) := hN
  have Z : Hid (z = if d % m = 0 then (if l.length ≤ 512 then (if (l.length : Int) < k then 60 else vecsE l d) else 2) else 100) := hz
  rw [← hN] at hz ⊢
  clear ha hN
  have hb0 : ((m : Int) == 0) = false := by rw [beq_eq_false_iff_ne]; omega
  have hb1 : ¬ (m : Int) = 0 := by omega
  have hb2 : ¬ (m : Int) = -1 := by omega
  obtain ⟨d1, d2⟩ := h1
  obtain ⟨m1, m2⟩ := h2
  obtain ⟨k1, k2⟩ := h3
  by_cases hm : d % m = 0
  · rw [if_pos hm] at hz
    have e1 : (d : Int) % (m : Int) = 0 := by omega
    have e2 : (d : Int).tmod (m : Int) = 0 := by
      have : (d : Int).tmod (m : Int) = ((d % m : Nat) : Int) := rfl
      rw [this, hm]; rfl
    by_cases hn : n ≤ 512
    · rw [if_pos hn] at hz
      by_cases hk : (n : Int) < (k : Int)
      · rw [if_pos hk] at hz
        subst hz
        clear A N Z hm
        go_enter Try.func46, Try.ntmps46
        go_wp2
        go_ret
        exact ⟨rfl, rfl⟩
      · rw [if_neg hk] at hz
        have ZZ : Hid (z = vecsE l d) := hz
        clear hz Z hm
        go_enter Try.func46, Try.ntmps46
        go_wp2
        clear e1 e2 hb0 hb1 hb2 m1 m2 k1 k2 hk d1 d2
        go_loopw [55] (fun iv w' => ∃ q : Nat, iv = .int .i64 (q : Int) ∧ q ≤ n ∧ w = w' ∧ Hid (vecsTo l d q = 0)) (fun iv _ => n - (intOf iv).toNat)
        case atStart => exact ⟨0, rfl, Nat.zero_le _, rfl, rfl⟩
        case round =>
          obtain ⟨q, rfl, hq, rfl, X⟩ := hrel
          by_cases hqn : q < n
          · have hqi : (q : Int) < (n : Int) := by omega
            have hql : q < l.length := by have := N.out; omega
            obtain ⟨b, o, u, ea, h1, h2⟩ := A.out q hql
            subst ea
            have c := check_v h2 d _ rfl
            obtain ⟨pu, cu, rfl, _⟩ := h2
            by_cases hz : chk l[q]! d = 0
            · have R : Hid (vecsTo l d (q + 1) = 0) := vecsTo_next X.out hz
              rw [hz] at c
              generalize l[q]!.length = lq at *
              clear hz X hql
              go_wp2_with (go_at_call 34; refine c.mono ?_; rintro e w' ⟨rfl, e2⟩; subst e2)
              go_roundw
              case rel => exact ⟨q + 1, by simp, hqn, by first | rfl | trivial, R⟩
              case measure => simp [intOf]; omega
            · have hz' : (chk l[q]! d == 0) = false := by rw [beq_eq_false_iff_ne]; exact hz
              have R : Hid (vecsE l d = chk l[q]! d) := vecsTo_err hql X.out hz
              generalize chk l[q]! d = ce at *
              generalize l[q]!.length = lq at *
              clear X hql
              go_wp2_with (go_at_call 34; refine c.mono ?_; rintro e w' ⟨rfl, e2⟩; subst e2)
              go_ret
              exact ⟨by rw [ZZ.out, R.out]; rfl, by first | rfl | trivial⟩
          · have hqi : ¬ (q : Int) < (n : Int) := by omega
            have R : Hid (vecsE l d = 0) := by
              have h1 := X.out
              have h2 : q = l.length := by have := N.out; omega
              rw [h2] at h1; exact h1
            go_wp2
            go_ret
            exact ⟨by rw [ZZ.out, R.out]; rfl, by first | rfl | trivial⟩
    · rw [if_neg hn] at hz
      subst hz
      clear A N Z hm
      have hn' : 512 < n := by omega
      go_enter Try.func46, Try.ntmps46
      go_wp2
      go_ret
      exact ⟨rfl, rfl⟩
  · rw [if_neg hm] at hz
    have e1 : ¬ (d : Int) % (m : Int) = 0 := by omega
    have e2 : (((d : Int) % (m : Int)) != 0) = true := by rw [bne_iff_ne]; exact e1
    have e3 : (((d : Int) % (m : Int)) == 0) = false := by rw [beq_eq_false_iff_ne]; exact e1
    subst hz
    clear A N Z hm
    go_enter Try.func46, Try.ntmps46
    go_wp2
    go_ret
    exact ⟨rfl, rfl⟩
theorem pcheck_c {w : World} {v : Value} {l : Vs} (h : RdV w v l) (d m k r : Int) :
    Calls Try.prog 46 #[v, .int .i64 d, .int .i64 m, .int .i64 k, .int .i64 r] w fun e w' => e = .returned (.int .i64 (pqE l d m k r)) ∧ w = w' := by
  by_cases h1 : 1 ≤ d ∧ d ≤ 64
  · by_cases h2 : 1 ≤ m ∧ m ≤ 8 ∧ 1 ≤ k ∧ k ≤ 16 ∧ 0 ≤ r ∧ r ≤ 20
    · obtain ⟨M, rfl⟩ : ∃ M : Nat, m = M := ⟨m.toNat, by omega⟩
      obtain ⟨K, rfl⟩ : ∃ K : Nat, k = K := ⟨k.toNat, by omega⟩
      obtain ⟨R, rfl⟩ : ∃ R : Nat, r = R := ⟨r.toNat, by omega⟩
      obtain ⟨D, rfl⟩ : ∃ D : Nat, d = D := ⟨d.toNat, by omega⟩
      refine pcheck_in h D M K R (by omega) (by omega) (by omega) (by omega) _ ?_
      unfold pqE
      rw [if_pos h1, if_pos h2]
      have : ((D : Int).tmod (M : Int)) = ((D % M : Nat) : Int) := rfl
      by_cases e : D % M = 0
      · rw [if_pos e, if_pos (by rw [this, e]; rfl)]
      · rw [if_neg e, if_neg (by rw [this]; omega)]
    · have e : pqE l d m k r = 1 := by unfold pqE; rw [if_pos h1, if_neg h2]
      rw [e]
      exact pcheck_arg h d m k r h1.1 h1.2 h2
  · have e : pqE l d m k r = 30 := by unfold pqE; rw [if_neg h1]
    rw [e]
    exact pcheck_out h d m k r h1

/-- Numbers, and vectors, that have room for themselves. -/
def RdJ (w : World) (v : Value) (l : List Int) : Prop := RdI w v l ∧ ∀ a n c, v = .slice a n c → n ≤ c
theorem RdJ.rd {w : World} {v : Value} {l : List Int} (h : RdJ w v l) : RdI w v l := h.1
theorem RdJ.gb {w w' : World} {v : Value} {l : List Int} (h : RdJ w v l) (g : Gb w w') : RdJ w' v l := ⟨h.1.gb g, h.2⟩
def RdVJ (w : World) (v : Value) (vs : Vs) : Prop := ∃ a cap, v = .slice a vs.length cap ∧ ∀ i, i < vs.length → ∃ b o u, a = some ⟨b, o, none⟩ ∧ w.cell? ⟨b, o + i, none⟩ = some u ∧ RdJ w u vs[i]!
theorem RdVJ.gb {w w' : World} {v : Value} {vs : Vs} (h : RdVJ w v vs) (g : Gb w w') : RdVJ w' v vs := by
  obtain ⟨a, cap, e, h⟩ := h
  refine ⟨a, cap, e, fun i hi => ?_⟩
  obtain ⟨b, o, u, e1, e2, e3⟩ := h i hi
  exact ⟨b, o, u, e1, gb_keeps g e2, e3.gb g⟩
theorem RdVJ.rd {w : World} {v : Value} {vs : Vs} (h : RdVJ w v vs) : RdV w v vs := by
  obtain ⟨a, cap, e, h⟩ := h
  refine ⟨a, cap, e, fun i hi => ?_⟩
  obtain ⟨b, o, u, e1, e2, e3⟩ := h i hi
  exact ⟨b, o, u, e1, e2, e3.rd⟩
/-- A part of numbers with room: where it lies, and what it reads. -/
theorem part_rd {w : World} {b o cap m i : Nat} {x : List Int} (h : RdI w (.slice (some ⟨b, o, none⟩) x.length cap) x) (hi : i < m) : RdJ w (.slice (some ⟨b, o + i * (x.length / m), none⟩) (x.length / m) (x.length / m)) (partV x m i) := by
  refine ⟨⟨_, x.length / m, by rw [partV_len x hi], fun t ht => ?_⟩, fun a n c e => by cases e; exact Nat.le_refl _⟩
  rw [partV_len x hi] at ht
  have hr := part_room (n := x.length) hi
  obtain ⟨_, _, e, h⟩ := h
  obtain ⟨b', o', e1, e2⟩ := h (i * (x.length / m) + t) (by omega)
  cases e
  cases e1
  exact ⟨b, _, rfl, by rw [partV_get x hi ht, Nat.add_assoc]; exact e2⟩
theorem partOf_c {w : World} {v : Value} {x : List Int} (h : RdJ w v x) {m i s : Nat} (hm : m ≤ 8) (hi : i < m) (hx : chk x ((m * s : Nat) : Int) = 0) :
    Calls Try.prog 36 #[v, .int .i64 (i : Int), .int .i64 (m : Int)] w fun e w' => (∃ a, e = .returned (.slice a s s) ∧ ∀ W, RdJ W v x → RdJ W (.slice a s s) (partV x m i)) ∧ w = w' := by
  obtain ⟨_, h2, h3, h4⟩ := partV_chk hi hx
  obtain ⟨h5, h6, h7, h8⟩ := chk_ok hx
  obtain ⟨⟨a, cap, rfl, ha⟩, hc⟩ := h
  obtain ⟨b, o, rfl, _⟩ := ha 0 (by omega)
  refine (partOf_at w b o x.length cap m i s hm hi h2 h3 h6 (hc _ _ _ rfl)).mono ?_
  rintro e w' ⟨rfl, rfl⟩
  refine ⟨⟨_, rfl, fun W hW => ?_⟩, rfl⟩
  have hr := part_rd (m := m) (i := i) hW.1 hi
  rw [h2] at hr
  exact hr

set_option maxHeartbeats 1000000 in
theorem bookMaker_c (a : Option Addr) (n c : Nat) (m k r x : Int) (w : World) :
    Calls Try.prog 47 #[.slice a n c, .int .i64 m, .int .i64 k, .int .i64 r, .int .u64 x] w fun e w' =>
      e = .returned (.func (.func 60) #[] #[.pointer (some ⟨w.heap.size, 0, none⟩), .pointer (some ⟨w.heap.size + 1, 0, none⟩), .pointer (some ⟨w.heap.size + 1 + 1, 0, none⟩), .pointer (some ⟨w.heap.size + 1 + 1 + 1, 0, none⟩), .pointer (some ⟨w.heap.size + 1 + 1 + 1 + 1, 0, none⟩)]) ∧
      w' = ((((w.alloc (.cells #[.slice a n c] 22)).alloc (.cells #[.int .i64 m] 3)).alloc (.cells #[.int .i64 k] 3)).alloc (.cells #[.int .i64 r] 3)).alloc (.cells #[.int .u64 x] 23) := by
  go_enter Try.func47, Try.ntmps47
  go_wp2
  go_ret
  exact ⟨rfl, rfl⟩
end Go.Proofs.Ytblfmhdcgmkpgaa
