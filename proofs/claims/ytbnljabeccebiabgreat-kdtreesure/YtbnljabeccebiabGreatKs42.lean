import Derived.Test.YtbnljabeccebiabGreatKs41
import Derived.Test.YtbnljabeccebiabGreatKs10
import Derived.Test.YtbnljabeccebiabGreatKsReg
import Derived.Test.YtbnljabeccebiabGreatKs3
import Derived.Test.YtbnljabeccebiabGreatKs1
import Derived.Deep.RegionHeld3
import Derived.Test.YtbnljabeccebiabGreatKs9
import Derived.Test.YtbnljabeccebiabGreatKs11
/- law07's plays. -/
namespace Go.Proofs.YtbnljabeccebiabGreat
open Go.RowKit Go.Sort

/-- What a call leaves of the rows. -/
def playRw (m : Nat) (rs : List Rw) (o : Opv) : List Rw := if o.1.1 = 1 then (if putE m rs o.2.1 = 0 then putRw rs o.2.1 else rs) else if o.1.1 = 2 then delRw rs o.1.2.1 else rs
set_option maxRecDepth 100000 in
set_option maxHeartbeats 2000000 in
theorem plays_c {Iq : Nat → Prop} {w0 W : World} {tb m leaf : Nat} {rs : List Rw} {u : Value} {ops : List Opv} (h : TrW Iq w0 tb m leaf rs W) (hu : RdO w0 u ops) (hn : ops.length ≤ 9223372036854775807) :
    Calls Tryz.prog 7 #[.pointer (some ⟨tb, 0, none⟩), u] W fun e W' => e = .returned (.tuple #[]) ∧ TrW Iq w0 tb m leaf (ops.foldl (playRw m) rs) W' := by
  have TT : Hid (TrW Iq w0 tb m leaf rs W) := h
  have O : Hid (RdO w0 u ops) := hu
  obtain ⟨au, cu, rfl, _⟩ := hu
  obtain ⟨n, hN⟩ : ∃ n, n = ops.length := ⟨_, rfl⟩
  have N : Hid (n = ops.length) := hN
  rw [← hN] at O hn ⊢
  clear hN h
  go_enter Tryz.func7, Tryz.ntmps7
  go_wp2
  go_loopw [4] (fun iv W' => ∃ i : Nat, iv = .int .i64 (i : Int) ∧ i ≤ n ∧ Hid (TrW Iq w0 tb m leaf ((ops.take i).foldl (playRw m) rs) W')) (fun iv _ => n - (intOf iv).toNat)
  case atStart => exact ⟨0, rfl, Nat.zero_le _, TT⟩
  case round =>
    clear TT
    obtain ⟨i, rfl, hi, TI⟩ := hrel
    by_cases hin : i < n
    · have hii : (i : Int) < (n : Int) := by omega
      have hil : i < ops.length := by rw [← N.out]; exact hin
      obtain ⟨a, cap, ea, hO⟩ := O.out
      obtain ⟨b, o, rv, qv, e0, ⟨c0, c1, _, _, c4, c5, _⟩, hr, _⟩ := hO i hil
      injection ea with ea1 ea2 ea3
      subst ea1 ea3 e0
      have go := TI.out.old
      have d0 := gb_keeps go c0
      have d1 := gb_keeps go c1
      have d4 := gb_keeps go c4
      have d5 := gb_keeps go c5
      have st : (ops.take (i + 1)).foldl (playRw m) rs = playRw m ((ops.take i).foldl (playRw m) rs) ops[i]! := by
        rw [List.take_succ_eq_append_getElem hil, List.foldl_append, getElem!_pos ops i hil]; rfl
      have cP := trw_put TI.out ops[i]!.2.1.1 hr
      have cD := trw_del TI.out ops[i]!.1.2.1
      have NX : Hid (∀ W', TrW Iq w0 tb m leaf (playRw m ((ops.take i).foldl (playRw m) rs) ops[i]!) W' → TrW Iq w0 tb m leaf ((ops.take (i + 1)).foldl (playRw m) rs) W') := by
        intro W' h
        rw [st]; exact h
      generalize (ops.take i).foldl (playRw m) rs = rsi at *
      generalize ops[i]! = op at *
      obtain ⟨⟨kd, id, kk, bg⟩, ⟨xi, xl⟩, ql⟩ := op
      dsimp only at d0 d1 d4 d5 cP cD hr
      obtain ⟨ar, cr, er, _⟩ := hr.rd0
      subst er
      clear ea2 hO c0 c1 c4 c5 st hil go hr
      by_cases h1 : kd = 1
      · subst h1
        have NZ : Hid (∀ W', TrW Iq w0 tb m leaf (if putE m rsi (xi, xl) = 0 then putRw rsi (xi, xl) else rsi) W' → TrW Iq w0 tb m leaf ((ops.take (i + 1)).foldl (playRw m) rs) W') := fun W' h => NX.out W' (by unfold playRw; exact h)
        generalize putE m rsi (xi, xl) = z at *
        clear cD NX TI
        go_wp2_with fail
        refine cP.mono ?_
        rintro e w4 ⟨rfl, T4⟩
        have TN : Hid (TrW Iq w0 tb m leaf ((ops.take (i + 1)).foldl (playRw m) rs) w4) := NZ.out _ T4
        clear cP T4 NZ d0 d1 d4 d5
        go_wp2
        go_roundw
        case rel => exact ⟨i + 1, by first | rfl | go_num, hin, TN⟩
        case measure => simp [intOf]; omega
      · by_cases h2 : kd = 2
        · subst h2
          have NZ : Hid (∀ W', TrW Iq w0 tb m leaf (delRw rsi id) W' → TrW Iq w0 tb m leaf ((ops.take (i + 1)).foldl (playRw m) rs) W') := fun W' h => NX.out W' (by unfold playRw; exact h)
          clear cP NX TI
          go_wp2_with fail
          refine cD.mono ?_
          rintro e w4 ⟨rfl, T4⟩
          have TN : Hid (TrW Iq w0 tb m leaf ((ops.take (i + 1)).foldl (playRw m) rs) w4) := NZ.out _ T4
          clear cD T4 NZ d0 d1 d4 d5
          go_wp2
          go_roundw
          case rel => exact ⟨i + 1, by first | rfl | go_num, hin, TN⟩
          case measure => simp [intOf]; omega
        · have TN : Hid (TrW Iq w0 tb m leaf ((ops.take (i + 1)).foldl (playRw m) rs) wr) := NX.out _ (by
            unfold playRw
            dsimp only
            rw [if_neg h1, if_neg h2]
            exact TI.out)
          have h1b : (kd == 1) = false := by rw [beq_eq_false_iff_ne]; exact h1
          have h2b : (kd == 2) = false := by rw [beq_eq_false_iff_ne]; exact h2
          clear cP cD NX TI
          go_wp2
          go_roundw
          case rel => exact ⟨i + 1, by first | rfl | go_num, hin, TN⟩
          case measure => simp [intOf]; omega
    · have hii : ¬ (i : Int) < (n : Int) := by omega
      have TN : Hid (TrW Iq w0 tb m leaf (ops.foldl (playRw m) rs) wr) := by
        have h := TI.out
        have e : i = n := by omega
        rw [e, N.out, List.take_length] at h
        exact h
      clear TI
      go_wp2
      refine bodyPost_end (v := .tuple #[]) (by simp [results, Tryz.results7, go_sem]) rfl ⟨rfl, ?_⟩
      exact TN.out
end Go.Proofs.YtbnljabeccebiabGreat

/- Rows and ids by their order. -/
namespace Go.Proofs.YtbnljabeccebiabGreat
open Go.RowKit Go.Sort

/-- Rows by rising ids. -/
def srtR (rs : List Rw) : List Rw := rs.mergeSort fun a b => decide (a.1 ≤ b.1)
theorem srtR_perm (rs : List Rw) : (srtR rs).Perm rs := List.mergeSort_perm rs _
theorem srtR_ids (rs : List Rw) : idsOf (srtR rs) = srt (idsOf rs) := by
  refine srtI_unique _ _ ?_ (srt_srtI _) (((srtR_perm rs).map _).trans (srt_perm _).symm)
  have h := List.pairwise_mergeSort (le := fun a b : Rw => decide (a.1 ≤ b.1)) (fun a b c h1 h2 => by simp at *; omega) (fun a b => by simp; omega) rs
  unfold SrtI idsOf srtR
  rw [List.pairwise_map]
  exact h.imp fun h => by simpa using h
/-- Ids that differ rise when they are sorted. -/
theorem srt_lt {l : List Int} (h : l.Pairwise (· ≠ ·)) : ∀ i, i + 1 < (srt l).length → (srt l)[i]! < (srt l)[i + 1]! := fun i hi => by
  have h1 := srt_srtI l
  have h2 : (srt l).Pairwise (· ≠ ·) := (List.Perm.pairwise_iff (fun e => Ne.symm e) (srt_perm l)).2 h
  unfold SrtI at h1
  have a := List.pairwise_iff_getElem.1 h1 i (i + 1) (by omega) hi (by omega)
  have b := List.pairwise_iff_getElem.1 h2 i (i + 1) (by omega) hi (by omega)
  rw [getElem!_pos (srt l) i (by omega), getElem!_pos (srt l) (i + 1) hi]
  omega
theorem rise_of {l : List Int} (h : l.Pairwise (· ≠ ·)) (hok : ∀ x ∈ l, okId x = true) : rise (srt l) = true := by
  unfold rise
  have key : ∀ q, q ≤ (srt l).length → riseTo (srt l) q = true := by
    intro q
    induction q with
    | zero => intro _; rfl
    | succ q ih =>
      intro hq
      rw [riseTo, ih (by omega), Bool.true_and]
      unfold okAt
      have h1 : okId (srt l)[q]! = true := by
        rw [getElem!_pos (srt l) q (by omega)]
        exact hok _ ((srt_perm l).subset (List.getElem_mem _))
      rw [h1, Bool.true_and]
      cases q with
      | zero => rfl
      | succ j =>
        have := srt_lt h j (by omega)
        rw [Bool.or_eq_true]
        exact .inr (decide_eq_true (by rw [Nat.add_sub_cancel]; exact this))
  exact key _ (Nat.le_refl _)
end Go.Proofs.YtbnljabeccebiabGreat

/- The reference's find. -/
namespace Go.Proofs.YtbnljabeccebiabGreat
open Go.RowKit Go.Sort

/-- Where the row of an id stands: nowhere, or there. -/
def Fnd (rs : List Rw) (x z : Int) : Prop := (z = -1 ∧ ∀ i, i < rs.length → rs[i]!.1 ≠ x) ∨ ∃ i : Nat, z = (i : Int) ∧ i < rs.length ∧ rs[i]!.1 = x
end Go.Proofs.YtbnljabeccebiabGreat

/- theodoliteref03: Check, Square, Sum, Far, Dist, as contracts. -/
namespace Go.Proofs.YtbnljabeccebiabGreat
open Go.RowKit

set_option maxHeartbeats 1000000 in
theorem square_nn (k : Nat) (hk : k ≤ 4294967294) (w : World) : Calls Tryz.prog 53 #[.int .i64 (k : Int)] w fun e w' => e = .returned (Wd (k * k)) ∧ Gr w w' := by
  have hp := sq_small k hk
  have e1 : hi (k * k) = 0 := by unfold hi; omega
  have e2 : lo (k * k) = ((k * k : Nat) : Int) := by unfold lo; omega
  have p : (k : Int) * (k : Int) = ((k * k : Nat) : Int) := (Int.natCast_mul _ _).symm
  unfold Wd
  rw [e1, e2]
  clear e1 e2
  generalize k * k = kk at *
  have h0 : ¬ (k : Int) < 0 := by omega
  go_enter Tryz.func53, Tryz.ntmps53
  go_wp2
  exact bodyPost_ret (v := .agg #[.int .u64 0, .int .u64 (kk : Int)]) (by simp [results, Tryz.results53, go_sem]) rfl ⟨rfl, (Gr.refl _).alloc _ _⟩
set_option maxHeartbeats 1000000 in
theorem square_ng (k : Nat) (hk : k ≤ 4294967294) (h1 : 1 ≤ k) (w : World) : Calls Tryz.prog 53 #[.int .i64 (-(k : Int))] w fun e w' => e = .returned (Wd (k * k)) ∧ Gr w w' := by
  have hp := sq_small k hk
  have e1 : hi (k * k) = 0 := by unfold hi; omega
  have e2 : lo (k * k) = ((k * k : Nat) : Int) := by unfold lo; omega
  have p : (k : Int) * (k : Int) = ((k * k : Nat) : Int) := (Int.natCast_mul _ _).symm
  unfold Wd
  rw [e1, e2]
  clear e1 e2
  generalize k * k = kk at *
  have h0 : -(k : Int) < 0 := by omega
  have h2 : - -(k : Int) = (k : Int) := by omega
  go_enter Tryz.func53, Tryz.ntmps53
  go_wp2
  exact bodyPost_ret (v := .agg #[.int .u64 0, .int .u64 (kk : Int)]) (by simp [results, Tryz.results53, go_sem]) rfl ⟨rfl, (Gr.refl _).alloc _ _⟩
theorem square_c (n : Int) (k : Nat) (h : n.natAbs = k) (hk : k ≤ 4294967294) (w : World) : Calls Tryz.prog 53 #[.int .i64 n] w fun e w' => e = .returned (Wd (k * k)) ∧ Gr w w' := by
  by_cases h0 : 0 ≤ n
  · obtain rfl : n = (k : Int) := by omega
    exact square_nn k hk w
  · obtain rfl : n = -(k : Int) := by omega
    exact square_ng k hk (by omega) w

set_option maxHeartbeats 1000000 in
theorem rsum_no (a0 a1 b0 b1 : Int) (h0 : 0 ≤ a0) (h1 : 0 ≤ a1) (h2 : 0 ≤ b0) (h3 : 0 ≤ b1) (h4 : a0 + b0 < 18446744073709551616) (h5 : a1 + b1 < 18446744073709551616) (w : World) :
    Calls Tryz.prog 52 #[.agg #[.int .u64 a0, .int .u64 a1], .agg #[.int .u64 b0, .int .u64 b1]] w fun e w' => e = .returned (.agg #[.int .u64 (a0 + b0), .int .u64 (a1 + b1)]) ∧ Gr w w' := by
  have k : ¬ (a1 + b1 < a1) := by omega
  go_enter Tryz.func52, Tryz.ntmps52
  go_wp2
  exact bodyPost_ret (v := .agg #[.int .u64 (a0 + b0), .int .u64 (a1 + b1)]) (by simp [results, Tryz.results52, go_sem]) rfl ⟨rfl, by repeat (first | exact Gr.refl _ | refine Gr.alloc ?_ _ _ | refine Gr.setCell ?_ (by simp) _)⟩
set_option maxHeartbeats 1000000 in
theorem rsum_yes (a0 a1 b0 b1 : Int) (h0 : 0 ≤ a0) (h1 : 0 ≤ a1) (h2 : 0 ≤ b0) (h3 : 0 ≤ b1) (a1' : a1 < 18446744073709551616) (b1' : b1 < 18446744073709551616) (h4 : a0 + b0 + 1 < 18446744073709551616) (h5 : 18446744073709551616 ≤ a1 + b1) (w : World) :
    Calls Tryz.prog 52 #[.agg #[.int .u64 a0, .int .u64 a1], .agg #[.int .u64 b0, .int .u64 b1]] w fun e w' => e = .returned (.agg #[.int .u64 (a0 + b0 + 1), .int .u64 (a1 + b1 - 18446744073709551616)]) ∧ Gr w w' := by
  obtain ⟨r, hr⟩ : ∃ r, r = a1 + b1 - 18446744073709551616 := ⟨_, rfl⟩
  have hw : IntKind.u64.wrap (a1 + b1) = r := by rw [IntKind.wrap_u64]; omega
  have k : r < a1 := by omega
  have k0 : 0 ≤ r := by omega
  obtain ⟨s, hs⟩ : ∃ s, s = a0 + b0 := ⟨_, rfl⟩
  have hw2 : IntKind.u64.wrap (a0 + b0) = s := by rw [IntKind.wrap_u64]; omega
  have s0 : 0 ≤ s := by omega
  have s1 : s + 1 < 18446744073709551616 := by omega
  rw [← hr, ← hs]
  clear hr hs h4 h5 h0 h2
  go_enter Tryz.func52, Tryz.ntmps52
  go_wp2
  exact bodyPost_ret (v := .agg #[.int .u64 (s + 1), .int .u64 r]) (by simp [results, Tryz.results52, go_sem]) rfl ⟨rfl, by repeat (first | exact Gr.refl _ | refine Gr.alloc ?_ _ _ | refine Gr.setCell ?_ (by simp) _)⟩
theorem rsum_c (s t : Nat) (h : s + t < 340282366920938463463374607431768211456) (w : World) : Calls Tryz.prog 52 #[Wd s, Wd t] w fun e w' => e = .returned (Wd (s + t)) ∧ Gr w w' := by
  have hb := hi_bd h
  by_cases hc : lo s + lo t < 18446744073709551616
  · have e1 : hi s + hi t = hi (s + t) := by unfold hi lo at *; omega
    have e2 : lo s + lo t = lo (s + t) := by unfold lo at *; omega
    have := rsum_no (hi s) (lo s) (hi t) (lo t) (hi_nn s) (lo_bd s).1 (hi_nn t) (lo_bd t).1 (by omega) hc w
    rw [e1, e2] at this; exact this
  · have e1 : hi s + hi t + 1 = hi (s + t) := by unfold hi lo at *; omega
    have e2 : lo s + lo t - 18446744073709551616 = lo (s + t) := by unfold lo at *; omega
    have := rsum_yes (hi s) (lo s) (hi t) (lo t) (hi_nn s) (lo_bd s).1 (hi_nn t) (lo_bd t).1 (lo_bd s).2 (lo_bd t).2 (by omega) (by omega) w
    rw [e1, e2] at this; exact this
end Go.Proofs.YtbnljabeccebiabGreat

/- The reference's Id, ids and form. -/
namespace Go.Proofs.YtbnljabeccebiabGreat
open Go.RowKit

end Go.Proofs.YtbnljabeccebiabGreat

/- theodolitekeep.Ints; the law's own box and ball. -/
namespace Go.Proofs.YtbnljabeccebiabGreat
open Go.RowKit Go.Sort

theorem take_snoc {l : List Int} {q : Nat} (h : q < l.length) : l.take (q + 1) = l.take q ++ [l[q]!] := by
  rw [List.take_succ_eq_append_getElem h, getElem!_pos l q h]

theorem rdi_two (W : World) (x y : Int) : RdI (W.alloc (.cells #[.int .i64 x, .int .i64 y] 3)) (.slice (some ⟨W.heap.size, 0, none⟩) 2 2) [x, y] := by
  refine ⟨_, 2, rfl, fun i hi => ⟨W.heap.size, 0, rfl, ?_⟩⟩
  have : i = 0 ∨ i = 1 := by simp at hi; omega
  rcases this with rfl | rfl <;> simp [go_sem]
theorem rdi_one (W : World) (x : Int) : RdI (W.alloc (.cells #[.int .i64 x] 3)) (.slice (some ⟨W.heap.size, 0, none⟩) 1 1) [x] := by
  refine ⟨_, 1, rfl, fun i hi => ⟨W.heap.size, 0, rfl, ?_⟩⟩
  have : i = 0 := by simp at hi; omega
  subst this; simp [go_sem]
end Go.Proofs.YtbnljabeccebiabGreat

/- The reference's ids. -/
namespace Go.Proofs.YtbnljabeccebiabGreat
open Go.RowKit

end Go.Proofs.YtbnljabeccebiabGreat

/- The reference's CheckRegion. -/
namespace Go.Proofs.YtbnljabeccebiabGreat
open Go.RowKit

theorem uses_S {r : Reg} (h : uses r = true) : r.S = 1 ∨ r.S = 2 ∨ r.S = 3 := by
  unfold uses at h
  by_cases s1 : r.S = 1
  · exact .inl s1
  by_cases s2 : r.S = 2
  · exact .inr (.inl s2)
  by_cases s3 : r.S = 3
  · exact .inr (.inr s3)
  rw [if_neg s1, if_neg s2, if_neg s3] at h
  cases h

end Go.Proofs.YtbnljabeccebiabGreat

/- theodoliteref03.Far. -/
namespace Go.Proofs.YtbnljabeccebiabGreat
open Go.RowKit

theorem set2_far' {W : World} {b : Nat} {p : Addr} {v : Value} (hb : b ≠ p.block) (h : W.cell? p = some v) (x y : Value) : ((W.setCell ⟨b, 0, none⟩ x).setCell ⟨b, 1, none⟩ y).cell? p = some v := by
  rw [World.cell?_setCell_far _ _ _ _ hb, World.cell?_setCell_far _ _ _ _ hb]; exact h
theorem two_set {W : World} {b b1 b2 o1 o2 : Nat} {v0 v1 : Value} (h1 : b ≠ b1) (h2 : b ≠ b2) (h : W.cell? ⟨b1, o1, none⟩ = some v0 ∧ W.cell? ⟨b2, o2, none⟩ = some v1) (x y : Value) :
    ((W.setCell ⟨b, 0, none⟩ x).setCell ⟨b, 1, none⟩ y).cell? ⟨b1, o1, none⟩ = some v0 ∧ ((W.setCell ⟨b, 0, none⟩ x).setCell ⟨b, 1, none⟩ y).cell? ⟨b2, o2, none⟩ = some v1 := ⟨set2_far' h1 h.1 x y, set2_far' h2 h.2 x y⟩
theorem gap_nat (x y : Int) : (x - y).natAbs = gap x x y := by unfold gap; split <;> (try split) <;> omega

set_option maxHeartbeats 8000000 in
set_option maxRecDepth 100000 in
theorem far_c {w : World} {u v : Value} {a b : List Int} (hu : RdI w u a) (hv : RdI w v b) (hab : a.length = b.length) (hn : a.length ≤ 64) (ha : allR a = true) (hb : allR b = true) :
    Calls Tryz.prog 55 #[u, v] w fun e w' => e = .returned (Wd (dst a b)) ∧ Gr w w' := by
  obtain ⟨pa, ca, rfl, hu⟩ := hu
  obtain ⟨pb, cb, rfl, hv⟩ := hv
  have A : Hid (∀ i, i < a.length → ∃ b o, pa = some ⟨b, o, none⟩ ∧ w.cell? ⟨b, o + i, none⟩ = some (.int .i64 a[i]!)) := hu
  have B : Hid (∀ i, i < b.length → ∃ b' o, pb = some ⟨b', o, none⟩ ∧ w.cell? ⟨b', o + i, none⟩ = some (.int .i64 b[i]!)) := hv
  have H : Hid (a.length = b.length ∧ allR a = true ∧ allR b = true) := ⟨hab, ha, hb⟩
  rw [← hab]
  obtain ⟨n, hN⟩ : ∃ n, n = a.length := ⟨_, rfl⟩
  have N : Hid (n = a.length) := hN
  rw [← hN] at hn ⊢
  clear hu hv hab ha hb hN
  have S0 : At2 ((w.alloc (.cells #[.int .u64 0, .int .u64 0] 58)).alloc (.cells #[.int .u64 0, .int .u64 0] 58)) (w.heap.size + 1) 0 := by
    have := At2.new (w.alloc (.cells #[.int .u64 0, .int .u64 0] 58)) 0 58
    rw [World.size_alloc] at this
    exact this
  have G0 : Gr (w.alloc (.cells #[.int .u64 0, .int .u64 0] 58)) ((w.alloc (.cells #[.int .u64 0, .int .u64 0] 58)).alloc (.cells #[.int .u64 0, .int .u64 0] 58)) := (Gr.refl _).alloc _ _
  go_enter Tryz.func55, Tryz.ntmps55
  go_wp2
  go_loopw [6] (fun iv w' => ∃ q s : Nat, iv = .int .i64 (q : Int) ∧ q ≤ n ∧ Hid (s = dstN a b q) ∧ Gr (w.alloc (.cells #[.int .u64 0, .int .u64 0] 58)) w' ∧ At2 w' (w.heap.size + 1) s) (fun iv _ => n - (intOf iv).toNat)
  case atStart => exact ⟨0, 0, rfl, Nat.zero_le _, rfl, G0, S0⟩
  case round =>
    clear S0 G0
    obtain ⟨q, s, rfl, hq, X, hG, hS⟩ := hrel
    by_cases hqn : q < n
    · have hqi : (q : Int) < (n : Int) := by omega
      have hqa : q < a.length := by have := N.out; omega
      have hqb : q < b.length := by have := H.out.1; omega
      obtain ⟨b1, o1, ea, h1⟩ := A.out q hqa
      obtain ⟨b2, o2, eb, h2⟩ := B.out q hqb
      subst ea; subst eb
      have G1 : Gr w wr := ((Gr.refl _).alloc _ _).trans hG
      have x0 := G1.keeps h1
      have y0 := G1.keeps h2
      have hb1 : w.heap.size + 1 ≠ b1 := by have := cell_lt h1; dsimp only at this; omega
      have hb2 : w.heap.size + 1 ≠ b2 := by have := cell_lt h2; dsimp only at this; omega
      have hx := allR_get H.out.2.1 hqa
      have hy := allR_get H.out.2.2 hqb
      have hs0 : s ≤ q * 18446744056529682436 := by rw [X.out]; exact dstN_le H.out.2.1 H.out.2.2 H.out.1 q (by omega)
      have Y : Hid (dstN a b (q + 1) = dstN a b q + gap a[q]! a[q]! b[q]! * gap a[q]! a[q]! b[q]!) := rfl
      generalize a[q]! = x at *
      generalize b[q]! = y at *
      have hg := gap_le x x y hx hx hy
      have hgs : s + gap x x y * gap x x y < 340282366920938463463374607431768211456 := by have := sq_small _ hg; omega
      have Z : Hid (s + gap x x y * gap x x y = dstN a b (q + 1)) := by unfold Hid; rw [Y.out, X.out]
      obtain ⟨dd, hdd⟩ : ∃ dd, dd = x - y := ⟨_, rfl⟩
      have hw : IntKind.i64.wrap (x - y) = dd := by rw [IntKind.wrap_i64]; omega
      have c60 := fun W => square_c dd (gap x x y) (by rw [hdd]; exact gap_nat x y) hg W
      have c59 := fun W => rsum_c s (gap x x y * gap x x y) hgs W
      obtain ⟨s0, s1, s2, s3⟩ := hS
      clear h1 h2 hx hy hs0 Y X hg hgs hqa hqb G1 hdd
      generalize s + gap x x y * gap x x y = t at *
      generalize gap x x y * gap x x y = g at *
      go_wp2
      have hS0 : wr.cell? ⟨b1, o1 + q, none⟩ = some (.int .i64 x) ∧ wr.cell? ⟨b2, o2 + q, none⟩ = some (.int .i64 y) := ⟨x0, y0⟩
      refine wp_region_held_drew (S := fun w' => w'.cell? ⟨b1, o1 + q, none⟩ = some (.int .i64 x) ∧ w'.cell? ⟨b2, o2 + q, none⟩ = some (.int .i64 y)) (by kernel_rfl) hS0 (fun hHeld => ?_)
      clear hS0
      refine wpAnyH_take (i := 1) (v := ?_) rfl (by kernel_rfl) (by kernel_rfl) (by kernel_rfl) (fun _ _ _ h => h) (Or.inl ⟨by rfl, ?_⟩) (by assumption) ?_
      rotate_left 1
      · (intro w hSw; (try dsimp only at hSw); go_simp; try with_reducible rfl)
      try simp only [Act.put, List.setIfInBounds_toArray]
      refine wpAnyH_take (i := 2) (v := ?_) rfl (by kernel_rfl) (by kernel_rfl) (by kernel_rfl) (fun _ _ _ h => h) (Or.inl ⟨by rfl, ?_⟩) (by assumption) ?_
      rotate_left 1
      · (intro w hSw; (try dsimp only at hSw); go_simp; try with_reducible rfl)
      try simp only [Act.put]
      refine wpAnyH_take (i := 3) (v := ?_) rfl (by kernel_rfl) (by kernel_rfl) (by kernel_rfl) (fun _ _ _ h => h) (Or.inl ⟨by rfl, ?_⟩) (by assumption) ?_
      rotate_left 1
      · (intro w hSw; (try dsimp only at hSw); go_simp; try with_reducible rfl)
      try simp only [Act.put]
      refine wpAnyH_take (i := 4) (v := ?_) rfl (by kernel_rfl) (by kernel_rfl) (by kernel_rfl) (fun _ _ _ h => h) (Or.inl ⟨by rfl, ?_⟩) (by assumption) ?_
      rotate_left 1
      · (intro w hSw; (try dsimp only at hSw); go_simp; try with_reducible rfl)
      try simp only [Act.put]
      refine wpAnyH_take (i := 5) (v := ?_) rfl (by kernel_rfl) (by kernel_rfl) (by kernel_rfl) (fun _ _ _ h => h) (Or.inl ⟨by rfl, ?_⟩) (by assumption) ?_
      rotate_left 1
      · (intro w hSw; (try dsimp only at hSw); go_simp; try with_reducible rfl)
      try simp only [Act.put]
      refine wpAnyH_take (i := 6) (v := ?_) rfl (by kernel_rfl) (by kernel_rfl) (by kernel_rfl) (fun _ _ _ h => h) (Or.inl ⟨by rfl, ?_⟩) (by assumption) ?_
      rotate_left 1
      · (intro w hSw; (try dsimp only at hSw); go_simp; try with_reducible rfl)
      try simp only [Act.put]
      refine wpAnyH_take (i := 7) (v := ?_) rfl (by kernel_rfl) (by kernel_rfl) (by kernel_rfl) (fun _ _ _ h => h) (Or.inl ⟨by rfl, ?_⟩) (by assumption) ?_
      rotate_left 1
      · (intro w hSw; (try dsimp only at hSw); go_simp; try with_reducible rfl)
      try simp only [Act.put]
      refine wpAnyH_take (i := 8) (v := ?_) rfl (by kernel_rfl) (by kernel_rfl) (by kernel_rfl) (fun _ _ _ h => h) (Or.inl ⟨by rfl, ?_⟩) (by assumption) ?_
      rotate_left 1
      · (intro w hSw; (try dsimp only at hSw); go_simp; try with_reducible rfl)
      try simp only [Act.put]
      refine wpAnyH_take (i := 9) (v := ?_) rfl (by kernel_rfl) (by kernel_rfl) (by kernel_rfl) (fun _ _ _ h => h) (Or.inl ⟨by rfl, ?_⟩) (by assumption) ?_
      rotate_left 1
      · (intro w hSw; (try dsimp only at hSw); go_simp; try with_reducible rfl)
      try simp only [Act.put]
      refine wpAnyH_ready (rs := [0, 10]) (by kernel_rfl) (by simp) ?_
      refine AllReadyH.cons rfl (fun K hK => ?_) (AllReadyH.cons rfl (fun K hK => ?_) (AllReadyH.nil))
      · go_simp
        refine hK.out _ _ hHeld (fun hHeld => ?_)
        clear hK K
        try simp only [Act.put, List.setIfInBounds_toArray, List.set_cons_zero, List.set_cons_succ]
        refine wpAnyH_ready (rs := [10]) (by kernel_rfl) (by simp) ?_
        refine AllReadyH.cons rfl (fun K hK => ?_) (AllReadyH.nil)
        go_simp
        go_at_call 53
        refine (c60 _).mono ?_
        rintro e w1 ⟨rfl, g1⟩
        have s0 := g1.keeps s0
        have s1 := g1.keeps s1
        have s2 := (g1.froz _).trans s2
        have s3 := (g1.froz _).trans s3
        refine hK.out _ _ (call_keeps2 g1 hHeld) (fun hHeld => ?_)
        clear hK K
        try simp only [Act.put, List.setIfInBounds_toArray, List.set_cons_zero, List.set_cons_succ]
        refine wpAnyH_ready (rs := [11]) (by kernel_rfl) (by simp) ?_
        refine AllReadyH.cons rfl (fun K hK => ?_) (AllReadyH.nil)
        go_simp
        go_at_call 52
        refine (c59 _).mono ?_
        rintro e w3 ⟨rfl, g3⟩
        have s0 := g3.keeps s0
        have s1 := g3.keeps s1
        have s2 := (g3.froz _).trans s2
        have s3 := (g3.froz _).trans s3
        refine hK.out _ _ (call_keeps2 g3 hHeld) (fun hHeld => ?_)
        clear hK K
        try simp only [Act.put, List.setIfInBounds_toArray, List.set_cons_zero, List.set_cons_succ]
        refine wpAnyH_ready (rs := [12]) (by kernel_rfl) (by simp) ?_
        refine AllReadyH.cons rfl (fun K hK => ?_) (AllReadyH.nil)
        go_simp
        refine hK.out _ _ (two_set hb1 hb2 hHeld _ _) (fun hHeld => ?_)
        clear hK K
        try simp only [Act.put, List.setIfInBounds_toArray, List.set_cons_zero, List.set_cons_succ]
        refine wpAnyH_done (by kernel_rfl) ?_ _
        have hG3 := (hG.drew.trans g1).trans g3
        have hS3 : At2 w3 (w.heap.size + 1) s := ⟨s0, s1, s2, s3⟩
        clear c59 c60 x0 y0 s0 s1 s2 s3 g1 g3 hG hHeld
        go_wp2
        exact ⟨⟨q + 1, t, by go_num, hqn, Z, (hG3.setCell (by simp) _).setCell (by simp) _, hS3.set t⟩, by simp [intOf]; omega⟩
      · go_simp
        go_at_call 53
        refine (c60 _).mono ?_
        rintro e w1 ⟨rfl, g1⟩
        have s0 := g1.keeps s0
        have s1 := g1.keeps s1
        have s2 := (g1.froz _).trans s2
        have s3 := (g1.froz _).trans s3
        refine hK.out _ _ (call_keeps2 g1 hHeld) (fun hHeld => ?_)
        clear hK K
        try simp only [Act.put, List.setIfInBounds_toArray, List.set_cons_zero, List.set_cons_succ]
        refine wpAnyH_ready (rs := [0]) (by kernel_rfl) (by simp) ?_
        refine AllReadyH.cons rfl (fun K hK => ?_) (AllReadyH.nil)
        go_simp
        refine hK.out _ _ hHeld (fun hHeld => ?_)
        clear hK K
        try simp only [Act.put, List.setIfInBounds_toArray, List.set_cons_zero, List.set_cons_succ]
        refine wpAnyH_ready (rs := [11]) (by kernel_rfl) (by simp) ?_
        refine AllReadyH.cons rfl (fun K hK => ?_) (AllReadyH.nil)
        go_simp
        go_at_call 52
        refine (c59 _).mono ?_
        rintro e w3 ⟨rfl, g3⟩
        have s0 := g3.keeps s0
        have s1 := g3.keeps s1
        have s2 := (g3.froz _).trans s2
        have s3 := (g3.froz _).trans s3
        refine hK.out _ _ (call_keeps2 g3 hHeld) (fun hHeld => ?_)
        clear hK K
        try simp only [Act.put, List.setIfInBounds_toArray, List.set_cons_zero, List.set_cons_succ]
        refine wpAnyH_ready (rs := [12]) (by kernel_rfl) (by simp) ?_
        refine AllReadyH.cons rfl (fun K hK => ?_) (AllReadyH.nil)
        go_simp
        refine hK.out _ _ (two_set hb1 hb2 hHeld _ _) (fun hHeld => ?_)
        clear hK K
        try simp only [Act.put, List.setIfInBounds_toArray, List.set_cons_zero, List.set_cons_succ]
        refine wpAnyH_done (by kernel_rfl) ?_ _
        have hG3 := (hG.drew.trans g1).trans g3
        have hS3 : At2 w3 (w.heap.size + 1) s := ⟨s0, s1, s2, s3⟩
        clear c59 c60 x0 y0 s0 s1 s2 s3 g1 g3 hG hHeld
        go_wp2
        exact ⟨⟨q + 1, t, by go_num, hqn, Z, (hG3.setCell (by simp) _).setCell (by simp) _, hS3.set t⟩, by simp [intOf]; omega⟩
    · have hqi : ¬ (q : Int) < (n : Int) := by omega
      have E : Hid (s = dst a b) := by
        have h1 := X.out
        have h2 : q = a.length := by have := N.out; omega
        rw [h2] at h1; exact h1
      obtain ⟨s0, s1, s2, s3⟩ := hS
      obtain ⟨v0, v1, v2, v3⟩ := hG.var2
      go_wp2
      exact bodyPost_ret (v := Wd s) (by simp [results, Tryz.results55, go_sem, v0, v1]) rfl ⟨by rw [E.out], by repeat (first | exact ((Gr.refl _).alloc _ _).trans hG | refine Gr.setCell ?_ (by simp) _)⟩
end Go.Proofs.YtbnljabeccebiabGreat
