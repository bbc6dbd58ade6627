import Derived.Test.YtdmdjmliggjbjaaGreatCt7
import Derived.Test.YtdmdjmliggjbjaaGreatCt9
import Derived.Test.YtdmdjmliggjbjaaGreatCt15
import Derived.Test.YtdmdjmliggjbjaaGreatCt13
import Derived.Test.YtdmdjmliggjbjaaGreatCt6
import Derived.Test.YtdmdjmliggjbjaaGreatCt17
/- The reference's Id, ids and form. -/
namespace Go.Proofs.YtdmdjmliggjbjaaGreat
open Go.RowKit

theorem rid_c (x : Int) (w : World) : Calls Tryz.prog 120 #[.int .i64 x] w fun e w' => e = .returned (.bool (okId x)) ∧ w = w' := by
  by_cases h : 1 ≤ x
  · by_cases h2 : x ≤ 1000000000
    · have E : Hid (okId x = true) := (okId_iff x).2 ⟨h, h2⟩
      go_enter Tryz.func120, Tryz.ntmps120
      go_wp2
      go_ret
      exact ⟨by rw [E.out]; rfl, rfl⟩
    · have E : Hid (okId x = false) := by unfold Hid; rw [← Bool.not_eq_true, okId_iff]; omega
      go_enter Tryz.func120, Tryz.ntmps120
      go_wp2
      go_ret
      exact ⟨by rw [E.out]; rfl, rfl⟩
  · have E : Hid (okId x = false) := by unfold Hid; rw [← Bool.not_eq_true, okId_iff]; omega
    go_enter Tryz.func120, Tryz.ntmps120
    go_wp2
    go_ret
    exact ⟨by rw [E.out]; rfl, rfl⟩
theorem rid_v (x : Int) (b : Bool) (h : okId x = b) (w : World) : Calls Tryz.prog 120 #[.int .i64 x] w fun e w' => e = .returned (.bool b) ∧ w = w' := by
  subst h; exact rid_c x w

set_option maxHeartbeats 2000000 in
theorem form_c {w : World} {v : Value} {r : Reg} (h : RdR w v r) :
    Calls Tryz.prog 102 #[v] w fun e w' => e = .returned (.bool (uses r)) ∧ Gr w w' := by
  obtain ⟨vl, vh, vi, rfl, ⟨pl, cl, rfl, _⟩, ⟨ph, ch, rfl, _⟩, h3⟩ := h
  clear h3
  have E : Hid (uses r = if r.S = 1 then decide (r.L.length = 0) && decide (r.H.length = 0) && decide (r.R = 0) else if r.S = 2 then decide (r.R = 0) else if r.S = 3 then decide (r.H.length = 0) else false) := rfl
  generalize uses r = res at *
  obtain ⟨S, L, H, R, I⟩ := r
  dsimp only at *
  generalize L.length = nl at *
  generalize H.length = nh at *
  by_cases s1 : S = 1
  · subst s1
    rw [if_pos rfl] at E
    by_cases k1 : nl = 0
    · subst k1
      by_cases k2 : nh = 0
      · subst k2
        have hz := fun W => wd_eq0 R res (by have := E.out; simpa using this.symm) W
        go_enter Tryz.func102, Tryz.ntmps102
        go_wp2
        go_ret
        exact ⟨rfl, ((Gr.refl _).alloc _ _).alloc _ _⟩
      · have e : res = false := by have := E.out; rw [this]; simp [k2]
        subst e
        have k2' : ((nh : Int) == 0) = false := by rw [beq_eq_false_iff_ne]; omega
        clear k2 E
        go_enter Tryz.func102, Tryz.ntmps102
        go_wp2
        go_ret
        exact ⟨rfl, ((Gr.refl _).alloc _ _).alloc _ _⟩
    · have e : res = false := by have := E.out; rw [this]; simp [k1]
      subst e
      have k2' : ((nl : Int) == 0) = false := by rw [beq_eq_false_iff_ne]; omega
      clear k1 E
      go_enter Tryz.func102, Tryz.ntmps102
      go_wp2
      go_ret
      exact ⟨rfl, ((Gr.refl _).alloc _ _).alloc _ _⟩
  · have s1' : (S == 1) = false := by rw [beq_eq_false_iff_ne]; exact s1
    by_cases s2 : S = 2
    · subst s2
      have hz := fun W => wd_eq0 R res (by have := E.out; simpa using this.symm) W
      clear E s1
      go_enter Tryz.func102, Tryz.ntmps102
      go_wp2
      go_ret
      exact ⟨rfl, ((Gr.refl _).alloc _ _).alloc _ _⟩
    · have s2' : (S == 2) = false := by rw [beq_eq_false_iff_ne]; exact s2
      by_cases s3 : S = 3
      · subst s3
        have e : Hid (res = ((nh : Int) == 0)) := by
          have := E.out
          unfold Hid
          rw [this]
          by_cases k : nh = 0
          · simp [k]
          · have : ((nh : Int) == 0) = false := by rw [beq_eq_false_iff_ne]; omega
            rw [this]; simp [k]
        clear E s1 s2
        go_enter Tryz.func102, Tryz.ntmps102
        go_wp2
        go_ret
        exact ⟨by rw [e.out]; rfl, ((Gr.refl _).alloc _ _).alloc _ _⟩
      · have s3' : (S == 3) = false := by rw [beq_eq_false_iff_ne]; exact s3
        have e : res = false := by have := E.out; rw [this, if_neg s1, if_neg s2, if_neg s3]
        subst e
        clear E s1 s2 s3
        go_enter Tryz.func102, Tryz.ntmps102
        go_wp2
        go_ret
        exact ⟨rfl, ((Gr.refl _).alloc _ _).alloc _ _⟩
theorem form_v {w : World} {v : Value} {r : Reg} (h : RdR w v r) (b : Bool) (hb : uses r = b) :
    Calls Tryz.prog 102 #[v] w fun e w' => e = .returned (.bool b) ∧ Gr w w' := by
  subst hb; exact form_c h

end Go.Proofs.YtdmdjmliggjbjaaGreat

/- The reference's Mul, as a contract. -/
namespace Go.Proofs.YtdmdjmliggjbjaaGreat
open Go.RowKit

theorem of_small (x : Nat) (h : x < 18446744073709551616) (w : World) :
    Calls Tryz.prog 74 #[.agg #[.int .u64 0, .int .u64 (x : Int)]] w fun e w' => e = .returned (Nm x false) ∧ Gr w w' := by
  rw [small_wd x h]; exact of_any x (by omega) w
theorem times_ok (n m : Nat) (hn : n < 340282366920938463463374607431768211456) (hm : m < 340282366920938463463374607431768211456) (h : n * m < 340282366920938463463374607431768211456) (w : World) :
    Calls Tryz.prog 104 #[Nm n false, Nm m false] w fun e w' => e = .returned (Nm (n * m) false) ∧ Gr w w' := by
  have := times_false n m hn hm false w
  rw [Nat.mod_eq_of_lt h, decide_eq_false (by omega)] at this
  exact this
set_option maxHeartbeats 1000000 in
theorem rmul_any (x y : Nat) (hx : x < 18446744073709551616) (hy : y < 18446744073709551616) (w : World) :
    Calls Tryz.prog 78 #[.int .u64 (x : Int), .int .u64 (y : Int)] w fun e w' => e = .returned (Wd (x * y)) ∧ Gr w w' := by
  have hxy := mul_lt x y hx hy
  go_enter Tryz.func78, Tryz.ntmps78
  go_wp2_with fail
  refine (of_small x hx _).mono ?_
  rintro e w1 ⟨rfl, g1⟩
  go_wp2_with fail
  refine (of_small y hy _).mono ?_
  rintro e w2 ⟨rfl, g2⟩
  go_wp2_with fail
  refine (times_ok x y (by omega) (by omega) hxy _).mono ?_
  rintro e w3 ⟨rfl, g3⟩
  go_wp2_with fail
  refine (wide_any (x * y) hxy false _).mono ?_
  rintro e w4 ⟨rfl, g4⟩
  have G := ((g1.trans g2).trans g3).trans g4
  obtain ⟨v0, v1, v2, v3⟩ := G.var2
  go_wp2
  exact bodyPost_ret (v := Wd (x * y)) (by simp [results, Tryz.results78, go_sem, v0, v1]) rfl ⟨rfl, ((((Gr.refl _).alloc _ _).trans G).setCell (by dsimp only; omega) _).setCell (by dsimp only; omega) _⟩

end Go.Proofs.YtdmdjmliggjbjaaGreat

/- theodoliteref03.Root. -/
namespace Go.Proofs.YtdmdjmliggjbjaaGreat
open Go.RowKit

theorem rless_v (a b : Nat) (ha : a < 340282366920938463463374607431768211456) (hb : b < 340282366920938463463374607431768211456) (r : Bool) (h : decide (a < b) = r) (w : World) :
    Calls Tryz.prog 52 #[Wd a, Wd b] w fun e w' => e = .returned (.bool r) ∧ Gr w w' := by
  subst h; exact less_any a b ha hb w
set_option maxHeartbeats 2000000 in
theorem rroot_c (a : Nat) (ha : a < 340282366920938463463374607431768211456) (w : World) :
    Calls Tryz.prog 77 #[Wd a] w fun e w' => e = .returned (.int .u64 (rt a : Int)) ∧ Gr w w' := by
  go_enter Tryz.func77, Tryz.ntmps77
  go_wp2
  go_loopw [3, 4] (fun lv hv w' => ∃ x y : Nat, lv = .int .u64 (x : Int) ∧ hv = .int .u64 (y : Int) ∧ x ≤ y ∧ y < 18446744073709551616 ∧ Hid (x * x ≤ a ∧ a < (y + 1) * (y + 1)) ∧ Gr (w.alloc (.cells #[.int .u64 (hi a), .int .u64 (lo a)] 41)) w') (fun lv hv _ => (intOf hv - intOf lv).toNat)
  case atStart => exact ⟨0, 18446744073709551615, by simp, by simp, by omega, by omega, ⟨by omega, by omega⟩, Gr.refl _⟩
  case round =>
    obtain ⟨x, y, rfl, rfl, hxy, hy, X, hg⟩ := hrel
    obtain ⟨c0, c1, _, _⟩ := hg.var2
    by_cases hc : x < y
    · have hci : (x : Int) < (y : Int) := by omega
      obtain ⟨k, hk⟩ : ∃ k : Nat, k = x + (y - x) / 2 := ⟨_, rfl⟩
      obtain ⟨m, hm⟩ : ∃ m : Nat, m = k + 1 := ⟨_, rfl⟩
      have e1 : (x : Int) + ((y : Int) - (x : Int)) / 2 = (k : Int) := by omega
      have e2 : (k : Int) + 1 = (m : Int) := by omega
      have K : Hid (k = x + (y - x) / 2 ∧ m = k + 1 ∧ x < m ∧ m ≤ y) := ⟨hk, hm, by omega, by omega⟩
      have hm1 : m < 18446744073709551616 := by omega
      have hk1 : k < 18446744073709551616 := by omega
      have hmm := mul_lt m m hm1 hm1
      clear hk hm
      by_cases hlt : a < m * m
      · have cl := fun W => rless_v a (m * m) ha hmm true (decide_eq_true hlt) W
        have R : Hid (a < (m - 1 + 1) * (m - 1 + 1)) := by
          have := K.out.2.2.1
          unfold Hid; rw [Nat.sub_add_cancel (by omega)]; exact hlt
        clear hlt
        go_wp2
        go_region_held3 (fun w' => w'.cell? ⟨w.heap.size, 0, none⟩ = some (.int .u64 (hi a)) ∧ w'.cell? ⟨w.heap.size, 1, none⟩ = some (.int .u64 (lo a))) (first | (with_reducible exact call_keeps2 (by assumption) (by assumption)) | exact ⟨c0, c1⟩)
          (first
            | (go_at_call 78; refine (rmul_any m m hm1 hm1 _).mono ?_; rintro e w1 ⟨rfl, g1⟩)
            | (go_at_call 52; refine (cl _).mono ?_; rintro e w2 ⟨rfl, g2⟩))
        all_goals
          have hG := (hg.drew.trans g1).trans g2
          have hm0 : 1 ≤ m := by have := K.out; omega
          clear c0 c1 hg g1 g2
          go_wp2
          refine ⟨⟨x, m - 1, by go_num, ?_, ?_, by omega, ⟨X.out.1, R.out⟩, hG⟩, ?_⟩
          · rw [Int.natCast_sub hm0]; rfl
          · have := K.out; omega
          · have := K.out; simp [intOf]; omega
      · have cl := fun W => rless_v a (m * m) ha hmm false (decide_eq_false hlt) W
        have R : Hid (m * m ≤ a) := by unfold Hid; omega
        clear hlt
        go_wp2
        go_region_held3 (fun w' => w'.cell? ⟨w.heap.size, 0, none⟩ = some (.int .u64 (hi a)) ∧ w'.cell? ⟨w.heap.size, 1, none⟩ = some (.int .u64 (lo a))) (first | (with_reducible exact call_keeps2 (by assumption) (by assumption)) | exact ⟨c0, c1⟩)
          (first
            | (go_at_call 78; refine (rmul_any m m hm1 hm1 _).mono ?_; rintro e w1 ⟨rfl, g1⟩)
            | (go_at_call 52; refine (cl _).mono ?_; rintro e w2 ⟨rfl, g2⟩))
        all_goals
          have hG := (hg.drew.trans g1).trans g2
          clear c0 c1 hg g1 g2
          go_wp2
          refine ⟨⟨m, y, rfl, by go_num, ?_, hy, ⟨R.out, X.out.2⟩, hG⟩, ?_⟩
          · have := K.out; omega
          · have := K.out; simp [intOf]; omega
    · have hci : ¬ (x : Int) < (y : Int) := by omega
      have E : Hid (x = rt a) := by
        have h1 := X.out
        rw [show y = x by omega] at h1
        exact root_one h1
      go_wp2
      go_ret
      exact ⟨by rw [← E.out]; rfl, ((Gr.refl _).alloc _ _).trans hg⟩
end Go.Proofs.YtdmdjmliggjbjaaGreat

/- theodolitekeep.Vectors: it tells some number. -/
namespace Go.Proofs.YtdmdjmliggjbjaaGreat
open Go.RowKit Go.Sort
set_option maxHeartbeats 2000000 in
set_option maxRecDepth 100000 in
theorem vects_c {w : World} {v : Value} {rs : List Rw} (h : RdW w v rs) (most : Int) (hlen : rs.length ≤ 9223372036854775807) :
    Calls Tryz.prog 18 #[v, .int .i64 most] w fun e w' => (∃ z : Int, e = .returned (.int .i64 z)) ∧ w = w' := by
  obtain ⟨a, cap, rfl, ha⟩ := h
  have A : Hid (∀ i, i < rs.length → ∃ b o u, a = some ⟨b, o, none⟩ ∧ w.cell? ⟨b, o + i * 2, none⟩ = some (.int .i64 rs[i]!.1) ∧ w.cell? ⟨b, o + i * 2 + 1, none⟩ = some u ∧ RdI w u rs[i]!.2) := ha
  obtain ⟨n, hN⟩ : ∃ n, n = rs.length := ⟨_, rfl⟩
  have N : Hid (n = rs.length) := hN
  rw [← hN] at hlen ⊢
  clear ha hN
  go_enter Tryz.func18, Tryz.ntmps18
  go_wp2
  go_loopw [5, 6] (fun zv iv w' => ∃ (q : Nat) (z : Int), zv = .int .i64 z ∧ iv = .int .i64 (q : Int) ∧ q ≤ n ∧ w = w') (fun _ iv _ => n - (intOf iv).toNat)
  case atStart => exact ⟨0, n, rfl, rfl, Nat.zero_le _, rfl⟩
  case round =>
    obtain ⟨q, z, rfl, rfl, hq, rfl⟩ := hrel
    by_cases hqn : q < n
    · have hqi : (q : Int) < (n : Int) := by omega
      by_cases hz : z ≤ most
      · have hql : q < rs.length := by have := N.out; omega
        obtain ⟨b, o, u, ea, hc, hd, hr⟩ := A.out q hql
        obtain ⟨pu, cu, eu, _⟩ := hr
        subst ea; subst eu
        generalize rs[q]!.2.length = k at *
        generalize rs[q]!.1 = x at *
        clear hql
        go_wp2
        go_roundw
        case rel => exact ⟨q + 1, _, rfl, by simp, hqn, by first | rfl | trivial⟩
        case measure => simp [intOf]; omega
      · go_wp2
        go_ret
        exact ⟨⟨_, rfl⟩, by first | rfl | trivial⟩
    · have hqi : ¬ (q : Int) < (n : Int) := by omega
      go_wp2
      go_ret
      exact ⟨⟨_, rfl⟩, by first | rfl | trivial⟩
end Go.Proofs.YtdmdjmliggjbjaaGreat

/- slices.Equal at hits. -/
namespace Go.Proofs.YtdmdjmliggjbjaaGreat.Tk
open Go.RowKit Go.Sort
attribute [local go_sem ↓] Go.wp_at_zero Go.wp_at_succ

set_option maxHeartbeats 2000000 in
set_option maxRecDepth 100000 in
theorem equal_c {w : World} {u v : Value} {l m : List Ht} (hu : Rd w u l) (hv' : Rd w v m) (hlen : l.length ≤ 100000) :
    Calls Tryz.prog 42 #[u, v] w fun e w' => e = .returned (.bool (decide (l = m))) ∧ Gr w w' := by
  obtain ⟨a, ca, rfl, ha⟩ := hu.form
  obtain ⟨b, cb, rfl, hb⟩ := hv'.form
  clear hu hv'
  by_cases hlm : l.length = m.length
  · have A : Hid (∀ i, i < l.length → ∃ b o, a = some ⟨b, o, none⟩ ∧ Lies w b o l) := ha
    have B : Hid (∀ i, i < m.length → ∃ b' o, b = some ⟨b', o, none⟩ ∧ Lies w b' o m) := hb
    have L : Hid (l.length = m.length) := hlm
    rw [← hlm]
    obtain ⟨n, hN⟩ : ∃ n, n = l.length := ⟨_, rfl⟩
    have N : Hid (n = l.length) := hN
    rw [← hN] at hlen ⊢
    clear ha hb hlm hN
    go_enter Tryz.func42, Tryz.ntmps42
    go_wp2
    go_loopw [13] (fun iv w' => ∃ q : Nat, iv = .int .i64 (q : Int) ∧ q ≤ n ∧ Hid (l.take q = m.take q ∧ Gr w w')) (fun iv _ => n - (intOf iv).toNat)
    case atStart => exact ⟨0, rfl, Nat.zero_le _, ⟨by simp, Below.refl _ _⟩⟩
    case round =>
      obtain ⟨q, rfl, hq, X⟩ := hrel
      by_cases hqn : q < n
      · obtain ⟨b1, o1, ea, h1⟩ := A.out q (by have := N.out; omega)
        obtain ⟨b2, o2, eb, h2⟩ := B.out q (by have := L.out; have := N.out; omega)
        obtain ⟨x0, x1, x2⟩ := (h1.gr X.out.2) q (by have := N.out; omega)
        obtain ⟨y0, y1, y2⟩ := (h2.gr X.out.2) q (by have := L.out; have := N.out; omega)
        subst ea; subst eb
        have Q : Hid (q < l.length ∧ q < m.length) := ⟨by have := N.out; omega, by have := L.out; have := N.out; omega⟩
        obtain ⟨x, hx⟩ : ∃ x, x = l[q]! := ⟨_, rfl⟩
        obtain ⟨y, hy⟩ : ∃ y, y = m[q]! := ⟨_, rfl⟩
        have XY : Hid (x = l[q]! ∧ y = m[q]!) := ⟨hx, hy⟩
        rw [← hx] at x0 x1 x2
        rw [← hy] at y0 y1 y2
        clear hx hy h1 h2
        have hne := fun W => hv_ne x y W
        by_cases hxy : x = y
        · have E : Hid (x = y) := hxy
          rw [decide_eq_true hxy] at hne
          clear hxy
          go_wp2
          go_quiet (fail)
          go_wp2
          go_roundw
          case rel =>
            refine ⟨q + 1, by simp, hqn, ⟨?_, X.out.2.trans (below_drewN (Below.refl _ _) _)⟩⟩
            obtain ⟨e1, e2⟩ := XY.out
            have e3 := E.out
            rw [e1, e2, getElem!_pos l q Q.out.1, getElem!_pos m q Q.out.2] at e3
            rw [List.take_succ_eq_append_getElem Q.out.1, List.take_succ_eq_append_getElem Q.out.2, X.out.1, e3]
          case measure => simp [intOf]; omega
        · have E : Hid (l ≠ m) := by
            intro e
            obtain ⟨e1, e2⟩ := XY.out
            exact hxy (by rw [e1, e2, e])
          rw [decide_eq_false hxy] at hne
          have R : Hid (decide (l = m) = false) := decide_eq_false E.out
          clear hxy
          go_wp2
          go_quiet (fail)
          go_wp2
          go_ret
          exact ⟨by rw [R.out]; rfl, X.out.2.trans (below_drewN (Below.refl _ _) _)⟩
      · have R : Hid (decide (l = m) = true) := by
          have e := X.out.1
          have h1 := N.out
          have h2 := L.out
          rw [List.take_of_length_le (by omega), List.take_of_length_le (by omega)] at e
          exact decide_eq_true e
        go_wp2
        go_ret
        exact ⟨by rw [R.out]; rfl, X.out.2⟩
  · have R : Hid (decide (l = m) = false) := decide_eq_false (fun e => hlm (by rw [e]))
    have hne : ((l.length : Int) == (m.length : Int)) = false := by rw [beq_eq_false_iff_ne]; omega
    generalize l.length = n1 at *
    generalize m.length = n2 at *
    clear ha hb hlm
    go_enter Tryz.func42, Tryz.ntmps42
    go_wp2
    go_ret
    exact ⟨by rw [R.out]; rfl, Below.refl _ _⟩
end Go.Proofs.YtdmdjmliggjbjaaGreat.Tk
