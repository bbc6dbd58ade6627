import Derived.Test.YtdmdjmliggjbjaaGreatCt11
import Derived.Test.YtdmdjmliggjbjaaGreatCt17
/- flat.Check, checkAll, begin. -/
namespace Go.Proofs.YtdmdjmliggjbjaaGreat
open Go.RowKit Go.Sort

/-- Rows whose numbers are of a machine's word. -/
def Wf (rs : List Rw) : Prop := rs.length ≤ 4611686018427387904 ∧ ∀ i, i < rs.length → (Lit.int .i64 rs[i]!.1).wf = true
set_option maxHeartbeats 1000000 in
theorem fcheck_c {w : World} {v : Value} {rs : List Rw} (h : RdW w v rs) (hwf : Wf rs) (d : Int) :
    Calls Tryz.prog 80 #[v, .int .i64 d] w fun e w' => e = .returned (.int .i64 (flatE rs d)) ∧ Gb w w' := by
  have hb := box_c h d hwf.1 hwf.2
  have E := flatE_box rs d
  obtain ⟨a, cap, rfl, _⟩ := h
  generalize boxR rs d = R at *
  generalize boxE rs d = x at *
  generalize flatE rs d = y at *
  generalize rs.length = n at *
  by_cases hx : x = 1
  · rw [if_pos hx] at E
    subst hx; subst E
    go_enter Tryz.func80, Tryz.ntmps80
    go_wp2_with fail
    refine hb.mono ?_
    rintro e w' ⟨vl, vh, vi, rfl, g, o1, o2, o3, _⟩
    obtain ⟨p1, c1, rfl, _⟩ := o1.rd
    obtain ⟨p2, c2, rfl, _⟩ := o2.rd
    obtain ⟨p3, c3, rfl, _⟩ := o3.rd
    clear hb o1 o2 o3
    go_wp2
    go_ret
    exact ⟨rfl, by refine gb_trans g ?_; go_grown⟩
  · rw [if_neg hx] at E
    subst E
    have hx' : (y == 1) = false := by rw [beq_eq_false_iff_ne]; exact hx
    go_enter Tryz.func80, Tryz.ntmps80
    go_wp2_with fail
    refine hb.mono ?_
    rintro e w' ⟨vl, vh, vi, rfl, g, o1, o2, o3, _⟩
    obtain ⟨p1, c1, rfl, _⟩ := o1.rd
    obtain ⟨p2, c2, rfl, _⟩ := o2.rd
    obtain ⟨p3, c3, rfl, _⟩ := o3.rd
    clear hb o1 o2 o3
    go_wp2
    go_ret
    exact ⟨rfl, by refine gb_trans g ?_; go_grown⟩

set_option maxHeartbeats 1000000 in
theorem ask_c {w : World} {v u : Value} {rs : List Rw} {q : List Int} (h : RdW w v rs) (hu : RdI w u q) (hwf : Wf rs) :
    Calls Tryz.prog 54 #[v, u] w fun e w' => e = .returned (.int .i64 (askE rs q)) ∧ Gb w w' := by
  have c1 := check_c hu (q.length : Int)
  have c2 := fcheck_c h hwf (q.length : Int)
  have E : askE rs q = if chk q (q.length : Int) = 0 then flatE rs (q.length : Int) else chk q (q.length : Int) := rfl
  obtain ⟨a, cap, rfl, _⟩ := h
  obtain ⟨a', cap', rfl, _⟩ := hu
  generalize askE rs q = z at *
  generalize flatE rs (q.length : Int) = y at *
  generalize chk q (q.length : Int) = x at *
  generalize rs.length = n at *
  generalize q.length = m at *
  by_cases hx : x = 0
  · rw [if_pos hx] at E
    subst hx; subst E
    go_enter Tryz.func54, Tryz.ntmps54
    go_wp2_with fail
    refine c1.mono ?_
    rintro e w' ⟨rfl, e2⟩
    subst e2
    clear c1
    go_wp2_with fail
    refine c2.mono ?_
    rintro e w' ⟨rfl, g⟩
    clear c2
    go_wp2
    go_ret
    exact ⟨rfl, g⟩
  · rw [if_neg hx] at E
    subst E
    have hx' : (z == 0) = false := by rw [beq_eq_false_iff_ne]; exact hx
    go_enter Tryz.func54, Tryz.ntmps54
    go_wp2_with fail
    refine c1.mono ?_
    rintro e w' ⟨rfl, e2⟩
    subst e2
    clear c1 c2
    go_wp2
    go_ret
    exact ⟨rfl, Below.refl _ _⟩

/-- What begin leaves: none and why not, or a heap of its own, as yet empty. -/
def Begun (w w' : World) (p : Value) (rs : List Rw) (q : List Int) (k : Int) : Prop :=
  Gb w w' ∧ (topE rs q k ≠ 0 → p = .pointer none) ∧ (topE rs q k = 0 → ∃ hb, p = .pointer (some ⟨hb, 0, none⟩) ∧ w.heap.size ≤ hb ∧ Tk.Has w' hb k.toNat (.slice none 0 0) [])
set_option maxHeartbeats 1000000 in
theorem begin_c {w : World} {v u : Value} {rs : List Rw} {q : List Int} (h : RdW w v rs) (hu : RdI w u q) (hwf : Wf rs) (k : Int) :
    Calls Tryz.prog 29 #[v, u, .int .i64 k] w fun e w' => ∃ p, e = .returned (.tuple #[p, .int .i64 (topE rs q k)]) ∧ Begun w w' p rs q k := by
  have c1 := ask_c h hu hwf
  have E : topE rs q k = if askE rs q = 0 then (if 1 ≤ k ∧ k ≤ 64 then 0 else 1) else askE rs q := rfl
  unfold Begun
  obtain ⟨a, cap, rfl, _⟩ := h
  obtain ⟨a', cap', rfl, _⟩ := hu
  generalize topE rs q k = z at *
  generalize askE rs q = x at *
  generalize rs.length = n at *
  generalize q.length = m at *
  by_cases hx : x = 0
  · rw [if_pos hx] at E
    subst hx
    by_cases hk : 1 ≤ k ∧ k ≤ 64
    · rw [if_pos hk] at E
      subst E
      go_enter Tryz.func29, Tryz.ntmps29
      go_wp2_with fail
      refine c1.mono ?_
      rintro e w' ⟨rfl, g⟩
      clear c1
      have cN := Tk.new_ok k hk.1 hk.2 w'
      go_wp2_with fail
      refine cN.mono ?_
      rintro e w2 ⟨rfl, e2⟩
      subst e2
      clear cN
      go_wp2
      go_ret2
      refine ⟨_, rfl, gb_alloc g _, fun e => absurd rfl e, fun _ => ⟨_, rfl, g.size, ?_⟩⟩
      have hh := Tk.new_has k.toNat (by omega) (by omega) w'
      rwa [show ((k.toNat : Nat) : Int) = k by omega] at hh
    · rw [if_neg hk] at E
      subst E
      have hk' : k < 1 ∨ 64 < k := by omega
      clear hk
      go_enter Tryz.func29, Tryz.ntmps29
      go_wp2_with fail
      refine c1.mono ?_
      rintro e w' ⟨rfl, g⟩
      clear c1
      have cN : Calls Tryz.prog 55 #[.int .i64 k] w' fun e w'' => e = .returned (.tuple #[.pointer none, .int .i64 1]) ∧ w'' = w' := by
        rcases hk' with h | h
        · exact Tk.new_lo k h w'
        · exact Tk.new_hi k h w'
      go_wp2_with fail
      refine cN.mono ?_
      rintro e w2 ⟨rfl, e2⟩
      subst e2
      clear cN
      go_wp2
      go_ret2
      exact ⟨_, rfl, g, fun _ => rfl, fun e => absurd e (by decide)⟩
  · rw [if_neg hx] at E
    subst E
    have hx' : (z == 0) = false := by rw [beq_eq_false_iff_ne]; exact hx
    go_enter Tryz.func29, Tryz.ntmps29
    go_wp2_with fail
    refine c1.mono ?_
    rintro e w' ⟨rfl, g⟩
    clear c1
    go_wp2
    go_ret2
    exact ⟨_, rfl, g, fun _ => rfl, fun e => absurd e hx⟩
end Go.Proofs.YtdmdjmliggjbjaaGreat

/- flat.hits: what is ranged over. -/
namespace Go.Proofs.YtdmdjmliggjbjaaGreat
open Go.RowKit Go.Shelf
attribute [local go_sem] Oper.semAt_some

theorem hits_c (a a' : Option Addr) (n n' c c' : Nat) (w : World) :
    Calls Tryz.prog 56 #[.slice a n c, .slice a' n' c'] w fun e w' => e = .returned (.func (.func 81) #[] #[.pointer (some ⟨w.heap.size, 0, none⟩), .pointer (some ⟨w.heap.size + 1, 0, none⟩)]) ∧ (w.alloc (.cells #[.slice a n c] 22)).alloc (.cells #[.slice a' n' c'] 23) = w' := by
  go_enter Tryz.func56, Tryz.ntmps56
  go_wp2
  go_ret
  exact ⟨rfl, rfl⟩

/-- What the rounds may lean on: the boxes of the rows and of q, and what they read as. -/
structure HitsAt (W : World) (Br Bq : Nat) (v u : Value) (rs : List Rw) (q : List Int) : Prop where
  br : Boxed W Br 22 v
  bq : Boxed W Bq 23 u
  rows : RdW W v rs
  q : RdI W u q

set_option maxHeartbeats 2000000 in
theorem hits1_gives (n : Nat) (hn : 1 ≤ n) (Br Bq : Nat) (v u : Value) (rs : List Rw) (q : List Int) (hask : askE rs q = 0) (I : Nat → World → Prop)
    (hr : ∀ k W, I k W → HitsAt W Br Bq v u rs q) :
    Gives n Tryz.prog 81 #[.pointer (some ⟨Br, 0, none⟩), .pointer (some ⟨Bq, 0, none⟩)] rs.length (fun k => Tk.hv (hitOf q rs[k]!)) I := by
  intro l J W hJI hgr hY h0
  refine callsIn_of_wp Tryz.func81 rfl trivial ?_ rfl
  simp only [Tryz.ntmps81, List.size_toArray, List.length_cons, List.length_nil, Nat.reduceAdd, Nat.reduceSub, Array.replicate_succ, Array.replicate_zero, List.push_toArray, List.append_toArray, List.nil_append, List.cons_append]
  obtain ⟨r1, r2, r3, _⟩ := hr 0 W (hJI 0 W h0)
  obtain ⟨a, cap, rfl, _⟩ := r3
  have hlen : rs.length ≤ 512 := (askE_zero.1 hask).2.few
  have c1 := r1.cell
  obtain ⟨N, hN⟩ : ∃ N, N = rs.length := ⟨_, rfl⟩
  have NH : Hid (N = rs.length) := hN
  rw [← hN] at hlen hr hY c1 ⊢
  clear hN
  gi_wp2
  clear c1 r1 r2
  gi_loopw [10] (fun v wr => ∃ k : Nat, v = .int .i64 k ∧ k ≤ N ∧ J k wr) (fun v _ => N - (intOf v).toNat)
  case atStart => exact ⟨0, rfl, Nat.zero_le _, h0⟩
  case round =>
    obtain ⟨k, rfl, hk, hj⟩ := hrel
    by_cases hlt : k < N
    · have hlt' : (k : Int) < N := by omega
      obtain ⟨r1, r2, r3, r4⟩ := hr k wr (hJI k wr hj)
      have hkr : k < rs.length := by have := NH.out; omega
      obtain ⟨a', cap', ev, ha⟩ := r3
      obtain ⟨b, o, x, ea, e1, e2, e3⟩ := ha k hkr
      injection ev with ev1 ev2 ev3
      subst ev1; subst ev3; subst ea
      clear ha ev2
      have c1 := r1.cell
      have c2 := r2.cell
      obtain ⟨hd1, hd2⟩ := row_dist hask (List.getElem_mem hkr)
      rw [← getElem!_pos rs k hkr] at hd1 hd2
      have X : Hid (RdI wr x rs[k]!.2) := e3
      have U : Hid (RdI wr u q) := r4
      obtain ⟨pa, ca, rfl, _⟩ := e3
      obtain ⟨pb, cb, rfl, _⟩ := r4
      have hY' := fun W => hY k W hlt
      have cD := fun W (g : Gb wr W) => dist_c (U.out.gb g) (X.out.gb g)
      rw [hd1, hd2] at cD
      obtain ⟨y, hy⟩ : ∃ y, y = rs[k]!.1 := ⟨_, rfl⟩
      obtain ⟨m, hm⟩ : ∃ m, m = rs[k]!.2.length := ⟨_, rfl⟩
      obtain ⟨D, hD⟩ : ∃ D, D = dst q rs[k]!.2 := ⟨_, rfl⟩
      have Y : Hid (y = rs[k]!.1 ∧ D = dst q rs[k]!.2) := ⟨hy, hD⟩
      rw [← hm] at e2
      rw [← hy] at e1
      rw [← hD, ← hm] at cD
      have hY2 : ∀ W, J k W → YieldAt Fence.wide (n - 1) Tryz.prog l #[.agg #[.int .i64 y, .int .u64 (hi D), .int .u64 (lo D)]] W fun e W' => e = .returned (.bool true) ∧ J (k + 1) W' := by
        rw [hy, hD]; exact hY'
      clear hY' hd1 hd2 hy hm hD hY hr
      have G1 : Gb wr (wr.alloc (.cells #[.int .i64 y, .slice pa m ca] 46)) := by go_grown
      have cD1 := cD _ G1
      clear cD
      have c3 := (r2.alloc (.cells #[.int .i64 y, .slice pa m ca] 46)).cell
      have k0 : (wr.alloc (.cells #[.int .i64 y, .slice pa m ca] 46)).cell? ⟨wr.heap.size, 0, none⟩ = some (.int .i64 y) := by simp [go_sem]
      gi_wp2_with (refine ⟨trivial, ?_⟩; gi_at_call 82; refine (callsIn_wide.2 cD1).mono ?_; rintro e w1 ⟨rfl, g1⟩; have k1 := gb_keeps g1.gb k0; have k2 := gb_keeps (gb_alloc (Below.refl _ w1) (.cells #[.int .u64 (hi D), .int .u64 (lo D)] 41)) k1; obtain ⟨fn, tmps, assign, body, hy, hR⟩ := hY2 (w1.alloc (.cells #[.int .u64 (hi D), .int .u64 (lo D)] 41)) (hgr k _ _ hj (gb_alloc (gb_trans G1 g1.gb) _)))
      refine hR.mono ?_
      rintro e W3 ⟨rfl, hJ3⟩
      clear hR hy k2 k1 k0 g1 cD1 G1 c3
      gi_wp2
      go_roundw
      case rel => exact ⟨k + 1, by simp, by omega, hJ3⟩
      case measure => simp [intOf]; omega
    · have hlt' : ¬ (k : Int) < N := by omega
      gi_wp2
      go_end0
      obtain rfl : k = N := by omega
      exact ⟨⟨_, rfl⟩, hj⟩
end Go.Proofs.YtdmdjmliggjbjaaGreat
