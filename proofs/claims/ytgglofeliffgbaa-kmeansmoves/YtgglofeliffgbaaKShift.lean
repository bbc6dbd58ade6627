/- The law's shifted; lists of lists of the call's own. -/
import Derived.Test.YtgglofeliffgbaaKShiftM
import Derived.Test.YtgglofeliffgbaaKDraw
namespace Go.Proofs.Ytgglofeliffgbaa
open Go.RowKit Go.Maps

theorem own_next {w W W2 : World} {v v' : Value} {l : List Int} {x : Int} (g : Gb w W) (h : Own W w.heap.size v l)
    (hr : W2.ownsRow w.heap.size 3 1 v' (l.length + 1) (l.map (Value.int .i64) ++ [.int .i64 x])) (hg2 : W.grownBy W2 v.ownBlock) : Own W2 w.heap.size v' (l ++ [x]) ∧ Gb w W2 := by
  refine ⟨?_, below_grown g hg2 (fun k e => (own_lt h e).2) g.size⟩
  unfold Own
  rw [List.length_append, List.map_append]
  exact hr
/-- What the law's shifted has at its coordinate q. -/
theorem mv_at {w : World} {a : Option Addr} {n cap : Nat} {bs : List Int} (h : RdI w (.slice a n cap) bs) {q : Nat} (hq : q < bs.length) : ∃ b o, a = some ⟨b, o, none⟩ ∧ w.cell? ⟨b, o + q, none⟩ = some (.int .i64 bs[q]!) := rdi_at h hq

set_option maxHeartbeats 4000000 in
set_option maxRecDepth 100000 in
theorem shifted_c {w : World} {u b : Value} {v bs : List Int} (hu : RdI w u v) (hb : RdI w b bs) (hv : allR v = true) (h64 : v.length ≤ 64) (_hbl : bs.length ≤ 4611686018427387904) :
    Calls Try.prog 21 #[u, b] w fun e w' => ∃ v', e = .returned v' ∧ Own w' w.heap.size v' (shV (mv bs) v) ∧ Gb w w' := by
  have U : Hid (RdI w u v) := hu
  have B : Hid (RdI w b bs) := hb
  have A : Hid (allR v = true) := hv
  obtain ⟨au, cu, rfl, _⟩ := hu
  obtain ⟨ab, cb, rfl, _⟩ := hb
  obtain ⟨n, hN⟩ : ∃ n, n = v.length := ⟨_, rfl⟩
  have N : Hid (n = v.length) := hN
  obtain ⟨m, hM⟩ : ∃ m, m = bs.length := ⟨_, rfl⟩
  have M : Hid (m = bs.length) := hM
  rw [← hN] at U h64 ⊢
  rw [← hM] at B ⊢
  clear hN hM hv
  obtain ⟨i0, hi, hz0, hz1, hz2⟩ := info_parts' Try.infoI
  have II : Hid (Try.prog.info? 3 = some i0 ∧ i0.zero = some (.int .i64 0) ∧ i0.size = 1 ∧ i0.bytes = 8) := ⟨hi, hz0, hz1, hz2⟩
  clear hi hz0 hz1 hz2
  go_enter Try.func21, Try.ntmps21
  go_wp2
  go_loopw [5, 6] (fun ov iv W => ∃ q : Nat, iv = .int .i64 (q : Int) ∧ q ≤ n ∧ Hid (Own W w.heap.size ov ((shV (mv bs) v).take q) ∧ Gb w W)) (fun _ iv _ => n - (intOf iv).toNat)
  case atStart => exact ⟨0, rfl, Nat.zero_le _, own_nil _ _, Below.refl _ _⟩
  case round =>
    obtain ⟨q, rfl, hq, X⟩ := hrel
    by_cases hqn : q < n
    · have hqi : (q : Int) < (n : Int) := by omega
      have hql : q < v.length := by have := N.out; omega
      obtain ⟨b1, o1, ea, k1⟩ := rdi_at U.out hql
      subst ea
      have x0 := gb_keeps X.out.2 k1
      have NX : Hid ((shV (mv bs) v).take (q + 1) = (shV (mv bs) v).take q ++ [v[q]! + mv bs q]) := shV_take (mv bs) hql
      have hr := allR_get A.out hql
      have hm := mv_bd bs q
      have LL : Hid (((shV (mv bs) v).take q).length ≤ 64) := by unfold Hid; rw [List.length_take, shV_len, ← N.out]; omega
      generalize hLq : (shV (mv bs) v).take q = L at *
      have hrow := X.out.1
      have hw0 := X.out.2.size
      have hl64 := LL.out
      have II' := II.out
      have XH : Hid (Gb w wr) := X.out.2
      obtain ⟨nv, pv, cv, ev⟩ : ∃ nv pv cv, u5 = .slice pv nv cv := by obtain ⟨pv, cv, ev, _⟩ := hrow.rd; exact ⟨_, pv, cv, ev⟩
      subst ev
      have fin : ∀ (v' : Value) (w2 : World), w2.ownsRow w.heap.size 3 1 v' (L.length + 1) (L.map (Value.int .i64) ++ [.int .i64 (v[q]! + mv bs q)]) → (wr.alloc (.cells #[.int .i64 (v[q]! + mv bs q)] 3)).grownBy w2 (Value.slice pv nv cv).ownBlock →
          Own w2 w.heap.size v' ((shV (mv bs) v).take (q + 1)) ∧ Gb w w2 := fun v' w2 hr hg => by
        rw [NX.out]
        exact own_next (gb_alloc XH.out _) (Own.gb hrow (gb_alloc (Below.refl _ _) _)) hr hg
      have FIN : Hid (∀ (v' : Value) (w2 : World), w2.ownsRow w.heap.size 3 1 v' (L.length + 1) (L.map (Value.int .i64) ++ [.int .i64 (v[q]! + mv bs q)]) → (wr.alloc (.cells #[.int .i64 (v[q]! + mv bs q)] 3)).grownBy w2 (Value.slice pv nv cv).ownBlock →
          Own w2 w.heap.size v' ((shV (mv bs) v).take (q + 1)) ∧ Gb w w2) := fin
      clear fin X NX k1 hLq LL
      by_cases hqm : q < m
      · have hqmi : (q : Int) < (m : Int) := by omega
        have hqb : q < bs.length := by have := M.out; omega
        obtain ⟨b2, o2, eb, k2⟩ := mv_at B.out hqb
        subst eb
        have y0 := gb_keeps XH.out k2
        have MV : mv bs q = if -8589934588 < bs[q]! ∧ bs[q]! < 8589934588 then bs[q]! else 0 := by unfold mv; simp [hqb]
        clear k2
        generalize bs[q]! = y at *
        generalize v[q]! = z at *
        obtain ⟨r1, r2⟩ := hr
        by_cases c1 : -8589934588 < y
        · by_cases c2 : y < 8589934588
          · rw [if_pos ⟨c1, c2⟩] at MV
            rw [MV] at FIN hm
            have ww : IntKind.i64.wrap (z + y) = z + y := by rw [IntKind.wrap_i64]; omega
            clear MV hm
            go_wp2_with (first
              | (at_builtin; refine wpList_append_own_at _ rfl _ _ 30 rfl w.heap.size 3 i0 (.int .i64 0) 1 8 Try.underlying30 II'.1 II'.2.1 II'.2.2.1 II'.2.2.2 rfl (by decide) (.slice pv nv cv) L.length (L.map (Value.int .i64)) rfl (World.ownsRow.alloc hrow _) ⟨wr.heap.size, 0, none⟩ 1 1 [.int .i64 (z + y)] rfl rfl (cell_one_new _ _ _) (ints_oneCell .i64 [z + y]) (by unfold maxLen; omega) (by omega) (by rw [World.size_alloc]; omega) ?_; intro v' w2 hown' hgrow2 hnil2 hloc)
              | go_in)
            have F := FIN.out v' w2 hown' hgrow2
            clear hown' hgrow2 hnil2 hloc hrow FIN
            go_roundw
            case rel => exact ⟨q + 1, by go_num, hqn, F⟩
            case measure => simp [intOf]; omega
          · rw [if_neg (by omega)] at MV
            rw [MV, Int.add_zero] at FIN
            clear MV hm
            go_wp2_with (first
              | (at_builtin; refine wpList_append_own_at _ rfl _ _ 30 rfl w.heap.size 3 i0 (.int .i64 0) 1 8 Try.underlying30 II'.1 II'.2.1 II'.2.2.1 II'.2.2.2 rfl (by decide) (.slice pv nv cv) L.length (L.map (Value.int .i64)) rfl (World.ownsRow.alloc hrow _) ⟨wr.heap.size, 0, none⟩ 1 1 [.int .i64 z] rfl rfl (cell_one_new _ _ _) (ints_oneCell .i64 [z]) (by unfold maxLen; omega) (by omega) (by rw [World.size_alloc]; omega) ?_; intro v' w2 hown' hgrow2 hnil2 hloc)
              | go_in)
            have F := FIN.out v' w2 hown' hgrow2
            clear hown' hgrow2 hnil2 hloc hrow FIN
            go_roundw
            case rel => exact ⟨q + 1, by go_num, hqn, F⟩
            case measure => simp [intOf]; omega
        · rw [if_neg (by omega)] at MV
          rw [MV, Int.add_zero] at FIN
          clear MV hm
          go_wp2_with (first
            | (at_builtin; refine wpList_append_own_at _ rfl _ _ 30 rfl w.heap.size 3 i0 (.int .i64 0) 1 8 Try.underlying30 II'.1 II'.2.1 II'.2.2.1 II'.2.2.2 rfl (by decide) (.slice pv nv cv) L.length (L.map (Value.int .i64)) rfl (World.ownsRow.alloc hrow _) ⟨wr.heap.size, 0, none⟩ 1 1 [.int .i64 z] rfl rfl (cell_one_new _ _ _) (ints_oneCell .i64 [z]) (by unfold maxLen; omega) (by omega) (by rw [World.size_alloc]; omega) ?_; intro v' w2 hown' hgrow2 hnil2 hloc)
            | go_in)
          have F := FIN.out v' w2 hown' hgrow2
          clear hown' hgrow2 hnil2 hloc hrow FIN
          go_roundw
          case rel => exact ⟨q + 1, by go_num, hqn, F⟩
          case measure => simp [intOf]; omega
      · have hqmi : ¬ (q : Int) < (m : Int) := by omega
        have MV : mv bs q = 0 := by unfold mv; rw [if_neg (by have := M.out; omega)]
        rw [MV, Int.add_zero] at FIN
        generalize v[q]! = z at *
        obtain ⟨r1, r2⟩ := hr
        clear MV hm
        go_wp2_with (first
          | (at_builtin; refine wpList_append_own_at _ rfl _ _ 30 rfl w.heap.size 3 i0 (.int .i64 0) 1 8 Try.underlying30 II'.1 II'.2.1 II'.2.2.1 II'.2.2.2 rfl (by decide) (.slice pv nv cv) L.length (L.map (Value.int .i64)) rfl (World.ownsRow.alloc hrow _) ⟨wr.heap.size, 0, none⟩ 1 1 [.int .i64 z] rfl rfl (cell_one_new _ _ _) (ints_oneCell .i64 [z]) (by unfold maxLen; omega) (by omega) (by rw [World.size_alloc]; omega) ?_; intro v' w2 hown' hgrow2 hnil2 hloc)
          | go_in)
        have F := FIN.out v' w2 hown' hgrow2
        clear hown' hgrow2 hnil2 hloc hrow FIN
        go_roundw
        case rel => exact ⟨q + 1, by go_num, hqn, F⟩
        case measure => simp [intOf]; omega
    · have hqi : ¬ (q : Int) < (n : Int) := by omega
      have X' := X.out
      rw [List.take_of_length_le (by rw [shV_len]; have := N.out; omega)] at X'
      clear X
      go_wp2
      go_ret
      exact ⟨_, rfl, X'.1, X'.2⟩
end Go.Proofs.Ytgglofeliffgbaa
