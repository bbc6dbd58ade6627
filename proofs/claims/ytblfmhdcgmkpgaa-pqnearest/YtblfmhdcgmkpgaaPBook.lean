/- pq.bookMaker's closure: the book of a part. -/
import Derived.Test.YtblfmhdcgmkpgaaPPart
import Derived.Test.YtblfmhdcgmkpgaaKRefD
import Derived.Test.YtblfmhdcgmkpgaaKTrain
import Derived.Maps.AppendAt
namespace Go.Proofs.Ytblfmhdcgmkpgaa
open Go.RowKit Go.Maps Go.Sort

set_option maxHeartbeats 4000000 in
set_option maxRecDepth 100000 in
theorem book_c {w : World} {lv : Value} {l : Vs} (hl : RdVJ w lv l) {m s k r : Nat} (T : TrOk l m s k r) {i : Nat} (hi : i < m) (x : Int) (hx : Rn.U x) {b0 b1 b2 b3 b4 : Nat}
    (x0 : Boxed w b0 22 lv) (x1 : Boxed w b1 3 (.int .i64 (m : Int))) (x2 : Boxed w b2 3 (.int .i64 (k : Int))) (x3 : Boxed w b3 3 (.int .i64 (r : Int))) (x4 : Boxed w b4 23 (.int .u64 x)) :
    Calls Try.prog 60 #[.int .i64 (i : Int), .pointer (some ⟨b0, 0, none⟩), .pointer (some ⟨b1, 0, none⟩), .pointer (some ⟨b2, 0, none⟩), .pointer (some ⟨b3, 0, none⟩), .pointer (some ⟨b4, 0, none⟩)] w fun e w' =>
      ∃ u, e = .returned u ∧ OutC w w' u k s (bookV l m k r x i) ∧ Gb w w' := by
  have L : Hid (RdVJ w lv l) := hl
  obtain ⟨al, cl, rfl, _⟩ := hl
  obtain ⟨C1, C2, C3⟩ := T.cut hi
  have KT : Hid (∀ W cv, RdV W cv (cutV l m i) → Calls Try.prog 61 #[cv, .int .i64 (k : Int), .int .i64 (r : Int), .int .u64 (seedAt x i)] W fun e w' => ∃ v, e = .returned (.tuple #[v, .int .i64 0]) ∧ OutC W w' v k s (bookV l m k r x i) ∧ Gb W w') := by
    intro W cv h
    have c := train_ok_c h (k := (k : Int)) (r := (r : Int)) (seedAt x i) (seedAt_u x i) C3
    rw [C2] at c
    exact c
  have OKL : Hid (VsOk l ((m * s : Nat) : Int)) := T.ok
  have hm8 : m ≤ 8 := T.m8
  have hn5 : l.length ≤ 512 := T.n512
  have hn1 : 1 ≤ l.length := by have := T.k1; have := T.kn; omega
  have HI : Hid (i < m ∧ m ≤ 8) := ⟨hi, hm8⟩
  obtain ⟨n, hN⟩ : ∃ n, n = l.length := ⟨_, rfl⟩
  have N : Hid (n = l.length) := hN
  rw [← hN] at L hn5 hn1 x0
  obtain ⟨j0, hj0, hy0, hy1, hy2⟩ := info_parts' Try.infoV
  have JJ : Hid (Try.prog.info? 40 = some j0 ∧ j0.zero = some (.slice none 0 0) ∧ j0.size = 1 ∧ j0.bytes = 24) := ⟨hj0, hy0, hy1, hy2⟩
  obtain ⟨w1, hmk, ho, hg⟩ := run_make_own (P := Try.prog) w w.heap.size 22 40 j0 (.slice none 0 0) 1 Try.underlying22 hj0 hy0 hy1 .i64 .i64 n (by rw [hy2]; omega) (by simp only [maxLen]; omega) (Nat.le_refl _)
  have G1 : Gb w w1 := below_grown (Below.refl _ _) hg (fun k e => by cases e) (Nat.le_refl _)
  have O : Hid (Gb w w1 ∧ OwnV (fun _ => True) w w1 w.heap.size (.slice (some ⟨w.heap.size, 0, none⟩) 0 n) ((cutV l m i).take 0)) := ⟨G1, [], ho, fun i hi => absurd hi (Nat.not_lt_zero _)⟩
  have y0 := x0.cell
  have z0 := gb_keeps G1 y0
  have XX : Hid (w.cell? ⟨b1, 0, none⟩ = some (.int .i64 (m : Int)) ∧ w.cell? ⟨b2, 0, none⟩ = some (.int .i64 (k : Int)) ∧ w.cell? ⟨b3, 0, none⟩ = some (.int .i64 (r : Int)) ∧ w.cell? ⟨b4, 0, none⟩ = some (.int .u64 x)) := ⟨x1.cell, x2.cell, x3.cell, x4.cell⟩
  have hi8 : i < 8 := by omega
  obtain ⟨hx1, hx2⟩ := hx
  have SD : Hid (IntKind.u64.wrap (x + (i : Int)) = seedAt x i) := rfl
  clear hj0 hy0 hy1 hy2 ho hg G1 C1 C2 C3 T hN x0 x1 x2 x3 x4 hi hm8
  go_enter Try.func60, Try.ntmps60
  go_wp2
  clear hmk y0 z0
  go_loopw [8, 18] (fun cv iv W => ∃ q : Nat, iv = .int .i64 (q : Int) ∧ q ≤ n ∧ Hid (Gb w W ∧ OwnV (fun _ => True) w W w.heap.size cv ((cutV l m i).take q))) (fun _ iv _ => n - (intOf iv).toNat)
  case atStart => exact ⟨0, rfl, Nat.zero_le _, O⟩
  case round =>
    clear O
    obtain ⟨q, rfl, hq, X⟩ := hrel
    by_cases hqn : q < n
    · have hqi : (q : Int) < (n : Int) := by omega
      have hql : q < l.length := by have := N.out; omega
      obtain ⟨_, _, ev, hA⟩ := L.out
      obtain ⟨b, o, ur, ea, k1, k2⟩ := hA q hql
      injection ev with ev1 ev2 ev3
      subst ev1
      subst ea
      have k1 := gb_keeps X.out.1 k1
      have y1 := gb_keeps X.out.1 XX.out.1
      have R2 : Hid (RdJ w ur l[q]!) := k2
      have cp := partOf_c (k2.gb X.out.1) HI.out.2 HI.out.1 (OKL.out q hql)
      have CT : Hid ((cutV l m i).take (q + 1) = (cutV l m i).take q ++ [partV l[q]! m i] ∧ ((cutV l m i).take q).length = q) := ⟨cutV_take l m i hql, by rw [List.length_take, cutV_len]; omega⟩
      obtain ⟨⟨pu, cu, eu, _⟩, _⟩ := k2
      subst eu
      generalize l[q]!.length = lq at *
      clear hA ev2 ev3
      go_wp2_with fail
      go_fit cp
      rintro e w2 ⟨⟨a2, rfl, r2⟩, e2⟩
      subst e2
      have P2 : Hid (RdIP (fun _ => True) w (.slice a2 s s) (partV l[q]! m i)) := rdip_of (r2 w R2.out).1 (fun _ _ => trivial)
      obtain ⟨xs, hown, hcells⟩ := X.out.2
      rw [CT.out.2] at hown
      have HC : Hid (∀ j, j < ((cutV l m i).take q).length → ∃ u, xs[j]? = some u ∧ RdZ (fun _ => True) w wr u ((cutV l m i).take q)[j]!) := hcells
      have GA : Hid (Gb w wr) := X.out.1
      clear hcells X cp r2 k1 y1
      go_wp2_with (first
        | (at_builtin; refine wpList_append_own_at _ rfl _ _ 22 rfl w.heap.size 40 j0 (.slice none 0 0) 1 24 Try.underlying22 JJ.out.1 JJ.out.2.1 JJ.out.2.2.1 JJ.out.2.2.2 rfl (by decide) u8 q xs rfl (hown.alloc _) ⟨wr.heap.size, 0, none⟩ 1 1 [.slice a2 s s] rfl rfl (cell_one_new _ _ _) (by simp [Value.oneCell']) (by simp only [maxLen]; omega) (by omega) (by have h2 := GA.out.size; simp; omega) ?_; intro v5 w5 hown5 hgrow5 hnil5 hloc5)
        | go_in)
      have XN : Hid (Gb w w5 ∧ OwnV (fun _ => True) w w5 w.heap.size v5 ((cutV l m i).take (q + 1))) := by
        have G5 : Gb w w5 := below_grown (gb_alloc GA.out _) hgrow5 (fun j e => (hown.lt j e).1) (gb_alloc GA.out _).size
        refine ⟨G5, ?_⟩
        rw [CT.out.1]
        have kp : ∀ u x, RdZ (fun _ => True) w wr u x → RdZ (fun _ => True) w w5 u x := fun u x r => (r.gb (gb_alloc (Below.refl _ _) _)).kept hgrow5 (fun k cur e => row_type hown k cur e)
        refine OwnV.push (xs := xs) (fun j hj => ?_) (by have := hown.1; rw [CT.out.2]; omega) (u := .slice a2 s s) ?_ (by rw [CT.out.2]; exact hown5)
        · obtain ⟨u, e, r⟩ := HC.out j hj
          exact ⟨u, e, kp u _ r⟩
        · exact .inl P2.out
      clear hown hown5 hgrow5 hnil5 hloc5
      go_roundw
      case rel => exact ⟨q + 1, by first | rfl | go_num | simp, hqn, XN⟩
      case measure => simp [intOf]; omega
    · have hqi : ¬ (q : Int) < (n : Int) := by omega
      have XE : Hid (Gb w wr ∧ RdV wr u8 (cutV l m i)) := by
        have h := X.out
        rw [List.take_of_length_le (by rw [cutV_len]; have := N.out; omega)] at h
        exact ⟨h.1, (h.2.rd h.1 (fun _ _ => trivial)).rd⟩
      have ct := KT.out wr u8 XE.out.2
      have y2 := gb_keeps XE.out.1 XX.out.2.1
      have y3 := gb_keeps XE.out.1 XX.out.2.2.1
      have y4 := gb_keeps XE.out.1 XX.out.2.2.2
      clear X
      go_wp2_with fail
      go_fit ct
      rintro e w3 ⟨v3, rfl, o3, g3⟩
      obtain ⟨cb, gs, cp, rfl, h3⟩ := o3
      have G3 : Hid (OutC w w3 (.slice (some ⟨cb, 0, none⟩) k k) k s (bookV l m k r x i) ∧ Gb w w3) := by
        refine ⟨⟨cb, gs, cp, rfl, ⟨h3.row, h3.arr, fun i hi => Nat.le_trans XE.out.1.size (h3.base i hi), Nat.le_trans XE.out.1.size h3.hB, h3.ne, h3.inj⟩⟩, gb_trans XE.out.1 g3⟩
      clear ct y2 y3 y4 h3 g3
      go_wp2
      go_ret
      exact ⟨_, rfl, G3.out.1, G3.out.2⟩
end Go.Proofs.Ytblfmhdcgmkpgaa
