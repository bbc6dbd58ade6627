/- (*pq.Coder).Encode. -/
import Derived.Test.YtblfmhdcgmkpgaaPTrain
import Derived.Test.YtblfmhdcgmkpgaaTab
namespace Go.Proofs.Ytblfmhdcgmkpgaa
open Go.RowKit Go.Maps Go.Sort

theorem near_ok {w : World} {u v : Value} {cs : Vs} {y : List Int} {s : Nat} (hu : RdV w u cs) (hv : RdI w v y) (h0 : 1 ≤ cs.length) (h64 : cs.length ≤ 64) (hc : VsOk cs (s : Int)) (hy : chk y (s : Int) = 0) :
    Calls Try.prog 35 #[u, v] w fun e w' => e = .returned (.tuple #[.int .i64 ((nearP cs y).1 : Int), Wd (nearP cs y).2, .int .i64 0]) ∧ Gr w w' := by
  have h1 : (cs[0]!.length : Int) = s := by have := hc.get (i := 0) (by omega); omega
  have hE : nearE cs y = 0 := by
    unfold nearE
    rw [if_pos (cenE_zero.2 ⟨⟨h0, h64⟩, by rw [h1]; exact hc⟩), h1]; exact hy
  have c := near_c hu hv
  rw [hE, if_pos rfl, if_pos rfl] at c
  exact c
theorem rdb_at {w : World} {a : Option Addr} {n cap : Nat} {bs : List Vs} (h : RdB w (.slice a n cap) bs) {i : Nat} (hi : i < bs.length) : ∃ b o u, a = some ⟨b, o, none⟩ ∧ w.cell? ⟨b, o + i, none⟩ = some u ∧ RdV w u bs[i]! := by
  obtain ⟨_, _, e, h⟩ := h
  cases e
  exact h i hi
theorem info_partsI : ∃ i, Try.prog.info? 3 = some i ∧ i.zero = some (.int .i64 0) ∧ i.size = 1 ∧ i.bytes = 8 := info_parts' Try.info3
theorem own_push {W : World} {B : Nat} {v : Value} {l : List Int} {x : Int} (h : W.ownsRow B 3 1 v (l.length + 1) (l.map (Value.int .i64) ++ [.int .i64 x])) : Own W B v (l ++ [x]) := by
  unfold Own
  rw [List.length_append, List.map_append]
  exact h

set_option maxHeartbeats 400000 in
theorem encode_nil (w : World) (a : Option Addr) (n c : Nat) :
    Calls Try.prog 16 #[.pointer none, .slice a n c] w fun e w' => e = .returned (.tuple #[.slice none 0 0, .int .i64 3]) ∧ w = w' := by
  go_enter Try.func16, Try.ntmps16
  go_wp2
  go_ret2
  exact ⟨rfl, rfl⟩
set_option maxHeartbeats 1000000 in
theorem encode_no {w : World} {p d : Nat} {bs : List Vs} {v : Value} {x : List Int} (hc : CodAt w p d bs) (hv : RdI w v x) (hz : chk x (d : Int) ≠ 0) :
    Calls Try.prog 16 #[.pointer (some ⟨p, 0, none⟩), v] w fun e w' => e = .returned (.tuple #[.slice none 0 0, .int .i64 (chk x (d : Int))]) ∧ w = w' := by
  have ck := check_c hv (d : Int)
  have hz' : (chk x (d : Int) == 0) = false := by rw [beq_eq_false_iff_ne]; exact hz
  obtain ⟨y0, bv, y1, _⟩ := hc
  obtain ⟨a, cap, rfl, _⟩ := hv
  generalize chk x (d : Int) = z at *
  generalize x.length = n at *
  go_enter Try.func16, Try.ntmps16
  go_wp2_with (go_at_call 34; refine ck.mono ?_; rintro e w' ⟨rfl, e2⟩; subst e2)
  go_ret2
  exact ⟨rfl, rfl⟩

set_option maxHeartbeats 4000000 in
set_option maxRecDepth 100000 in
theorem encode_ok {w : World} {p : Nat} {bs : List Vs} {m s k : Nat} {v : Value} {x : List Int} (hc : CodAt w p (m * s) bs) (hb : Bks bs m s k) (hv : RdJ w v x) (hx : chk x ((m * s : Nat) : Int) = 0) :
    Calls Try.prog 16 #[.pointer (some ⟨p, 0, none⟩), v] w fun e w' => ∃ u, e = .returned (.tuple #[u, .int .i64 0]) ∧ Own w' w.heap.size u (encV bs x) ∧ Gb w w' := by
  have ck := check_c hv.1 ((m * s : Nat) : Int)
  rw [hx] at ck
  have HX : Hid (Bks bs m s k ∧ RdJ w v x ∧ chk x ((m * s : Nat) : Int) = 0) := ⟨hb, hv, hx⟩
  obtain ⟨d, hd⟩ : ∃ d, d = m * s := ⟨_, rfl⟩
  rw [← hd] at hc ck
  obtain ⟨y0, bv, y1, rb⟩ := hc
  have RB : Hid (RdB w bv bs) := rb
  obtain ⟨ba, bc, rfl, _⟩ := rb
  have hm := hb.len
  rw [hm] at y1 RB
  have hm8 := hb.m8
  have hm1 := hb.m1
  obtain ⟨⟨va, vc, rfl, _⟩, _⟩ := hv
  generalize x.length = n at *
  obtain ⟨j0, hj0, hy0, hy1, hy2⟩ := info_partsI
  have JJ : Hid (Try.prog.info? 3 = some j0 ∧ j0.zero = some (.int .i64 0) ∧ j0.size = 1 ∧ j0.bytes = 8) := ⟨hj0, hy0, hy1, hy2⟩
  obtain ⟨w1, hmk, ho, hg⟩ := run_make_own (P := Try.prog) w w.heap.size 40 3 j0 (.int .i64 0) 1 Try.underlying40 hj0 hy0 hy1 .i64 .i64 m (by rw [hy2]; omega) (by simp only [maxLen]; omega) (Nat.le_refl _)
  have G1 : Gb w w1 := below_grown (Below.refl _ _) hg (fun k e => by cases e) (Nat.le_refl _)
  have O : Hid (Gb w w1 ∧ Own w1 w.heap.size (.slice (some ⟨w.heap.size, 0, none⟩) 0 m) ((encV bs x).take 0)) := ⟨G1, ho⟩
  have z1 := gb_keeps G1 y1
  have Y1 : Hid (w.cell? ⟨p, 1, none⟩ = some (.slice ba m bc)) := y1
  clear hj0 hy0 hy1 hy2 ho hg G1 hb hd hx hm
  go_enter Try.func16, Try.ntmps16
  go_wp2_with fail
  go_fit ck
  rintro e w' ⟨rfl, e2⟩
  subst e2
  clear ck y0
  go_wp2
  clear hmk y1 z1
  go_loopw [7, 35] (fun cv iv W => ∃ q : Nat, iv = .int .i64 (q : Int) ∧ q ≤ m ∧ Hid (Gb w W ∧ Own W w.heap.size cv ((encV bs x).take q))) (fun _ iv _ => m - (intOf iv).toNat)
  case atStart => exact ⟨0, rfl, Nat.zero_le _, O⟩
  case round =>
    clear O
    obtain ⟨q, rfl, hq, X⟩ := hrel
    by_cases hqn : q < m
    · have hqi : (q : Int) < (m : Int) := by omega
      have hql : q < bs.length := by rw [HX.out.1.len]; exact hqn
      obtain ⟨b, o, ur, ea, k1, k2⟩ := rdb_at RB.out hql
      subst ea
      have k1 := gb_keeps X.out.1 k1
      have y1 := gb_keeps X.out.1 Y1.out
      have cp := partOf_c (HX.out.2.1.gb X.out.1) HX.out.1.m8 hqn HX.out.2.2
      have R2 : Hid (RdV w ur bs[q]!) := k2
      have CT : Hid ((encV bs x).take (q + 1) = (encV bs x).take q ++ [((nearP bs[q]! (partV x m q)).1 : Int)] ∧ ((encV bs x).take q).length = q) := ⟨by rw [encV_take bs x hql, HX.out.1.len], by rw [List.length_take, encV_len]; omega⟩
      obtain ⟨pu, cu, eu, _⟩ := k2
      subst eu
      have BQ : Hid (bs[q]!.length = k ∧ VsOk bs[q]! (s : Int) ∧ 1 ≤ k ∧ k ≤ 16) := ⟨(HX.out.1.bk q hqn).1, (HX.out.1.bk q hqn).2, HX.out.1.k1, HX.out.1.k16⟩
      have PQ : Hid (chk (partV x m q) (s : Int) = 0) := HX.out.1.part HX.out.2.2 hqn
      generalize bs[q]! = bq at *
      rw [BQ.out.1] at k1 R2
      go_wp2_with fail
      go_fit cp
      rintro e w2 ⟨⟨a2, rfl, r2⟩, e2⟩
      subst e2
      have cn := near_ok (R2.out.gb X.out.1) (r2 wr (HX.out.2.1.gb X.out.1)).1 (by have := BQ.out; omega) (by have := BQ.out; omega) BQ.out.2.1 PQ.out
      clear cp r2 k1
      generalize nearP bq (partV x m q) = pr at *
      obtain ⟨pp, pd⟩ := pr
      dsimp only at cn CT
      go_wp2_with fail
      go_fit cn
      rintro e w3 ⟨rfl, g3⟩
      have G3 : Hid (Gb w w3) := gb_trans X.out.1 g3.gb
      have hown := X.out.2.gb g3.gb
      unfold Own at hown
      rw [CT.out.2] at hown
      clear cn g3 X y1
      have hG3 := G3.out.size
      go_wp2_with (first
        | (at_builtin; refine wpList_append_own_at _ rfl _ _ 40 rfl w.heap.size 3 j0 (.int .i64 0) 1 8 Try.underlying40 JJ.out.1 JJ.out.2.1 JJ.out.2.2.1 JJ.out.2.2.2 rfl (by decide) u7 q _ rfl (World.ownsRow.alloc (World.ownsRow.alloc hown _) _) ⟨w3.heap.size + 1, 0, none⟩ 1 1 [.int .i64 (pp : Int)] rfl rfl (by first | exact cell_one_new _ _ _ | (intro j u hu; rw [Addr.add_lit]; rcases j with _ | j <;> simp at hu; subst hu; simp [go_sem])) (ints_oneCell .i64 [(pp : Int)]) (by unfold maxLen; omega) (by omega) (by simp; omega) ?_; intro v5 w5 hown5 hgrow5 hnil5 hloc5)
        | go_in)
      have XN : Hid (Gb w w5 ∧ Own w5 w.heap.size v5 ((encV bs x).take (q + 1))) := by
        refine ⟨below_grown (gb_alloc (gb_alloc G3.out _) _) hgrow5 (fun j e => (hown.lt j e).1) (gb_alloc (gb_alloc G3.out _) _).size, ?_⟩
        rw [CT.out.1]
        exact own_push (by rw [CT.out.2]; exact hown5)
      clear hown hown5 hgrow5 hnil5 hloc5
      go_roundw
      case rel => exact ⟨q + 1, by first | rfl | go_num | simp, hqn, XN⟩
      case measure => simp [intOf]; omega
    · have hqi : ¬ (q : Int) < (m : Int) := by omega
      have E : Hid (Own wr w.heap.size u7 (encV bs x) ∧ Gb w wr) := by
        have h := X.out
        rw [List.take_of_length_le (by rw [encV_len, HX.out.1.len]; omega)] at h
        exact ⟨h.2, h.1⟩
      clear X
      go_wp2
      go_ret2
      exact ⟨_, rfl, E.out.1, E.out.2⟩
end Go.Proofs.Ytblfmhdcgmkpgaa
