/- (*pq.Coder).Table. -/
import Derived.Test.YtblfmhdcgmkpgaaPTab
namespace Go.Proofs.Ytblfmhdcgmkpgaa
open Go.RowKit Go.Maps Go.Sort

theorem tabV_take (bs : List Vs) (v : List Int) {q : Nat} (hq : q < bs.length) : (tabV bs v).take (q + 1) = (tabV bs v).take q ++ [bs[q]!.map fun c => dst (partV v bs.length q) c] := by
  have h : q < (tabV bs v).length := by rw [tabV_len]; exact hq
  rw [List.take_succ_eq_append_getElem h, ← getElem!_pos (tabV bs v) q h, tabV_get bs v hq]
theorem OwnN.other {W W' : World} {B B' n : Nat} {u v : Value} {ns : List Nat} {xs : List Value} (h : OwnN W B u ns) (r : W.ownsRow B' 71 1 v n xs) (hg : W.grownBy W' v.ownBlock) : OwnN W' B u ns := by
  refine World.ownsRow.kept h hg ?_
  rcases h.2 with ⟨rfl, _⟩ | ⟨g, cap, cur, rfl, _, hh, _⟩
  · exact .inl rfl
  · refine .inr fun e => ?_
    rcases r.2 with ⟨rfl, _⟩ | ⟨g', cap', cur', rfl, _, hh', _⟩
    · cases e
    · cases e
      rw [hh] at hh'
      simp at hh'
theorem OwnN.mono {W : World} {b b' : Nat} {v : Value} {l : List Nat} (h : OwnN W b v l) (hb : b' ≤ b) : OwnN W b' v l := by
  refine ⟨h.1, ?_⟩
  rcases h.2 with ⟨rfl, h0⟩ | ⟨g, cap, cur, rfl, h1, h2⟩
  · exact .inl ⟨rfl, h0⟩
  · exact .inr ⟨g, cap, cur, rfl, Nat.le_trans hb h1, h2⟩
theorem OwnT.push {W0 W W2 : World} {B : Nat} {v v' : Value} {t : List (List Nat)} {ns : List Nat} {u : Value} {xs : List Value} (hx : ∀ i, i < t.length → ∃ u, xs[i]? = some u ∧ OwnN W0 B u t[i]!) (hr0 : W0.ownsRow B 71 1 v t.length xs) (hu : OwnN W0 B u ns) (g : Gb W0 W)
    (hr : W2.ownsRow B 71 1 v' (t.length + 1) (xs ++ [u])) (hg : W.grownBy W2 v.ownBlock) : OwnT W2 B v' (t ++ [ns]) := by
  have kp : ∀ {u' : Value} {n' : List Nat}, OwnN W0 B u' n' → OwnN W2 B u' n' := fun o => (o.gb g).other (World.ownsRow.kept hr0 (row := none) ⟨g.os, g.tape, g.output, g.size, fun k hk _ => g.block k hk⟩ (by cases hv : v.ownBlock <;> simp)) hg
  have hl := hr0.1
  refine ⟨xs ++ [u], by rw [List.length_append]; exact hr, fun i hi => ?_⟩
  rw [List.length_append] at hi
  by_cases e : i < t.length
  · rw [getElem!_pos (t ++ [ns]) i (by rw [List.length_append]; exact hi), List.getElem_append_left e, ← getElem!_pos t i e, List.getElem?_append_left (by omega)]
    obtain ⟨u', e1, e2⟩ := hx i e
    exact ⟨u', e1, kp e2⟩
  · have e' : i = t.length := by simp at hi; omega
    subst e'
    have e2 : (t ++ [ns])[t.length]! = ns := by rw [getElem!_pos _ _ (by simp)]; simp
    rw [e2, List.getElem?_append_right (by omega), show t.length - xs.length = 0 by omega]
    exact ⟨u, rfl, kp hu⟩

set_option maxHeartbeats 400000 in
theorem table_nil (w : World) (a : Option Addr) (n c : Nat) :
    Calls Try.prog 20 #[.pointer none, .slice a n c] w fun e w' => e = .returned (.tuple #[.slice none 0 0, .int .i64 3]) ∧ w = w' := by
  go_enter Try.func20, Try.ntmps20
  go_wp2
  go_ret2
  exact ⟨rfl, rfl⟩
set_option maxHeartbeats 1000000 in
theorem table_no {w : World} {p d : Nat} {bs : List Vs} {v : Value} {x : List Int} (hc : CodAt w p d bs) (hv : RdI w v x) (hz : chk x (d : Int) ≠ 0) :
    Calls Try.prog 20 #[.pointer (some ⟨p, 0, none⟩), v] w fun e w' => e = .returned (.tuple #[.slice none 0 0, .int .i64 (chk x (d : Int))]) ∧ w = w' := by
  have ck := check_c hv (d : Int)
  have hz' : (chk x (d : Int) == 0) = false := by rw [beq_eq_false_iff_ne]; exact hz
  obtain ⟨y0, bv, y1, _⟩ := hc
  obtain ⟨a, cap, rfl, _⟩ := hv
  generalize chk x (d : Int) = z at *
  generalize x.length = n at *
  go_enter Try.func20, Try.ntmps20
  go_wp2_with (go_at_call 34; refine ck.mono ?_; rintro e w' ⟨rfl, e2⟩; subst e2)
  go_ret2
  exact ⟨rfl, rfl⟩

set_option maxHeartbeats 4000000 in
set_option maxRecDepth 100000 in
theorem table_ok {w : World} {p : Nat} {bs : List Vs} {m s k : Nat} {v : Value} {x : List Int} (hc : CodAt w p (m * s) bs) (hb : Bks bs m s k) (hv : RdJ w v x) (hx : chk x ((m * s : Nat) : Int) = 0) :
    Calls Try.prog 20 #[.pointer (some ⟨p, 0, none⟩), v] w fun e w' => ∃ u, e = .returned (.tuple #[u, .int .i64 0]) ∧ OwnT w' w.heap.size u (tabV bs x) ∧ Gb w w' := by
  have ck := check_c hv.1 ((m * s : Nat) : Int)
  rw [hx] at ck
  have HX : Hid (Bks bs m s k ∧ RdJ w v x ∧ chk x ((m * s : Nat) : Int) = 0) := ⟨hb, hv, hx⟩
  obtain ⟨d, hd⟩ : ∃ d, d = m * s := ⟨_, rfl⟩
  rw [← hd] at hc ck
  obtain ⟨y0, bv, y1, rb⟩ := hc
  have RB : Hid (RdB w bv bs) := rb
  obtain ⟨ba, bc, rfl, _⟩ := rb
  have hm := hb.len
  rw [hm] at y1 RB
  have hm8 := hb.m8
  have hm1 := hb.m1
  obtain ⟨⟨va, vc, rfl, _⟩, _⟩ := hv
  generalize x.length = n at *
  obtain ⟨j0, hj0, hy0, hy1, hy2⟩ := info_partsM
  have JJ : Hid (Try.prog.info? 71 = some j0 ∧ j0.zero = some (.slice none 0 0) ∧ j0.size = 1 ∧ j0.bytes = 24) := ⟨hj0, hy0, hy1, hy2⟩
  obtain ⟨w1, hmk, ho, hg⟩ := run_make_own (P := Try.prog) w w.heap.size 44 71 j0 (.slice none 0 0) 1 Try.underlying44 hj0 hy0 hy1 .i64 .i64 m (by rw [hy2]; omega) (by simp only [maxLen]; omega) (Nat.le_refl _)
  have G1 : Gb w w1 := below_grown (Below.refl _ _) hg (fun k e => by cases e) (Nat.le_refl _)
  have O : Hid (Gb w w1 ∧ OwnT w1 w.heap.size (.slice (some ⟨w.heap.size, 0, none⟩) 0 m) ((tabV bs x).take 0)) := ⟨G1, [], ho, fun i hi => absurd hi (Nat.not_lt_zero _)⟩
  have z1 := gb_keeps G1 y1
  have Y1 : Hid (w.cell? ⟨p, 1, none⟩ = some (.slice ba m bc)) := y1
  clear hj0 hy0 hy1 hy2 ho hg G1 hb hd hx hm
  go_enter Try.func20, Try.ntmps20
  go_wp2_with fail
  go_fit ck
  rintro e w' ⟨rfl, e2⟩
  subst e2
  clear ck y0
  go_wp2
  clear hmk y1 z1
  go_loopw [7, 32] (fun cv iv W => ∃ q : Nat, iv = .int .i64 (q : Int) ∧ q ≤ m ∧ Hid (Gb w W ∧ OwnT W w.heap.size cv ((tabV bs x).take q))) (fun _ iv _ => m - (intOf iv).toNat)
  case atStart => exact ⟨0, rfl, Nat.zero_le _, O⟩
  case round =>
    clear O
    obtain ⟨q, rfl, hq, X⟩ := hrel
    by_cases hqn : q < m
    · have hqi : (q : Int) < (m : Int) := by omega
      have hql : q < bs.length := by rw [HX.out.1.len]; exact hqn
      obtain ⟨b, o, ur, ea, k1, k2⟩ := rdb_at RB.out hql
      subst ea
      have k1 := gb_keeps X.out.1 k1
      have y1 := gb_keeps X.out.1 Y1.out
      have cp := partOf_c (HX.out.2.1.gb X.out.1) HX.out.1.m8 hqn HX.out.2.2
      have R2 : Hid (RdV w ur bs[q]!) := k2
      have CT : Hid ((tabV bs x).take (q + 1) = (tabV bs x).take q ++ [bs[q]!.map fun c => dst (partV x m q) c] ∧ ((tabV bs x).take q).length = q) := ⟨by rw [tabV_take bs x hql, HX.out.1.len], by rw [List.length_take, tabV_len]; omega⟩
      obtain ⟨pu, cu, eu, _⟩ := k2
      subst eu
      have BQ : Hid (bs[q]!.length = k ∧ VsOk bs[q]! (s : Int) ∧ 1 ≤ k ∧ k ≤ 16) := ⟨(HX.out.1.bk q hqn).1, (HX.out.1.bk q hqn).2, HX.out.1.k1, HX.out.1.k16⟩
      have PQ : Hid (chk (partV x m q) (s : Int) = 0) := HX.out.1.part HX.out.2.2 hqn
      generalize bs[q]! = bq at *
      rw [BQ.out.1] at k1 R2
      go_wp2_with fail
      go_fit cp
      rintro e w2 ⟨⟨a2, rfl, r2⟩, e2⟩
      subst e2
      have cn := distances_c (r2 wr (HX.out.2.1.gb X.out.1)).1 (R2.out.gb X.out.1) PQ.out BQ.out.2.1 (by have := BQ.out; omega)
      clear cp r2 k1
      generalize bq.map (fun c => dst (partV x m q) c) = NS at *
      go_wp2_with fail
      go_fit cn
      rintro e w3 ⟨u3, rfl, o3, g3⟩
      have G3 : Hid (Gb w w3) := gb_trans X.out.1 g3
      have O3 : Hid (OwnN w3 w.heap.size u3 NS) := o3.mono X.out.1.size
      obtain ⟨a3, c3, e3, _⟩ := o3.rd
      subst e3
      obtain ⟨xs, hown, hcells⟩ := X.out.2
      have hown := World.ownsRow.kept hown (row := none) ⟨g3.os, g3.tape, g3.output, g3.size, fun k hk _ => g3.block k hk⟩ (by cases hv : u7.ownBlock <;> simp)
      rw [CT.out.2] at hown
      have HC : Hid (∀ j, j < ((tabV bs x).take q).length → ∃ u, xs[j]? = some u ∧ OwnN w3 w.heap.size u ((tabV bs x).take q)[j]!) := fun j hj => by
        obtain ⟨u, e1, e2⟩ := hcells j hj
        exact ⟨u, e1, e2.gb g3⟩
      generalize NS.length = ns at *
      clear cn g3 X y1 hcells o3
      have hG3 := G3.out.size
      go_wp2_with (first
        | (at_builtin; refine wpList_append_own_at _ rfl _ _ 44 rfl w.heap.size 71 j0 (.slice none 0 0) 1 24 Try.underlying44 JJ.out.1 JJ.out.2.1 JJ.out.2.2.1 JJ.out.2.2.2 rfl (by decide) u7 q xs rfl (hown.alloc _) ⟨w3.heap.size, 0, none⟩ 1 1 [.slice a3 ns c3] rfl rfl (cell_one_new _ _ _) (by simp [Value.oneCell']) (by simp only [maxLen]; omega) (by omega) (by simp; omega) ?_; intro v5 w5 hown5 hgrow5 hnil5 hloc5)
        | go_in)
      have XN : Hid (Gb w w5 ∧ OwnT w5 w.heap.size v5 ((tabV bs x).take (q + 1))) := by
        refine ⟨below_grown (gb_alloc G3.out _) hgrow5 (fun j e => (hown.lt j e).1) (gb_alloc G3.out _).size, ?_⟩
        rw [CT.out.1]
        exact OwnT.push HC.out (by rw [CT.out.2]; exact hown) O3.out (gb_alloc (Below.refl _ _) _) (by rw [CT.out.2]; exact hown5) hgrow5
      clear hown hown5 hgrow5 hnil5 hloc5
      go_roundw
      case rel => exact ⟨q + 1, by first | rfl | go_num | simp, hqn, XN⟩
      case measure => simp [intOf]; omega
    · have hqi : ¬ (q : Int) < (m : Int) := by omega
      have E : Hid (OwnT wr w.heap.size u7 (tabV bs x) ∧ Gb w wr) := by
        have h := X.out
        rw [List.take_of_length_le (by rw [tabV_len, HX.out.1.len]; omega)] at h
        exact ⟨h.2, h.1⟩
      clear X
      go_wp2
      go_ret2
      exact ⟨_, rfl, E.out.1, E.out.2⟩
end Go.Proofs.Ytblfmhdcgmkpgaa
