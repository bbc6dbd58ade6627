/- The reference's Encode. -/
import Derived.Test.YtblfmhdcgmkpgaaPcPRTr
import Derived.Test.YtblfmhdcgmkpgaaPc35
import Derived.BigQuiet
namespace Go.Proofs.Ytblfmhdcgmkpgaa
open Go.RowKit Go.Maps Go.Sort

theorem set_farq {W : World} {p : Addr} {u : Value} {b o : Nat} {x : Value} (hp : b ≠ p.block) (h : W.cell? p = some u) : (W.setCell ⟨b, o, none⟩ x).cell? p = some u := (set_far2 hp hp ⟨h, h⟩).1

set_option maxHeartbeats 1000000 in
theorem rencode_no {w : World} {p d m : Nat} {bs : List Vs} {v : Value} {x : List Int} (hc : MCod w p d m bs) (hv : RdI w v x) (hz : chk x (d : Int) ≠ 0) :
    Calls Try.prog 17 #[.pointer (some ⟨p, 0, none⟩), v] w fun e w' => e = .returned (.tuple #[.slice none 0 0, .int .i64 (chk x (d : Int))]) ∧ w = w' := by
  have ck := rcheck_c hv (d : Int)
  have hz' : (chk x (d : Int) == 0) = false := by rw [beq_eq_false_iff_ne]; exact hz
  obtain ⟨y0, y1, bv, y2, _⟩ := hc
  obtain ⟨a, cap, rfl, _⟩ := hv
  generalize chk x (d : Int) = z at *
  generalize x.length = n at *
  go_enter Try.func17, Try.ntmps17
  go_wp2_with (go_at_call 29; refine ck.mono ?_; rintro e w' ⟨rfl, e2⟩; subst e2)
  go_ret2
  exact ⟨rfl, rfl⟩

set_option maxHeartbeats 4000000 in
set_option maxRecDepth 100000 in
theorem rencode_ok {w : World} {p : Nat} {bs : List Vs} {m s k : Nat} {v : Value} {x : List Int} (hc : MCod w p (m * s) m bs) (hb : Bks bs m s k) (hv : RdJ w v x) (hx : chk x ((m * s : Nat) : Int) = 0) :
    Calls Try.prog 17 #[.pointer (some ⟨p, 0, none⟩), v] w fun e w' => ∃ u, e = .returned (.tuple #[u, .int .i64 0]) ∧ Own w' w.heap.size u (encV bs x) ∧ Gb w w' := by
  have ck := rcheck_c hv.1 ((m * s : Nat) : Int)
  rw [hx] at ck
  have HX : Hid (Bks bs m s k ∧ RdJ w v x ∧ chk x ((m * s : Nat) : Int) = 0) := ⟨hb, hv, hx⟩
  obtain ⟨d, hd⟩ : ∃ d, d = m * s := ⟨_, rfl⟩
  rw [← hd] at hc ck
  obtain ⟨y0, y1, bv, y2, rb⟩ := hc
  have RB : Hid (RdB w bv bs) := rb
  obtain ⟨ba, bc, rfl, _⟩ := rb
  have hm := hb.len
  rw [hm] at y2 RB
  have hm8 := hb.m8
  have hm1 := hb.m1
  obtain ⟨⟨va, vc, rfl, _⟩, _⟩ := hv
  obtain ⟨nx, hnx⟩ : ∃ n, n = x.length := ⟨_, rfl⟩
  rw [← hnx] at HX ck ⊢
  obtain ⟨j0, hj0, hy0, hy1, hy2⟩ := info_partsI
  have JJ : Hid (Try.prog.info? 3 = some j0 ∧ j0.zero = some (.int .i64 0) ∧ j0.size = 1 ∧ j0.bytes = 8) := ⟨hj0, hy0, hy1, hy2⟩
  have O : Hid (Gb w w ∧ Own w w.heap.size (.slice none 0 0) ((encV bs x).take 0)) := ⟨Below.refl _ _, own_nil _ _⟩
  have YY : Hid (w.cell? ⟨p, 1, none⟩ = some (.int .i64 (m : Int)) ∧ w.cell? ⟨p, 2, none⟩ = some (.slice ba m bc)) := ⟨y1, y2⟩
  clear hj0 hy0 hy1 hy2 hb hd hx hm hnx
  go_enter Try.func17, Try.ntmps17
  go_wp2_with fail
  go_fit ck
  rintro e w' ⟨rfl, e2⟩
  subst e2
  clear ck y0
  go_wp2
  clear y1 y2
  go_loopw [7, 8] (fun cv iv W => ∃ q : Nat, iv = .int .i64 (q : Int) ∧ q ≤ m ∧ Hid (Gb w W ∧ Own W w.heap.size cv ((encV bs x).take q))) (fun _ iv _ => m - (intOf iv).toNat)
  case atStart => exact ⟨0, rfl, Nat.zero_le _, O⟩
  case round =>
    clear O
    obtain ⟨q, rfl, hq, X⟩ := hrel
    have y1 := gb_keeps X.out.1 YY.out.1
    by_cases hqn : q < m
    · have hqi : (q : Int) < (m : Int) := by omega
      have hql : q < bs.length := by rw [HX.out.1.len]; exact hqn
      obtain ⟨b, o, ur, ea, k1, k2⟩ := rdb_at RB.out hql
      subst ea
      have k1 := gb_keeps X.out.1 k1
      have y2 := gb_keeps X.out.1 YY.out.2
      have BQ : Hid (bs[q]!.length = k ∧ VsOk bs[q]! (s : Int) ∧ 1 ≤ k ∧ k ≤ 16) := ⟨(HX.out.1.bk q hqn).1, (HX.out.1.bk q hqn).2, HX.out.1.k1, HX.out.1.k16⟩
      have PQ : Hid (chk (partV x m q) (s : Int) = 0) := HX.out.1.part HX.out.2.2 hqn
      have cp := fun W (g : Gb wr W) => rpart_c (HX.out.2.1.gb (gb_trans X.out.1 g)) HX.out.1.m8 hqn HX.out.2.2
      have R2 : Hid (RdV w ur bs[q]!) := k2
      have CT : Hid ((encV bs x).take (q + 1) = (encV bs x).take q ++ [((nearP bs[q]! (partV x m q)).1 : Int)] ∧ ((encV bs x).take q).length = q) := ⟨by rw [encV_take bs x hql, HX.out.1.len], by rw [List.length_take, encV_len]; omega⟩
      obtain ⟨pu, cu, eu, _⟩ := k2
      subst eu
      rw [BQ.out.1] at k1 R2
      have cn := fun W (g : Gb wr W) a2 c2 (r2 : ∀ W, RdJ W (.slice va nx vc) x → RdI W (.slice a2 s c2) (partV x m q)) => rnearest_c (R2.out.gb (gb_trans X.out.1 g)) (r2 W (HX.out.2.1.gb (gb_trans X.out.1 g))) BQ.out.2.1 PQ.out (by have := BQ.out; omega) (by have := BQ.out; omega)
      generalize nearP bs[q]! (partV x m q) = pr at *
      obtain ⟨pp, pd⟩ := pr
      dsimp only at cn CT
      have XO : Hid (∀ W, Gb wr W → W.ownsRow w.heap.size 3 1 u7 q (((encV bs x).take q).map (Value.int .i64))) := fun W g => by
        have h := X.out.2.gb g
        unfold Own at h
        rw [CT.out.2] at h
        exact h
      have GX : Hid (Gb w wr) := X.out.1
      have FS : wr.drew.cell? ⟨p, 1, none⟩ = some (.int .i64 (m : Int)) ∧ wr.drew.cell? ⟨p, 2, none⟩ = some (.slice (some ⟨b, o, none⟩) m bc) ∧ wr.drew.cell? ⟨b, o + q, none⟩ = some (.slice pu k cu) := ⟨y1, y2, k1⟩
      have hlt0 : p < wr.heap.size := cell_lt y1
      have hlt1 : b < wr.heap.size := cell_lt k1
      clear X k1 y2
      go_wp2_with fail
      refine wp_region_held_drew (S := fun W => W.cell? ⟨p, 1, none⟩ = some (.int .i64 (m : Int)) ∧ W.cell? ⟨p, 2, none⟩ = some (.slice (some ⟨b, o, none⟩) m bc) ∧ W.cell? ⟨b, o + q, none⟩ = some (.slice pu k cu)) (by kernel_rfl) (FS) (fun hHeld => ?_)
      refine wpAnyH_take (i := 0) (v := ?_) rfl (by kernel_rfl) (by kernel_rfl) (by kernel_rfl) (fun _ _ _ h => h) (Or.inl ⟨by rfl, ?_⟩) (by assumption) ?_
      rotate_left 1
      · (intro w hSw; (obtain ⟨s0, s1, s2⟩ := hSw); go_simp; try with_reducible rfl)
      try simp only [Act.put, List.getElem_toArray, List.getElem_cons_zero, List.setIfInBounds_toArray, List.set_cons_zero, List.set_cons_succ]
      refine wpAnyH_take (i := 1) (v := ?_) rfl (by kernel_rfl) (by kernel_rfl) (by kernel_rfl) (fun _ _ _ h => h) (Or.inl ⟨by rfl, ?_⟩) (by assumption) ?_
      rotate_left 1
      · (intro w hSw; (obtain ⟨s0, s1, s2⟩ := hSw); go_simp; try with_reducible rfl)
      try simp only [Act.put, List.getElem_toArray, List.getElem_cons_zero, List.getElem_cons_succ, List.setIfInBounds_toArray, List.set_cons_zero, List.set_cons_succ]
      refine wpAnyH_take (i := 2) (v := ?_) rfl (by kernel_rfl) (by kernel_rfl) (by kernel_rfl) (fun _ _ _ h => h) (Or.inl ⟨by rfl, ?_⟩) (by assumption) ?_
      rotate_left 1
      · (intro w hSw; (obtain ⟨s0, s1, s2⟩ := hSw); go_simp; try with_reducible rfl)
      try simp only [Act.put, List.getElem_toArray, List.getElem_cons_zero, List.getElem_cons_succ, List.setIfInBounds_toArray, List.set_cons_zero, List.set_cons_succ]
      refine wpAnyH_take (i := 3) (v := ?_) rfl (by kernel_rfl) (by kernel_rfl) (by kernel_rfl) (fun _ _ _ h => h) (Or.inl ⟨by rfl, ?_⟩) (by assumption) ?_
      rotate_left 1
      · (intro w hSw; (obtain ⟨s0, s1, s2⟩ := hSw); go_simp; try with_reducible rfl)
      try simp only [Act.put, List.getElem_toArray, List.getElem_cons_zero, List.getElem_cons_succ, List.setIfInBounds_toArray, List.set_cons_zero, List.set_cons_succ]
      refine wpAnyH_take (i := 4) (v := ?_) rfl (by kernel_rfl) (by kernel_rfl) (by kernel_rfl) (fun _ _ _ h => h) (Or.inl ⟨by rfl, ?_⟩) (by assumption) ?_
      rotate_left 1
      · (intro w hSw; (obtain ⟨s0, s1, s2⟩ := hSw); go_simp; try with_reducible rfl)
      try simp only [Act.put, List.getElem_toArray, List.getElem_cons_zero, List.getElem_cons_succ, List.setIfInBounds_toArray, List.set_cons_zero, List.set_cons_succ]
      refine wpAnyH_take (i := 5) (v := ?_) rfl (by kernel_rfl) (by kernel_rfl) (by kernel_rfl) (fun _ _ _ h => h) (Or.inl ⟨by rfl, ?_⟩) (by assumption) ?_
      rotate_left 1
      · (intro w hSw; (obtain ⟨s0, s1, s2⟩ := hSw); go_simp; try with_reducible rfl)
      try simp only [Act.put, List.getElem_toArray, List.getElem_cons_zero, List.getElem_cons_succ, List.setIfInBounds_toArray, List.set_cons_zero, List.set_cons_succ]
      refine wpAnyH_take (i := 6) (v := ?_) rfl (by kernel_rfl) (by kernel_rfl) (by kernel_rfl) (fun _ _ _ h => h) (Or.inl ⟨by rfl, ?_⟩) (by assumption) ?_
      rotate_left 1
      · (intro w hSw; (obtain ⟨s0, s1, s2⟩ := hSw); go_simp; try with_reducible rfl)
      try simp only [Act.put, List.getElem_toArray, List.getElem_cons_zero, List.getElem_cons_succ, List.setIfInBounds_toArray, List.set_cons_zero, List.set_cons_succ]
      refine wpAnyH_take (i := 7) (v := ?_) rfl (by kernel_rfl) (by kernel_rfl) (by kernel_rfl) (fun _ _ _ h => h) (Or.inl ⟨by rfl, ?_⟩) (by assumption) ?_
      rotate_left 1
      · (intro w hSw; (obtain ⟨s0, s1, s2⟩ := hSw); go_simp; try with_reducible rfl)
      try simp only [Act.put, List.getElem_toArray, List.getElem_cons_zero, List.getElem_cons_succ, List.setIfInBounds_toArray, List.set_cons_zero, List.set_cons_succ]
      refine wpAnyH_take (i := 8) (v := ?_) rfl (by kernel_rfl) (by kernel_rfl) (by kernel_rfl) (fun _ _ _ h => h) (Or.inl ⟨by rfl, ?_⟩) (by assumption) ?_
      rotate_left 1
      · (intro w hSw; (obtain ⟨s0, s1, s2⟩ := hSw); go_simp; try with_reducible rfl)
      try simp only [Act.put, List.getElem_toArray, List.getElem_cons_zero, List.getElem_cons_succ, List.setIfInBounds_toArray, List.set_cons_zero, List.set_cons_succ]
      refine wpAnyH_take (i := 9) (v := ?_) rfl (by kernel_rfl) (by kernel_rfl) (by kernel_rfl) (fun _ _ _ h => h) (Or.inl ⟨by rfl, ?_⟩) (by assumption) ?_
      rotate_left 1
      · (intro w hSw; (obtain ⟨s0, s1, s2⟩ := hSw); go_simp; try with_reducible rfl)
      try simp only [Act.put, List.getElem_toArray, List.getElem_cons_zero, List.getElem_cons_succ, List.setIfInBounds_toArray, List.set_cons_zero, List.set_cons_succ]
      refine wpAnyH_take (i := 10) (v := ?_) rfl (by kernel_rfl) (by kernel_rfl) (by kernel_rfl) (fun _ _ _ h => h) (Or.inl ⟨by rfl, ?_⟩) (by assumption) ?_
      rotate_left 1
      · (intro w hSw; (obtain ⟨s0, s1, s2⟩ := hSw); go_simp; try with_reducible rfl)
      try simp only [Act.put, List.getElem_toArray, List.getElem_cons_zero, List.getElem_cons_succ, List.setIfInBounds_toArray, List.set_cons_zero, List.set_cons_succ]
      refine wpAnyH_take (i := 11) (v := ?_) rfl (by kernel_rfl) (by kernel_rfl) (by kernel_rfl) (fun _ _ _ h => h) (Or.inl ⟨by rfl, ?_⟩) (by assumption) ?_
      rotate_left 1
      · (intro w hSw; (obtain ⟨s0, s1, s2⟩ := hSw); go_simp; try with_reducible rfl)
      try simp only [Act.put, List.getElem_toArray, List.getElem_cons_zero, List.getElem_cons_succ, List.setIfInBounds_toArray, List.set_cons_zero, List.set_cons_succ]
      refine wpAnyH_take (i := 12) (v := ?_) rfl (by kernel_rfl) (by kernel_rfl) (by kernel_rfl) (fun _ _ _ h => h) (Or.inl ⟨by rfl, ?_⟩) (by assumption) ?_
      rotate_left 1
      · (intro w hSw; (obtain ⟨s0, s1, s2⟩ := hSw); go_simp; try with_reducible rfl)
      try simp only [Act.put, List.getElem_toArray, List.getElem_cons_zero, List.getElem_cons_succ, List.setIfInBounds_toArray, List.set_cons_zero, List.set_cons_succ]
      have GW : Gb wr wr.drew := (Below.refl _ _).drew
      refine wpAnyH_ready (rs := [13, 18]) (by kernel_rfl) (by simp) ?_
      refine AllReadyH.cons rfl (fun K hK => ?_) (AllReadyH.cons rfl (fun K hK => ?_) AllReadyH.nil)
      · go_simp
        go_fit (cp _ GW)
        rintro e w2 ⟨⟨a2, c2, rfl, r2⟩, e2⟩
        subst e2
        refine hK.out _ _ (hHeld) (fun hHeld => ?_)
        clear hK K
        try simp only [Act.put, List.getElem_toArray, List.getElem_cons_zero, List.getElem_cons_succ, List.setIfInBounds_toArray, List.set_cons_zero, List.set_cons_succ]
        refine wpAnyH_ready (rs := [14, 18]) (by kernel_rfl) (by simp) ?_
        refine AllReadyH.cons rfl (fun K hK => ?_) (AllReadyH.cons rfl (fun K hK => ?_) AllReadyH.nil)
        · go_simp
          go_fit (cn _ GW _ _ r2)
          rintro e w3 ⟨rfl, g3⟩
          have gk := g3.gb
          refine hK.out _ _ (⟨gb_keeps gk hHeld.1, gb_keeps gk hHeld.2.1, gb_keeps gk hHeld.2.2⟩) (fun hHeld => ?_)
          clear hK K
          try simp only [Act.put, List.getElem_toArray, List.getElem_cons_zero, List.getElem_cons_succ, List.setIfInBounds_toArray, List.set_cons_zero, List.set_cons_succ]
          refine wpAnyH_take (i := 15) (v := ?_) rfl (by kernel_rfl) (by kernel_rfl) (by kernel_rfl) (fun _ _ _ h => h) (Or.inl ⟨by rfl, ?_⟩) (by assumption) ?_
          rotate_left 1
          · (intro w hSw; (obtain ⟨s0, s1, s2⟩ := hSw); go_simp; try with_reducible rfl)
          try simp only [Act.put, List.getElem_toArray, List.getElem_cons_zero, List.getElem_cons_succ, List.setIfInBounds_toArray, List.set_cons_zero, List.set_cons_succ]
          refine wpAnyH_take (i := 16) (v := ?_) rfl (by kernel_rfl) (by kernel_rfl) (by kernel_rfl) (fun _ _ _ h => h) (Or.inl ⟨by rfl, ?_⟩) (by assumption) ?_
          rotate_left 1
          · (intro w hSw; (obtain ⟨s0, s1, s2⟩ := hSw); go_simp; try with_reducible rfl)
          try simp only [Act.put, List.getElem_toArray, List.getElem_cons_zero, List.getElem_cons_succ, List.setIfInBounds_toArray, List.set_cons_zero, List.set_cons_succ]
          refine wpAnyH_take (i := 17) (v := ?_) rfl (by kernel_rfl) (by kernel_rfl) (by kernel_rfl) (fun _ _ _ h => h) (Or.inl ⟨by rfl, ?_⟩) (by assumption) ?_
          rotate_left 1
          · (intro w hSw; (obtain ⟨s0, s1, s2⟩ := hSw); go_simp; try with_reducible rfl)
          try simp only [Act.put, List.getElem_toArray, List.getElem_cons_zero, List.getElem_cons_succ, List.setIfInBounds_toArray, List.set_cons_zero, List.set_cons_succ]
          have HW := hHeld
          refine wpAnyH_ready (rs := [18]) (by kernel_rfl) (by simp) ?_
          refine AllReadyH.cons rfl (fun K hK => ?_) AllReadyH.nil
          go_simp
          refine hK.out _ _ (⟨alloc_keeps hHeld.1 _, alloc_keeps hHeld.2.1 _, alloc_keeps hHeld.2.2 _⟩) (fun hHeld => ?_)
          clear hK K
          try simp only [Act.put, List.getElem_toArray, List.getElem_cons_zero, List.getElem_cons_succ, List.setIfInBounds_toArray, List.set_cons_zero, List.set_cons_succ]
          refine wpAnyH_take (i := 19) (v := ?_) rfl (by kernel_rfl) (by kernel_rfl) (by kernel_rfl) (fun _ _ _ h => h) (Or.inl ⟨by rfl, ?_⟩) (by assumption) ?_
          rotate_left 1
          · (intro w hSw; (obtain ⟨s0, s1, s2⟩ := hSw); go_simp; try with_reducible rfl)
          try simp only [Act.put, List.getElem_toArray, List.getElem_cons_zero, List.getElem_cons_succ, List.setIfInBounds_toArray, List.set_cons_zero, List.set_cons_succ]
          refine wpAnyH_ready (rs := [20]) (by kernel_rfl) (by simp) ?_
          refine AllReadyH.cons rfl (fun K hK => ?_) AllReadyH.nil
          go_simp
          refine hK.out _ _ (⟨alloc_keeps HW.1 _, alloc_keeps HW.2.1 _, alloc_keeps HW.2.2 _⟩) (fun hHeld => ?_)
          clear hK K
          try simp only [Act.put, List.getElem_toArray, List.getElem_cons_zero, List.getElem_cons_succ, List.setIfInBounds_toArray, List.set_cons_zero, List.set_cons_succ]
          refine wpAnyH_done (by kernel_rfl) ?_ _
          have GE : Hid (Gb wr (w3.alloc (.cells #[.int .u64 (hi pd), .int .u64 (lo pd)] 51))) := gb_alloc (gb_trans GW gk) _
          have hown := XO.out _ GE.out
          clear hHeld HW gk g3 GW FS
          have hG3 := GE.out.size
          have hw3 := GX.out.size
          go_wp2_with (first
            | (at_builtin; refine wpList_append_own_at _ rfl _ _ 40 rfl w.heap.size 3 j0 (.int .i64 0) 1 8 Try.underlying40 JJ.out.1 JJ.out.2.1 JJ.out.2.2.1 JJ.out.2.2.2 rfl (by decide) u7 q _ rfl (World.ownsRow.alloc hown _) ⟨w3.heap.size + 1, 0, none⟩ 1 1 [.int .i64 (pp : Int)] rfl rfl (by first | exact cell_one_new _ _ _ | (intro j u hu; rw [Addr.add_lit]; rcases j with _ | j <;> simp at hu; subst hu; simp [go_sem])) (ints_oneCell .i64 [(pp : Int)]) (by unfold maxLen; omega) (by omega) (by simp at hG3 ⊢; omega) ?_; intro v5 w5 hown5 hgrow5 hnil5 hloc5)
            | go_in)
          have XN : Hid (Gb w w5 ∧ Own w5 w.heap.size v5 ((encV bs x).take (q + 1))) := by
            refine ⟨below_grown (gb_alloc (gb_trans GX.out GE.out) _) hgrow5 (fun j e => (hown.lt j e).1) (gb_alloc (gb_trans GX.out GE.out) _).size, ?_⟩
            rw [CT.out.1]
            exact own_push (by rw [CT.out.2]; exact hown5)
          clear hown hown5 hgrow5 hnil5 hloc5
          go_roundw
          case rel => exact ⟨q + 1, by first | rfl | go_num | simp, hqn, XN⟩
          case measure => simp [intOf]; omega
        · go_simp
          refine hK.out _ _ (⟨alloc_keeps hHeld.1 _, alloc_keeps hHeld.2.1 _, alloc_keeps hHeld.2.2 _⟩) (fun hHeld => ?_)
          clear hK K
          try simp only [Act.put, List.getElem_toArray, List.getElem_cons_zero, List.getElem_cons_succ, List.setIfInBounds_toArray, List.set_cons_zero, List.set_cons_succ]
          have GW : Gb wr (wr.drew.alloc (.cells #[.int .u64 0, .int .u64 0] 51)) := gb_alloc GW _
          refine wpAnyH_ready (rs := [14]) (by kernel_rfl) (by simp) ?_
          refine AllReadyH.cons rfl (fun K hK => ?_) AllReadyH.nil
          go_simp
          go_fit (cn _ GW _ _ r2)
          rintro e w3 ⟨rfl, g3⟩
          have gk := g3.gb
          refine hK.out _ _ (⟨gb_keeps gk hHeld.1, gb_keeps gk hHeld.2.1, gb_keeps gk hHeld.2.2⟩) (fun hHeld => ?_)
          clear hK K
          try simp only [Act.put, List.getElem_toArray, List.getElem_cons_zero, List.getElem_cons_succ, List.setIfInBounds_toArray, List.set_cons_zero, List.set_cons_succ]
          refine wpAnyH_take (i := 15) (v := ?_) rfl (by kernel_rfl) (by kernel_rfl) (by kernel_rfl) (fun _ _ _ h => h) (Or.inl ⟨by rfl, ?_⟩) (by assumption) ?_
          rotate_left 1
          · (intro w hSw; (obtain ⟨s0, s1, s2⟩ := hSw); go_simp; try with_reducible rfl)
          try simp only [Act.put, List.getElem_toArray, List.getElem_cons_zero, List.getElem_cons_succ, List.setIfInBounds_toArray, List.set_cons_zero, List.set_cons_succ]
          refine wpAnyH_take (i := 16) (v := ?_) rfl (by kernel_rfl) (by kernel_rfl) (by kernel_rfl) (fun _ _ _ h => h) (Or.inl ⟨by rfl, ?_⟩) (by assumption) ?_
          rotate_left 1
          · (intro w hSw; (obtain ⟨s0, s1, s2⟩ := hSw); go_simp; try with_reducible rfl)
          try simp only [Act.put, List.getElem_toArray, List.getElem_cons_zero, List.getElem_cons_succ, List.setIfInBounds_toArray, List.set_cons_zero, List.set_cons_succ]
          refine wpAnyH_take (i := 17) (v := ?_) rfl (by kernel_rfl) (by kernel_rfl) (by kernel_rfl) (fun _ _ _ h => h) (Or.inl ⟨by rfl, ?_⟩) (by assumption) ?_
          rotate_left 1
          · (intro w hSw; (obtain ⟨s0, s1, s2⟩ := hSw); go_simp; try with_reducible rfl)
          try simp only [Act.put, List.getElem_toArray, List.getElem_cons_zero, List.getElem_cons_succ, List.setIfInBounds_toArray, List.set_cons_zero, List.set_cons_succ]
          refine wpAnyH_take (i := 19) (v := ?_) rfl (by kernel_rfl) (by kernel_rfl) (by kernel_rfl) (fun _ _ _ h => h) (Or.inl ⟨by rfl, ?_⟩) (by assumption) ?_
          rotate_left 1
          · (intro w hSw; (obtain ⟨s0, s1, s2⟩ := hSw); go_simp; try with_reducible rfl)
          try simp only [Act.put, List.getElem_toArray, List.getElem_cons_zero, List.getElem_cons_succ, List.setIfInBounds_toArray, List.set_cons_zero, List.set_cons_succ]
          obtain ⟨n0, n1, n2, n3⟩ : At2 w3 wr.heap.size 0 := (At2.new wr.drew 0 _).gr g3
          refine wpAnyH_ready (rs := [20]) (by kernel_rfl) (by simp) ?_
          refine AllReadyH.cons rfl (fun K hK => ?_) AllReadyH.nil
          go_simp
          refine hK.out _ _ (⟨set_farq (Nat.ne_of_gt (by assumption)) (set_farq (Nat.ne_of_gt (by assumption)) hHeld.1), set_farq (Nat.ne_of_gt (by assumption)) (set_farq (Nat.ne_of_gt (by assumption)) hHeld.2.1), set_farq (Nat.ne_of_gt (by assumption)) (set_farq (Nat.ne_of_gt (by assumption)) hHeld.2.2)⟩) (fun hHeld => ?_)
          clear hK K
          try simp only [Act.put, List.getElem_toArray, List.getElem_cons_zero, List.getElem_cons_succ, List.setIfInBounds_toArray, List.set_cons_zero, List.set_cons_succ]
          refine wpAnyH_done (by kernel_rfl) ?_ _
          have GE : Hid (Gb wr ((w3.setCell ⟨wr.heap.size, 0, none⟩ (.int .u64 (hi pd))).setCell ⟨wr.heap.size, 1, none⟩ (.int .u64 (lo pd)))) := gb_set (gb_set (gb_trans GW gk) (Nat.le_refl _) _) (Nat.le_refl _) _
          have hown := XO.out _ GE.out
          clear hHeld gk g3 GW FS n0 n1 n2 n3
          have hG3 := GE.out.size
          have hw3 := GX.out.size
          go_wp2_with (first
            | (at_builtin; refine wpList_append_own_at _ rfl _ _ 40 rfl w.heap.size 3 j0 (.int .i64 0) 1 8 Try.underlying40 JJ.out.1 JJ.out.2.1 JJ.out.2.2.1 JJ.out.2.2.2 rfl (by decide) u7 q _ rfl (World.ownsRow.alloc hown _) ⟨w3.heap.size, 0, none⟩ 1 1 [.int .i64 (pp : Int)] rfl rfl (by first | exact cell_one_new _ _ _ | (intro j u hu; rw [Addr.add_lit]; rcases j with _ | j <;> simp at hu; subst hu; simp [go_sem])) (ints_oneCell .i64 [(pp : Int)]) (by unfold maxLen; omega) (by omega) (by simp at hG3 ⊢; omega) ?_; intro v5 w5 hown5 hgrow5 hnil5 hloc5)
            | go_in)
          have XN : Hid (Gb w w5 ∧ Own w5 w.heap.size v5 ((encV bs x).take (q + 1))) := by
            refine ⟨below_grown (gb_alloc (gb_trans GX.out GE.out) _) hgrow5 (fun j e => (hown.lt j e).1) (gb_alloc (gb_trans GX.out GE.out) _).size, ?_⟩
            rw [CT.out.1]
            exact own_push (by rw [CT.out.2]; exact hown5)
          clear hown hown5 hgrow5 hnil5 hloc5
          go_roundw
          case rel => exact ⟨q + 1, by first | rfl | go_num | simp, hqn, XN⟩
          case measure => simp [intOf]; omega
      · go_simp
        refine hK.out _ _ (⟨alloc_keeps hHeld.1 _, alloc_keeps hHeld.2.1 _, alloc_keeps hHeld.2.2 _⟩) (fun hHeld => ?_)
        clear hK K
        try simp only [Act.put, List.getElem_toArray, List.getElem_cons_zero, List.getElem_cons_succ, List.setIfInBounds_toArray, List.set_cons_zero, List.set_cons_succ]
        have GW : Gb wr (wr.drew.alloc (.cells #[.int .u64 0, .int .u64 0] 51)) := gb_alloc GW _
        refine wpAnyH_ready (rs := [13]) (by kernel_rfl) (by simp) ?_
        refine AllReadyH.cons rfl (fun K hK => ?_) AllReadyH.nil
        go_simp
        go_fit (cp _ GW)
        rintro e w2 ⟨⟨a2, c2, rfl, r2⟩, e2⟩
        subst e2
        refine hK.out _ _ (hHeld) (fun hHeld => ?_)
        clear hK K
        try simp only [Act.put, List.getElem_toArray, List.getElem_cons_zero, List.getElem_cons_succ, List.setIfInBounds_toArray, List.set_cons_zero, List.set_cons_succ]
        refine wpAnyH_ready (rs := [14]) (by kernel_rfl) (by simp) ?_
        refine AllReadyH.cons rfl (fun K hK => ?_) AllReadyH.nil
        go_simp
        go_fit (cn _ GW _ _ r2)
        rintro e w3 ⟨rfl, g3⟩
        have gk := g3.gb
        refine hK.out _ _ (⟨gb_keeps gk hHeld.1, gb_keeps gk hHeld.2.1, gb_keeps gk hHeld.2.2⟩) (fun hHeld => ?_)
        clear hK K
        try simp only [Act.put, List.getElem_toArray, List.getElem_cons_zero, List.getElem_cons_succ, List.setIfInBounds_toArray, List.set_cons_zero, List.set_cons_succ]
        refine wpAnyH_take (i := 15) (v := ?_) rfl (by kernel_rfl) (by kernel_rfl) (by kernel_rfl) (fun _ _ _ h => h) (Or.inl ⟨by rfl, ?_⟩) (by assumption) ?_
        rotate_left 1
        · (intro w hSw; (obtain ⟨s0, s1, s2⟩ := hSw); go_simp; try with_reducible rfl)
        try simp only [Act.put, List.getElem_toArray, List.getElem_cons_zero, List.getElem_cons_succ, List.setIfInBounds_toArray, List.set_cons_zero, List.set_cons_succ]
        refine wpAnyH_take (i := 16) (v := ?_) rfl (by kernel_rfl) (by kernel_rfl) (by kernel_rfl) (fun _ _ _ h => h) (Or.inl ⟨by rfl, ?_⟩) (by assumption) ?_
        rotate_left 1
        · (intro w hSw; (obtain ⟨s0, s1, s2⟩ := hSw); go_simp; try with_reducible rfl)
        try simp only [Act.put, List.getElem_toArray, List.getElem_cons_zero, List.getElem_cons_succ, List.setIfInBounds_toArray, List.set_cons_zero, List.set_cons_succ]
        refine wpAnyH_take (i := 17) (v := ?_) rfl (by kernel_rfl) (by kernel_rfl) (by kernel_rfl) (fun _ _ _ h => h) (Or.inl ⟨by rfl, ?_⟩) (by assumption) ?_
        rotate_left 1
        · (intro w hSw; (obtain ⟨s0, s1, s2⟩ := hSw); go_simp; try with_reducible rfl)
        try simp only [Act.put, List.getElem_toArray, List.getElem_cons_zero, List.getElem_cons_succ, List.setIfInBounds_toArray, List.set_cons_zero, List.set_cons_succ]
        refine wpAnyH_take (i := 19) (v := ?_) rfl (by kernel_rfl) (by kernel_rfl) (by kernel_rfl) (fun _ _ _ h => h) (Or.inl ⟨by rfl, ?_⟩) (by assumption) ?_
        rotate_left 1
        · (intro w hSw; (obtain ⟨s0, s1, s2⟩ := hSw); go_simp; try with_reducible rfl)
        try simp only [Act.put, List.getElem_toArray, List.getElem_cons_zero, List.getElem_cons_succ, List.setIfInBounds_toArray, List.set_cons_zero, List.set_cons_succ]
        obtain ⟨n0, n1, n2, n3⟩ : At2 w3 wr.heap.size 0 := (At2.new wr.drew 0 _).gr g3
        refine wpAnyH_ready (rs := [20]) (by kernel_rfl) (by simp) ?_
        refine AllReadyH.cons rfl (fun K hK => ?_) AllReadyH.nil
        go_simp
        refine hK.out _ _ (⟨set_farq (Nat.ne_of_gt (by assumption)) (set_farq (Nat.ne_of_gt (by assumption)) hHeld.1), set_farq (Nat.ne_of_gt (by assumption)) (set_farq (Nat.ne_of_gt (by assumption)) hHeld.2.1), set_farq (Nat.ne_of_gt (by assumption)) (set_farq (Nat.ne_of_gt (by assumption)) hHeld.2.2)⟩) (fun hHeld => ?_)
        clear hK K
        try simp only [Act.put, List.getElem_toArray, List.getElem_cons_zero, List.getElem_cons_succ, List.setIfInBounds_toArray, List.set_cons_zero, List.set_cons_succ]
        refine wpAnyH_done (by kernel_rfl) ?_ _
        have GE : Hid (Gb wr ((w3.setCell ⟨wr.heap.size, 0, none⟩ (.int .u64 (hi pd))).setCell ⟨wr.heap.size, 1, none⟩ (.int .u64 (lo pd)))) := gb_set (gb_set (gb_trans GW gk) (Nat.le_refl _) _) (Nat.le_refl _) _
        have hown := XO.out _ GE.out
        clear hHeld gk g3 GW FS n0 n1 n2 n3
        have hG3 := GE.out.size
        have hw3 := GX.out.size
        go_wp2_with (first
          | (at_builtin; refine wpList_append_own_at _ rfl _ _ 40 rfl w.heap.size 3 j0 (.int .i64 0) 1 8 Try.underlying40 JJ.out.1 JJ.out.2.1 JJ.out.2.2.1 JJ.out.2.2.2 rfl (by decide) u7 q _ rfl (World.ownsRow.alloc hown _) ⟨w3.heap.size, 0, none⟩ 1 1 [.int .i64 (pp : Int)] rfl rfl (by first | exact cell_one_new _ _ _ | (intro j u hu; rw [Addr.add_lit]; rcases j with _ | j <;> simp at hu; subst hu; simp [go_sem])) (ints_oneCell .i64 [(pp : Int)]) (by unfold maxLen; omega) (by omega) (by simp at hG3 ⊢; omega) ?_; intro v5 w5 hown5 hgrow5 hnil5 hloc5)
          | go_in)
        have XN : Hid (Gb w w5 ∧ Own w5 w.heap.size v5 ((encV bs x).take (q + 1))) := by
          refine ⟨below_grown (gb_alloc (gb_trans GX.out GE.out) _) hgrow5 (fun j e => (hown.lt j e).1) (gb_alloc (gb_trans GX.out GE.out) _).size, ?_⟩
          rw [CT.out.1]
          exact own_push (by rw [CT.out.2]; exact hown5)
        clear hown hown5 hgrow5 hnil5 hloc5
        go_roundw
        case rel => exact ⟨q + 1, by first | rfl | go_num | simp, hqn, XN⟩
        case measure => simp [intOf]; omega
    · have hqi : ¬ (q : Int) < (m : Int) := by omega
      have E : Hid (Own wr w.heap.size u7 (encV bs x) ∧ Gb w wr) := by
        have h := X.out
        rw [List.take_of_length_le (by rw [encV_len, HX.out.1.len]; omega)] at h
        exact ⟨h.2, h.1⟩
      clear X
      go_wp2
      go_ret2
      exact ⟨_, rfl, E.out.1, E.out.2⟩
end Go.Proofs.Ytblfmhdcgmkpgaa
