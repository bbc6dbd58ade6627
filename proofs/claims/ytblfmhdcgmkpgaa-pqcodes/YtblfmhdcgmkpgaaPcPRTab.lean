/- The reference's Table. -/
import Derived.Test.YtblfmhdcgmkpgaaPcPRTr
import Derived.Test.YtblfmhdcgmkpgaaPcPTab2
import Derived.Test.YtblfmhdcgmkpgaaPcFar
import Derived.BigQuiet
namespace Go.Proofs.Ytblfmhdcgmkpgaa
open Go.RowKit Go.Maps Go.Sort

set_option maxHeartbeats 1000000 in
theorem rtable_no {w : World} {p d m : Nat} {bs : List Vs} {v : Value} {x : List Int} (hc : MCod w p d m bs) (hv : RdI w v x) (hz : chk x (d : Int) ≠ 0) :
    Calls Try.prog 21 #[.pointer (some ⟨p, 0, none⟩), v] w fun e w' => e = .returned (.tuple #[.slice none 0 0, .int .i64 (chk x (d : Int))]) ∧ w = w' := by
  have ck := rcheck_c hv (d : Int)
  have hz' : (chk x (d : Int) == 0) = false := by rw [beq_eq_false_iff_ne]; exact hz
  obtain ⟨y0, y1, bv, y2, _⟩ := hc
  obtain ⟨a, cap, rfl, _⟩ := hv
  generalize chk x (d : Int) = z at *
  generalize x.length = n at *
  go_enter Try.func21, Try.ntmps21
  go_wp2_with (go_at_call 29; refine ck.mono ?_; rintro e w' ⟨rfl, e2⟩; subst e2)
  go_ret2
  exact ⟨rfl, rfl⟩

theorem ownN_nil (w : World) (B : Nat) : OwnN w B (.slice none 0 0) [] := World.ownsRow_nil w B _ 2
theorem app_wide {W : World} {B : Nat} {v : Value} {L : List Nat} (n : Nat) (h : OwnN W B v L) (hL : L.length ≤ 4096) (hB : B ≤ W.heap.size) :
    ∃ v5 w5, (Builtin.append_ #[71, 71] 71 #[v, .slice (some ⟨W.heap.size, 0, none⟩) 1 1]).run Try.prog (W.alloc (.cells #[.int .u64 (hi n), .int .u64 (lo n)] 51)) = .ok v5 w5 ∧ OwnN w5 B v5 (L ++ [n]) ∧ Below B W w5 ∧ ∀ (p : Addr) (y : Value), p.block < B → (W.alloc (.cells #[.int .u64 (hi n), .int .u64 (lo n)] 51)).cell? p = some y → w5.cell? p = some y := by
  obtain ⟨j0, hj0, hy0, hy1, hy2⟩ := info_partsN
  obtain ⟨v5, w5, hr, hown, hgrow, _, _⟩ := run_append_own_at (P := Try.prog) (W.alloc (.cells #[.int .u64 (hi n), .int .u64 (lo n)] 51)) B 71 71 51 j0 (.agg #[.int .u64 0, .int .u64 0]) 2 16 Try.underlying71 hj0 hy0 hy1 hy2 rfl (by decide) v L.length _ (World.ownsRow.alloc h _) ⟨W.heap.size, 0, none⟩ 1 1 [.int .u64 (hi n), .int .u64 (lo n)] rfl (two_new _ _ _ _) (by intro y hy; simp only [List.mem_cons, List.not_mem_nil, or_false] at hy; rcases hy with rfl | rfl <;> rfl) (by unfold maxLen; omega) (by omega) (by rw [World.size_alloc]; omega)
  refine ⟨v5, w5, hr, ?_, below_grown ((Below.refl B W).alloc hB _) hgrow (fun j e => (World.ownsRow.lt h j e).1) (by rw [World.size_alloc]; omega), fun p y hp hc => ?_⟩
  · unfold OwnN
    rw [encN_push, List.length_append]
    exact hown
  · rw [World.cell?_of_block (hgrow.block p.block (World.block_lt_of_cell? _ p hc) (fun e => by have := (World.ownsRow.lt h p.block e.symm).1; omega))]
    exact hc
set_option maxHeartbeats 4000000 in
set_option maxRecDepth 100000 in
theorem rtable_ok {w : World} {p : Nat} {bs : List Vs} {m s k : Nat} {v : Value} {x : List Int} (hc : MCod w p (m * s) m bs) (hb : Bks bs m s k) (hv : RdJ w v x) (hx : chk x ((m * s : Nat) : Int) = 0) :
    Calls Try.prog 21 #[.pointer (some ⟨p, 0, none⟩), v] w fun e w' => ∃ u, e = .returned (.tuple #[u, .int .i64 0]) ∧ OwnT w' w.heap.size u (tabV bs x) ∧ Gb w w' := by
  have ck := rcheck_c hv.1 ((m * s : Nat) : Int)
  rw [hx] at ck
  have HX : Hid (Bks bs m s k ∧ RdJ w v x ∧ chk x ((m * s : Nat) : Int) = 0) := ⟨hb, hv, hx⟩
  obtain ⟨d, hd⟩ : ∃ d, d = m * s := ⟨_, rfl⟩
  rw [← hd] at hc ck
  obtain ⟨y0, y1, bv, y2, rb⟩ := hc
  have RB : Hid (RdB w bv bs) := rb
  obtain ⟨ba, bc, rfl, _⟩ := rb
  have hm := hb.len
  rw [hm] at y2 RB
  have hm8 := hb.m8
  have hm1 := hb.m1
  have hk16 := hb.k16
  obtain ⟨⟨va, vc, rfl, _⟩, _⟩ := hv
  obtain ⟨nx, hnx⟩ : ∃ n, n = x.length := ⟨_, rfl⟩
  rw [← hnx] at HX ck ⊢
  obtain ⟨j0, hj0, hy0, hy1, hy2⟩ := info_partsM
  have JJ : Hid (Try.prog.info? 71 = some j0 ∧ j0.zero = some (.slice none 0 0) ∧ j0.size = 1 ∧ j0.bytes = 24) := ⟨hj0, hy0, hy1, hy2⟩
  have O : Hid (Gb w w ∧ OwnT w w.heap.size (.slice none 0 0) ((tabV bs x).take 0)) := ⟨Below.refl _ _, [], World.ownsRow_nil _ _ _ _, fun i hi => absurd hi (Nat.not_lt_zero _)⟩
  have YY : Hid (w.cell? ⟨p, 1, none⟩ = some (.int .i64 (m : Int)) ∧ w.cell? ⟨p, 2, none⟩ = some (.slice ba m bc)) := ⟨y1, y2⟩
  clear hj0 hy0 hy1 hy2 hb hd hx hm hnx
  go_enter Try.func21, Try.ntmps21
  go_wp2_with fail
  go_fit ck
  rintro e w' ⟨rfl, e2⟩
  subst e2
  clear ck y0
  go_wp2
  clear y1 y2
  go_loopw [7, 8] (fun cv iv W => ∃ q : Nat, iv = .int .i64 (q : Int) ∧ q ≤ m ∧ Hid (Gb w W ∧ OwnT W w.heap.size cv ((tabV bs x).take q))) (fun _ iv _ => m - (intOf iv).toNat)
  case atStart => exact ⟨0, rfl, Nat.zero_le _, O⟩
  case round =>
    clear O
    obtain ⟨q, rfl, hq, X⟩ := hrel
    have y1 := gb_keeps X.out.1 YY.out.1
    by_cases hqn : q < m
    · have hqi : (q : Int) < (m : Int) := by omega
      have hql : q < bs.length := by rw [HX.out.1.len]; exact hqn
      obtain ⟨b, o, ur, ea, k1, k2⟩ := rdb_at RB.out hql
      subst ea
      have BQ : Hid (bs[q]!.length = k ∧ VsOk bs[q]! (s : Int) ∧ 1 ≤ k) := ⟨(HX.out.1.bk q hqn).1, (HX.out.1.bk q hqn).2, HX.out.1.k1⟩
      have PQ : Hid (chk (partV x m q) (s : Int) = 0) := HX.out.1.part HX.out.2.2 hqn
      have R2 : Hid (RdV w ur bs[q]!) := k2
      have CT : Hid ((tabV bs x).take (q + 1) = (tabV bs x).take q ++ [bs[q]!.map fun c => dst (partV x m q) c] ∧ ((tabV bs x).take q).length = q) := ⟨by rw [tabV_take bs x hql, HX.out.1.len], by rw [List.length_take, tabV_len]; omega⟩
      obtain ⟨pu, cu, eu, hpu⟩ := k2
      subst eu
      obtain ⟨b3, o3, _, ea, _, _⟩ := hpu 0 (by have := BQ.out; omega)
      subst ea
      rw [BQ.out.1] at k1 R2
      have K1 : Hid (w.cell? ⟨b, o + q, none⟩ = some (.slice (some ⟨b3, o3, none⟩) k cu)) := k1
      generalize bs[q]! = bq at *
      obtain ⟨wq, hwq⟩ : ∃ wq, wq = wr := ⟨_, rfl⟩
      subst hwq
      clear hpu k1
      go_wp2
      clear y1
      go_loopw [9, 10] (fun cv iv W => ∃ j : Nat, iv = .int .i64 (j : Int) ∧ j ≤ k ∧ Hid (Gb wq W ∧ OwnN W wq.heap.size cv ((bq.map fun c => dst (partV x m q) c).take j))) (fun _ iv _ => k - (intOf iv).toNat)
      case atStart => exact ⟨0, rfl, Nat.zero_le _, Below.refl _ _, ownN_nil _ _⟩
      case round =>
        obtain ⟨j, rfl, hj, Y⟩ := hrel
        have y2 := gb_keeps (gb_trans X.out.1 Y.out.1) YY.out.2
        have k1 := gb_keeps (gb_trans X.out.1 Y.out.1) K1.out
        by_cases hjk : j < k
        · have hji : (j : Int) < (k : Int) := by omega
          have hjl : j < bq.length := by have := BQ.out.1; omega
          obtain ⟨b3', o3', ux, ea, k4, k5⟩ := cen_at R2.out hjl
          injection ea with ea1
          injection ea1 with ea2 ea3
          subst ea2 ea3
          have y1 := gb_keeps (gb_trans X.out.1 Y.out.1) YY.out.1
          have k6 := gb_keeps (gb_trans X.out.1 Y.out.1) k4
          have HL : Hid (p < wq.heap.size ∧ b < wq.heap.size ∧ b3 < wq.heap.size) := ⟨cell_lt (gb_keeps X.out.1 YY.out.1), cell_lt (gb_keeps X.out.1 K1.out), cell_lt (gb_keeps X.out.1 k4)⟩
          have VL := BQ.out.2.1.get hjl
          have PL := chk_ok PQ.out
          have cp := fun W (g : Gb wr W) => rpart_c (HX.out.2.1.gb (gb_trans X.out.1 (gb_trans Y.out.1 g))) HX.out.1.m8 hqn HX.out.2.2
          have cf := fun W (g : Gb wr W) a2 c2 (r2 : ∀ W, RdJ W (.slice va nx vc) x → RdI W (.slice a2 s c2) (partV x m q)) => far_c (r2 W (HX.out.2.1.gb (gb_trans X.out.1 (gb_trans Y.out.1 g)))) (k5.gb (gb_trans X.out.1 (gb_trans Y.out.1 g))) (by omega) PL.2.1 PL.2.2.2 VL.2.2.2
          have CJ : Hid ((bq.map fun c => dst (partV x m q) c).take (j + 1) = (bq.map fun c => dst (partV x m q) c).take j ++ [dst (partV x m q) bq[j]!] ∧ ((bq.map fun c => dst (partV x m q) c).take j).length = j) := by
            have h : j < (bq.map fun c => dst (partV x m q) c).length := by rw [List.length_map]; exact hjl
            refine ⟨?_, by rw [List.length_take, List.length_map]; omega⟩
            rw [List.take_succ_eq_append_getElem h, List.getElem_map, getElem!_pos bq j hjl]
          have hvs : bq[j]!.length = s := by omega
          obtain ⟨pw, cw, eux, _⟩ := k5
          subst eux
          rw [hvs] at k6 cf
          generalize dst (partV x m q) bq[j]! = ds at *
          obtain ⟨la, lc, eul, _⟩ := Y.out.2.rd
          rw [CJ.out.2] at eul
          obtain ⟨ln, hln⟩ : ∃ ln, ln = j := ⟨_, rfl⟩
          rw [← hln] at eul
          have FIN : Hid (∀ w3, Gb wr w3 → ∃ v5 w5, (Builtin.append_ #[71, 71] 71 #[.slice la ln lc, .slice (some ⟨w3.heap.size, 0, none⟩) 1 1]).run Try.prog (w3.alloc (.cells #[.int .u64 (hi ds), .int .u64 (lo ds)] 51)) = .ok v5 w5 ∧ (∃ a n c, v5 = .slice a n c) ∧ Hid (Gb wq w5 ∧ OwnN w5 wq.heap.size v5 ((bq.map fun c => dst (partV x m q) c).take (j + 1))) ∧ ∀ (p : Addr) (y : Value), p.block < wq.heap.size → (w3.alloc (.cells #[.int .u64 (hi ds), .int .u64 (lo ds)] 51)).cell? p = some y → w5.cell? p = some y) := fun w3 g => by
            have gq := gb_trans Y.out.1 g
            obtain ⟨v5, w5, h1, h2, h3, h4⟩ := app_wide ds (Y.out.2.gb g) (by rw [CJ.out.2]; omega) gq.size
            rw [eul] at h1
            obtain ⟨a5, c5, e5, _⟩ := h2.rd
            exact ⟨v5, w5, h1, ⟨_, _, _, e5⟩, ⟨gq.trans h3, by rw [CJ.out.1]; exact h2⟩, h4⟩
          have FS : wr.drew.cell? ⟨p, 1, none⟩ = some (.int .i64 (m : Int)) ∧ wr.drew.cell? ⟨p, 2, none⟩ = some (.slice (some ⟨b, o, none⟩) m bc) ∧ wr.drew.cell? ⟨b, o + q, none⟩ = some (.slice (some ⟨b3, o3, none⟩) k cu) ∧ wr.drew.cell? ⟨b3, o3 + j, none⟩ = some (.slice pw s cw) := ⟨y1, y2, k1, k6⟩
          have GW : Gb wr wr.drew := (Below.refl _ _).drew
          rw [eul]
          clear Y k4 k6 VL PL eul hln
          go_wp2_with fail
          refine wp_region_held_drew (S := fun W => W.cell? ⟨p, 1, none⟩ = some (.int .i64 (m : Int)) ∧ W.cell? ⟨p, 2, none⟩ = some (.slice (some ⟨b, o, none⟩) m bc) ∧ W.cell? ⟨b, o + q, none⟩ = some (.slice (some ⟨b3, o3, none⟩) k cu) ∧ W.cell? ⟨b3, o3 + j, none⟩ = some (.slice pw s cw)) (by kernel_rfl) (FS) (fun hHeld => ?_)
          refine wpAnyH_take (i := 0) (v := ?_) rfl (by kernel_rfl) (by kernel_rfl) (by kernel_rfl) (fun _ _ _ h => h) (Or.inl ⟨by rfl, ?_⟩) (by assumption) ?_
          rotate_left 1
          · (intro w hSw; (obtain ⟨s0, s1, s2, s3⟩ := hSw); go_simp; try with_reducible rfl)
          try simp only [Act.put, List.getElem_toArray, List.getElem_cons_zero, List.setIfInBounds_toArray, List.set_cons_zero, List.set_cons_succ]
          refine wpAnyH_take (i := 1) (v := ?_) rfl (by kernel_rfl) (by kernel_rfl) (by kernel_rfl) (fun _ _ _ h => h) (Or.inl ⟨by rfl, ?_⟩) (by assumption) ?_
          rotate_left 1
          · (intro w hSw; (obtain ⟨s0, s1, s2, s3⟩ := hSw); go_simp; try with_reducible rfl)
          try simp only [Act.put, List.getElem_toArray, List.getElem_cons_zero, List.getElem_cons_succ, List.setIfInBounds_toArray, List.set_cons_zero, List.set_cons_succ]
          refine wpAnyH_take (i := 2) (v := ?_) rfl (by kernel_rfl) (by kernel_rfl) (by kernel_rfl) (fun _ _ _ h => h) (Or.inl ⟨by rfl, ?_⟩) (by assumption) ?_
          rotate_left 1
          · (intro w hSw; (obtain ⟨s0, s1, s2, s3⟩ := hSw); go_simp; try with_reducible rfl)
          try simp only [Act.put, List.getElem_toArray, List.getElem_cons_zero, List.getElem_cons_succ, List.setIfInBounds_toArray, List.set_cons_zero, List.set_cons_succ]
          refine wpAnyH_take (i := 3) (v := ?_) rfl (by kernel_rfl) (by kernel_rfl) (by kernel_rfl) (fun _ _ _ h => h) (Or.inl ⟨by rfl, ?_⟩) (by assumption) ?_
          rotate_left 1
          · (intro w hSw; (obtain ⟨s0, s1, s2, s3⟩ := hSw); go_simp; try with_reducible rfl)
          try simp only [Act.put, List.getElem_toArray, List.getElem_cons_zero, List.getElem_cons_succ, List.setIfInBounds_toArray, List.set_cons_zero, List.set_cons_succ]
          refine wpAnyH_take (i := 4) (v := ?_) rfl (by kernel_rfl) (by kernel_rfl) (by kernel_rfl) (fun _ _ _ h => h) (Or.inl ⟨by rfl, ?_⟩) (by assumption) ?_
          rotate_left 1
          · (intro w hSw; (obtain ⟨s0, s1, s2, s3⟩ := hSw); go_simp; try with_reducible rfl)
          try simp only [Act.put, List.getElem_toArray, List.getElem_cons_zero, List.getElem_cons_succ, List.setIfInBounds_toArray, List.set_cons_zero, List.set_cons_succ]
          refine wpAnyH_take (i := 5) (v := ?_) rfl (by kernel_rfl) (by kernel_rfl) (by kernel_rfl) (fun _ _ _ h => h) (Or.inl ⟨by rfl, ?_⟩) (by assumption) ?_
          rotate_left 1
          · (intro w hSw; (obtain ⟨s0, s1, s2, s3⟩ := hSw); go_simp; try with_reducible rfl)
          try simp only [Act.put, List.getElem_toArray, List.getElem_cons_zero, List.getElem_cons_succ, List.setIfInBounds_toArray, List.set_cons_zero, List.set_cons_succ]
          refine wpAnyH_take (i := 6) (v := ?_) rfl (by kernel_rfl) (by kernel_rfl) (by kernel_rfl) (fun _ _ _ h => h) (Or.inl ⟨by rfl, ?_⟩) (by assumption) ?_
          rotate_left 1
          · (intro w hSw; (obtain ⟨s0, s1, s2, s3⟩ := hSw); go_simp; try with_reducible rfl)
          try simp only [Act.put, List.getElem_toArray, List.getElem_cons_zero, List.getElem_cons_succ, List.setIfInBounds_toArray, List.set_cons_zero, List.set_cons_succ]
          refine wpAnyH_take (i := 8) (v := ?_) rfl (by kernel_rfl) (by kernel_rfl) (by kernel_rfl) (fun _ _ _ h => h) (Or.inl ⟨by rfl, ?_⟩) (by assumption) ?_
          rotate_left 1
          · (intro w hSw; (obtain ⟨s0, s1, s2, s3⟩ := hSw); go_simp; try with_reducible rfl)
          try simp only [Act.put, List.getElem_toArray, List.getElem_cons_zero, List.getElem_cons_succ, List.setIfInBounds_toArray, List.set_cons_zero, List.set_cons_succ]
          refine wpAnyH_take (i := 9) (v := ?_) rfl (by kernel_rfl) (by kernel_rfl) (by kernel_rfl) (fun _ _ _ h => h) (Or.inl ⟨by rfl, ?_⟩) (by assumption) ?_
          rotate_left 1
          · (intro w hSw; (obtain ⟨s0, s1, s2, s3⟩ := hSw); go_simp; try with_reducible rfl)
          try simp only [Act.put, List.getElem_toArray, List.getElem_cons_zero, List.getElem_cons_succ, List.setIfInBounds_toArray, List.set_cons_zero, List.set_cons_succ]
          refine wpAnyH_take (i := 10) (v := ?_) rfl (by kernel_rfl) (by kernel_rfl) (by kernel_rfl) (fun _ _ _ h => h) (Or.inl ⟨by rfl, ?_⟩) (by assumption) ?_
          rotate_left 1
          · (intro w hSw; (obtain ⟨s0, s1, s2, s3⟩ := hSw); go_simp; try with_reducible rfl)
          try simp only [Act.put, List.getElem_toArray, List.getElem_cons_zero, List.getElem_cons_succ, List.setIfInBounds_toArray, List.set_cons_zero, List.set_cons_succ]
          refine wpAnyH_take (i := 11) (v := ?_) rfl (by kernel_rfl) (by kernel_rfl) (by kernel_rfl) (fun _ _ _ h => h) (Or.inl ⟨by rfl, ?_⟩) (by assumption) ?_
          rotate_left 1
          · (intro w hSw; (obtain ⟨s0, s1, s2, s3⟩ := hSw); go_simp; try with_reducible rfl)
          try simp only [Act.put, List.getElem_toArray, List.getElem_cons_zero, List.getElem_cons_succ, List.setIfInBounds_toArray, List.set_cons_zero, List.set_cons_succ]
          refine wpAnyH_take (i := 12) (v := ?_) rfl (by kernel_rfl) (by kernel_rfl) (by kernel_rfl) (fun _ _ _ h => h) (Or.inl ⟨by rfl, ?_⟩) (by assumption) ?_
          rotate_left 1
          · (intro w hSw; (obtain ⟨s0, s1, s2, s3⟩ := hSw); go_simp; try with_reducible rfl)
          try simp only [Act.put, List.getElem_toArray, List.getElem_cons_zero, List.getElem_cons_succ, List.setIfInBounds_toArray, List.set_cons_zero, List.set_cons_succ]
          refine wpAnyH_take (i := 13) (v := ?_) rfl (by kernel_rfl) (by kernel_rfl) (by kernel_rfl) (fun _ _ _ h => h) (Or.inl ⟨by rfl, ?_⟩) (by assumption) ?_
          rotate_left 1
          · (intro w hSw; (obtain ⟨s0, s1, s2, s3⟩ := hSw); go_simp; try with_reducible rfl)
          try simp only [Act.put, List.getElem_toArray, List.getElem_cons_zero, List.getElem_cons_succ, List.setIfInBounds_toArray, List.set_cons_zero, List.set_cons_succ]
          refine wpAnyH_take (i := 14) (v := ?_) rfl (by kernel_rfl) (by kernel_rfl) (by kernel_rfl) (fun _ _ _ h => h) (Or.inl ⟨by rfl, ?_⟩) (by assumption) ?_
          rotate_left 1
          · (intro w hSw; (obtain ⟨s0, s1, s2, s3⟩ := hSw); go_simp; try with_reducible rfl)
          try simp only [Act.put, List.getElem_toArray, List.getElem_cons_zero, List.getElem_cons_succ, List.setIfInBounds_toArray, List.set_cons_zero, List.set_cons_succ]
          refine wpAnyH_take (i := 15) (v := ?_) rfl (by kernel_rfl) (by kernel_rfl) (by kernel_rfl) (fun _ _ _ h => h) (Or.inl ⟨by rfl, ?_⟩) (by assumption) ?_
          rotate_left 1
          · (intro w hSw; (obtain ⟨s0, s1, s2, s3⟩ := hSw); go_simp; try with_reducible rfl)
          try simp only [Act.put, List.getElem_toArray, List.getElem_cons_zero, List.getElem_cons_succ, List.setIfInBounds_toArray, List.set_cons_zero, List.set_cons_succ]
          refine wpAnyH_take (i := 16) (v := ?_) rfl (by kernel_rfl) (by kernel_rfl) (by kernel_rfl) (fun _ _ _ h => h) (Or.inl ⟨by rfl, ?_⟩) (by assumption) ?_
          rotate_left 1
          · (intro w hSw; (obtain ⟨s0, s1, s2, s3⟩ := hSw); go_simp; try with_reducible rfl)
          try simp only [Act.put, List.getElem_toArray, List.getElem_cons_zero, List.getElem_cons_succ, List.setIfInBounds_toArray, List.set_cons_zero, List.set_cons_succ]
          refine wpAnyH_take (i := 17) (v := ?_) rfl (by kernel_rfl) (by kernel_rfl) (by kernel_rfl) (fun _ _ _ h => h) (Or.inl ⟨by rfl, ?_⟩) (by assumption) ?_
          rotate_left 1
          · (intro w hSw; (obtain ⟨s0, s1, s2, s3⟩ := hSw); go_simp; try with_reducible rfl)
          try simp only [Act.put, List.getElem_toArray, List.getElem_cons_zero, List.getElem_cons_succ, List.setIfInBounds_toArray, List.set_cons_zero, List.set_cons_succ]
          refine wpAnyH_ready (rs := [7]) (by kernel_rfl) (by simp) ?_
          refine AllReadyH.cons rfl (fun K hK => ?_) AllReadyH.nil
          go_simp
          go_fit (cp wr.drew GW)
          rintro e w2 ⟨⟨a2, c2, rfl, r2⟩, e2⟩
          subst e2
          refine hK.out _ _ (hHeld) (fun hHeld => ?_)
          clear hK K
          try simp only [Act.put, List.getElem_toArray, List.getElem_cons_zero, List.getElem_cons_succ, List.setIfInBounds_toArray, List.set_cons_zero, List.set_cons_succ]
          refine wpAnyH_ready (rs := [18]) (by kernel_rfl) (by simp) ?_
          refine AllReadyH.cons rfl (fun K hK => ?_) AllReadyH.nil
          go_simp
          go_fit (cf wr.drew GW _ _ r2)
          rintro e w3 ⟨rfl, g3⟩
          obtain ⟨v5, w5, hrun, ⟨a5, n5, c5, e5⟩, g5, KS5⟩ := FIN.out w3 (gb_trans GW g3.gb)
          subst e5
          refine hK.out _ _ (⟨gb_keeps g3.gb hHeld.1, gb_keeps g3.gb hHeld.2.1, gb_keeps g3.gb hHeld.2.2.1, gb_keeps g3.gb hHeld.2.2.2⟩) (fun hHeld => ?_)
          clear hK K
          try simp only [Act.put, List.getElem_toArray, List.getElem_cons_zero, List.getElem_cons_succ, List.setIfInBounds_toArray, List.set_cons_zero, List.set_cons_succ]
          refine wpAnyH_ready (rs := [19]) (by kernel_rfl) (by simp) ?_
          refine AllReadyH.cons rfl (fun K hK => ?_) AllReadyH.nil
          go_simp
          refine hK.out _ _ (⟨alloc_keeps hHeld.1 _, alloc_keeps hHeld.2.1 _, alloc_keeps hHeld.2.2.1 _, alloc_keeps hHeld.2.2.2 _⟩) (fun hHeld => ?_)
          clear hK K
          try simp only [Act.put, List.getElem_toArray, List.getElem_cons_zero, List.getElem_cons_succ, List.setIfInBounds_toArray, List.set_cons_zero, List.set_cons_succ]
          refine wpAnyH_ready (rs := [20]) (by kernel_rfl) (by simp) ?_
          refine AllReadyH.cons rfl (fun K hK => ?_) AllReadyH.nil
          refine app_run (by rfl) _ _ _ (by rfl) ⟨.slice la ln lc, .slice (some ⟨w3.heap.size, 0, none⟩) 1 1, _, _, (by go_simp), (by go_simp), hrun, ?_⟩
          refine hK.out _ _ (⟨KS5 _ _ HL.out.1 hHeld.1, KS5 _ _ HL.out.1 hHeld.2.1, KS5 _ _ HL.out.2.1 hHeld.2.2.1, KS5 _ _ HL.out.2.2 hHeld.2.2.2⟩) (fun hHeld => ?_)
          clear hK K
          try simp only [Act.put, List.getElem_toArray, List.getElem_cons_zero, List.getElem_cons_succ, List.setIfInBounds_toArray, List.set_cons_zero, List.set_cons_succ]
          refine wpAnyH_take (i := 21) (v := ?_) rfl (by kernel_rfl) (by kernel_rfl) (by kernel_rfl) (fun _ _ _ h => h) (Or.inl ⟨by rfl, ?_⟩) (by assumption) ?_
          rotate_left 1
          · (intro w hSw; (obtain ⟨s0, s1, s2, s3⟩ := hSw); go_simp; try with_reducible rfl)
          try simp only [Act.put, List.getElem_toArray, List.getElem_cons_zero, List.getElem_cons_succ, List.setIfInBounds_toArray, List.set_cons_zero, List.set_cons_succ]
          refine wpAnyH_done (by kernel_rfl) ?_ _
          clear hrun hHeld KS5 FS
          have G5 := g5
          go_wp2
          go_roundw
          case rel => exact ⟨j + 1, by first | rfl | go_num | simp, hjk, G5⟩
          case measure => simp [intOf]; omega
        · have hji : ¬ (j : Int) < (k : Int) := by omega
          have YE : Hid (Gb wq wr ∧ OwnN wr w.heap.size u9 (bq.map fun c => dst (partV x m q) c)) := by
            have h := Y.out
            rw [List.take_of_length_le (by rw [List.length_map]; have := BQ.out.1; omega)] at h
            exact ⟨h.1, h.2.mono X.out.1.size⟩
          obtain ⟨a3, c3, e3, _⟩ := YE.out.2.rd
          subst e3
          have G3 : Hid (Gb w wr) := gb_trans X.out.1 YE.out.1
          obtain ⟨xs, hown, hcells⟩ := X.out.2
          have hown := World.ownsRow.kept hown (row := none) ⟨YE.out.1.os, YE.out.1.tape, YE.out.1.output, YE.out.1.size, fun k hk _ => YE.out.1.block k hk⟩ (by cases hv : u7.ownBlock <;> simp)
          rw [CT.out.2] at hown
          have HC : Hid (∀ j, j < ((tabV bs x).take q).length → ∃ u, xs[j]? = some u ∧ OwnN wr w.heap.size u ((tabV bs x).take q)[j]!) := fun j hj => by
            obtain ⟨u, e1, e2⟩ := hcells j hj
            exact ⟨u, e1, e2.gb YE.out.1⟩
          generalize bq.map (fun c => dst (partV x m q) c) = NS at *
          generalize NS.length = ns at *
          have hG3 := G3.out.size
          clear Y X hcells
          go_wp2_with (first
            | (at_builtin; refine wpList_append_own_at _ rfl _ _ 44 rfl w.heap.size 71 j0 (.slice none 0 0) 1 24 Try.underlying44 JJ.out.1 JJ.out.2.1 JJ.out.2.2.1 JJ.out.2.2.2 rfl (by decide) u7 q xs rfl (hown.alloc _) ⟨wr.heap.size, 0, none⟩ 1 1 [.slice a3 ns c3] rfl rfl (cell_one_new _ _ _) (by simp [Value.oneCell']) (by simp only [maxLen]; omega) (by omega) (by simp; omega) ?_; intro v5 w5 hown5 hgrow5 hnil5 hloc5)
            | go_in)
          have XN : Hid (Gb w w5 ∧ OwnT w5 w.heap.size v5 ((tabV bs x).take (q + 1))) := by
            refine ⟨below_grown (gb_alloc G3.out _) hgrow5 (fun j e => (hown.lt j e).1) (gb_alloc G3.out _).size, ?_⟩
            rw [CT.out.1]
            exact OwnT.push HC.out (by rw [CT.out.2]; exact hown) YE.out.2 (gb_alloc (Below.refl _ _) _) (by rw [CT.out.2]; exact hown5) hgrow5
          clear hown hown5 hgrow5 hnil5 hloc5
          go_roundw
          case rel => exact ⟨q + 1, by first | rfl | go_num | simp, hqn, XN⟩
          case measure => simp [intOf]; omega
    · have hqi : ¬ (q : Int) < (m : Int) := by omega
      have E : Hid (OwnT wr w.heap.size u7 (tabV bs x) ∧ Gb w wr) := by
        have h := X.out
        rw [List.take_of_length_le (by rw [tabV_len, HX.out.1.len]; omega)] at h
        exact ⟨h.2, h.1⟩
      clear X
      go_wp2
      go_ret2
      exact ⟨_, rfl, E.out.1, E.out.2⟩
end Go.Proofs.Ytblfmhdcgmkpgaa
