/- TopkMerges: the law where the lists are not too many. -/
import Derived.Test.YtfefojgncemohaaMrg2
namespace Go.Proofs.Ytfefojgncemohaa
open Go.RowKit Go.Sort

theorem Try.info30 : (Try.prog.info? 30).map (fun i => (i.zero, i.size, i.bytes)) = some (some (.slice none 0 0), 1, 24) := by kernel_rfl
/-- A row of n + 1 hits is made. -/
theorem run_made (n : Nat) (hn : n ≤ 4000) (w : World) : ∃ cur : Array Value, cur.size = (n + 1) * 3 ∧
    (Instr.makeSlice 30 (.int .i64 ((n : Int) + 1)) (.int .i64 ((n : Int) + 1))).run Try.prog w = .ok (.slice (some ⟨w.heap.size, 0, none⟩) (n + 1) (n + 1)) (w.alloc (.cells cur 26)) := by
  obtain ⟨i0, z0, hi0, hz0, hz1, hz2, hz3⟩ := info26
  have := run_make (P := Try.prog) w 30 26 i0 z0 Try.underlying30 hi0 hz0 .i64 .i64 ((n : Int) + 1) ((n : Int) + 1) (by omega) (by omega) (by rw [hz2]; omega) (by omega)
  rw [show ((n : Int) + 1).toNat = n + 1 by omega, hz1] at this
  exact ⟨_, size_madeCells _ _, this⟩
theorem three_of {l : List Value} (h : l.length = 3) : ∃ a b c, l = [a, b, c] := by
  match l, h with
  | [a, b, c], _ => exact ⟨a, b, c, rfl⟩
theorem setRow_heap {w : World} {g : Nat} {cur : Array Value} (h : w.heap[g]? = some (.cells cur 26 (0, 0))) (new : Array Value) : (w.setRow g new).heap[g]? = some (.cells new 26 (0, 0)) := by
  simp [World.setRow, Array.getElem?_modify, h]
theorem setRow_other {w : World} {g k : Nat} (new : Array Value) (hk : k ≠ g) : (w.setRow g new).heap[k]? = w.heap[k]? := by
  simp [World.setRow, Array.getElem?_modify, Ne.symm hk]
theorem set3_far {W : World} {g o0 o1 o2 : Nat} {p : Addr} {v : Value} (hb : g ≠ p.block) (h : W.cell? p = some v) (x y z : Value) : (((W.setCell ⟨g, o0, none⟩ x).setCell ⟨g, o1, none⟩ y).setCell ⟨g, o2, none⟩ z).cell? p = some v := by
  rw [World.cell?_setCell_far _ _ _ _ hb, World.cell?_setCell_far _ _ _ _ hb, World.cell?_setCell_far _ _ _ _ hb]; exact h

theorem row_step {w W4 W5 : World} {ls : List (List Ht)} {q : Nat} {gs : Nat → Nat} {vo va : Value} {tmp : Obj} (h : Ow w W4 ls 0 q gs vo va) (g5 : (W4.alloc tmp).grownBy W5 vo.ownBlock) :
    Gr w W5 ∧ W5.ownsRow w.heap.size 26 3 va (tot (ls.take q)) (fl (ls.take q).flatten) := by
  refine ⟨(gr_alloc h.gb tmp).grown g5 (by have := h.gb.size; simp; omega) (fun k e => (h.row.lt k e).1), (h.all.alloc tmp).kept g5 ?_⟩
  cases hv : va.ownBlock with
  | none => exact .inl rfl
  | some g =>
    refine .inr (fun e => ?_)
    exact h.ne g e.symm hv

theorem merge_any (k : Int) {w W : World} {ls : List (List Ht)} {n : Nat} {gs : Nat → Nat} {vo va : Value} (hn : n = ls.length) (h : Ow w W ls 0 n gs vo va) (hl : ∀ i, i < ls.length → ls[i]!.length ≤ 3000) (ht : ls.length + tot ls ≤ 3000) :
    Calls Try.prog 23 #[.int .i64 k, vo] W fun e w' => ∃ ag cg er d, e = .returned (.tuple #[.slice ag d.size cg, .int .i64 er]) ∧ Gr W w' ∧ Gt w' n gs (.slice ag d.size cg) d ∧ (1 ≤ k → k ≤ 64 → er = 0 ∧ d.toList = firsts k.toNat ls.flatten) ∧ ((k < 1 ∨ 64 < k) → er = 1 ∧ d = #[]) := by
  subst hn
  by_cases hb : k < 1 ∨ 64 < k
  · refine (merge_bad k hb vo W).mono ?_
    rintro e w' ⟨rfl, rfl⟩
    exact ⟨none, 0, 1, #[], rfl, Below.refl _ _, gt_nil _ _ _, fun h1 h2 => by omega, fun _ => ⟨rfl, rfl⟩⟩
  · obtain ⟨m, rfl⟩ := Int.eq_ofNat_of_zero_le (show 0 ≤ k by omega)
    refine (merge_c m (by omega) (by omega) (h.rdl (fun i hi => Nat.le_trans (hl i hi) (by omega))) (by omega) (by omega)).mono ?_
    rintro e w' ⟨v', rfl, o⟩
    obtain ⟨a, c, e⟩ := (own_rd o.1).form'
    have hg := gt_out h o
    have e' : v' = .slice a (firsts m ls.flatten).toArray.size c := by simpa using e
    rw [e'] at hg ⊢
    exact ⟨a, c, 0, _, rfl, o.2.1, hg, fun _ _ => ⟨rfl, by simp⟩, fun h => absurd h hb⟩
theorem Ow.some {w W : World} {ls : List (List Ht)} {p n c : Nat} {gs : Nat → Nat} {a : Option Addr} {va : Value} (h : Ow w W ls p n gs (.slice a n c) va) (hn : 0 < n) : ∃ g, a = some ⟨g, 0, none⟩ := by
  obtain ⟨a', c', e, hf⟩ := h.form
  obtain ⟨g, e2, _⟩ := hf 0 hn
  injection e with e1
  exact ⟨g, e1.trans e2⟩
theorem mk_ne (W : World) : (binOp .neq 26 (.agg #[.int .i64 (-7), .int .u64 0, .int .u64 7]) (.agg #[.int .i64 (-7), .int .u64 0, .int .u64 7])).run Try.prog W = .ok (.bool false) W := hv_ne mk mk W

theorem five_call {W w1 w' : World} {p0 p1 p2 p3 p4 : Addr} {v0 v1 v2 v3 v4 : Value} (g : Gr w1 w') (h : Gr W w1 ∧ w1.cell? p0 = some v0 ∧ w1.cell? p1 = some v1 ∧ w1.cell? p2 = some v2 ∧ w1.cell? p3 = some v3 ∧ w1.cell? p4 = some v4) :
    Gr W w' ∧ w'.cell? p0 = some v0 ∧ w'.cell? p1 = some v1 ∧ w'.cell? p2 = some v2 ∧ w'.cell? p3 = some v3 ∧ w'.cell? p4 = some v4 := ⟨gr_trans h.1 g, five_keeps g h.2⟩
theorem same_self {W w1 : World} {u v : Value} {l : List Ht} (hu : Rd W u l) (hv' : Rd W v l) (hlen : l.length ≤ 4000) (g : Gr W w1) :
    Calls Try.prog 19 #[u, v] w1 fun e w' => e = .returned (.bool true) ∧ Gr w1 w' := by
  have := same_c (hu.gr g) (hv'.gr g) hlen
  rwa [decide_eq_true rfl] at this

set_option maxRecDepth 100000 in
set_option maxHeartbeats 20000000 in
theorem merges_in (k : Int) {w : World} {v : Value} {ls : List (List Ht)} (hv : RdL w v ls) (hT : ls.length + tot ls ≤ 3000) (hl : ∀ i, i < ls.length → ls[i]!.length ≤ 3000) (hmx : ∀ i, i < ls.length → ls[i]!.length ≤ 4611686018427387904) :
    Calls Try.prog 5 #[.int .i64 k, v] w fun e w' => e = .returned (.bool true) ∧ Gr w w' := by
  have htot := total_c hv (by omega) hmx
  obtain ⟨a, cap, rfl, ha⟩ := hv
  have A : Hid (∀ i, i < ls.length → ∃ b o u, a = some ⟨b, o, none⟩ ∧ w.cell? ⟨b, o + i, none⟩ = some u ∧ Rd w u ls[i]!) := ha
  obtain ⟨i0, z0, hi0, hz0, hz1, hz2, hz3⟩ := info26
  have Z : Hid (Try.prog.info? 26 = some i0 ∧ i0.zero = some z0 ∧ i0.size = 3 ∧ i0.bytes = 24 ∧ z0.cells.size = 3) := ⟨hi0, hz0, hz1, hz2, hz3⟩
  obtain ⟨j0, II⟩ := info_parts Try.info30
  have JJ : Hid (Try.prog.info? 30 = some j0 ∧ j0.zero = some (.slice none 0 0) ∧ j0.size = 1 ∧ j0.bytes = 24) := II
  clear hi0 hz0 hz1 hz2 hz3 ha II hmx
  have HL : Hid ((∀ i, i < ls.length → ls[i]!.length ≤ 3000) ∧ ls.length + tot ls ≤ 3000) := ⟨hl, hT⟩
  clear hl
  obtain ⟨n, hN⟩ : ∃ n, n = ls.length := ⟨_, rfl⟩
  have N : Hid (n = ls.length) := hN
  rw [← hN] at htot ⊢
  have hn : n ≤ 3000 := by omega
  clear hN
  go_enter Try.func5, Try.ntmps5
  go_wp2_with fail
  refine htot.mono ?_
  rintro e w0 ⟨⟨T, rfl, hTT⟩, rfl⟩
  have hT3 : ¬ (3000 : Int) < T := by have := N.out; have := HL.out.2; omega
  clear htot hTT hT
  go_wp2
  go_loopw [5, 6, 7] (fun vo va iv wr => ∃ (q : Nat) (gs : Nat → Nat), iv = .int .i64 (q : Int) ∧ q ≤ n ∧ Hid (Ow w0 wr ls 0 q gs vo va)) (fun _ _ iv _ => n - (intOf iv).toNat)
  case atStart => exact ⟨0, _, rfl, Nat.zero_le _, ow_nil _ _⟩
  case round =>
    obtain ⟨q, gs, rfl, hq, O⟩ := hrel
    by_cases hqn : q < n
    · have hqi : (q : Int) < n := by omega
      obtain ⟨b, o, u, ea, hcell, hrd⟩ := A.out q (by have := N.out; omega)
      subst ea
      have hb : b < w0.heap.size := World.block_lt_of_cell? _ _ hcell
      have HC0 : Hid (w0.cell? ⟨b, o + q, none⟩ = some u ∧ Rd w0 u ls[q]!) := ⟨hcell, hrd⟩
      replace hcell := gr_keeps O.out.gb hcell
      replace hrd := hrd.gr O.out.gb
      have hm : ls[q]!.length ≤ 3000 := HL.out.1 q (by have := N.out; omega)
      have T1 : Hid (tot (ls.take (q + 1)) = tot (ls.take q) + ls[q]!.length ∧ tot (ls.take (q + 1)) ≤ 3000 ∧ (ls.take (q + 1)).flatten = (ls.take q).flatten ++ ls[q]!) := by
        have h1 : q < ls.length := by have := N.out; omega
        refine ⟨tot_take_succ ls q h1, Nat.le_trans (tot_take_le _ _) (by have := HL.out.2; omega), ?_⟩
        rw [List.take_succ_eq_append_getElem h1, getElem!_pos ls q h1, List.flatten_append]; simp
      obtain ⟨m, hM⟩ : ∃ m, m = ls[q]!.length := ⟨_, rfl⟩
      obtain ⟨P, hP⟩ : ∃ P : Nat, P = m + 1 := ⟨_, rfl⟩
      have hPi : (m : Int) + 1 = (P : Int) := by omega
      have hmP : (m : Int) < (P : Int) := by omega
      have hmP2 : (m : Int) ≤ (P : Int) := by omega
      have PP : Hid (P = m + 1) := hP
      obtain ⟨cur, hcs, hmk⟩ := run_made m (by omega) wr
      rw [hPi, ← hP] at hmk
      have hw0 := O.out.gb.size
      have hbM : wr.heap.size ≠ b := by omega
      have h1 : (wr.alloc (.cells cur 26)).heap[wr.heap.size]? = some (.cells cur 26 (0, 0)) := by show (wr.heap.push _)[wr.heap.size]? = _; simp
      have hcp := fun ty => run_copy3 (wr.alloc (.cells cur 26)) ty wr.heap.size P P cur h1 u ls[q]! (hrd.gr (gr_alloc (Below.refl _ _) _)) (by omega) (by omega)
      obtain ⟨r0, r1, r2, hrest⟩ := three_of (l := cur.toList.drop (ls[q]!.length * 3)) (by rw [List.length_drop, Array.length_toList, hcs, ← hM]; omega)
      rw [hrest] at hcp
      have h2 := setRow_heap h1 (fl ls[q]! ++ [r0, r1, r2]).toArray
      have G2 : Hid (Gr wr ((wr.alloc (.cells cur 26)).setRow wr.heap.size (fl ls[q]! ++ [r0, r1, r2]).toArray)) := by
        refine ⟨rfl, rfl, rfl, by simp [World.setRow], fun k hk => ?_⟩
        rw [setRow_other _ (by omega), Below.heap_alloc _ _ _ hk]
      have hform : ∃ a1 c1, u = .slice a1 m c1 := by obtain ⟨a1, c1, e⟩ := hrd.form'; exact ⟨a1, c1, by rw [hM]; exact e⟩
      have RD : Hid (Rd wr u ls[q]!) := hrd
      generalize hW2 : (wr.alloc (.cells cur 26)).setRow wr.heap.size (fl ls[q]! ++ [r0, r1, r2]).toArray = W2 at hcp h2 G2
      have M : Hid (m = ls[q]!.length) := hM
      rw [← hM] at hcp hm
      have c2 := gr_keeps G2.out hcell
      have c3 := alloc_keeps hcell (.cells cur 26)
      have H2 : Hid (W2.heap[wr.heap.size]? = some (.cells (fl ls[q]! ++ [r0, r1, r2]).toArray 26 (0, 0))) := h2
      clear hM hrd h1 h2 hcs hrest hW2 hP
      obtain ⟨a1, c1, rfl⟩ := hform
      have hsz2 : wr.heap.size < W2.heap.size := (Array.getElem?_eq_some_iff.1 H2.out).1
      have hkeep : ∀ (W' : World), Gr W2.drew W' → Hid (W'.cell? ⟨wr.heap.size, m * 3, none⟩ = some r0 ∧ W'.cell? ⟨wr.heap.size, m * 3 + 1, none⟩ = some r1 ∧ W'.cell? ⟨wr.heap.size, m * 3 + 2, none⟩ = some r2 ∧ (∀ o, W'.frozen? ⟨wr.heap.size, o, none⟩ = false) ∧ LH (((W'.setCell ⟨wr.heap.size, m * 3, none⟩ (.int .i64 (-7))).setCell ⟨wr.heap.size, m * 3 + 1, none⟩ (.int .u64 0)).setCell ⟨wr.heap.size, m * 3 + 2, none⟩ (.int .u64 7)) wr.heap.size ls[q]!) := by
        intro W' g
        have hh : W'.heap[wr.heap.size]? = some (.cells (fl ls[q]! ++ [r0, r1, r2]).toArray 26 (0, 0)) := (g.block _ hsz2).trans H2.out
        have e : (fl ls[q]!).length = m * 3 := by rw [fl_len, ← M.out]
        refine ⟨?_, ?_, ?_, fun o => by simp [World.frozen?, hh], ?_⟩
        · simp [World.cell?, hh, ← e]
        · simp [World.cell?, hh, ← e]
        · simp [World.cell?, hh, ← e]
        · have := lh_put hh; rw [← M.out] at this; exact this
      go_wp2
      clear hmk hcp c3
      go_region_held3 (fun w' => w'.cell? ⟨b, o + q, none⟩ = some (.slice a1 m c1)) (first | (with_reducible exact gr_keeps (by assumption) (by assumption)) | (with_reducible exact set3_far hbM (by assumption) _ _ _) | assumption | exact c2)
        (first | (go_at_call 22; refine (hit_c _ _ _).mono ?_; rintro e w3 ⟨rfl, g3⟩; have K3 := hkeep _ g3; obtain ⟨x0, x1, x2, xf, _⟩ := K3.out; have f0 := xf (m * 3); have f1 := xf (m * 3 + 1); have f2 := xf (m * 3 + 2); clear xf))
      have G4 : Hid (Gr wr (((w3.setCell ⟨wr.heap.size, m * 3, none⟩ (.int .i64 (-7))).setCell ⟨wr.heap.size, m * 3 + 1, none⟩ (.int .u64 0)).setCell ⟨wr.heap.size, m * 3 + 2, none⟩ (.int .u64 7))) :=
        (((gr_trans G2.out.drew g3).setCell (p := ⟨wr.heap.size, m * 3, none⟩) (Nat.le_refl _) _).setCell (p := ⟨wr.heap.size, m * 3 + 1, none⟩) (Nat.le_refl _) _).setCell (p := ⟨wr.heap.size, m * 3 + 2, none⟩) (Nat.le_refl _) _
      have L4 : Hid (LH (((w3.setCell ⟨wr.heap.size, m * 3, none⟩ (.int .i64 (-7))).setCell ⟨wr.heap.size, m * 3 + 1, none⟩ (.int .u64 0)).setCell ⟨wr.heap.size, m * 3 + 2, none⟩ (.int .u64 7)) wr.heap.size ls[q]!) := K3.out.2.2.2.2
      generalize ((w3.setCell ⟨wr.heap.size, m * 3, none⟩ (.int .i64 (-7))).setCell ⟨wr.heap.size, m * 3 + 1, none⟩ (.int .u64 0)).setCell ⟨wr.heap.size, m * 3 + 2, none⟩ (.int .u64 7) = W4 at G4 L4 ⊢
      have LVE : Hid ((.slice (some ⟨wr.heap.size, 0, none⟩) m P : Value) = lvv wr.heap.size ls[q]!) := by unfold Hid; rw [PP.out, M.out]
      have O4 : Hid (Ow w0 W4 ls 0 q gs u5 u6) := O.out.gr G4.out
      have c4 := gr_keeps O4.out.gb HC0.out.1
      have hq3 : q + 1 ≤ 3001 := by omega
      clear hkeep K3 x0 x1 x2 f0 f1 f2 g3 G2 H2 c2 hcell RD hsz2 hbM hw0
      rcases HC0.out.2 with ⟨e, hnil⟩ | ⟨a2, c2', e, hnil⟩ | ⟨b1, o1, c2', e, hli⟩
      · cases e
        have E : Hid (ls[q]! = []) := hnil
        clear hnil
        go_wp2_with first
          | (at_builtin; refine wpList_append_own_at _ rfl _ _ 45 rfl w0.heap.size 30 j0 (.slice none 0 0) 1 24 Try.underlying45 JJ.out.1 JJ.out.2.1 JJ.out.2.2.1 JJ.out.2.2.2 rfl (by decide) _ _ _ rfl (World.ownsRow.alloc O4.out.row _) ⟨W4.heap.size, 0, none⟩ 1 1 [.slice (some ⟨wr.heap.size, 0, none⟩) 0 P] rfl rfl (cell_one_new _ _ _) (by simp [Value.oneCell']) (by simp only [maxLen]; omega) (by omega) (by have := O4.out.gb.size; simp; omega) ?_; intro vo' W5 r5 g5 n5 l5; have B5 : Hid (Gr w0 W5 ∧ W5.ownsRow w0.heap.size 26 3 u6 (tot (ls.take q)) (fl (ls.take q).flatten)) := row_step O4.out g5; have c5 := gr_keeps B5.out.1 HC0.out.1)
          | (at_builtin; refine wpList_append_own_none rfl _ _ 30 rfl w0.heap.size 26 i0 3 Try.underlying30 Z.out.1 _ _ _ rfl B5.out.2 rfl ?_)
          | go_in
        have r6 : W5.ownsRow w0.heap.size 26 3 u6 (tot (ls.take (q + 1))) (fl (ls.take (q + 1)).flatten) := by rw [T1.out.1, T1.out.2.2, E.out, List.append_nil]; exact B5.out.2
        have g6 : W5.grownBy W5 u6.ownBlock := ⟨rfl, rfl, rfl, Nat.le_refl _, fun _ _ _ => rfl⟩
        rw [LVE.out] at r5
        have NX := O.out.next G4.out L4.out r5 g5 l5 r6 g6 (.inl rfl)
        have NXH : Hid (Ow w0 _ ls 0 (q + 1) _ _ _) := NX
        clear NX r5 g5 n5 l5 r6 g6
        go_roundw
        case rel => exact ⟨q + 1, _, by go_num, hqn, NXH⟩
        case measure => simp [intOf]; omega
      · cases e
        have E : Hid (ls[q]! = []) := hnil
        clear hnil
        go_wp2_with first
          | (at_builtin; refine wpList_append_own_at _ rfl _ _ 45 rfl w0.heap.size 30 j0 (.slice none 0 0) 1 24 Try.underlying45 JJ.out.1 JJ.out.2.1 JJ.out.2.2.1 JJ.out.2.2.2 rfl (by decide) _ _ _ rfl (World.ownsRow.alloc O4.out.row _) ⟨W4.heap.size, 0, none⟩ 1 1 [.slice (some ⟨wr.heap.size, 0, none⟩) 0 P] rfl rfl (cell_one_new _ _ _) (by simp [Value.oneCell']) (by simp only [maxLen]; omega) (by omega) (by have := O4.out.gb.size; simp; omega) ?_; intro vo' W5 r5 g5 n5 l5; have B5 : Hid (Gr w0 W5 ∧ W5.ownsRow w0.heap.size 26 3 u6 (tot (ls.take q)) (fl (ls.take q).flatten)) := row_step O4.out g5; have c5 := gr_keeps B5.out.1 HC0.out.1)
          | (at_builtin; refine wpList_append_own_at _ rfl _ _ 30 rfl w0.heap.size 26 i0 z0 3 24 Try.underlying30 Z.out.1 Z.out.2.1 Z.out.2.2.1 Z.out.2.2.2.1 Z.out.2.2.2.2 (by omega) _ _ _ rfl B5.out.2 a2 0 c1 [] rfl (by simp) (by simp) (by simp) (by simp only [maxLen]; have := T1.out; omega) (by have := T1.out; omega) B5.out.1.size ?_; intro va' W6 r6 g6 n6 l6)
          | go_in
        replace r6 : W6.ownsRow w0.heap.size 26 3 va' (tot (ls.take (q + 1))) (fl (ls.take (q + 1)).flatten) := by rw [T1.out.1, T1.out.2.2, E.out, List.append_nil]; simpa using r6
        rw [LVE.out] at r5
        have NX := O.out.next G4.out L4.out r5 g5 l5 r6 g6 l6
        have NXH : Hid (Ow w0 _ ls 0 (q + 1) _ _ _) := NX
        clear NX r5 g5 n5 l5 r6 g6
        go_roundw
        case rel => exact ⟨q + 1, _, by go_num, hqn, NXH⟩
        case measure => simp [intOf]; omega
      · have LI : Hid (Lies w0 b1 o1 ls[q]!) := hli
        have ee : a1 = some ⟨b1, o1, none⟩ := by injection e
        subst ee
        clear e hli
        go_wp2_with first
          | (at_builtin; refine wpList_append_own_at _ rfl _ _ 45 rfl w0.heap.size 30 j0 (.slice none 0 0) 1 24 Try.underlying45 JJ.out.1 JJ.out.2.1 JJ.out.2.2.1 JJ.out.2.2.2 rfl (by decide) _ _ _ rfl (World.ownsRow.alloc O4.out.row _) ⟨W4.heap.size, 0, none⟩ 1 1 [.slice (some ⟨wr.heap.size, 0, none⟩) m P] rfl rfl (cell_one_new _ _ _) (by simp [Value.oneCell']) (by simp only [maxLen]; omega) (by omega) (by have := O4.out.gb.size; simp; omega) ?_; intro vo' W5 r5 g5 n5 l5; have B5 : Hid (Gr w0 W5 ∧ W5.ownsRow w0.heap.size 26 3 u6 (tot (ls.take q)) (fl (ls.take q).flatten)) := row_step O4.out g5; have c5 := gr_keeps B5.out.1 HC0.out.1)
          | (at_builtin; refine wpList_append_own_at _ rfl _ _ 30 rfl w0.heap.size 26 i0 z0 3 24 Try.underlying30 Z.out.1 Z.out.2.1 Z.out.2.2.1 Z.out.2.2.2.1 Z.out.2.2.2.2 (by omega) _ _ _ rfl B5.out.2 ⟨b1, o1, none⟩ m c1 (fl ls[q]!) rfl (by rw [fl_len, M.out]) (lies_news (LI.out.gr B5.out.1)) (fl_one_cell _) (by simp only [maxLen]; have := T1.out; have := M.out; omega) (by have := T1.out; have := M.out; omega) B5.out.1.size ?_; intro va' W6 r6 g6 n6 l6)
          | go_in
        replace r6 : W6.ownsRow w0.heap.size 26 3 va' (tot (ls.take (q + 1))) (fl (ls.take (q + 1)).flatten) := by rw [T1.out.1, T1.out.2.2, fl_app, ← M.out]; exact r6
        rw [LVE.out] at r5
        have NX := O.out.next G4.out L4.out r5 g5 l5 r6 g6 l6
        have NXH : Hid (Ow w0 _ ls 0 (q + 1) _ _ _) := NX
        clear NX r5 g5 n5 l5 r6 g6
        go_roundw
        case rel => exact ⟨q + 1, _, by go_num, hqn, NXH⟩
        case measure => simp [intOf]; omega
    · have hqi : ¬ (q : Int) < n := by omega
      obtain rfl : q = n := by omega
      obtain ⟨a5, c5, rfl, _⟩ := O.out.form
      have hmg := merge_any k N.out O.out HL.out.1 HL.out.2
      clear hqn
      go_wp2_with fail
      refine hmg.mono ?_
      rintro e w1 ⟨ag, cg, er, d, rfl, g1, t1, k1, k2⟩
      have K : Hid ((1 ≤ k → k ≤ 64 → er = 0 ∧ d.toList = firsts k.toNat ls.flatten) ∧ ((k < 1 ∨ 64 < k) → er = 1 ∧ d = #[])) := ⟨k1, k2⟩
      have S1 : Hid (Ow w0 w1 ls 0 q gs (.slice a5 q c5) u6 ∧ Gt w1 q gs (.slice ag d.size cg) d) := ⟨O.out.gr g1, t1⟩
      clear k1 k2 g1 t1 hmg O
      go_wp2
      go_loopw [11] (fun iv w2 => ∃ p : Nat, iv = .int .i64 (p : Int) ∧ p ≤ q ∧ Hid (Ow w0 w2 ls p q gs (.slice a5 q c5) u6 ∧ Gt w2 q gs (.slice ag d.size cg) d)) (fun iv _ => q - (intOf iv).toNat)
      case atStart => exact ⟨0, rfl, Nat.zero_le _, S1⟩
      case round =>
        obtain ⟨p, rfl, hp, O⟩ := hrel
        by_cases hpq : p < q
        · have hpi : (p : Int) < q := by omega
          obtain ⟨b, o, u, ea, hcell, hrd⟩ := A.out p (by have := N.out; omega)
          obtain ⟨g5, e5⟩ := O.out.1.some (by omega)
          subst ea
          subst e5
          replace hcell := gr_keeps O.out.1.gb hcell
          replace hrd := hrd.gr O.out.1.gb
          have hm : ls[p]!.length ≤ 3000 := HL.out.1 p (by have := N.out; omega)
          have hO := O.out.1.cellR hpq
          have hL := O.out.1.lh p (Nat.le_refl _) hpq
          have hk := hL.mark
          obtain ⟨m, hM⟩ : ∃ m, m = ls[p]!.length := ⟨_, rfl⟩
          have hform : ∃ a1 c1, u = .slice a1 m c1 := by obtain ⟨a1, c1, e⟩ := hrd.form'; exact ⟨a1, c1, by rw [hM]; exact e⟩
          rw [← hM] at hk hm
          unfold lvv at hO
          rw [← hM] at hO
          obtain ⟨P, hP⟩ : ∃ P : Nat, P = m + 1 := ⟨_, rfl⟩
          rw [← hP] at hO
          have hPi : (m : Int) + 1 = (P : Int) := by omega
          have hmP : (m : Int) < (P : Int) := by omega
          have hm3 := hk.1
          have M : Hid (m = ls[p]!.length ∧ P = m + 1 ∧ Rd wr (.slice (some ⟨gs p, 0, none⟩) m P) ls[p]!) := ⟨hM, hP, by have := hL.rd (by omega); rw [hP, hM]; exact this⟩
          obtain ⟨k0, k1, k2⟩ := hk
          obtain ⟨a1, c1, rfl⟩ := hform
          have RD : Hid (Rd wr (.slice a1 m c1) ls[p]!) := hrd
          clear hM hP hL hrd
          have hne := mk_ne
          go_wp2
          go_quiet (fail)
          go_wp2
          have GQ : Gr wr (wr.drewN nq) := below_drewN (Below.refl _ _) _
          have s0 := five_call (Below.refl _ _).drew (five_call GQ ⟨Below.refl _ _, hO, hcell, k0, k1, k2⟩)
          have hml : ls[p]!.length ≤ 4000 := by have := M.out.1; omega
          have SS : Hid (∀ w1, Gr wr w1 → Calls Try.prog 19 #[.slice (some ⟨gs p, 0, none⟩) m P, .slice a1 m c1] w1 fun e w' => e = .returned (.bool true) ∧ Gr w1 w') := fun w1 g => same_self M.out.2.2 RD.out hml g
          clear RD hml GQ
          generalize wr.drewN nq = W at s0 ⊢
          go_region_held3 (fun w' => Gr wr w' ∧ w'.cell? ⟨g5, p, none⟩ = some (.slice (some ⟨gs p, 0, none⟩) m P) ∧ w'.cell? ⟨b, o + p, none⟩ = some (.slice a1 m c1) ∧ w'.cell? ⟨gs p, m * 3, none⟩ = some (.int .i64 (-7)) ∧ w'.cell? ⟨gs p, m * 3 + 1, none⟩ = some (.int .u64 0) ∧ w'.cell? ⟨gs p, m * 3 + 2, none⟩ = some (.int .u64 7))
            (first | (with_reducible exact five_call (by assumption) (by assumption)) | (with_reducible assumption) | (with_reducible exact s0))
            (first
              | (go_at_call 22; refine (hit_c _ _ _).mono ?_; rintro e z1 ⟨rfl, y1⟩)
              | (go_at_call 19; with_reducible refine (SS.out _ (And.left (by assumption))).mono ?_; rintro e z1 ⟨rfl, y1⟩))
          obtain ⟨gz, cO, _⟩ : Gr wr z1 ∧ z1.cell? ⟨g5, p, none⟩ = some (.slice (some ⟨gs p, 0, none⟩) m P) ∧ _ := by assumption
          have O1 : Hid (Ow w0 z1 ls p q gs (.slice (some ⟨g5, 0, none⟩) q c5) u6 ∧ Gt z1 q gs (.slice ag d.size cg) d) := ⟨O.out.1.gr gz, O.out.2.gr gz⟩
          have hsp : Calls Try.prog 20 #[.slice (some ⟨gs p, 0, none⟩) m P] z1 fun e w' => e = .returned (.tuple #[]) ∧ Kp (fun b => some b = some (gs p)) z1 w' := by
            have h1 := spoil_out ((O1.out.1.lh p (Nat.le_refl _) hpq).own (by have := M.out.1; omega))
            rw [M.out.2.1, M.out.1]; exact h1
          clear s0 hO hcell hm3 k0 k1 k2 gz y1 SS O hne
          go_wp2_with fail
          refine hsp.mono ?_
          rintro e w3 ⟨rfl, kp⟩
          have O2 : Hid (Ow w0 w3 ls (p + 1) q gs (.slice (some ⟨g5, 0, none⟩) q c5) u6 ∧ Gt w3 q gs (.slice ag d.size cg) d) := ⟨O1.out.1.spoil hpq kp, O1.out.2.spoil hpq kp⟩
          clear hsp O1 kp cO
          go_wp2
          go_roundw
          case rel => exact ⟨p + 1, by go_num, hpq, O2⟩
          case measure => simp [intOf]; omega
        · have hpi : ¬ (p : Int) < q := by omega
          obtain rfl : p = q := by omega
          clear hpq
          by_cases k1 : k < 1
          · obtain ⟨rfl, rfl⟩ := K.out.2 (.inl k1)
            have GG : Hid (Gr w0 wr) := O.out.1.gb
            rw [Array.size_empty]
            clear K S1 O
            go_wp2_with fail
            refine (awake_any _).mono ?_
            rintro e w4 ⟨rfl, g4⟩
            go_wp2
            go_ret
            exact ⟨rfl, gr_trans GG.out g4⟩
          by_cases k2 : 64 < k
          · obtain ⟨rfl, rfl⟩ := K.out.2 (.inr k2)
            have GG : Hid (Gr w0 wr) := O.out.1.gb
            rw [Array.size_empty]
            clear K S1 O
            go_wp2_with fail
            refine (awake_any _).mono ?_
            rintro e w4 ⟨rfl, g4⟩
            go_wp2
            go_ret
            exact ⟨rfl, gr_trans GG.out g4⟩
          obtain ⟨rfl, hd⟩ := K.out.1 (by omega) (by omega)
          obtain ⟨k', rfl⟩ := Int.eq_ofNat_of_zero_le (show 0 ≤ k by omega)
          have hd2 : Hid (d.toList = firsts k' ls.flatten) := by unfold Hid; simpa only [Int.toNat_natCast] using hd
          clear hd K S1
          go_wp2_with fail
          refine (awake_any _).mono ?_
          rintro e w4 ⟨rfl, g4⟩
          have O4 : Hid (Ow w0 w4 ls p p gs (.slice a5 p c5) u6 ∧ Gt w4 p gs (.slice ag d.size cg) d) := ⟨O.out.1.gr g4, O.out.2.gr g4⟩
          clear O g4
          go_wp2_with fail
          have ho : Own w4 u6 ls.flatten.toArray := by have h := O4.out.1; rw [N.out] at h; exact h.ownAll
          refine (first_c ho (by have := HL.out.2; have e : ls.flatten.toArray.size = tot ls := by simp [tot]
                                 omega) k' (by omega)).mono ?_
          rintro e w5 ⟨v5, rfl, o5⟩
          have hsm : Calls Try.prog 19 #[.slice ag d.size cg, v5] w5 fun e w' => e = .returned (.bool true) ∧ Gr w5 w' := by
            have h1 := (own_rd O4.out.2.1).gr o5.2.1
            have h2 := own_rd o5.1
            rw [hd2.out] at h1
            refine same_self h1 h2 ?_ (Below.refl _ _)
            have h3 := firsts_len k' ls.flatten
            omega
          have G5 : Hid (Gr w0 w5) := gr_trans O4.out.1.gb o5.2.1
          clear ho o5 O4
          go_wp2_with fail
          refine hsm.mono ?_
          rintro e w6 ⟨rfl, g6⟩
          go_wp2
          go_ret
          exact ⟨rfl, gr_trans G5.out g6⟩

end Go.Proofs.Ytfefojgncemohaa
