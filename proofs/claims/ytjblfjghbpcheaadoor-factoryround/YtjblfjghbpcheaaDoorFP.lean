/- factory.read and Parse. -/
import Derived.Test.YtjblfjghbpcheaaDoorFSpR
import Derived.Laws.EntriesVeiled
namespace Go.Proofs.YtjblfjghbpcheaaDoor
open Go.Shelf Go.RowKit

theorem al_new (w : World) (o : Obj) : (w.alloc o).heap[w.heap.size]? = some o := heap_alloc_new w o
theorem al_old {w : World} {i : Nat} {x : Obj} (h : w.heap[i]? = some x) (o : Obj) : (w.alloc o).heap[i]? = some x :=
  (Lib.alloc_old w o i (Array.getElem?_eq_some_iff.1 h).1).trans h
theorem al_new1 (w : World) (o o' : Obj) : ((w.alloc o).alloc o').heap[w.heap.size + 1]? = some o' := by
  have := al_new (w.alloc o) o'
  simpa using this
theorem al_new2 (w : World) (o o' o2 : Obj) : (((w.alloc o).alloc o').alloc o2).heap[w.heap.size + 1 + 1]? = some o2 := by
  have := al_new ((w.alloc o).alloc o') o2
  simpa using this
theorem al_new3 (w : World) (o o' o2 o3 : Obj) : ((((w.alloc o).alloc o').alloc o2).alloc o3).heap[w.heap.size + 1 + 1 + 1]? = some o3 := by
  have := al_new (((w.alloc o).alloc o').alloc o2) o3
  simpa using this
theorem ErrV.two {w : World} (h : ErrV w) : 2 ≤ w.heap.size := by
  obtain ⟨⟨a, d, e1⟩, ⟨f, g, e2⟩⟩ := h
  have l1 : 0 < w.heap.size := World.block_lt_of_cell? _ _ e1
  have l2 : 1 < w.heap.size := World.block_lt_of_cell? _ _ e2
  omega
theorem spellR_c (k : Int) (hk : 1 ≤ k ∧ k ≤ 6) (bt bc bf : Nat) (t : Bs) (w : World) (I0 : SpI bt bc bf w k 0 0 0 (t, true) ((w.alloc (.cells #[.int .i64 k, .int .i64 0, .int .i64 0, .int .i64 0] 24)).alloc (.cells #[.int .i64 0, .int .i64 0, .int .i64 0, .int .i64 0] 24))) :
    Calls Tryd.prog 27 #[Sp k 0 0 0, .func (.func 21) #[] #[.pointer (some ⟨bt, 0, none⟩), .pointer (some ⟨bc, 0, none⟩)], .func (.func 23) #[] #[.pointer (some ⟨bt, 0, none⟩), .pointer (some ⟨bc, 0, none⟩), .pointer (some ⟨bf, 0, none⟩)]] w
      fun e w' => e = .returned (Sp k (rdK k t).1.1 (rdK k t).1.2.1 (rdK k t).1.2.2) ∧ RdAt bt bc (rdK k t).2 w' ∧ Kp2 bt bc w w' := by
  have hc : k = 1 ∨ k = 2 ∨ k = 3 ∨ k = 4 ∨ k = 5 ∨ k = 6 := by omega
  rcases hc with rfl | rfl | rfl | rfl | rfl | rfl
  · exact spellR_1 bt bc bf t w I0
  · exact spellR_2 bt bc bf t w I0
  · exact spellR_3 bt bc bf t w I0
  · exact spellR_4 bt bc bf t w I0
  · exact spellR_5 bt bc bf t w I0
  · exact spellR_6 bt bc bf t w I0
/-- The world in which read calls spell. -/
abbrev rdW (t : Bs) (w : World) : World :=
  (((w.alloc (.cells #[Str t] 9)).alloc (.cells #[.int .i64 0, .int .i64 0, .int .i64 0, .int .i64 0] 24)).alloc (.cells #[.bool true] 4)).alloc (.cells #[.func (.func 21) #[] #[.pointer (some ⟨w.heap.size, 0, none⟩), .pointer (some ⟨w.heap.size + 1 + 1, 0, none⟩)]] 47)
theorem rdW_at (t : Bs) (w : World) : (rdW t w).heap[w.heap.size]? = some (.cells #[Str t] 9 (0, 0)) ∧ (rdW t w).heap[w.heap.size + 1]? = some (SpC 0 0 0 0) ∧ (rdW t w).heap[w.heap.size + 1 + 1]? = some (.cells #[.bool true] 4 (0, 0))
    ∧ (rdW t w).heap[w.heap.size + 1 + 1 + 1]? = some (.cells #[.func (.func 21) #[] #[.pointer (some ⟨w.heap.size, 0, none⟩), .pointer (some ⟨w.heap.size + 1 + 1, 0, none⟩)]] 47 (0, 0)) ∧ (rdW t w).heap.size = w.heap.size + 1 + 1 + 1 + 1 := by
  exact ⟨al_old (al_old (al_old (al_new _ _) _) _) _, al_old (al_old (al_new1 _ _ _) _) _, al_old (al_new2 _ _ _ _) _, al_new3 _ _ _ _ _, by simp⟩
theorem rdW_below (t : Bs) (w : World) : Below w.heap.size w (rdW t w) :=
  (((Below.refl _ w).alloc (Nat.le_refl _) _ |>.alloc (by simp) _).alloc (by simp; omega) _).alloc (by simp; omega) _
theorem spI_start (k : Int) (t : Bs) (w : World) (hE : ErrV w) (hl : t.length ≤ 65536) : SpI w.heap.size (w.heap.size + 1 + 1) (w.heap.size + 1 + 1 + 1) (rdW t w) k 0 0 0 (t, true)
    (((rdW t w).alloc (.cells #[.int .i64 k, .int .i64 0, .int .i64 0, .int .i64 0] 24)).alloc (.cells #[.int .i64 0, .int .i64 0, .int .i64 0, .int .i64 0] 24)) := by
  have h2 := hE.two
  obtain ⟨a1, a2, a3, a4, a5⟩ := rdW_at t w
  have g0 : Below w.heap.size w (rdW t w) := rdW_below t w
  generalize rdW t w = W at *
  have g1 : Below W.heap.size W ((W.alloc (.cells #[.int .i64 k, .int .i64 0, .int .i64 0, .int .i64 0] 24)).alloc (.cells #[.int .i64 0, .int .i64 0, .int .i64 0, .int .i64 0] 24)) :=
    ((Below.refl _ W).alloc (Nat.le_refl _) _).alloc (by simp) _
  have q : ∀ i o, W.heap[i]? = some o → ((W.alloc (.cells #[.int .i64 k, .int .i64 0, .int .i64 0, .int .i64 0] 24)).alloc (.cells #[.int .i64 0, .int .i64 0, .int .i64 0, .int .i64 0] 24)).heap[i]? = some o :=
    fun i o hi => (g1.block i (Array.getElem?_eq_some_iff.1 hi).1).trans hi
  refine ⟨h2, by omega, by omega, by omega, by omega, by omega, by omega, ⟨q _ _ a1, q _ _ a3, hl⟩, Kp2.of g1, ?_, ?_, q _ _ a4, (hE.below (Nat.le_refl _) g0).below (Nat.le_refl _) g1⟩
  · exact al_old (al_new _ _) _
  · exact al_new1 _ _ _

set_option maxHeartbeats 1000000 in
/-- read: the numbers, and whether the text is one of that kind. -/
theorem read_c (t : Bs) (k : Int) (hk : 1 ≤ k ∧ k ≤ 6) (w : World) (hE : ErrV w) (hl : t.length ≤ 65536) :
    Calls Tryd.prog 13 #[Str t, .int .i64 k] w fun e w' => e = .returned (.tuple #[Sp k (rdK k t).1.1 (rdK k t).1.2.1 (rdK k t).1.2.2, .bool (whl (rdK k t).2)]) ∧ Below w.heap.size w w' := by
  have S := spellR_c k hk w.heap.size (w.heap.size + 1 + 1) (w.heap.size + 1 + 1 + 1) t (rdW t w) (spI_start k t w hE hl)
  obtain ⟨a1, a2, a3, a4, a5⟩ := rdW_at t w
  have g0 : Below w.heap.size w (rdW t w) := rdW_below t w
  generalize hv : (rdK k t).1.1 = v1 at *
  generalize hv2 : (rdK k t).1.2.1 = v2 at *
  generalize hv3 : (rdK k t).1.2.2 = v3 at *
  generalize hst : (rdK k t).2 = st at *
  clear hv hv2 hv3 hst
  obtain ⟨r, b⟩ := st
  go_enter Tryd.func13, Tryd.ntmps13
  go_wp2_with fail
  refine S.mono ?_
  rintro e w5 ⟨rfl, hr, hkp⟩
  have hres : w5.heap[w.heap.size + 1]? = some (SpC 0 0 0 0) := (hkp.blk _ (by omega) (by omega) (by omega)).trans a2
  obtain ⟨c1, c2, c3, c4⟩ := hr.cells
  obtain ⟨⟨z0, z1, z2, z3⟩, ⟨u0, u1, u2, u3⟩⟩ := box_cells hres
  have hsz : w.heap.size + 1 + 1 + 1 + 1 ≤ w5.heap.size := by have := hkp.size; omega
  have gb : Below w.heap.size w w5 := g0.trans (hkp.below (Nat.le_refl _) (by omega) (by omega))
  clear S a1 a2 a3 a4 hkp
  have q : ∀ {p : Addr} {v : Value}, w5.cell? p = some v → ∀ o, (w5.alloc o).cell? p = some v := fun h o => (World.cell?_alloc_lt _ _ _ (World.block_lt_of_cell? _ _ h)).trans h
  have c1 := q c1
  have c2 := q c2
  have z0' := q z0
  have z1' := q z1
  have z2' := q z2
  have z3' := q z3
  have Lt : w.heap.size + 1 < w5.heap.size := by omega
  have c1' : ∀ o, (((((w5.setCell ⟨w.heap.size + 1, 0, none⟩ (.int .i64 k)).setCell ⟨w.heap.size + 1, 1, none⟩ (.int .i64 v1)).setCell ⟨w.heap.size + 1, 2, none⟩ (.int .i64 v2)).setCell ⟨w.heap.size + 1, 3, none⟩ (.int .i64 v3)).alloc o).cell? ⟨w.heap.size, 0, none⟩ = some (Str r) := fun o => by
    rw [World.cell?_alloc_lt _ _ _ (by simp [World.setCell]; omega), World.cell?_setCell_far _ _ _ _ (by simp), World.cell?_setCell_far _ _ _ _ (by simp), World.cell?_setCell_far _ _ _ _ (by simp), World.cell?_setCell_far _ _ _ _ (by simp)]
    exact hr.cells.1
  clear q
  cases b <;>
  · go_wp2
    go_region
    go_wp2
    have hA := al_old (ans_end (a0 := k) (a1 := v1) (a2 := v2) (a3 := v3) hres) (.cells #[.int .i64 k, .int .i64 v1, .int .i64 v2, .int .i64 v3] 24)
    obtain ⟨⟨x0, x1, x2, x3⟩, _⟩ := box_cells hA
    refine bodyPost_ret (v := .tuple #[Sp k v1 v2 v3, .bool (whl (r, _))]) (by simp [results, Tryd.results13, go_sem, x0, x1, x2, x3, whl]) rfl ⟨rfl, ?_⟩
    exact (((((gb.setCell (p := ⟨w.heap.size + 1, 0, none⟩) (Nat.le_succ _) _).setCell (p := ⟨w.heap.size + 1, 1, none⟩) (Nat.le_succ _) _).setCell (p := ⟨w.heap.size + 1, 2, none⟩) (Nat.le_succ _) _).setCell (p := ⟨w.heap.size + 1, 3, none⟩) (Nat.le_succ _) _).alloc (by simp [World.setCell]; omega) _).drew

theorem parF_step (f : Nat) (k : Int) (t : Bs) : parF (f + 1) k t = match formK k t with
    | some v => endP k v
    | none => parF f (k + 1) t := rfl

set_option maxHeartbeats 2000000 in
/-- P12.2. -/
theorem parse_c (t : Bs) (w : World) (hE : ErrV w) (hl : t.length ≤ 65536) :
    Calls Tryd.prog 6 #[Str t] w fun e w' => e = .returned (.tuple #[Sp (parV t).1.1 (parV t).1.2.1 (parV t).1.2.2.1 (parV t).1.2.2.2, .int .i64 (parV t).2]) ∧ Below w.heap.size w w' := by
  have G0 : Below w.heap.size w (w.alloc (.cells #[.int .i64 0, .int .i64 0, .int .i64 0, .int .i64 0] 24)) := (Below.refl _ w).alloc (Nat.le_refl _) _
  have A0 : (w.alloc (.cells #[.int .i64 0, .int .i64 0, .int .i64 0, .int .i64 0] 24)).heap[w.heap.size]? = some (SpC 0 0 0 0) := al_new _ _
  go_enter Tryd.func6, Tryd.ntmps6
  go_wp2
  go_loopw [4] (fun i W0 => ∃ (W : World) (_ : W = W0) (f : Nat) (k : Int), i = .int .i64 k ∧ k + (f : Int) = 7 ∧ 1 ≤ k ∧ Hid (parV t = parF f k t ∧ Below w.heap.size w W ∧ W.heap[w.heap.size]? = some (SpC 0 0 0 0))) (fun i _ => (7 - intOf i).toNat)
  case atStart => exact ⟨_, rfl, 6, 1, rfl, by omega, by omega, rfl, G0, A0⟩
  case round =>
    obtain ⟨W, hW, f, k, rfl, hf, h1, H⟩ := hrel
    subst hW
    clear G0 A0
    obtain ⟨⟨z0, z1, z2, z3⟩, ⟨u0, u1, u2, u3⟩⟩ := box_cells H.out.2.2
    have Lw : w.heap.size < W.heap.size := (Array.getElem?_eq_some_iff.1 H.out.2.2).1
    by_cases h6 : k ≤ 6
    · obtain ⟨g, rfl⟩ : ∃ g, f = g + 1 := ⟨f - 1, by omega⟩
      have hEW : ErrV W := hE.below (Nat.le_refl _) H.out.2.1
      have R := read_c t k ⟨h1, h6⟩ W hEW hl
      have F := rd_form k ⟨h1, h6⟩ t
      have PS := H.out.1
      rw [parF_step] at PS
      cases hF : formK k t with
      | none =>
        rw [hF] at F PS
        simp only at F PS
        rw [F] at R
        generalize (rdK k t).1.1 = v1 at *
        generalize (rdK k t).1.2.1 = v2 at *
        generalize (rdK k t).1.2.2 = v3 at *
        have PS' : Hid (parV t = parF g (k + 1) t) := PS
        clear PS F hF
        go_wp2_with fail
        refine R.mono ?_
        rintro e W1 ⟨rfl, b1⟩
        have H2 : Hid (Below w.heap.size w (W1.alloc (.cells #[.int .i64 k, .int .i64 v1, .int .i64 v2, .int .i64 v3] 24)) ∧ (W1.alloc (.cells #[.int .i64 k, .int .i64 v1, .int .i64 v2, .int .i64 v3] 24)).heap[w.heap.size]? = some (SpC 0 0 0 0)) :=
          ⟨(H.out.2.1.trans (b1.mono H.out.2.1.size)).alloc (by have := b1.size; omega) _, al_old ((b1.block _ Lw).trans H.out.2.2) _⟩
        go_wp2
        go_roundw
        case rel => exact ⟨_, rfl, g, k + 1, by go_num, by omega, by omega, PS'.out, H2.out.1, H2.out.2⟩
        case measure => simp [intOf]; omega
      | some v =>
        obtain ⟨v1, v2, v3⟩ := v
        rw [hF] at F PS
        simp only at F PS
        obtain ⟨F1, F2⟩ := F
        rw [F1, F2] at R
        simp only at R
        have C := check_c k v1 v2 v3
        have PS' : Hid (parV t = endP k (v1, v2, v3)) := PS
        clear PS F1 F2 hF
        by_cases hz : chkV k v1 v2 v3 = 0
        · have PE : Hid (parV t = ((k, v1, v2, v3), 0)) := by unfold Hid; rw [PS'.out]; simp [endP, hz]
          rw [hz] at C
          clear PS' hz
          go_wp2_with fail
          refine R.mono ?_
          rintro e W1 ⟨rfl, b1⟩
          have L1 : w.heap.size < W1.heap.size := by have := b1.size; omega
          have gB : Below w.heap.size w W1 := H.out.2.1.trans (b1.mono H.out.2.1.size)
          have hR1 : W1.heap[w.heap.size]? = some (SpC 0 0 0 0) := (b1.block _ Lw).trans H.out.2.2
          obtain ⟨⟨q0, q1, q2, q3⟩, ⟨p0, p1, p2, p3⟩⟩ := box_cells hR1
          clear z0 z1 z2 z3 u0 u1 u2 u3 H b1
          go_wp2_with fail
          refine (C _).mono ?_
          rintro e W2 ⟨rfl, rfl⟩
          go_wp2
          have hA := al_old (al_old (ans_end (a0 := k) (a1 := v1) (a2 := v2) (a3 := v3) hR1) (.cells #[.int .i64 k, .int .i64 v1, .int .i64 v2, .int .i64 v3] 24)) (.cells #[.int .i64 k, .int .i64 v1, .int .i64 v2, .int .i64 v3] 24)
          obtain ⟨⟨x0, x1, x2, x3⟩, _⟩ := box_cells hA
          refine bodyPost_ret (v := .tuple #[Sp k v1 v2 v3, .int .i64 0]) (by simp [results, Tryd.results6, go_sem, x0, x1, x2, x3]) rfl ?_
          rw [PE.out]
          exact ⟨rfl, (((((gB.setCell (p := ⟨w.heap.size, 0, none⟩) (Nat.le_refl _) _).setCell (p := ⟨w.heap.size, 1, none⟩) (Nat.le_refl _) _).setCell (p := ⟨w.heap.size, 2, none⟩) (Nat.le_refl _) _).setCell (p := ⟨w.heap.size, 3, none⟩) (Nat.le_refl _) _).alloc (by simp [World.setCell]; omega) _).alloc (by simp [World.setCell]; omega) _⟩
        · have PE : Hid (parV t = ((0, 0, 0, 0), chkV k v1 v2 v3)) := by unfold Hid; rw [PS'.out]; simp [endP, hz]
          have hb : (chkV k v1 v2 v3 == 0) = false := by simpa using hz
          clear PS'
          generalize chkV k v1 v2 v3 = z at *
          clear hz
          go_wp2_with fail
          refine R.mono ?_
          rintro e W1 ⟨rfl, b1⟩
          have L1 : w.heap.size < W1.heap.size := by have := b1.size; omega
          have gB : Below w.heap.size w W1 := H.out.2.1.trans (b1.mono H.out.2.1.size)
          have hR1 : W1.heap[w.heap.size]? = some (SpC 0 0 0 0) := (b1.block _ Lw).trans H.out.2.2
          obtain ⟨⟨q0, q1, q2, q3⟩, ⟨p0, p1, p2, p3⟩⟩ := box_cells hR1
          clear z0 z1 z2 z3 u0 u1 u2 u3 H b1
          go_wp2_with fail
          refine (C _).mono ?_
          rintro e W2 ⟨rfl, rfl⟩
          go_wp2
          have hA := al_old (al_old (ans_end (a0 := 0) (a1 := 0) (a2 := 0) (a3 := 0) hR1) (.cells #[.int .i64 k, .int .i64 v1, .int .i64 v2, .int .i64 v3] 24)) (.cells #[.int .i64 k, .int .i64 v1, .int .i64 v2, .int .i64 v3] 24)
          obtain ⟨⟨x0, x1, x2, x3⟩, _⟩ := box_cells hA
          refine bodyPost_ret (v := .tuple #[Sp 0 0 0 0, .int .i64 z]) (by simp [results, Tryd.results6, go_sem, x0, x1, x2, x3]) rfl ?_
          rw [PE.out]
          exact ⟨rfl, (((((gB.setCell (p := ⟨w.heap.size, 0, none⟩) (Nat.le_refl _) _).setCell (p := ⟨w.heap.size, 1, none⟩) (Nat.le_refl _) _).setCell (p := ⟨w.heap.size, 2, none⟩) (Nat.le_refl _) _).setCell (p := ⟨w.heap.size, 3, none⟩) (Nat.le_refl _) _).alloc (by simp [World.setCell]; omega) _).alloc (by simp [World.setCell]; omega) _⟩
    · obtain rfl : k = 7 := by omega
      obtain rfl : f = 0 := by omega
      have PE : Hid (parV t = ((0, 0, 0, 0), 120)) := H.out.1
      go_wp2
      have hA := ans_end (a0 := 0) (a1 := 0) (a2 := 0) (a3 := 0) H.out.2.2
      obtain ⟨⟨x0, x1, x2, x3⟩, _⟩ := box_cells hA
      refine bodyPost_ret (v := .tuple #[Sp 0 0 0 0, .int .i64 120]) (by simp [results, Tryd.results6, go_sem, x0, x1, x2, x3]) rfl ?_
      rw [PE.out]
      exact ⟨rfl, (((H.out.2.1.setCell (p := ⟨w.heap.size, 0, none⟩) (Nat.le_refl _) _).setCell (p := ⟨w.heap.size, 1, none⟩) (Nat.le_refl _) _).setCell (p := ⟨w.heap.size, 2, none⟩) (Nat.le_refl _) _).setCell (p := ⟨w.heap.size, 3, none⟩) (Nat.le_refl _) _⟩

end Go.Proofs.YtjblfjghbpcheaaDoor
