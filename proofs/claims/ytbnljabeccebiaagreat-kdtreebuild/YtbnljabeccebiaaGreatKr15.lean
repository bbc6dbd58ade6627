import Derived.Test.YtbnljabeccebiaaGreatKr14
import Derived.Test.YtbnljabeccebiaaGreatKr13
import Derived.Maps.AppendAt
/- kdtree.copies: rows in memory of their own. -/
namespace Go.Proofs.YtbnljabeccebiaaGreat
open Go.RowKit Go.Sort Go.Maps

/-- An append in a region that draws, by its run. -/
theorem app_run {o : Oper} {a : Act} {w : World} {K : Act → World → Prop} {Q : Exit → Act → World → Prop} (_hgd : o.guard = none) (s x : Operand) (t : TypeId)
    (ho : o.op = .call { callee := .builtin .append, args := #[s, x], argTypes := #[t, t] }) (h : ∃ v1 v2 v' w', a.eval s = v1 ∧ a.eval x = v2 ∧ (Builtin.append_ #[t, t] o.type #[v1, v2]).run Tryz.prog w = .ok v' w' ∧ K (a.put o.dst v') w') :
    Oper.wp Tryz.prog o a w K Q := by
  obtain ⟨v1, v2, v', w', hs, hx, hr, h⟩ := h
  unfold Oper.wp execOp
  simp only [ho, resolve, invoke, builtin, Sem.run_bind, Sem.run_pure, Result.andThen_ok, List.map_toArray, List.map_cons, List.map_nil, hs, hx, hr]
  exact h

/-- Rows that the call owns, in blocks from B on, their vectors too. -/
def OwnC (W : World) (B : Nat) (v : Value) (rs : List Rw) : Prop := v ≠ .slice none 0 0 ∧ ∃ xs, W.ownsRow B 43 2 v rs.length xs ∧ ∀ i, i < rs.length → xs[i * 2]? = some (.int .i64 rs[i]!.1) ∧ ∃ u, xs[i * 2 + 1]? = some u ∧ Own W B u rs[i]!.2
theorem OwnC.gb {W W' : World} {B : Nat} {v : Value} {rs : List Rw} (h : OwnC W B v rs) (g : Gb W W') : OwnC W' B v rs := by
  obtain ⟨hn, xs, h1, h2⟩ := h
  refine ⟨hn, xs, h1.kept (row := none) ⟨g.os, g.tape, g.output, g.size, fun k hk _ => g.block k hk⟩ (by cases hv : v.ownBlock <;> simp), fun i hi => ?_⟩
  obtain ⟨a, u, b, c⟩ := h2 i hi
  exact ⟨a, u, b, c.gb g⟩
theorem OwnC.form {W : World} {B : Nat} {v : Value} {rs : List Rw} (h : OwnC W B v rs) : ∃ g cap, v = .slice (some ⟨g, 0, none⟩) rs.length cap := by
  obtain ⟨hn, xs, h, _⟩ := h
  rcases h.2 with ⟨e, h0⟩ | ⟨b, cap, cur, rfl, _⟩
  · exact absurd e hn
  · exact ⟨_, cap, rfl⟩
theorem OwnC.ownW {W : World} {B : Nat} {v : Value} {rs : List Rw} (h : OwnC W B v rs) : OwnW W W B v rs := by
  obtain ⟨_, xs, h1, h2⟩ := h
  refine ⟨xs, h1, fun i hi => ?_⟩
  obtain ⟨a, u, b, c⟩ := h2 i hi
  exact ⟨a, u, b, c.rd⟩
theorem OwnC.rdw {W : World} {B : Nat} {v : Value} {rs : List Rw} (h : OwnC W B v rs) : RdW W v rs := h.ownW.rdw (Below.refl _ _)
theorem own_neR {W : World} {B B' n : Nat} {u v : Value} {x : List Int} {xs : List Value} (h : Own W B u x) (r : W.ownsRow B' 43 2 v n xs) : u.ownBlock = none ∨ u.ownBlock ≠ v.ownBlock := by
  rcases h.2 with ⟨rfl, _⟩ | ⟨g, cap, cur, rfl, _, hh, _⟩
  · exact .inl rfl
  · refine .inr fun e => ?_
    rcases r.2 with ⟨rfl, _⟩ | ⟨g', cap', cur', rfl, _, hh', _⟩
    · cases e
    · cases e
      rw [hh] at hh'
      simp at hh'
theorem grown_cellC {W W' : World} {row : Option Nat} (h : W.grownBy W' row) {p : Addr} {v : Value} (hc : W.cell? p = some v) (hne : row ≠ some p.block) : W'.cell? p = some v := by
  rw [World.cell?_of_block (h.block p.block (World.block_lt_of_cell? W p hc) (fun e => hne e.symm))]; exact hc
/-- One more row. -/
theorem OwnC.next {w W : World} {pv : Option Addr} {nv cv : Nat} {rs : List Rw} {x : Int} {l : List Int} {u : Value} (h : OwnC W w.heap.size (.slice pv nv cv) rs) (hn : rs.length ≤ 4000) (g : Gb w W) (ho : Own W w.heap.size u l) :
    ∃ v' W', (Builtin.append_ #[22, 22] 22 #[.slice pv nv cv, .slice (some ⟨W.heap.size, 0, none⟩) 1 1]).run Tryz.prog (W.alloc (.cells #[.int .i64 x, u] 43)) = .ok v' W' ∧ OwnC W' w.heap.size v' (rs ++ [(x, l)]) ∧ Gb w W' ∧ ∀ (p : Addr) (y : Value), (Value.slice pv nv cv).ownBlock ≠ some p.block → (W.alloc (.cells #[.int .i64 x, u] 43)).cell? p = some y → W'.cell? p = some y := by
  obtain ⟨_, xs, h1, h2⟩ := h
  obtain ⟨i0, hi, hz0, hz1, hz2⟩ := info_partsW
  have hu : u.oneCell' = true := by obtain ⟨a, c, rfl, _⟩ := ho.rd; rfl
  obtain ⟨v', W', hr, hown, hgrow, hnn, _⟩ := run_append_own_at (P := Tryz.prog) (W.alloc (.cells #[.int .i64 x, u] 43)) w.heap.size 22 22 43 i0 (.agg #[.int .i64 0, .slice none 0 0]) 2 32 Tryz.underlying22 hi hz0 hz1 hz2 rfl (by decide)
    (.slice pv nv cv) rs.length xs (World.ownsRow.alloc h1 _) ⟨W.heap.size, 0, none⟩ 1 1 [.int .i64 x, u] rfl (two_cells _ _ _ _) (by simp [Value.oneCell']; try exact hu) (by simp only [maxLen]; omega) (by omega) (by rw [World.size_alloc]; have := g.size; omega)
  refine ⟨v', W', hr, ⟨fun e => absurd (hnn.1 e).2 (by decide), xs ++ [.int .i64 x, u], by rw [List.length_append]; exact hown, fun i hi => ?_⟩, ?_, fun p y hp hc => grown_cellC hgrow hc hp⟩
  · have kp : ∀ {u' : Value} {y : List Int}, Own W w.heap.size u' y → Own W' w.heap.size u' y := fun {u' y} ho' => (ho'.gb (gb_alloc (Below.refl _ _) _)).kept hgrow (own_neR ho' h1)
    rw [List.length_append] at hi
    by_cases e : i < rs.length
    · rw [getElem!_pos (rs ++ [(x, l)]) i (by rw [List.length_append]; exact hi), List.getElem_append_left e, ← getElem!_pos rs i e, List.getElem?_append_left (by have := h1.1; omega), List.getElem?_append_left (by have := h1.1; omega)]
      obtain ⟨a, u', b, c⟩ := h2 i e
      exact ⟨a, u', b, kp c⟩
    · have e' : i = rs.length := by simp at hi; omega
      subst e'
      have e2 : (rs ++ [(x, l)])[rs.length]! = (x, l) := by rw [getElem!_pos _ _ (by simp)]; simp
      have hl := h1.1
      rw [e2, List.getElem?_append_right (by omega), List.getElem?_append_right (by omega), hl]
      exact ⟨by simp, u, by rw [show rs.length * 2 + 1 - rs.length * 2 = 1 by omega]; rfl, kp ho⟩
  · refine below_grown (gb_alloc g _) hgrow (fun k e => ?_) (gb_alloc g _).size
    have := (h1.lt k e).1
    omega

set_option maxHeartbeats 1000000 in
set_option maxRecDepth 100000 in
theorem copies_c {w : World} {v : Value} {rs : List Rw} (h : RdW w v rs) (hn : rs.length ≤ 4000) (hv : ∀ i, i < rs.length → 1 ≤ rs[i]!.2.length ∧ rs[i]!.2.length ≤ 100000) :
    Calls Tryz.prog 46 #[v] w fun e w' => ∃ v', e = .returned v' ∧ OwnC w' w.heap.size v' rs ∧ Gb w w' := by
  have A : Hid (RdW w v rs) := h
  have VL : Hid (∀ i, i < rs.length → 1 ≤ rs[i]!.2.length ∧ rs[i]!.2.length ≤ 100000) := hv
  obtain ⟨a, cap, rfl, _⟩ := h
  obtain ⟨n, hN⟩ : ∃ n, n = rs.length := ⟨_, rfl⟩
  have N : Hid (n = rs.length) := hN
  rw [← hN] at A hn ⊢
  clear hN hv
  obtain ⟨i0, hi, hz0, hz1, hz2⟩ := info_partsW
  obtain ⟨w1, hmk, ho, hg⟩ := run_make_own (P := Tryz.prog) w w.heap.size 22 43 i0 (.agg #[.int .i64 0, .slice none 0 0]) 2 Tryz.underlying22 hi hz0 hz1 .i64 .i64 n (by rw [hz2]; omega) (by simp only [maxLen]; omega) (Nat.le_refl _)
  have O : Hid (OwnC w1 w.heap.size (.slice (some ⟨w.heap.size, 0, none⟩) 0 n) (rs.take 0) ∧ Gb w w1) := ⟨⟨by simp, [], ho, fun i hi => absurd hi (by simp)⟩, below_grown (Below.refl _ _) hg (fun k e => by cases e) (Nat.le_refl _)⟩
  clear hi hz0 hz1 hz2 ho hg
  go_enter Tryz.func46, Tryz.ntmps46
  go_wp2
  clear hmk
  go_loopw [3, 11] (fun ov iv W => ∃ q : Nat, iv = .int .i64 (q : Int) ∧ q ≤ n ∧ Hid (OwnC W w.heap.size ov (rs.take q) ∧ Gb w W)) (fun _ iv _ => n - (intOf iv).toNat)
  case atStart => exact ⟨0, rfl, Nat.zero_le _, O.out⟩
  case round =>
    clear O
    obtain ⟨q, rfl, hq, X⟩ := hrel
    by_cases hqn : q < n
    · have hqi : (q : Int) < (n : Int) := by omega
      have hql : q < rs.length := by have := N.out; omega
      obtain ⟨_, _, e1, hA⟩ := A.out
      obtain ⟨b, o, u, ea, k1, k2, k3⟩ := hA q hql
      injection e1 with e2 e3 e4
      subst e2
      subst ea
      have NX : Hid (rs.take (q + 1) = rs.take q ++ [(rs[q]!.1, rs[q]!.2)]) := by unfold Hid; rw [List.take_succ_eq_append_getElem hql, getElem!_pos rs q hql]
      have NL : Hid ((rs.take q).length = q) := by unfold Hid; rw [List.length_take]; omega
      have VB := VL.out q hql
      generalize rs[q]!.1 = x at *
      generalize rs[q]!.2 = V at *
      have x0 := gb_keeps X.out.2 k1
      have x1 := gb_keeps X.out.2 k2
      have G1 : Hid (Gb w (wr.alloc (.cells #[.int .i64 x, u] 43)).drew) := (gb_alloc X.out.2 _).drew
      have cC := clone_c (k3.gb G1.out) VB.2 VB.1
      obtain ⟨pu, cu, eu, _⟩ := k3
      subst eu
      obtain ⟨gv, cv, ev⟩ := X.out.1.form
      obtain ⟨pv, hpv⟩ : ∃ pv, pv = some (⟨gv, 0, none⟩ : Addr) := ⟨_, rfl⟩
      rw [← hpv] at ev
      subst ev
      rw [NL.out]
      have XO : Hid (OwnC wr w.heap.size (.slice pv q cv) (rs.take q)) := by unfold Hid; have := X.out.1; rwa [NL.out] at this
      obtain ⟨nu, hnu⟩ : ∃ nu, nu = V.length := ⟨_, rfl⟩
      rw [← hnu] at x1 G1 cC
      have FS0 : (wr.alloc (.cells #[.int .i64 x, .slice pu nu cu] 43)).drew.cell? ⟨wr.heap.size, 0, none⟩ = some (.int .i64 x) ∧ (wr.alloc (.cells #[.int .i64 x, .slice pu nu cu] 43)).drew.cell? ⟨wr.heap.size, 1, none⟩ = some (.slice pu nu cu) := ⟨by simp [go_sem], by simp [go_sem]⟩
      have FIN : Hid (∀ w4 u4, Gb (wr.alloc (.cells #[.int .i64 x, .slice pu nu cu] 43)).drew w4 → Own w4 (wr.alloc (.cells #[.int .i64 x, .slice pu nu cu] 43)).drew.heap.size u4 V →
          ∃ v' W', (Builtin.append_ #[22, 22] 22 #[.slice pv q cv, .slice (some ⟨w4.heap.size, 0, none⟩) 1 1]).run Tryz.prog (w4.alloc (.cells #[.int .i64 x, u4] 43)) = .ok v' W' ∧ (OwnC W' w.heap.size v' (rs.take (q + 1)) ∧ Gb w W') ∧ ∀ i y, (w4.alloc (.cells #[.int .i64 x, u4] 43)).cell? ⟨wr.heap.size, i, none⟩ = some y → W'.cell? ⟨wr.heap.size, i, none⟩ = some y) := by
        intro w4 u4 g4 o4
        rw [NX.out]
        obtain ⟨v', W', h1, h2, h3, h4⟩ := OwnC.next (x := x) (u := u4) (l := V) (XO.out.gb (gb_trans (Below.drew (gb_alloc (Below.refl _ _) _)) g4)) (by rw [NL.out]; omega) (gb_trans G1.out g4) (o4.mono G1.out.size)
        refine ⟨v', W', h1, ⟨h2, h3⟩, fun i y hy => h4 _ _ (fun e => ?_) hy⟩
        obtain ⟨_, xs, hx, _⟩ := XO.out
        have := (hx.lt _ e).2
        dsimp only at this
        omega
      have KX : Hid (1 ≤ V.length ∧ V.length ≤ 100000) := VB
      clear hA e3 e4 k1 k2 hql X XO VB hnu
      go_wp2_with fail
      refine wp_region_held_drew (S := fun W => W.cell? ⟨wr.heap.size, 0, none⟩ = some (.int .i64 x) ∧ W.cell? ⟨wr.heap.size, 1, none⟩ = some (.slice pu nu cu)) (by kernel_rfl) (FS0) (fun hHeld => ?_)
      refine wpAnyH_take (i := 0) (v := ?_) rfl (by kernel_rfl) (by kernel_rfl) (by kernel_rfl) (fun _ _ _ h => h) (Or.inl ⟨by rfl, ?_⟩) (by assumption) ?_
      rotate_left 1
      · (intro w hSw; (obtain ⟨s0, s1⟩ := hSw); go_simp; try with_reducible rfl)
      try simp only [Act.put, List.getElem_toArray, List.getElem_cons_zero, List.setIfInBounds_toArray, List.set_cons_zero, List.set_cons_succ]
      refine wpAnyH_take (i := 1) (v := ?_) rfl (by kernel_rfl) (by kernel_rfl) (by kernel_rfl) (fun _ _ _ h => h) (Or.inl ⟨by rfl, ?_⟩) (by assumption) ?_
      rotate_left 1
      · (intro w hSw; (obtain ⟨s0, s1⟩ := hSw); go_simp; try with_reducible rfl)
      try simp only [Act.put, List.getElem_toArray, List.getElem_cons_zero, List.getElem_cons_succ, List.setIfInBounds_toArray, List.set_cons_zero, List.set_cons_succ]
      refine wpAnyH_take (i := 2) (v := ?_) rfl (by kernel_rfl) (by kernel_rfl) (by kernel_rfl) (fun _ _ _ h => h) (Or.inl ⟨by rfl, ?_⟩) (by assumption) ?_
      rotate_left 1
      · (intro w hSw; (obtain ⟨s0, s1⟩ := hSw); go_simp; try with_reducible rfl)
      try simp only [Act.put, List.getElem_toArray, List.getElem_cons_zero, List.getElem_cons_succ, List.setIfInBounds_toArray, List.set_cons_zero, List.set_cons_succ]
      refine wpAnyH_take (i := 3) (v := ?_) rfl (by kernel_rfl) (by kernel_rfl) (by kernel_rfl) (fun _ _ _ h => h) (Or.inl ⟨by rfl, ?_⟩) (by assumption) ?_
      rotate_left 1
      · (intro w hSw; (obtain ⟨s0, s1⟩ := hSw); go_simp; try with_reducible rfl)
      try simp only [Act.put, List.getElem_toArray, List.getElem_cons_zero, List.getElem_cons_succ, List.setIfInBounds_toArray, List.set_cons_zero, List.set_cons_succ]
      refine wpAnyH_take (i := 4) (v := ?_) rfl (by kernel_rfl) (by kernel_rfl) (by kernel_rfl) (fun _ _ _ h => h) (Or.inl ⟨by rfl, ?_⟩) (by assumption) ?_
      rotate_left 1
      · (intro w hSw; (obtain ⟨s0, s1⟩ := hSw); go_simp; try with_reducible rfl)
      try simp only [Act.put, List.getElem_toArray, List.getElem_cons_zero, List.getElem_cons_succ, List.setIfInBounds_toArray, List.set_cons_zero, List.set_cons_succ]
      refine wpAnyH_ready (rs := [5]) (by kernel_rfl) (by simp) ?_
      refine AllReadyH.cons rfl (fun K hK => ?_) AllReadyH.nil
      go_simp
      go_fit cC
      rintro e w4 ⟨v4, rfl, o4, g4⟩
      obtain ⟨a4, c4, e4, _⟩ := o4.rd
      subst e4
      refine hK.out _ _ (⟨gb_keeps g4 hHeld.1, gb_keeps g4 hHeld.2⟩) (fun hHeld => ?_)
      clear hK K
      try simp only [Act.put, List.getElem_toArray, List.getElem_cons_zero, List.getElem_cons_succ, List.setIfInBounds_toArray, List.set_cons_zero, List.set_cons_succ]
      refine wpAnyH_take (i := 6) (v := ?_) rfl (by kernel_rfl) (by kernel_rfl) (by kernel_rfl) (fun _ _ _ h => h) (Or.inl ⟨by rfl, ?_⟩) (by assumption) ?_
      rotate_left 1
      · (intro w hSw; (obtain ⟨s0, s1⟩ := hSw); go_simp; try with_reducible rfl)
      try simp only [Act.put, List.getElem_toArray, List.getElem_cons_zero, List.getElem_cons_succ, List.setIfInBounds_toArray, List.set_cons_zero, List.set_cons_succ]
      have F4 := FIN.out w4 _ g4 o4
      obtain ⟨v5, w5, hrun, XN, S5⟩ := F4
      generalize V.length = nV at *
      clear o4 FIN
      refine wpAnyH_ready (rs := [7]) (by kernel_rfl) (by simp) ?_
      refine AllReadyH.cons rfl (fun K hK => ?_) AllReadyH.nil
      go_simp
      refine hK.out _ _ (⟨gb_keeps (gb_alloc (Below.refl _ _) _) hHeld.1, gb_keeps (gb_alloc (Below.refl _ _) _) hHeld.2⟩) (fun hHeld => ?_)
      clear hK K
      try simp only [Act.put, List.getElem_toArray, List.getElem_cons_zero, List.getElem_cons_succ, List.setIfInBounds_toArray, List.set_cons_zero, List.set_cons_succ]
      refine wpAnyH_ready (rs := [8]) (by kernel_rfl) (by simp) ?_
      refine AllReadyH.cons rfl (fun K hK => ?_) AllReadyH.nil
      refine app_run (by rfl) _ _ _ (by rfl) ⟨.slice pv q cv, .slice (some ⟨w4.heap.size, 0, none⟩) 1 1, _, _, (by go_simp), (by go_simp), hrun, ?_⟩
      refine hK.out _ _ ⟨S5 _ _ hHeld.1, S5 _ _ hHeld.2⟩ (fun hHeld => ?_)
      clear hK K
      try simp only [Act.put, List.getElem_toArray, List.getElem_cons_zero, List.getElem_cons_succ, List.setIfInBounds_toArray, List.set_cons_zero, List.set_cons_succ]
      refine wpAnyH_take (i := 9) (v := ?_) rfl (by kernel_rfl) (by kernel_rfl) (by kernel_rfl) (fun _ _ _ h => h) (Or.inl ⟨by rfl, ?_⟩) (by assumption) ?_
      rotate_left 1
      · (intro w hSw; (obtain ⟨s0, s1⟩ := hSw); go_simp; try with_reducible rfl)
      try simp only [Act.put, List.getElem_toArray, List.getElem_cons_zero, List.getElem_cons_succ, List.setIfInBounds_toArray, List.set_cons_zero, List.set_cons_succ]
      refine wpAnyH_done (by kernel_rfl) ?_ _
      clear hrun hHeld S5
      go_wp2
      go_roundw
      case rel => exact ⟨q + 1, by first | rfl | go_num, hqn, XN⟩
      case measure => simp [intOf]; omega
    · have hqi : ¬ (q : Int) < (n : Int) := by omega
      have e : q = n := by omega
      subst e
      have XE : Hid (OwnC wr w.heap.size u3 rs ∧ Gb w wr) := by
        have := X.out
        rwa [List.take_of_length_le (by have := N.out; omega)] at this
      clear X
      go_wp2
      go_ret
      exact ⟨_, rfl, XE.out⟩
end Go.Proofs.YtbnljabeccebiaaGreat

/- A tree of parts in memory of its own. -/
namespace Go.Proofs.YtbnljabeccebiaaGreat
open Go.RowKit Go.Sort

theorem own_kpI {S : Nat → Prop} {w w' : World} {B : Nat} {v : Value} {l : List Int} (h : Own w B v l) (k : Tk.Kp S w w') (hn : ∀ g, v.ownBlock = some g → ¬ S g) : Own w' B v l := by
  refine ⟨h.1, ?_⟩
  rcases h.2 with h1 | ⟨g, cap, cur, e, hB, hh, r⟩
  · exact .inl h1
  · subst e
    exact .inr ⟨g, cap, cur, rfl, hB, by rw [k.block g (Array.getElem?_eq_some_iff.1 hh).1 (hn g rfl)]; exact hh, r⟩
theorem ownR_kp {S : Nat → Prop} {w w' : World} {B n : Nat} {v : Value} {xs : List Value} (h : w.ownsRow B 43 2 v n xs) (k : Tk.Kp S w w') (hn : ∀ g, v.ownBlock = some g → ¬ S g) : w'.ownsRow B 43 2 v n xs := by
  refine ⟨h.1, ?_⟩
  rcases h.2 with h1 | ⟨g, cap, cur, e, hB, hh, r⟩
  · exact .inl h1
  · subst e
    exact .inr ⟨g, cap, cur, rfl, hB, by rw [k.block g (Array.getElem?_eq_some_iff.1 hh).1 (hn g rfl)]; exact hh, r⟩
/-- What S tells is no block of numbers. -/
def NoInt (w : World) (S : Nat → Prop) : Prop := ∀ k, S k → ∀ cur s, w.heap[k]? ≠ some (.cells cur 3 s)
theorem own_noint {S : Nat → Prop} {w w' : World} {B : Nat} {v : Value} {l : List Int} (h : Own w B v l) (k : Tk.Kp S w w') (hS : NoInt w S) : Own w' B v l := by
  refine own_kpI h k (fun g hg hs => ?_)
  rcases h.2 with ⟨rfl, _⟩ | ⟨g', cap, cur, e, hB, hh, _⟩
  · cases hg
  · subst e
    cases hg
    exact hS _ hs _ _ hh

abbrev IqT : Nat → Prop := fun _ => True
/-- New blocks are among those that Iq tells. -/
def Up (Iq : Nat → Prop) (w : World) : Prop := ∀ k, w.heap.size ≤ k → Iq k
theorem upT (w : World) : Up IqT w := fun _ _ => trivial
theorem Up.le {Iq : Nat → Prop} {w w' : World} (h : Up Iq w) (s : w.heap.size ≤ w'.heap.size) : Up Iq w' := fun k hk => h k (Nat.le_trans s hk)
theorem Up.gb {Iq : Nat → Prop} {w w' : World} (h : Up Iq w) (g : Gb w w') : Up Iq w' := h.le g.size
/-- Numbers in a block that Iq tells. -/
structure OwnQ (Iq : Nat → Prop) (w : World) (v : Value) (l : List Int) : Prop where
  own : Own w 0 v l
  inn : ∀ g, v.ownBlock = some g → Iq g
theorem OwnQ.rd {Iq : Nat → Prop} {w : World} {v : Value} {l : List Int} (h : OwnQ Iq w v l) : RdI w v l := h.own.rd
theorem OwnQ.gb {Iq : Nat → Prop} {w w' : World} {v : Value} {l : List Int} (h : OwnQ Iq w v l) (g : Gb w w') : OwnQ Iq w' v l := ⟨h.own.gb g, h.inn⟩
theorem OwnQ.new {Iq : Nat → Prop} {w w' : World} {B : Nat} {v : Value} {l : List Int} (h : Own w' B v l) (up : Up Iq w) (hB : w.heap.size ≤ B) : OwnQ Iq w' v l := ⟨h.mono (Nat.zero_le _), fun g e => up g (Nat.le_trans hB (World.ownsRow.lt h g e).1)⟩
/-- What S tells is no block of numbers that Iq tells. -/
def NoI (Iq : Nat → Prop) (w : World) (S : Nat → Prop) : Prop := ∀ k, S k → Iq k → ∀ cur s, w.heap[k]? ≠ some (.cells cur 3 s)
theorem NoI.of {Iq : Nat → Prop} {w : World} {S : Nat → Prop} (h : NoInt w S) : NoI Iq w S := fun k hk _ => h k hk
theorem NoI.off {Iq : Nat → Prop} {w : World} {S : Nat → Prop} (h : ∀ k, S k → ¬ Iq k) : NoI Iq w S := fun k hk hi => absurd hi (h k hk)
theorem ownq_noi {Iq S : Nat → Prop} {w w' : World} {v : Value} {l : List Int} (h : OwnQ Iq w v l) (k : Tk.Kp S w w') (hS : NoI Iq w S) : OwnQ Iq w' v l := by
  refine ⟨own_kpI h.own k (fun g hg hs => ?_), h.inn⟩
  rcases h.own.2 with ⟨rfl, _⟩ | ⟨g', cap, cur, e, hB, hh, _⟩
  · cases hg
  · have hi := h.inn g hg
    subst e
    cases hg
    exact hS _ hs hi _ _ hh
theorem ownq_noint {Iq S : Nat → Prop} {w w' : World} {v : Value} {l : List Int} (h : OwnQ Iq w v l) (k : Tk.Kp S w w') (hS : NoInt w S) : OwnQ Iq w' v l := ownq_noi h k (NoI.of hS)
/-- Rows of the program's own, each with a vector of its own. -/
structure OwnRs (Iq : Nat → Prop) (w : World) (v : Value) (d : List Rt) : Prop where
  row : w.ownsRow 0 43 2 v d.length (d.flatMap encR)
  vec : ∀ x ∈ d, OwnQ Iq w x.2.1 x.2.2
  up : Up Iq w
theorem OwnRs.kq {Iq S : Nat → Prop} {w w' : World} {v : Value} {d : List Rt} (h : OwnRs Iq w v d) (k : Tk.Kp S w w') (hS : NoI Iq w S) (hn : ∀ g, v.ownBlock = some g → ¬ S g) : OwnRs Iq w' v d :=
  ⟨ownR_kp h.row k hn, fun x hx => ownq_noi (h.vec x hx) k hS, h.up.le k.size⟩
theorem OwnRs.kp {Iq : Nat → Prop} {S : Nat → Prop} {w w' : World} {v : Value} {d : List Rt} (h : OwnRs Iq w v d) (k : Tk.Kp S w w') (hS : NoInt w S) (hn : ∀ g, v.ownBlock = some g → ¬ S g) : OwnRs Iq w' v d :=
  h.kq k (NoI.of hS) hn
def kidV : Option Nat → Value
  | none => .pointer none
  | some b => .pointer (some ⟨b, 0, none⟩)
/-- A part in its block. -/
structure PcAt (Iq : Nat → Prop) (w : World) (b : Nat) (p : Pt) (vl vh vr : Value) : Prop where
  blk : w.heap[b]? = some (.cells #[.int .i64 2, vl, vh, .int .u64 0, .int .u64 0, .slice none 0 0, vr, .int .i64 p.cut.1, .int .i64 p.cut.2.1, .int .i64 p.cut.2.2, kidV (p.kids.map Prod.fst), kidV (p.kids.map Prod.snd)] 117 (0, 0))
  low : OwnQ Iq w vl p.L
  high : OwnQ Iq w vh p.H
  up : Up Iq w
theorem PcAt.kq {Iq S : Nat → Prop} {w w' : World} {b : Nat} {p : Pt} {vl vh vr : Value} (h : PcAt Iq w b p vl vh vr) (k : Tk.Kp S w w') (hS : NoI Iq w S) (hn : ¬ S b) : PcAt Iq w' b p vl vh vr :=
  ⟨by rw [k.block b (Array.getElem?_eq_some_iff.1 h.blk).1 hn]; exact h.blk, ownq_noi h.low k hS, ownq_noi h.high k hS, h.up.le k.size⟩
theorem PcAt.kp {Iq : Nat → Prop} {S : Nat → Prop} {w w' : World} {b : Nat} {p : Pt} {vl vh vr : Value} (h : PcAt Iq w b p vl vh vr) (k : Tk.Kp S w w') (hS : NoInt w S) (hn : ¬ S b) : PcAt Iq w' b p vl vh vr :=
  h.kq k (NoI.of hS) hn
/-- The part in block b, with all that lie below it, at most n deep, in the blocks F (where vectors are not told). -/
def TrO (Iq : Nat → Prop) (w : World) (T : Nat → Pt) : Nat → Nat → List Nat → Prop
  | 0, _, _ => False
  | n + 1, b, F => ∃ vl vh vr, PcAt Iq w b (T b) vl vh vr ∧ match (T b).kids with
    | none => ∃ d g, OwnRs Iq w vr d ∧ d.map rwR = (T b).rs ∧ vr.ownBlock = some g ∧ F = [b, g]
    | some (l, h) => vr = .slice none 0 0 ∧ ∃ F1 F2, TrO Iq w T n l F1 ∧ TrO Iq w T n h F2 ∧ F = b :: (F1 ++ F2)
theorem TrO.kq {Iq : Nat → Prop} {S : Nat → Prop} {w w' : World} {T : Nat → Pt} (k : Tk.Kp S w w') (hS : NoI Iq w S) : ∀ n b F, TrO Iq w T n b F → (∀ x ∈ F, ¬ S x) → TrO Iq w' T n b F
  | 0, _, _, h, _ => h
  | n + 1, b, F, h, hF => by
    obtain ⟨vl, vh, vr, hp, h⟩ := h
    refine ⟨vl, vh, vr, ?_⟩
    cases hk : (T b).kids with
    | none =>
      rw [hk] at h
      obtain ⟨d, g, h1, h2, h3, rfl⟩ := h
      exact ⟨hp.kq k hS (hF b (by simp)), d, g, h1.kq k hS (fun g' e => by rw [h3] at e; cases e; exact hF g (by simp)), h2, h3, rfl⟩
    | some lh =>
      obtain ⟨l, hh⟩ := lh
      rw [hk] at h
      obtain ⟨h0, F1, F2, h1, h2, rfl⟩ := h
      exact ⟨hp.kq k hS (hF b (by simp)), h0, F1, F2, TrO.kq k hS n l F1 h1 (fun x hx => hF x (by simp [hx])), TrO.kq k hS n hh F2 h2 (fun x hx => hF x (by simp [hx])), rfl⟩
theorem TrO.kp {Iq : Nat → Prop} {S : Nat → Prop} {w w' : World} {T : Nat → Pt} (k : Tk.Kp S w w') (hS : NoInt w S) : ∀ n b F, TrO Iq w T n b F → (∀ x ∈ F, ¬ S x) → TrO Iq w' T n b F :=
  TrO.kq k (NoI.of hS)
theorem TrO.up {Iq : Nat → Prop} {w : World} {T : Nat → Pt} : ∀ {n b : Nat} {F : List Nat}, TrO Iq w T n b F → Up Iq w
  | 0, _, _, h => h.elim
  | _ + 1, _, _, h => by
    obtain ⟨_, _, _, hp, _⟩ := h
    exact hp.up
theorem TrO.mem {Iq : Nat → Prop} {w : World} {T : Nat → Pt} : ∀ {n b : Nat} {F : List Nat}, TrO Iq w T n b F → b ∈ F ∧ ∀ x ∈ F, x < w.heap.size
  | 0, _, _, h => h.elim
  | n + 1, b, F, h => by
    obtain ⟨vl, vh, vr, hp, h⟩ := h
    have hb := (Array.getElem?_eq_some_iff.1 hp.blk).1
    cases hk : (T b).kids with
    | none =>
      rw [hk] at h
      obtain ⟨d, g, h1, h2, h3, rfl⟩ := h
      have := (h1.row.lt g h3).2
      exact ⟨by simp, fun x hx => by simp at hx; rcases hx with rfl | rfl <;> omega⟩
    | some lh =>
      obtain ⟨l, hh⟩ := lh
      rw [hk] at h
      obtain ⟨_, F1, F2, h1, h2, rfl⟩ := h
      have a1 := TrO.mem h1
      have a2 := TrO.mem h2
      refine ⟨by simp, fun x hx => ?_⟩
      simp at hx
      rcases hx with rfl | hx | hx
      · exact hb
      · exact a1.2 x hx
      · exact a2.2 x hx
/-- Only what T tells of the blocks F counts. -/
theorem TrO.congr {Iq : Nat → Prop} {w : World} {T T' : Nat → Pt} : ∀ n b F, TrO Iq w T n b F → (∀ x ∈ F, T' x = T x) → TrO Iq w T' n b F ∧ ∀ m, n ≤ m + 1 → ∀ d, rowsP T' m (T' b) = rowsP T m (T b) ∧ (OkP T' d m (T' b) ↔ OkP T d m (T b))
  | 0, _, _, h, _ => h.elim
  | n + 1, b, F, h, hF => by
    obtain ⟨vl, vh, vr, hp, h⟩ := h
    have eb : T' b = T b := hF b (by
      cases hk : (T b).kids with
      | none => rw [hk] at h; obtain ⟨d, g, _, _, _, rfl⟩ := h; simp
      | some lh => obtain ⟨l, hh⟩ := lh; rw [hk] at h; obtain ⟨_, F1, F2, _, _, rfl⟩ := h; simp)
    cases hk : (T b).kids with
    | none =>
      rw [hk] at h
      refine ⟨⟨vl, vh, vr, by rw [eb]; exact hp, by rw [eb, hk]; exact h⟩, fun m _ d => ?_⟩
      rw [eb]
      exact ⟨by rw [rowsP_leaf hk, rowsP_leaf hk], by rw [okP_leaf hk, okP_leaf hk]⟩
    | some lh =>
      obtain ⟨l, hh⟩ := lh
      rw [hk] at h
      obtain ⟨h0, F1, F2, h1, h2, rfl⟩ := h
      obtain ⟨a1, a2⟩ := TrO.congr n l F1 h1 (fun x hx => hF x (by simp [hx]))
      obtain ⟨b1, b2⟩ := TrO.congr n hh F2 h2 (fun x hx => hF x (by simp [hx]))
      refine ⟨⟨vl, vh, vr, by rw [eb]; exact hp, by rw [eb, hk]; exact ⟨h0, F1, F2, a1, b1, rfl⟩⟩, fun m hm d => ?_⟩
      rw [eb]
      cases m with
      | zero =>
        have : n = 0 := by omega
        subst this
        exact h1.elim
      | succ m =>
        obtain ⟨c1, c2⟩ := a2 m (by omega) d
        obtain ⟨d1, d2⟩ := b2 m (by omega) d
        refine ⟨by rw [rowsP_node hk, rowsP_node hk, c1, d1], ?_⟩
        rw [OkP, OkP, hk]
        dsimp only
        rw [c1, d1, c2, d2]

theorem boxE_row {rs : List Rw} {m : Nat} (h : boxE rs (m : Int) = 0) {p : Pt} (hL : p.L = boxL rs m) (hH : p.H = boxH rs m) : BoxOk m p rs := by
  obtain ⟨h1, h2, h3, h4, h5, h6⟩ := rows_of h
  have hr : boxR rs (m : Int) = ⟨2, boxL rs m, boxH rs m, 0, srt (idsOf rs)⟩ := by unfold boxR; rw [if_pos h, Int.toNat_natCast]
  have key : ∀ j, j < rs.length → ckR (pr p) (m : Int) = 0 ∧ chk rs[j]!.2 (m : Int) = 0 ∧ inV (pr p) rs[j]!.2 = true := by
    intro j hj
    obtain ⟨k1, k2⟩ := box_in h hj
    obtain ⟨k3, k4⟩ := ckB_ok k1
    unfold insV at k2
    rw [hr] at k2 k3
    rw [(h6 j hj).1] at k3 k4
    obtain ⟨q1, _⟩ := ckR_ok k3
    refine ⟨?_, k4, ?_⟩
    · unfold ckR
      rw [if_pos (by omega), if_pos ⟨by simp [uses], by rfl⟩, if_pos rfl]
      have := q1 rfl
      first | (show cornE p.L p.H (m : Int) = 0; rw [hL, hH]; exact this) | (show decide (bx p.L p.H rs[j]!.2 = 0) = true; rw [hL, hH]; exact this)
    · have := (Bool.and_eq_true _ _ ▸ k2).2
      unfold inV at this ⊢
      rw [if_pos rfl] at this ⊢
      first | (show cornE p.L p.H (m : Int) = 0; rw [hL, hH]; exact this) | (show decide (bx p.L p.H rs[j]!.2 = 0) = true; rw [hL, hH]; exact this)
  refine ⟨(key 0 (by omega)).1, fun r hrm => ?_⟩
  obtain ⟨j, hj, e⟩ := List.getElem_of_mem hrm
  have := key j hj
  rw [getElem!_pos rs j hj, e] at this
  exact this.2
/-- What boxes that hold more rows say of fewer. -/
theorem BoxOk.sub {m : Nat} {p : Pt} {rs rs' : List Rw} (h : BoxOk m p rs) (hs : ∀ r ∈ rs', r ∈ rs) : BoxOk m p rs' := ⟨h.1, fun r hr => h.2 r (hs r hr)⟩
end Go.Proofs.YtbnljabeccebiaaGreat
