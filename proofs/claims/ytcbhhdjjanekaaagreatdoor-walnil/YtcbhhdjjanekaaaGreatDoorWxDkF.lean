/- alter: a change of names, done and remembered. -/
import Derived.Test.YtcbhhdjjanekaaaGreatDoorWx11
namespace Go.Proofs.YtcbhhdjjanekaaaGreatDoor
open Go.RowKit Go.Lib Go.Maps

variable {w w' : World} {b : Nat} {q q' : Dq} {F G : Nat → Prop} {ks : List Int} {fm nb sn : Nat} {cv : Value} {fv : Int → Value}
theorem row_fm {base : Nat} {e : TypeId} {m n : Nat} {v : Value} {xs : List Value} (h : w.ownsRow base e m v n xs) : ∃ ax c, v = .slice ax n c := by
  rcases h.2 with ⟨rfl, rfl⟩ | ⟨g, cap, cur, rfl, _⟩
  · exact ⟨none, 0, rfl⟩
  · exact ⟨_, cap, rfl⟩
theorem Tryz.infoCh : (Tryz.prog.info? 98).map (fun i => (i.zero, i.size, i.bytes)) = some (some (.agg #[.string ByteArray.empty, .string ByteArray.empty, .int .i64 0]), 3, 40) := by kernel_rfl
theorem infoC : ∃ i, Tryz.prog.info? 98 = some i ∧ i.zero = some (.agg #[.string ByteArray.empty, .string ByteArray.empty, .int .i64 0]) ∧ i.size = 3 ∧ i.bytes = 40 := info_parts Tryz.infoCh
theorem chV_one (c : By × By × Int) : ∀ u ∈ chV c, u.oneCell' = true := by
  intro u hu
  simp only [chV, List.mem_cons, List.not_mem_nil, or_false] at hu
  rcases hu with rfl | rfl | rfl <;> rfl
theorem three_cells (w : World) (x0 x1 x2 : Value) (t : TypeId) : ∀ j u, [x0, x1, x2][j]? = some u → (w.alloc (.cells #[x0, x1, x2] t)).cell? ((⟨w.heap.size, 0, none⟩ : Addr).add j) = some u := by
  intro j u hj
  rw [Addr.add_lit]
  rcases j with _ | _ | _ | j
  · simp at hj; subst hj; simp [go_sem]
  · simp at hj; subst hj; simp [go_sem]
  · simp at hj; subst hj; simp [go_sem]
  · simp at hj
theorem Kf.mono (h : Kf F w w') (hF : ∀ k, F k → G k) : Kf G w w' := ⟨h.os, h.tape, h.output, h.size, fun k hk g => h.block k hk fun f => g (hF k f)⟩
theorem Kf.ofDrew (h : Kf F w.drew w') : Kf F w w' := ⟨h.os, h.tape, h.output, h.size, h.block⟩
theorem Kf.cell (h : Kf F w w') {p : Addr} {v : Value} (hc : w.cell? p = some v) (hp : ¬ F p.block) : w'.cell? p = some v :=
  (World.cell?_of_block (h.block p.block (World.block_lt_of_cell? w p hc) hp)).trans hc
/-- An append in a region that draws its order, by the equation of its run. -/
theorem step_append_run {P : Program} {ops : Array Oper} {o : Oper} {a : Act} {w : World} {K : Act → World → Prop} {Q : Exit → Act → World → Prop} {E : Prop}
    (hg : o.guard = none) (s x : Operand) (t : TypeId) (ho : o.op = .call { callee := .builtin .append, args := #[s, x], argTypes := #[t, t] }) (v u : Value) (hs : a.eval s = v) (hx : a.eval x = u) {r : Value} {w' : World}
    (hr : (Builtin.append_ #[t, t] o.type #[v, u]).run P w = .ok r w') (h : K (a.put o.dst r) w') : if Region.wanted o (yielded ops a.tmps) = true then Oper.wp P o a w K Q else E := by
  have hw : Region.wanted o (yielded ops a.tmps) = true := by simp [Region.wanted, hg]
  rw [if_pos hw]
  unfold Oper.wp execOp
  simp only [ho, resolve, invoke, builtin, Sem.run_bind, Sem.run_pure, Result.andThen_ok, List.map_toArray, List.map_cons, List.map_nil, hs, hx, hr]
  exact h
/-- A change that is done and remembered. -/
def Dq.alter (q : Dq) (c : By × By × Int) : Dq := { q with nm := apC q.nm c, ch := q.ch ++ [c] }
def AlOut (w w' : World) (b : Nat) (q : Dq) (F : Nat → Prop) (ks : List Int) (fm nb sn : Nat) (fv : Int → Value) : Prop := ∃ cw, DkM w' b q (Wn F w) ks fm nb sn cw fv ∧ Kf F w w'
set_option maxHeartbeats 2000000 in
set_option maxRecDepth 100000 in
theorem alter_c (h : DkM w b q F ks fm nb sn cv fv) (hF : ∀ k, F k → k < w.heap.size) (hn : q.nm.length < 900000) (hc : q.ch.length < 900000) (c : By × By × Int) (h1 : KWfS c.1) (h2 : KWfS c.2.1) (hk : c.2.1 ≠ [] → c.2.2 ∈ ks) :
    Calls Tryz.prog 82 #[.pointer (some ⟨b, 0, none⟩), .agg (chV c).toArray] w fun e w' => e = .returned (.tuple #[]) ∧ AlOut w w' b (q.alter c) F ks fm nb sn fv := by
  obtain ⟨⟨_, _, c2, _, c4, _, _⟩, fz⟩ := h.cells
  obtain ⟨ca, cc, rfl⟩ := row_fm h.chs
  have hb : b < w.heap.size := cell_lt c2
  have H : Hid (DkM w b q F ks fm nb sn (.slice ca q.ch.length cc) fv ∧ ∀ k, F k → k < w.heap.size) := ⟨h, hF⟩
  have hv : (chV c).toArray = #[.string (sb c.1), .string (sb c.2.1), .int .i64 c.2.2] := rfl
  have CA : Hid (∀ W, Gb w W → Calls Tryz.prog 58 #[.agg #[.string (sb c.1), .string (sb c.2.1), .int .i64 c.2.2], .map (some nb)] W fun e w' => e = .returned (.tuple #[]) ∧ NmAt w' nb (apC q.nm c) ∧ Kf (fun k => k = nb) W w') := fun W g => by
    have := apply_c (H.out.1.nms.same (g.block _ H.out.1.nms.lt)) hn c h1 h2
    rw [hv] at this
    exact this
  have AP : Hid (∀ W3, NmAt W3 nb (apC q.nm c) → Kf (fun k => k = nb) w W3 → W3.cell? ⟨b, 4, none⟩ = some (.slice ca q.ch.length cc) ∧ W3.frozen? ⟨b, 4, none⟩ = false ∧ b < W3.heap.size ∧
      ∃ ax c' W4, (Builtin.append_ #[65, 65] 65 #[.slice ca q.ch.length cc, .slice (some ⟨W3.heap.size, 0, none⟩) 1 1]).run Tryz.prog (W3.alloc (.cells #[.string (sb c.1), .string (sb c.2.1), .int .i64 c.2.2] 98)).drew = .ok (.slice ax (q.ch.length + 1) c') W4 ∧
        W4.cell? ⟨b, 4, none⟩ = some (.slice ca q.ch.length cc) ∧ W4.frozen? ⟨b, 4, none⟩ = false ∧ b < W4.heap.size ∧ AlOut w (W4.setCell ⟨b, 4, none⟩ (.slice ax (q.ch.length + 1) c')) b (q.alter c) F ks fm nb sn fv) := fun W3 hN kf => by
    obtain ⟨h, hF⟩ := H.out
    have hnb : nb ≠ b := h.neB.2.1
    have hM : DkM W3 b { q with nm := apC q.nm c } F ks fm nb sn (.slice ca q.ch.length cc) fv := h.mvN (fun k _ f e => kf.block k (hF k f) e) hN fun p hp => by
      rcases mem_apC hp with hp | ⟨e, rfl⟩
      · exact h.nmK p hp
      · exact hk e
    obtain ⟨⟨_, _, _, _, d4, _, _⟩, dz⟩ := hM.cells
    refine ⟨d4, dz 4, cell_lt d4, ?_⟩
    obtain ⟨i0, hi, hz0, hz1, hz2⟩ := infoC
    have g5 : Gb W3 (W3.alloc (.cells #[.string (sb c.1), .string (sb c.2.1), .int .i64 c.2.2] 98)).drew := (gb_alloc (Below.refl _ W3) _).drew
    have hM5 := hM.kp (w' := (W3.alloc (.cells #[.string (sb c.1), .string (sb c.2.1), .int .i64 c.2.2] 98)).drew) (G := F) (fun k hk _ => g5.block k hk) (fun _ f _ => f)
    have hch : (W3.alloc (.cells #[.string (sb c.1), .string (sb c.2.1), .int .i64 c.2.2] 98)).drew.ownsRow 0 98 3 (.slice ca q.ch.length cc) q.ch.length (q.ch.flatMap chV) := hM5.chs
    obtain ⟨v', W4, hr, ho, hg, _, hbk⟩ := run_append_own_at (P := Tryz.prog) (W3.alloc (.cells #[.string (sb c.1), .string (sb c.2.1), .int .i64 c.2.2] 98)).drew 0 65 65 98 i0 (.agg #[.string ByteArray.empty, .string ByteArray.empty, .int .i64 0]) 3 40
      Tryz.underlying65 hi hz0 hz1 hz2 rfl (by decide) _ _ _ hch ⟨W3.heap.size, 0, none⟩ 1 1 [.string (sb c.1), .string (sb c.2.1), .int .i64 c.2.2] rfl (three_cells W3 _ _ _ _) (chV_one c) (by simp only [maxLen]; omega) (by omega) (Nat.zero_le _)
    obtain ⟨ax, c', rfl⟩ := row_fm ho
    have hnb4 : some b ≠ (Value.slice ca q.ch.length cc).ownBlock := fun e => hM5.neB.2.2.2.1 b e.symm rfl
    have blk4 : W4.heap[b]? = _ := (hg.block b (cell_lt (hM5.cells.1.2.2.2.2.1)) hnb4).trans hM5.blk
    refine ⟨ax, c', W4, hr, hg.cell hM5.cells.1.2.2.2.2.1 hnb4, ?_, ?_, ?_⟩
    · simp [World.frozen?, blk4]
    · exact (Array.getElem?_eq_some_iff.1 blk4).1
    · refine ⟨.slice ax (q.ch.length + 1) c', ?_, ?_⟩
      · have hW := hM5.wn w
        refine hW.mvC (cl := q.ch ++ [c]) (fun k hk _ e1 e2 => ?_) ?_ ?_ ?_ ?_
        · rw [Below.heap_setCell _ _ _ _ e1]
          exact hg.block k hk fun e => e2 e.symm
        · rw [heap_set0 blk4]; rfl
        · refine row_same ?_ fun k e => Below.heap_setCell _ _ _ _ ?_
          · rw [List.length_append, List.flatMap_append]
            simpa [chV] using ho
          · rintro rfl
            rcases row_cells ho e with ⟨cur, ec⟩
            exact absurd (type_cells ec blk4) (by decide)
        · intro k e
          rcases hbk with hbk | hbk
          · rw [hbk] at e; exact .inl (hM5.chF k e)
          · rw [hbk] at e
            cases e
            exact .inr (Nat.le_trans kf.size g5.size)
        · intro c1 hc1 hne
          rcases List.mem_append.1 hc1 with hc1 | hc1
          · exact h.chK c1 hc1 hne
          · rw [List.mem_singleton.1 hc1] at hne ⊢; exact hk hne
      · have k1 : Kf F w W3 := kf.then (Kf.refl _ _) (fun _ _ h => h) |>.mono fun k e => by subst e; exact h.inF.2.2.1
        have k2 : Kf F w W4 := (k1.then (Kf.gb g5 F) fun _ _ h => h).then (Kf.grown hg (F := fun k => F k ∨ W3.heap.size ≤ k) fun k e => .inl (hM5.chF k e)) fun k hk f => f.elim id fun f => absurd hk (by have := k1.size; omega)
        exact k2.set (fun _ => h.inF.1) _
  have NB : Hid (nb < w.heap.size) := h.nms.lt
  generalize sb c.1 = sx at *
  generalize sb c.2.1 = sy at *
  generalize c.2.2 = n at *
  generalize q.ch.length = m at *
  rw [hv]
  clear h hF hv h1 h2 hk hn hc fz
  go_enter Tryz.func82, Tryz.ntmps82
  go_wp2
  go_region_with (go_at_call 58; refine (CA.out _ (gb_alloc (Below.refl _ w) _).drew).mono ?_; rintro e w2 ⟨rfl, hN, kf⟩)
  all_goals
    have kf := kf.ofDrew
    have kg := ((Kf.refl (fun k => k = nb) w).alloc (.cells #[.string sx, .string sy, .int .i64 n] 98)).trans kf
    have hlt := NB.out
    have d0 : w2.cell? ⟨w.heap.size, 0, none⟩ = some (.string sx) := kf.cell (by simp [go_sem]) (fun e => by have e : w.heap.size = nb := e; omega)
    have d1 : w2.cell? ⟨w.heap.size, 1, none⟩ = some (.string sy) := kf.cell (by simp [go_sem]) (fun e => by have e : w.heap.size = nb := e; omega)
    have d2 : w2.cell? ⟨w.heap.size, 2, none⟩ = some (.int .i64 n) := kf.cell (by simp [go_sem]) (fun e => by have e : w.heap.size = nb := e; omega)
    have hl0 : w.heap.size < w2.heap.size := cell_lt d0
    obtain ⟨a4, z4, l4, ax, c', W4, hr, a5, z5, l5, R⟩ := AP.out w2 hN kg
    have RR : Hid (AlOut w _ b _ F ks fm nb sn fv) := R
    clear R kf kg hN hlt CA AP c2 c4 hb
    go_wp2
    go_region_law (refine step_append_run rfl (.tmp 14) (.tmp 16) 65 rfl _ _ (by simp [Act.eval]) (by simp [Act.eval]) hr ?_)
  all_goals
    go_wp2
    go_end0
    exact ⟨rfl, RR.out⟩
end Go.Proofs.YtcbhhdjjanekaaaGreatDoor
