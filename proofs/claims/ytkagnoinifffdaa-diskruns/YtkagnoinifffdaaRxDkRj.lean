/- The reference's change. -/
import Derived.Test.YtkagnoinifffdaaRxDkRi
namespace Go.Proofs.Ytkagnoinifffdaa
open Go.RowKit Go.Lib Go.Maps

variable {w w' W : World} {p : Nat} {q q' : Dq} {nu : List Int} {r : Rf} {L : List (Value × Nat)} {fv nv sv cv : Value} {F G B : Nat → Prop}
theorem Try.infoCg : (Try.prog.info? 81).map (fun i => (i.zero, i.size, i.bytes)) = some (some (.agg #[.int .i64 0, .string ByteArray.empty, .string ByteArray.empty, .int .i64 0]), 4, 48) := by kernel_rfl
theorem infoG : ∃ i, Try.prog.info? 81 = some i ∧ i.zero = some (.agg #[.int .i64 0, .string ByteArray.empty, .string ByteArray.empty, .int .i64 0]) ∧ i.size = 4 ∧ i.bytes = 48 := info_parts Try.infoCg
theorem rcV_one (c : Rc) : ∀ u ∈ rcV c, u.oneCell' = true := by
  intro u hu
  simp only [rcV, List.mem_cons, List.not_mem_nil, or_false] at hu
  rcases hu with rfl | rfl | rfl | rfl <;> rfl
theorem four_cells (w : World) (x0 x1 x2 x3 : Value) (t : TypeId) : ∀ j u, [x0, x1, x2, x3][j]? = some u → (w.alloc (.cells #[x0, x1, x2, x3] t)).cell? ((⟨w.heap.size, 0, none⟩ : Addr).add j) = some u := by
  intro j u hj
  rw [Addr.add_lit]
  rcases j with _ | _ | _ | _ | j
  · simp at hj; subst hj; simp [go_sem]
  · simp at hj; subst hj; simp [go_sem]
  · simp at hj; subst hj; simp [go_sem]
  · simp at hj; subst hj; simp [go_sem]
  · simp at hj
theorem appC_run {v : Value} {l : List Rc} (h : w.ownsRow 0 81 4 v l.length (l.flatMap rcV)) (c : Rc) (hl : l.length ≤ 100000) :
    ∃ ax cc w', (Builtin.append_ #[66, 66] 66 #[v, .slice (some ⟨w.heap.size, 0, none⟩) 1 1]).run Try.prog (ChW w c.1 (sb c.2.1) (sb c.2.2.1) (c.2.2.2 : Int)) = .ok (.slice ax (l.length + 1) cc) w' ∧
      w'.ownsRow 0 81 4 (.slice ax (l.length + 1) cc) (l ++ [c]).length ((l ++ [c]).flatMap rcV) ∧ (ChW w c.1 (sb c.2.1) (sb c.2.2.1) (c.2.2.2 : Int)).grownBy w' v.ownBlock ∧
      ∀ k, (Value.slice ax (l.length + 1) cc).ownBlock = some k → v.ownBlock = some k ∨ w.heap.size ≤ k := by
  obtain ⟨i0, hi, hz0, hz1, hz2⟩ := infoG
  have ha := World.ownsRow.alloc h (.cells #[.int .i64 c.1, .string (sb c.2.1), .string (sb c.2.2.1), .int .i64 (c.2.2.2 : Int)] 81)
  obtain ⟨v', w', hr, ho, hg, _, hbk⟩ := run_append_own_at (P := Try.prog) _ 0 66 66 81 i0 (.agg #[.int .i64 0, .string ByteArray.empty, .string ByteArray.empty, .int .i64 0]) 4 48
    Try.underlying66 hi hz0 hz1 hz2 rfl (by decide) _ _ _ ha ⟨w.heap.size, 0, none⟩ 1 1 (rcV c) rfl (four_cells w _ _ _ _ _) (rcV_one c) (by unfold maxLen; omega) (by omega) (Nat.zero_le _)
  obtain ⟨ax, cc, rfl⟩ := row_fm ho
  refine ⟨ax, cc, w', hr, ?_, hg, fun k e => ?_⟩
  · rw [List.length_append, List.flatMap_append]
    simpa using ho
  · rcases hbk with h | h
    · exact .inl (by rw [← h]; exact e)
    · rw [h] at e; cases e; exact .inr (by simp)
theorem RfM.cast (h : RfM w p q nu r L fv nv sv cv G B) (e1 : q'.room = q.room) (e2 : q'.st = q.st) (e3 : q'.lf = q.lf) (e4 : q'.fb = q.fb) (e5 : q'.fs = q.fs) : RfM w p q' nu r L fv nv sv cv G B :=
  ⟨by rw [e1, e2, e3]; exact h.blk, h.fls, h.len, by rw [e4, e5]; exact h.byt, h.nms, h.nmB, h.sfs, h.sfB, h.chs, h.inG, h.gb⟩
/-- Its block turns, and what new slices it holds are there. -/
theorem RfM.mvA (h : RfM w p q nu r L fv nv sv cv G B) {r' : Rf} {nv' sv' cv' : Value} {G' B' : Nat → Prop} (hk : ∀ k, k < w.heap.size → k ≠ p → (G k → fv.ownBlock = some k ∨ cv.ownBlock ≠ some k) → w'.heap[k]? = w.heap[k]?)
    (hb : w'.heap[p]? = some (.cells #[.int .i64 q'.room, fv, nv', sv', cv', .int .i64 (q'.st : Int), .int .i64 q'.lf] 68 (0, 0))) (e4 : q'.fb = q.fb) (e5 : q'.fs = q.fs)
    (hn : OwR w' 0 nv' r'.nm) (hnB : ∀ j, nv'.ownBlock = some j → B' j) (hs : OwR w' 0 sv' r'.sf) (hsB : ∀ j, sv'.ownBlock = some j → B' j) (hc : w'.ownsRow 0 81 4 cv' r'.ch.length (r'.ch.flatMap rcV)) (hcG : ∀ j, cv'.ownBlock = some j → G' j)
    (hG : ∀ j, G j → G' j) (hB : ∀ j, B j → B' j) (hGB : ∀ j, G' j → ¬ B' j) : RfM w' p q' nu r' L fv nv' sv' cv' G' B' := by
  obtain ⟨g1, g2, g3⟩ := h.inG
  have np : ∀ {base m n : Nat} {e : TypeId} {v : Value} {xs : List Value}, w.ownsRow base e m v n xs → e ≠ 68 → ∀ j, v.ownBlock = some j → j ≠ p := fun {base m n e v xs} ho hne j ej eq => by
    subst eq
    obtain ⟨cur, ec⟩ := row_cells ho ej
    exact hne (type_cells ec h.blk)
  refine ⟨hb, row_same h.fls fun j e => hk j (World.ownsRow.lt h.fls j e).2 (np h.fls (by decide) j e) fun _ => .inl e, h.len, fun i hi => ?_, hn, hnB, hs, hsB, hc, ⟨hG p g1, fun j e => hG j (g2 j e), hcG⟩, hGB⟩
  obtain ⟨b1, b2, b3⟩ := h.byt i hi
  rw [e4, e5]
  exact ⟨row_same b1 fun j e => hk j (World.ownsRow.lt b1 j e).2 (np b1 (by decide) j e) fun g => absurd (b3 j e) (h.gb j g), b2, fun j e => hB j (b3 j e)⟩
end Go.Proofs.Ytkagnoinifffdaa
