/- Numbers and records of the call's own, appended to; firsts. -/
import Derived.Test.YtcbhhdjjanekaaaGreatDoorWxWaI
import Derived.Maps.AppendAt
namespace Go.Proofs.YtcbhhdjjanekaaaGreatDoor
open Go.RowKit Go.Lib Go.Maps

variable {w w' W W' w1 w2 : World}
theorem Tryz.infoI3 : (Tryz.prog.info? 3).map (fun i => (i.zero, i.size, i.bytes)) = some (some (.int .i64 0), 1, 8) := by kernel_rfl
theorem infoI3 : ∃ i, Tryz.prog.info? 3 = some i ∧ i.zero = some (.int .i64 0) ∧ i.size = 1 ∧ i.bytes = 8 := info_parts Tryz.infoI3
theorem Tryz.infoRc : (Tryz.prog.info? 51).map (fun i => (i.zero, i.size, i.bytes)) = some (some (.agg #[.int .i64 0, .string ByteArray.empty]), 2, 24) := by kernel_rfl
theorem infoRc : ∃ i, Tryz.prog.info? 51 = some i ∧ i.zero = some (.agg #[.int .i64 0, .string ByteArray.empty]) ∧ i.size = 2 ∧ i.bytes = 24 := info_parts Tryz.infoRc
theorem own_form {B n size : Nat} {e : TypeId} {v : Value} {xs : List Value} (h : w.ownsRow B e size v n xs) : ∃ a c, v = .slice a n c ∧ n ≤ c ∧ (a = none → c = 0) := by
  rcases h.2 with ⟨rfl, h0⟩ | ⟨g, cap, cur, rfl, _, _, h1, _⟩
  · exact ⟨none, 0, by rw [h0], by omega, fun _ => rfl⟩
  · exact ⟨_, cap, rfl, h1, fun e => nomatch e⟩
/-- A number is appended. -/
theorem appI_run {base : Nat} {v : Value} {l : List Int} (h : OwnI w base v l) (hb : base ≤ w.heap.size) (hl : l.length ≤ 1000000) {s : Nat} {x : Int} (hs : w.cell? ⟨s, 0, none⟩ = some (.int .i64 x)) :
    ∃ ax c w', (Builtin.append_ #[32, 32] 32 #[v, .slice (some ⟨s, 0, none⟩) 1 1]).run Tryz.prog w = .ok (.slice ax (l.length + 1) c) w' ∧ OwnI w' base (.slice ax (l.length + 1) c) (l ++ [x]) ∧ w.grownBy w' v.ownBlock := by
  obtain ⟨i0, hi, hz0, hz1, hz2⟩ := infoI3
  obtain ⟨v', w', hr, ho, hg, _, _⟩ := run_append_own_at (P := Tryz.prog) w base 32 32 3 i0 (.int .i64 0) 1 8 Tryz.underlying32 hi hz0 hz1 hz2 rfl (by decide) _ _ _ h ⟨s, 0, none⟩ 1 1 [.int .i64 x] rfl (fun j u hj => by
    match j with
    | 0 => simp at hj; rw [Addr.add_lit, hs, hj]
    | j + 1 => simp at hj) (by intro u hu; simp at hu; subst hu; rfl) (by unfold maxLen; omega) (by omega) hb
  obtain ⟨ax, c, rfl, _⟩ := own_form ho
  refine ⟨ax, c, w', hr, ?_, hg⟩
  unfold OwnI
  rw [List.length_append, List.map_append]; exact ho
/-! Records. -/
def rcV (r : Rec) : List Value := [.int .i64 r.1, .string (sb r.2)]
theorem rcV_len (l : List Rec) : (l.flatMap rcV).length = l.length * 2 := by
  induction l with
  | nil => rfl
  | cons a r ih => rw [List.flatMap_cons, List.length_append, ih, List.length_cons, show (rcV a).length = 2 from rfl]; omega
theorem rcV_one (l : List Rec) : ∀ u ∈ l.flatMap rcV, u.oneCell' = true := by
  intro u hu
  obtain ⟨p, _, h⟩ := List.mem_flatMap.1 hu
  simp only [rcV, List.mem_cons, List.not_mem_nil, or_false] at h
  rcases h with rfl | rfl <;> rfl
def OwRc (w : World) (base : Nat) (v : Value) (l : List Rec) : Prop := w.ownsRow base 51 2 v l.length (l.flatMap rcV)
theorem owrc_nil (w : World) (base : Nat) : OwRc w base (.slice none 0 0) [] := World.ownsRow_nil _ _ _ _
/-- Records that can be appended. -/
def RdRc (w : World) (u : Value) (m : List Rec) : Prop := ∃ a cap, u = .slice a m.length cap ∧ (a = none ∧ cap = 0 ∧ m = [] ∨ ∃ ad, a = some ad ∧ ∀ j x, (m.flatMap rcV)[j]? = some x → w.cell? (ad.add j) = some x)
theorem OwRc.rd {base : Nat} {v : Value} {l : List Rec} (h : OwRc w base v l) : RdRc w v l := by
  rcases id h.2 with ⟨e, e0⟩ | ⟨g, cap, cur, e, _⟩
  · subst e
    have := List.eq_nil_of_length_eq_zero e0
    subst this
    exact ⟨none, 0, rfl, .inl ⟨rfl, rfl, rfl⟩⟩
  · subst e
    exact ⟨_, cap, rfl, .inr ⟨_, rfl, fun j x hj => World.ownsRow.cells h (g := g) rfl j x hj⟩⟩
theorem appRc_run {base : Nat} {v u : Value} {l m : List Rec} (h : OwRc w base v l) (hu : RdRc w u m) (hb : base ≤ w.heap.size) (hl : l.length + m.length ≤ 100000000) :
    ∃ ax c w', (Builtin.append_ #[44, 44] 44 #[v, u]).run Tryz.prog w = .ok (.slice ax (l.length + m.length) c) w' ∧ OwRc w' base (.slice ax (l.length + m.length) c) (l ++ m) ∧ w.grownBy w' v.ownBlock ∧
      ∀ k, (Value.slice ax (l.length + m.length) c).ownBlock = some k → v.ownBlock = some k ∨ w.heap.size ≤ k := by
  obtain ⟨i0, hi, hz0, hz1, hz2⟩ := infoRc
  obtain ⟨a, cap, rfl, hu⟩ := hu
  rcases hu with ⟨rfl, rfl, rfl⟩ | ⟨ad, rfl, hu⟩
  · obtain ⟨ax, c, rfl, hc, _⟩ := own_form h
    have hc : ¬ c < l.length := by omega
    refine ⟨ax, c, w, ?_, ?_, ⟨rfl, rfl, rfl, Nat.le_refl _, fun _ _ _ => rfl⟩, fun k e => .inl e⟩
    · cases ax <;> simp [Builtin.append_, run_underlying Tryz.underlying44, sizeOf, typeInfo, hi, Builtin.lenOf, Builtin.firstCells, storeCells, hc]
    · simpa using h
  · obtain ⟨v', w', hr, ho, hg, _, hbk⟩ := run_append_own_at (P := Tryz.prog) w base 44 44 51 i0 (.agg #[.int .i64 0, .string ByteArray.empty]) 2 24 Tryz.underlying44 hi hz0 hz1 hz2 rfl (by decide) _ _ _ h ad m.length cap (m.flatMap rcV) (rcV_len m) hu (rcV_one m) (by unfold maxLen; omega) (by omega) hb
    obtain ⟨ax, c, rfl, _⟩ := own_form ho
    refine ⟨ax, c, w', hr, ?_, hg, fun k e => ?_⟩
    · unfold OwRc
      rw [List.length_append, List.flatMap_append]; exact ho
    · rcases hbk with h | h
      · exact .inl (by rw [← h]; exact e)
      · rw [h] at e; cases e; exact .inr (Nat.le_refl _)
/-! firsts. -/
theorem OwnT.at2 {base : Nat} {v : Value} {l : List By} (h : OwnT w base v l) : ∃ a cap, v = .slice a l.length cap ∧ ∀ i, i < l.length → ∃ g, a = some ⟨g, 0, none⟩ ∧ w.cell? ⟨g, i, none⟩ = some (.string (sb l[i]!)) := by
  rcases id h.2 with ⟨e, e0⟩ | ⟨g, cap, cur, e, _⟩
  · exact ⟨none, 0, by rw [e, e0], fun i hi => by omega⟩
  · refine ⟨_, cap, e, fun i hi => ⟨g, rfl, ?_⟩⟩
    have := World.ownsRow.cells h (g := g) (by rw [e]; rfl) i (.string (sb l[i]!)) (by rw [List.getElem?_map, List.getElem?_eq_getElem hi, getElem!_pos l i hi]; rfl)
    rwa [Addr.add_lit, Nat.zero_add] at this
theorem fst_take {l : List By} {i : Nat} (hi : i < l.length) : (l.take (i + 1)).filterMap fst1 = (l.take i).filterMap fst1 ++ (fst1 l[i]!).toList := by
  rw [List.take_succ_eq_append_getElem hi, List.filterMap_append, getElem!_pos l i hi]
  cases h : fst1 l[i] <;> simp [h]
theorem fst_yes {x : By} {n : Int} (h1 : Lib.hasPrefix x pfx = true) (h2 : Lib.atoiAll (Lib.trimPrefix x pfx) = .ok n) : fst1 x = some n := by unfold fst1; rw [if_pos h1, h2]
theorem fst_no1 {x : By} (h1 : Lib.hasPrefix x pfx = false) : fst1 x = none := by unfold fst1; rw [if_neg (by rw [h1]; decide)]
theorem trim_len (x p : By) : (Lib.trimPrefix x p).length ≤ x.length := by
  unfold Lib.trimPrefix
  split
  · simp
  · exact Nat.le_refl _
end Go.Proofs.YtcbhhdjjanekaaaGreatDoor
