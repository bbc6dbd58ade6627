/- name, none, current, count, add, Last, First, Synced. -/
import Derived.Test.YtcbhhdjjanekaaaGreatDoorWxWaB
import Derived.Test.YtcbhhdjjanekaaaGreatDoorWx23
import Derived.Deep.RegionHeld3
namespace Go.Proofs.YtcbhhdjjanekaaaGreatDoor
open Go.RowKit Go.Lib Go.Maps

variable {w w' W W' : World} {a b : Nat} {L L' : Lg} {q q' : Dq} {E F G : Nat → Prop}
def Sml (n : Int) : Prop := -4611686018427387904 ≤ n ∧ n ≤ 4611686018427387904
theorem dec_len {u : Nat} (h : u < 18446744073709551616) : (Lib.decDigits u).length ≤ 20 := by
  rw [Lib.decDigits_length]
  rcases Nat.eq_zero_or_pos u with rfl | h1
  · rw [Lib.nDigits_small (by omega)]; omega
  · obtain ⟨e1, e2⟩ := Lib.numDigits_eq u h1 h
    split at e1 <;> omega
theorem itoa_len {n : Int} (h : Sml n) : (Lib.itoa n).length ≤ 21 := by
  unfold Sml at h
  unfold Lib.itoa
  split
  · have := dec_len (u := n.natAbs) (by omega)
    simp only [List.length_cons]; omega
  · have := dec_len (u := n.toNat) (by omega)
    omega
theorem sgN_len {n : Int} (h : Sml n) : (sgN n).length ≤ 25 := by
  have := itoa_len h
  simp only [sgN, pfx, List.length_append, List.length_cons, List.length_nil]; omega
theorem sgN_wf {n : Int} (h : Sml n) : KWfS (sgN n) := kwf_small (by have := sgN_len h; omega)
theorem sb_app (x y : By) : sb x ++ sb y = sb (x ++ y) := by
  apply ByteArray.ext; simp [sb]
theorem sb_pfx (y : By) : (⟨#[108, 111, 103, 46]⟩ : ByteArray) ++ sb y = sb (pfx ++ y) := sb_app pfx y
set_option maxRecDepth 100000 in
theorem wname_c (n m : Int) (hn : Sml n) (hG : Gl w) : Calls Tryz.prog 46 #[.agg #[.int .i64 n, .int .i64 m]] w fun e w' => e = .returned (.string (sb (sgN n))) ∧ Gb w w' := by
  have hn' := hn
  unfold Sml at hn'
  have g0 : Gb w (w.alloc (.cells #[.int .i64 n, .int .i64 m] 75)) := gb_alloc (Below.refl _ _) _
  have cI : Hid (Calls Tryz.prog 72 #[.int .i64 n] (w.alloc (.cells #[.int .i64 n, .int .i64 m] 75)) fun e w' => e = .returned (.string (sb (Lib.itoa n))) ∧ Gb (w.alloc (.cells #[.int .i64 n, .int .i64 m] 75)) w') := itoa_c n (by omega) (by omega) _ (hG.gb g0)
  have hl := itoa_len hn
  have hz : (sb (Lib.itoa n)).size ≤ 21 := by rw [sb_size]; exact hl
  have e1 := sb_pfx (Lib.itoa n)
  have G0 : Hid (Gb w (w.alloc (.cells #[.int .i64 n, .int .i64 m] 75))) := g0
  unfold sgN
  generalize sb (Lib.itoa n) = s at *
  clear hl hG hn hn' g0
  go_enter Tryz.func46, Tryz.ntmps46
  go_wp2_with fail
  refine cI.out.mono ?_
  rintro e w1 ⟨rfl, g1⟩
  go_wp2
  go_ret
  exact ⟨rfl, gb_trans G0.out g1⟩
theorem wnone_c (h : WaAt w a b L q E) : Calls Tryz.prog 39 #[.pointer (some ⟨a, 0, none⟩)] w fun e w' => e = .returned (.bool false) ∧ w' = w := by
  obtain ⟨ao, c, ⟨c0, _⟩, _, ha⟩ := h.cells
  clear h
  go_enter Tryz.func39, Tryz.ntmps39
  go_wp2
  go_ret
  exact ⟨rfl, rfl⟩
theorem wnone_nil (w : World) : Calls Tryz.prog 39 #[.pointer none] w fun e w' => e = .returned (.bool true) ∧ w' = w := by
  go_enter Tryz.func39, Tryz.ntmps39
  go_wp2
  go_ret
  exact ⟨rfl, rfl⟩
/-- Where the last segment lies. -/
def CurA (w : World) (a b : Nat) (L : Lg) (q : Dq) (E : Nat → Prop) (g o : Nat) : Prop := w.cell? ⟨g, o, none⟩ = some (.int .i64 L.cur.1) ∧ w.cell? ⟨g, o + 1, none⟩ = some (.int .i64 L.cur.2) ∧ (∀ i, w.frozen? ⟨g, i, none⟩ = false) ∧ g < w.heap.size ∧ E g ∧ g ≠ a ∧
    ∀ z, WaAt (w.setCell ⟨g, o + 1, none⟩ (.int .i64 z)) a b { L with sg := L.sg.dropLast ++ [(L.cur.1, z)] } q E
theorem cur_get {m : Nat} (hm : L.sg.length = m + 1) : L.sg[m]! = L.cur := by
  unfold Lg.cur
  have hne : L.sg ≠ [] := fun e => by rw [e] at hm; simp at hm
  rw [List.getLastD_eq_getLast?, List.getLast?_eq_some_getLast hne, getElem!_pos L.sg m (by omega)]
  simp [List.getLast_eq_getElem, hm]
theorem gb_set2 {X : World} (h : Gb w X) (p : Addr) (v : Value) : Gb (w.setCell p v) (X.setCell p v) := by
  refine ⟨h.os, h.tape, h.output, by simpa using h.size, fun k hk => ?_⟩
  have hk' : k < w.heap.size := by simpa using hk
  have := h.block k hk'
  simp only [World.setCell, Array.getElem?_modify, this]
theorem CurA.gb {g o : Nat} {X : World} (h : CurA w a b L q E g o) (k : Gb w X) : CurA X a b L q E g o := by
  obtain ⟨h1, h2, h3, h4, h5, h6, h7⟩ := h
  refine ⟨gb_keeps k h1, gb_keeps k h2, fun i => ?_, Nat.lt_of_lt_of_le h4 k.size, h5, h6, fun z => (h7 z).gb (gb_set2 k _ _)⟩
  rw [← h3 i]
  exact World.frozen?_of_block (k.block g h4)
set_option maxRecDepth 100000 in
theorem wcurrent2_c (h : WaAt w a b L q E) (hne : L.sg ≠ []) (hlen : L.sg.length ≤ 1000000) : Calls Tryz.prog 40 #[.pointer (some ⟨a, 0, none⟩)] w fun e w' => (∃ g o off c, e = .returned (.pointer (some ⟨g, o, none⟩)) ∧ CurA w' a b L q E g o ∧ w.cell? ⟨a, 1, none⟩ = some (.slice (some ⟨g, off, none⟩) L.sg.length c) ∧ o = off + (L.sg.length - 1) * 2) ∧ Gb w w' := by
  obtain ⟨m, hm⟩ : ∃ m, L.sg.length = m + 1 := ⟨L.sg.length - 1, by have := List.length_pos_iff.2 hne; omega⟩
  obtain ⟨g, off, c, c1, hc, hcell, fz, hg, Eg, nga, hset⟩ := h.row hm
  have ha : a < w.heap.size := h.lt a h.inE
  have k0 := hcell m (by omega)
  rw [cur_get hm] at k0
  have C : Hid (CurA w a b L q E g (off + m * 2)) := ⟨k0.1, k0.2, fz, hg, Eg, nga, hset⟩
  have hc2 : Hid (w.cell? ⟨a, 1, none⟩ = some (.slice (some ⟨g, off, none⟩) L.sg.length c) ∧ off + m * 2 = off + (L.sg.length - 1) * 2) := by rw [hm]; exact ⟨c1, rfl⟩
  have e1 : ((m + 1 : Nat) : Int) - 1 = (m : Int) := by omega
  have hm1 : m ≤ 1000000 := by omega
  have i1 : (0 : Int) ≤ (m : Int) := by omega
  have i2 : (m : Int) < ((m + 1 : Nat) : Int) := by omega
  generalize hn : m + 1 = n at *
  clear hcell k0 fz hset hne hlen h hm
  go_enter Tryz.func40, Tryz.ntmps40
  go_wp2
  go_quiet (fail)
  go_wp2
  go_ret
  exact ⟨⟨g, off + m * 2, off, c, rfl, C.out.gb (below_drewN (Below.refl _ _) _), hc2.out.1, hc2.out.2⟩, below_drewN (Below.refl _ _) _⟩
theorem wcurrent_c (h : WaAt w a b L q E) (hne : L.sg ≠ []) (hlen : L.sg.length ≤ 1000000) : Calls Tryz.prog 40 #[.pointer (some ⟨a, 0, none⟩)] w fun e w' => (∃ g o, e = .returned (.pointer (some ⟨g, o, none⟩)) ∧ CurA w' a b L q E g o) ∧ Gb w w' :=
  (wcurrent2_c h hne hlen).mono fun e w' h => by
    obtain ⟨⟨g, o, _, _, h1, h2, _⟩, h3⟩ := h
    exact ⟨⟨g, o, h1, h2⟩, h3⟩
theorem WaAt.curAt (h : WaAt w a b L q E) (hne : L.sg ≠ []) (hlen : L.sg.length ≤ 1000000) : ∃ g o, CurB w a g ∧ (w.cell? ⟨g, o, none⟩ = some (.int .i64 L.cur.1) ∧ w.cell? ⟨g, o + 1, none⟩ = some (.int .i64 L.cur.2) ∧ g < w.heap.size) ∧
    ∀ X, Gb w X → Calls Tryz.prog 40 #[.pointer (some ⟨a, 0, none⟩)] X fun e w1 => e = .returned (.pointer (some ⟨g, o, none⟩)) ∧ CurA w1 a b L q E g o ∧ Gb X w1 := by
  obtain ⟨m, hm⟩ : ∃ m, L.sg.length = m + 1 := ⟨L.sg.length - 1, by have := List.length_pos_iff.2 hne; omega⟩
  obtain ⟨g, off, c, c1, _, hcell, _, hg, _⟩ := h.row hm
  have k0 := hcell m (by omega)
  rw [cur_get hm] at k0
  refine ⟨g, off + m * 2, ⟨_, _, _, c1⟩, ⟨k0.1, k0.2, hg⟩, fun X gX => ?_⟩
  refine (wcurrent2_c (h.gb gX) hne hlen).mono ?_
  rintro e w1 ⟨⟨g', o', off', c', rfl, C, hc, rfl⟩, g1⟩
  rw [gb_keeps gX c1] at hc
  injection hc with hc
  injection hc with e1 e2 e3
  injection e1 with e1
  injection e1 with e4 e5 e6
  subst e4 e5
  have e7 : off + (L.sg.length - 1) * 2 = off + m * 2 := by rw [hm]; rfl
  rw [e7] at C ⊢
  exact ⟨rfl, C, g1⟩
end Go.Proofs.YtcbhhdjjanekaaaGreatDoor
