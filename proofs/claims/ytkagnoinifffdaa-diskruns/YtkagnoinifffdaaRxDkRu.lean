/- Read once more: the room of what it tells is bytes too; theodolitekeep.SpoilBytes. -/
import Derived.Test.YtkagnoinifffdaaRxDkS1
import Derived.Test.YtkagnoinifffdaaRxDkZ6
namespace Go.Proofs.Ytkagnoinifffdaa
open Go.RowKit Go.Lib Go.Maps

variable {w w' W : World} {b : Nat} {q q' : Dq} {F G : Nat → Prop}
/-- Bytes of the call's own, and their room. -/
def RmB (w : World) (base : Nat) (a : Option Addr) (c : Nat) : Prop := a = none ∧ c = 0 ∨ ∃ g, a = some ⟨g, 0, none⟩ ∧ base ≤ g ∧ AnyB w g c
theorem wpl_append2 {P : Program} {w : World} {ops : Array Oper} {rest : List Oper} {o : Oper} {a : Act} {Q : Exit → Act → World → Prop} (hgd : o.guard = none) (s x : Operand) (t : TypeId)
    (ho : o.op = .call { callee := .builtin .append, args := #[s, x], argTypes := #[t, t] }) (v u : Value) (hs : a.eval s = v) (hx : a.eval x = u) {r : Value} {w' : World} (hr : (Builtin.append_ #[t, t] o.type #[v, u]).run P w = .ok r w')
    (h : wpList P ops Q rest (a.put o.dst r) w') : wpList P ops Q (o :: rest) a w := by
  refine wpList_plain hgd fun K hK => ?_
  unfold Oper.wp
  simp [execOp, ho, resolve, invoke, builtin, hs, hx, hr, Result.andThen]
  exact hK _ _ h
set_option maxRecDepth 100000 in
set_option maxHeartbeats 2000000 in
theorem cloneB2 {v : Value} {l : By} (h : CpB w v l) (hl : l.length ≤ 4194304) : Calls Try.prog 39 #[v] w fun e w' => ∃ a c, e = .returned (.slice a l.length c) ∧ OwnB w' w.heap.size (.slice a l.length c) l ∧ RmB w' w.heap.size a c ∧ Gb w w' := by
  obtain ⟨a, cap, rfl, h⟩ := h
  rcases h with ⟨rfl, rfl⟩ | ⟨g, o, rfl, h⟩
  · have hc := AnyE.slices_Clone_nil Try.layCB (([] : By).length) cap w
    change Calls Try.prog 39 _ _ _ at hc
    refine hc.mono ?_
    rintro e w' ⟨rfl, rfl⟩
    exact ⟨none, 0, rfl, ownb_nil _ _, .inl ⟨rfl, rfl⟩, Below.refl _ _⟩
  · obtain ⟨i0, hi, hz0, hz1, hz2⟩ := info5
    have hg0 : Gb w (w.alloc (.cells #[] 5)) := gb_alloc (Below.refl _ w) _
    have hu : ∀ j u, (l.map bv)[j]? = some u → (w.alloc (.cells #[] 5)).cell? ((⟨g, o, none⟩ : Addr).add j) = some u := fun j u hj => by
      rw [Addr.add_lit]; exact gb_keeps hg0 (h j u hj)
    have KEY : Hid (∃ a' c' W', (Builtin.append_ #[33, 33] 33 #[.slice (some ⟨w.heap.size, 0, none⟩) 0 0, .slice (some ⟨g, o, none⟩) l.length cap]).run Try.prog (w.alloc (.cells #[] 5)) = .ok (.slice a' l.length c') W' ∧ Hid (OwnB W' w.heap.size (.slice a' l.length c') l ∧ RmB W' w.heap.size a' c' ∧ Gb w W')) := by
      by_cases hm : l = []
      · subst hm
        refine ⟨some ⟨w.heap.size, 0, none⟩, 0, w.alloc (.cells #[] 5), ?_, ?_, .inr ⟨_, rfl, Nat.le_refl _, #[], heap_alloc_new _ _, rfl, fun i hi => absurd hi (Nat.not_lt_zero _)⟩, hg0⟩
        · have hf := run_firstCells_some (P := Try.prog) (w.alloc (.cells #[] 5)) i0.size 0 ⟨g, o, none⟩ 0 cap [] (by simp) (by simp)
          simp [Builtin.append_, run_underlying Try.underlying33, sizeOf, typeInfo, hi, Builtin.lenOf, hf, storeCells]
        · exact World.ownsRow_made w #[] 0 (Nat.le_refl _) (Nat.zero_le _) (by simp)
      · have hm0 : 0 < l.length := List.length_pos_iff.2 hm
        have hr := run_append_grow (P := Try.prog) (w := w.alloc (.cells #[] 5)) 33 33 5 i0 (.int .u8 0) Try.underlying33 hi hz0 ⟨w.heap.size, 0, none⟩ 0 0 [] (by simp) (by simp) ⟨g, o, none⟩ l.length cap (l.map bv) (by rw [hz1]; simp) hu (by omega) (by omega) (growslice_fits (by omega) (by rw [hz2]; omega))
        rw [Nat.zero_add] at hr
        have hge : l.length ≤ grownCap (w.alloc (.cells #[] 5)) l.length 0 5 := grownCap_ge _ _ _ _
        have hle : grownCap (w.alloc (.cells #[] 5)) l.length 0 5 ≤ maxLen := grownCap_le_maxLen _ _ _ _ (by unfold maxLen; omega)
        refine ⟨_, _, _, hr, ?_⟩
        generalize grownCap (w.alloc (.cells #[] 5)) l.length 0 5 = C at *
        have zc : ∀ k, (Builtin.zeroCells (Value.cells (.int .u8 0)) k) = Array.replicate k (.int .u8 0) := fun k => by
          apply Array.ext
          · simp [Builtin.zeroCells, Value.cells]
          · intro i h1 h2
            simp [Builtin.zeroCells, Value.cells, Nat.mod_one]
        rw [zc]
        have sz : (w.alloc (.cells #[] 5)).heap.size = w.heap.size + 1 := by simp
        have hb := heap_alloc_new (w.alloc (.cells #[] 5)).drew (.cells ((([] : List Value).toArray ++ (l.map bv).toArray) ++ Array.replicate (C - l.length) (.int .u8 0)) 5)
        have gW : Gb w ((w.alloc (.cells #[] 5)).drew.alloc (.cells ((([] : List Value).toArray ++ (l.map bv).toArray) ++ Array.replicate (C - l.length) (.int .u8 0)) 5)) := gb_alloc hg0.drew _
        refine ⟨⟨by simp, .inr ⟨_, C, _, rfl, by show w.heap.size ≤ (w.alloc _).heap.size; omega, hb, hge, hle, by simp; omega, by simp⟩⟩, .inr ⟨_, rfl, by show w.heap.size ≤ (w.alloc _).heap.size; omega, _, hb, by simp; omega, fun i hi => ?_⟩, gW⟩
        by_cases hil : i < l.length
        · refine ⟨(l[i].toNat : Int), ?_⟩
          rw [Array.getElem?_append_left (by simpa using hil)]
          simp [bv, List.getElem?_eq_getElem hil]
        · refine ⟨0, ?_⟩
          rw [Array.getElem?_append_right (by simpa using hil)]
          rw [Array.getElem?_replicate, if_pos (by simp; omega)]
    obtain ⟨a', c', W', hr, R⟩ := KEY.out
    clear KEY hu hg0 h hi hz0 hz1 hz2
    have R : Hid _ := R
    generalize hn : l.length = n at *
    clear hn
    have q22 : ∀ (w : World) (a : Option Addr) (n c n' c' : Nat), (binOp .eql 33 (.slice a n c) (.slice none n' c')).run Try.prog w = .ok (.bool a.isNone) w := fun w a n c n' c' => Lib.run_eql_slice_nil w _ _ a n c n' c' Try.underlying33
    go_enter Try.func39, Try.ntmps39
    go_wp2_with (first | (at_builtin; refine wpl_append2 rfl (.tmp 5) (.tmp 6) 33 rfl _ _ rfl rfl hr ?_) | go_in)
    go_ret
    exact ⟨_, _, rfl, R.out⟩
set_option maxHeartbeats 1000000 in
theorem read2_c (h : DkAt w b q F) (ok : q.Ok) {x : By} (hx : KWfS x) : Calls Try.prog 21 #[.pointer (some ⟨b, 0, none⟩), .string (sb x)] w fun e w' => ∃ a c, e = .returned (.tuple #[.slice a (rdV q x).length c, .int .i64 (fiE q x)]) ∧ OwnB w' w.heap.size (.slice a (rdV q x).length c) (rdV q x) ∧ RmB w' w.heap.size a c ∧ Gb w w' := by
  have hf := find_c h ok hx
  by_cases e1 : fiE q x = 0
  · obtain ⟨z1, z2, z3⟩ := fiE_zero e1
    have E1 : rdV q x = q.fb (num q.nm x) := by unfold rdV; rw [if_pos e1]
    rw [e1, z3] at hf
    rw [e1, E1]
    obtain ⟨ks, fm, nb, sn, cv, fv, h1, h2, h3, h4⟩ := h
    have hl := h1.file (h1.numK z2)
    have hc1 := h1.cells.1.2.1
    have ho := h1.own _ (h1.numK z2)
    have hC := cloneB2 ho.cp (ok.fb _)
    obtain ⟨fa, fc, ef⟩ := row_fm ho
    have fl := fun w => fld_bytes (fv (num q.nm x)) (.int .i64 (q.fs (num q.nm x) : Int)) w
    rw [ef] at hl fl hC
    generalize q.fb (num q.nm x) = l at *
    generalize l.length = m at *
    generalize num q.nm x = n at *
    generalize q.fs n = fsn at *
    generalize sb x = s at *
    clear h1 h2 h3 h4 ok e1 E1 hx z1 z2 z3 ho ef
    go_enter Try.func21, Try.ntmps21
    go_wp2_with fail
    refine hf.mono ?_
    rintro e w' ⟨rfl, rfl⟩
    go_wp2_with fail
    refine hC.mono ?_
    rintro e w1 ⟨a, c, rfl, R⟩
    go_wp2
    exact bodyPost_ret (v := .tuple #[.slice a m c, .int .i64 0]) (by simp [results, Try.results21, go_sem]) rfl ⟨a, c, rfl, R⟩
  · have E1 : rdV q x = [] := by unfold rdV; rw [if_neg e1]
    rw [E1]
    have e1' : (fiE q x == 0) = false := by rw [beq_eq_false_iff_ne]; exact e1
    generalize fiE q x = k at *
    generalize fiN q x = n at *
    generalize sb x = s at *
    clear h ok e1 hx E1
    go_enter Try.func21, Try.ntmps21
    go_wp2_with fail
    refine hf.mono ?_
    rintro e w' ⟨rfl, rfl⟩
    go_wp2
    exact bodyPost_ret (v := .tuple #[.slice none 0 0, .int .i64 k]) (by simp [results, Try.results21, go_sem]) rfl ⟨none, 0, rfl, ownb_nil _ _, .inl ⟨rfl, rfl⟩, Below.refl _ _⟩
set_option maxHeartbeats 1000000 in
set_option maxRecDepth 100000 in
/-- What is written over is the call's own. -/
theorem spoil_c {w0 : World} {a : Option Addr} {n c : Nat} (h : RmB w w0.heap.size a c) (hn : n ≤ c) (hc : c ≤ 9223372036854775807) (g0 : Gb w0 w) : Calls Try.prog 37 #[.slice a n c] w fun e w' => e = .returned (.tuple #[]) ∧ Gb w0 w' := by
  rcases h with ⟨rfl, rfl⟩ | ⟨g, rfl, hg, hA⟩
  · obtain rfl : n = 0 := by omega
    go_enter Try.func37, Try.ntmps37
    go_wp2
    refine wp_loop_rounds 1 ?_
    rw [rounds_succ]
    go_wp2
    go_end0
    exact ⟨rfl, g0⟩
  · have A : Hid (AnyB w g c ∧ Gb w0 w ∧ w0.heap.size ≤ g) := ⟨hA, g0, hg⟩
    have c0 : (0 : Int) ≤ (c : Int) := by omega
    clear hA g0 hg
    go_enter Try.func37, Try.ntmps37
    go_wp2
    go_loopw [2] (fun iv W => ∃ i : Nat, iv = .int .i64 (i : Int) ∧ i ≤ c ∧ Hid (AnyB W g c ∧ Gb w0 W)) (fun iv _ => c - (intOf iv).toNat)
    case atStart => exact ⟨0, rfl, Nat.zero_le _, A.out.1, A.out.2.1⟩
    case round =>
      obtain ⟨i, rfl, hi, X⟩ := hrel
      by_cases hic : i < c
      · have hii : (i : Int) < (c : Int) := by omega
        obtain ⟨z, z1, z2⟩ := X.out.1.cell hic
        have gl := cell_lt z1
        have N : Hid (∀ y, AnyB (wr.setCell ⟨g, i, none⟩ (.int .u8 y)) g c ∧ Gb w0 (wr.setCell ⟨g, i, none⟩ (.int .u8 y))) := fun y => ⟨X.out.1.set y, gb_set X.out.2 A.out.2.2 _⟩
        clear X
        go_wp2
        exact ⟨⟨i + 1, by simp, hic, N.out _⟩, by simp [intOf]; omega⟩
      · obtain rfl : i = c := by omega
        have hii : ¬ (i : Int) < (i : Int) := by omega
        go_wp2
        go_end0
        exact ⟨rfl, X.out.2⟩
end Go.Proofs.Ytkagnoinifffdaa
