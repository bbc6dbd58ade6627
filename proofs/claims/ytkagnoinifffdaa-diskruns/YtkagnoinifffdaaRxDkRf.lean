/- The reference's Names, Sync. -/
import Derived.Test.YtkagnoinifffdaaRxDkRe
namespace Go.Proofs.Ytkagnoinifffdaa
open Go.RowKit Go.Lib Go.Maps

variable {w w' W : World} {p : Nat} {q q' : Dq} {nu : List Int} {r : Rf} {L : List (Value × Nat)} {fv nv sv cv : Value} {F G B : Nat → Prop}
theorem Try.infoSt : (Try.prog.info? 9).map (fun i => (i.zero, i.size, i.bytes)) = some (some (.string ByteArray.empty), 1, 16) := by kernel_rfl
theorem infoT : ∃ i, Try.prog.info? 9 = some i ∧ i.zero = some (.string ByteArray.empty) ∧ i.size = 1 ∧ i.bytes = 16 := info_parts Try.infoSt
theorem encS_one (l : List By) : ∀ u ∈ l.map encStr, u.oneCell' = true := by
  intro u hu
  obtain ⟨x, _, rfl⟩ := List.mem_map.1 hu
  rfl
/-- A text put behind texts of the call's own. -/
theorem appT_one {w0 : World} {a : Option Addr} {c : Nat} {l : List By} (g0 : Gb w0 w) (h : OwnT w w0.heap.size (.slice a l.length c) l) (hl : l.length ≤ 100000) (x : By) :
    ∃ a' c' w', (Builtin.append_ #[50, 50] 50 #[.slice a l.length c, .slice (some ⟨w.heap.size, 0, none⟩) 1 1]).run Try.prog (w.alloc (.cells #[.string (sb x)] 9)) = .ok (.slice a' (l.length + 1) c') w' ∧ OwnT w' w0.heap.size (.slice a' (l.length + 1) c') (l ++ [x]) ∧ Gb w0 w' := by
  obtain ⟨i0, hi, hz0, hz1, hz2⟩ := infoT
  have ha := World.ownsRow.alloc h (.cells #[.string (sb x)] 9)
  obtain ⟨v', w', hr, ho, hg, _⟩ := run_append_own_at (P := Try.prog) _ w0.heap.size 50 50 9 i0 (.string ByteArray.empty) 1 16 Try.underlying50 hi hz0 hz1 hz2 rfl (by decide) _ _ _ ha ⟨w.heap.size, 0, none⟩ 1 1 [.string (sb x)] rfl
    (fun j u hj => by
      rw [Addr.add_lit]
      rcases j with _ | j
      · simp at hj; subst hj; simp [go_sem]
      · simp at hj) (by intro u hu; rw [List.mem_singleton.1 hu]; rfl) (by unfold maxLen; omega) (by omega) (by have := g0.size; simp; omega)
  obtain ⟨a', c', rfl⟩ := row_fm ho
  refine ⟨a', c', w', hr, ?_, ?_⟩
  · unfold OwnT
    rw [List.length_append, List.map_append]; exact ho
  · have gA := gb_alloc g0 (.cells #[.string (sb x)] 9)
    exact ⟨hg.os.trans gA.os, hg.tape.trans gA.tape, hg.output.trans gA.output, Nat.le_trans gA.size hg.size, fun j hj => (hg.block j (Nat.lt_of_lt_of_le hj gA.size) fun e => by have := (World.ownsRow.lt ha j e.symm).1; omega).trans (gA.block j hj)⟩
set_option maxHeartbeats 1000000 in
set_option maxRecDepth 100000 in
theorem rnames_r (h : RfM w p q nu r L fv nv sv cv G B) (hr : RelQ nu q r) (ok : q.Ok) (hi : q.Inj) (hst : q.st < 100000) : Calls Try.prog 33 #[.pointer (some ⟨p, 0, none⟩)] w fun e w' => ∃ v, e = .returned v ∧ OwnT w' w.heap.size v (nmL q) ∧ Gb w w' := by
  have hl : r.nm.length ≤ 100000 := by have := hr.nm.len hi.now.ks; have := ok.nmL; omega
  have CD : Hid (∀ W, Gb w W → Calls Try.prog 35 #[.pointer (some ⟨p, 0, none⟩)] W fun e w' => e = .returned (.bool (decide (q.lf = 0))) ∧ w' = W) := fun W g => rdown_r (h.g g)
  obtain ⟨a, cap, ev, _, _, ha⟩ := h.nms.at_
  have CC : Hid (∀ W, Gb w W → W.cell? ⟨p, 2, none⟩ = some nv ∧ p < W.heap.size) := fun W g => by
    have X := h.g g
    exact ⟨X.cells.1.2.2.1, X.lt⟩
  rw [ev] at CC
  have A : Hid (∀ i, i < r.nm.length → ∃ g, a = some ⟨g, 0, none⟩ ∧ w.cell? ⟨g, i * 2, none⟩ = some (.string (sb r.nm[i]!.1))) := fun i hi => by
    obtain ⟨g, e1, k1, _⟩ := ha i hi
    exact ⟨g, e1, k1⟩
  by_cases e0 : q.lf = 0
  · have E : nmL q = [] := by unfold nmL; rw [if_pos e0]
    rw [E]
    have cD := CD.out w (Below.refl _ _)
    rw [decide_eq_true e0] at cD
    obtain ⟨c2, _⟩ := CC.out w (Below.refl _ _)
    generalize r.nm.length = n at *
    clear h hr ok hi hst e0 ev ha A CC CD E
    go_enter Try.func33, Try.ntmps33
    go_wp2
    refine wp_loop_rounds 1 ?_
    rw [rounds_succ]
    by_cases hn : 0 < n
    · have hni : (0 : Int) < (n : Int) := by omega
      go_wp2_with fail
      refine cD.mono ?_
      rintro e w' ⟨rfl, rfl⟩
      go_wp2
      go_ret
      exact ⟨_, rfl, World.ownsRow_nil _ _ _ _, Below.refl _ _⟩
    · obtain rfl : n = 0 := by omega
      go_wp2
      go_ret
      exact ⟨_, rfl, World.ownsRow_nil _ _ _ _, Below.refl _ _⟩
  · have E : nmL q = r.nm.map Prod.fst := by unfold nmL; rw [if_neg e0]; exact hr.nm.srt hi.now.ks
    rw [E]
    have CD : Hid (∀ W, Gb w W → Calls Try.prog 35 #[.pointer (some ⟨p, 0, none⟩)] W fun e w' => e = .returned (.bool false) ∧ w' = W) := fun W g => by
      have := CD.out W g
      rw [decide_eq_false e0] at this; exact this
    obtain ⟨n, hN⟩ : ∃ n, n = r.nm.length := ⟨_, rfl⟩
    have N : Hid (n = r.nm.length) := hN
    rw [← hN] at CC hl
    obtain ⟨c2, _⟩ := CC.out w (Below.refl _ _)
    clear h hr ok hi hst e0 ev ha E hN
    go_enter Try.func33, Try.ntmps33
    go_wp2
    go_loopw [3, 4] (fun ov iv W => ∃ i : Nat, ∃ b c, iv = .int .i64 (i : Int) ∧ ov = .slice b i c ∧ i ≤ n ∧ Hid (OwnT W w.heap.size (.slice b i c) ((r.nm.take i).map Prod.fst) ∧ Gb w W)) (fun _ iv _ => n - (intOf iv).toNat)
    case atStart => exact ⟨0, none, 0, rfl, rfl, Nat.zero_le _, World.ownsRow_nil _ _ _ _, Below.refl _ _⟩
    case round =>
      obtain ⟨i, b, c, rfl, rfl, hi, X⟩ := hrel
      obtain ⟨d2, d3⟩ := CC.out _ X.out.2
      by_cases hin : i < n
      · have hii : (i : Int) < (n : Int) := by omega
        have hil : i < r.nm.length := by have := N.out; omega
        obtain ⟨g, rfl, k1⟩ := A.out i hil
        have k1 := gb_keeps X.out.2 k1
        have cD := CD.out _ X.out.2
        have lt : ((r.nm.take i).map Prod.fst).length = i := by rw [List.length_map, List.length_take]; omega
        have X1 := X.out.1
        rw [← lt] at X1
        obtain ⟨b', c', W4, hra, ho, hg⟩ := appT_one X.out.2 (by rw [lt] at X1 ⊢; exact X1) (by rw [lt]; omega) r.nm[i]!.1
        rw [lt] at hra ho
        have X2 : Hid (OwnT W4 w.heap.size (.slice b' (i + 1) c') ((r.nm.take (i + 1)).map Prod.fst) ∧ Gb w W4) := by
          refine ⟨?_, hg⟩
          rw [List.take_succ_eq_append_getElem hil, List.map_append, ← getElem!_pos r.nm i hil]; exact ho
        clear A CC CD c2 lt X1 ho hg X
        generalize sb r.nm[i]!.1 = z at *
        go_wp2_with fail
        refine cD.mono ?_
        rintro e w' ⟨rfl, rfl⟩
        clear cD
        go_wp2_with (first | (at_builtin; refine wpl_append rfl (.tmp 19) (.tmp 28) 50 rfl _ _ rfl rfl hra ?_) | go_in)
        exact ⟨⟨i + 1, b', c', by simp, rfl, hin, X2.out⟩, by simp [intOf]; omega⟩
      · have ei : i = n := by omega
        subst ei
        have hii : ¬ (i : Int) < (i : Int) := by omega
        have X2 : Hid (OwnT wr w.heap.size (.slice b i c) (r.nm.map Prod.fst) ∧ Gb w wr) := by
          have := X.out
          rw [List.take_of_length_le (by have := N.out; omega)] at this
          exact this
        clear A CC CD X
        go_wp2
        go_ret
        exact ⟨_, rfl, X2.out⟩
end Go.Proofs.Ytkagnoinifffdaa
