/- The reference's lists of names in memory: find, without, with, apply. -/
import Derived.Test.YtkagnoinifffdaaRx21
import Derived.Laws.AppendOwnNone
import Derived.Sort.Walk0
import Derived.Deep.RegionHeld3
namespace Go.Proofs.Ytkagnoinifffdaa
open Go.RowKit Go.Lib Go.Maps

variable {w w' W : World} {base : Nat} {v u : Value} {l m : Rn}
def nmV (p : By × Nat) : List Value := [.string (sb p.1), .int .i64 (p.2 : Int)]
def OwR (w : World) (base : Nat) (v : Value) (l : Rn) : Prop := w.ownsRow base 96 2 v l.length (l.flatMap nmV)
theorem Try.infoNm : (Try.prog.info? 96).map (fun i => (i.zero, i.size, i.bytes)) = some (some (.agg #[.string ByteArray.empty, .int .i64 0]), 2, 24) := by kernel_rfl
theorem infoN : ∃ i, Try.prog.info? 96 = some i ∧ i.zero = some (.agg #[.string ByteArray.empty, .int .i64 0]) ∧ i.size = 2 ∧ i.bytes = 24 := info_parts Try.infoNm
theorem nmV_len (l : Rn) : (l.flatMap nmV).length = l.length * 2 := by
  induction l with
  | nil => rfl
  | cons a r ih => rw [List.flatMap_cons, List.length_append, ih, List.length_cons, show (nmV a).length = 2 from rfl]; omega
theorem nmV_one (l : Rn) : ∀ u ∈ l.flatMap nmV, u.oneCell' = true := by
  intro u hu
  obtain ⟨p, _, h⟩ := List.mem_flatMap.1 hu
  simp only [nmV, List.mem_cons, List.not_mem_nil, or_false] at h
  rcases h with rfl | rfl <;> rfl
theorem nm_get (l : Rn) (i c : Nat) (hi : i < l.length) (hc : c < 2) : (l.flatMap nmV)[i * 2 + c]? = (nmV l[i]!)[c]? := by
  induction l generalizing i with
  | nil => exact absurd hi (Nat.not_lt_zero _)
  | cons a r ih =>
    rw [List.flatMap_cons]
    cases i with
    | zero =>
      rw [List.getElem?_append_left (by simp [nmV]; omega)]
      simp
    | succ i =>
      rw [List.getElem?_append_right (by simp [nmV]; omega)]
      have : (i + 1) * 2 + c - (nmV a).length = i * 2 + c := by simp [nmV]; omega
      rw [this, ih i (by simpa using hi)]
      simp
theorem OwR.at_ (h : OwR w base v l) : ∃ a cap, v = .slice a l.length cap ∧ l.length ≤ cap ∧ (a = none → cap = 0) ∧ ∀ i, i < l.length → ∃ g, a = some ⟨g, 0, none⟩ ∧ w.cell? ⟨g, i * 2, none⟩ = some (.string (sb l[i]!.1)) ∧ w.cell? ⟨g, i * 2 + 1, none⟩ = some (.int .i64 (l[i]!.2 : Int)) := by
  rcases id h.2 with ⟨e, e0⟩ | ⟨g, cap, cur, e, h1, h2, h3, _⟩
  · exact ⟨none, 0, by rw [e, e0], by omega, fun _ => rfl, fun i hi => by omega⟩
  · refine ⟨_, cap, e, h3, (fun e => nomatch e), fun i hi => ⟨g, rfl, ?_, ?_⟩⟩
    · have := World.ownsRow.cells h (g := g) (by rw [e]; rfl) (i * 2) _ (by have := nm_get l i 0 hi (by omega); rw [Nat.add_zero] at this; rw [this]; rfl)
      rw [Addr.add_lit, Nat.zero_add] at this; exact this
    · have := World.ownsRow.cells h (g := g) (by rw [e]; rfl) (i * 2 + 1) _ (by rw [nm_get l i 1 hi (by omega)]; rfl)
      rw [Addr.add_lit, Nat.zero_add] at this; exact this
theorem OwR.gb (h : OwR w base v l) (g : Gb w w') : OwR w' base v l := row_same h fun k e => g.block k (World.ownsRow.lt h k e).2
theorem OwR.mono (h : OwR w base v l) {B : Nat} (hB : B ≤ base) : OwR w B v l := World.ownsRow.mono h hB
/-- find. -/
def FdR (l : Rn) (x : By) (r : Int) : Prop := r = -1 ∧ x ∉ l.map Prod.fst ∨ ∃ i : Nat, r = (i : Int) ∧ i < l.length ∧ l[i]!.1 = x
theorem sb_ne {x y : By} (h : x ≠ y) : ((sb x).toList == (sb y).toList) = false := by
  rw [beq_eq_false_iff_ne]
  intro e
  rw [ByteArray.toList_eq, ByteArray.toList_eq] at e
  exact h e
set_option maxRecDepth 100000 in
set_option maxHeartbeats 1000000 in
theorem rfind_c {x : By} (h : OwR w base v l) (hl : l.length ≤ 1000000) : Calls Try.prog 66 #[v, .string (sb x)] w fun e w' => ∃ r : Int, e = .returned (.int .i64 r) ∧ FdR l x r ∧ w' = w := by
  obtain ⟨a, cap, rfl, hcap, _, ha⟩ := h.at_
  have A : Hid (∀ i, i < l.length → ∃ g, a = some ⟨g, 0, none⟩ ∧ w.cell? ⟨g, i * 2, none⟩ = some (.string (sb l[i]!.1)) ∧ w.cell? ⟨g, i * 2 + 1, none⟩ = some (.int .i64 (l[i]!.2 : Int))) := ha
  obtain ⟨n, hN⟩ : ∃ n, n = l.length := ⟨_, rfl⟩
  have N : Hid (n = l.length) := hN
  rw [← hN] at hl hcap ⊢
  obtain ⟨sx, hsx⟩ : ∃ s, s = sb x := ⟨_, rfl⟩
  have SX : Hid (sx = sb x) := hsx
  rw [← hsx]
  clear ha hN h hsx
  go_enter Try.func66, Try.ntmps66
  go_wp2
  go_loopw [5] (fun iv W => ∃ i : Nat, iv = .int .i64 (i : Int) ∧ i ≤ n ∧ W = w ∧ Hid (∀ j, j < i → l[j]!.1 ≠ x)) (fun iv _ => n - (intOf iv).toNat)
  case atStart => exact ⟨0, rfl, Nat.zero_le _, rfl, fun j hj => absurd hj (Nat.not_lt_zero _)⟩
  case round =>
    obtain ⟨i, rfl, hi, rfl, X⟩ := hrel
    by_cases hin : i < n
    · have hii : (i : Int) < (n : Int) := by omega
      obtain ⟨g, e1, k1, _⟩ := A.out i (by have := N.out; omega)
      subst e1
      by_cases e : l[i]!.1 = x
      · rw [e, ← SX.out] at k1
        have FIN : Hid (FdR l x (i : Int)) := .inr ⟨i, rfl, by have := N.out; omega, e⟩
        clear X e A
        go_wp2
        go_ret
        exact ⟨_, rfl, FIN.out, rfl⟩
      · have hne := sb_ne e
        have X2 : Hid (∀ j, j < i + 1 → l[j]!.1 ≠ x) := fun j hj => by
          by_cases ej : j = i
          · subst ej; exact e
          · exact X.out j (by omega)
        rw [← SX.out] at hne
        generalize sb l[i]!.1 = z at *
        clear A e X
        go_wp2
        exact ⟨⟨i + 1, by simp, hin, trivial, X2.out⟩, by simp [intOf]; omega⟩
    · have ei : i = n := by omega
      subst ei
      have FIN : Hid (FdR l x (-1)) := .inl ⟨rfl, fun hm => by
        obtain ⟨p, hp, e⟩ := List.mem_map.1 hm
        obtain ⟨j, hj, ej⟩ := List.getElem_of_mem hp
        refine X.out j (by have := N.out; omega) ?_
        rw [getElem!_pos l j hj, ej]; exact e⟩
      clear X A
      go_wp2
      go_ret
      exact ⟨_, rfl, FIN.out, rfl⟩
/-- append of names onto names of the call's own. -/
def RdNs (w : World) (u : Value) (m : Rn) : Prop := ∃ a cap, u = .slice a m.length cap ∧ (a = none ∧ cap = 0 ∧ m = [] ∨ ∃ ad, a = some ad ∧ ∀ j x, (m.flatMap nmV)[j]? = some x → w.cell? (ad.add j) = some x)
theorem appN_run (h : OwR w base v l) (hu : RdNs w u m) (hb : base ≤ w.heap.size) (hl : l.length + m.length ≤ 1000000) :
    ∃ ax c w', (Builtin.append_ #[65, 65] 65 #[v, u]).run Try.prog w = .ok (.slice ax (l.length + m.length) c) w' ∧ OwR w' base (.slice ax (l.length + m.length) c) (l ++ m) ∧ w.grownBy w' v.ownBlock ∧
      ∀ k, (Value.slice ax (l.length + m.length) c).ownBlock = some k → v.ownBlock = some k ∨ w.heap.size ≤ k := by
  obtain ⟨i0, hi, hz0, hz1, hz2⟩ := infoN
  obtain ⟨a, cap, rfl, hu⟩ := hu
  rcases hu with ⟨rfl, rfl, rfl⟩ | ⟨ad, rfl, hu⟩
  · obtain ⟨ax, c, rfl, hc, _⟩ := h.at_
    have hc : ¬ c < l.length := by omega
    refine ⟨ax, c, w, ?_, ?_, ⟨rfl, rfl, rfl, Nat.le_refl _, fun _ _ _ => rfl⟩, fun k e => .inl e⟩
    · cases ax <;> simp [Builtin.append_, run_underlying Try.underlying65, sizeOf, typeInfo, hi, Builtin.lenOf, Builtin.firstCells, storeCells, hc]
    · simpa using h
  · obtain ⟨v', w', hr, ho, hg, _, hbk⟩ := run_append_own_at (P := Try.prog) w base 65 65 96 i0 (.agg #[.string ByteArray.empty, .int .i64 0]) 2 24 Try.underlying65 hi hz0 hz1 hz2 rfl (by decide) _ _ _ h ad m.length cap (m.flatMap nmV) (nmV_len m) hu (nmV_one m) (by unfold maxLen; omega) (by omega) hb
    obtain ⟨ax, c, rfl⟩ := row_fm ho
    refine ⟨ax, c, w', hr, ?_, hg, fun k e => ?_⟩
    · unfold OwR
      rw [List.length_append, List.flatMap_append]; exact ho
    · rcases hbk with h | h
      · exact .inl (by rw [← h]; exact e)
      · rw [h] at e; cases e; exact .inr (Nat.le_refl _)
theorem OwR.grown {w0 : World} (h : OwR w w0.heap.size v l) (g0 : Gb w0 w) (g : w.grownBy w' v.ownBlock) : Gb w0 w' :=
  ⟨g.os.trans g0.os, g.tape.trans g0.tape, g.output.trans g0.output, Nat.le_trans g0.size g.size, fun j hj => (g.block j (Nat.lt_of_lt_of_le hj g0.size) fun e => by have := (World.ownsRow.lt h j e.symm).1; omega).trans (g0.block j hj)⟩
/-- An append in a walk, by the equation of its run. -/
theorem wpl_append {P : Program} {w : World} {ops : Array Oper} {rest : List Oper} {o : Oper} {a : Act} {Q : Exit → Act → World → Prop} (hgd : o.guard = none) (s x : Operand) (t : TypeId)
    (ho : o.op = .call { callee := .builtin .append, args := #[s, x], argTypes := #[t, t] }) (v u : Value) (hs : a.eval s = v) (hx : a.eval x = u) {r : Value} {w' : World} (hr : (Builtin.append_ #[t, t] o.type #[v, u]).run P w = .ok r w')
    (h : wpList P ops Q rest (a.put o.dst r) w') : wpList P ops Q (o :: rest) a w := by
  refine wpList_plain hgd fun K hK => ?_
  unfold Oper.wp
  simp [execOp, ho, resolve, invoke, builtin, hs, hx, hr, Result.andThen]
  exact hK _ _ h
theorem one_new (W : World) (p : By × Nat) : RdNs (W.alloc (.cells #[.string (sb p.1), .int .i64 (p.2 : Int)] 96)) (.slice (some ⟨W.heap.size, 0, none⟩) 1 1) [p] := by
  refine ⟨_, _, rfl, .inr ⟨_, rfl, fun j x hj => ?_⟩⟩
  rw [Addr.add_lit]
  rcases j with _ | _ | j
  · simp [nmV] at hj; subst hj; simp [go_sem]
  · simp [nmV] at hj; subst hj; simp [go_sem]
  · simp [nmV] at hj
theorem OwR.alloc (h : OwR w base v l) (o : Obj) : OwR (w.alloc o) base v l := World.ownsRow.alloc h o
theorem woR_take {x : By} {i : Nat} (hi : i < l.length) : woR (l.take (i + 1)) x = if l[i]!.1 = x then woR (l.take i) x else woR (l.take i) x ++ [l[i]!] := by
  unfold woR
  rw [List.take_succ_eq_append_getElem hi, List.filter_append, getElem!_pos l i hi]
  by_cases e : l[i].1 = x
  · rw [if_pos e]; simp [e]
  · rw [if_neg e]; simp [e]
set_option maxRecDepth 100000 in
set_option maxHeartbeats 1000000 in
theorem rwithout_c {x : By} (h : OwR w base v l) (hl : l.length ≤ 100000) : Calls Try.prog 42 #[v, .string (sb x)] w fun e w' => ∃ v', e = .returned v' ∧ OwR w' w.heap.size v' (woR l x) ∧ Gb w w' := by
  obtain ⟨a, cap, rfl, hcap, _, ha⟩ := h.at_
  have A : Hid (∀ i, i < l.length → ∃ g, a = some ⟨g, 0, none⟩ ∧ w.cell? ⟨g, i * 2, none⟩ = some (.string (sb l[i]!.1)) ∧ w.cell? ⟨g, i * 2 + 1, none⟩ = some (.int .i64 (l[i]!.2 : Int))) := ha
  obtain ⟨n, hN⟩ : ∃ n, n = l.length := ⟨_, rfl⟩
  have N : Hid (n = l.length) := hN
  rw [← hN] at hl hcap ⊢
  obtain ⟨sx, hsx⟩ : ∃ s, s = sb x := ⟨_, rfl⟩
  have SX : Hid (sx = sb x) := hsx
  rw [← hsx]
  clear ha hN h hsx
  go_enter Try.func42, Try.ntmps42
  go_wp2
  go_loopw [5, 6] (fun ov iv W => ∃ i : Nat, iv = .int .i64 (i : Int) ∧ i ≤ n ∧ Hid (OwR W w.heap.size ov (woR (l.take i) x) ∧ Gb w W)) (fun _ iv _ => n - (intOf iv).toNat)
  case atStart => exact ⟨0, rfl, Nat.zero_le _, World.ownsRow_nil _ _ _ _, Below.refl _ _⟩
  case round =>
    obtain ⟨i, rfl, hi, X⟩ := hrel
    by_cases hin : i < n
    · have hii : (i : Int) < (n : Int) := by omega
      have hil : i < l.length := by have := N.out; omega
      obtain ⟨g, e1, k1, k2⟩ := A.out i hil
      subst e1
      have k1 := gb_keeps X.out.2 k1
      have k2 := gb_keeps X.out.2 k2
      have hgw := cell_lt k1
      have hwl : (woR (l.take i) x).length ≤ 100000 := by
        have := woR_len (l.take i) x
        rw [List.length_take] at this; have := N.out; omega
      have tk := woR_take (l := l) (x := x) hil
      obtain ⟨oa, oc, rfl⟩ := row_fm X.out.1
      by_cases e : l[i]!.1 = x
      · rw [if_pos e] at tk
        rw [e, ← SX.out] at k1
        have X2 : Hid (OwR wr w.heap.size (.slice oa (woR (l.take i) x).length oc) (woR (l.take (i + 1)) x) ∧ Gb w wr) := by
          unfold Hid; rw [tk]; exact X.out
        clear X e A tk hwl
        generalize (woR (l.take i) x).length = m at *
        go_wp2
        exact ⟨⟨i + 1, by simp, hin, X2.out⟩, by simp [intOf]; omega⟩
      · have hne := sb_ne e
        rw [if_neg e] at tk
        rw [← SX.out] at hne
        have gA := gb_alloc X.out.2 (.cells #[.string (sb l[i]!.1), .int .i64 (l[i]!.2 : Int)] 96)
        obtain ⟨ax, c, W4, hr, ho, hg, _⟩ := appN_run (X.out.1.alloc _) (one_new wr l[i]!) (by have := X.out.2.size; simp; omega) (by simp; omega)
        have X2 : Hid (OwR W4 w.heap.size (.slice ax ((woR (l.take i) x).length + 1) c) (woR (l.take (i + 1)) x) ∧ Gb w W4) := by
          unfold Hid; rw [tk]
          exact ⟨ho, (X.out.1.alloc _).grown gA hg⟩
        clear X e A tk hwl ho hg gA
        rw [List.length_singleton] at hr
        generalize (woR (l.take i) x).length = m at *
        generalize sb l[i]!.1 = z at *
        generalize l[i]!.2 = y at *
        go_wp2_with (first | (at_builtin; refine wpl_append rfl (.tmp 20) (.tmp 25) 65 rfl _ _ rfl rfl hr ?_) | go_in)
        exact ⟨⟨i + 1, by simp, hin, X2.out⟩, by simp [intOf]; omega⟩
    · have ei : i = n := by omega
      subst ei
      have FIN : Hid (OwR wr w.heap.size u5 (woR l x) ∧ Gb w wr) := by
        have := X.out
        rw [List.take_of_length_le (by have := N.out; omega)] at this
        exact this
      clear X A
      go_wp2
      go_ret
      exact ⟨_, rfl, FIN.out⟩
theorem OwR.take {g cap : Nat} (h : OwR w base (.slice (some ⟨g, 0, none⟩) l.length cap) l) {i : Nat} (hi : i ≤ l.length) : RdNs w (.slice (some ⟨g, 0, none⟩) i cap) (l.take i) := by
  refine ⟨_, _, by rw [List.length_take, Nat.min_eq_left hi], .inr ⟨_, rfl, fun j x hj => World.ownsRow.cells h rfl j x ?_⟩⟩
  have e : l.flatMap nmV = (l.take i).flatMap nmV ++ (l.drop i).flatMap nmV := by rw [← List.flatMap_append, List.take_append_drop]
  rw [e, List.getElem?_append_left (by rcases Nat.lt_or_ge j ((l.take i).flatMap nmV).length with h | h; exact h; rw [List.getElem?_eq_none h] at hj; cases hj)]
  exact hj
theorem OwR.drop {g cap : Nat} (h : OwR w base (.slice (some ⟨g, 0, none⟩) l.length cap) l) {i : Nat} (hi : i ≤ l.length) : RdNs w (.slice (some ⟨g, i * 2, none⟩) (l.length - i) (cap - i)) (l.drop i) := by
  refine ⟨_, _, by rw [List.length_drop], .inr ⟨_, rfl, fun j x hj => ?_⟩⟩
  have e : l.flatMap nmV = (l.take i).flatMap nmV ++ (l.drop i).flatMap nmV := by rw [← List.flatMap_append, List.take_append_drop]
  have el : ((l.take i).flatMap nmV).length = i * 2 := by rw [nmV_len, List.length_take, Nat.min_eq_left hi]
  have := World.ownsRow.cells h (g := g) rfl (i * 2 + j) x (by rw [e, List.getElem?_append_right (by omega), el, Nat.add_sub_cancel_left]; exact hj)
  rw [Addr.add_lit, Nat.zero_add] at this
  rw [Addr.add_lit]; exact this
theorem OwR.nil (w : World) (base : Nat) : OwR w base (.slice none 0 0) [] := World.ownsRow_nil _ _ _ _
theorem with1 {w0 : World} {g cap i : Nat} (g0 : Gb w0 w) (h : OwR w base (.slice (some ⟨g, 0, none⟩) l.length cap) l) (hi : i ≤ l.length) (hl : l.length ≤ 100000) :
    ∃ a c w', (Builtin.append_ #[65, 65] 65 #[.slice none 0 0, .slice (some ⟨g, 0, none⟩) i cap]).run Try.prog w = .ok (.slice a i c) w' ∧ OwR w' w0.heap.size (.slice a i c) (l.take i) ∧ Gb w w' := by
  obtain ⟨a, c, w', hr, ho, hg, _⟩ := appN_run (OwR.nil w w0.heap.size) (h.take hi) g0.size (by simp; omega)
  have e : ([] : Rn).length + (l.take i).length = i := by simp; omega
  rw [e] at hr ho
  rw [List.nil_append] at ho
  exact ⟨a, c, w', hr, ho, hg.os, hg.tape, hg.output, hg.size, fun j hj => hg.block j hj (by simp [Value.ownBlock])⟩
theorem with2 {w0 : World} {a : Option Addr} {c i : Nat} {m : Rn} (g0 : Gb w0 w) (h : OwR w w0.heap.size (.slice a i c) m) (hm : m.length = i) (hl : i ≤ 100000) (p : By × Nat) :
    ∃ a' c' w', (Builtin.append_ #[65, 65] 65 #[.slice a i c, .slice (some ⟨w.heap.size, 0, none⟩) 1 1]).run Try.prog (w.alloc (.cells #[.string (sb p.1), .int .i64 (p.2 : Int)] 96)) = .ok (.slice a' (i + 1) c') w' ∧ OwR w' w0.heap.size (.slice a' (i + 1) c') (m ++ [p]) ∧ Gb w0 w' := by
  subst hm
  have ha := h.alloc (.cells #[.string (sb p.1), .int .i64 (p.2 : Int)] 96)
  obtain ⟨a', c', w', hr, ho, hg, _⟩ := appN_run ha (one_new w p) (by have := g0.size; simp; omega) (by simp; omega)
  exact ⟨a', c', w', hr, ho, ha.grown (gb_alloc g0 _) hg⟩
theorem with3 {w0 : World} {g cap n i : Nat} {a : Option Addr} {c : Nat} {m : Rn} (g0 : Gb w0 w) (h : OwR w w0.heap.size (.slice a (i + 1) c) m) (hm : m.length = i + 1) (h' : OwR w base (.slice (some ⟨g, 0, none⟩) l.length cap) l) (hn : n = l.length) (hi : i ≤ n) (hl : n ≤ 100000) :
    ∃ a' c' w', (Builtin.append_ #[65, 65] 65 #[.slice a (i + 1) c, .slice (some ⟨g, i * 2, none⟩) (n - i) (cap - i)]).run Try.prog w = .ok (.slice a' (n + 1) c') w' ∧ OwR w' w0.heap.size (.slice a' (n + 1) c') (m ++ l.drop i) ∧ Gb w0 w' := by
  subst hn
  rw [← hm] at h ⊢
  obtain ⟨a', c', w', hr, ho, hg, _⟩ := appN_run h (h'.drop hi) g0.size (by simp; omega)
  have e : m.length + (l.drop i).length = l.length + 1 := by simp; omega
  rw [e] at hr ho
  exact ⟨a', c', w', hr, ho, h.grown g0 hg⟩
/-- What has no length, put behind. -/
theorem with0 {w0 : World} {a : Option Addr} {c i : Nat} {m : Rn} (g0 : Gb w0 w) (h : OwR w w0.heap.size (.slice a i c) m) (hm : m.length = i) (hi : i ≤ 100001) {u : Value} (hu : RdNs w u []) :
    ∃ a' c' w', (Builtin.append_ #[65, 65] 65 #[.slice a i c, u]).run Try.prog w = .ok (.slice a' i c') w' ∧ OwR w' w0.heap.size (.slice a' i c') m ∧ Gb w0 w' := by
  subst hm
  obtain ⟨a', c', w', hr, ho, hg, _⟩ := appN_run h hu g0.size (by simp; omega)
  rw [List.append_nil] at ho
  exact ⟨a', c', w', hr, ho, h.grown g0 hg⟩
theorem rdns_some (w : World) (ad : Addr) (c : Nat) : RdNs w (.slice (some ad) 0 c) [] := ⟨_, _, rfl, .inr ⟨_, rfl, fun j x hj => by simp at hj⟩⟩
theorem rdns_none (w : World) : RdNs w (.slice none 0 0) [] := ⟨_, _, rfl, .inl ⟨rfl, rfl, rfl⟩⟩
theorem bl_true {x y : By} (h : x < y) : Op.bytesLess (sb x).toList (sb y).toList = true := by
  rw [ByteArray.toList_eq, ByteArray.toList_eq, bytesLess_eq]; exact decide_eq_true h
theorem bl_false {x y : By} (h : ¬ x < y) : Op.bytesLess (sb x).toList (sb y).toList = false := by
  rw [ByteArray.toList_eq, ByteArray.toList_eq, bytesLess_eq]; exact decide_eq_false h
set_option maxRecDepth 100000 in
set_option maxHeartbeats 1000000 in
theorem rwith_c {p : By × Nat} (h : OwR w base v l) (hl : l.length ≤ 100000) : Calls Try.prog 78 #[v, .agg #[.string (sb p.1), .int .i64 (p.2 : Int)]] w fun e w' => ∃ v', e = .returned v' ∧ OwR w' w.heap.size v' (wiR l p) ∧ Gb w w' := by
  obtain ⟨a, cap, rfl, hcap, hnil, ha⟩ := h.at_
  have A : Hid (∀ i, i < l.length → ∃ g, a = some ⟨g, 0, none⟩ ∧ w.cell? ⟨g, i * 2, none⟩ = some (.string (sb l[i]!.1)) ∧ w.cell? ⟨g, i * 2 + 1, none⟩ = some (.int .i64 (l[i]!.2 : Int))) := ha
  obtain ⟨n, hN⟩ : ∃ n, n = l.length := ⟨_, rfl⟩
  have N : Hid (n = l.length) := hN
  rw [← hN] at hl hcap ⊢
  obtain ⟨sx, hsx⟩ : ∃ s, s = sb p.1 := ⟨_, rfl⟩
  have SX : Hid (sx = sb p.1) := hsx
  rw [← hsx]
  have hB := h
  clear ha hN h hsx
  go_enter Try.func78, Try.ntmps78
  go_wp2
  have W0 : Hid (Gb w (w.alloc (.cells #[.string sx, .int .i64 (p.2 : Int)] 96))) := gb_alloc (Below.refl _ _) _
  have c0 : (w.alloc (.cells #[.string sx, .int .i64 (p.2 : Int)] 96)).cell? ⟨w.heap.size, 0, none⟩ = some (.string sx) := by simp [go_sem]
  have c1 : (w.alloc (.cells #[.string sx, .int .i64 (p.2 : Int)] 96)).cell? ⟨w.heap.size, 1, none⟩ = some (.int .i64 (p.2 : Int)) := by simp [go_sem]
  have CC : Hid (∀ W, Gb (w.alloc (.cells #[.string sx, .int .i64 (p.2 : Int)] 96)) W → W.cell? ⟨w.heap.size, 0, none⟩ = some (.string sx) ∧ W.cell? ⟨w.heap.size, 1, none⟩ = some (.int .i64 (p.2 : Int)) ∧ w.heap.size < W.heap.size) := fun W g => ⟨gb_keeps g c0, gb_keeps g c1, cell_lt (gb_keeps g c0)⟩
  clear c0 c1
  generalize (w.alloc (.cells #[.string sx, .int .i64 (p.2 : Int)] 96)) = w0 at *
  go_loopw [5] (fun iv W => ∃ i : Nat, iv = .int .i64 (i : Int) ∧ i ≤ n ∧ Hid (Gb w0 W ∧ ∀ j, j < i → l[j]!.1 < p.1)) (fun iv _ => n - (intOf iv).toNat)
  case atStart => exact ⟨0, rfl, Nat.zero_le _, Below.refl _ _, fun j hj => absurd hj (Nat.not_lt_zero _)⟩
  case round =>
    obtain ⟨i, rfl, hi, X⟩ := hrel
    obtain ⟨n1, n2, n3⟩ := CC.out _ X.out.1
    by_cases hin : i < n
    · have hii : (i : Int) < (n : Int) := by omega
      have hil : i < l.length := by have := N.out; omega
      obtain ⟨g, e1, k1, k2⟩ := A.out i hil
      subst e1
      have k1 := gb_keeps X.out.1 (gb_keeps W0.out k1)
      by_cases e : l[i]!.1 < p.1
      · have hlt := bl_true e
        rw [← SX.out] at hlt
        have X2 : Hid (∀ W, Gb wr W → Gb w0 W ∧ ∀ j, j < i + 1 → l[j]!.1 < p.1) := fun W g => ⟨gb_trans X.out.1 g, fun j hj => by
          by_cases ej : j = i
          · subst ej; exact e
          · exact X.out.2 j (by omega)⟩
        generalize sb l[i]!.1 = z at *
        clear X e A hB CC
        go_wp2
        go_quiet (fail)
        go_wp2
        exact ⟨⟨i + 1, by simp, hin, X2.out _ (below_drewN (Below.refl _ _) nq)⟩, by simp [intOf]; omega⟩
      · have hlt := bl_false e
        rw [← SX.out] at hlt
        have WI : Hid (wiR l p = l.take i ++ p :: l.drop i) := wiR_cut l p i (by omega) X.out.2 (fun _ => e)
        generalize sb l[i]!.1 = z at *
        clear e A
        have gw : Gb w wr := gb_trans W0.out X.out.1
        have hBw := hB.gb gw
        go_wp2
        go_quiet (fail)
        have gq : Gb wr (wr.drewN nq) := below_drewN (Below.refl _ _) nq
        obtain ⟨a1, c1, W2, hr1, ho1, hg1⟩ := with1 (gb_trans gw gq) (hBw.gb gq) (by omega : i ≤ l.length) (by have := N.out; omega)
        obtain ⟨m1, m2, m3⟩ := CC.out W2 (gb_trans X.out.1 (gb_trans gq hg1))
        have gW2 := gb_trans gw (gb_trans gq hg1)
        obtain ⟨a2, c2, W3, hr2, ho2, hg2⟩ := with2 gW2 ho1 (by rw [List.length_take]; omega) (by omega) p
        obtain ⟨a3, c3, W4, hr3, ho3, hg3⟩ := with3 hg2 ho2 (by simp; omega) (hB.gb hg2) N.out (by omega) (by omega)
        have FIN : Hid (OwR W4 w.heap.size (.slice a3 (n + 1) c3) (wiR l p) ∧ Gb w W4) := by
          unfold Hid
          rw [WI.out, List.append_cons]; exact ⟨ho3, hg3⟩
        rw [← SX.out] at hr2
        clear ho1 ho2 ho3 hg1 hg2 hg3 gW2 gq gw hBw hB X WI CC W0
        go_wp2_with (first | (at_builtin; refine wpl_append rfl (.tmp 23) (.tmp 26) 65 rfl _ _ rfl rfl hr1 ?_) | (at_builtin; refine wpl_append rfl (.tmp 28) (.tmp 30) 65 rfl _ _ rfl rfl hr2 ?_) | (at_builtin; refine wpl_append rfl (.tmp 32) (.tmp 35) 65 rfl _ _ rfl rfl hr3 ?_) | go_in)
        go_ret
        exact ⟨_, rfl, FIN.out⟩
    · have ei : i = n := by omega
      subst ei
      have hii : ¬ (i : Int) < (i : Int) := by omega
      have WI : Hid (wiR l p = l.take i ++ p :: l.drop i) := wiR_cut l p i (by have := N.out; omega) X.out.2 (fun h => by have := N.out; omega)
      have gw : Gb w wr := gb_trans W0.out X.out.1
      have hBw := hB.gb gw
      clear A
      have eD : l.drop i = [] := List.drop_of_length_le (by have := N.out; omega)
      cases a with
      | none =>
        obtain rfl : cap = 0 := hnil rfl
        obtain rfl : i = 0 := by omega
        go_wp2
        go_quiet (fail)
        have gq : Gb wr (wr.drewN nq) := below_drewN (Below.refl _ _) nq
        obtain ⟨a1, c1, W2, hr1, ho1, hg0⟩ := with0 (Below.refl _ (wr.drewN nq)) (OwR.nil _ _) rfl (by omega) (rdns_none _)
        obtain ⟨m1, m2, m3⟩ := CC.out W2 (gb_trans X.out.1 (gb_trans gq hg0))
        have ho1 := ho1.mono (gb_trans gw gq).size
        have hg1 := gb_trans (gb_trans gw gq) hg0
        obtain ⟨a2, c2, W3, hr2, ho2, hg2⟩ := with2 hg1 ho1 rfl (by omega) p
        obtain ⟨a3, c3, W4, hr3, ho3, hg3⟩ := with0 hg2 ho2 rfl (by omega) (rdns_none _)
        have FIN : Hid (OwR W4 w.heap.size (.slice a3 (0 + 1) c3) (wiR l p) ∧ Gb w W4) := by
          unfold Hid
          rw [WI.out, eD]; exact ⟨ho3, hg3⟩
        rw [← SX.out] at hr2
        clear ho1 ho2 ho3 hg0 hg1 hg2 hg3 gq gw hBw hB X WI CC W0 eD
        go_wp2_with (first | (at_builtin; refine wpl_append rfl (.tmp 23) (.tmp 26) 65 rfl _ _ rfl rfl hr1 ?_) | (at_builtin; refine wpl_append rfl (.tmp 28) (.tmp 30) 65 rfl _ _ rfl rfl hr2 ?_) | (at_builtin; refine wpl_append rfl (.tmp 32) (.tmp 35) 65 rfl _ _ rfl rfl hr3 ?_) | go_in)
        go_ret
        exact ⟨_, rfl, FIN.out⟩
      | some ad =>
        obtain ⟨g, rfl⟩ : ∃ g, ad = ⟨g, 0, none⟩ := by
          rcases hBw.2 with ⟨e, _⟩ | ⟨g, _, _, e, _⟩
          · cases e
          · injection e with e; injection e with e; exact ⟨g, e⟩
        have TW : Hid (∀ nq, ∃ a1 c1 W2 a2 c2 W3, (Builtin.append_ #[65, 65] 65 #[.slice none 0 0, .slice (some ⟨g, 0, none⟩) i cap]).run Try.prog (wr.drewN nq) = .ok (.slice a1 i c1) W2 ∧ (W2.cell? ⟨w.heap.size, 0, none⟩ = some (.string sx) ∧ W2.cell? ⟨w.heap.size, 1, none⟩ = some (.int .i64 (p.2 : Int)) ∧ w.heap.size < W2.heap.size) ∧
            (Builtin.append_ #[65, 65] 65 #[.slice a1 i c1, .slice (some ⟨W2.heap.size, 0, none⟩) 1 1]).run Try.prog (W2.alloc (.cells #[.string sx, .int .i64 (p.2 : Int)] 96)) = .ok (.slice a2 (i + 1) c2) W3 ∧
            ∀ ad c, ∃ a3 c3 W4, (Builtin.append_ #[65, 65] 65 #[.slice a2 (i + 1) c2, .slice (some ad) 0 c]).run Try.prog W3 = .ok (.slice a3 (i + 1) c3) W4 ∧ Hid (OwR W4 w.heap.size (.slice a3 (i + 1) c3) (wiR l p) ∧ Gb w W4)) := fun nq => by
          have gq : Gb wr (wr.drewN nq) := below_drewN (Below.refl _ _) nq
          obtain ⟨a1, c1, W2, hr1, ho1, hg1⟩ := with1 (gb_trans gw gq) (hBw.gb gq) (by have := N.out; omega : i ≤ l.length) (by have := N.out; omega)
          have gW2 := gb_trans gw (gb_trans gq hg1)
          obtain ⟨a2, c2, W3, hr2, ho2, hg2⟩ := with2 gW2 ho1 (by rw [List.length_take]; have := N.out; omega) (by omega) p
          rw [← SX.out] at hr2
          refine ⟨a1, c1, W2, a2, c2, W3, hr1, CC.out W2 (gb_trans X.out.1 (gb_trans gq hg1)), hr2, fun ad c => ?_⟩
          obtain ⟨a3, c3, W4, hr3, ho3, hg3⟩ := with0 hg2 ho2 (by simp; have := N.out; omega) (by omega) (rdns_some _ ad c)
          refine ⟨a3, c3, W4, hr3, ?_, hg3⟩
          rw [WI.out, eD]; exact ho3
        clear hBw hB X WI CC W0 eD gw
        by_cases hc : cap = i
        · subst hc
          go_wp2
          go_quiet (fail)
          obtain ⟨a1, c1, W2, a2, c2, W3, hr1, ⟨m1, m2, m3⟩, hr2, h3⟩ := TW.out nq
          obtain ⟨a3, c3, W4, hr3, FIN⟩ := h3 ⟨g, 0, none⟩ 0
          clear h3
          go_wp2_with (first | (at_builtin; refine wpl_append rfl (.tmp 23) (.tmp 26) 65 rfl _ _ rfl rfl hr1 ?_) | (at_builtin; refine wpl_append rfl (.tmp 28) (.tmp 30) 65 rfl _ _ rfl rfl hr2 ?_) | (at_builtin; refine wpl_append rfl (.tmp 32) (.tmp 35) 65 rfl _ _ rfl rfl hr3 ?_) | go_in)
          go_ret
          exact ⟨_, rfl, FIN.out⟩
        · have hc' : i < cap := by omega
          go_wp2
          go_quiet (fail)
          obtain ⟨a1, c1, W2, a2, c2, W3, hr1, ⟨m1, m2, m3⟩, hr2, h3⟩ := TW.out nq
          obtain ⟨a3, c3, W4, hr3, FIN⟩ := h3 ⟨g, i * 2, none⟩ (cap - i)
          clear h3
          go_wp2_with (first | (at_builtin; refine wpl_append rfl (.tmp 23) (.tmp 26) 65 rfl _ _ rfl rfl hr1 ?_) | (at_builtin; refine wpl_append rfl (.tmp 28) (.tmp 30) 65 rfl _ _ rfl rfl hr2 ?_) | (at_builtin; refine wpl_append rfl (.tmp 32) (.tmp 35) 65 rfl _ _ rfl rfl hr3 ?_) | go_in)
          go_ret
          exact ⟨_, rfl, FIN.out⟩
/-- The world behind the cells of a change that is handed in. -/
abbrev ChW (w : World) (k : Int) (s1 s2 : ByteArray) (f : Int) : World := w.alloc (.cells #[.int .i64 k, .string s1, .string s2, .int .i64 f] 81)
set_option maxHeartbeats 4000000 in
set_option maxRecDepth 100000 in
/-- A change, done to names. -/
theorem rapply_c {c : Rc} (h : OwR w base v l) (hl : l.length ≤ 10000) : Calls Try.prog 71 #[v, .agg #[.int .i64 c.1, .string (sb c.2.1), .string (sb c.2.2.1), .int .i64 (c.2.2.2 : Int)]] w fun e w' => ∃ v', e = .returned v' ∧ OwR w' w.heap.size v' (apR l c) ∧ Gb w w' := by
  have WO : ∀ {W : World} {B : Nat} {u : Value} {m : Rn} (x : By), Gb w W → OwR W B u m → m.length ≤ 10002 → Calls Try.prog 42 #[u, .string (sb x)] W fun e w2 => ∃ v2, e = .returned v2 ∧ OwR w2 w.heap.size v2 (woR m x) ∧ Gb W w2 := fun {W B u m} x g ho hm =>
    (rwithout_c ho (by omega)).mono fun e w2 ⟨v2, h1, h2, h3⟩ => ⟨v2, h1, h2.mono g.size, h3⟩
  have WI : ∀ {W : World} {B : Nat} {u : Value} {m : Rn} (p : By × Nat), Gb w W → OwR W B u m → m.length ≤ 10002 → Calls Try.prog 78 #[u, .agg #[.string (sb p.1), .int .i64 (p.2 : Int)]] W fun e w2 => ∃ v2, e = .returned v2 ∧ OwR w2 w.heap.size v2 (wiR m p) ∧ Gb W w2 := fun {W B u m} p g ho hm =>
    (rwith_c ho (by omega)).mono fun e w2 ⟨v2, h1, h2, h3⟩ => ⟨v2, h1, h2.mono g.size, h3⟩
  have g0 : Gb w (ChW w c.1 (sb c.2.1) (sb c.2.2.1) (c.2.2.2 : Int)) := gb_alloc (Below.refl _ w) _
  have q1 : (ChW w c.1 (sb c.2.1) (sb c.2.2.1) (c.2.2.2 : Int)).cell? ⟨w.heap.size, 1, none⟩ = some (.string (sb c.2.1)) := by simp [go_sem, ChW]
  have q2 : (ChW w c.1 (sb c.2.1) (sb c.2.2.1) (c.2.2.2 : Int)).cell? ⟨w.heap.size, 2, none⟩ = some (.string (sb c.2.2.1)) := by simp [go_sem, ChW]
  have q3 : (ChW w c.1 (sb c.2.1) (sb c.2.2.1) (c.2.2.2 : Int)).cell? ⟨w.heap.size, 3, none⟩ = some (.int .i64 (c.2.2.2 : Int)) := by simp [go_sem, ChW]
  by_cases h1 : c.1 = 1
  · have CL : Hid (∀ W, Gb (ChW w c.1 (sb c.2.1) (sb c.2.2.1) (c.2.2.2 : Int)) W → Calls Try.prog 42 #[v, .string (sb c.2.2.1)] W fun e w2 => ∃ v2, e = .returned v2 ∧ Gb (ChW w c.1 (sb c.2.1) (sb c.2.2.1) (c.2.2.2 : Int)) w2 ∧
        Hid (Calls Try.prog 78 #[v2, .agg #[.string (sb c.2.2.1), .int .i64 (c.2.2.2 : Int)]] w2 fun e w3 => ∃ v3, e = .returned v3 ∧ Gb (ChW w c.1 (sb c.2.1) (sb c.2.2.1) (c.2.2.2 : Int)) w3 ∧ Hid (OwR w3 w.heap.size v3 (apR l c) ∧ Gb w w3))) := fun W gW => by
      have g := gb_trans g0 gW
      refine (WO c.2.2.1 g (h.gb g) (by omega)).mono ?_
      rintro e w2 ⟨v2, rfl, o2, g2⟩
      refine ⟨v2, rfl, gb_trans gW g2, ?_⟩
      have g' := gb_trans g g2
      refine (WI (c.2.2.1, c.2.2.2) g' o2 (by have := woR_len l c.2.2.1; omega)).mono ?_
      rintro e w3 ⟨v3, rfl, o3, g3⟩
      refine ⟨v3, rfl, gb_trans (gb_trans gW g2) g3, ?_, gb_trans g' g3⟩
      unfold apR
      rw [if_pos h1]; exact o3
    clear WO WI h hl g0
    generalize sb c.2.1 = s1 at *
    generalize sb c.2.2.1 = s2 at *
    generalize (c.2.2.2 : Int) = f at *
    have hk : (c.1 == 1) = true := by rw [beq_iff_eq]; exact h1
    clear h1
    go_enter Try.func71, Try.ntmps71
    go_wp2_with fail
    go_region_held3 (fun W => Gb (ChW w c.1 s1 s2 f) W ∧ W.cell? ⟨w.heap.size, 2, none⟩ = some (.string s2) ∧ W.cell? ⟨w.heap.size, 3, none⟩ = some (.int .i64 f))
      (first | (with_reducible assumption) | exact ⟨by assumption, gb_keeps (by assumption) q2, gb_keeps (by assumption) q3⟩ | exact ⟨(Below.refl _ _).drew, by simp [go_sem], by simp [go_sem]⟩)
      (first
        | (go_at_call 42; refine (CL.out _ (And.left (by assumption))).mono ?_; rintro e w2 ⟨v2, rfl, G2, C2⟩)
        | (go_at_call 78; refine (C2.out).mono ?_; rintro e w3 ⟨v3, rfl, G3, FIN⟩))
    all_goals
      go_wp2
      go_ret
      exact ⟨_, rfl, FIN.out⟩
  by_cases h2 : c.1 = 2
  · have CL : Hid (∀ W, Gb (ChW w c.1 (sb c.2.1) (sb c.2.2.1) (c.2.2.2 : Int)) W → Calls Try.prog 42 #[v, .string (sb c.2.1)] W fun e w2 => ∃ v2, e = .returned v2 ∧ Gb (ChW w c.1 (sb c.2.1) (sb c.2.2.1) (c.2.2.2 : Int)) w2 ∧
        Hid (Calls Try.prog 42 #[v2, .string (sb c.2.2.1)] w2 fun e w3 => ∃ v3, e = .returned v3 ∧ Gb (ChW w c.1 (sb c.2.1) (sb c.2.2.1) (c.2.2.2 : Int)) w3 ∧
          Hid (Calls Try.prog 78 #[v3, .agg #[.string (sb c.2.2.1), .int .i64 (c.2.2.2 : Int)]] w3 fun e w4 => ∃ v4, e = .returned v4 ∧ Gb (ChW w c.1 (sb c.2.1) (sb c.2.2.1) (c.2.2.2 : Int)) w4 ∧ Hid (OwR w4 w.heap.size v4 (apR l c) ∧ Gb w w4)))) := fun W gW => by
      have g := gb_trans g0 gW
      refine (WO c.2.1 g (h.gb g) (by omega)).mono ?_
      rintro e w2 ⟨v2, rfl, o2, g2⟩
      refine ⟨v2, rfl, gb_trans gW g2, ?_⟩
      have g' := gb_trans g g2
      have l2 := woR_len l c.2.1
      refine (WO c.2.2.1 g' o2 (by omega)).mono ?_
      rintro e w3 ⟨v3, rfl, o3, g3⟩
      refine ⟨v3, rfl, gb_trans (gb_trans gW g2) g3, ?_⟩
      have g'' := gb_trans g' g3
      have l3 := woR_len (woR l c.2.1) c.2.2.1
      refine (WI (c.2.2.1, c.2.2.2) g'' o3 (by omega)).mono ?_
      rintro e w4 ⟨v4, rfl, o4, g4⟩
      refine ⟨v4, rfl, gb_trans (gb_trans (gb_trans gW g2) g3) g4, ?_, gb_trans g'' g4⟩
      unfold apR
      rw [if_neg h1, if_pos h2]; exact o4
    clear WO WI h hl g0
    generalize sb c.2.1 = s1 at *
    generalize sb c.2.2.1 = s2 at *
    generalize (c.2.2.2 : Int) = f at *
    have hk : (c.1 == 1) = false := by rw [beq_eq_false_iff_ne]; exact h1
    have hk2 : (c.1 == 2) = true := by rw [beq_iff_eq]; exact h2
    clear h1 h2
    go_enter Try.func71, Try.ntmps71
    go_wp2_with fail
    go_region_held3 (fun W => Gb (ChW w c.1 s1 s2 f) W ∧ W.cell? ⟨w.heap.size, 1, none⟩ = some (.string s1) ∧ W.cell? ⟨w.heap.size, 2, none⟩ = some (.string s2) ∧ W.cell? ⟨w.heap.size, 3, none⟩ = some (.int .i64 f))
      (first | (with_reducible assumption) | exact ⟨by assumption, gb_keeps (by assumption) q1, gb_keeps (by assumption) q2, gb_keeps (by assumption) q3⟩ | exact ⟨(Below.refl _ _).drew, by simp [go_sem], by simp [go_sem], by simp [go_sem]⟩)
      (first
        | (go_at_call 78; refine (C3.out).mono ?_; rintro e w4 ⟨v4, rfl, G4, FIN⟩)
        | (go_at_call 42; refine (C2.out).mono ?_; rintro e w3 ⟨v3, rfl, G3, C3⟩)
        | (go_at_call 42; refine (CL.out _ (And.left (by assumption))).mono ?_; rintro e w2 ⟨v2, rfl, G2, C2⟩))
    all_goals
      go_wp2
      go_ret
      exact ⟨_, rfl, FIN.out⟩
  · have CL : Hid (∀ W, Gb (ChW w c.1 (sb c.2.1) (sb c.2.2.1) (c.2.2.2 : Int)) W → Calls Try.prog 42 #[v, .string (sb c.2.1)] W fun e w2 => ∃ v2, e = .returned v2 ∧ Hid (OwR w2 w.heap.size v2 (apR l c) ∧ Gb w w2)) := fun W gW => by
      have g := gb_trans g0 gW
      refine (WO c.2.1 g (h.gb g) (by omega)).mono ?_
      rintro e w2 ⟨v2, rfl, o2, g2⟩
      refine ⟨v2, rfl, ?_, gb_trans g g2⟩
      unfold apR
      rw [if_neg h1, if_neg h2]; exact o2
    clear WO WI h hl g0
    generalize sb c.2.1 = s1 at *
    generalize sb c.2.2.1 = s2 at *
    generalize (c.2.2.2 : Int) = f at *
    have hk : (c.1 == 1) = false := by rw [beq_eq_false_iff_ne]; exact h1
    have hk2 : (c.1 == 2) = false := by rw [beq_eq_false_iff_ne]; exact h2
    have CW := CL.out _ (Below.refl _ (ChW w c.1 s1 s2 f))
    clear h1 h2 CL
    go_enter Try.func71, Try.ntmps71
    go_wp2_with fail
    refine CW.mono ?_
    rintro e w2 ⟨v2, rfl, FIN⟩
    clear CW
    go_wp2
    go_ret
    exact ⟨_, rfl, FIN.out⟩
end Go.Proofs.Ytkagnoinifffdaa
