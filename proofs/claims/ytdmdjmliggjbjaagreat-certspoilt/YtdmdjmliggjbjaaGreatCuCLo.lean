/- Lists of hits, numbers and regions in memory of the call's own; append of what is read to none. -/
import Derived.Test.YtdmdjmliggjbjaaGreatCuCN
import Derived.Laws.AppendOwnNone
import Derived.Laws.OwnMore
namespace Go.Proofs.YtdmdjmliggjbjaaGreat
open Go.RowKit Go.Sort Go.Maps

/-- append of a slice, also of one that has no memory. -/
theorem append_anyC {P : Program} {w : World} {ops : Array Oper} {rest : List Oper} {o : Oper} {a : Act} {Q : Exit → Act → World → Prop} (hgd : o.guard = none) (s x : Operand) (t : TypeId)
    (ho : o.op = .call { callee := .builtin .append, args := #[s, x], argTypes := #[t, t] })
    (base : Nat) (e : TypeId) (i : TypeInfo) (z : Value) (size bytes : Nat) (ht : P.underlying t = some (.slice e)) (hi : P.info? e = some i) (hz : i.zero = some z)
    (hsize : i.size = size) (hby : i.bytes = bytes) (hzs : z.cells.size = size) (hsz : 0 < size)
    (v : Value) (n : Nat) (xs : List Value) (hs : a.eval s = v) (hown : w.ownsRow base e size v n xs)
    (ax : Option Addr) (m c : Nat) (news : List Value) (hx : a.eval x = .slice ax m c) (hnil : ax = none → m = 0 ∧ c = 0) (hl : news.length = m * size) (hnews : ∀ ad, ax = some ad → ∀ j u, news[j]? = some u → w.cell? (ad.add j) = some u) (h1 : ∀ u ∈ news, u.oneCell' = true)
    (h63 : n + m ≤ maxLen) (hbytes : (n + m) * bytes ≤ 140737488355328) (hbase : base ≤ w.heap.size)
    (h : ∀ v' w', w'.ownsRow base e size v' (n + m) (xs ++ news) → w.grownBy w' v.ownBlock → wpList P ops Q rest (a.put o.dst v') w') :
    wpList P ops Q (o :: rest) a w := by
  cases ax with
  | none =>
    obtain ⟨rfl, rfl⟩ := hnil rfl
    have e0 : news = [] := List.length_eq_zero_iff.1 (by omega)
    subst e0
    refine wpList_append_own_none hgd s x t ho base e i size ht hi v n xs hs hown hx (h v w ?_ ?_)
    · rw [List.append_nil]; exact hown
    · exact ⟨rfl, rfl, rfl, Nat.le_refl _, fun _ _ _ => rfl⟩
  | some ad => exact wpList_append_own_at w hgd s x t ho base e i z size bytes ht hi hz hsize hby hzs hsz v n xs hs hown ad m c news hx hl (hnews ad rfl) h1 h63 hbytes hbase (fun v' w' a b _ d => h v' w' a b)
theorem Tryz.infoH : (Tryz.prog.info? 43).map (fun i => (i.zero, i.size, i.bytes)) = some (some (.agg #[.int .i64 0, .int .u64 0, .int .u64 0]), 3, 24) := by kernel_rfl
theorem Tryz.infoG : (Tryz.prog.info? 48).map (fun i => (i.zero, i.size, i.bytes)) = some (some (.agg #[.int .i64 0, .slice none 0 0, .slice none 0 0, .int .u64 0, .int .u64 0, .slice none 0 0]), 6, 96) := by kernel_rfl
theorem info_partsI : ∃ i0, Tryz.prog.info? 3 = some i0 ∧ i0.zero = some (.int .i64 0) ∧ i0.size = 1 ∧ i0.bytes = 8 := by
  obtain ⟨i, hi, hzz⟩ := Option.map_eq_some_iff.1 Tryz.info3
  simp only [Prod.mk.injEq] at hzz
  exact ⟨i, hi, hzz.1, hzz.2.1, hzz.2.2⟩
theorem info_partsH : ∃ i0, Tryz.prog.info? 43 = some i0 ∧ i0.zero = some (.agg #[.int .i64 0, .int .u64 0, .int .u64 0]) ∧ i0.size = 3 ∧ i0.bytes = 24 := by
  obtain ⟨i, hi, hzz⟩ := Option.map_eq_some_iff.1 Tryz.infoH
  simp only [Prod.mk.injEq] at hzz
  exact ⟨i, hi, hzz.1, hzz.2.1, hzz.2.2⟩
theorem info_partsG : ∃ i0, Tryz.prog.info? 48 = some i0 ∧ i0.zero = some (.agg #[.int .i64 0, .slice none 0 0, .slice none 0 0, .int .u64 0, .int .u64 0, .slice none 0 0]) ∧ i0.size = 6 ∧ i0.bytes = 96 := by
  obtain ⟨i, hi, hzz⟩ := Option.map_eq_some_iff.1 Tryz.infoG
  simp only [Prod.mk.injEq] at hzz
  exact ⟨i, hi, hzz.1, hzz.2.1, hzz.2.2⟩
theorem row_fm {W : World} {B n size : Nat} {e : TypeId} {v : Value} {xs : List Value} (h : W.ownsRow B e size v n xs) : ∃ a c, v = .slice a n c := by
  rcases h.2 with ⟨rfl, h0⟩ | ⟨g, cap, cur, rfl, _⟩
  · exact ⟨none, 0, by rw [h0]⟩
  · exact ⟨_, cap, rfl⟩
set_option maxRecDepth 100000 in
/-- append(nil, l...), numbers. -/
theorem app_I {W : World} {ops : Array Oper} {rest : List Oper} {o : Oper} {a : Act} {Q : Exit → Act → World → Prop} (hgd : o.guard = none) (s x : Operand)
    (ho : o.op = .call { callee := .builtin .append, args := #[s, x], argTypes := #[23, 23] }) (base : Nat) (hs : a.eval s = .slice none 0 0) {vx : Value} {l : List Int} (hx : a.eval x = vx) (hr : RdI W vx l) (hn : NilOk vx) (hl : l.length ≤ 1000000) (hb : base ≤ W.heap.size)
    (h : ∀ ax c w', Own w' base (.slice ax l.length c) l → W.grownBy w' none → wpList Tryz.prog ops Q rest (a.put o.dst (.slice ax l.length c)) w') : wpList Tryz.prog ops Q (o :: rest) a W := by
  obtain ⟨i0, hi0, hz0, hz1, hz2⟩ := info_partsI
  obtain ⟨ax, cap, rfl, hr⟩ := hr
  refine append_anyC hgd s x 23 ho base 3 i0 (.int .i64 0) 1 8 Tryz.underlying23 hi0 hz0 hz1 hz2 rfl (by decide) (.slice none 0 0) 0 [] hs (World.ownsRow_nil _ _ _ _) ax l.length cap (l.map (Value.int .i64)) hx (fun e => by subst e; exact hn _ _ rfl) (by simp) ?_ (ints_oneCell .i64 _) (by simp only [maxLen]; omega) (by omega) hb ?_
  · intro ad e j u hj
    subst e
    rw [List.getElem?_map] at hj
    obtain ⟨y, hy, e⟩ := Option.map_eq_some_iff.1 hj
    obtain ⟨hj2, ey⟩ := List.getElem?_eq_some_iff.1 hy
    obtain ⟨b, o, e2, hc⟩ := hr j hj2
    injection e2 with e2
    subst e2
    rw [Addr.add_lit, hc, ← e, ← ey, getElem!_pos l j hj2]
  · intro v' w' h1 h2
    rw [Nat.zero_add, List.nil_append] at h1
    obtain ⟨ax, c, rfl⟩ := row_fm h1
    exact h ax c w' h1 h2
/-- The call owns, in blocks from B on, a slice of these hits. -/
def OwnH (W : World) (B : Nat) (v : Value) (l : List Tk.Ht) : Prop := W.ownsRow B 43 3 v l.length (Tk.fl l)
theorem OwnH.own {W : World} {B : Nat} {v : Value} {l : List Tk.Ht} (h : OwnH W B v l) : Tk.Own W v l.toArray := by
  refine ⟨by simpa using h.1, ?_⟩
  rcases h.2 with h | ⟨g, cap, cur, e, h1, r⟩
  · exact .inl (by simpa using h)
  · exact .inr ⟨g, cap, cur, by simpa using e, Nat.zero_le _, by simpa using r⟩
theorem OwnH.rd {W : World} {B : Nat} {v : Value} {l : List Tk.Ht} (h : OwnH W B v l) : Tk.Rd W v l := by
  have := Tk.own_rd h.own
  simpa using this
set_option maxRecDepth 100000 in
/-- append(nil, l...), hits. -/
theorem app_H {W : World} {ops : Array Oper} {rest : List Oper} {o : Oper} {a : Act} {Q : Exit → Act → World → Prop} (hgd : o.guard = none) (s x : Operand)
    (ho : o.op = .call { callee := .builtin .append, args := #[s, x], argTypes := #[24, 24] }) (base : Nat) (hs : a.eval s = .slice none 0 0) {vx : Value} {l : List Tk.Ht} (hx : a.eval x = vx) (hr : Tk.Rd W vx l) (hn : NilOk vx) (hl : l.length ≤ 1000000) (hb : base ≤ W.heap.size)
    (h : ∀ ax c w', OwnH w' base (.slice ax l.length c) l → W.grownBy w' none → wpList Tryz.prog ops Q rest (a.put o.dst (.slice ax l.length c)) w') : wpList Tryz.prog ops Q (o :: rest) a W := by
  obtain ⟨i0, hi0, hz0, hz1, hz2⟩ := info_partsH
  obtain ⟨ax, cap, rfl, hf⟩ := hr.form
  refine append_anyC hgd s x 24 ho base 43 i0 (.agg #[.int .i64 0, .int .u64 0, .int .u64 0]) 3 24 Tryz.underlying24 hi0 hz0 hz1 hz2 rfl (by decide) (.slice none 0 0) 0 [] hs (World.ownsRow_nil _ _ _ _) ax l.length cap (Tk.fl l) hx (fun e => by subst e; exact hn _ _ rfl) (Tk.fl_len l) ?_ (Tk.fl_one_cell l) (by simp only [maxLen]; omega) (by omega) hb ?_
  · intro ad e j u hj
    subst e
    have hj2 := (List.getElem?_eq_some_iff.1 hj).1
    rw [Tk.fl_len] at hj2
    have hq : j / 3 < l.length := by omega
    have hm : j % 3 < 3 := by omega
    have he : j = j / 3 * 3 + j % 3 := by omega
    obtain ⟨b, o, e2, hL⟩ := hf (j / 3) hq
    injection e2 with e2
    subst e2
    obtain ⟨c0, c1, c2⟩ := hL (j / 3) hq
    rw [he, Tk.fl_get l (j / 3) (j % 3) hq hm] at hj
    rw [Addr.add_lit, he]
    rw [getElem!_pos l (j / 3) hq] at c0 c1 c2
    generalize j / 3 = p at *
    generalize j % 3 = r at *
    rcases r with _ | _ | _ | r
    · simp [Tk.enc] at hj; rw [← hj]; exact c0
    · simp [Tk.enc] at hj; rw [← hj, ← Nat.add_assoc]; exact c1
    · simp [Tk.enc] at hj; rw [← hj, ← Nat.add_assoc]; exact c2
    · omega
  · intro v' w' h1 h2
    rw [Nat.zero_add, List.nil_append] at h1
    obtain ⟨ax, c, rfl⟩ := row_fm h1
    exact h ax c w' h1 h2
/-- The call owns a slice of these regions in blocks from B on, their lists in blocks from B2 on. -/
def OwnL (W : World) (B B2 : Nat) (v : Value) (l : List Reg) : Prop := ∃ xs, W.ownsRow B 48 6 v l.length xs ∧ ∀ i (hi' : i < l.length), ∃ vl vh vi, xs[i * 6]? = some (.int .i64 l[i].S) ∧ xs[i * 6 + 1]? = some vl ∧ xs[i * 6 + 2]? = some vh ∧ xs[i * 6 + 3]? = some (.int .u64 (hi l[i].R)) ∧ xs[i * 6 + 4]? = some (.int .u64 (lo l[i].R)) ∧ xs[i * 6 + 5]? = some vi ∧ Own W B2 vl l[i].L ∧ Own W B2 vh l[i].H ∧ Own W B2 vi l[i].I
theorem ownL_nil (W : World) (B B2 : Nat) : OwnL W B B2 (.slice none 0 0) [] := ⟨[], World.ownsRow_nil _ _ _ _, fun _i h => absurd h (Nat.not_lt_zero _)⟩
/-- Whatever leaves the blocks of other types than numbers', and this slice's own, leaves it. -/
theorem OwnL.kept {W W' : World} {B B2 : Nat} {v : Value} {l : List Reg} {row : Option Nat} (h : OwnL W B B2 v l) (hg : W.grownBy W' row) (hne : v.ownBlock = none ∨ v.ownBlock ≠ row) (hin : ∀ k, row = some k → k < B2 ∨ ∀ cs, W.heap[k]? ≠ some (.cells cs 3 (0, 0))) : OwnL W' B B2 v l := by
  obtain ⟨xs, h1, h2⟩ := h
  have hk : ∀ {u : Value} {m : List Int}, Own W B2 u m → Own W' B2 u m := fun {u m} ho => by
    refine ho.kept hg ?_
    rcases ho.2 with ⟨rfl, _⟩ | ⟨g, cap, cur, rfl, hb, hh, _⟩
    · exact .inl rfl
    · refine .inr fun e => ?_
      rcases hin g e.symm with h | h
      · omega
      · exact h cur hh
  refine ⟨xs, h1.kept hg hne, fun i hi' => ?_⟩
  obtain ⟨vl, vh, vi, e0, e1, e2, e3, e4, e5, o1, o2, o3⟩ := h2 i hi'
  exact ⟨vl, vh, vi, e0, e1, e2, e3, e4, e5, hk o1, hk o2, hk o3⟩
theorem OwnL.gb {W W' : World} {B B2 : Nat} {v : Value} {l : List Reg} (h : OwnL W B B2 v l) (g : Gb W W') : OwnL W' B B2 v l :=
  h.kept (row := none) ⟨g.os, g.tape, g.output, g.size, fun k hk _ => g.block k hk⟩ (by cases hv : v.ownBlock <;> simp) (fun k e => by cases e)
theorem OwnL.rd {W : World} {B B2 : Nat} {v : Value} {l : List Reg} (h : OwnL W B B2 v l) : RdL W v l := by
  obtain ⟨xs, h, hx⟩ := h
  rcases h.2 with ⟨rfl, h0⟩ | ⟨b, cap, cur, rfl, _⟩
  · have : l = [] := List.eq_nil_of_length_eq_zero h0
    subst this
    exact rdl_nil _
  · refine ⟨_, cap, rfl, fun i hi' => ?_⟩
    obtain ⟨vl, vh, vi, e0, e1, e2, e3, e4, e5, o1, o2, o3⟩ := hx i hi'
    have q0 := World.ownsRow.cells h (g := b) rfl _ _ e0
    have q1 := World.ownsRow.cells h (g := b) rfl _ _ e1
    have q2 := World.ownsRow.cells h (g := b) rfl _ _ e2
    have q3 := World.ownsRow.cells h (g := b) rfl _ _ e3
    have q4 := World.ownsRow.cells h (g := b) rfl _ _ e4
    have q5 := World.ownsRow.cells h (g := b) rfl _ _ e5
    rw [Addr.add_lit] at q0 q1 q2 q3 q4 q5
    exact ⟨b, 0, vl, vh, vi, rfl, q0, by rw [Nat.add_assoc]; exact q1, by rw [Nat.add_assoc]; exact q2, by rw [Nat.add_assoc]; exact q3, by rw [Nat.add_assoc]; exact q4, by rw [Nat.add_assoc]; exact q5, o1.rd, o2.rd, o3.rd⟩
theorem OwnL.snoc {W' : World} {B B2 : Nat} {v' : Value} {l : List Reg} {r : Reg} {vl vh vi : Value} {xs : List Value} (hx : ∀ i (hi' : i < l.length), ∃ vl vh vi, xs[i * 6]? = some (.int .i64 l[i].S) ∧ xs[i * 6 + 1]? = some vl ∧ xs[i * 6 + 2]? = some vh ∧ xs[i * 6 + 3]? = some (.int .u64 (hi l[i].R)) ∧ xs[i * 6 + 4]? = some (.int .u64 (lo l[i].R)) ∧ xs[i * 6 + 5]? = some vi ∧ Own W' B2 vl l[i].L ∧ Own W' B2 vh l[i].H ∧ Own W' B2 vi l[i].I)
    (hl : xs.length = l.length * 6) (h' : W'.ownsRow B 48 6 v' (l.length + 1) (xs ++ [.int .i64 r.S, vl, vh, .int .u64 (hi r.R), .int .u64 (lo r.R), vi])) (o1 : Own W' B2 vl r.L) (o2 : Own W' B2 vh r.H) (o3 : Own W' B2 vi r.I) : OwnL W' B B2 v' (l ++ [r]) := by
  refine ⟨_, by rw [List.length_append]; exact h', fun i hi' => ?_⟩
  rw [List.length_append, List.length_singleton] at hi'
  by_cases e : i < l.length
  · obtain ⟨vl, vh, vi, e0, e1, e2, e3, e4, e5, o1, o2, o3⟩ := hx i e
    rw [List.getElem_append_left e]
    exact ⟨vl, vh, vi, by rw [List.getElem?_append_left (by omega)]; exact e0, by rw [List.getElem?_append_left (by omega)]; exact e1, by rw [List.getElem?_append_left (by omega)]; exact e2, by rw [List.getElem?_append_left (by omega)]; exact e3, by rw [List.getElem?_append_left (by omega)]; exact e4, by rw [List.getElem?_append_left (by omega)]; exact e5, o1, o2, o3⟩
  · have e' : i = l.length := by omega
    subst e'
    have er : (l ++ [r])[l.length]'(by simp) = r := by simp
    rw [er]
    refine ⟨vl, vh, vi, ?_, ?_, ?_, ?_, ?_, ?_, o1, o2, o3⟩
    all_goals (rw [List.getElem?_append_right (by omega), hl])
    · simp
    · rw [show l.length * 6 + 1 - l.length * 6 = 1 by omega]; rfl
    · rw [show l.length * 6 + 2 - l.length * 6 = 2 by omega]; rfl
    · rw [show l.length * 6 + 3 - l.length * 6 = 3 by omega]; rfl
    · rw [show l.length * 6 + 4 - l.length * 6 = 4 by omega]; rfl
    · rw [show l.length * 6 + 5 - l.length * 6 = 5 by omega]; rfl
theorem six_cells (w : World) (x0 x1 x2 x3 x4 x5 : Value) (t : TypeId) : ∀ j u, [x0, x1, x2, x3, x4, x5][j]? = some u → (w.alloc (.cells #[x0, x1, x2, x3, x4, x5] t)).cell? ((⟨w.heap.size, 0, none⟩ : Addr).add j) = some u := by
  intro j u hj
  rw [Addr.add_lit]
  rcases j with _ | _ | _ | _ | _ | _ | j <;> simp at hj <;> (subst hj; simp [go_sem])
end Go.Proofs.YtdmdjmliggjbjaaGreat
