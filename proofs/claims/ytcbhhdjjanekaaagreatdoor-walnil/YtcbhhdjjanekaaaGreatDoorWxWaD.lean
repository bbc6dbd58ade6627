/- count, add, Last, First, Synced. -/
import Derived.Test.YtcbhhdjjanekaaaGreatDoorWxWaC
namespace Go.Proofs.YtcbhhdjjanekaaaGreatDoor
open Go.RowKit Go.Lib Go.Maps

variable {w w' W W' : World} {a b : Nat} {L L' : Lg} {q q' : Dq} {E F G : Nat → Prop}
/-- An append in a walk, by the equation of its run. -/
theorem wpl_append {P : Program} {w : World} {ops : Array Oper} {rest : List Oper} {o : Oper} {a : Act} {Q : Exit → Act → World → Prop} (hgd : o.guard = none) (s x : Operand) (t : TypeId)
    (ho : o.op = .call { callee := .builtin .append, args := #[s, x], argTypes := #[t, t] }) (v u : Value) (hs : a.eval s = v) (hx : a.eval x = u) {r : Value} {w' : World} (hr : (Builtin.append_ #[t, t] o.type #[v, u]).run P w = .ok r w')
    (h : wpList P ops Q rest (a.put o.dst r) w') : wpList P ops Q (o :: rest) a w := by
  refine wpList_plain hgd fun K hK => ?_
  unfold Oper.wp
  simp [execOp, ho, resolve, invoke, builtin, hs, hx, hr, Result.andThen]
  exact hK _ _ h
theorem WaAt.app (h : WaAt w a b L q E) (hlen : L.sg.length ≤ 1000000) {s : Nat} {x : Sg} (hc0 : w.cell? ⟨s, 0, none⟩ = some (.int .i64 x.1)) (hc1 : w.cell? ⟨s, 1, none⟩ = some (.int .i64 x.2)) :
    ∃ ao c w', (∀ v, w.cell? ⟨a, 1, none⟩ = some v → ∀ ty, (Builtin.append_ #[76, 76] ty #[v, .slice (some ⟨s, 0, none⟩) 1 1]).run Tryz.prog w = .ok (.slice ao (L.sg.length + 1) c) w') ∧ (∀ i u, w.cell? ⟨a, i, none⟩ = some u → w'.cell? ⟨a, i, none⟩ = some u) ∧ (∀ i, w'.frozen? ⟨a, i, none⟩ = false) ∧ a < w'.heap.size ∧
      WaOut w (w'.setCell ⟨a, 1, none⟩ (.slice ao (L.sg.length + 1) c)) a b { L with sg := L.sg ++ [x] } q E := by
  obtain ⟨F, sv, h1, h2, h3, ⟨h4, h5, h6⟩, h7⟩ := h
  have ha := h7 a h4
  obtain ⟨ao, c, w', hr, k, hS⟩ := h3.app hlen hc0 hc1
  have eb : w'.heap[a]? = w.heap[a]? := k.block a ha fun n => n.2.2 rfl
  have s1 := k.size
  have D' : DkAt w' b q F := h1.kp k fun j n f => n.2.1 f
  have ks : ∀ (v : Value) (j : Nat), j ≠ a → (w'.setCell ⟨a, 1, none⟩ v).heap[j]? = w'.heap[j]? := fun v j hj => heap_set_far hj
  refine ⟨ao, c, w', fun v hv ty => ?_, fun i u hu => (World.cell?_of_block (a := ⟨a, i, none⟩) eb).trans hu, fun i => ?_, Nat.lt_of_lt_of_le ha s1, ?_⟩
  · have : v = sv := by
      simp [World.cell?, h2, lgC] at hv
      exact hv.symm
    rw [this]
    exact hr ty
  · have e := eb.trans h2
    simp [World.frozen?, e]
  · have kk : Kf E w (w'.setCell ⟨a, 1, none⟩ (.slice ao (L.sg.length + 1) c)) := (k.mono fun _ n => n.1).set (p := ⟨a, 1, none⟩) (fun _ => h4) _
    have kA : Kf (fun j => j = a) w' (w'.setCell ⟨a, 1, none⟩ (.slice ao (L.sg.length + 1) c)) := (Kf.refl (fun j => j = a) w').set (p := ⟨a, 1, none⟩) (fun _ => rfl) _
    have es : (w'.setCell ⟨a, 1, none⟩ (.slice ao (L.sg.length + 1) c)).heap.size = w'.heap.size := by simp
    refine ⟨⟨F, _, D'.kp kA fun j e f => h5 (e ▸ f), ?_, hS.same (fun g hg => ks _ g ?_) fun g hg => ?_, ⟨.inl h4, h5, fun j f => .inl (h6 j f)⟩, fun j e => e.elim (fun e => Nat.lt_of_lt_of_le (h7 j e) (by rw [es]; exact s1)) fun e => e.2⟩, kk⟩
    · rw [heap_set0 (eb.trans h2)]; rfl
    · rcases hg with hg | hg
      · exact hg.2.2
      · omega
    · rcases hg with hg | hg
      · exact ⟨.inl hg.1, hg.2⟩
      · exact ⟨.inr ⟨hg.1, by rw [es]; exact hg.2⟩, fun f => by have := h7 g (h6 g f); omega, by omega⟩
set_option maxRecDepth 100000 in
theorem wadd_c (h : WaAt w a b L q E) (hlen : L.sg.length ≤ 1000000) (f : Int) : Calls Tryz.prog 61 #[.pointer (some ⟨a, 0, none⟩), .int .i64 f] w fun e w' => e = .returned (.tuple #[]) ∧ WaOut w w' a b (L.add f) q E := by
  have ga := gb_alloc (Below.refl w.heap.size w) (.cells #[.int .i64 f, .int .i64 f] 75)
  have hA := h.gb ga
  obtain ⟨ao0, c0, ⟨k0, k1, k2, k3, k4⟩, fz, ha⟩ := hA.cells
  obtain ⟨ao, c, w', hr, kc, kf, kl, O⟩ := hA.app hlen (s := w.heap.size) (x := (f, f)) (by simp [go_sem]) (by simp [go_sem])
  have hr := hr _ k1 76
  have e1 := kc 1 _ k1
  have e2 := kc 2 _ k2
  have e3 := kc 3 _ k3
  have f1 := kf 1
  have f2 := kf 2
  have f3 := kf 3
  have OO : Hid (WaOut w (((w'.setCell ⟨a, 1, none⟩ (.slice ao (L.sg.length + 1) c)).setCell ⟨a, 2, none⟩ (.int .i64 0)).setCell ⟨a, 3, none⟩ (.bool false)) a b (L.add f) q E) := by
    have o1 := (WaOut.self h).gb ga
    have o2 : WaOut w _ a b { L with sg := L.sg ++ [(f, f)] } q E := o1.trans h.lt ⟨O.1.mono (fun j e => e.elim (fun e => .inl (.inl e)) fun e => .inr e) fun j e => ?_, O.2.mono fun j e => .inl e⟩
    · have o3 := o2.setA (L' := { L with sg := L.sg ++ [(f, f)], sz := 0 }) (i := 2) (v := .int .i64 0) h.inE (fun sv => rfl) rfl
      exact o3.setA (L' := L.add f) (i := 3) (v := .bool false) h.inE (fun sv => rfl) rfl
    · rcases e with (e | e) | e
      · exact O.1.lt j (.inl e)
      · have := O.2.size; omega
      · exact e.2
  have ha0 := h.lt a h.inE
  have c1 : w.cell? ⟨a, 1, none⟩ = some (.slice ao0 L.sg.length c0) := by
    rw [← k1]; exact (World.cell?_of_block (a := ⟨a, 1, none⟩) (ga.block a ha0)).symm
  clear O hA h kc kf k0 k1 k2 k3 k4 fz ga ha
  generalize L.sg.length = n at *
  go_enter Tryz.func61, Tryz.ntmps61
  go_wp2_with (first | (at_builtin; refine wpl_append rfl (.tmp 8) (.tmp 12) 76 rfl _ _ rfl rfl hr ?_) | fail)
  go_end0
  exact ⟨rfl, OO.out⟩
set_option maxRecDepth 100000 in
theorem wcount_c (h : WaAt w a b L q E) (hne : L.sg ≠ []) (hlen : L.sg.length ≤ 1000000) (hs : Sml L.cur.2) (hz : L.sz ≤ 4611686018427387904) {n : Nat} (hn : n ≤ 1000000000) : Calls Tryz.prog 47 #[.pointer (some ⟨a, 0, none⟩), .int .i64 (n : Int)] w fun e w' => e = .returned (.tuple #[]) ∧ WaOut w w' a b (L.count n) q E := by
  have cC := wcurrent_c h hne hlen
  have H : Hid (WaAt w a b L q E) := h
  have hE := h.inE
  have e2 : ((L.sz + n : Nat) : Int) = (L.sz : Int) + (n : Int) := by omega
  have OO : Hid (∀ w1 g o, Gb w w1 → CurA w1 a b L q E g o → (w1.cell? ⟨a, 2, none⟩ = some (.int .i64 (L.sz : Int)) ∧ w1.frozen? ⟨a, 2, none⟩ = false ∧ a < w1.heap.size) ∧ WaOut w ((w1.setCell ⟨g, o + 1, none⟩ (.int .i64 (L.cur.2 + 1))).setCell ⟨a, 2, none⟩ (.int .i64 ((L.sz + n : Nat) : Int))) a b (L.count n) q E) := fun w1 g o g1 C => by
    obtain ⟨_, _, ⟨_, _, k2, _, _⟩, fz, ha⟩ := (H.out.gb g1).cells
    refine ⟨⟨k2, fz 2, ha⟩, ?_⟩
    have o1 := (WaOut.self H.out).gb g1
    have o2 : WaOut w (w1.setCell ⟨g, o + 1, none⟩ (.int .i64 (L.cur.2 + 1))) a b { L with sg := L.sg.dropLast ++ [(L.cur.1, L.cur.2 + 1)] } q E := by
      have es : (w1.setCell ⟨g, o + 1, none⟩ (.int .i64 (L.cur.2 + 1))).heap.size = w1.heap.size := by simp
      exact ⟨(C.2.2.2.2.2.2 _).mono (fun j e => .inl e) fun j e => e.elim (fun e => by rw [es]; exact Nat.lt_of_lt_of_le (H.out.lt j e) g1.size) fun e => e.2, o1.2.set (p := ⟨g, o + 1, none⟩) (fun _ => C.2.2.2.2.1) _⟩
    exact o2.setA (L' := L.count n) hE (fun sv => rfl) rfl
  obtain ⟨hs1, hs2⟩ := hs
  clear h H
  rw [e2] at OO
  generalize hsz : L.sz = sz at *
  go_enter Tryz.func47, Tryz.ntmps47
  go_wp2_with fail
  refine cC.mono ?_
  rintro e w1 ⟨⟨g, o, rfl, C⟩, g1⟩
  obtain ⟨⟨k2, f2, ha⟩, O⟩ := OO.out w1 g o g1 C
  obtain ⟨_, c2, fg, hg, _, nga, _⟩ := id C
  have fg1 := fg (o + 1)
  have ha2 : a ≠ g := Ne.symm nga
  clear OO cC C fg
  generalize L.cur.2 = nx at *
  go_wp2
  go_end0
  exact ⟨rfl, O⟩
end Go.Proofs.YtcbhhdjjanekaaaGreatDoor
