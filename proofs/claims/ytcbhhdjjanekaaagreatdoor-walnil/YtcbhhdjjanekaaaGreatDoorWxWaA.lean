/- A log in memory: its block, its row of segments (anywhere in a block), its disk beside it; what turns one part of it. -/
import Derived.Test.YtcbhhdjjanekaaaGreatDoorWx23
import Derived.Test.YtcbhhdjjanekaaaGreatDoorWxDkP
namespace Go.Proofs.YtcbhhdjjanekaaaGreatDoor
open Go.RowKit Go.Lib Go.Maps

variable {w w' W W' : World} {a b : Nat} {L L' : Lg} {q q' : Dq} {E F G : Nat → Prop}
def sgV (s : Sg) : List Value := [.int .i64 s.1, .int .i64 s.2]
theorem sgV_len (ss : List Sg) : (ss.flatMap sgV).length = ss.length * 2 := by
  induction ss with
  | nil => rfl
  | cons x t ih => rw [List.flatMap_cons, List.length_append, ih, List.length_cons]; simp only [sgV, List.length_cons, List.length_nil]; omega
def SgR (w : World) (g off cap : Nat) (ss : List Sg) : Prop := ∃ cur, w.heap[g]? = some (.cells cur 75 (0, 0)) ∧ ss.length ≤ cap ∧ cur.size = off + cap * 2 ∧ (cur.toList.drop off).take (ss.length * 2) = ss.flatMap sgV
def SgV (w : World) (sv : Value) (ss : List Sg) (N : Nat → Prop) : Prop := (sv = .slice none 0 0 ∧ ss = []) ∨ ∃ g off cap, sv = .slice (some ⟨g, off, none⟩) ss.length cap ∧ N g ∧ SgR w g off cap ss
theorem SgV.form {N : Nat → Prop} {sv : Value} {ss : List Sg} (h : SgV w sv ss N) : ∃ ao c, sv = .slice ao ss.length c := by
  rcases h with ⟨rfl, rfl⟩ | ⟨g, off, cap, rfl, _⟩
  · exact ⟨none, 0, rfl⟩
  · exact ⟨_, _, rfl⟩
theorem SgV.same {N N' : Nat → Prop} {sv : Value} {ss : List Sg} (h : SgV w sv ss N) (hk : ∀ g, N g → w'.heap[g]? = w.heap[g]?) (hN : ∀ g, N g → N' g) : SgV w' sv ss N' := by
  rcases h with h | ⟨g, off, cap, rfl, h1, cur, h2, h3⟩
  · exact .inl h
  · exact .inr ⟨g, off, cap, rfl, hN g h1, cur, (hk g h1).trans h2, h3⟩
def lgC (b : Nat) (sv : Value) (L : Lg) : Array Value := #[.pointer (some ⟨b, 0, none⟩), sv, .int .i64 (L.sz : Int), .bool L.tn, .int .i64 L.sy]
/-- A log and its disk; E: what calls of it may turn. -/
def WaAt (w : World) (a b : Nat) (L : Lg) (q : Dq) (E : Nat → Prop) : Prop := ∃ F sv, DkAt w b q F ∧ w.heap[a]? = some (.cells (lgC b sv L) 78 (0, 0)) ∧ SgV w sv L.sg (fun g => E g ∧ ¬ F g ∧ g ≠ a) ∧ (E a ∧ ¬ F a ∧ ∀ j, F j → E j) ∧ ∀ j, E j → j < w.heap.size
theorem WaAt.lt (h : WaAt w a b L q E) : ∀ j, E j → j < w.heap.size := by obtain ⟨_, _, _, _, _, _, h⟩ := h; exact h
theorem WaAt.kp (h : WaAt w a b L q E) (k : Kf G w w') (hG : ∀ j, G j → ¬ E j) : WaAt w' a b L q E := by
  obtain ⟨F, sv, h1, h2, h3, ⟨h4, h5, h6⟩, h7⟩ := h
  exact ⟨F, sv, h1.kp k fun j g f => hG j g (h6 j f), (k.block a (h7 a h4) fun g => hG a g h4).trans h2, h3.same (fun g hg => k.block g (h7 g hg.1) fun g' => hG g g' hg.1) fun _ h => h, ⟨h4, h5, h6⟩, fun j hj => Nat.lt_of_lt_of_le (h7 j hj) k.size⟩
theorem WaAt.gb (h : WaAt w a b L q E) (g : Gb w w') : WaAt w' a b L q E := h.kp (Kf.gb g fun _ => False) fun _ f => f.elim
theorem WaAt.mono (h : WaAt w a b L q E) {E' : Nat → Prop} (h1 : ∀ j, E j → E' j) (h2 : ∀ j, E' j → j < w.heap.size) : WaAt w a b L q E' := by
  obtain ⟨F, sv, k1, k2, k3, ⟨k4, k5, k6⟩, _⟩ := h
  exact ⟨F, sv, k1, k2, k3.same (fun _ _ => rfl) fun g hg => ⟨h1 g hg.1, hg.2⟩, ⟨h1 a k4, k5, fun j f => h1 j (k6 j f)⟩, h2⟩
theorem WaAt.cells (h : WaAt w a b L q E) : ∃ ao c, (w.cell? ⟨a, 0, none⟩ = some (.pointer (some ⟨b, 0, none⟩)) ∧ w.cell? ⟨a, 1, none⟩ = some (.slice ao L.sg.length c) ∧ w.cell? ⟨a, 2, none⟩ = some (.int .i64 (L.sz : Int)) ∧ w.cell? ⟨a, 3, none⟩ = some (.bool L.tn) ∧ w.cell? ⟨a, 4, none⟩ = some (.int .i64 L.sy)) ∧ (∀ i, w.frozen? ⟨a, i, none⟩ = false) ∧ a < w.heap.size := by
  obtain ⟨F, sv, _, h2, h3, _⟩ := h
  obtain ⟨ao, c, rfl⟩ := h3.form
  refine ⟨ao, c, ⟨?_, ?_, ?_, ?_, ?_⟩, fun i => ?_, (Array.getElem?_eq_some_iff.1 h2).1⟩ <;> simp [World.cell?, World.frozen?, h2, lgC]
/-- What a call leaves. -/
def WaOut (w w' : World) (a b : Nat) (L : Lg) (q : Dq) (E : Nat → Prop) : Prop := WaAt w' a b L q (Nw E w w') ∧ Kf E w w'
theorem WaOut.self (h : WaAt w a b L q E) : WaOut w w a b L q E := ⟨h.mono (fun _ e => .inl e) fun j e => e.elim (h.lt j) fun e => e.2, Kf.refl _ _⟩
theorem Nw.step {j : Nat} (h1 : w.heap.size ≤ W.heap.size) (h2 : W.heap.size ≤ W'.heap.size) (h : Nw (Nw E w W) W W' j) : Nw E w W' j := by
  rcases h with (h | h) | h
  · exact .inl h
  · exact .inr ⟨h.1, Nat.lt_of_lt_of_le h.2 h2⟩
  · exact .inr ⟨Nat.le_trans h1 h.1, h.2⟩
theorem WaOut.trans (h : WaOut w W a b L q E) (hE : ∀ j, E j → j < w.heap.size) (k : WaOut W W' a b L' q' (Nw E w W)) : WaOut w W' a b L' q' E :=
  ⟨k.1.mono (fun _ e => Nw.step h.2.size k.2.size e) fun j e => e.elim (fun e => Nat.lt_of_lt_of_le (hE j e) (Nat.le_trans h.2.size k.2.size)) fun e => e.2, h.2.then k.2 fun j hj e => e.elim id fun e => absurd hj (by omega)⟩
theorem WaOut.gb (h : WaOut w W a b L q E) (g : Gb W W') : WaOut w W' a b L q E := by
  refine ⟨(h.1.gb g).mono (fun j e => e.imp id fun e => ⟨e.1, Nat.lt_of_lt_of_le e.2 g.size⟩) fun j e => e.elim (fun e => Nat.lt_of_lt_of_le (h.1.lt j (.inl e)) g.size) fun e => e.2, h.2.then (Kf.gb g E) fun _ _ e => e⟩
/-- A call of the disk. -/
theorem WaAt.dk {f : FuncId} {args : Array Value} {R : Ending → Prop} (h : WaAt w a b L q E) (c : ∀ F, DkAt w b q F → Calls Tryz.prog f args w fun e w' => R e ∧ DkOut w w' b q' F) : Calls Tryz.prog f args w fun e w' => R e ∧ WaOut w w' a b L q' E := by
  obtain ⟨F, sv, h1, h2, h3, ⟨h4, h5, h6⟩, h7⟩ := h
  refine (c F h1).mono ?_
  rintro e w' ⟨hr, o1, o2⟩
  have s := o2.size
  refine ⟨hr, ⟨Nw F w w', sv, o1, (o2.block a (h7 a h4) h5).trans h2, h3.same (fun g hg => o2.block g (h7 g hg.1) hg.2.1) fun g hg => ⟨.inl hg.1, fun f => f.elim hg.2.1 fun f => by have := h7 g hg.1; omega, hg.2.2⟩, ⟨.inl h4, fun f => f.elim h5 fun f => by have := h7 a h4; omega, fun j f => f.imp (h6 j) id⟩, fun j e => e.elim (fun e => Nat.lt_of_lt_of_le (h7 j e) s) fun e => e.2⟩, o2.mono h6⟩
theorem WaOut.dk {f : FuncId} {args : Array Value} {R : Ending → Prop} (o : WaOut w W a b L q E) (hE : ∀ j, E j → j < w.heap.size) (c : ∀ F, DkAt W b q F → Calls Tryz.prog f args W fun e w' => R e ∧ DkOut W w' b q' F) : Calls Tryz.prog f args W fun e w' => R e ∧ WaOut w w' a b L q' E :=
  (o.1.dk c).mono fun _ _ h => ⟨h.1, o.trans hE h.2⟩
/-- The block in which the row of segments lies. -/
def CurB (w : World) (a g : Nat) : Prop := ∃ off n c, w.cell? ⟨a, 1, none⟩ = some (.slice (some ⟨g, off, none⟩) n c)
theorem CurB.gb {g : Nat} (h : CurB w a g) (k : Gb w w') : CurB w' a g := by
  obtain ⟨off, n, c, h⟩ := h
  exact ⟨off, n, c, gb_keeps k h⟩
/-- A call of the disk leaves the row of segments. -/
theorem WaAt.dkg {f : FuncId} {args : Array Value} {R : Ending → Prop} (h : WaAt w a b L q E) (c : ∀ F, DkAt w b q F → Calls Tryz.prog f args w fun e w' => R e ∧ DkOut w w' b q' F) : Calls Tryz.prog f args w fun e w' => R e ∧ WaOut w w' a b L q' E ∧ ∀ g, CurB w a g → w'.heap[g]? = w.heap[g]? := by
  obtain ⟨F, sv, h1, h2, h3, ⟨h4, h5, h6⟩, h7⟩ := h
  refine (c F h1).mono ?_
  rintro e w' ⟨hr, o1, o2⟩
  have s := o2.size
  refine ⟨hr, ⟨⟨Nw F w w', sv, o1, (o2.block a (h7 a h4) h5).trans h2, h3.same (fun g hg => o2.block g (h7 g hg.1) hg.2.1) fun g hg => ⟨.inl hg.1, fun f => f.elim hg.2.1 fun f => by have := h7 g hg.1; omega, hg.2.2⟩, ⟨.inl h4, fun f => f.elim h5 fun f => by have := h7 a h4; omega, fun j f => f.imp (h6 j) id⟩, fun j e => e.elim (fun e => Nat.lt_of_lt_of_le (h7 j e) s) fun e => e.2⟩, o2.mono h6⟩, fun g hg => ?_⟩
  obtain ⟨off, n, c, hc⟩ := hg
  simp [World.cell?, h2, lgC] at hc
  subst hc
  rcases h3 with ⟨e, _⟩ | ⟨g', _, _, e, hN, _⟩
  · cases e
  · cases e
    exact o2.block g (h7 g hN.1) hN.2.1
/-- One of its own cells is written. -/
theorem heap_set_far {g i : Nat} {v : Value} {k : Nat} (h : k ≠ g) : (w.setCell ⟨g, i, none⟩ v).heap[k]? = w.heap[k]? := by
  simp only [World.setCell, Array.getElem?_modify]
  rw [if_neg (Ne.symm h)]
theorem WaAt.setA (h : WaAt w a b L q E) {i : Nat} {v : Value} (hl : ∀ sv, (lgC b sv L).setIfInBounds i v = lgC b sv L') (hs : L'.sg = L.sg) : WaAt (w.setCell ⟨a, i, none⟩ v) a b L' q E := by
  obtain ⟨F, sv, h1, h2, h3, ⟨h4, h5, h6⟩, h7⟩ := h
  have ks : ∀ k, k ≠ a → (w.setCell ⟨a, i, none⟩ v).heap[k]? = w.heap[k]? := fun k hk => heap_set_far hk
  have k := (Kf.refl (fun k => k = a) w).set (p := ⟨a, i, none⟩) (fun _ => rfl) v
  refine ⟨F, sv, h1.kp k fun j e f => h5 (e ▸ f), ?_, ?_, ⟨h4, h5, h6⟩, fun j e => Nat.lt_of_lt_of_le (h7 j e) k.size⟩
  · rw [heap_set0 h2, hl sv]
  · rw [hs]; exact h3.same (fun g hg => ks g hg.2.2) fun _ h => h
theorem WaOut.setA (h : WaOut w W a b L q E) {i : Nat} {v : Value} (hE : E a) (hl : ∀ sv, (lgC b sv L).setIfInBounds i v = lgC b sv L') (hs : L'.sg = L.sg) : WaOut w (W.setCell ⟨a, i, none⟩ v) a b L' q E := by
  have e := (Kf.refl E W).set (p := ⟨a, i, none⟩) (fun _ => hE) v
  have es : (W.setCell ⟨a, i, none⟩ v).heap.size = W.heap.size := by simp
  refine ⟨(h.1.setA hl hs).mono (fun j k => k.imp id fun k => ⟨k.1, by rw [es]; exact k.2⟩) fun j k => by rw [es]; exact h.1.lt j (k.imp id fun k => ⟨k.1, by rw [es] at k; exact k.2⟩), h.2.trans e⟩
theorem WaAt.inE (h : WaAt w a b L q E) : E a := by obtain ⟨_, _, _, _, _, ⟨h, _⟩, _⟩ := h; exact h
theorem WaOut.inE (_h : WaOut w W a b L q E) (h0 : WaAt w a b L' q' E) : E a := h0.inE
end Go.Proofs.YtcbhhdjjanekaaaGreatDoor
