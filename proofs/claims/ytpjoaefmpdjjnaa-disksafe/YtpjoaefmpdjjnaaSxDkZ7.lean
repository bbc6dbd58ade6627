/- A disk of the call's own, beside slices of bytes that no call of the disk turns. -/
import Derived.Test.YtpjoaefmpdjjnaaSxDkZ6
import Derived.Test.YtpjoaefmpdjjnaaSxDkW
import Derived.Test.YtpjoaefmpdjjnaaSxDkP1
namespace Go.Proofs.Ytpjoaefmpdjjnaa
open Go.RowKit Go.Lib Go.Maps

variable {w W W' : World} {b : Nat} {q q' : Dq} {F : Nat → Prop} {ls ms : List (Value × By)}
def SaE (w W : World) (b : Nat) (q : Dq) (ls : List (Value × By)) : Prop := ∃ F, St w W b q F ∧ ∀ p ∈ ls, ∀ X, Kf F W X → RdY X p.1 p.2
theorem StE.sa (h : StE w W b q) : SaE w W b q [] := by
  obtain ⟨F, h⟩ := h
  exact ⟨F, h, fun p hp => absurd hp List.not_mem_nil⟩
theorem SaE.st (h : SaE w W b q ls) : StE w W b q := by
  obtain ⟨F, h, _⟩ := h
  exact ⟨F, h⟩
theorem SaE.sub (h : SaE w W b q ls) (hs : ∀ p ∈ ms, p ∈ ls) : SaE w W b q ms := by
  obtain ⟨F, h, k⟩ := h
  exact ⟨F, h, fun p hp => k p (hs p hp)⟩
theorem SaE.rd (h : SaE w W b q ls) {v : Value} {l : By} (hp : (v, l) ∈ ls) : RdY W v l := by
  obtain ⟨F, _, k⟩ := h
  exact k _ hp W (Kf.refl _ _)
theorem SaE.base (h : SaE w W b q ls) : Gb w W := h.st.base
theorem SaE.gb (h : SaE w W b q ls) (g : Gb W W') : SaE w W' b q ls := by
  obtain ⟨F, h, k⟩ := h
  exact ⟨F, h.gb g, fun p hp X kX => k p hp X ((Kf.gb g F).trans kX)⟩
theorem SaE.call {f : FuncId} {args : Array Value} {v : Value} (h : SaE w W b q ls) (c : ∀ F, DkAt W b q F → Calls Try.prog f args W fun e w' => e = .returned v ∧ DkOut W w' b q' F) : Calls Try.prog f args W fun e w' => e = .returned v ∧ Hid (SaE w w' b q' ls) := by
  obtain ⟨F, h, k⟩ := h
  refine (c F h.1).mono ?_
  rintro e w' ⟨rfl, o⟩
  refine ⟨rfl, _, h.op o, fun p hp X kX => k p hp X (o.2.then kX fun j hj n => n.elim id fun n => absurd n.1 (by omega))⟩
/-- One more: what lies in a block that is new. -/
theorem SaE.add (h : SaE w W b q ls) (g : Gb W W') {v : Value} {l : By} (hv : ∀ X, (∀ k, W.heap.size ≤ k → k < W'.heap.size → X.heap[k]? = W'.heap[k]?) → RdY X v l) : SaE w W' b q ((v, l) :: ls) := by
  obtain ⟨F, h, k⟩ := h
  refine ⟨F, h.gb g, fun p hp X kX => ?_⟩
  rcases List.mem_cons.1 hp with rfl | hp
  · exact hv X fun j h1 h2 => kX.block j h2 fun f => by have := h.1.lt j f; omega
  · exact k p hp X ((Kf.gb g F).trans kX)
theorem OwnB.rdy {B : Nat} {v : Value} {l : By} (h : OwnB W B v l) : RdY W v l := by
  refine ⟨h.rd, fun n c e => ?_⟩
  rcases h.2 with ⟨e2, _⟩ | ⟨g, cap, cur, e2, _⟩
  · rw [e] at e2; cases e2; exact ⟨rfl, rfl⟩
  · rw [e] at e2; cases e2
theorem SaE.read (h : SaE w W b q ls) (ok : q.Ok) {x : By} (hx : KWfS x) : Calls Try.prog 21 #[.pointer (some ⟨b, 0, none⟩), .string (sb x)] W fun e w' => ∃ a c, e = .returned (.tuple #[.slice a (rdV q x).length c, .int .i64 (fiE q x)]) ∧ Hid (SaE w w' b q ((.slice a (rdV q x).length c, rdV q x) :: ls) ∧ Gb W w') := by
  obtain ⟨F, h', _⟩ := id h
  refine (read_c h'.1 ok hx).mono ?_
  rintro e w' ⟨v, rfl, ho, g⟩
  obtain ⟨a, c, rfl⟩ := row_fm ho
  refine ⟨a, c, rfl, h.add g fun X hX => (show OwnB X W.heap.size _ _ from row_same ho fun k e => hX k ?_ ?_).rdy, g⟩
  · rcases ho.2 with ⟨e2, _⟩ | ⟨g2, cap, cur, e2, h1, h2, _⟩
    · rw [e2] at e; cases e
    · rw [e2] at e; cases e; exact h1
  · rcases ho.2 with ⟨e2, _⟩ | ⟨g2, cap, cur, e2, h1, h2, _⟩
    · rw [e2] at e; cases e
    · rw [e2] at e; cases e; exact (Array.getElem?_eq_some_iff.1 h2).1
theorem RdY.cut {a : Option Addr} {c : Nat} {l : By} (h : RdY W (.slice a l.length c) l) : RdY W (.slice a l.length l.length) l := by
  obtain ⟨⟨a', c', e, hc, h⟩, hn⟩ := h
  cases e
  refine ⟨⟨a, _, rfl, Nat.le_refl _, h⟩, fun n c e => ?_⟩
  cases e
  exact ⟨(hn _ _ rfl).1, (hn _ _ rfl).1⟩
/-- The first of them. -/
theorem RdY.take {a : Option Addr} {c m : Nat} {l : By} (h : RdY W (.slice a l.length c) l) (hm : m ≤ l.length) : RdY W (.slice a m c) (l.take m) := by
  obtain ⟨⟨a', c', e, hc, h⟩, hn⟩ := h
  cases e
  have hl : (l.take m).length = m := by rw [List.length_take]; omega
  refine ⟨⟨a, c, by rw [hl], by omega, fun i hi => ?_⟩, fun n c e => ?_⟩
  · rw [hl] at hi
    obtain ⟨g, o, e, hc⟩ := h i (by omega)
    refine ⟨g, o, e, ?_⟩
    rw [hc, getElem!_pos _ i (by omega), getElem!_pos _ i (by omega), List.getElem_take]
  · cases e
    have := hn _ _ rfl
    omega
/-- all[:n:n] with more behind it, beside the disk. -/
theorem SaE.app (h : SaE w W b q ls) {a : Option Addr} {c : Nat} {u : Value} {l m : By} (hp : (.slice a l.length c, l) ∈ ls) (hu : RdY W u m) (hl : l.length + m.length ≤ 8388608) :
    ∃ ax c' w', (∀ ty, (Builtin.append_ #[33, 33] ty #[.slice a l.length l.length, u]).run Try.prog W = .ok (.slice ax (l.length + m.length) c') w') ∧ Gb W w' ∧ Hid (SaE w w' b q ((.slice ax (l ++ m).length c', l ++ m) :: ls)) := by
  obtain ⟨ax, c', w', hr, g, o⟩ := app_full (h.rd hp).cut.ag hu.ag hl
  refine ⟨ax, c', w', hr, g, ?_⟩
  rcases o with ⟨rfl, rfl, rfl⟩ | ⟨rfl, ho⟩
  · obtain ⟨F, h, k⟩ := h
    refine ⟨F, h.gb g, fun p hp' X kX => ?_⟩
    rcases List.mem_cons.1 hp' with rfl | hp'
    · have := (k _ hp X ((Kf.gb g F).trans kX)).cut
      simpa using this
    · exact k p hp' X ((Kf.gb g F).trans kX)
  · refine h.add g fun X hX => ⟨?_, fun n c e => by cases e⟩
    obtain ⟨a2, c2, e, hc, hd⟩ := ho
    cases e
    refine ⟨_, _, rfl, hc, fun i hi => ?_⟩
    obtain ⟨g2, o2, e, hc⟩ := hd i hi
    cases e
    refine ⟨_, _, rfl, ?_⟩
    have hlt : W.heap.size < w'.heap.size := by
      rcases Nat.lt_or_ge W.heap.size w'.heap.size with h | h
      · exact h
      · simp [World.cell?, Array.getElem?_eq_none h] at hc
    rw [← hc]
    simp only [World.cell?, hX W.heap.size (Nat.le_refl _) hlt]
end Go.Proofs.Ytpjoaefmpdjjnaa
