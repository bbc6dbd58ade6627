import Derived.Test.YtkagnoinifffdaaRxDkT
import Derived.Test.YtkagnoinifffdaaRxDkV
import Derived.Test.YtkagnoinifffdaaRxCoS
/- The document's examples, plainly. -/
namespace Go.Proofs.Ytkagnoinifffdaa
open Go.RowKit Go.Lib Go.Maps

def exA : By := [97]
def ex1 : Dq := (nwQ 4).create exA
def ex2 : Dq := ex1.append exA [1, 2, 3]
def ex3 : Dq := ex2.append exA [4, 5]
def ex4 : Dq := ex3.sync exA
def ex5 : Dq := ex4.append exA [9]
def ex6 : Dq := ex5.syncDir
theorem ex_cr : crE (nwQ 4) exA = 0 := by decide
theorem ex_a1 : apE ex1 exA 3 = 0 := by decide
theorem ex_a2 : apE ex2 exA 2 = 173 := by decide
theorem ex_sy : fiE ex3 exA = 0 := by decide
theorem ex_a3 : apE ex4 exA 1 = 0 := by decide
theorem ex_sd : rfE ex5 = 0 := by decide
theorem srtB_one (x : By) : srtB [x] = [x] := by simp [srtB]
theorem ex_o (cs : List Int) (_h : shr (chc cs 0) 0 = 0) : kys (crO ex6 cs) = [exA] := by
  have e : crO ex6 cs = ex6.sf := by
    unfold crO sur
    rw [show ex6.ch = [] from rfl]
    simp [apT]
  rw [e]; rfl
theorem ex_cF (cs : List Int) (h : shr (chc cs 0) 0 = 0) : ex6.crash cs = (crQ ex6 cs 1).settle := by
  unfold Dq.crash
  rw [ex_o cs h, srtB_one]; rfl
theorem ex_st : (ex6.crash [0, -2]).st = 5 := rfl
theorem ex_f1 : fiE (ex6.crash [0, -2]) exA = 0 := by
  rw [ex_cF _ (by decide)]; rfl
theorem ex_f2 : fiE (ex6.crash [0, 1]) exA = 0 := by
  rw [ex_cF _ (by decide)]; rfl
theorem ex_crT (cs : List Int) (h : shr (chc cs 0) 0 = 0) : (crQ ex6 cs 1).fb (num (crQ ex6 cs 1).nm exA) = crB [1, 2, 3, 9] 3 (chc cs 1) := by
  unfold crQ crT
  rw [ex_o cs h, srtB_one]
  have e : crO ex6 cs = ex6.sf := by
    unfold crO sur
    rw [show ex6.ch = [] from rfl]
    simp [apT]
  rw [e]
  rfl
theorem ex_r1 : rdV (ex6.crash [0, -2]) exA = [1, 2, 3, 0] := by
  unfold rdV
  rw [if_pos ex_f1, ex_cF _ (by decide)]
  exact (ex_crT [0, -2] (by decide)).trans (by decide)
theorem ex_r2 : rdV (ex6.crash [0, 1]) exA = [1, 2, 3, 9] := by
  unfold rdV
  rw [if_pos ex_f2, ex_cF _ (by decide)]
  exact (ex_crT [0, 1] (by decide)).trans (by decide)
end Go.Proofs.Ytkagnoinifffdaa

/- Disks of the call's own, one or two; awake. -/
namespace Go.Proofs.Ytkagnoinifffdaa
open Go.RowKit Go.Lib Go.Maps

variable {w W W' W'' : World} {b b' : Nat} {q q' q2 : Dq} {F G : Nat → Prop}
/-- A disk of the call's own: all of it is younger than w. -/
def St (w W : World) (b : Nat) (q : Dq) (F : Nat → Prop) : Prop := DkAt W b q F ∧ Gb w W ∧ ∀ k, F k → w.heap.size ≤ k
theorem St.op (h : St w W b q F) (o : DkOut W W' b q' F) : St w W' b q' (Nw F W W') :=
  ⟨o.1, ⟨o.2.os.trans h.2.1.os, o.2.tape.trans h.2.1.tape, o.2.output.trans h.2.1.output, Nat.le_trans h.2.1.size o.2.size, fun k hk => (o.2.block k (Nat.lt_of_lt_of_le hk h.2.1.size) fun f => by have := h.2.2 k f; omega).trans (h.2.1.block k hk)⟩,
   fun k hk => hk.elim (h.2.2 k) fun f => Nat.le_trans h.2.1.size f.1⟩
theorem St.gb (h : St w W b q F) (g : Gb W W') : St w W' b q F := ⟨h.1.gb g, gb_trans h.2.1 g, h.2.2⟩
def StE (w W : World) (b : Nat) (q : Dq) : Prop := ∃ F, St w W b q F
theorem StE.gb (h : StE w W b q) (g : Gb W W') : StE w W' b q := by obtain ⟨F, h⟩ := h; exact ⟨F, h.gb g⟩
theorem StE.base (h : StE w W b q) : Gb w W := by obtain ⟨F, h⟩ := h; exact h.2.1
/-- Two disks, apart. -/
def Two (w W : World) (b : Nat) (q : Dq) (b' : Nat) (q' : Dq) : Prop := ∃ F G, St w W b q F ∧ St w W b' q' G ∧ ∀ k, F k → ¬ G k
theorem Two.swap (h : Two w W b q b' q') : Two w W b' q' b q := by
  obtain ⟨F, G, h1, h2, h3⟩ := h
  exact ⟨G, F, h2, h1, fun k g f => h3 k f g⟩
theorem Two.gb (h : Two w W b q b' q') (g : Gb W W') : Two w W' b q b' q' := by
  obtain ⟨F, G, h1, h2, h3⟩ := h
  exact ⟨F, G, h1.gb g, h2.gb g, h3⟩
theorem Two.base (h : Two w W b q b' q') : Gb w W := by obtain ⟨F, G, h, _⟩ := h; exact h.2.1
theorem Two.op (h1 : St w W b q F) (h2 : St w W b' q' G) (h3 : ∀ k, F k → ¬ G k) (o : DkOut W W' b q2 F) : Two w W' b q2 b' q' := by
  refine ⟨_, G, h1.op o, ⟨h2.1.kp o.2 h3, (h1.op o).2.1, h2.2.2⟩, fun k hk g => hk.elim (fun f => h3 k f g) fun f => ?_⟩
  obtain ⟨_, _, _, _, _, _, _, _, _, h4⟩ := h2.1
  have := h4 k g
  omega
/-- A call that turns one disk, lifted. -/
theorem StE.call {f : FuncId} {args : Array Value} {v : Value} (h : StE w W b q) (c : ∀ F, DkAt W b q F → Calls Try.prog f args W fun e w' => e = .returned v ∧ DkOut W w' b q' F) : Calls Try.prog f args W fun e w' => e = .returned v ∧ Hid (StE w w' b q') := by
  obtain ⟨F, h⟩ := h
  refine (c F h.1).mono ?_
  rintro e w' ⟨rfl, o⟩
  exact ⟨rfl, _, h.op o⟩
theorem Two.call {f : FuncId} {args : Array Value} {v : Value} (h : Two w W b q b' q') (c : ∀ F, DkAt W b q F → (∀ k, F k → k < W.heap.size) → Calls Try.prog f args W fun e w' => e = .returned v ∧ DkOut W w' b q2 F) : Calls Try.prog f args W fun e w' => e = .returned v ∧ Hid (Two w w' b q2 b' q') := by
  obtain ⟨F, G, h1, h2, h3⟩ := h
  obtain ⟨_, _, _, _, _, _, _, _, _, h4⟩ := id h1.1
  refine (c F h1.1 h4).mono ?_
  rintro e w' ⟨rfl, o⟩
  exact ⟨rfl, Two.op h1 h2 h3 o⟩
theorem DkAt.lt (h : DkAt W b q F) : ∀ k, F k → k < W.heap.size := by obtain ⟨_, _, _, _, _, _, _, _, _, h4⟩ := h; exact h4
/-- What New and Clone leave. -/
theorem StE.new {r : Int} (g : Gb w W) (h : NwOut W W' b r) : StE w W' b (nwQ r) := ⟨_, h.2.1, gb_trans g h.2.2, fun _ hk => Nat.le_trans g.size hk.1⟩
theorem Two.clone (h : StE w W b q) (c : ClOut W W' b' q) : Two w W' b q b' q := by
  obtain ⟨F, h⟩ := h
  refine ⟨F, _, h.gb c.2.2, ⟨c.2.1, gb_trans h.2.1 c.2.2, fun k hk => Nat.le_trans h.2.1.size hk.1⟩, fun k f g => ?_⟩
  have := h.1.lt k f
  omega
/-- A slice of bytes, of numbers, made last of all. -/
theorem agb_new (W : World) (l : By) (t : TypeId) : AgB (W.alloc (.cells (l.map bv).toArray t)) (.slice (some ⟨W.heap.size, 0, none⟩) l.length l.length) l := by
  refine ⟨_, _, rfl, .inr ⟨_, rfl, fun j u hj => ?_⟩⟩
  rw [Addr.add_lit]
  have e := heap_alloc_new W (.cells (l.map bv).toArray t)
  simp only [World.cell?, Nat.zero_add]
  rw [e]
  simp only [Option.isSome_none, Bool.false_eq_true, if_false, List.getElem?_toArray]
  exact hj
theorem rdi_new {W w' : World} {l : List Int} {t : TypeId} (h : w'.heap[W.heap.size]? = (W.alloc (.cells (l.map (Value.int .i64)).toArray t)).heap[W.heap.size]?) : RdI w' (.slice (some ⟨W.heap.size, 0, none⟩) l.length l.length) l := by
  refine ⟨_, _, rfl, fun i hi => ⟨_, _, rfl, ?_⟩⟩
  rw [heap_alloc_new] at h
  simp only [World.cell?, Nat.zero_add]
  rw [h]
  simp only [Option.isSome_none, Bool.false_eq_true, if_false, List.getElem?_toArray]
  rw [List.getElem?_map, getElem!_pos l i hi, List.getElem?_eq_getElem hi]; rfl
theorem exA_wf : KWfS exA := by unfold KWfS exA maxLen; simp
theorem ex_ok : (nwQ 4).Ok ∧ ex1.Ok ∧ ex2.Ok ∧ ex3.Ok ∧ ex4.Ok ∧ ex5.Ok ∧ ex6.Ok := by
  have h0 := nwQ_ok (r := 4) (by omega)
  have h1 := h0.create exA
  have h2 := h1.append exA [1, 2, 3]
  have h3 := h2.append exA [4, 5]
  have h4 := h3.sync exA
  have h5 := h4.append exA [9]
  exact ⟨h0, h1, h2, h3, h4, h5, h5.syncDir⟩
theorem ex_st6 : ex1.st = 1 ∧ ex2.st = 2 ∧ ex3.st = 2 ∧ ex4.st = 3 ∧ ex5.st = 4 ∧ ex6.st = 5 := by
  refine ⟨rfl, rfl, rfl, rfl, rfl, rfl⟩
end Go.Proofs.Ytkagnoinifffdaa
