/- Worlds that have grown; what check asks. -/
import Derived.Test.YtblfmhdcgmkpgaaRnDraws
namespace Go.Proofs.Ytblfmhdcgmkpgaa.Rn
open Go.RowKit Go.Shelf

/-- Of what was there only the block r may have turned. -/
theorem ownFrom_grown {B : Nat} {w : World} {r : Option Nat} (hB : w.heap.size ≤ B) : OwnFrom B (fun (_ : Nat) W => w.grownBy W r) :=
  fun _ A C row hs hg hr => ⟨hg.os.trans hs.os, hg.tape.trans hs.tape, hg.output.trans hs.output, Nat.le_trans hs.size hg.size, fun k hk hn =>
    (hg.block k (Nat.lt_of_lt_of_le hk hs.size) (fun e => by have := (hr k e.symm).1; omega)).trans (hs.block k hk hn)⟩
theorem ownFrom_boxed {B b : Nat} {t : TypeId} {v : Nat → Value} : OwnFrom B (fun (k : Nat) W => Boxed W b t (v k)) :=
  fun k A C row hs hg hr => hs.kept hg (fun e => by obtain ⟨_, o, ho, hc⟩ := hr b e.symm; rw [show A.heap[b]? = _ from hs] at ho; cases ho; cases hc)
theorem ownFrom_pure' {B : Nat} {p : Nat → Prop} : OwnFrom B (fun (k : Nat) (_ : World) => p k) := fun _ _ _ _ hs _ _ => hs
theorem grownBy_refl (w : World) (r : Option Nat) : w.grownBy w r := ⟨rfl, rfl, rfl, Nat.le_refl _, fun _ _ _ => rfl⟩
theorem grownBy_al {w V : World} {r : Option Nat} (h : w.grownBy V r) (o : Obj) : w.grownBy (V.alloc o) r :=
  ⟨h.os, h.tape, h.output, by have := h.size; simp; omega, fun k hk hn => (Below.heap_alloc V o k (Nat.lt_of_lt_of_le hk h.size)).trans (h.block k hk hn)⟩
theorem grownBy_set {w V : World} {b : Nat} (h : w.grownBy V (some b)) {p : Addr} (hp : p.block = b ∨ w.heap.size ≤ p.block) (u : Value) : w.grownBy (V.setCell p u) (some b) :=
  ⟨h.os, h.tape, h.output, Nat.le_trans h.size (KeepsWalks.setCell V p u).size, fun k hk hn => (Below.heap_setCell V p u k (fun e => by
    rcases hp with hp | hp
    · exact hn (by rw [e, hp])
    · omega)).trans (h.block k hk hn)⟩
theorem grownBy_new {w V : World} {r : Option Nat} {p : Addr} (h : w.grownBy V r) (hp : w.heap.size ≤ p.block) (u : Value) : w.grownBy (V.setCell p u) r :=
  ⟨h.os, h.tape, h.output, Nat.le_trans h.size (KeepsWalks.setCell V p u).size, fun k hk hn => (Below.heap_setCell V p u k (fun e => by omega)).trans (h.block k hk hn)⟩
theorem grownBy_put {w V : World} {r : Option Nat} (h : w.grownBy V r) {D : Nat} (hD : w.heap.size ≤ D) (o : Obj) : w.grownBy (V.putObj D o) r :=
  ⟨h.os, h.tape, h.output, by have := h.size; simp; omega, fun k hk hn => (World.putObj_heap_other (by omega)).trans (h.block k hk hn)⟩
theorem Boxed.put {W : World} {B D : Nat} {t : TypeId} {v : Value} {o : Obj} (h : Boxed W B t v) (hD : W.heap[D]? = some o) (ho : o.isCells = false) (o' : Obj) : Boxed (W.putObj D o') B t v :=
  h.kept (grownBy_putObj' W D o') (fun e => by cases e; rw [show W.heap[B]? = _ from h] at hD; cases hD; cases ho)

abbrev ckOk (n lo hi : Int) : Prop := lo ≤ n ∧ n ≤ hi
theorem ckE_ok {n lo hi : Int} (h : ckOk n lo hi) : ckE n lo hi = 0 := if_neg (by have := h.1; have := h.2; omega)
theorem ckE_no {n lo hi : Int} (h : ¬ ckOk n lo hi) : ckE n lo hi = 1 := if_pos (by omega)

end Go.Proofs.Ytblfmhdcgmkpgaa.Rn
