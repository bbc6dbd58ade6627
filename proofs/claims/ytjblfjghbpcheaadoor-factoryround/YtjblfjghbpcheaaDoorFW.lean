/- factory.write's closures. -/
import Derived.Test.YtjblfjghbpcheaaDoorFP
namespace Go.Proofs.YtjblfjghbpcheaaDoor
open Go.Shelf Go.RowKit

/-- A builder stays one, whatever is stored into a block of another kind. -/
theorem isB_set {b x o : Nat} {l : Bs} {w : World} {v : Value} {cs : Array Value} {T : TypeId} {fr : Nat × Nat} (h : IsB b l w) (hx : w.heap[x]? = some (.cells cs T fr)) (hT : T ≠ 5) (hxb : b ≠ x) : IsB b l (w.setCell ⟨x, o, none⟩ v) := by
  have key : ∀ p, Lib.BuilderAtF 60 5 b b p (Lib.byteCells l) w → Lib.BuilderAtF 60 5 b b p (Lib.byteCells l) (w.setCell ⟨x, o, none⟩ v) := by
    rintro p ⟨hB, u, hb, hown, hne⟩
    refine ⟨hB, u, ?_, ?_, hne⟩
    · rw [Below.heap_setCell _ _ _ _ (by simpa using hxb)]; exact hb
    · exact hown.kept (row := some x) ⟨rfl, rfl, rfl, by simp [World.setCell], fun k _ hk => Below.heap_setCell _ _ _ _ (fun e => hk (by simp [e]))⟩ (Or.inr (Lib.ownBlock_neF hown hx hT))
  rcases h with h | h
  · exact Or.inl (key _ h)
  · exact Or.inr (key _ h)
theorem isB_alloc {b : Nat} {l : Bs} {w : World} (h : IsB b l w) (o : Obj) : IsB b l (w.alloc o) := by
  rcases h with h | h
  · exact Or.inl (h.alloc o)
  · exact Or.inr (h.alloc o)
theorem isB_lt {b : Nat} {l : Bs} {w : World} (h : IsB b l w) : b < w.heap.size := by
  rcases h with h | h
  · exact h.lt
  · exact h.lt
theorem word_c (b : Nat) (l : Bs) (s : ByteArray) (w : World) (h : IsB b l w) (hl : l.length + s.size ≤ 65536) :
    Calls Tryd.prog 30 #[.string s, .pointer (some ⟨b, 0, none⟩)] w fun e w' => e = .returned (.tuple #[]) ∧ IsB b (l ++ s.data.toList) w' ∧ Below b w w' ∧ Lib.OthersKept 5 (some b) w w' := by
  have W := writeString_c b l s w h hl (Nat.le_of_lt (isB_lt h))
  go_enter Tryd.func30, Tryd.ntmps30
  go_wp2_with fail
  refine W.mono ?_
  rintro e w' ⟨rfl, h1, h2, h3⟩
  go_wp2
  go_end0
  exact ⟨rfl, h1, h2, h3⟩
theorem num_c (b : Nat) (l : Bs) (n : Int) (w : World) (h : IsB b l w) (h0 : 0 ≤ n) (hn : n < 100) (hl : l.length ≤ 60000) :
    Calls Tryd.prog 32 #[.int .i64 n, .pointer (some ⟨b, 0, none⟩)] w fun e w' => e = .returned (.int .i64 n) ∧ IsB b (l ++ dd n) w' ∧ Below b w w' ∧ Lib.OthersKept 5 (some b) w w' := by
  have A : Calls Tryd.prog 33 #[.int .i64 n] w fun e w' => e = .returned (Str (dd n)) ∧ w' = w := by
    have := itoa_c n.toNat (by omega) w
    rw [show ((n.toNat : Nat) : Int) = n by omega] at this
    exact this
  have hd : (dd n).length ≤ 2 := by
    unfold dd
    rw [dec2 _ (by omega)]
    split <;> simp
  have W := writeString_c b l ⟨(dd n).toArray⟩ w h (by rw [size_mk]; omega) (Nat.le_of_lt (isB_lt h))
  rw [show (⟨(dd n).toArray⟩ : ByteArray).data.toList = dd n from rfl] at W
  go_enter Tryd.func32, Tryd.ntmps32
  go_wp2_with fail
  refine A.mono ?_
  rintro e w' ⟨rfl, rfl⟩
  go_wp2_with fail
  refine W.mono ?_
  rintro e w' ⟨rfl, h1, h2, h3⟩
  go_wp2
  go_ret
  exact ⟨rfl, h1, h2, h3⟩

/-- spell under way, writing. -/
structure SwI (b : Nat) (w0 : World) (k n p c : Int) (l : Bs) (w : World) : Prop where
  lt : b < w0.heap.size
  isb : IsB b l w
  bl : Below b w0 w
  box : w.heap[w0.heap.size]? = some (SpC k n p c)
  res : w.heap[w0.heap.size + 1]? = some (SpC 0 0 0 0)
theorem SwI.word {b : Nat} {w0 : World} {k n p c : Int} {l l' : Bs} {w w' : World} (h : SwI b w0 k n p c l w) (h1 : IsB b l' w') (h2 : Below b w w') (h3 : Lib.OthersKept 5 (some b) w w') : SwI b w0 k n p c l' w' := by
  have lt := h.lt
  have ne : ∀ {a0 a1 a2 a3 : Int} {cs : Array Value} {fz : Nat × Nat}, SpC a0 a1 a2 a3 ≠ .cells cs 5 fz := by
    intro a0 a1 a2 a3 cs fz e
    simp at e
  exact ⟨lt, h1, h.bl.trans h2, h3 _ _ h.box (by intro e; injection e with e; omega) (fun _ _ => ne), h3 _ _ h.res (by intro e; injection e with e; omega) (fun _ _ => ne)⟩
theorem SwI.put {b : Nat} {w0 : World} {k n p c : Int} {l : Bs} {w : World} (h : SwI b w0 k n p c l w) (o : Nat) (v : Value)
    (hb : (w.setCell ⟨w0.heap.size, o, none⟩ v).heap[w0.heap.size]? = some (SpC k n p c)) : SwI b w0 k n p c l (w.setCell ⟨w0.heap.size, o, none⟩ v) := by
  have lt := h.lt
  refine ⟨lt, isB_set h.isb h.box (by decide) (by omega), h.bl.setCell (p := ⟨w0.heap.size, o, none⟩) (Nat.le_of_lt lt) _, hb, ?_⟩
  rw [Below.heap_setCell _ _ _ _ (by simp)]
  exact h.res

end Go.Proofs.YtjblfjghbpcheaaDoor
