/- Two sources of the call's own. -/
import Derived.Test.YtjediopfnjkihaaSame
namespace Go.Proofs.Ytjediopfnjkihaa
open Go.RowKit Go.Shelf

theorem grown_none {a b c : World} (h : a.grownBy b none) (k : b.grownBy c none) : a.grownBy c none :=
  ⟨k.os.trans h.os, k.tape.trans h.tape, k.output.trans h.output, Nat.le_trans h.size k.size, fun i hi hn => (k.block i (Nat.lt_of_lt_of_le hi h.size) (by simp)).trans (h.block i hi hn)⟩
theorem grown_below {a b : World} (h : a.grownBy b none) : Below a.heap.size a b := ⟨h.os, h.tape, h.output, h.size, fun k hk => h.block k hk (by simp)⟩

/-- Two sources of the call's own. -/
structure Two (w V : World) (s t : Nat) (x y : Int) : Prop where
  bs : Boxed V s 36 (.int .u64 x)
  bt : Boxed V t 36 (.int .u64 y)
  ne : s ≠ t
  ls : w.heap.size ≤ s
  lt : w.heap.size ≤ t
  g : w.grownBy V none
theorem Two.left {w V V' : World} {s t : Nat} {x y x' : Int} (h : Two w V s t x y) (b : Boxed V' s 36 (.int .u64 x')) (g : V.grownBy V' (some s)) : Two w V' s t x' y :=
  ⟨b, h.bt.kept g (by simpa using Ne.symm h.ne), h.ne, h.ls, h.lt, grown_trans h.g g (.inr h.ls)⟩
theorem Two.right {w V V' : World} {s t : Nat} {x y y' : Int} (h : Two w V s t x y) (b : Boxed V' t 36 (.int .u64 y')) (g : V.grownBy V' (some t)) : Two w V' s t x y' :=
  ⟨h.bs.kept g (by simpa using h.ne), b, h.ne, h.ls, h.lt, grown_trans h.g g (.inr h.lt)⟩
theorem Two.still {w V V' : World} {s t : Nat} {x y : Int} (h : Two w V s t x y) (g : V.grownBy V' none) : Two w V' s t x y :=
  ⟨h.bs.kept g (by simp), h.bt.kept g (by simp), h.ne, h.ls, h.lt, grown_none h.g g⟩
theorem two_new (w : World) (x : Int) : Two w ((w.alloc (.cells #[.int .u64 x] 36)).alloc (.cells #[.int .u64 x] 36)) w.heap.size (w.heap.size + 1) x x := by
  have := Boxed.new (w.alloc (.cells #[.int .u64 x] 36)) 36 (.int .u64 x)
  rw [World.size_alloc] at this
  exact ⟨(Boxed.new w _ _).alloc _, this, by omega, Nat.le_refl _, by omega, grownBy_al (grownBy_al (grownBy_refl _ _) _) _⟩


end Go.Proofs.Ytjediopfnjkihaa
