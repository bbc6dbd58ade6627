/- flat.risingIds, somewhere. -/
import Derived.Test.YtepjbdklljlecaaGreatVnFRng
namespace Go.Proofs.YtepjbdklljlecaaGreat
open Go.RowKit Go.Sort

/-- Behind some rounds: the list of the ids so far. -/
structure UpSt (w W : World) (v : Value) (l : List Int) : Prop where
  row : Own W w.heap.size v l
  gb : Gb w W
theorem UpSt.alloc {w W : World} {v : Value} {l : List Int} (h : UpSt w W v l) (o : Obj) : UpSt w (W.alloc o) v l :=
  ⟨World.ownsRow.alloc h.row o, gb_alloc h.gb o⟩
theorem UpSt.next {w W W2 : World} {v v' : Value} {l : List Int} {x : Int} (h : UpSt w W v l)
    (hr : W2.ownsRow w.heap.size 3 1 v' (l.length + 1) (l.map (Value.int .i64) ++ [.int .i64 x])) (hg2 : W.grownBy W2 v.ownBlock) : UpSt w W2 v' (l ++ [x]) := by
  refine ⟨?_, below_grown h.gb hg2 (fun k e => (World.ownsRow.lt h.row k e).1) h.gb.size⟩
  unfold Own
  rw [List.length_append, List.map_append]
  exact hr

end Go.Proofs.YtepjbdklljlecaaGreat
