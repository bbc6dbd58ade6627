/- copy at hits: three cells an element. -/
import Derived.Test.YtfefojgncemohaaTogether
namespace Go.Proofs.Ytfefojgncemohaa
open Go.RowKit Go.Sort

/-- copy(x, l): x's row, of at least so many hits, begins with l's; nothing else turns. -/
theorem run_copy3 (w : World) (ty : TypeId) (g dLen dCap : Nat) (cur : Array Value) (hg : w.heap[g]? = some (.cells cur 26 (0, 0))) (v : Value) (l : List Ht) (hr : Rd w v l) (hle : l.length ≤ dLen) (hfit : l.length * 3 ≤ cur.size) :
    (Builtin.copy_ #[30, 30] ty #[.slice (some ⟨g, 0, none⟩) dLen dCap, v]).run Try.prog w = .ok (goInt l.length) (w.setRow g (fl l ++ cur.toList.drop (l.length * 3)).toArray) := by
  obtain ⟨i0, z0, hi0, hz0, hz1, hz2, hz3⟩ := info26
  have hs : (Go.sizeOf 26).run Try.prog w = .ok 3 w := Try.sizeOf26 w
  have hu := run_underlying Try.underlying30 w
  have hself : ∀ x : List Ht, x = [] → w.setRow g (fl x ++ cur.toList.drop (x.length * 3)).toArray = w := by
    intro x hx
    subst hx
    rw [show (fl [] ++ cur.toList.drop (([] : List Ht).length * 3)).toArray = cur by simp [fl]]
    exact setRow_self w g cur 26 (0, 0) hg
  rcases hr with ⟨rfl, rfl⟩ | ⟨a, cap, rfl, rfl⟩ | ⟨b, o, cap, rfl, hl⟩
  · rw [hself [] rfl]
    simp [Builtin.copy_, hu, Builtin.lenOf, hs, Builtin.firstCells, storeCells]
  · rw [hself [] rfl]
    simp [Builtin.copy_, hu, Builtin.lenOf, hs, Builtin.firstCells, loadCells, loadCellsFrom, storeCells]
  · have hf := run_firstCells_some (P := Try.prog) w 3 l.length ⟨b, o, none⟩ l.length cap (fl l) (fl_len l) (lies_news hl)
    have hst := run_storeCells_at Try.prog g 0 26 (fl l) 0 cur w hg (by rw [fl_len]; omega) (fl_one_cell l)
    simp only [Nat.add_zero, Nat.zero_add, List.take_zero, List.nil_append, fl_len] at hst
    have hmin : Nat.min l.length dLen = l.length := Nat.min_eq_left hle
    simp [Builtin.copy_, hu, Builtin.lenOf, hs, hmin, hf, hst]
end Go.Proofs.Ytfefojgncemohaa
