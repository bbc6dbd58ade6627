/- What the walks over Times lean on. -/
import Derived.Test.YtnhaloeeaejedaaRWide
import Derived.Deep.RegionWith
namespace Go.Proofs.Ytnhaloeeaejedaa
open Go.RowKit

theorem Gr.undrew {w w' : World} (g : Gr w.drew w') : Gr w w' := (Gr.refl w).drew.trans g
/-- plus, its answer under names. -/
theorem plus_ex (n : Nat) (hn : n < 340282366920938463463374607431768211456) (o : Bool) (k v : Nat) (hk : k ≤ 14) (hv : v < 8589934592) (w : World) :
    Calls Try.prog 77 #[Nm n o, .int .i64 (k : Int), .int .i64 (v : Int)] w fun e w' => ∃ q : Nat, ∃ p : Bool, e = .returned (Nm q p) ∧ q < 340282366920938463463374607431768211456 ∧
      Hid (q = (n + v * 65536 ^ k) % 340282366920938463463374607431768211456 ∧ p = (o || decide (340282366920938463463374607431768211456 ≤ n + v * 65536 ^ k))) ∧ Gr w w' := by
  refine (plus_any n hn o k v hk hv w).mono ?_
  rintro e w' ⟨rfl, g⟩
  exact ⟨_, _, rfl, Nat.mod_lt _ (by omega), ⟨rfl, rfl⟩, g⟩
/-- What is left of a number that is added to part by part, and whether it was ever too great. -/
theorem sum_step (Y d : Nat) (ov : Bool) (q q' : Nat) (p p' : Bool) (hq : q = Y % 340282366920938463463374607431768211456) (hp : p = (ov || decide (340282366920938463463374607431768211456 ≤ Y)))
    (hq' : q' = (q + d) % 340282366920938463463374607431768211456) (hp' : p' = (p || decide (340282366920938463463374607431768211456 ≤ q + d))) :
    q' = (Y + d) % 340282366920938463463374607431768211456 ∧ p' = (ov || decide (340282366920938463463374607431768211456 ≤ Y + d)) := by
  subst hq hp hq' hp'
  refine ⟨by omega, ?_⟩
  by_cases h : 340282366920938463463374607431768211456 ≤ Y
  · rw [decide_eq_true h, decide_eq_true (show 340282366920938463463374607431768211456 ≤ Y + d by omega)]; simp
  · rw [Nat.mod_eq_of_lt (by omega), decide_eq_false h]; simp
theorem NumAt.zero (w : World) (t : TypeId) : NumAt (w.alloc (.cells #[.int .i64 0, .int .i64 0, .int .i64 0, .int .i64 0, .int .i64 0, .int .i64 0, .int .i64 0, .int .i64 0, .bool false] t)) w.heap.size 0 false := NumAt.new w 0 false t
theorem NumAt.drew {w : World} {B n : Nat} {o : Bool} (h : NumAt w B n o) : NumAt w.drew B n o := h.call (Gr.refl _).drew

end Go.Proofs.Ytnhaloeeaejedaa
