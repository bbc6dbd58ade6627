/- Which function a method of container/heap's interface is, at the program's own heap. -/
import Derived.Test.YteaeaoekaoedoaaGreatTkPush
namespace Go.Proofs.YteaeaoekaoedoaaGreat.Tk
open Go.RowKit Go.Sort

theorem load53 (hb : Nat) (v : Value) (W : World) (hc : W.cell? ⟨hb, 1, none⟩ = some v) : (loadVar 111 ⟨hb, 1, none⟩).run Tryz.prog W = .ok v W := by
  simp [loadVar, go_sem, hc]
theorem wrapchk (a : Addr) (nm : String) (W : World) : (Builtin.ssaWrapNilChk_ #[115] 115 #[.pointer (some a), strVal "", strVal nm]).run Tryz.prog W = .ok (.pointer (some a)) W := rfl
theorem recv_any (nm : String) (hb : Nat) (v : Value) (W : World) (hc : W.cell? ⟨hb, 1, none⟩ = some v) :
    (receiverAt 115 (.val (.pointer (some ⟨hb, 1, none⟩))) false (some nm)).run Tryz.prog W = .ok v W := by
  have hl := load53 hb v W hc
  have hu := run_underlying Tryz.underlying115 W
  have hw := wrapchk ⟨hb, 1, none⟩ nm W
  unfold receiverAt
  simp only [Sem.run_bind, hu, Result.andThen_ok, Place.get, Sem.run_pure, hw, asAddr, hl]
theorem inv_any (name : String) (f : Nat) (hm : (Tryz.prog.info? 115).map (fun i => (i.methods.find? (·.name == name)).map fun m => (m.path, m.func)) = some (some (#[], some (f, false))))
    (hb : Nat) (v : Value) (W : World) (hc : W.cell? ⟨hb, 1, none⟩ = some v) :
    (method 290 115 (.pointer (some ⟨hb, 1, none⟩)) name).run Tryz.prog W = .ok (f, v) W := by
  obtain ⟨i, hi⟩ := Option.isSome_iff_exists.1 (show (Tryz.prog.info? 115).isSome = true by kernel_rfl)
  rw [hi] at hm
  simp only [Option.map_some, Option.some.injEq] at hm
  cases hf : i.methods.find? (·.name == name) with
  | none => rw [hf] at hm; cases hm
  | some m =>
    rw [hf] at hm
    simp only [Option.map_some, Option.some.injEq, Prod.mk.injEq] at hm
    obtain ⟨h1, h2⟩ := hm
    have hr := fun nm => recv_any nm hb v W hc
    have ht : (typeInfo 115).run Tryz.prog W = .ok i W := by simp [typeInfo, hi]
    rw [method]
    simp only [Sem.run_bind, ht, Result.andThen_ok, hf, h1, h2, follow, Sem.run_pure]
    simp [hr]
theorem inv_less (hb : Nat) (v : Value) (W : World) (hc : W.cell? ⟨hb, 1, none⟩ = some v) :
    (method 290 115 (.pointer (some ⟨hb, 1, none⟩)) "Less").run Tryz.prog W = .ok (153, v) W := inv_any "Less" 153 (by kernel_rfl) hb v W hc
theorem inv_swap (hb : Nat) (v : Value) (W : World) (hc : W.cell? ⟨hb, 1, none⟩ = some v) :
    (method 290 115 (.pointer (some ⟨hb, 1, none⟩)) "Swap").run Tryz.prog W = .ok (154, v) W := inv_any "Swap" 154 (by kernel_rfl) hb v W hc
theorem inv_len (hb : Nat) (v : Value) (W : World) (hc : W.cell? ⟨hb, 1, none⟩ = some v) :
    (method 290 115 (.pointer (some ⟨hb, 1, none⟩)) "Len").run Tryz.prog W = .ok (152, v) W := inv_any "Len" 152 (by kernel_rfl) hb v W hc
theorem inv_push (hb : Nat) (W : World) :
    (method 290 115 (.pointer (some ⟨hb, 1, none⟩)) "Push").run Tryz.prog W = .ok (155, .pointer (some ⟨hb, 1, none⟩)) W := by kernel_rfl
end Go.Proofs.YteaeaoekaoedoaaGreat.Tk
