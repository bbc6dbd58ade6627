/- append to a slice without room: it lies in a block of its own then, or has not turned. -/
import Derived.Test.YtkagnoinifffdaaRx38
namespace Go.Proofs.Ytkagnoinifffdaa
open Go.RowKit Go.Lib Go.Maps

variable {w w' : World}
theorem bv_get (l : By) {i : Nat} (hi : i < l.length) : (l.map bv)[i]? = some (.int .u8 (l[i]!.toNat : Int)) := by
  rw [List.getElem?_map, List.getElem?_eq_getElem hi, getElem!_pos _ i hi]; rfl
theorem rdb_fresh {c : Nat} {l : By} (hc : l.length ≤ c) (zs : Array Value) (e : TypeId) : RdB (w.alloc (.cells ((l.map bv).toArray ++ zs) e)) (.slice (some ⟨w.heap.size, 0, none⟩) l.length c) l := by
  refine ⟨_, _, rfl, hc, fun i hi => ⟨_, _, rfl, ?_⟩⟩
  have h := heap_alloc_new w (.cells ((l.map bv).toArray ++ zs) e)
  have h2 : ((l.map bv).toArray ++ zs)[i]? = some (.int .u8 (l[i]!.toNat : Int)) := by
    rw [Array.getElem?_append_left (by simpa using hi)]
    simpa using bv_get l hi
  generalize w.alloc (.cells ((l.map bv).toArray ++ zs) e) = W at h ⊢
  generalize (l.map bv).toArray ++ zs = cs at h h2
  rw [Nat.zero_add]
  simp [World.cell?, h]
  simpa using h2
/-- all[:n:n] with more behind it. -/
theorem app_full {a : Option Addr} {u : Value} {l m : By} (h : AgB w (.slice a l.length l.length) l) (hu : AgB w u m) (hl : l.length + m.length ≤ 8388608) :
    ∃ ax c w', (∀ ty, (Builtin.append_ #[33, 33] ty #[.slice a l.length l.length, u]).run Try.prog w = .ok (.slice ax (l.length + m.length) c) w') ∧ Gb w w' ∧
      (m = [] ∧ ax = a ∧ c = l.length ∨ ax = some ⟨w.heap.size, 0, none⟩ ∧ RdB w' (.slice ax (l ++ m).length c) (l ++ m)) := by
  obtain ⟨i0, hi, hz0, hz1, hz2⟩ := info5
  obtain ⟨ua, cap, rfl, hu⟩ := hu
  obtain ⟨a', c', e, h⟩ := h
  cases e
  by_cases hm : m = []
  · subst hm
    refine ⟨a, l.length, w, fun ty => ?_, Below.refl _ _, .inl ⟨rfl, rfl, rfl⟩⟩
    rcases ua with _ | ud
    · rcases a with _ | ad <;> simp [Builtin.append_, run_underlying Try.underlying33, sizeOf, typeInfo, hi, Builtin.lenOf, Builtin.firstCells, storeCells]
    · have hf := run_firstCells_some (P := Try.prog) w i0.size 0 ud 0 cap [] (by simp) (by simp)
      rcases a with _ | ad <;> simp [Builtin.append_, run_underlying Try.underlying33, sizeOf, typeInfo, hi, Builtin.lenOf, hf, storeCells]
  have hm0 : 0 < m.length := List.length_pos_iff.2 hm
  obtain ⟨_, _, rfl⟩ | ⟨ud, rfl, hu⟩ := hu
  · exact absurd rfl hm
  rcases h with ⟨rfl, hc, rfl⟩ | ⟨ad, rfl, h⟩
  · have hr := fun ty => run_append_nil (P := Try.prog) (w := w) 33 ty 5 i0 (.int .u8 0) Try.underlying33 hi hz0 ud m.length cap (m.map bv) (by rw [hz1]; simp) hu hm0 (by omega) (by rw [hz2]; omega)
    refine ⟨_, _, _, fun ty => by simpa using hr ty, gb_alloc (Below.refl _ w).drew _, .inr ⟨rfl, ?_⟩⟩
    have := rdb_fresh (w := w.drew) (l := m) (c := grownCap w m.length 0 5) (grownCap_ge _ _ _ _) (Builtin.zeroCells (Value.cells (.int .u8 0)) (grownCap w m.length 0 5 - m.length)) 5
    simpa using this
  · have hr := fun ty => run_append_grow (P := Try.prog) (w := w) 33 ty 5 i0 (.int .u8 0) Try.underlying33 hi hz0 ad l.length l.length (l.map bv) (by rw [hz1]; simp) h ud m.length cap (m.map bv) (by rw [hz1]; simp) hu (by omega) (by omega) (growslice_fits (by omega) (by rw [hz2]; omega))
    refine ⟨_, _, _, hr, gb_alloc (Below.refl _ w).drew _, .inr ⟨rfl, ?_⟩⟩
    have := rdb_fresh (w := w.drew) (l := l ++ m) (c := grownCap w (l.length + m.length) l.length 5) (by rw [List.length_append]; exact grownCap_ge _ _ _ _) (Builtin.zeroCells (Value.cells (.int .u8 0)) (grownCap w (l.length + m.length) l.length 5 - (l.length + m.length))) 5
    simpa using this
end Go.Proofs.Ytkagnoinifffdaa
