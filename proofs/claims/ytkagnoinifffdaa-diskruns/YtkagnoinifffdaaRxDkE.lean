/- A change of names: apply, alter. -/
import Derived.Test.YtkagnoinifffdaaRxDkD
namespace Go.Proofs.Ytkagnoinifffdaa
open Go.RowKit Go.Lib Go.Maps

variable {w w' : World} {b : Nat} {q q' : Dq} {F G : Nat → Prop} {ks : List Int} {fm nb sn : Nat} {cv : Value} {fv : Int → Value}
def apC (l : Nms) (c : By × By × Int) : Nms := if c.2.1 = [] then del l c.1 else ins (del l c.1) c.2.1 c.2.2
theorem apC_len (l : Nms) (c : By × By × Int) : (apC l c).length ≤ l.length + 1 := by
  unfold apC
  split
  · exact Nat.le_succ_of_le (del_length _ _)
  · have h1 := ins_length (del l c.1) c.2.1 c.2.2
    have h2 := del_length l c.1
    omega
theorem mem_apC {l : Nms} {c : By × By × Int} {p : By × Int} (h : p ∈ apC l c) : p ∈ l ∨ c.2.1 ≠ [] ∧ p = (c.2.1, c.2.2) := by
  unfold apC at h
  split at h
  · exact .inl (mem_del.1 h).1
  · rename_i e
    rcases List.mem_cons.1 h with h | h
    · exact .inr ⟨e, h⟩
    · exact .inl (mem_del.1 (mem_del.1 h).1).1
theorem turned_cell {b : Nat} {p : Addr} {v : Value} (h : w.mapTurned w' b) (hc : w.cell? p = some v) : w'.cell? p = some v := by
  refine h.grown.cell hc fun e => ?_
  obtain ⟨es, clock, es', clock', hb, _⟩ := h
  cases e
  simp [World.cell?, hb] at hc
set_option maxHeartbeats 1000000 in
theorem apply_c {l : Nms} (h : NmAt w nb l) (hl : l.length < 900000) (c : By × By × Int) (h1 : KWfS c.1) (h2 : KWfS c.2.1) :
    Calls Try.prog 73 #[.agg (chV c).toArray, .map (some nb)] w fun e w' => e = .returned (.tuple #[]) ∧ NmAt w' nb (apC l c) ∧ Kf (fun k => k = nb) w w' := by
  obtain ⟨x, y, n⟩ := c
  have hlt := h.lt
  obtain ⟨w2, hd, hN, hT⟩ := (h.same (w' := w.alloc (.cells #[.string (sb x), .string (sb y), .int .i64 n] 76)) (Below.heap_alloc _ _ _ hlt)).delete h1 0
  have b0 : (w.alloc (.cells #[.string (sb x), .string (sb y), .int .i64 n] 76)).cell? ⟨w.heap.size, 1, none⟩ = some (.string (sb y)) := by simp [go_sem]
  have b1 : (w.alloc (.cells #[.string (sb x), .string (sb y), .int .i64 n] 76)).cell? ⟨w.heap.size, 2, none⟩ = some (.int .i64 n) := by simp [go_sem]
  have c1 := turned_cell hT b0
  have c2 := turned_cell hT b1
  have K2 : Hid (Kf (fun k => k = nb) w w2) := ((Kf.refl (fun k => k = nb) w).alloc _).trans (Kf.turned hT rfl)
  have hv : (chV (x, y, n)).toArray = #[.string (sb x), .string (sb y), .int .i64 n] := rfl
  rw [hv]
  have N2 : Hid (NmAt w2 nb (del l x)) := hN
  have hlen : (del l x).length ≤ l.length := del_length l x
  by_cases e : y = []
  · have E : Hid (apC l (x, y, n) = del l x) := by unfold Hid apC; rw [if_pos e]
    have hy : (sb y).toList.isEmpty = true := by subst e; simp [sb]
    generalize apC l (x, y, n) = l' at *
    generalize sb y = sy at *
    generalize sb x = sx at *
    clear h e hT b0 b1 hN hv
    go_enter Try.func73, Try.ntmps73
    go_wp2
    go_end0
    exact ⟨rfl, by rw [E.out]; exact N2.out, K2.out⟩
  · obtain ⟨w3, hp, hN3, hT3⟩ := hN.put (by show (del l x).length < 1000000; omega) h2 n
    have E : Hid (apC l (x, y, n) = ins (del l x) y n) := by unfold Hid apC; rw [if_neg e]
    have X : Hid (NmAt w3 nb (ins (del l x) y n) ∧ Kf (fun k => k = nb) w w3) := ⟨hN3, K2.out.trans (Kf.turned hT3 rfl)⟩
    have hy : (sb y).toList.isEmpty = false := by
      rw [ByteArray.toList_eq]
      cases y with
      | nil => exact absurd rfl e
      | cons a r => rfl
    generalize apC l (x, y, n) = l' at *
    generalize sb y = sy at *
    generalize sb x = sx at *
    clear h e hT b0 b1 hN hv hT3 hN3
    go_enter Try.func73, Try.ntmps73
    go_wp2
    go_end0
    exact ⟨rfl, by rw [E.out]; exact X.out.1, X.out.2⟩
end Go.Proofs.Ytkagnoinifffdaa
