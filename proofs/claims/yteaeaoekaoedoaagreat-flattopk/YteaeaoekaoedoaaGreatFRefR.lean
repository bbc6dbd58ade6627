/- The reference's Check, Asked, Range. -/
import Derived.Test.YteaeaoekaoedoaaGreatFRefH
import Derived.Test.YteaeaoekaoedoaaGreatRRows
import Derived.Test.YteaeaoekaoedoaaGreatFAwake
namespace Go.Proofs.YteaeaoekaoedoaaGreat
open Go.RowKit Go.Sort Go.Maps

set_option maxHeartbeats 1000000 in
theorem rflat_c {w : World} {v : Value} {rs : List Rw} (hv : RdW w v rs) (hlen : rs.length ≤ 4611686018427387904) (d : Int) :
    Calls Tryz.prog 16 #[v, .int .i64 d] w fun e w' => e = .returned (.int .i64 (flatE rs d)) ∧ Gr w w' := by
  have c := rrows_c hv d hlen
  obtain ⟨a, cap, rfl, _⟩ := hv
  unfold flatE
  generalize rs.length = n at *
  generalize idsE rs d = z at *
  by_cases h1 : d < 1
  · rw [if_neg (by omega)]
    go_enter Tryz.func16, Tryz.ntmps16
    go_wp2
    go_ret
    exact ⟨rfl, Gr.refl _⟩
  · by_cases h2 : 64 < d
    · rw [if_neg (by omega)]
      go_enter Tryz.func16, Tryz.ntmps16
      go_wp2
      go_ret
      exact ⟨rfl, Gr.refl _⟩
    · rw [if_pos (by omega)]
      go_enter Tryz.func16, Tryz.ntmps16
      go_wp2_with (go_at_call 37; refine c.mono ?_; rintro e w' ⟨rfl, g⟩)
      go_ret
      exact ⟨rfl, g⟩
set_option maxHeartbeats 1000000 in
theorem rask_c {w : World} {v u : Value} {rs : List Rw} {q : List Int} (hv : RdW w v rs) (hu : RdI w u q) (hlen : rs.length ≤ 4611686018427387904) :
    Calls Tryz.prog 21 #[v, u] w fun e w' => e = .returned (.int .i64 (askE rs q)) ∧ Gr w w' := by
  have c1 := rcheck_c hu (q.length : Int)
  have c2 := rflat_c hv hlen (q.length : Int)
  obtain ⟨a, cap, rfl, _⟩ := hv
  obtain ⟨au, cu, rfl, _⟩ := hu
  unfold askE
  generalize flatE rs (q.length : Int) = z2 at *
  by_cases h : chk q (q.length : Int) = 0
  · rw [if_pos h]
    rw [h] at c1
    clear h
    generalize rs.length = n at *
    generalize q.length = m at *
    go_enter Tryz.func21, Tryz.ntmps21
    go_wp2_with fail
    refine c1.mono ?_
    rintro e w' ⟨rfl, e2⟩
    subst e2
    go_wp2_with fail
    refine c2.mono ?_
    rintro e w' ⟨rfl, g⟩
    go_wp2
    go_ret
    exact ⟨rfl, g⟩
  · rw [if_neg h]
    have h' : (chk q (q.length : Int) == 0) = false := by rw [beq_eq_false_iff_ne]; exact h
    generalize chk q (q.length : Int) = z1 at *
    generalize rs.length = n at *
    generalize q.length = m at *
    go_enter Tryz.func21, Tryz.ntmps21
    go_wp2_with fail
    refine c1.mono ?_
    rintro e w' ⟨rfl, e2⟩
    subst e2
    go_wp2
    go_ret
    exact ⟨rfl, Gr.refl _⟩

/-- Those within a radius stand first. -/
theorem filter_pre {p : Tk.Ht → Bool} (hp : ∀ y z, Tk.hlt z y = false → p z = true → p y = true) : ∀ (L : List Tk.Ht) (k : Nat), Tk.Srtd L → k ≤ L.length → (∀ t, t < k → p L[t]! = true) → (k < L.length → p L[k]! = false) → L.filter p = L.take k
  | [], k, _, _, _, _ => by simp
  | y :: L, 0, hS, _, _, h2 => by
    have hy := h2 (by simp)
    simp only [List.getElem!_cons_zero] at hy
    rw [List.take_zero, List.filter_eq_nil_iff]
    intro z hz
    rcases List.mem_cons.1 hz with rfl | hz
    · rw [hy]; simp
    · intro hpz
      have := (List.pairwise_cons.1 hS).1 z hz
      rw [hp y z this hpz] at hy
      cases hy
  | y :: L, k + 1, hS, hk, h1, h2 => by
    have hy := h1 0 (by omega)
    simp only [List.getElem!_cons_zero] at hy
    rw [List.filter_cons_of_pos hy, List.take_succ_cons, filter_pre hp L k (List.pairwise_cons.1 hS).2 (by simpa using hk) (fun t ht => by have := h1 (t + 1) (by omega); simpa using this) (fun hk' => by have := h2 (by simpa using hk'); simpa using this)]
theorem srt_filter (p : Tk.Ht → Bool) (H : List Tk.Ht) : Tk.srt (H.filter p) = (Tk.srt H).filter p :=
  Tk.srt_of_perm ((Tk.srt_srtd H).sublist List.filter_sublist) ((Tk.srt_perm H).symm.filter p)
end Go.Proofs.YteaeaoekaoedoaaGreat
