/- All within the k-th distance begin with the first k: lists. -/
import Derived.Test.YteaeaoekaoedoaaFRng
namespace Go.Proofs.Yteaeaoekaoedoaa
open Go.RowKit Go.Sort

theorem cw_le {x z : Tk.Ht} (h : Tk.hlt z x = false) : Tk.cw x.2.1 x.2.2 z.2.1 z.2.2 ≤ 0 := by
  rw [Tk.hlt_f] at h
  unfold Tk.Ht.hi Tk.Ht.lo Tk.Ht.id at h
  unfold Tk.cw
  (repeat' split) <;> omega
theorem not_less {y z : Tk.Ht} (h : Tk.hlt y z = false) : ¬ (y.2.1 < z.2.1 ∨ y.2.1 = z.2.1 ∧ y.2.2 < z.2.2) := by
  rw [Tk.hlt_f] at h
  unfold Tk.Ht.hi Tk.Ht.lo Tk.Ht.id at h
  omega
/-- The first k, and behind them those that are as near as the last of them. -/
theorem whole_near {K : Nat} {hs : List Tk.Ht} {z : Tk.Ht} (hl : ∀ x ∈ Tk.firsts K hs, Tk.hlt z x = false) :
    Tk.srt (hs.filter (inRad z.2.1 z.2.2)) = Tk.firsts K hs ++ ((Tk.srt hs).drop K).filter (inRad z.2.1 z.2.2) := by
  have e1 : Tk.srt (hs.filter (inRad z.2.1 z.2.2)) = (Tk.srt hs).filter (inRad z.2.1 z.2.2) :=
    Tk.srt_of_perm ((Tk.srt_srtd hs).sublist List.filter_sublist) ((Tk.srt_perm hs).symm.filter _)
  rw [e1]
  conv => lhs; rw [← List.take_append_drop K (Tk.srt hs)]
  rw [List.filter_append]
  congr 1
  show List.filter _ (Tk.firsts K hs) = Tk.firsts K hs
  rw [List.filter_eq_self]
  intro x hx
  exact decide_eq_true (cw_le (hl x hx))
theorem whole_rest {K : Nat} {hs : List Tk.Ht} {z : Tk.Ht} (hz : z ∈ Tk.firsts K hs) : ∀ y ∈ ((Tk.srt hs).drop K).filter (inRad z.2.1 z.2.2), Tk.hlt y z = false := by
  intro y hy
  have hy' := (List.mem_filter.1 hy).1
  have hs' := Tk.srt_srtd hs
  rw [← List.take_append_drop K (Tk.srt hs)] at hs'
  exact (List.pairwise_append.1 hs').2.2 z hz y hy'
theorem row_lt5 {rs : List Rw} {q : List Int} (h : askE rs q = 0) {r : Rw} (hr : r ∈ rs) : dst q r.2 < 340282366920938463463374607431768211456 := by
  obtain ⟨h1, h2⟩ := askE_zero.1 h
  have h3 := chk_ok (h2.row r hr).2
  have h4 := chk_ok h1
  exact dst_lt h4.2.2.2 h3.2.2.2 (by omega) h4.2.1
theorem last_max {K : Nat} {hs : List Tk.Ht} {p : Nat} (hp : (Tk.firsts K hs).length = p + 1) : ∀ x ∈ Tk.firsts K hs, Tk.hlt (Tk.firsts K hs)[p]! x = false := by
  have := Tk.last_worst (Tk.firsts_srtd K hs) (p + 1) hp
  simpa using this
end Go.Proofs.Yteaeaoekaoedoaa
