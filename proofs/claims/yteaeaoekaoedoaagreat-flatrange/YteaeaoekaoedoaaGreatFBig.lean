/- The law's big, and Before; the laws' statements in plain words. -/
import Derived.Test.YteaeaoekaoedoaaGreatFSearch
import Derived.Test.YteaeaoekaoedoaaGreatVects
import Derived.Test.YteaeaoekaoedoaaGreatRLess
import Derived.Test.YteaeaoekaoedoaaGreatTkSame
namespace Go.Proofs.YteaeaoekaoedoaaGreat
open Go.RowKit Go.Sort

set_option maxHeartbeats 1000000 in
theorem big_c {w : World} {v u : Value} {rs : List Rw} {q : List Int} (hv : RdW w v rs) (hu : RdI w u q) (hlen : rs.length ≤ 9223372036854775807) :
    Calls Tryz.prog 7 #[v, u] w fun e w' => ∃ b, e = .returned (.bool b) ∧ (b = false → rs.length ≤ 2000 ∧ q.length ≤ 65536) ∧ w = w' := by
  have c := vects_c hv 65536 hlen
  obtain ⟨av, cv, rfl, _⟩ := hv
  obtain ⟨au, cu, rfl, _⟩ := hu
  generalize rs.length = n at *
  generalize q.length = m at *
  go_enter Tryz.func7, Tryz.ntmps7
  go_wp2_with fail
  refine c.mono ?_
  rintro e w' ⟨⟨z, rfl⟩, e2⟩
  subst e2
  clear c
  by_cases h1 : 65536 < z
  · go_wp2
    go_ret
    exact ⟨true, rfl, fun e => absurd e (by decide), rfl⟩
  · by_cases h2 : 2000 < (n : Int)
    · go_wp2
      go_ret
      exact ⟨true, rfl, fun e => absurd e (by decide), rfl⟩
    · by_cases h3 : 65536 < (m : Int)
      · go_wp2
        go_ret
        exact ⟨true, rfl, fun e => absurd e (by decide), rfl⟩
      · go_wp2
        go_ret
        exact ⟨false, by simp [h1, h2, h3], fun _ => ⟨by omega, by omega⟩, rfl⟩

/-- The document's order of two hits with distances that are numbers. -/
theorem wdv_ne (a b c d : Int) (W : World) : (binOp .neq 39 (.agg #[.int .u64 a, .int .u64 b]) (.agg #[.int .u64 c, .int .u64 d])).run Tryz.prog W = .ok (.bool (!(a == c && b == d))) W := by
  have u37 := Tryz.underlying37
  have a37 := Tryz.isAgg37
  have z37 := Tryz.sizeOf37
  have hS2 : Tryz.prog.underlying 39 = some (.struct (Tryz.prog.fieldsOf 39)) := by kernel_rfl
  have hp2 : Tryz.prog.stoodInHeld 39 = false := by kernel_rfl
  have h24 : (Op.equalIn 10000 39 (.agg #[.int .u64 a, .int .u64 b]) (.agg #[.int .u64 c, .int .u64 d])).run Tryz.prog W = .ok (a == c && b == d) W := by
    rw [show (10000 : Nat) = 9999 + 1 from rfl, run_equalIn_agg W 9999 39 _ _ hS2 hp2]
    simp only [Program.fieldsOf, Tryz.underlying39]
    go_simp
    by_cases h1 : a = c <;> by_cases h2 : b = d <;> simp [h1, h2]
  rw [run_neq_struct, h24]; rfl
set_option maxHeartbeats 1000000 in
theorem before_c (i j : Int) (m n : Nat) (hm : m < 340282366920938463463374607431768211456) (hn : n < 340282366920938463463374607431768211456) (w : World) :
    Calls Tryz.prog 27 #[Tk.hv (i, hi m, lo m), Tk.hv (j, hi n, lo n)] w fun e w' => e = .returned (.bool (Tk.hlt (i, hi m, lo m) (j, hi n, lo n))) ∧ Gr w w' := by
  have G0 : Gr w ((w.alloc (.cells #[.int .i64 i, .int .u64 (hi m), .int .u64 (lo m)] 57)).alloc (.cells #[.int .i64 j, .int .u64 (hi n), .int .u64 (lo n)] 57)) := ((Gr.refl _).alloc _ _).alloc _ _
  by_cases h : m = n
  · subst h
    have he := fun W => wdv_ne (hi m) (lo m) (hi m) (lo m) W
    have hr : Tk.hlt (i, hi m, lo m) (j, hi m, lo m) = decide (i < j) := by
      rw [Bool.eq_iff_iff, hlt_hit, decide_eq_true_eq]; omega
    rw [hr]
    simp only [beq_self_eq_true, Bool.and_self, Bool.not_true] at he
    go_enter Tryz.func27, Tryz.ntmps27
    go_wp2
    go_ret
    exact ⟨rfl, G0⟩
  · have he := fun W => wdv_ne (hi m) (lo m) (hi n) (lo n) W
    have hf : (!(hi m == hi n && lo m == lo n)) = true := by
      rw [Bool.not_eq_true', Bool.and_eq_false_iff]
      by_cases h1 : hi m = hi n
      · right; rw [beq_eq_false_iff_ne]; intro h2; exact h (wd_ne h1 h2)
      · left; rw [beq_eq_false_iff_ne]; exact h1
    rw [hf] at he
    have hr : Tk.hlt (i, hi m, lo m) (j, hi n, lo n) = decide (m < n) := by
      rw [Bool.eq_iff_iff, hlt_hit, decide_eq_true_eq]; omega
    rw [hr]
    have cl := fun W => less_any m n hm hn W
    go_enter Tryz.func27, Tryz.ntmps27
    go_wp2_with fail
    refine (cl _).mono ?_
    rintro e w' ⟨rfl, g⟩
    go_wp2
    go_ret
    exact ⟨rfl, G0.trans g⟩

theorem dst_comm5 {a b : List Int} (h : a.length = b.length) : dst a b = dst b a := by
  unfold dst
  rw [← h]
  have hg : ∀ x y : Int, gap x x y = gap y y x := fun x y => by unfold gap; (repeat' split) <;> omega
  have : ∀ n, sumN (fun i => gap a[i]! a[i]! b[i]! * gap a[i]! a[i]! b[i]!) n = sumN (fun i => gap b[i]! b[i]! a[i]! * gap b[i]! b[i]! a[i]!) n := fun n => by
    congr 1; funext i; rw [hg]
  exact this _
end Go.Proofs.YteaeaoekaoedoaaGreat
