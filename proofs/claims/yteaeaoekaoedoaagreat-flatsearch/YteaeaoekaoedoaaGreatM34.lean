/- The reference's Cmp and Less, as contracts. -/
import Derived.Test.YteaeaoekaoedoaaGreatG24
import Derived.BigQuiet
import Derived.Test.YteaeaoekaoedoaaGreatFSearch
import Derived.Test.YteaeaoekaoedoaaGreatTkSame
namespace Go.Proofs.YteaeaoekaoedoaaGreat
open Go.RowKit

theorem ret_int {k : IntKind} {a b : Int} (h : a = b) : Ending.returned (.int k a) = .returned (.int k b) := by rw [h]
theorem up_digit (a t : Nat) : a / 65536 ^ t = a / 65536 ^ (t + 1) * 65536 + a / 65536 ^ t % 65536 := by
  rw [Nat.pow_succ, ← Nat.div_div_eq_div_mul]; omega
theorem lt_of_div {a b d : Nat} (h : a / d < b / d) : a < b := by
  apply Nat.lt_of_not_le; intro hc
  exact absurd (Nat.div_le_div_right (c := d) hc) (by omega)

set_option maxHeartbeats 2000000 in
theorem refcmp_any (a b : Nat) (ha : a < 340282366920938463463374607431768211456) (hb : b < 340282366920938463463374607431768211456) (o p : Bool) (w : World) :
    Calls Tryz.prog 64 #[Nm a o, Nm b p] w fun e w' => e = .returned (.int .i64 (cmp3 a b)) ∧ Gr w w' := by
  have n0 := (NumAt.new w a o 100).call ((Gr.refl _).alloc #[.int .i64 (dd b 0), .int .i64 (dd b 1), .int .i64 (dd b 2), .int .i64 (dd b 3), .int .i64 (dd b 4), .int .i64 (dd b 5), .int .i64 (dd b 6), .int .i64 (dd b 7), .bool p] 100)
  have n1 := NumAt.new (w.alloc (.cells #[.int .i64 (dd a 0), .int .i64 (dd a 1), .int .i64 (dd a 2), .int .i64 (dd a 3), .int .i64 (dd a 4), .int .i64 (dd a 5), .int .i64 (dd a 6), .int .i64 (dd a 7), .bool o] 100)) b p 100
  simp only [World.size_alloc] at n1
  go_enter Tryz.func64, Tryz.ntmps64
  go_wp2
  go_loopw [5] (fun iv w' => ∃ z : Int, ∃ k : Nat, iv = .int .i64 z ∧ z = (k : Int) - 1 ∧ k ≤ 8 ∧ Hid (a / 65536 ^ k = b / 65536 ^ k) ∧ Gr w w' ∧ NumAt w' w.heap.size a o ∧ NumAt w' (w.heap.size + 1) b p) (fun iv _ => (intOf iv + 1).toNat)
  case atStart =>
    refine ⟨7, 8, rfl, by omega, by omega, ?_, ((Gr.refl _).alloc _ _).alloc _ _, n0, n1⟩
    show a / 65536 ^ 8 = b / 65536 ^ 8
    rw [Nat.div_eq_of_lt ha, Nat.div_eq_of_lt hb]
  case round =>
    clear n0 n1
    obtain ⟨z, k, rfl, hz, hk, X, hG, hA, hB⟩ := hrel
    cases k with
    | zero =>
      have E : Hid (cmp3 a b = 0) := by
        have := X.out
        simp at this
        subst this; unfold Hid cmp3; simp
      have hz' : z < 0 := by omega
      clear hz X hA hB
      go_wp2
      go_ret
      exact ⟨ret_int E.out.symm, hG⟩
    | succ t =>
      have hzt : z = (t : Int) := by omega
      subst hzt
      obtain ⟨e, he, he1, he2⟩ := dd_nat a t
      obtain ⟨f, hf, hf1, hf2⟩ := dd_nat b t
      have ca := hA.d t (by omega)
      have cb := hB.d t (by omega)
      rw [he] at ca; rw [hf] at cb
      have ua := up_digit a t
      have ub := up_digit b t
      rw [← he2] at ua; rw [← hf2] at ub
      have hX := X.out
      by_cases hlt : e < f
      · have E : Hid (cmp3 a b = -1) := by unfold Hid cmp3; rw [if_pos (lt_of_div (d := 65536 ^ t) (by omega))]
        have g1 : ((e : Int) == (f : Int)) = false := by rw [beq_eq_false_iff_ne]; omega
        clear he he2 hf hf2 ua ub hX X hz hA hB
        go_wp2
        go_quiet (fail)
        go_wp2
        go_quiet (fail)
        go_wp2
        go_ret
        exact ⟨ret_int E.out.symm, (hG.drewN _).drewN _⟩
      by_cases hgt : f < e
      · have hba : b < a := lt_of_div (d := 65536 ^ t) (by omega)
        have E : Hid (cmp3 a b = 1) := by unfold Hid cmp3; rw [if_neg (by omega), if_neg (by omega)]
        have g1 : ((e : Int) == (f : Int)) = false := by rw [beq_eq_false_iff_ne]; omega
        clear he he2 hf hf2 ua ub hX X hz hA hB hba
        go_wp2
        go_quiet (fail)
        go_wp2
        go_quiet (fail)
        go_wp2
        go_ret
        exact ⟨ret_int E.out.symm, (hG.drewN _).drewN _⟩
      · have hef : f = e := by omega
        subst hef
        have E : Hid (a / 65536 ^ t = b / 65536 ^ t) := by unfold Hid; omega
        clear he he2 hf hf2 ua ub hX X hz hlt hgt
        go_wp2
        go_quiet (fail)
        go_wp2
        refine ⟨⟨(t : Int) - 1, t, by go_num, rfl, by omega, E, hG.drewN _, hA.call ((Gr.refl _).drewN _), hB.call ((Gr.refl _).drewN _)⟩, by simp [intOf]⟩

set_option maxHeartbeats 1000000 in
theorem less_any (a b : Nat) (ha : a < 340282366920938463463374607431768211456) (hb : b < 340282366920938463463374607431768211456) (w : World) :
    Calls Tryz.prog 43 #[Wd a, Wd b] w fun e w' => e = .returned (.bool (decide (a < b))) ∧ Gr w w' := by
  have c0 : ((w.alloc (.cells #[.int .u64 (hi a), .int .u64 (lo a)] 39)).alloc (.cells #[.int .u64 (hi b), .int .u64 (lo b)] 39)).cell? ⟨w.heap.size, 0, none⟩ = some (.int .u64 (hi a)) := by simp [go_sem]
  have c1 : ((w.alloc (.cells #[.int .u64 (hi a), .int .u64 (lo a)] 39)).alloc (.cells #[.int .u64 (hi b), .int .u64 (lo b)] 39)).cell? ⟨w.heap.size, 1, none⟩ = some (.int .u64 (lo a)) := by simp [go_sem]
  have c2 : ((w.alloc (.cells #[.int .u64 (hi a), .int .u64 (lo a)] 39)).alloc (.cells #[.int .u64 (hi b), .int .u64 (lo b)] 39)).cell? ⟨w.heap.size + 1, 0, none⟩ = some (.int .u64 (hi b)) := by simp [go_sem]
  have c3 : ((w.alloc (.cells #[.int .u64 (hi a), .int .u64 (lo a)] 39)).alloc (.cells #[.int .u64 (hi b), .int .u64 (lo b)] 39)).cell? ⟨w.heap.size + 1, 1, none⟩ = some (.int .u64 (lo b)) := by simp [go_sem]
  have E : Hid (decide (cmp3 a b < 0) = decide (a < b)) := by
    unfold Hid cmp3
    by_cases h : a < b
    · simp [h]
    · rw [if_neg h]; split <;> simp [h]
  go_enter Tryz.func43, Tryz.ntmps43
  go_wp2
  go_region_held3 (fun w' => w'.cell? ⟨w.heap.size, 0, none⟩ = some (.int .u64 (hi a)) ∧ w'.cell? ⟨w.heap.size, 1, none⟩ = some (.int .u64 (lo a)) ∧ w'.cell? ⟨w.heap.size + 1, 0, none⟩ = some (.int .u64 (hi b)) ∧ w'.cell? ⟨w.heap.size + 1, 1, none⟩ = some (.int .u64 (lo b))) (first | exact ⟨c0, c1, c2, c3⟩ | exact call_keeps4 (by assumption) (by assumption))
    (first
      | (go_at_call_of 65 (hi a); refine (of_any a ha _).mono ?_; rintro e w1 ⟨rfl, g1⟩)
      | (go_at_call_of 65 (hi b); refine (of_any b hb _).mono ?_; rintro e w2 ⟨rfl, g2⟩)
      | (go_at_call 64; refine (refcmp_any a b ha hb false false _).mono ?_; rintro e w3 ⟨rfl, g3⟩))
  all_goals
    go_wp2
    go_ret
    exact ⟨ret_bool E.out, by repeat (first | exact ((Gr.refl _).alloc _ _).alloc _ _ | apply Gr.drew | refine Gr.trans ?_ g3 | refine Gr.trans ?_ g2 | refine Gr.trans ?_ g1)⟩

end Go.Proofs.YteaeaoekaoedoaaGreat

/- The law's big, and Before; the laws' statements in plain words. -/
namespace Go.Proofs.YteaeaoekaoedoaaGreat
open Go.RowKit Go.Sort

set_option maxHeartbeats 1000000 in
theorem big_c {w : World} {v u : Value} {rs : List Rw} {q : List Int} (hv : RdW w v rs) (hu : RdI w u q) (hlen : rs.length ≤ 9223372036854775807) :
    Calls Tryz.prog 7 #[v, u] w fun e w' => ∃ b, e = .returned (.bool b) ∧ (b = false → rs.length ≤ 2000 ∧ q.length ≤ 65536) ∧ w = w' := by
  have c := vects_c hv 65536 hlen
  obtain ⟨av, cv, rfl, _⟩ := hv
  obtain ⟨au, cu, rfl, _⟩ := hu
  generalize rs.length = n at *
  generalize q.length = m at *
  go_enter Tryz.func7, Tryz.ntmps7
  go_wp2_with fail
  refine c.mono ?_
  rintro e w' ⟨⟨z, rfl⟩, e2⟩
  subst e2
  clear c
  by_cases h1 : 65536 < z
  · go_wp2
    go_ret
    exact ⟨true, rfl, fun e => absurd e (by decide), rfl⟩
  · by_cases h2 : 2000 < (n : Int)
    · go_wp2
      go_ret
      exact ⟨true, rfl, fun e => absurd e (by decide), rfl⟩
    · by_cases h3 : 65536 < (m : Int)
      · go_wp2
        go_ret
        exact ⟨true, rfl, fun e => absurd e (by decide), rfl⟩
      · go_wp2
        go_ret
        exact ⟨false, by simp [h1, h2, h3], fun _ => ⟨by omega, by omega⟩, rfl⟩

/-- The document's order of two hits with distances that are numbers. -/
theorem wdv_ne (a b c d : Int) (W : World) : (binOp .neq 39 (.agg #[.int .u64 a, .int .u64 b]) (.agg #[.int .u64 c, .int .u64 d])).run Tryz.prog W = .ok (.bool (!(a == c && b == d))) W := by
  have u37 := Tryz.underlying37
  have a37 := Tryz.isAgg37
  have z37 := Tryz.sizeOf37
  have hS2 : Tryz.prog.underlying 39 = some (.struct (Tryz.prog.fieldsOf 39)) := by kernel_rfl
  have hp2 : Tryz.prog.stoodInHeld 39 = false := by kernel_rfl
  have h24 : (Op.equalIn 10000 39 (.agg #[.int .u64 a, .int .u64 b]) (.agg #[.int .u64 c, .int .u64 d])).run Tryz.prog W = .ok (a == c && b == d) W := by
    rw [show (10000 : Nat) = 9999 + 1 from rfl, run_equalIn_agg W 9999 39 _ _ hS2 hp2]
    simp only [Program.fieldsOf, Tryz.underlying39]
    go_simp
    by_cases h1 : a = c <;> by_cases h2 : b = d <;> simp [h1, h2]
  rw [run_neq_struct, h24]; rfl
set_option maxHeartbeats 1000000 in
theorem before_c (i j : Int) (m n : Nat) (hm : m < 340282366920938463463374607431768211456) (hn : n < 340282366920938463463374607431768211456) (w : World) :
    Calls Tryz.prog 27 #[Tk.hv (i, hi m, lo m), Tk.hv (j, hi n, lo n)] w fun e w' => e = .returned (.bool (Tk.hlt (i, hi m, lo m) (j, hi n, lo n))) ∧ Gr w w' := by
  have G0 : Gr w ((w.alloc (.cells #[.int .i64 i, .int .u64 (hi m), .int .u64 (lo m)] 57)).alloc (.cells #[.int .i64 j, .int .u64 (hi n), .int .u64 (lo n)] 57)) := ((Gr.refl _).alloc _ _).alloc _ _
  by_cases h : m = n
  · subst h
    have he := fun W => wdv_ne (hi m) (lo m) (hi m) (lo m) W
    have hr : Tk.hlt (i, hi m, lo m) (j, hi m, lo m) = decide (i < j) := by
      rw [Bool.eq_iff_iff, hlt_hit, decide_eq_true_eq]; omega
    rw [hr]
    simp only [beq_self_eq_true, Bool.and_self, Bool.not_true] at he
    go_enter Tryz.func27, Tryz.ntmps27
    go_wp2
    go_ret
    exact ⟨rfl, G0⟩
  · have he := fun W => wdv_ne (hi m) (lo m) (hi n) (lo n) W
    have hf : (!(hi m == hi n && lo m == lo n)) = true := by
      rw [Bool.not_eq_true', Bool.and_eq_false_iff]
      by_cases h1 : hi m = hi n
      · right; rw [beq_eq_false_iff_ne]; intro h2; exact h (wd_one h1 h2)
      · left; rw [beq_eq_false_iff_ne]; exact h1
    rw [hf] at he
    have hr : Tk.hlt (i, hi m, lo m) (j, hi n, lo n) = decide (m < n) := by
      rw [Bool.eq_iff_iff, hlt_hit, decide_eq_true_eq]; omega
    rw [hr]
    have cl := fun W => less_any m n hm hn W
    go_enter Tryz.func27, Tryz.ntmps27
    go_wp2_with fail
    refine (cl _).mono ?_
    rintro e w' ⟨rfl, g⟩
    go_wp2
    go_ret
    exact ⟨rfl, G0.trans g⟩

theorem dst_comm5 {a b : List Int} (h : a.length = b.length) : dst a b = dst b a := by
  unfold dst
  rw [← h]
  have hg : ∀ x y : Int, gap x x y = gap y y x := fun x y => by unfold gap; (repeat' split) <;> omega
  have : ∀ n, sumN (fun i => gap a[i]! a[i]! b[i]! * gap a[i]! a[i]! b[i]!) n = sumN (fun i => gap b[i]! b[i]! a[i]! * gap b[i]! b[i]! a[i]!) n := fun n => by
    congr 1; funext i; rw [hg]
  exact this _
end Go.Proofs.YteaeaoekaoedoaaGreat
