/- WideTexts: numbers are printed as digits, a text is a number or is refused: the walk. -/
import Derived.Test.YtlckjohmllagoaaRParseOne
import Derived.Test.YtlckjohmllagoaaRParseTwo
import Derived.Test.YtlckjohmllagoaaRPrint
import Derived.Test.YtlckjohmllagoaaAwake
namespace Go.Proofs.Ytlckjohmllagoaa
open Go.RowKit

/-- What the look at the form comes to, letter by letter. -/
theorem form_split (s : ByteArray) : formB s.data.toList = true ↔ (1 ≤ s.size ∧ s.size ≤ 39 ∧ (s.size = 1 ∨ (1 < s.size ∧ s.data.toList.head? ≠ some 48)) ∧ allDig s = true) := by
  unfold formB allDig
  rw [len_list s]
  simp only [Bool.and_eq_true, decide_eq_true_eq, Bool.not_eq_true', Bool.and_eq_false_iff, decide_eq_false_iff_not, beq_eq_false_iff_ne]
  constructor
  · rintro ⟨⟨⟨h1, h2⟩, h3⟩, h4⟩
    refine ⟨h1, h2, ?_, h4⟩
    rcases h3 with h3 | h3
    · left; omega
    · by_cases h5 : s.size = 1
      · left; exact h5
      · right; exact ⟨by omega, h3⟩
  · rintro ⟨h1, h2, h3, h4⟩
    refine ⟨⟨⟨h1, h2⟩, ?_⟩, h4⟩
    rcases h3 with h3 | ⟨_, h3⟩
    · left; omega
    · right; exact h3
theorem head_ne (s : ByteArray) (h : 0 < s.size) : s.data.toList.head? ≠ some 48 ↔ ((s[0]).toNat : Int) ≠ 48 := by
  rw [head_list s h, ne_eq, Option.some.injEq, eq48]

theorem rparse_ok (s : ByteArray) (hf : formB s.data.toList = true) (hv : valOf s < 340282366920938463463374607431768211456) (w : World) :
    Calls Try.prog 19 #[.string s] w fun e w' => e = .returned (.tuple #[Wd (valOf s), .int .i64 0]) ∧ Gr w w' := by
  obtain ⟨h1, h2, h3, h4⟩ := (form_split s).1 hf
  rcases h3 with h3 | ⟨h5, h3⟩
  · refine (rparse_one s w h1 h2 h3).mono ?_
    rintro e w' ⟨k1, _, _, g⟩; exact ⟨k1 h4 hv, g⟩
  · refine (rparse_two s w h1 h2 h5 ((head_ne s (by omega)).1 h3)).mono ?_
    rintro e w' ⟨k1, _, _, g⟩; exact ⟨k1 h4 hv, g⟩
theorem rparse_big (s : ByteArray) (hf : formB s.data.toList = true) (hv : 340282366920938463463374607431768211456 ≤ valOf s) (w : World) :
    Calls Try.prog 19 #[.string s] w fun e w' => e = .returned (.tuple #[.agg #[.int .u64 0, .int .u64 0], .int .i64 10]) ∧ Gr w w' := by
  obtain ⟨h1, h2, h3, h4⟩ := (form_split s).1 hf
  rcases h3 with h3 | ⟨h5, h3⟩
  · refine (rparse_one s w h1 h2 h3).mono ?_
    rintro e w' ⟨_, k2, _, g⟩; exact ⟨k2 h4 hv, g⟩
  · refine (rparse_two s w h1 h2 h5 ((head_ne s (by omega)).1 h3)).mono ?_
    rintro e w' ⟨_, k2, _, g⟩; exact ⟨k2 h4 hv, g⟩
theorem rparse_bad (s : ByteArray) (hs : s.size ≤ maxLen) (hf : formB s.data.toList = false) (w : World) :
    Calls Try.prog 19 #[.string s] w fun e w' => e = .returned (.tuple #[.agg #[.int .u64 0, .int .u64 0], .int .i64 11]) ∧ Gr w w' := by
  by_cases h0 : s.size < 1 ∨ 39 < s.size
  · exact rparse_head s w hs h0
  have h1 : 1 ≤ s.size := by omega
  have h2 : s.size ≤ 39 := by omega
  have hn : ¬ ((s.size = 1 ∨ (1 < s.size ∧ s.data.toList.head? ≠ some 48)) ∧ allDig s = true) := by
    rintro ⟨k1, k2⟩
    have := (form_split s).2 ⟨h1, h2, k1, k2⟩
    rw [hf] at this; exact absurd this (by simp)
  by_cases h3 : s.size = 1
  · have hd : allDig s = false := by
      cases hq : allDig s
      · rfl
      · exact absurd ⟨Or.inl h3, hq⟩ hn
    refine (rparse_one s w h1 h2 h3).mono ?_
    rintro e w' ⟨_, _, k3, g⟩; exact ⟨k3 hd, g⟩
  have h5 : 1 < s.size := by omega
  by_cases h4 : s.data.toList.head? ≠ some 48
  · have hd : allDig s = false := by
      cases hq : allDig s
      · rfl
      · exact absurd ⟨Or.inr ⟨h5, h4⟩, hq⟩ hn
    refine (rparse_two s w h1 h2 h5 ((head_ne s (by omega)).1 h4)).mono ?_
    rintro e w' ⟨_, _, k3, g⟩; exact ⟨k3 hd, g⟩
  · refine rparse_nought s w h5 h2 ?_
    rw [head_ne s (by omega)] at h4
    exact Classical.not_not.1 h4

theorem call_keeps6 {W w' : World} {p q r s t o : Addr} {x y u v a b : Value} (h : Gr W w') (hs : W.cell? p = some x ∧ W.cell? q = some y ∧ W.cell? r = some u ∧ W.cell? s = some v ∧ W.cell? t = some a ∧ W.cell? o = some b) :
    w'.cell? p = some x ∧ w'.cell? q = some y ∧ w'.cell? r = some u ∧ w'.cell? s = some v ∧ w'.cell? t = some a ∧ w'.cell? o = some b :=
  ⟨h.keeps hs.1, h.keeps hs.2.1, h.keeps hs.2.2.1, h.keeps hs.2.2.2.1, h.keeps hs.2.2.2.2.1, h.keeps hs.2.2.2.2.2⟩

set_option maxHeartbeats 2000000 in
theorem texts_long (a : Nat) (s : ByteArray) (hs : s.size ≤ maxLen) (h : 65536 < s.size) (w : World) :
    Calls Try.prog 6 #[Wd a, .string s] w fun e w' => e = .returned (.bool true) ∧ Gr w w' := by
  unfold maxLen at hs
  go_enter Try.func6, Try.ntmps6
  go_wp2
  go_ret
  exact ⟨rfl, (Gr.refl _).alloc _ _⟩

set_option maxHeartbeats 4000000 in
theorem texts_core (a : Nat) (ha : a < 340282366920938463463374607431768211456) (s : ByteArray) (h : s.size ≤ 65536) (X Y c : Int)
    (hP : Hid (∀ w, Calls Try.prog 18 #[.string s] w fun e w' => e = .returned (.tuple #[.agg #[.int .u64 X, .int .u64 Y], .int .i64 c]) ∧ Gr w w'))
    (hR : Hid (∀ w, Calls Try.prog 19 #[.string s] w fun e w' => e = .returned (.tuple #[.agg #[.int .u64 X, .int .u64 Y], .int .i64 c]) ∧ Gr w w')) (w : World) :
    Calls Try.prog 6 #[Wd a, .string s] w fun e w' => e = .returned (.bool true) ∧ Gr w w' := by
  go_enter Try.func6, Try.ntmps6
  go_wp2_with fail
  refine (hP.out _).mono ?_
  rintro e w1 ⟨rfl, g1⟩
  go_wp2_with fail
  refine (hR.out _).mono ?_
  rintro e w2 ⟨rfl, g2⟩
  have G1 := g1.alloc #[.int .u64 X, .int .u64 Y] 24
  have G2 := g2.alloc #[.int .u64 X, .int .u64 Y] 24
  obtain ⟨c0, c1, _, _⟩ := (G1.trans G2).var2
  obtain ⟨c2, c3, _, _⟩ := G2.var2
  have c4 : (w2.alloc (.cells #[.int .u64 X, .int .u64 Y] 24)).cell? ⟨w2.heap.size, 0, none⟩ = some (.int .u64 X) := by simp [go_sem]
  have c5 : (w2.alloc (.cells #[.int .u64 X, .int .u64 Y] 24)).cell? ⟨w2.heap.size, 1, none⟩ = some (.int .u64 Y) := by simp [go_sem]
  have GG := ((Gr.refl w).alloc _ _).trans (G1.trans G2)
  clear g1 g2 G1 G2 hP hR
  go_wp2_with fail
  go_region_held3 (fun w' => w'.cell? ⟨w.heap.size, 0, none⟩ = some (.int .u64 (hi a)) ∧ w'.cell? ⟨w.heap.size, 1, none⟩ = some (.int .u64 (lo a)) ∧ w'.cell? ⟨w1.heap.size, 0, none⟩ = some (.int .u64 X) ∧ w'.cell? ⟨w1.heap.size, 1, none⟩ = some (.int .u64 Y) ∧ w'.cell? ⟨w2.heap.size, 0, none⟩ = some (.int .u64 X) ∧ w'.cell? ⟨w2.heap.size, 1, none⟩ = some (.int .u64 Y)) (first | (with_reducible exact ⟨c0, c1, c2, c3, c4, c5⟩) | (with_reducible exact call_keeps6 (by assumption) (by assumption)) | exact ⟨c0, c1, c2, c3, c4, c5⟩)
    (first
      | (go_at_call 13; refine (awake_any _).mono ?_; rintro e w4 ⟨rfl, g4⟩)
      | (go_at_call 20; refine (print_any a ha _).mono ?_; rintro e w5 ⟨rfl, g5⟩)
      | (go_at_call 21; refine (rprint_any a ha _).mono ?_; rintro e w6 ⟨rfl, g6⟩))
  all_goals
    go_wp2
    go_ret
    exact ⟨rfl, ((GG.drew.trans g4).trans g5).trans g6⟩

theorem texts_any (a : Nat) (ha : a < 340282366920938463463374607431768211456) (s : ByteArray) (hs : s.size ≤ maxLen) (w : World) :
    Calls Try.prog 6 #[Wd a, .string s] w fun e w' => e = .returned (.bool true) ∧ Gr w w' := by
  by_cases h : 65536 < s.size
  · exact texts_long a s hs h w
  have h' : s.size ≤ 65536 := by omega
  cases hf : formB s.data.toList
  · exact texts_core a ha s h' 0 0 11 (fun w => parse_bad s w hs hf) (fun w => rparse_bad s hs hf w) w
  · by_cases hv : valOf s < 340282366920938463463374607431768211456
    · refine texts_core a ha s h' (hi (valOf s)) (lo (valOf s)) 0 (fun w => ?_) (fun w => rparse_ok s hf hv w) w
      refine (parse_go s w hs hf).mono ?_
      rintro e w' ⟨k1, _, g⟩; exact ⟨k1 hv, g⟩
    · refine texts_core a ha s h' 0 0 10 (fun w => ?_) (fun w => rparse_big s hf (by omega) w) w
      refine (parse_go s w hs hf).mono ?_
      rintro e w' ⟨_, k2, g⟩; exact ⟨k2 (Nat.le_of_not_lt hv), g⟩

end Go.Proofs.Ytlckjohmllagoaa
