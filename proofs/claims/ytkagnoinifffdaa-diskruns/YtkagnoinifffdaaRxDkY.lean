/- awake. -/
import Derived.Test.YtkagnoinifffdaaRx19
namespace Go.Proofs.Ytkagnoinifffdaa
open Go.RowKit Go.Lib Go.Maps

variable {w W W' W'' : World} {b b' : Nat} {q q' q2 : Dq} {F G : Nat → Prop}
/-- The choices of a call, made last of all: no block of the disk. -/
theorem rdi_kf {l : List Int} {t : TypeId} (hF : ∀ k, F k → k < W.heap.size) : ∀ X, Kf F (W.alloc (.cells (l.map (Value.int .i64)).toArray t)) X → RdI X (.slice (some ⟨W.heap.size, 0, none⟩) l.length l.length) l := fun X k =>
  rdi_new (t := t) (k.block W.heap.size (by simp) fun f => absurd (hF _ f) (Nat.lt_irrefl _))
theorem rdb_new (W : World) (l : By) (t : TypeId) : RdB (W.alloc (.cells (l.map bv).toArray t)) (.slice (some ⟨W.heap.size, 0, none⟩) l.length l.length) l := by
  refine ⟨_, _, rfl, Nat.le_refl _, fun i hi => ⟨_, _, rfl, ?_⟩⟩
  have e := heap_alloc_new W (.cells (l.map bv).toArray t)
  simp only [World.cell?, Nat.zero_add]
  rw [e]
  simp only [Option.isSome_none, Bool.false_eq_true, if_false, List.getElem?_toArray]
  rw [List.getElem?_map, getElem!_pos l i hi, List.getElem?_eq_getElem hi]; rfl
theorem OwnB.kf {base : Nat} {v : Value} {l : By} (h : OwnB W base v l) (k : Kf F W W') (hF : ∀ k, F k → k < base) : OwnB W' base v l :=
  row_same h fun k' e => k.block k' (h.lo k' e).2 fun f => by have := hF k' f; have := (h.lo k' e).1; omega
set_option maxHeartbeats 4000000 in
set_option maxRecDepth 100000 in
theorem awake_c (w : World) : Calls Try.prog 9 #[] w fun e w' => e = .returned (.bool true) ∧ Gb w w' := by
  obtain ⟨o0, o1, o2, o3, o4, o5, o6⟩ := ex_ok
  obtain ⟨s1, s2, s3, s4, s5, s6⟩ := ex_st6
  have cN := new_c 4 (by omega) w
  go_enter Try.func9, Try.ntmps9
  go_wp2_with fail
  refine cN.mono ?_
  rintro e w1 ⟨b, rfl, N⟩
  have S0 : StE w w1 b (nwQ 4) := StE.new (Below.refl _ _) N
  have c1 := S0.call (v := .int .i64 0) (q' := ex1) fun F h => by have := create_c h o0 (by show (0 : Nat) < 100000; omega) (x := exA) (by decide); rw [ex_cr] at this; exact this
  have hb : b < w1.heap.size := by obtain ⟨F, h⟩ := S0; obtain ⟨_, _, _, _, _, _, h1, _⟩ := h.1; exact h1.lt
  clear S0 N cN
  go_wp2_with fail
  refine c1.mono ?_
  rintro e w2 ⟨rfl, S⟩
  have c2 := (S.out.gb (gb_alloc (Below.refl _ _) (.cells (([1, 2, 3] : By).map bv).toArray 5))).call (v := .int .i64 0) (q' := ex2) fun F h => by have := append_c h o1 (by rw [s1]; omega) exA_wf (agb_new w2 [1, 2, 3] 5) (by decide); rw [show ([1, 2, 3] : By).length = 3 from rfl, ex_a1] at this; exact this
  clear c1 S
  go_wp2_with fail
  refine c2.mono ?_
  rintro e w3 ⟨rfl, S⟩
  have c3 := (S.out.gb (gb_alloc (Below.refl _ _) (.cells (([4, 5] : By).map bv).toArray 5))).call (v := .int .i64 173) (q' := ex3) fun F h => by have := append_c h o2 (by rw [s2]; omega) exA_wf (agb_new w3 [4, 5] 5) (by decide); rw [show ([4, 5] : By).length = 2 from rfl, ex_a2] at this; exact this
  clear c2 S
  go_wp2_with fail
  refine c3.mono ?_
  rintro e w4 ⟨rfl, S⟩
  have c4 := S.out.call (v := .int .i64 0) (q' := ex4) fun F h => by have := sync_c h o3 (by rw [s3]; omega) exA_wf; rw [ex_sy] at this; exact this
  clear c3 S
  go_wp2_with fail
  refine c4.mono ?_
  rintro e w5 ⟨rfl, S⟩
  have c5 := (S.out.gb (gb_alloc (Below.refl _ _) (.cells (([9] : By).map bv).toArray 5))).call (v := .int .i64 0) (q' := ex5) fun F h => by have := append_c h o4 (by rw [s4]; omega) exA_wf (agb_new w5 [9] 5) (by decide); rw [show ([9] : By).length = 1 from rfl, ex_a3] at this; exact this
  clear c4 S
  go_wp2_with fail
  refine c5.mono ?_
  rintro e w6 ⟨rfl, S⟩
  have c6 := S.out.call (v := .int .i64 0) (q' := ex6) fun F h => by have := syncDir_c h o5 (by rw [s5]; omega); rw [ex_sd] at this; exact this
  clear c5 S
  go_wp2_with fail
  refine c6.mono ?_
  rintro e w7 ⟨rfl, S⟩
  have c7 : Calls Try.prog 13 #[.pointer (some ⟨b, 0, none⟩)] w7 fun e w' => ∃ b', e = .returned (.pointer (some ⟨b', 0, none⟩)) ∧ Hid (Two w w' b ex6 b' ex6) := by
    obtain ⟨F, h⟩ := S.out
    refine (clone_c h.1 o6 (by rw [s6]; omega)).mono ?_
    rintro e w8 ⟨b', rfl, C⟩
    exact ⟨b', rfl, Two.clone ⟨F, h⟩ C⟩
  clear c6 S
  go_wp2_with fail
  refine c7.mono ?_
  rintro e w8 ⟨b', rfl, T⟩
  have c8 : Calls Try.prog 17 #[.pointer (some ⟨b, 0, none⟩), .slice (some ⟨w8.heap.size, 0, none⟩) 2 2] (w8.alloc (.cells #[.int .i64 0, .int .i64 (-2)] 3)) fun e w' => e = .returned (.int .i64 0) ∧ Hid (Two w w' b (ex6.crash [0, -2]) b' ex6) := by
    obtain ⟨F, G, h1, h2, h3⟩ := T.out
    have ga : Gb w8 (w8.alloc (.cells #[.int .i64 0, .int .i64 (-2)] 3)) := gb_alloc (Below.refl _ _) _
    refine (crash_c (h1.1.gb ga) o6 (by rw [s6]; omega) (cs := [0, -2]) (by intro x hx; simp at hx; rcases hx with rfl | rfl <;> exact ⟨by decide, by decide⟩) (rdi_kf (l := [0, -2]) h1.1.lt)).mono ?_
    rintro e w' ⟨rfl, o⟩
    exact ⟨rfl, Two.op (h1.gb ga) (h2.gb ga) h3 o⟩
  clear c7 T
  go_wp2_with fail
  refine c8.mono ?_
  rintro e w9 ⟨rfl, T⟩
  have c9 : Calls Try.prog 21 #[.pointer (some ⟨b, 0, none⟩), .string (sb exA)] w9 fun e w' => ∃ a c, e = .returned (.tuple #[.slice a 4 c, .int .i64 0]) ∧ Hid (OwnB w' w9.heap.size (.slice a 4 c) [1, 2, 3, 0] ∧ Gb w9 w') := by
    obtain ⟨F, G, h1, _⟩ := T.out
    have := read_c h1.1 (o6.crash [0, -2]) exA_wf
    rw [ex_f1, ex_r1] at this
    refine this.mono ?_
    rintro e w' ⟨v', rfl, ho, g⟩
    obtain ⟨a, c, rfl⟩ := row_fm ho
    exact ⟨a, c, rfl, ho, g⟩
  clear c8
  go_wp2_with fail
  refine c9.mono ?_
  rintro e w10 ⟨xa, xc, rfl, R⟩
  clear c9
  have c10 : Calls Try.prog 17 #[.pointer (some ⟨b', 0, none⟩), .slice (some ⟨w10.heap.size, 0, none⟩) 2 2] (w10.alloc (.cells #[.int .i64 0, .int .i64 1] 3)) fun e w' => e = .returned (.int .i64 0) ∧ Hid (Two w w' b (ex6.crash [0, -2]) b' (ex6.crash [0, 1]) ∧ RdB w' (.slice xa 4 xc) [1, 2, 3, 0]) := by
    obtain ⟨F, G, h1, h2, h3⟩ := T.out
    obtain ⟨ho, g⟩ := R.out
    have ga : Gb w10 (w10.alloc (.cells #[.int .i64 0, .int .i64 1] 3)) := gb_alloc (Below.refl _ _) _
    refine (crash_c (h2.1.gb (gb_trans g ga)) o6 (by rw [s6]; omega) (cs := [0, 1]) (by intro x hx; simp at hx; rcases hx with rfl | rfl <;> exact ⟨by decide, by decide⟩) (rdi_kf (l := [0, 1]) (h2.1.gb g).lt)).mono ?_
    rintro e w' ⟨rfl, o⟩
    exact ⟨rfl, (Two.op (h2.gb (gb_trans g ga)) (h1.gb (gb_trans g ga)) (fun k g f => h3 k f g) o).swap, ((ho.gb ga).kf o.2 h2.1.lt).rd⟩
  clear R T
  go_wp2_with fail
  refine c10.mono ?_
  rintro e w11 ⟨rfl, T⟩
  have c11 : Calls Try.prog 21 #[.pointer (some ⟨b', 0, none⟩), .string (sb exA)] w11 fun e w' => ∃ a c, e = .returned (.tuple #[.slice a 4 c, .int .i64 0]) ∧ Hid (RdB w' (.slice a 4 c) [1, 2, 3, 9] ∧ RdB w' (.slice xa 4 xc) [1, 2, 3, 0] ∧ StE w w' b (ex6.crash [0, -2])) := by
    obtain ⟨⟨F, G, h1, h2, _⟩, hr⟩ := T.out
    have := read_c h2.1 (o6.crash [0, 1]) exA_wf
    rw [ex_f2, ex_r2] at this
    refine this.mono ?_
    rintro e w' ⟨v', rfl, ho, g⟩
    obtain ⟨a, c, rfl⟩ := row_fm ho
    exact ⟨a, c, rfl, ho.rd, hr.gb g, F, h1.gb g⟩
  clear c10 T
  go_wp2_with fail
  refine c11.mono ?_
  rintro e w12 ⟨ya, yc, rfl, R⟩
  clear c11
  go_wp2_with fail
  have hA : Gb w12 (w12.alloc (.cells (([1, 2, 3, 0] : By).map bv).toArray 5)) := gb_alloc (Below.refl _ _) _
  have d1 := bytes_same (R.out.2.1.gb hA) (rdb_new w12 [1, 2, 3, 0] 5) (by decide)
  refine d1.mono ?_
  rintro e w13 ⟨rfl, g1⟩
  have G1 := gb_trans hA g1
  have hB : Gb w13 (w13.alloc (.cells (([1, 2, 3, 9] : By).map bv).toArray 5)) := gb_alloc (Below.refl _ _) _
  have d2 := bytes_same ((R.out.1.gb G1).gb hB) (rdb_new w13 [1, 2, 3, 9] 5) (by decide)
  clear d1 hA g1
  go_wp2_with fail
  refine d2.mono ?_
  rintro e w14 ⟨rfl, g2⟩
  have S := R.out.2.2.gb (gb_trans G1 (gb_trans hB g2))
  have d3 : Calls Try.prog 28 #[.pointer (some ⟨b, 0, none⟩)] w14 fun e w' => e = .returned (.int .i64 5) ∧ Hid (w' = w14 ∧ Gb w w14) := by
    have SB := S.base
    obtain ⟨F, h⟩ := S
    refine (steps_c h.1 (o6.crash [0, -2])).mono ?_
    rintro e w' ⟨rfl, rfl⟩
    exact ⟨rfl, rfl, SB⟩
  clear d2 hB g2 S G1 R
  go_wp2_with fail
  refine d3.mono ?_
  rintro e w15 ⟨rfl, R⟩
  obtain ⟨rfl, g⟩ := R.out
  go_wp2
  go_ret
  exact ⟨rfl, g⟩
end Go.Proofs.Ytkagnoinifffdaa
