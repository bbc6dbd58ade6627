/- The law's examples. -/
import Derived.Test.YteaeaoekaoedoaaGreatFSearch
import Derived.Test.YteaeaoekaoedoaaGreatTkSame
namespace Go.Proofs.YteaeaoekaoedoaaGreat
open Go.RowKit Go.Shelf Go.Sort Go.Lib
attribute [local go_sem] Oper.semAt_some

set_option maxRecDepth 100000 in
set_option maxHeartbeats 1000000 in
theorem rng_no {w : World} {v u : Value} {rs : List Rw} {q : List Int} (rh rl : Int) (hv : RdW w v rs) (hu : RdI w u q) (hwf : Wf rs) (hz : askE rs q ≠ 0) :
    Calls Tryz.prog 18 #[v, u, .agg #[.int .u64 rh, .int .u64 rl]] w fun e w' => e = .returned (.tuple #[.slice none 0 0, .int .i64 (askE rs q)]) ∧ Gb w w' := by
  have G0 : Gb w (w.alloc (.cells #[.int .u64 rh, .int .u64 rl] 39)) := gb_alloc (Below.refl _ _) _
  have ca := ask_c (hv.gb G0) (hu.gb G0) hwf
  have hz' : (askE rs q == 0) = false := by rw [beq_eq_false_iff_ne]; exact hz
  obtain ⟨av, cv, rfl, _⟩ := hv
  obtain ⟨au, cu, rfl, _⟩ := hu
  generalize rs.length = n at *
  generalize q.length = m at *
  generalize askE rs q = z at *
  refine (callsIn_wide (n := 4)).1 ?_
  refine callsIn_of_wp_marks Tryz.func18 rfl trivial ?_ rfl
  simp only [Tryz.ntmps18, List.size_toArray, List.length_cons, List.length_nil, Nat.reduceAdd, Nat.reduceSub, Array.replicate_succ, Array.replicate_zero, List.push_toArray, List.append_toArray, List.nil_append, List.cons_append]
  gi_wp2_with (refine ⟨trivial, ?_⟩; gi_at_call 38; refine (callsIn_wide.2 ca).mono ?_; rintro e wa ⟨rfl, ga⟩)
  exact ⟨.tuple #[.slice none 0 0, .int .i64 z], by simp [results, Tryz.results18, go_sem], rfl, gb_trans G0 ga⟩

theorem lo_c (n : Int) (w : World) : Calls Tryz.prog 36 #[.int .u64 n] w fun e w' => e = .returned (.agg #[.int .u64 0, .int .u64 n]) ∧ Gb w w' := by
  go_enter Tryz.func36, Tryz.ntmps36
  go_wp2
  refine bodyPost_ret (v := .agg #[.int .u64 0, .int .u64 n]) (by simp [results, Tryz.results36, go_sem]) rfl ⟨rfl, ?_⟩
  go_grown

/-- The chapter's rows. -/
def R4 : List Rw := [(1, [0, 0]), (2, [3, 4]), (3, [0, 1]), (4, [3, 4])]
theorem rdi2 {W : World} {b : Nat} {x y : Int} (h : W.heap[b]? = some (.cells #[.int .i64 x, .int .i64 y] 3 (0, 0))) : RdI W (.slice (some ⟨b, 0, none⟩) 2 2) [x, y] := by
  refine ⟨_, _, rfl, fun i hi => ⟨b, 0, rfl, ?_⟩⟩
  rcases i with _ | _ | i
  · simp [World.cell?, h]
  · simp [World.cell?, h]
  · simp only [List.length_cons, List.length_nil] at hi; omega
set_option maxHeartbeats 1000000 in
theorem rows_c (w : World) : Calls Tryz.prog 35 #[] w fun e w' => ∃ b, e = .returned (.slice (some ⟨b, 0, none⟩) 4 4) ∧ RdW w' (.slice (some ⟨b, 0, none⟩) 4 4) R4 ∧ Gb w w' := by
  go_enter Tryz.func35, Tryz.ntmps35
  go_wp2
  go_ret
  refine ⟨_, rfl, ?_, by go_grown⟩
  refine ⟨_, _, rfl, fun i hi => ?_⟩
  have hi' : i < 4 := hi
  have r0 : RdI (((((w.alloc (.cells #[.int .i64 0, .int .i64 0] 3)).alloc (.cells #[.int .i64 3, .int .i64 4] 3)).alloc (.cells #[.int .i64 0, .int .i64 1] 3)).alloc (.cells #[.int .i64 3, .int .i64 4] 3)).alloc (.cells #[.int .i64 1, .slice (some ⟨w.heap.size, 0, none⟩) 2 2, .int .i64 2, .slice (some ⟨w.heap.size + 1, 0, none⟩) 2 2, .int .i64 3, .slice (some ⟨w.heap.size + 1 + 1, 0, none⟩) 2 2, .int .i64 4, .slice (some ⟨w.heap.size + 1 + 1 + 1, 0, none⟩) 2 2] 55)) _ [0, 0] := (rdi2 (World.alloc_heap_new w (.cells #[.int .i64 0, .int .i64 0] 3))).gb (gb_alloc (gb_alloc (gb_alloc (gb_alloc (Below.refl _ _) _) _) _) _)
  have r1 : RdI (((((w.alloc (.cells #[.int .i64 0, .int .i64 0] 3)).alloc (.cells #[.int .i64 3, .int .i64 4] 3)).alloc (.cells #[.int .i64 0, .int .i64 1] 3)).alloc (.cells #[.int .i64 3, .int .i64 4] 3)).alloc (.cells #[.int .i64 1, .slice (some ⟨w.heap.size, 0, none⟩) 2 2, .int .i64 2, .slice (some ⟨w.heap.size + 1, 0, none⟩) 2 2, .int .i64 3, .slice (some ⟨w.heap.size + 1 + 1, 0, none⟩) 2 2, .int .i64 4, .slice (some ⟨w.heap.size + 1 + 1 + 1, 0, none⟩) 2 2] 55)) _ [3, 4] := (rdi2 (World.alloc_heap_new (w.alloc (.cells #[.int .i64 0, .int .i64 0] 3)) (.cells #[.int .i64 3, .int .i64 4] 3))).gb (gb_alloc (gb_alloc (gb_alloc (Below.refl _ _) _) _) _)
  have r2 : RdI (((((w.alloc (.cells #[.int .i64 0, .int .i64 0] 3)).alloc (.cells #[.int .i64 3, .int .i64 4] 3)).alloc (.cells #[.int .i64 0, .int .i64 1] 3)).alloc (.cells #[.int .i64 3, .int .i64 4] 3)).alloc (.cells #[.int .i64 1, .slice (some ⟨w.heap.size, 0, none⟩) 2 2, .int .i64 2, .slice (some ⟨w.heap.size + 1, 0, none⟩) 2 2, .int .i64 3, .slice (some ⟨w.heap.size + 1 + 1, 0, none⟩) 2 2, .int .i64 4, .slice (some ⟨w.heap.size + 1 + 1 + 1, 0, none⟩) 2 2] 55)) _ [0, 1] := (rdi2 (World.alloc_heap_new ((w.alloc (.cells #[.int .i64 0, .int .i64 0] 3)).alloc (.cells #[.int .i64 3, .int .i64 4] 3)) (.cells #[.int .i64 0, .int .i64 1] 3))).gb (gb_alloc (gb_alloc (Below.refl _ _) _) _)
  have r3 : RdI (((((w.alloc (.cells #[.int .i64 0, .int .i64 0] 3)).alloc (.cells #[.int .i64 3, .int .i64 4] 3)).alloc (.cells #[.int .i64 0, .int .i64 1] 3)).alloc (.cells #[.int .i64 3, .int .i64 4] 3)).alloc (.cells #[.int .i64 1, .slice (some ⟨w.heap.size, 0, none⟩) 2 2, .int .i64 2, .slice (some ⟨w.heap.size + 1, 0, none⟩) 2 2, .int .i64 3, .slice (some ⟨w.heap.size + 1 + 1, 0, none⟩) 2 2, .int .i64 4, .slice (some ⟨w.heap.size + 1 + 1 + 1, 0, none⟩) 2 2] 55)) _ [3, 4] := (rdi2 (World.alloc_heap_new (((w.alloc (.cells #[.int .i64 0, .int .i64 0] 3)).alloc (.cells #[.int .i64 3, .int .i64 4] 3)).alloc (.cells #[.int .i64 0, .int .i64 1] 3)) (.cells #[.int .i64 3, .int .i64 4] 3))).gb (gb_alloc (Below.refl _ _) _)
  simp only [World.size_alloc] at r1 r2 r3
  rcases i with _ | _ | _ | _ | i
  · exact ⟨_, _, _, rfl, by simp [go_sem, R4], by simp [go_sem], r0⟩
  · exact ⟨_, _, _, rfl, by simp [go_sem, R4], by simp [go_sem], r1⟩
  · exact ⟨_, _, _, rfl, by simp [go_sem, R4], by simp [go_sem], r2⟩
  · exact ⟨_, _, _, rfl, by simp [go_sem, R4], by simp [go_sem], r3⟩
  · omega

theorem hits4 : hitsOf [0, 0] R4 = [(1, 0, 0), (2, 0, 25), (3, 0, 1), (4, 0, 25)] := by decide
theorem srt4 : Tk.srt (hitsOf [0, 0] R4) = [(1, 0, 0), (3, 0, 1), (2, 0, 25), (4, 0, 25)] := by
  rw [hits4]
  exact Tk.srt_of_perm (by unfold Tk.Srtd; decide) (by decide)
theorem near4 : Tk.srt (nearL 0 1 [0, 0] R4) = [(1, 0, 0), (3, 0, 1)] := by
  have e : nearL 0 1 [0, 0] R4 = [(1, 0, 0), (3, 0, 1)] := by decide
  rw [e]
  exact Tk.srt_of_srtd (by unfold Tk.Srtd; decide)
theorem topE4 (k : Int) (h1 : 1 ≤ k) (h2 : k ≤ 64) : topE R4 [0, 0] k = 0 := by
  rw [topE_zero]; exact ⟨by decide, h1, h2⟩
theorem ask4 : askE R4 [0, 0] = 0 := by decide
theorem wf4 : Wf R4 := ⟨by decide, by decide⟩
theorem top4 : topE R4 [0, 0] 0 = 1 := by decide

theorem rd_take {w : World} {b n cap c : Nat} {l : List Tk.Ht} (h : Tk.Lies w b 0 l) (hn : l.length = n) (hc : c ≤ n) : Tk.Rd w (.slice (some ⟨b, 0, none⟩) c cap) (l.take c) := by
  have hl : (l.take c).length = c := by rw [List.length_take]; omega
  refine .inr (.inr ⟨b, 0, cap, by rw [hl], fun i hi => ?_⟩)
  rw [hl] at hi
  rw [getElem!_pos (l.take c) i (by omega), List.getElem_take, ← getElem!_pos l i (by omega)]
  exact h i (by omega)
theorem own_sl {w : World} {v : Value} {l : List Tk.Ht} (h : Tk.Own w v l.toArray) (h0 : 0 < l.length) : ∃ g cap, v = .slice (some ⟨g, 0, none⟩) l.length cap ∧ l.length ≤ cap ∧ Tk.Lies w g 0 l := by
  obtain ⟨g, cap, cur, e, hh, hc, _⟩ := Tk.own_form h (by simpa using h0)
  subst e
  exact ⟨g, cap, by simp, by simpa using hc, by simpa using Tk.own_lies h⟩
theorem lies3 {W : World} {b : Nat} {a1 a2 a3 c1 c2 c3 d1 d2 d3 : Int} (h : W.heap[b]? = some (.cells #[.int .i64 a1, .int .u64 a2, .int .u64 a3, .int .i64 c1, .int .u64 c2, .int .u64 c3, .int .i64 d1, .int .u64 d2, .int .u64 d3] 57 (0, 0))) : Tk.Rd W (.slice (some ⟨b, 0, none⟩) 3 3) [(a1, a2, a3), (c1, c2, c3), (d1, d2, d3)] := by
  refine .inr (.inr ⟨b, 0, 3, rfl, fun i hi => ?_⟩)
  simp only [List.length_cons, List.length_nil] at hi
  rcases i with _ | _ | _ | i
  · refine ⟨?_, ?_, ?_⟩ <;> simp [World.cell?, h]
  · refine ⟨?_, ?_, ?_⟩ <;> simp [World.cell?, h]
  · refine ⟨?_, ?_, ?_⟩ <;> simp [World.cell?, h]
  · omega
theorem first3 : Tk.firsts 3 (hitsOf [0, 0] R4) = [(1, 0, 0), (3, 0, 1), (2, 0, 25)] := by unfold Tk.firsts; rw [srt4]; rfl
theorem first1 : Tk.firsts 1 (hitsOf [0, 0] R4) = [(1, 0, 0)] := by unfold Tk.firsts; rw [srt4]; rfl

set_option maxRecDepth 100000 in
set_option maxHeartbeats 4000000 in
theorem awake_c (w : World) : Calls Tryz.prog 15 #[] w fun e w' => e = .returned (.bool true) ∧ Gb w w' := by
  go_enter Tryz.func15, Tryz.ntmps15
  go_wp2_with fail
  refine (rows_c w).mono ?_
  rintro e w1 ⟨b1, rfl, r1, g1⟩
  have ga1 : Gb w1 (w1.alloc (.cells #[.int .i64 0, .int .i64 0] 3)) := gb_alloc (Below.refl _ _) _
  have c := topk_c (r1.gb ga1) (rdi2 (World.alloc_heap_new w1 (.cells #[.int .i64 0, .int .i64 0] 3))) wf4 3
  rw [topE4 3 (by decide) (by decide)] at c
  go_wp2_with fail
  refine c.mono ?_
  rintro e w2 ⟨v2, rfl, g2, _, o2⟩
  obtain ⟨o2, _, _⟩ := o2 (by first | rfl | trivial)
  have G2 : Gb w w2 := gb_trans g1 (gb_trans ga1 g2)
  clear c g1 ga1 g2 r1
  go_wp2_with fail
  refine (rows_c w2).mono ?_
  rintro e w3 ⟨b3, rfl, r3, g3⟩
  have ga3 : Gb w3 (w3.alloc (.cells #[.int .i64 0, .int .i64 0] 3)) := gb_alloc (Below.refl _ _) _
  have q3 := rdi2 (World.alloc_heap_new w3 (.cells #[.int .i64 0, .int .i64 0] 3))
  go_wp2_with fail
  refine (lo_c 1 _).mono ?_
  rintro e w4 ⟨rfl, g4⟩
  have c := rng_ok 0 1 ((r3.gb ga3).gb g4) (q3.gb g4) wf4 ask4
  go_wp2_with fail
  refine c.mono ?_
  rintro e w5 ⟨v5, rfl, o5, g5, _⟩
  have G5 : Gb w2 w5 := gb_trans g3 (gb_trans ga3 (gb_trans g4 g5))
  clear c g3 ga3 g4 g5 r3 q3
  go_wp2_with fail
  refine (rows_c w5).mono ?_
  rintro e w6 ⟨b6, rfl, r6, g6⟩
  have ga6 : Gb w6 (w6.alloc (.cells #[.int .i64 0, .int .i64 0] 3)) := gb_alloc (Below.refl _ _) _
  have c := search_ok (r6.gb ga6) (by decide) (rdi2 (World.alloc_heap_new w6 (.cells #[.int .i64 0, .int .i64 0] 3))) wf4 1 (topE4 1 (by decide) (by decide)) 4 (by decide)
  go_wp2_with fail
  refine c.mono ?_
  rintro e w7 ⟨vh, vs, vr, rfl, B1, B2, _, _, _, g7, o7, _, o8, _, o9⟩
  have G7 : Gb w5 w7 := gb_trans g6 (gb_trans ga6 g7)
  have e2 : ∃ x y z, vs = Value.slice x y z := by obtain ⟨x, z, e, _⟩ := o8.rd; exact ⟨_, _, _, e⟩
  have e3 : ∃ x y z, vr = Value.slice x y z := by
    rcases o9 with ⟨_, e⟩ | ⟨_, vi, g, e, _⟩
    · exact ⟨_, _, _, e⟩
    · exact ⟨_, _, _, e⟩
  clear c g6 ga6 r6 g7 o8 o9
  rw [show min 4 4 = 4 from rfl, show R4.take 4 = R4 from rfl, show (1 : Int).toNat = 1 from rfl, first1] at o7
  rw [show (3 : Int).toNat = 3 from rfl, first3] at o2
  rw [near4] at o5
  obtain ⟨x2, y2, z2, rfl⟩ := e2
  obtain ⟨x3, y3, z3, rfl⟩ := e3
  obtain ⟨gh, ch, rfl, _, l7⟩ := own_sl o7 (by decide)
  obtain ⟨g5, c5, rfl, _, l5⟩ := own_sl (Tk.own_gr o5 G7) (by decide)
  obtain ⟨gt, ct, rfl, hct, l2⟩ := own_sl (Tk.own_gr (Tk.own_gr o2 G5) G7) (by decide)
  simp only [List.length_cons, List.length_nil, Nat.zero_add, Nat.reduceAdd] at hct l7 l5 l2 ⊢
  clear o2 o5 o7
  go_wp2_with fail
  refine (rows_c _).mono ?_
  rintro e w8 ⟨b8, rfl, r8, g8⟩
  have ga8 : Gb w8 (w8.alloc (.cells #[.int .i64 0, .int .i64 0] 3)) := gb_alloc (Below.refl _ _) _
  have c := topk_c (r8.gb ga8) (rdi2 (World.alloc_heap_new w8 (.cells #[.int .i64 0, .int .i64 0] 3))) wf4 0
  rw [top4] at c
  go_wp2_with fail
  refine c.mono ?_
  rintro e w9 ⟨v9, rfl, g9, e9, _⟩
  obtain rfl := e9 (by decide)
  have G9 := gb_trans g8 (gb_trans ga8 g9)
  clear c g8 ga8 r8 g9 e9
  go_wp2_with fail
  have h2i : (2 : Int) ≤ (ct : Int) := by omega
  have h1i : (1 : Int) ≤ (ct : Int) := by omega
  have gd : Gb w9 w9.drew := ⟨rfl, rfl, rfl, Nat.le_refl _, fun _ _ => rfl⟩
  have g7a : Gb w7 (w7.alloc (.cells #[.slice (some ⟨gh, 0, none⟩) 1 ch, .slice x2 y2 z2, .slice x3 y3 z3] 44)) := gb_alloc (Below.refl _ _) _
  have G9a := gb_trans G9 gd
  have G79 := gb_trans g7a G9a
  have cA : w9.drew.cell? ⟨w7.heap.size, 0, none⟩ = some (.slice (some ⟨gh, 0, none⟩) 1 ch) := gb_keeps G9a (by simp [go_sem])
  refine wp_region_held_drew (S := fun _ => True) (by kernel_rfl) trivial (fun hHeld => ?_)
  refine wpAnyH_take (i := 0) (v := ?_) rfl (by kernel_rfl) (by kernel_rfl) (by kernel_rfl) (fun _ _ _ h => h) (Or.inl ⟨by rfl, ?_⟩) (by assumption) ?_
  rotate_left 1
  · (intro w hSw; (try dsimp only at hSw); go_simp; try with_reducible rfl)
  try simp only [Act.put, List.setIfInBounds_toArray]
  refine wpAnyH_take (i := 1) (v := ?_) rfl (by kernel_rfl) (by kernel_rfl) (by kernel_rfl) (fun _ _ _ h => h) (Or.inl ⟨by rfl, ?_⟩) (by assumption) ?_
  rotate_left 1
  · (intro w hSw; (try dsimp only at hSw); go_simp; try with_reducible rfl)
  try simp only [Act.put]
  refine wpAnyH_take (i := 2) (v := ?_) rfl (by kernel_rfl) (by kernel_rfl) (by kernel_rfl) (fun _ _ _ h => h) (Or.inl ⟨by rfl, ?_⟩) (by assumption) ?_
  rotate_left 1
  · (intro w hSw; (try dsimp only at hSw); go_simp; try with_reducible rfl)
  try simp only [Act.put]
  refine wpAnyH_take (i := 3) (v := ?_) rfl (by kernel_rfl) (by kernel_rfl) (by kernel_rfl) (fun _ _ _ h => h) (Or.inl ⟨by rfl, ?_⟩) (by assumption) ?_
  rotate_left 1
  · (intro w hSw; (try dsimp only at hSw); go_simp; try with_reducible rfl)
  try simp only [Act.put]
  refine wpAnyH_ready (rs := [4]) (by kernel_rfl) (by simp) ?_
  refine AllReadyH.cons rfl (fun K hK => ?_) AllReadyH.nil
  go_simp
  go_at_call 36
  refine (lo_c 1 _).mono ?_
  rintro e wa ⟨rfl, ga⟩
  refine hK.out _ _ trivial (fun hHeld => ?_)
  clear hK K
  try simp only [Act.put, List.setIfInBounds_toArray, List.set_cons_zero, List.set_cons_succ]
  refine wpAnyH_take (i := 5) (v := ?_) rfl (by kernel_rfl) (by kernel_rfl) (by kernel_rfl) (fun _ _ _ h => h) (Or.inl ⟨by rfl, ?_⟩) (by assumption) ?_
  rotate_left 1
  · (intro w hSw; (try dsimp only at hSw); go_simp; try with_reducible rfl)
  try simp only [Act.put, List.setIfInBounds_toArray]
  refine wpAnyH_ready (rs := [6]) (by kernel_rfl) (by simp) ?_
  refine AllReadyH.cons rfl (fun K hK => ?_) AllReadyH.nil
  go_simp
  go_at_call 36
  refine (lo_c 25 _).mono ?_
  rintro e wb ⟨rfl, gb⟩
  refine hK.out _ _ trivial (fun hHeld => ?_)
  clear hK K
  try simp only [Act.put, List.setIfInBounds_toArray, List.set_cons_zero, List.set_cons_succ]
  refine wpAnyH_take (i := 7) (v := ?_) rfl (by kernel_rfl) (by kernel_rfl) (by kernel_rfl) (fun _ _ _ h => h) (Or.inl ⟨by rfl, ?_⟩) (by assumption) ?_
  rotate_left 1
  · (intro w hSw; (try dsimp only at hSw); go_simp; try with_reducible rfl)
  try simp only [Act.put, List.setIfInBounds_toArray]
  refine wpAnyH_ready (rs := [8]) (by kernel_rfl) (by simp) ?_
  refine AllReadyH.cons rfl (fun K hK => ?_) AllReadyH.nil
  go_simp
  refine hK.out _ _ trivial (fun hHeld => ?_)
  clear hK K
  try simp only [Act.put, List.setIfInBounds_toArray, List.set_cons_zero, List.set_cons_succ]
  have gc : Gb wb (wb.alloc (.cells #[.int .i64 1, .int .u64 0, .int .u64 0, .int .i64 3, .int .u64 0, .int .u64 1, .int .i64 2, .int .u64 0, .int .u64 25] 57)) := gb_alloc (Below.refl _ _) _
  have G7c := gb_trans G79 (gb_trans ga (gb_trans gb gc))
  refine wpAnyH_ready (rs := [9]) (by kernel_rfl) (by simp) ?_
  refine AllReadyH.cons rfl (fun K hK => ?_) AllReadyH.nil
  go_simp
  go_at_call 17
  refine (Tk.same_c (.inr (.inr ⟨gt, 0, ct, rfl, l2.gr G7c⟩)) (lies3 (World.alloc_heap_new wb _)) (by decide)).mono ?_
  rintro e wc ⟨rfl, gd1⟩
  simp only [decide_true]
  refine hK.out _ _ trivial (fun hHeld => ?_)
  clear hK K
  try simp only [Act.put, List.setIfInBounds_toArray, List.set_cons_zero, List.set_cons_succ]
  have G7d := gb_trans G7c gd1
  refine wpAnyH_take (i := 10) (v := ?_) rfl (by kernel_rfl) (by kernel_rfl) (by kernel_rfl) (fun _ _ _ h => h) (Or.inl ⟨by rfl, ?_⟩) (by assumption) ?_
  rotate_left 1
  · (intro w hSw; (try dsimp only at hSw); go_simp; try with_reducible rfl)
  try simp only [Act.put, List.setIfInBounds_toArray]
  refine wpAnyH_take (i := 11) (v := ?_) rfl (by kernel_rfl) (by kernel_rfl) (by kernel_rfl) (fun _ _ _ h => h) (Or.inl ⟨by rfl, ?_⟩) (by assumption) ?_
  rotate_left 1
  · (intro w hSw; (try dsimp only at hSw); go_simp; try with_reducible rfl)
  try simp only [Act.put]
  refine wpAnyH_take (i := 12) (v := ?_) rfl (by kernel_rfl) (by kernel_rfl) (by kernel_rfl) (fun _ _ _ h => h) (Or.inl ⟨by rfl, ?_⟩) (by assumption) ?_
  rotate_left 1
  · (intro w hSw; (try dsimp only at hSw); go_simp; try with_reducible rfl)
  try simp only [Act.put]
  refine wpAnyH_take (i := 13) (v := ?_) rfl (by kernel_rfl) (by kernel_rfl) (by kernel_rfl) (fun _ _ _ h => h) (Or.inl ⟨by rfl, ?_⟩) (by assumption) ?_
  rotate_left 1
  · (intro w hSw; (try dsimp only at hSw); go_simp; try with_reducible rfl)
  try simp only [Act.put]
  refine wpAnyH_take (i := 14) (v := ?_) rfl (by kernel_rfl) (by kernel_rfl) (by kernel_rfl) (fun _ _ _ h => h) (Or.inl ⟨by rfl, ?_⟩) (by assumption) ?_
  rotate_left 1
  · (intro w hSw; (try dsimp only at hSw); go_simp; try with_reducible rfl)
  try simp only [Act.put]
  refine wpAnyH_ready (rs := [15]) (by kernel_rfl) (by simp) ?_
  refine AllReadyH.cons rfl (fun K hK => ?_) AllReadyH.nil
  go_simp
  go_at_call 17
  refine (Tk.same_c (.inr (.inr ⟨g5, 0, c5, rfl, l5.gr G7d⟩)) (rd_take (l2.gr G7d) rfl (by decide)) (by decide)).mono ?_
  rintro e we ⟨rfl, ge⟩
  simp only [decide_true, List.take_succ_cons, List.take_zero]
  refine hK.out _ _ trivial (fun hHeld => ?_)
  clear hK K
  try simp only [Act.put, List.setIfInBounds_toArray, List.set_cons_zero, List.set_cons_succ]
  have G7e := gb_trans G7d ge
  have cA2 := gb_keeps ge (gb_keeps gd1 (gb_keeps gc (gb_keeps gb (gb_keeps ga cA))))
  refine wpAnyH_take (i := 16) (v := ?_) rfl (by kernel_rfl) (by kernel_rfl) (by kernel_rfl) (fun _ _ _ h => h) (Or.inl ⟨by rfl, ?_⟩) (by assumption) ?_
  rotate_left 1
  · (intro w hSw; (try dsimp only at hSw); go_simp; try with_reducible rfl)
  try simp only [Act.put, List.setIfInBounds_toArray]
  refine wpAnyH_take (i := 17) (v := ?_) rfl (by kernel_rfl) (by kernel_rfl) (by kernel_rfl) (fun _ _ _ h => h) (Or.inl ⟨by rfl, ?_⟩) (by assumption) ?_
  rotate_left 1
  · (intro w hSw; (try dsimp only at hSw); go_simp; try with_reducible rfl)
  try simp only [Act.put]
  refine wpAnyH_take (i := 18) (v := ?_) rfl (by kernel_rfl) (by kernel_rfl) (by kernel_rfl) (fun _ _ _ h => h) (Or.inl ⟨by rfl, ?_⟩) (by assumption) ?_
  rotate_left 1
  · (intro w hSw; (try dsimp only at hSw); go_simp; try with_reducible rfl)
  try simp only [Act.put]
  refine wpAnyH_take (i := 20) (v := ?_) rfl (by kernel_rfl) (by kernel_rfl) (by kernel_rfl) (fun _ _ _ h => h) (Or.inl ⟨by rfl, ?_⟩) (by assumption) ?_
  rotate_left 1
  · (intro w hSw; (try dsimp only at hSw); go_simp; try with_reducible rfl)
  try simp only [Act.put]
  refine wpAnyH_take (i := 21) (v := ?_) rfl (by kernel_rfl) (by kernel_rfl) (by kernel_rfl) (fun _ _ _ h => h) (Or.inl ⟨by rfl, ?_⟩) (by assumption) ?_
  rotate_left 1
  · (intro w hSw; (try dsimp only at hSw); go_simp; try with_reducible rfl)
  try simp only [Act.put]
  refine wpAnyH_ready (rs := [19]) (by kernel_rfl) (by simp) ?_
  refine AllReadyH.cons rfl (fun K hK => ?_) AllReadyH.nil
  go_simp
  refine hK.out _ _ trivial (fun hHeld => ?_)
  clear hK K
  try simp only [Act.put, List.setIfInBounds_toArray, List.set_cons_zero, List.set_cons_succ]
  refine wpAnyH_ready (rs := [22]) (by kernel_rfl) (by simp) ?_
  refine AllReadyH.cons rfl (fun K hK => ?_) AllReadyH.nil
  go_simp
  go_at_call 17
  refine (Tk.same_c (.inr (.inr ⟨gh, 0, ch, rfl, l7.gr G7e⟩)) (rd_take (l2.gr G7e) rfl (by decide)) (by decide)).mono ?_
  rintro e wf ⟨rfl, gf⟩
  simp only [decide_true, List.take_succ_cons, List.take_zero]
  refine hK.out _ _ trivial (fun hHeld => ?_)
  clear hK K
  try simp only [Act.put, List.setIfInBounds_toArray, List.set_cons_zero, List.set_cons_succ]
  refine wpAnyH_take (i := 23) (v := ?_) rfl (by kernel_rfl) (by kernel_rfl) (by kernel_rfl) (fun _ _ _ h => h) (Or.inl ⟨by rfl, ?_⟩) (by assumption) ?_
  rotate_left 1
  · (intro w hSw; (try dsimp only at hSw); go_simp; try with_reducible rfl)
  try simp only [Act.put, List.setIfInBounds_toArray]
  refine wpAnyH_ready (rs := [24]) (by kernel_rfl) (by simp) ?_
  refine AllReadyH.cons rfl (fun K hK => ?_) AllReadyH.nil
  go_simp
  refine hK.out _ _ trivial (fun hHeld => ?_)
  clear hK K
  try simp only [Act.put, List.setIfInBounds_toArray, List.set_cons_zero, List.set_cons_succ]
  refine wpAnyH_done (by kernel_rfl) ?_ _
  go_wp2
  go_ret
  exact ⟨rfl, gb_trans G2 (gb_trans G5 (gb_trans G7 (gb_trans G7e gf)))⟩
end Go.Proofs.YteaeaoekaoedoaaGreat
