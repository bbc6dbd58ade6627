import Derived.Test.YtdmdjmliggjbjaaGreatCtCL
import Derived.Test.YtdmdjmliggjbjaaGreatCt41
import Derived.Test.YtdmdjmliggjbjaaGreatCt40
import Derived.Test.YtdmdjmliggjbjaaGreatCt22
/- The law's examples. -/
namespace Go.Proofs.YtdmdjmliggjbjaaGreat
open Go.RowKit Go.Sort Go.Maps Go.Shelf

def R3 : List Rw := [(1, [0]), (2, [5]), (3, [9])]
def told (x : Int) : Ans := ⟨[(1, 0, 0)], [1], [⟨2, [x], [9], 0, [2, 3]⟩]⟩
theorem rdi1 {W : World} {b : Nat} {x : Int} (h : W.heap[b]? = some (.cells #[.int .i64 x] 3 (0, 0))) : RdI W (.slice (some ⟨b, 0, none⟩) 1 1) [x] := by
  refine ⟨_, _, rfl, fun i hi => ⟨b, 0, rfl, ?_⟩⟩
  rcases i with _ | i
  · simp [World.cell?, h]
  · simp only [List.length_cons, List.length_nil] at hi; omega
theorem rdi2' {W : World} {b : Nat} {x y : Int} (h : W.heap[b]? = some (.cells #[.int .i64 x, .int .i64 y] 3 (0, 0))) : RdI W (.slice (some ⟨b, 0, none⟩) 2 2) [x, y] := by
  refine ⟨_, _, rfl, fun i hi => ⟨b, 0, rfl, ?_⟩⟩
  rcases i with _ | _ | i
  · simp [World.cell?, h]
  · simp [World.cell?, h]
  · simp only [List.length_cons, List.length_nil] at hi; omega
/-- What was laid some blocks ago is still there. -/
theorem old_blk {w w' : World} (g : Gb w w') {b : Nat} {o : Obj} (h : w.heap[b]? = some o) : w'.heap[b]? = some o := (g.block b (Array.getElem?_eq_some_iff.1 h).1).trans h
set_option maxHeartbeats 1000000 in
theorem rows13_c (w : World) : Calls Tryz.prog 25 #[] w fun e w' => ∃ b, e = .returned (.slice (some ⟨b, 0, none⟩) 3 3) ∧ RdW w' (.slice (some ⟨b, 0, none⟩) 3 3) R3 ∧ Gb w w' := by
  go_enter Tryz.func25, Tryz.ntmps25
  go_wp2
  generalize hWe : World.alloc _ _ = We
  go_ret
  have h0 := World.alloc_heap_new w (.cells #[.int .i64 0] 3)
  have h1 := World.alloc_heap_new (w.alloc (.cells #[.int .i64 0] 3)) (.cells #[.int .i64 5] 3)
  have h2 := World.alloc_heap_new ((w.alloc (.cells #[.int .i64 0] 3)).alloc (.cells #[.int .i64 5] 3)) (.cells #[.int .i64 9] 3)
  simp only [World.size_alloc] at h1 h2
  refine ⟨_, rfl, ?_, by rw [← hWe]; exact gb_alloc (gb_alloc (gb_alloc (gb_alloc (Below.refl _ _) _) _) _) _⟩
  have r0 : RdI We (.slice (some ⟨w.heap.size, 0, none⟩) 1 1) [0] := rdi1 (by rw [← hWe]; exact old_blk (gb_alloc (gb_alloc (gb_alloc (Below.refl _ _) _) _) _) h0)
  have r1 : RdI We (.slice (some ⟨w.heap.size + 1, 0, none⟩) 1 1) [5] := rdi1 (by rw [← hWe]; exact old_blk (gb_alloc (gb_alloc (Below.refl _ _) _) _) h1)
  have r2 : RdI We (.slice (some ⟨w.heap.size + 1 + 1, 0, none⟩) 1 1) [9] := rdi1 (by rw [← hWe]; exact old_blk (gb_alloc (Below.refl _ _) _) h2)
  refine ⟨_, _, rfl, fun i hi => ?_⟩
  have hi' : i < 3 := hi
  rcases i with _ | _ | _ | i
  · exact ⟨_, _, _, rfl, by rw [← hWe]; simp [go_sem, R3], by rw [← hWe]; simp [go_sem], r0⟩
  · exact ⟨_, _, _, rfl, by rw [← hWe]; simp [go_sem, R3], by rw [← hWe]; simp [go_sem], r1⟩
  · exact ⟨_, _, _, rfl, by rw [← hWe]; simp [go_sem, R3], by rw [← hWe]; simp [go_sem], r2⟩
  · omega
theorem rd_one {W : World} {b : Nat} {x : Int} (h : W.cell? ⟨b, 0, none⟩ = some (.int .i64 x)) : RdI W (.slice (some ⟨b, 0, none⟩) 1 1) [x] := by
  refine ⟨_, _, rfl, fun i hi => ⟨b, 0, rfl, ?_⟩⟩
  rcases i with _ | i
  · exact h
  · simp only [List.length_cons, List.length_nil] at hi; omega
theorem rd_two {W : World} {b : Nat} {x y : Int} (h : W.cell? ⟨b, 0, none⟩ = some (.int .i64 x)) (h' : W.cell? ⟨b, 1, none⟩ = some (.int .i64 y)) : RdI W (.slice (some ⟨b, 0, none⟩) 2 2) [x, y] := by
  refine ⟨_, _, rfl, fun i hi => ⟨b, 0, rfl, ?_⟩⟩
  rcases i with _ | _ | i
  · exact h
  · exact h'
  · simp only [List.length_cons, List.length_nil] at hi; omega
theorem hi0 : hi 0 = 0 := rfl
theorem lo0 : lo 0 = 0 := rfl
set_option maxHeartbeats 1000000 in
theorem told_c (x : Int) (w : World) : Calls Tryz.prog 26 #[.int .i64 x] w fun e w' => ∃ b1 b2 b3, e = .returned (.agg #[.slice (some ⟨b1, 0, none⟩) 1 1, .slice (some ⟨b2, 0, none⟩) 1 1, .slice (some ⟨b3, 0, none⟩) 1 1]) ∧ RdA w' (.slice (some ⟨b1, 0, none⟩) 1 1) (.slice (some ⟨b2, 0, none⟩) 1 1) (.slice (some ⟨b3, 0, none⟩) 1 1) (told x) ∧ Gb w w' := by
  go_enter Tryz.func26, Tryz.ntmps26
  go_wp2
  obtain ⟨n, hn⟩ : ∃ n, n = w.heap.size := ⟨_, rfl⟩
  refine bodyPost_ret (v := .agg #[.slice (some ⟨w.heap.size + 1, 0, none⟩) 1 1, .slice (some ⟨w.heap.size + 1 + 1, 0, none⟩) 1 1, .slice (some ⟨w.heap.size + 1 + 1 + 1 + 1 + 1 + 1, 0, none⟩) 1 1]) (by simp [results, Tryz.results26, go_sem]) rfl ?_
  generalize hWe : World.alloc _ _ = We
  refine ⟨_, _, _, rfl, ⟨.inr (.inr ⟨w.heap.size + 1, 0, 1, rfl, fun i hi => ?_⟩), rd_one (by rw [← hWe]; simp [go_sem]), ⟨_, _, rfl, fun i hi => ?_⟩⟩, by rw [← hWe]; exact gb_alloc (gb_alloc (gb_alloc (gb_alloc (gb_alloc (gb_alloc (gb_alloc (Below.refl _ _) _) _) _) _) _) _) _⟩
  · have hi' : i < 1 := hi
    have e : i = 0 := by omega
    subst e
    exact ⟨by rw [← hWe]; simp [go_sem, told], by rw [← hWe]; simp [go_sem, told], by rw [← hWe]; simp [go_sem, told]⟩
  · have hi' : i < 1 := hi
    have e : i = 0 := by omega
    subst e
    have r1 : RdI We (.slice (some ⟨w.heap.size + 1 + 1 + 1, 0, none⟩) 1 1) [x] := rd_one (by rw [← hWe]; simp [go_sem])
    have r2 : RdI We (.slice (some ⟨w.heap.size + 1 + 1 + 1 + 1, 0, none⟩) 1 1) [9] := rd_one (by rw [← hWe]; simp [go_sem])
    have r3 : RdI We (.slice (some ⟨w.heap.size + 1 + 1 + 1 + 1 + 1, 0, none⟩) 2 2) [2, 3] := rd_two (by rw [← hWe]; simp [go_sem]) (by rw [← hWe]; simp [go_sem])
    exact ⟨_, _, _, _, _, rfl, by rw [← hWe]; simp [go_sem, told], by rw [← hWe]; simp [go_sem], by rw [← hWe]; simp [go_sem], by rw [← hWe]; simp [go_sem, told, hi0], by rw [← hWe]; simp [go_sem, told, lo0], by rw [← hWe]; simp [go_sem], r1, r2, r3⟩

theorem ask3 : askE R3 [0] = 0 := by decide
theorem top3 : topE R3 [0] 1 = 0 := by decide
theorem wf3 : Wf R3 := ⟨by decide, by decide⟩
theorem in3 (x : Int) : InA (told x) := by
  refine ⟨by simp [told, allIds], by simp [told], by simp [told], fun y hy => ?_, fun r hr => ?_⟩
  · simp [told, allIds] at hy
    rcases hy with rfl | rfl | rfl <;> exact ⟨by decide, by decide⟩
  · simp [told] at hr
    subst hr; dsimp only; decide
theorem firstC : Tk.firsts 1 (hitsOf [0] [(1, [0])]) = [(1, 0, 0)] := by
  have e : hitsOf [0] [(1, [0])] = [(1, 0, 0)] := by decide
  rw [e]
  unfold Tk.firsts
  rw [Tk.srt_of_srtd (by unfold Tk.Srtd; decide)]
  rfl
theorem snd3 (x : Int) (hx : ckR ⟨2, [x], [9], 0, [2, 3]⟩ 1 = 0) (h2 : inV ⟨2, [x], [9], 0, [2, 3]⟩ [5] = true) (h3 : inV ⟨2, [x], [9], 0, [2, 3]⟩ [9] = true) : SoundQ R3 [0] 1 (told x) := by
  refine ⟨[(1, [0])], rfl, by simp [R3], ?_, ?_, firstC.symm, List.Perm.refl _⟩
  · intro i hi'
    simp [told] at hi'
  · intro r hr
    simp only [told, List.mem_singleton] at hr
    subst hr
    refine ⟨hx, by simp, by dsimp only; decide, fun y hy => ?_⟩
    simp at hy
    rcases hy with rfl | rfl
    · exact ⟨(2, [5]), by simp [R3], rfl, h2⟩
    · exact ⟨(3, [9]), by simp [R3], rfl, h3⟩
theorem snd5 : SoundQ R3 [0] 1 (told 5) := snd3 5 (by decide) (by decide) (by decide)
theorem snd0 : SoundQ R3 [0] 1 (told 0) := snd3 0 (by decide) (by decide) (by decide)
theorem snd6 : ¬ SoundQ R3 [0] 1 (told 6) := by
  rintro ⟨srs, h⟩
  obtain ⟨_, _, _, h4⟩ := h.reg ⟨2, [6], [9], 0, [2, 3]⟩ (by simp [told])
  obtain ⟨row, hr, e, hin⟩ := h4 2 (by simp)
  simp [R3] at hr
  rcases hr with rfl | rfl | rfl
  · cases e
  · revert hin; decide
  · cases e
theorem cer5 : certB [0] 1 (told 5) = true := by decide
theorem cer0 : certB [0] 1 (told 0) = false := by decide
theorem nat1 : (1 : Int).toNat = 1 := rfl
/-- Certain, of an example. -/
theorem ex_certain {w : World} {b b0 b1 b2 b3 : Nat} {x : Int} (r : Bool) (hv : RdW w (.slice (some ⟨b, 0, none⟩) 3 3) R3) (hu : RdI w (.slice (some ⟨b0, 0, none⟩) 1 1) [0]) (ha : RdA w (.slice (some ⟨b1, 0, none⟩) 1 1) (.slice (some ⟨b2, 0, none⟩) 1 1) (.slice (some ⟨b3, 0, none⟩) 1 1) (told x)) (hr : r = true ↔ SoundQ R3 [0] 1 (told x) ∧ certB [0] 1 (told x) = true) :
    Calls Tryz.prog 10 #[.slice (some ⟨b, 0, none⟩) 3 3, .slice (some ⟨b0, 0, none⟩) 1 1, .int .i64 1, .agg #[.slice (some ⟨b1, 0, none⟩) 1 1, .slice (some ⟨b2, 0, none⟩) 1 1, .slice (some ⟨b3, 0, none⟩) 1 1]] w fun e w' => e = .returned (.tuple #[.bool r, .int .i64 0]) ∧ Gb w w' := by
  refine (Certain_c (k := 1) hv hu ha (in3 x) wf3).mono ?_
  rintro e w' ⟨b, rfl, g, _, h⟩
  rw [top3]
  have := h top3
  rw [nat1] at this
  rw [bool_one this hr]
  exact ⟨rfl, g⟩
theorem ex_sound {w : World} {b b0 b1 b2 b3 : Nat} {x : Int} (r : Bool) (hv : RdW w (.slice (some ⟨b, 0, none⟩) 3 3) R3) (hu : RdI w (.slice (some ⟨b0, 0, none⟩) 1 1) [0]) (ha : RdA w (.slice (some ⟨b1, 0, none⟩) 1 1) (.slice (some ⟨b2, 0, none⟩) 1 1) (.slice (some ⟨b3, 0, none⟩) 1 1) (told x)) (hr : r = true ↔ SoundQ R3 [0] 1 (told x)) :
    Calls Tryz.prog 9 #[.slice (some ⟨b, 0, none⟩) 3 3, .slice (some ⟨b0, 0, none⟩) 1 1, .int .i64 1, .agg #[.slice (some ⟨b1, 0, none⟩) 1 1, .slice (some ⟨b2, 0, none⟩) 1 1, .slice (some ⟨b3, 0, none⟩) 1 1]] w fun e w' => e = .returned (.tuple #[.bool r, .int .i64 0]) ∧ Gb w w' := by
  refine (Sound_c (k := 1) hv hu ha (in3 x) wf3).mono ?_
  rintro e w' ⟨b, rfl, g, _, h⟩
  rw [top3]
  have := h top3
  rw [nat1] at this
  rw [bool_one this hr]
  exact ⟨rfl, g⟩
set_option maxRecDepth 100000 in
set_option maxHeartbeats 2000000 in
theorem awake_c (w : World) : Calls Tryz.prog 13 #[] w fun e w' => e = .returned (.bool true) ∧ Gb w w' := by
  have c1 := rows13_c w
  go_enter Tryz.func13, Tryz.ntmps13
  skip
  go_wp2_with fail
  go_fit c1
  rintro e wa ⟨b, rfl, rw1, g1⟩
  have c2 := told_c 5 (wa.alloc (.cells #[.int .i64 0] 3))
  have GA : Hid (Gb w wa) := g1
  have RW : Hid (RdW wa (.slice (some ⟨b, 0, none⟩) 3 3) R3) := rw1
  clear c1 rw1 g1
  go_wp2_with fail
  go_fit c2
  rintro e wb ⟨b1, b2, b3, rfl, ra, g2⟩
  have gq : Gb wa (wa.alloc (.cells #[.int .i64 0] 3)) := gb_alloc (Below.refl _ _) _
  have c3 := ex_certain true (RW.out.gb (gb_trans gq g2)) ((rd_one (b := wa.heap.size) (x := 0) (by simp [go_sem])).gb g2) ra ⟨fun _ => ⟨snd5, cer5⟩, fun _ => rfl⟩
  have GB : Hid (Gb w wb) := gb_trans GA.out (gb_trans gq g2)
  clear c2 ra g2 gq RW GA
  go_wp2_with fail
  go_fit c3
  rintro e wz ⟨rfl, g3⟩
  have GW : Hid (Gb w wz) := gb_trans GB.out g3
  clear c3 g3 GB
  have c1 := rows13_c wz
  go_wp2_with fail
  go_fit c1
  rintro e wa ⟨b, rfl, rw1, g1⟩
  have c2 := told_c 0 (wa.alloc (.cells #[.int .i64 0] 3))
  have GA : Hid (Gb w wa) := gb_trans GW.out g1
  have RW : Hid (RdW wa (.slice (some ⟨b, 0, none⟩) 3 3) R3) := rw1
  clear c1 rw1 g1 GW
  go_wp2_with fail
  go_fit c2
  rintro e wb ⟨b1, b2, b3, rfl, ra, g2⟩
  have gq : Gb wa (wa.alloc (.cells #[.int .i64 0] 3)) := gb_alloc (Below.refl _ _) _
  have c3 := ex_certain false (RW.out.gb (gb_trans gq g2)) ((rd_one (b := wa.heap.size) (x := 0) (by simp [go_sem])).gb g2) ra ⟨fun h => (by cases h), fun h => by rw [cer0] at h; cases h.2⟩
  have GB : Hid (Gb w wb) := gb_trans GA.out (gb_trans gq g2)
  clear c2 ra g2 gq RW GA
  go_wp2_with fail
  go_fit c3
  rintro e wz ⟨rfl, g3⟩
  have GW : Hid (Gb w wz) := gb_trans GB.out g3
  clear c3 g3 GB
  have c1 := rows13_c wz
  go_wp2_with fail
  go_fit c1
  rintro e wa ⟨b, rfl, rw1, g1⟩
  have c2 := told_c 0 (wa.alloc (.cells #[.int .i64 0] 3))
  have GA : Hid (Gb w wa) := gb_trans GW.out g1
  have RW : Hid (RdW wa (.slice (some ⟨b, 0, none⟩) 3 3) R3) := rw1
  clear c1 rw1 g1 GW
  go_wp2_with fail
  go_fit c2
  rintro e wb ⟨b1, b2, b3, rfl, ra, g2⟩
  have gq : Gb wa (wa.alloc (.cells #[.int .i64 0] 3)) := gb_alloc (Below.refl _ _) _
  have c3 := ex_sound true (RW.out.gb (gb_trans gq g2)) ((rd_one (b := wa.heap.size) (x := 0) (by simp [go_sem])).gb g2) ra ⟨fun _ => snd0, fun _ => rfl⟩
  have GB : Hid (Gb w wb) := gb_trans GA.out (gb_trans gq g2)
  clear c2 ra g2 gq RW GA
  go_wp2_with fail
  go_fit c3
  rintro e wz ⟨rfl, g3⟩
  have GW : Hid (Gb w wz) := gb_trans GB.out g3
  clear c3 g3 GB
  have c1 := rows13_c wz
  go_wp2_with fail
  go_fit c1
  rintro e wa ⟨b, rfl, rw1, g1⟩
  have c2 := told_c 6 (wa.alloc (.cells #[.int .i64 0] 3))
  have GA : Hid (Gb w wa) := gb_trans GW.out g1
  have RW : Hid (RdW wa (.slice (some ⟨b, 0, none⟩) 3 3) R3) := rw1
  clear c1 rw1 g1 GW
  go_wp2_with fail
  go_fit c2
  rintro e wb ⟨b1, b2, b3, rfl, ra, g2⟩
  have gq : Gb wa (wa.alloc (.cells #[.int .i64 0] 3)) := gb_alloc (Below.refl _ _) _
  have c3 := ex_sound false (RW.out.gb (gb_trans gq g2)) ((rd_one (b := wa.heap.size) (x := 0) (by simp [go_sem])).gb g2) ra ⟨fun h => (by cases h), fun h => absurd h snd6⟩
  have GB : Hid (Gb w wb) := gb_trans GA.out (gb_trans gq g2)
  clear c2 ra g2 gq RW GA
  go_wp2_with fail
  go_fit c3
  rintro e wz ⟨rfl, g3⟩
  have GW : Hid (Gb w wz) := gb_trans GB.out g3
  clear c3 g3 GB
  go_wp2
  go_ret
  exact ⟨rfl, GW.out⟩
end Go.Proofs.YtdmdjmliggjbjaaGreat

/- CertTrue's walk. -/
namespace Go.Proofs.YtdmdjmliggjbjaaGreat
open Go.RowKit Go.Sort Go.Maps Go.Shelf

set_option maxRecDepth 100000 in
set_option maxHeartbeats 2000000 in
theorem true_law {w : World} {v u vh vs vr : Value} {rs : List Rw} {q : List Int} {a : Ans} {k : Int} (hv : RdW w v rs) (hu : RdI w u q) (ha : RdA w vh vs vr a) (hin : AnsIn a) (hwf : Wf rs) (hq : q.length ≤ reachBytes) :
    Calls Tryz.prog 4 #[v, u, .int .i64 k, .agg #[vh, vs, vr]] w fun e w' => e = .returned (.bool true) ∧ Gb w w' := by
  obtain ⟨W0, hW0⟩ : ∃ W0, W0 = w.alloc (.cells #[vh, vs, vr] 27) := ⟨_, rfl⟩
  have G0 : Hid (Gb w W0) := by unfold Hid; rw [hW0]; exact gb_alloc (Below.refl _ _) _
  have cb := big_c (hv.gb G0.out) (hu.gb G0.out) (ha.gb G0.out) (by have := hwf.1; omega) hq hin
  have V : Hid (RdW w v rs) := hv
  have U : Hid (RdI w u q) := hu
  have A : Hid (RdA w vh vs vr a) := ha
  have HI : Hid (AnsIn a ∧ Wf rs) := ⟨hin, hwf⟩
  have BX : Hid (W0.cell? ⟨w.heap.size, 0, none⟩ = some vh ∧ W0.cell? ⟨w.heap.size, 1, none⟩ = some vs ∧ W0.cell? ⟨w.heap.size, 2, none⟩ = some vr) := by
    unfold Hid; rw [hW0]; exact ⟨by simp [go_sem], by simp [go_sem], by simp [go_sem]⟩
  obtain ⟨x1, y1, rfl, z1⟩ := hv
  obtain ⟨x2, y2, rfl, z2⟩ := hu
  obtain ⟨x3, y3, evh, z3⟩ := ha.hits.form
  obtain ⟨x4, y4, evs, z4⟩ := ha.seen
  obtain ⟨x5, y5, evr, z5⟩ := ha.rest
  subst evh; subst evs; subst evr
  clear z1 z2 z3 z4 z5 ha hin hwf hq
  generalize hn1 : rs.length = n1 at *
  generalize hn2 : q.length = n2 at *
  generalize hn3 : a.hits.length = n3 at *
  generalize hn4 : a.seen.length = n4 at *
  generalize hn5 : a.rest.length = n5 at *
  clear hn1 hn2 hn4 hn5
  have N3 : Hid (a.hits.length = n3) := hn3
  clear hn3
  go_enter Tryz.func4, Tryz.ntmps4
  go_wp2_with fail
  rw [← hW0]
  go_fit cb
  rintro e w1 ⟨⟨b, rfl, hb⟩, g1⟩
  have G1 : Hid (Gb W0 w1) := g1
  have GW : Hid (Gb w w1) := gb_trans G0.out g1
  clear cb g1 hW0
  cases b with
  | true =>
    go_wp2
    go_ret
    exact ⟨rfl, GW.out⟩
  | false =>
    have SM : Hid (Small rs q a) := hb rfl
    have IA : Hid (InA a) := SM.out.inA HI.out.1
    have c1 := Certain_c (k := k) (V.out.gb GW.out) (U.out.gb GW.out) (A.out.gb GW.out) IA.out HI.out.2
    obtain ⟨b0, b1, b2⟩ := BX.out
    have b0 := gb_keeps G1.out b0
    have b1 := gb_keeps G1.out b1
    have b2 := gb_keeps G1.out b2
    clear hb
    go_wp2_with fail
    go_fit c1
    rintro e w2 ⟨c, rfl, g2, hc1, hc2⟩
    have G2 : Hid (Gb W0 w2) := gb_trans G1.out g2
    have GW2 : Hid (Gb w w2) := gb_trans G0.out G2.out
    have HC : Hid ((topE rs q k ≠ 0 → c = false) ∧ (topE rs q k = 0 → (c = true ↔ SoundQ rs q k.toNat a ∧ certB q k.toNat a = true))) := ⟨hc1, hc2⟩
    clear c1 b0 b1 b2 g2 hc1 hc2
    obtain ⟨b0, b1, b2⟩ := BX.out
    have b0 := gb_keeps G2.out b0
    have b1 := gb_keeps G2.out b1
    have b2 := gb_keeps G2.out b2
    have c2 := Sound_c (k := k) (V.out.gb GW2.out) (U.out.gb GW2.out) (A.out.gb GW2.out) IA.out HI.out.2
    obtain ⟨x, hx⟩ : ∃ x, x = topE rs q k := ⟨_, rfl⟩
    have HX : Hid (x = topE rs q k) := hx
    rw [← hx]
    clear hx
    go_wp2_with fail
    go_fit c2
    rintro e w3 ⟨s, rfl, g3, hs1, hs2⟩
    have G3 : Hid (Gb W0 w3) := gb_trans G2.out g3
    have GW3 : Hid (Gb w w3) := gb_trans G0.out G3.out
    have HS : Hid (topE rs q k = 0 → (s = true ↔ SoundQ rs q k.toNat a)) := hs2
    clear c2 b0 b1 b2 g3 hs1 hs2
    have c3 := topk_c (V.out.gb GW3.out) (U.out.gb GW3.out) HI.out.2 k
    rw [← HX.out]
    go_wp2_with fail
    go_fit c3
    rintro e w4 ⟨v4, rfl, g4, hno, hyes⟩
    have G4 : Hid (Gb W0 w4) := gb_trans G3.out g4
    have GW4 : Hid (Gb w w4) := gb_trans G0.out G4.out
    rw [← HX.out]
    clear c3
    have ca := awake_c w4
    cases c with
    | false =>
      clear hno hyes g4
      go_wp2_with fail
      go_fit ca
      rintro e w5 ⟨rfl, g5⟩
      clear ca
      go_wp2
      go_ret
      exact ⟨rfl, gb_trans GW4.out g5⟩
    | true =>
      have TP : Hid (topE rs q k = 0) := by
        unfold Hid
        by_cases h : topE rs q k = 0
        · exact h
        · exact absurd (HC.out.1 h) (by decide)
      have SC : Hid (SoundQ rs q k.toNat a ∧ certB q k.toNat a = true) := (HC.out.2 TP.out).1 rfl
      have es : s = true := (HS.out TP.out).2 SC.out.1
      subst es
      have hk := (topE_zero.1 TP.out).2
      have EQ : Hid (a.hits = Tk.firsts k.toNat (hitsOf q rs)) := cert_true (topE_zero.1 TP.out).1 (by omega) SC.out.1 SC.out.2
      have OH : Hid (Tk.Own w4 v4 (Tk.firsts k.toNat (hitsOf q rs)).toArray) := (hyes TP.out).1
      have HL : Hid (a.hits.length ≤ 4000) := by unfold Hid; have := Tk.firsts_len k.toNat (hitsOf q rs); rw [EQ.out]; omega
      clear hno hyes g4
      obtain ⟨av, cv, ev, _⟩ := (Tk.own_rd OH.out).form
      have BV : Hid (v4 = .slice av (Tk.firsts k.toNat (hitsOf q rs)).toArray.toList.length cv) := ev
      clear ev
      rw [BV.out]
      generalize hm : (Tk.firsts k.toNat (hitsOf q rs)).toArray.toList.length = m at *
      clear hm
      go_wp2_with fail
      go_fit ca
      rintro e w5 ⟨rfl, g5⟩
      have G5 : Hid (Gb W0 w5) := gb_trans G4.out g5
      have b0 := gb_keeps G5.out BX.out.1
      have ch := Tk.same_c (A.out.hits.gr (gb_trans G0.out G5.out)) ((Tk.own_rd OH.out).gr g5) HL.out
      rw [decide_eq_true (by rw [EQ.out]), BV.out] at ch
      have GW5 : Hid (Gb w w5) := gb_trans G0.out G5.out
      clear ca g5
      go_wp2_with fail
      go_fit ch
      rintro e w6 ⟨rfl, g6⟩
      clear ch b0
      go_wp2
      go_ret
      exact ⟨rfl, gb_trans GW5.out g6⟩
end Go.Proofs.YtdmdjmliggjbjaaGreat

/- CertAll's walk. -/
namespace Go.Proofs.YtdmdjmliggjbjaaGreat
open Go.RowKit Go.Sort Go.Maps Go.Shelf

theorem inA_of {rs : List Rw} {q : List Int} {a : Ans} (hask : askE rs q = 0) (hids : allIds a = srt (idsOf rs)) (hrest : a.rest.length ≤ 1) (hh : a.hits.length ≤ 64) (hR : ∀ r ∈ a.rest, r.R = 0) : InA a := by
  have hro := (askE_zero.1 hask).2
  refine ⟨?_, by omega, by omega, fun x hx => ?_, fun r hr => by rw [hR r hr]; decide⟩
  · rw [hids, ids_zero]; have := hro.few; omega
  · rw [hids] at hx
    obtain ⟨r, hr, e⟩ := List.mem_map.1 ((srt_perm _).mem_iff.1 hx)
    have := (okId_iff _).1 (hro.row r hr).1
    rw [e] at this
    exact ⟨by omega, by omega⟩
/-- An answer in memory: no hits, none seen, one region of any shape for all ids. -/
theorem none_rd {w : World} {rs : List Rw} {v : Value} {b : Nat} (h0 : ¬ rs.length = 0) (hv : RdI w v (srt (idsOf rs))) (c0 : w.cell? ⟨b, 0, none⟩ = some (.int .i64 1)) (c1 : w.cell? ⟨b, 1, none⟩ = some (.slice none 0 0)) (c2 : w.cell? ⟨b, 2, none⟩ = some (.slice none 0 0)) (c3 : w.cell? ⟨b, 3, none⟩ = some (.int .u64 0)) (c4 : w.cell? ⟨b, 4, none⟩ = some (.int .u64 0)) (c5 : w.cell? ⟨b, 5, none⟩ = some v) :
    RdA w (.slice none 0 0) (.slice none 0 0) (.slice (some ⟨b, 0, none⟩) 1 1) (noneA rs) := by
  have e : (noneA rs).rest = [⟨1, [], [], 0, srt (idsOf rs)⟩] := by unfold noneA; dsimp only; rw [if_neg h0]
  refine ⟨.inl ⟨rfl, rfl⟩, rdi_nil _, ?_⟩
  rw [e]
  refine ⟨_, _, rfl, fun i hi' => ?_⟩
  have : i = 0 := by simp only [List.length_cons, List.length_nil] at hi'; omega
  subst this
  exact ⟨b, 0, _, _, _, rfl, c0, c1, c2, by show _ = some (Value.int .u64 (hi 0)); rw [hi0]; exact c3, by show _ = some (Value.int .u64 (lo 0)); rw [lo0]; exact c4, c5, rdi_nil _, rdi_nil _, hv⟩
theorem none_rd0 {w : World} {rs : List Rw} (h0 : rs.length = 0) : RdA w (.slice none 0 0) (.slice none 0 0) (.slice none 0 0) (noneA rs) := by
  have e : (noneA rs).rest = [] := by unfold noneA; dsimp only; rw [if_pos h0]
  refine ⟨.inl ⟨rfl, rfl⟩, rdi_nil _, ?_⟩
  rw [e]
  exact rdl_nil _
set_option maxRecDepth 100000 in
set_option maxHeartbeats 2000000 in
theorem all_law {w : World} {v u : Value} {rs : List Rw} {q : List Int} {k : Int} (hv : RdW w v rs) (hu : RdI w u q) (hwf : Wf rs) (hq : q.length ≤ reachBytes) :
    Calls Tryz.prog 6 #[v, u, .int .i64 k] w fun e w' => e = .returned (.bool true) ∧ Gb w w' := by
  have cb := big_c (a := ⟨[], [], []⟩) hv hu ⟨.inl ⟨rfl, rfl⟩, rdi_nil _, rdl_nil _⟩ (by have := hwf.1; omega) hq ⟨Nat.zero_le _, Nat.zero_le _, Nat.zero_le _, by simp, fun i hi' => absurd hi' (Nat.not_lt_zero _)⟩
  have V : Hid (RdW w v rs) := hv
  have U : Hid (RdI w u q) := hu
  have HI : Hid (Wf rs) := hwf
  obtain ⟨x1, y1, rfl, z1⟩ := hv
  obtain ⟨x2, y2, rfl, z2⟩ := hu
  clear z1 z2 hwf hq
  obtain ⟨n1, hn1⟩ : ∃ n, n = rs.length := ⟨_, rfl⟩
  have N1 : Hid (n1 = rs.length) := hn1
  rw [← hn1] at V cb ⊢
  clear hn1
  generalize hn2 : q.length = n2 at *
  clear hn2
  go_enter Tryz.func6, Tryz.ntmps6
  go_wp2_with fail
  go_fit cb
  rintro e w1 ⟨⟨b, rfl, hb⟩, g1⟩
  have GW : Hid (Gb w w1) := g1
  clear cb g1
  cases b with
  | true =>
    go_wp2
    go_ret
    exact ⟨rfl, GW.out⟩
  | false =>
    clear hb
    have c1 := topk_c (V.out.gb GW.out) (U.out.gb GW.out) HI.out k
    go_wp2_with fail
    go_fit c1
    rintro e w2 ⟨v2, rfl, g2, hno, hyes⟩
    have GW2 : Hid (Gb w w2) := gb_trans GW.out g2
    clear c1
    by_cases htop : topE rs q k = 0
    · have TP : Hid (topE rs q k = 0) := htop
      have OH : Hid (Tk.Own w2 v2 (Tk.firsts k.toNat (hitsOf q rs)).toArray) := (hyes htop).1
      have AK : Hid (askE rs q = 0 ∧ 1 ≤ k ∧ k ≤ 64) := topE_zero.1 htop
      rw [htop]
      have ci := rIds_c (V.out.gb GW2.out) (by have := (askE_zero.1 AK.out.1).2.few; omega)
      clear hno hyes g2 htop
      obtain ⟨av, cv, ev⟩ : ∃ a c, v2 = .slice a (Tk.firsts k.toNat (hitsOf q rs)).length c := own_fm OH.out rfl
      subst ev
      go_wp2_with fail
      go_fit ci
      rintro e w3 ⟨v3, rfl, o3, g3⟩
      have GW3 : Hid (Gb w w3) := gb_trans GW2.out g3
      have RI : Hid (RdI w3 v3 (srt (idsOf rs))) := o3.rd
      have RH : Hid (Tk.Rd w3 (.slice av (Tk.firsts k.toNat (hitsOf q rs)).length cv) (Tk.firsts k.toNat (hitsOf q rs))) := (Tk.own_rd OH.out).gr g3
      have IA : Hid (InA (allA rs q k.toNat)) := inA_of AK.out.1 (by simp [allIds, allA]) (by simp [allA]) (by simp only [allA]; rw [Tk.firsts_len]; have := AK.out; omega) (by simp [allA])
      have IN : Hid (InA (noneA rs)) := inA_of AK.out.1 (none_ids rs) (by unfold noneA; dsimp only; split <;> simp) (by simp [noneA]) (by unfold noneA; dsimp only; split <;> simp)
      have cc := Certain_c (k := k) (V.out.gb GW3.out) (U.out.gb GW3.out) (a := allA rs q k.toNat) ⟨RH.out, RI.out, rdl_nil _⟩ IA.out HI.out
      clear ci o3 g3
      obtain ⟨a3, c3, e3, _⟩ := RI.out
      rw [ids_zero, ← N1.out] at e3
      subst e3
      generalize hm : (Tk.firsts k.toNat (hitsOf q rs)).length = m at *
      clear hm
      go_wp2_with fail
      go_fit cc
      rintro e w4 ⟨c, rfl, g4, _, hc⟩
      have hc' := hc TP.out
      have ec : c = true := hc'.2 ⟨all_sound AK.out.1, all_certain _ _ _⟩
      subst ec
      rw [TP.out]
      have GW4 : Hid (Gb w w4) := gb_trans GW3.out g4
      have RI4 : Hid (RdI w4 (.slice a3 n1 c3) (srt (idsOf rs))) := RI.out.gb g4
      clear cc hc hc' g4 RI RH OH IA GW2 GW3
      by_cases h0 : n1 = 0
      · have H0 : Hid (rs.length = 0) := by unfold Hid; rw [← N1.out]; exact h0
        obtain ⟨W5, hW5⟩ : ∃ W5, W5 = w4.alloc (.cells #[.slice none 0 0, .slice none 0 0, .slice none 0 0] 27) := ⟨_, rfl⟩
        have GW5 : Hid (Gb w W5) := by unfold Hid; rw [hW5]; exact gb_alloc GW4.out _
        have cs := Sound_c (k := k) (V.out.gb GW5.out) (U.out.gb GW5.out) (none_rd0 H0.out) IN.out HI.out
        have BX : Hid (W5.cell? ⟨w4.heap.size, 0, none⟩ = some (.slice none 0 0) ∧ W5.cell? ⟨w4.heap.size, 1, none⟩ = some (.slice none 0 0) ∧ W5.cell? ⟨w4.heap.size, 2, none⟩ = some (.slice none 0 0)) := by
          unfold Hid; rw [hW5]; exact ⟨by simp [go_sem], by simp [go_sem], by simp [go_sem]⟩
        subst h0
        go_wp2_with fail
        rw [← hW5]
        go_fit cs
        rintro e w6 ⟨s, rfl, g6, _, hs⟩
        have es : s = true := (hs TP.out).2 (none_sound AK.out.1)
        subst es
        rw [TP.out]
        have GW6 : Hid (Gb w w6) := gb_trans GW5.out g6
        obtain ⟨b0, b1, b2⟩ := BX.out
        have b0 := gb_keeps g6 b0
        have b1 := gb_keeps g6 b1
        have b2 := gb_keeps g6 b2
        have cd := Certain_c (k := k) (V.out.gb GW6.out) (U.out.gb GW6.out) (none_rd0 H0.out) IN.out HI.out
        clear cs hs g6 hW5
        go_wp2_with fail
        go_fit cd
        rintro e w7 ⟨d, rfl, g7, _, hd⟩
        have ed : d = true := (hd TP.out).2 ⟨none_sound AK.out.1, by rw [none_certain (by have := AK.out; omega), H0.out]; rfl⟩
        subst ed
        rw [TP.out]
        have GW7 : Hid (Gb w w7) := gb_trans GW6.out g7
        have ca := awake_c w7
        clear cd hd g7 b0 b1 b2
        go_wp2_with fail
        go_fit ca
        rintro e w8 ⟨rfl, g8⟩
        clear ca
        go_wp2
        go_ret
        exact ⟨rfl, gb_trans GW7.out g8⟩
      · have H0 : Hid (¬ rs.length = 0) := by unfold Hid; rw [← N1.out]; exact h0
        have h0i : (0 : Int) < (n1 : Int) := by omega
        have h0e : ((n1 : Int) == 0) = false := by rw [beq_eq_false_iff_ne]; omega
        clear h0
        obtain ⟨W5, hW5⟩ : ∃ W5, W5 = (w4.alloc (.cells #[.slice none 0 0, .slice none 0 0, .slice (some ⟨w4.heap.size + 1, 0, none⟩) 1 1] 27)).alloc (.cells #[.int .i64 1, .slice none 0 0, .slice none 0 0, .int .u64 0, .int .u64 0, .slice a3 n1 c3] 48) := ⟨_, rfl⟩
        have GW5 : Hid (Gb w W5) := by unfold Hid; rw [hW5]; exact gb_alloc (gb_alloc GW4.out _) _
        have G45 : Gb w4 W5 := by rw [hW5]; exact gb_alloc (gb_alloc (Below.refl _ _) _) _
        have RN : Hid (RdA W5 (.slice none 0 0) (.slice none 0 0) (.slice (some ⟨w4.heap.size + 1, 0, none⟩) 1 1) (noneA rs)) := by
          refine none_rd H0.out (RI4.out.gb G45) ?_ ?_ ?_ ?_ ?_ ?_
          all_goals (rw [hW5]; simp [go_sem])
        have cs := Sound_c (k := k) (V.out.gb GW5.out) (U.out.gb GW5.out) RN.out IN.out HI.out
        have BX : Hid (W5.cell? ⟨w4.heap.size, 0, none⟩ = some (.slice none 0 0) ∧ W5.cell? ⟨w4.heap.size, 1, none⟩ = some (.slice none 0 0) ∧ W5.cell? ⟨w4.heap.size, 2, none⟩ = some (.slice (some ⟨w4.heap.size + 1, 0, none⟩) 1 1)) := by
          unfold Hid; rw [hW5]; exact ⟨by simp [go_sem], by simp [go_sem], by simp [go_sem]⟩
        clear G45
        go_wp2_with fail
        rw [← hW5]
        go_fit cs
        rintro e w6 ⟨s, rfl, g6, _, hs⟩
        have es : s = true := (hs TP.out).2 (none_sound AK.out.1)
        subst es
        rw [TP.out]
        have GW6 : Hid (Gb w w6) := gb_trans GW5.out g6
        obtain ⟨b0, b1, b2⟩ := BX.out
        have b0 := gb_keeps g6 b0
        have b1 := gb_keeps g6 b1
        have b2 := gb_keeps g6 b2
        have cd := Certain_c (k := k) (V.out.gb GW6.out) (U.out.gb GW6.out) (RN.out.gb g6) IN.out HI.out
        clear cs hs g6 hW5
        go_wp2_with fail
        go_fit cd
        rintro e w7 ⟨d, rfl, g7, _, hd⟩
        have ed : d = false := by
          cases d with
          | false => rfl
          | true =>
            have := ((hd TP.out).1 rfl).2
            rw [none_certain (by have := AK.out; omega), decide_eq_false H0.out] at this
            cases this
        subst ed
        rw [TP.out]
        have GW7 : Hid (Gb w w7) := gb_trans GW6.out g7
        have ca := awake_c w7
        clear cd hd g7 b0 b1 b2
        go_wp2_with fail
        go_fit ca
        rintro e w8 ⟨rfl, g8⟩
        clear ca
        go_wp2
        go_ret
        exact ⟨rfl, gb_trans GW7.out g8⟩
    · obtain ⟨x, hx⟩ : ∃ x, x = topE rs q k := ⟨_, rfl⟩
      rw [← hx] at htop ⊢
      have hx0 : (x != 0) = true := by simpa using htop
      have ca := awake_c w2
      clear hx htop hno hyes g2
      go_wp2_with fail
      go_fit ca
      rintro e w8 ⟨rfl, g8⟩
      clear ca
      go_wp2
      go_ret
      exact ⟨rfl, gb_trans GW2.out g8⟩
end Go.Proofs.YtdmdjmliggjbjaaGreat
