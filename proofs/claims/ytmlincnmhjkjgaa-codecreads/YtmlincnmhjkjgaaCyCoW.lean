/- law16's awake: the document's examples. -/
import Derived.Test.YtmlincnmhjkjgaaCyCoMm
import Derived.Test.YtmlincnmhjkjgaaCyCoR
import Derived.Lib.SlBytesConst
namespace Go.Proofs.Ytmlincnmhjkjgaa
open Go.RowKit Go.Lib

theorem aw_enc : enE 1 ([97] : List UInt8).length = 0 := by decide
theorem aw_dec : dcV (enT 1 [97] ++ [255]) = .tuple #[.int .i64 1, .string ⟨#[97]⟩, .int .i64 10, .int .i64 0] := by kernel_rfl
theorem aw_chg : pcV 1 5 [-1, 2] = .tuple #[.string ⟨#[1, 5, 0, 0, 0, 2, 255, 255, 255, 255, 2, 0, 0, 0]⟩, .int .i64 0] := by kernel_rfl
theorem aw_rows : prV [(7, [3])] = .tuple #[.string ⟨#[1, 1, 0, 7, 0, 0, 0, 3, 0, 0, 0]⟩, .int .i64 0] := by kernel_rfl
theorem aw_sum : crc [49, 50, 51, 52, 53, 54, 55, 56, 57] = 3421780262 := by kernel_rfl
theorem aw_get : ¬ HOk [0] := by
  intro h
  have := h.1
  simp only [List.length_cons, List.length_nil] at this
  omega
theorem rdb_lit (W : World) (l : List UInt8) (cs : Array Value) (hc : cs = (l.map bv).toArray) (fr : Nat × Nat) : RdB (W.alloc (.cells cs 5 fr)) (.slice (some ⟨W.heap.size, 0, none⟩) l.length l.length) l := by
  subst hc
  refine ⟨_, _, rfl, Nat.le_refl _, fun i hi => ⟨W.heap.size, 0, rfl, ?_⟩⟩
  simp only [World.cell?]; rw [heap_alloc_new]; simp [hi, bv]
theorem rdi_lit (W : World) (l : List Int) (cs : Array Value) (hc : cs = (l.map (Value.int .i64)).toArray) : RdI (W.alloc (.cells cs 3)) (.slice (some ⟨W.heap.size, 0, none⟩) l.length l.length) l := by
  subst hc
  refine ⟨_, _, rfl, fun i hi => ⟨W.heap.size, 0, rfl, ?_⟩⟩
  simp only [World.cell?]; rw [heap_alloc_new]; simp [hi]
set_option maxHeartbeats 4000000 in
set_option maxRecDepth 100000 in
theorem awake_c (w : World) : Calls Try.prog 8 #[] w fun e w' => e = .returned (.bool true) ∧ Gb w w' := by
  have c1 := encode_c 1 [97] (by decide) w
  unfold enP at c1
  rw [aw_enc, if_pos rfl] at c1
  have e1 : sb [97] = ⟨#[97]⟩ := rfl
  rw [e1] at c1
  have e2 : sb [0] = ⟨#[0]⟩ := rfl
  have gR := fun W => getRows_c [0] (by decide) W
  unfold grP at gR
  rw [e2] at gR
  simp only [if_neg aw_get] at gR
  go_enter Try.func8, Try.ntmps8
  go_wp2_with fail
  refine c1.mono ?_
  rintro e w1 ⟨v1, rfl, g1, o1⟩
  go_wp2_with (first
    | (at_builtin; refine app_B rfl _ _ rfl w.heap.size rfl (o1.gb (gb_alloc (Below.refl _ w1) _)) (by have := g1.size; simp; omega) (by decide) (y := 255) rfl rfl (cell_new1 _ _ _) ?_; intro v2 w2 o2 k2)
    | fail)
  have G2 : Gb w w2 := below_grown' (gb_alloc g1 _) k2.grown (fun i e => (o1.lo i e).1)
  have d1 := decode_c o2.rd (by decide)
  have hd : dcV (enT (Int.toNat 1) [97] ++ [255]) = _ := aw_dec
  rw [hd] at d1
  clear hd c1
  refine d1.mono ?_
  rintro e w3 ⟨rfl, g3⟩
  have G3 := gb_trans G2 g3
  have p1 := putChange_c 1 5 (rdi_lit w3 [-1, 2] #[.int .i64 (-1), .int .i64 2] rfl)
  rw [aw_chg] at p1
  unfold Ch at p1
  simp only [List.length_cons, List.length_nil] at p1
  go_wp2_with fail
  refine p1.mono ?_
  rintro e w4 ⟨rfl, g4⟩
  have G4 := gb_trans G3 (gb_trans (gb_alloc (Below.refl _ _) _) g4)
  have hrd : RdW ((w4.alloc (.cells #[.int .i64 3] 3)).alloc (.cells #[.int .i64 7, .slice (some ⟨w4.heap.size, 0, none⟩) 1 1] 50)) (.slice (some ⟨w4.heap.size + 1, 0, none⟩) 1 1) [(7, [3])] := by
    have r1 := (rdi_lit w4 [3] #[.int .i64 3] rfl).gb (gb_alloc (Below.refl _ _) (.cells #[.int .i64 7, .slice (some ⟨w4.heap.size, 0, none⟩) 1 1] 50))
    refine ⟨_, _, rfl, fun i hi => ⟨w4.heap.size + 1, 0, .slice (some ⟨w4.heap.size, 0, none⟩) 1 1, rfl, ?_⟩⟩
    have h0 : i = 0 := by simp at hi; omega
    subst h0
    exact ⟨by simp [go_sem], by simp [go_sem], r1⟩
  have hwf : WfR [((7 : Int), [(3 : Int)])] := by
    refine ⟨by decide, fun i hi => ?_⟩
    have h0 : i = 0 := by simp at hi; omega
    subst h0
    exact wf_small (by decide) (by decide)
  have p2 := putRows_c hrd (by intro a n c h; cases h; exact Nat.le_refl _) hwf
  rw [aw_rows] at p2
  go_wp2_with fail
  refine p2.mono ?_
  rintro e w5 ⟨rfl, g5⟩
  have G5 := gb_trans G4 (gb_trans (gb_alloc (gb_alloc (Below.refl _ _) _) _) g5)
  go_wp2_with fail
  refine (gR _).mono ?_
  rintro e w6 ⟨rfl, g6⟩
  have G6 := gb_trans G5 g6
  have s1 := sum_c (rdb_lit w6 [49, 50, 51, 52, 53, 54, 55, 56, 57] #[.int .u8 49, .int .u8 50, .int .u8 51, .int .u8 52, .int .u8 53, .int .u8 54, .int .u8 55, .int .u8 56, .int .u8 57] rfl (9, 10)) (by decide)
  rw [aw_sum] at s1
  simp only [List.length_cons, List.length_nil] at s1
  have cs := Go.Lib.run_convert_bytes_const (P := Try.prog) w6 40 5 #[.int .u8 49, .int .u8 50, .int .u8 51, .int .u8 52, .int .u8 53, .int .u8 54, .int .u8 55, .int .u8 56, .int .u8 57] 9 9 Try.underlying40 Try.underlying5
  simp only [List.size_toArray, List.length_cons, List.length_nil] at cs
  go_wp2_with fail
  refine s1.mono ?_
  rintro e w' ⟨rfl, rfl⟩
  go_wp2
  go_ret
  exact ⟨rfl, gb_alloc G6 _⟩
end Go.Proofs.Ytmlincnmhjkjgaa
