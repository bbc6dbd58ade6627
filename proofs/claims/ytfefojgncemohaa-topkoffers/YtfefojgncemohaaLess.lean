/- TopkLess and TopkNil: the walks. -/
import Derived.Test.YtfefojgncemohaaAwake
namespace Go.Proofs.Ytfefojgncemohaa
open Go.RowKit Go.Sort
attribute [local go_sem ↓] Go.wp_at_zero Go.wp_at_succ

abbrev hc (x : Ht) : Obj := .cells #[.int .i64 x.id, .int .u64 x.hi, .int .u64 x.lo] 26
/-- A variable that holds a hit. -/
def At (w : World) (b : Nat) (x : Ht) : Prop := w.cell? ⟨b, 0, none⟩ = some (.int .i64 x.id) ∧ w.cell? ⟨b, 1, none⟩ = some (.int .u64 x.hi) ∧ w.cell? ⟨b, 2, none⟩ = some (.int .u64 x.lo)
theorem At.gr {w w' : World} {b : Nat} {x : Ht} (h : At w b x) (g : Gr w w') : At w' b x := ⟨gr_keeps g h.1, gr_keeps g h.2.1, gr_keeps g h.2.2⟩
theorem at_new (w : World) (x : Ht) : At (w.alloc (hc x)) w.heap.size x := ⟨by simp [go_sem], by simp [go_sem], by simp [go_sem]⟩
theorem less_v (x y : Ht) (v : Bool) (h : hlt x y = v) (W : World) : Calls Try.prog 8 #[hv x, hv y] W fun e w' => e = .returned (.bool v) ∧ Gr W w' := by
  subst h; exact (less_c x y W).mono fun _ _ ⟨h1, h2⟩ => ⟨h1, h2.gr⟩
theorem rless_v (x y : Ht) (v : Bool) (h : hlt x y = v) (W : World) : Calls Try.prog 9 #[hv x, hv y] W fun e w' => e = .returned (.bool v) ∧ Gr W w' := by
  subst h; exact (rless_c x y W).mono fun _ _ ⟨h1, h2⟩ => ⟨h1, h2.gr⟩

set_option maxHeartbeats 4000000 in
set_option maxRecDepth 100000 in
theorem less_walk (a b c : Ht) (p q r s : Bool) (hp : hlt a b = p) (hq : hlt b a = q) (hr : hlt b c = r) (hs : hlt a c = s)
    (h1 : p = true → q = false) (h2 : p = true → r = true → s = true) (h3 : p = false → q = false → a = b) (w : World) :
    Calls Try.prog 3 #[hv a, hv b, hv c] w fun e w' => e = .returned (.bool true) ∧ Gr w w' := by
  have c1 := fun W => less_v a b p hp W
  have c2 := fun W => less_v b a q hq W
  have c3 := fun W => less_v b c r hr W
  have c4 := fun W => less_v a c s hs W
  have c5 := fun W => rless_v a b p hp W
  have c6 := fun W => less_v a a false (hlt_irrefl a) W
  have he := fun W => hv_eq a b W
  have HE : Hid (p = false → q = false → a = b) := h3
  have A0 := ((at_new w a).gr (w' := ((w.alloc (hc a)).alloc (hc b))) (by go_grown)).gr (w' := ((w.alloc (hc a)).alloc (hc b)).alloc (hc c)) (by go_grown)
  have B0 := (at_new (w.alloc (hc a)) b).gr (w' := ((w.alloc (hc a)).alloc (hc b)).alloc (hc c)) (by go_grown)
  have C0 := at_new ((w.alloc (hc a)).alloc (hc b)) c
  simp only [World.size_alloc] at B0 C0
  have AA : Hid (At (((w.alloc (hc a)).alloc (hc b)).alloc (hc c)) w.heap.size a ∧ At (((w.alloc (hc a)).alloc (hc b)).alloc (hc c)) (w.heap.size + 1) b ∧ At (((w.alloc (hc a)).alloc (hc b)).alloc (hc c)) (w.heap.size + 1 + 1) c) := ⟨A0, B0, C0⟩
  have G0 : Gr w (((w.alloc (hc a)).alloc (hc b)).alloc (hc c)) := by go_grown
  clear A0 B0 C0 hp hq hr hs h3
  go_enter Try.func3, Try.ntmps3
  go_wp2_with fail
  refine (c1 _).mono ?_
  rintro e w1 ⟨rfl, g1⟩
  have G1 := g1
  obtain ⟨x0, x1, x2⟩ := AA.out.1.gr G1
  obtain ⟨y0, y1, y2⟩ := AA.out.2.1.gr G1
  go_wp2_with fail
  refine (c2 _).mono ?_
  rintro e w2 ⟨rfl, g2⟩
  have G2 := gr_trans G1 g2
  clear x0 x1 x2 y0 y1 y2
  obtain ⟨y0, y1, y2⟩ := AA.out.2.1.gr G2
  obtain ⟨z0, z1, z2⟩ := AA.out.2.2.gr G2
  go_wp2_with fail
  refine (c3 _).mono ?_
  rintro e w3 ⟨rfl, g3⟩
  have G3 := gr_trans G2 g3
  clear y0 y1 y2 z0 z1 z2
  obtain ⟨x0, x1, x2⟩ := AA.out.1.gr G3
  obtain ⟨z0, z1, z2⟩ := AA.out.2.2.gr G3
  go_wp2_with fail
  refine (c4 _).mono ?_
  rintro e w4 ⟨rfl, g4⟩
  have G4 := gr_trans G3 g4
  clear x0 x1 x2 z0 z1 z2
  obtain ⟨x0, x1, x2⟩ := AA.out.1.gr G4
  obtain ⟨y0, y1, y2⟩ := AA.out.2.1.gr G4
  go_wp2_with fail
  refine (c5 _).mono ?_
  rintro e w5 ⟨rfl, g5⟩
  have G5 := gr_trans G4 g5
  clear x0 x1 x2 y0 y1 y2
  obtain ⟨x0, x1, x2⟩ := AA.out.1.gr G5
  clear g1 g2 g3 g4 g5 G1 G2 G3 G4 c1 c2 c3 c4 c5
  cases p with
  | true =>
    have hq : q = false := by simpa using h1
    subst hq
    go_wp2_with fail
    refine (c6 _).mono ?_
    rintro e w6 ⟨rfl, g6⟩
    have G6 := gr_trans G0 (gr_trans G5 g6)
    clear x0 x1 x2 g6 G5
    cases r with
    | true =>
      have hs : s = true := by simpa using h2
      subst hs
      go_wp2_with fail
      refine (awake_any _).mono ?_
      rintro e w7 ⟨rfl, g7⟩
      go_wp2
      go_ret
      exact ⟨rfl, gr_trans G6 g7⟩
    | false =>
      go_wp2_with fail
      refine (awake_any _).mono ?_
      rintro e w7 ⟨rfl, g7⟩
      go_wp2
      go_ret
      exact ⟨rfl, gr_trans G6 g7⟩
  | false =>
    go_wp2_with fail
    refine (c6 _).mono ?_
    rintro e w6 ⟨rfl, g6⟩
    have G6 := gr_trans G5 g6
    clear x0 x1 x2 g6 G5
    cases q with
    | true =>
      go_wp2_with fail
      refine (awake_any _).mono ?_
      rintro e w7 ⟨rfl, g7⟩
      go_wp2
      go_ret
      exact ⟨rfl, gr_trans G0 (gr_trans G6 g7)⟩
    | false =>
      go_wp2_with fail
      refine (awake_any _).mono ?_
      rintro e w7 ⟨rfl, g7⟩
      obtain ⟨x0, x1, x2⟩ := AA.out.1.gr (gr_trans G6 g7)
      obtain ⟨y0, y1, y2⟩ := AA.out.2.1.gr (gr_trans G6 g7)
      have hE : a = b := by simpa using HE.out
      rw [decide_eq_true hE] at he
      go_wp2
      go_ret
      exact ⟨rfl, gr_trans G0 (gr_trans G6 g7)⟩
theorem topkLess_any (a b c : Ht) (w : World) : Calls Try.prog 3 #[hv a, hv b, hv c] w fun e w' => e = .returned (.bool true) ∧ Gr w w' :=
  less_walk a b c _ _ _ _ rfl rfl rfl rfl (fun h => hlt_asymm h) (fun h1 h2 => hlt_trans h1 h2) (fun h1 h2 => hlt_tot h1 h2) w

set_option maxHeartbeats 4000000 in
set_option maxRecDepth 100000 in
theorem topkNil_any (x : Ht) (w : World) : Calls Try.prog 7 #[hv x] w fun e w' => e = .returned (.bool true) ∧ Gr w w' := by
  have A0 := at_new w x
  have AA : Hid (At (w.alloc (hc x)) w.heap.size x) := A0
  have G0 : Gr w (w.alloc (hc x)) := by go_grown
  have he := fun W => hv_eq ⟨0, 0, 0⟩ ⟨0, 0, 0⟩ W
  rw [decide_eq_true rfl] at he
  clear A0
  go_enter Try.func7, Try.ntmps7
  go_wp2_with fail
  refine (worst15_none (.pointer none) _ (fun W _ => len17_nil W)).mono ?_
  rintro e w1 ⟨rfl, g1⟩
  have B0 := at_new w1 ⟨0, 0, 0⟩
  have G1 : Gr (w.alloc (hc x)) (w1.alloc (hc ⟨0, 0, 0⟩)) := gr_alloc g1 _
  have BB : Hid (At (w1.alloc (hc ⟨0, 0, 0⟩)) w1.heap.size ⟨0, 0, 0⟩) := B0
  clear B0 g1
  go_wp2_with fail
  refine (awake_any _).mono ?_
  rintro e w2 ⟨rfl, g2⟩
  have G2 := gr_trans G1 g2
  obtain ⟨x0, x1, x2⟩ := AA.out.gr G2
  go_wp2_with fail
  refine (offer_nil x _).mono ?_
  rintro e w3 ⟨rfl, g3⟩
  go_wp2_with fail
  refine (len17_nil _).mono ?_
  rintro e w4 ⟨rfl, e4⟩
  subst e4
  clear x0 x1 x2
  go_wp2_with fail
  refine (full18_nil _).mono ?_
  rintro e w5 ⟨rfl, g5⟩
  have G5 := gr_trans (gr_trans g2 g3) g5
  obtain ⟨x0, x1, x2⟩ := BB.out.gr G5
  go_wp2_with fail
  refine (list16_nil _).mono ?_
  rintro e w6 ⟨rfl, e4⟩
  subst e4
  go_wp2
  go_ret
  exact ⟨rfl, gr_trans G0 (gr_trans G1 G5)⟩
end Go.Proofs.Ytfefojgncemohaa
