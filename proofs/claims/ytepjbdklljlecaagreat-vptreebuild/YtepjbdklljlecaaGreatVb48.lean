import Derived.Test.YtepjbdklljlecaaGreatVb16
import Derived.Test.YtepjbdklljlecaaGreatVb44
import Derived.Test.YtepjbdklljlecaaGreatVb26
import Derived.Test.YtepjbdklljlecaaGreatVb28
import Derived.Test.YtepjbdklljlecaaGreatVb47
/- A script of calls, a way of building, that came in. -/
namespace Go.Proofs.YtepjbdklljlecaaGreat
open Go.ChangeShapes Go.WideShapes Go.ChangeAt Go.RowKit Go.Joins Go.Deep

theorem Tryz.cellsHow : Tryz.prog.cellsOf 25 = 3 := by kernel_rfl
set_option maxRecDepth 100000 in
/-- A way of building that came in. -/
theorem open_how {H : Type} {enc : TypeId × Value → H} {W : World} {b0 : Nat} {r : Reach} {v : Value} {d : DataW H} {p : List MemPlace}
    (hv' : Value.okWide Tryz.prog W r b0 25 v) (h : DataW.Trod enc Tryz.prog W 0 (fun _ => true) true 25 v d p) :
    ∃ A B S : Int, v = .agg #[.int .i64 A, .int .i64 B, .int .u64 S] ∧ Rn.U S := by
  obtain ⟨cs, rfl, hsz⟩ := okWide_struct Tryz.underlying25 hv'
  obtain ⟨fuel, hf⟩ := h
  obtain ⟨l⟩ := cs
  simp only [Value.cells] at hf
  obtain ⟨xs, n, _, _, hl, hlen, hf⟩ := DataW.trod_struct Tryz.underlying25 hf
  rw [Tryz.cellsHow] at hl
  match xs, hlen, l, hl with
  | [y0, y1, y2], _, [c0, c1, c2], _ =>
    obtain ⟨a0, e0, _⟩ := DataW.trod_int Tryz.underlying3 (by simpa using hf 0 _ rfl)
    obtain ⟨a1, e1, _⟩ := DataW.trod_int Tryz.underlying3 (by simpa using hf 1 _ rfl)
    obtain ⟨a2, e2, _, w2⟩ := DataW.trod_int Tryz.underlying23 (by simpa using hf 2 _ rfl)
    simp [Tryz.cells3, Tryz.cells23] at e0 e1 e2
    subst e0 e1 e2
    exact ⟨a0, a1, a2, rfl, word_of_wf w2⟩
end Go.Proofs.YtepjbdklljlecaaGreat

/- A search that is refused; a tree that is not built. -/
namespace Go.Proofs.YtepjbdklljlecaaGreat
open Go.RowKit Go.Sort

/-- What building answers. -/
def bldE (rs : List Rw) (d leaf : Int) : Int := if flatE rs d = 0 then (if 1 ≤ leaf ∧ leaf ≤ 64 then 0 else 1) else flatE rs d
theorem kbuild_no {w : World} {v : Value} {rs : List Rw} (h : RdW w v rs) (hwf : Wf rs) (d leaf B S : Int) (hz : bldE rs d leaf ≠ 0) :
    Calls Tryz.prog 12 #[v, .int .i64 d, .agg #[.int .i64 leaf, .int .i64 B, .int .u64 S]] w fun e w' => e = .returned (.tuple #[.pointer none, .int .i64 (bldE rs d leaf)]) ∧ Gb w w' := by
  have g1 : Gb w (w.alloc (.cells #[.int .i64 leaf, .int .i64 B, .int .u64 S] 25)) := gb_alloc (Below.refl _ _) _
  have cB : Calls Tryz.prog 32 #[v, .int .i64 d, .int .i64 leaf, .int .u64 S] (w.alloc (.cells #[.int .i64 leaf, .int .i64 B, .int .u64 S] 25)) fun e w' => e = .returned (.tuple #[.pointer none, .int .i64 (bldE rs d leaf)]) ∧ Gb w w' := by
    by_cases h1 : flatE rs d = 0
    · by_cases h2 : 1 ≤ leaf ∧ leaf ≤ 64
      · unfold bldE at hz; rw [if_pos h1, if_pos h2] at hz; exact absurd rfl hz
      · have e : bldE rs d leaf = 1 := by unfold bldE; rw [if_pos h1, if_neg h2]
        rw [e]
        exact (build_leaf (h.gb g1) hwf d leaf S h1 (by omega)).mono fun e w' ⟨h3, h4⟩ => ⟨h3, gb_trans g1 h4⟩
    · have e : bldE rs d leaf = flatE rs d := by unfold bldE; rw [if_neg h1]
      rw [e]
      exact (build_no (h.gb g1) hwf d leaf S h1).mono fun e w' ⟨h3, h4⟩ => ⟨h3, gb_trans g1 h4⟩
  obtain ⟨a, c, e, _⟩ := h
  subst e
  generalize rs.length = n at *
  generalize bldE rs d leaf = z at *
  clear g1 hwf
  go_enter Tryz.func12, Tryz.ntmps12
  go_wp2_with fail
  go_fit cB
  rintro e w1 ⟨rfl, hG⟩
  have HG : Hid _ := hG
  clear cB hG
  go_wp2
  refine bodyPost_ret (v := .tuple #[.pointer none, .int .i64 z]) (by simp [results, Tryz.results12, go_sem]) rfl ⟨rfl, ?_⟩
  exact HG.out
end Go.Proofs.YtepjbdklljlecaaGreat

/- A search's answer, plainly: sound, within its budget, the same in every later world. -/
namespace Go.Proofs.YtepjbdklljlecaaGreat
open Go.RowKit Go.Sort

theorem own_cur {W : World} {B n k : Nat} {t : TypeId} {v : Value} {xs : List Value} {g : Nat} {cap n' : Nat} (h : W.ownsRow B t k v n xs) (e : v = .slice (some ⟨g, 0, none⟩) n' cap) : ∃ cur, B ≤ g ∧ g < W.heap.size ∧ W.heap[g]? = some (.cells cur t (0, 0)) ∧ n * k ≤ cur.size ∧ ∀ (j : Nat) u, xs[j]? = some u → cur[j]? = some u := by
  have hc := h.cells (g := g) (by rw [e]; rfl)
  have hlt := h.lt g (by rw [e]; rfl)
  rcases h.2 with ⟨e', _⟩ | ⟨g', cap', cur, e', hB, hh, h1, h2, h3, _⟩
  · rw [e] at e'; cases e'
  · rw [e] at e'
    cases e'
    refine ⟨cur, hlt.1, hlt.2, hh, by rw [h3]; exact Nat.mul_le_mul_right k h1, fun j u hj => ?_⟩
    have := hc j u hj
    rw [Addr.add_lit, Nat.zero_add] at this
    simpa [World.cell?, hh] using this
end Go.Proofs.YtepjbdklljlecaaGreat
