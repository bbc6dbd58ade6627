/- Answers as they are read; what a sound answer is. -/
import Derived.Test.YtepjbdklljlecaaGreatVnFRegn
import Derived.Test.YtepjbdklljlecaaGreatVnFRefH
namespace Go.Proofs.YtepjbdklljlecaaGreat
open Go.RowKit Go.Sort

/-- An answer, plainly. -/
structure Ans where
  hits : List Tk.Ht
  seen : List Int
  rest : List Reg
/-- A slice that reads as these regions. -/
def RdL (w : World) (v : Value) (l : List Reg) : Prop := ∃ a cap, v = .slice a l.length cap ∧ ∀ i (hi' : i < l.length), ∃ b o vl vh vi, a = some ⟨b, o, none⟩ ∧
  w.cell? ⟨b, o + i * 6, none⟩ = some (.int .i64 l[i].S) ∧ w.cell? ⟨b, o + i * 6 + 1, none⟩ = some vl ∧ w.cell? ⟨b, o + i * 6 + 2, none⟩ = some vh ∧ w.cell? ⟨b, o + i * 6 + 3, none⟩ = some (.int .u64 (hi l[i].R)) ∧
  w.cell? ⟨b, o + i * 6 + 4, none⟩ = some (.int .u64 (lo l[i].R)) ∧ w.cell? ⟨b, o + i * 6 + 5, none⟩ = some vi ∧ RdI w vl l[i].L ∧ RdI w vh l[i].H ∧ RdI w vi l[i].I
theorem RdL.gb {w w' : World} {v : Value} {l : List Reg} (h : RdL w v l) (g : Gb w w') : RdL w' v l := by
  obtain ⟨a, cap, e, h⟩ := h
  refine ⟨a, cap, e, fun i hi' => ?_⟩
  obtain ⟨b, o, vl, vh, vi, e0, c0, c1, c2, c3, c4, c5, r1, r2, r3⟩ := h i hi'
  exact ⟨b, o, vl, vh, vi, e0, gb_keeps g c0, gb_keeps g c1, gb_keeps g c2, gb_keeps g c3, gb_keeps g c4, gb_keeps g c5, r1.gb g, r2.gb g, r3.gb g⟩
theorem rdl_nil (w : World) : RdL w (.slice none 0 0) [] := ⟨none, 0, rfl, fun _ hi' => absurd hi' (Nat.not_lt_zero _)⟩
/-- The parts of an answer's value read as this answer. -/
structure RdA (w : World) (vh vs vr : Value) (a : Ans) : Prop where
  hits : Tk.Rd w vh a.hits
  seen : RdI w vs a.seen
  rest : RdL w vr a.rest
theorem RdA.gb {w w' : World} {vh vs vr : Value} {a : Ans} (h : RdA w vh vs vr a) (g : Gb w w') : RdA w' vh vs vr a := ⟨h.hits.gr g, h.seen.gb g, h.rest.gb g⟩
end Go.Proofs.YtepjbdklljlecaaGreat
