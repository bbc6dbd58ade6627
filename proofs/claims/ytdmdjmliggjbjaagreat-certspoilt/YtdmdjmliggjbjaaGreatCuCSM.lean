/- A sound answer that is spoilt in one place is sound no more, plainly. -/
import Derived.Test.YtdmdjmliggjbjaaGreatCtCRS
namespace Go.Proofs.YtdmdjmliggjbjaaGreat
open Go.RowKit Go.Sort

theorem snd_det {rs : List Rw} {q : List Int} {k : Nat} {a b : Ans} (hask : askE rs q = 0) (h : SoundQ rs q k a) (h' : SoundQ rs q k b) (e : b.seen = a.seen) : b.hits = a.hits := by
  obtain ⟨s, h⟩ := h
  obtain ⟨s', h'⟩ := h'
  rw [h.hits, h'.hits, srs_eq hask h, srs_eq hask h', e]
theorem snd_len {rs : List Rw} {q : List Int} {k : Nat} {a : Ans} (h : SoundQ rs q k a) : (allIds a).length = rs.length := by
  obtain ⟨s, h⟩ := h
  rw [h.all.length_eq]; simp [idsOf]
/-- A seen id is left out. -/
def spo0 (a : Ans) (i : Nat) : Ans := ⟨a.hits, a.seen.take i ++ a.seen.drop (i + 1), a.rest⟩
/-- A hit is another. -/
def spo1 (a : Ans) (i : Nat) (x : Tk.Ht) : Ans := ⟨a.hits.set i x, a.seen, a.rest⟩
/-- A hit is told twice. -/
def spo2 (a : Ans) (x : Tk.Ht) : Ans := ⟨a.hits ++ [x], a.seen, a.rest⟩
/-- An id stands twice. -/
def spo3 (a : Ans) (x : Int) : Ans := ⟨a.hits, a.seen, a.rest ++ [⟨1, [], [], 0, [x]⟩]⟩
theorem spo0_len {a : Ans} {i : Nat} (hi' : i < a.seen.length) : (allIds (spo0 a i)).length + 1 = (allIds a).length := by
  unfold allIds spo0
  simp only [List.length_append, List.length_take, List.length_drop]
  omega
theorem spo3_len (a : Ans) (x : Int) : (allIds (spo3 a x)).length = (allIds a).length + 1 := by
  unfold allIds spo3
  simp only [List.flatMap_append, List.length_append, List.flatMap_cons, List.flatMap_nil, List.append_nil, List.length_singleton]
  omega
theorem spo0_no {rs : List Rw} {q : List Int} {k : Nat} {a : Ans} {i : Nat} (h : SoundQ rs q k a) (hi' : i < a.seen.length) : ¬ SoundQ rs q k (spo0 a i) := fun h' => by
  have := snd_len h
  have := snd_len h'
  have := spo0_len hi'
  omega
theorem spo3_no {rs : List Rw} {q : List Int} {k : Nat} {a : Ans} {x : Int} (h : SoundQ rs q k a) : ¬ SoundQ rs q k (spo3 a x) := fun h' => by
  have := snd_len h
  have := snd_len h'
  have := spo3_len a x
  omega
theorem spo1_no {rs : List Rw} {q : List Int} {k : Nat} {a : Ans} {i : Nat} {x : Tk.Ht} (hask : askE rs q = 0) (h : SoundQ rs q k a) (hi' : i < a.hits.length) (hx : x ≠ a.hits[i]!) : ¬ SoundQ rs q k (spo1 a i x) := fun h' => by
  have e := snd_det hask h h' rfl
  have e2 : (a.hits.set i x)[i]! = a.hits[i]! := by
    have : a.hits.set i x = a.hits := e
    rw [this]
  rw [getElem!_pos (a.hits.set i x) i (by rw [List.length_set]; exact hi'), List.getElem_set_self] at e2
  exact hx e2
theorem spo2_no {rs : List Rw} {q : List Int} {k : Nat} {a : Ans} {x : Tk.Ht} (hask : askE rs q = 0) (h : SoundQ rs q k a) : ¬ SoundQ rs q k (spo2 a x) := fun h' => by
  have e : a.hits ++ [x] = a.hits := snd_det hask h h' rfl
  have := congrArg List.length e
  rw [List.length_append, List.length_singleton] at this
  omega
end Go.Proofs.YtdmdjmliggjbjaaGreat
