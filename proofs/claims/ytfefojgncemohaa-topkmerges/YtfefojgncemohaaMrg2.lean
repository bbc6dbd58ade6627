/- TopkMerges: what the second loop keeps. -/
import Derived.Test.YtfefojgncemohaaMrg
namespace Go.Proofs.Ytfefojgncemohaa
open Go.RowKit Go.Sort

theorem Kp.toGrown {g : Nat} {W W' : World} (k : Kp (fun b => some b = some g) W W') : W.grownBy W' (some g) :=
  ⟨k.os, k.tape, k.output, k.size, fun i hi hn => k.block i hi hn⟩
theorem Ow.spoil {w W W' : World} {ls : List (List Ht)} {q n : Nat} {gs : Nat → Nat} {vo va : Value} (h : Ow w W ls q n gs vo va) (hq : q < n) (k : Kp (fun b => some b = some (gs q)) W W') : Ow w W' ls (q + 1) n gs vo va := by
  have g := Kp.toGrown k
  refine ⟨h.row.kept g ?_, h.all.kept g ?_, fun i h1 h2 => ?_, fun i hi => ?_, h.inj, h.na, h.no, h.ne, ?_⟩
  · cases hv : vo.ownBlock with
    | none => exact .inl rfl
    | some x => exact .inr (by rw [← hv]; exact h.no q hq)
  · cases hv : va.ownBlock with
    | none => exact .inl rfl
    | some x => exact .inr (by rw [← hv]; exact h.na q hq)
  · exact (h.lh i (by omega) h2).block (g.block _ (h.ge i h2).2 (by have := h.inj q i (by omega) h2; simp; omega))
  · exact ⟨(h.ge i hi).1, Nat.lt_of_lt_of_le (h.ge i hi).2 k.size⟩
  · exact h.gb.grown g h.gb.size (fun j e => by cases e; exact (h.ge q hq).1)
/-- What Merge told, while the lists are spoilt. -/
def Gt (W : World) (n : Nat) (gs : Nat → Nat) (v : Value) (d : Array Ht) : Prop := Own W v d ∧ ∀ i, i < n → v.ownBlock ≠ some (gs i)
theorem Gt.gr {W W' : World} {n : Nat} {gs : Nat → Nat} {v : Value} {d : Array Ht} (h : Gt W n gs v d) (g : Gr W W') : Gt W' n gs v d :=
  ⟨row_kept h.1 ⟨g.os, g.tape, g.output, g.size, fun k hk _ => g.block k hk⟩, h.2⟩
theorem Gt.spoil {W W' : World} {n q : Nat} {gs : Nat → Nat} {v : Value} {d : Array Ht} (h : Gt W n gs v d) (hq : q < n) (k : Kp (fun b => some b = some (gs q)) W W') : Gt W' n gs v d := by
  refine ⟨World.ownsRow.kept h.1 (Kp.toGrown k) ?_, h.2⟩
  cases hv : v.ownBlock with
  | none => exact .inl rfl
  | some x => exact .inr (by rw [← hv]; exact h.2 q hq)
theorem gt_nil (W : World) (n : Nat) (gs : Nat → Nat) : Gt W n gs (.slice none 0 0) #[] := ⟨own_nil W, fun i _ h => by cases h⟩
theorem gt_out {w W W' : World} {ls : List (List Ht)} {p n : Nat} {gs : Nat → Nat} {vo va v : Value} {l : List Ht} (h : Ow w W ls p n gs vo va) (o : Out W W' v l) : Gt W' n gs v l.toArray :=
  ⟨o.1, fun i hi e => by have := o.2.2 _ e; have := (h.ge i hi).2; omega⟩
theorem Ow.form {w W : World} {ls : List (List Ht)} {p n : Nat} {gs : Nat → Nat} {vo va : Value} (h : Ow w W ls p n gs vo va) : ∃ a c, vo = .slice a n c ∧ ∀ i, i < n → ∃ g, a = some ⟨g, 0, none⟩ ∧ W.cell? ⟨g, i, none⟩ = some (lvv (gs i) ls[i]!) := by
  obtain ⟨_, hr⟩ := h.row
  rcases hr with ⟨e, h0⟩ | ⟨g, cap, cur, e, r⟩
  · exact ⟨none, 0, by rw [e, h0], fun i hi => by omega⟩
  · refine ⟨_, cap, e, fun i hi => ⟨g, rfl, ?_⟩⟩
    subst e
    have := h.row.cells (g := g) rfl i (lvv (gs i) ls[i]!) (by simp [hi])
    rw [Addr.add_lit, Nat.zero_add] at this
    exact this
theorem Ow.cellR {w W : World} {ls : List (List Ht)} {p n g c : Nat} {gs : Nat → Nat} {va : Value} (h : Ow w W ls p n gs (.slice (some ⟨g, 0, none⟩) n c) va) {i : Nat} (hi : i < n) : W.cell? ⟨g, i, none⟩ = some (lvv (gs i) ls[i]!) := by
  have := h.row.cells (g := g) rfl i (lvv (gs i) ls[i]!) (by simp [hi])
  rw [Addr.add_lit, Nat.zero_add] at this
  exact this
theorem Ow.ownAll {w W : World} {ls : List (List Ht)} {p : Nat} {gs : Nat → Nat} {vo va : Value} (h : Ow w W ls p ls.length gs vo va) : Own W va ls.flatten.toArray := by
  have := h.all
  rw [List.take_length] at this
  obtain ⟨h1, h2⟩ := this
  refine ⟨by simpa [tot] using h1, ?_⟩
  rcases h2 with ⟨e, h0⟩ | ⟨g, cap, cur, e, hb, r⟩
  · exact .inl ⟨e, by simpa [tot] using h0⟩
  · exact .inr ⟨g, cap, cur, by simpa [tot] using e, Nat.zero_le _, by simpa [tot] using r⟩
theorem five_keeps {W w' : World} {p0 p1 p2 p3 p4 : Addr} {v0 v1 v2 v3 v4 : Value} (g : Gr W w') (h : W.cell? p0 = some v0 ∧ W.cell? p1 = some v1 ∧ W.cell? p2 = some v2 ∧ W.cell? p3 = some v3 ∧ W.cell? p4 = some v4) :
    w'.cell? p0 = some v0 ∧ w'.cell? p1 = some v1 ∧ w'.cell? p2 = some v2 ∧ w'.cell? p3 = some v3 ∧ w'.cell? p4 = some v4 :=
  ⟨gr_keeps g h.1, gr_keeps g h.2.1, gr_keeps g h.2.2.1, gr_keeps g h.2.2.2.1, gr_keeps g h.2.2.2.2⟩

end Go.Proofs.Ytfefojgncemohaa
