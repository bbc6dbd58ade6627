/- A row of hits that the program owns: where it lies, what it holds, and what may turn beside it. -/
import Derived.Test.YteaeaoekaoedoaaGreatG11
import Derived.Shelf.GgSortFunc.RowK
import Derived.Shelf.GgSortFunc.InsertionK
import Derived.Deep.AppendLies
import Derived.Deep.DrawnRows
namespace Go.Proofs.YteaeaoekaoedoaaGreat.Tk
open Go.RowKit Go.Sort

/-- The cells of some hits, one behind the other. -/
def fl (l : List Ht) : List Value := l.flatMap enc
theorem fl_len (l : List Ht) : (fl l).length = l.length * 3 := by
  induction l with
  | nil => rfl
  | cons a r ih => simp only [fl, List.flatMap_cons, List.length_append, List.length_cons] at *; rw [ih]; simp [enc]; omega
theorem fl_app (a b : List Ht) : fl (a ++ b) = fl a ++ fl b := by simp [fl]
theorem fl_one (x : Ht) : fl [x] = enc x := by simp [fl]
theorem fl_get (l : List Ht) (i c : Nat) (hi : i < l.length) (hc : c < 3) : (fl l)[i * 3 + c]? = (enc (l[i]'hi))[c]? := by
  induction l generalizing i with
  | nil => exact absurd hi (Nat.not_lt_zero _)
  | cons a r ih =>
    have e : fl (a :: r) = enc a ++ fl r := by simp [fl]
    rw [e]
    cases i with
    | zero =>
      rw [List.getElem?_append_left (by simp [enc]; omega)]
      simp
    | succ i =>
      rw [List.getElem?_append_right (by simp [enc]; omega)]
      have : (i + 1) * 3 + c - (enc a).length = i * 3 + c := by simp [enc]; omega
      rw [this, ih i (by simpa using hi)]
      simp
theorem fl_one_cell (l : List Ht) : ∀ u ∈ fl l, u.oneCell' = true := by
  intro u hu
  simp only [fl, List.mem_flatMap, enc, List.mem_cons, List.not_mem_nil, or_false] at hu
  obtain ⟨x, _, rfl | rfl | rfl⟩ := hu <;> rfl
theorem enc_len (x : Ht) : (enc x).length = 3 := rfl
theorem enc_one (x : Ht) : ∀ v ∈ enc x, v.oneCell' = true := by
  intro v hv; simp only [enc, List.mem_cons, List.not_mem_nil, or_false] at hv; rcases hv with rfl | rfl | rfl <;> rfl
theorem flatK_fl (d : Array Ht) : (flatK enc 3 d).toList = fl d.toList := by
  apply List.ext_getElem?
  intro t
  by_cases h : t < d.size * 3
  · have hi : t / 3 < d.size := by omega
    have h2 := fl_get d.toList (t / 3) (t % 3) (by simpa using hi) (Nat.mod_lt _ (by omega))
    rw [show t / 3 * 3 + t % 3 = t by omega] at h2
    rw [h2]
    have h3 := get_flatK enc 3 d t h
    rw [getElem!_pos (flatK enc 3 d) t (by simpa using h)] at h3
    rw [List.getElem?_eq_getElem (by simpa using h)]
    simp only [Array.getElem_toList]
    rw [h3, getElem!_pos d (t / 3) hi]
    have hm : t % 3 < (enc d[t / 3]).length := by rw [enc_len]; exact Nat.mod_lt _ (by omega)
    rw [getElem!_pos (enc d[t / 3]) (t % 3) hm, List.getElem?_eq_getElem hm]
  · rw [List.getElem?_eq_none (by simp; omega), List.getElem?_eq_none (by rw [fl_len]; simp; omega)]

/-- The program owns a slice v of these hits. -/
def Own (w : World) (v : Value) (d : Array Ht) : Prop := w.ownsRow 0 57 3 v d.size (fl d.toList)
theorem own_nil (w : World) : Own w (.slice none 0 0) #[] := World.ownsRow_nil w 0 57 3
theorem own_form {w : World} {v : Value} {d : Array Ht} (h : Own w v d) (hn : 0 < d.size) :
    ∃ g cap cur, v = .slice (some ⟨g, 0, none⟩) d.size cap ∧ w.heap[g]? = some (.cells cur 57 (0, 0)) ∧ d.size ≤ cap ∧ cap ≤ maxLen ∧ cur.size = cap * 3 ∧ cur.toList.take (d.size * 3) = fl d.toList := by
  rcases h.2 with ⟨_, h2⟩ | ⟨g, cap, cur, rfl, _, r⟩
  · omega
  · exact ⟨g, cap, cur, rfl, r⟩
theorem own_kept {w w' : World} {g n cap : Nat} {d : Array Ht} (h : Own w (.slice (some ⟨g, 0, none⟩) n cap) d) (hb : w'.heap[g]? = w.heap[g]?) : Own w' (.slice (some ⟨g, 0, none⟩) n cap) d := by
  refine ⟨h.1, ?_⟩
  rcases h.2 with ⟨h1, _⟩ | ⟨g', cap', cur, e, hb', hh, r⟩
  · cases h1
  · cases e
    exact .inr ⟨_, _, cur, rfl, hb', by rw [hb]; exact hh, r⟩
theorem own_gr {w w' : World} {v : Value} {d : Array Ht} (h : Own w v d) (g : Gr w w') : Own w' v d := by
  refine ⟨h.1, ?_⟩
  rcases h.2 with h1 | ⟨g', cap', cur, e, hb', hh, r⟩
  · exact .inl h1
  · exact .inr ⟨g', cap', cur, e, hb', by rw [g.block g' (Array.getElem?_eq_some_iff.1 hh).1]; exact hh, r⟩
theorem own_lt {w : World} {v : Value} {d : Array Ht} (h : Own w v d) {g : Nat} (hg : v.ownBlock = some g) : g < w.heap.size := (h.lt g hg).2
/-- One hit's cells. -/
theorem own_cell {w : World} {g n cap : Nat} {d : Array Ht} (h : Own w (.slice (some ⟨g, 0, none⟩) n cap) d) {i : Nat} (hi : i < d.size) :
    w.cell? ⟨g, i * 3, none⟩ = some (.int .i64 d[i]!.id) ∧ w.cell? ⟨g, i * 3 + 1, none⟩ = some (.int .u64 d[i]!.hi) ∧ w.cell? ⟨g, i * 3 + 2, none⟩ = some (.int .u64 d[i]!.lo) := by
  have hc := h.cells (g := g) rfl
  have e : d[i]! = d.toList[i]'(by simpa using hi) := by rw [getElem!_pos d i hi]; simp
  have hh : ∀ c, c < 3 → ∀ u, (enc d[i]!)[c]? = some u → w.cell? ⟨g, i * 3 + c, none⟩ = some u := by
    intro c hc3 u hu
    have := hc (i * 3 + c) u (by rw [fl_get _ _ _ (by simpa using hi) hc3, ← e]; exact hu)
    rw [Addr.add_lit, Nat.zero_add] at this; exact this
  exact ⟨hh 0 (by omega) _ rfl, hh 1 (by omega) _ rfl, hh 2 (by omega) _ rfl⟩
theorem own_froz {w : World} {g n cap : Nat} {d : Array Ht} (h : Own w (.slice (some ⟨g, 0, none⟩) n cap) d) (o : Nat) : w.frozen? ⟨g, o, none⟩ = false := by
  rcases h.2 with ⟨h1, _⟩ | ⟨g', cap', cur, e, _, hh, _⟩
  · cases h1
  · cases e
    simp [World.frozen?, hh]
theorem own_holds {w : World} {g n cap : Nat} {d : Array Ht} (h : Own w (.slice (some ⟨g, 0, none⟩) n cap) d) : HoldsK enc 3 w g 0 d := by
  intro t ht
  have ht' : t < d.size * 3 := by simpa using ht
  refine ⟨?_, own_froz h _⟩
  have hc := h.cells (g := g) rfl t ((flatK enc 3 d)[t]!) (by
    rw [← flatK_fl, getElem!_pos (flatK enc 3 d) t ht, List.getElem?_eq_getElem (by simpa using ht')]; simp)
  rw [Addr.add_lit] at hc; exact hc
theorem heap_putRow (w : World) (g m : Nat) (d : Array Ht) (cur : Array Value) (hh : w.heap[g]? = some (.cells cur 57 (0, 0))) :
    (putRowK enc 3 (Sort.ahead w m) g 0 d).heap[g]? = some (.cells (putCells id 0 (flatK enc 3 d) cur) 57 (0, 0)) := by
  simp [putRowK, putRow, mapBlock, Array.getElem?_modify, hh, onCells]
theorem own_put {w : World} {g n cap : Nat} {d : Array Ht} (h : Own w (.slice (some ⟨g, 0, none⟩) n cap) d) (m : Nat) (d' : Array Ht) (hs : d'.size = d.size) :
    Own (putRowK enc 3 (Sort.ahead w m) g 0 d') (.slice (some ⟨g, 0, none⟩) n cap) d' := by
  refine ⟨by rw [fl_len]; simp, ?_⟩
  rcases h.2 with ⟨h1, _⟩ | ⟨g', cap', cur, e, hb', hh, hle, hmx, hsz, htk⟩
  · cases h1
  · cases e
    refine .inr ⟨_, _, _, by rw [hs], hb', heap_putRow w g m d' cur hh, by rw [hs]; exact hle, hmx, by simp [putCells, hsz], ?_⟩
    rw [← flatK_fl]
    apply List.ext_getElem?
    intro t
    by_cases ht : t < d'.size * 3
    · have ht2 : t < cur.size := by rw [hsz]; have := Nat.mul_le_mul_right 3 hle; omega
      rw [List.getElem?_take, if_pos ht, List.getElem?_eq_getElem (by simpa [putCells] using ht2), List.getElem?_eq_getElem (by simpa using ht)]
      simp only [Array.getElem_toList, putCells, Array.getElem_mapIdx]
      rw [if_pos ⟨by omega, by simp; omega⟩]
      simp [getElem!_pos, ht]
    · rw [List.getElem?_eq_none (by simp; omega), List.getElem?_eq_none (by simp; omega)]

/-- Nothing that was there has turned but in the blocks that S tells. -/
structure Kp (S : Nat → Prop) (w w' : World) : Prop where
  os : w'.os = w.os
  tape : w'.tape = w.tape
  output : w'.output = w.output
  size : w.heap.size ≤ w'.heap.size
  block : ∀ k, k < w.heap.size → ¬ S k → w'.heap[k]? = w.heap[k]?
theorem Kp.refl (S : Nat → Prop) (w : World) : Kp S w w := ⟨rfl, rfl, rfl, Nat.le_refl _, fun _ _ _ => rfl⟩
theorem Kp.trans {S : Nat → Prop} {a b c : World} (h : Kp S a b) (k : Kp S b c) : Kp S a c :=
  ⟨k.os.trans h.os, k.tape.trans h.tape, k.output.trans h.output, Nat.le_trans h.size k.size, fun i hi hn => (k.block i (Nat.lt_of_lt_of_le hi h.size) hn).trans (h.block i hi hn)⟩
theorem Kp.mono {S T : Nat → Prop} {a b : World} (h : Kp S a b) (hst : ∀ k, k < a.heap.size → S k → T k) : Kp T a b :=
  ⟨h.os, h.tape, h.output, h.size, fun i hi hn => h.block i hi (fun hs => hn (hst i hi hs))⟩
theorem Kp.of_gr {S : Nat → Prop} {a b : World} (h : Gr a b) : Kp S a b := ⟨h.os, h.tape, h.output, h.size, fun i hi _ => h.block i hi⟩
theorem Kp.gr {S : Nat → Prop} {a b : World} (h : Kp S a b) {B : Nat} (hB : B ≤ a.heap.size) (hS : ∀ k, S k → B ≤ k) : Below B a b :=
  ⟨h.os, h.tape, h.output, h.size, fun i hi => h.block i (by omega) (fun hs => by have := hS i hs; omega)⟩
theorem Kp.grown {a b : World} {r : Option Nat} (h : a.grownBy b r) : Kp (fun k => some k = r) a b := ⟨h.os, h.tape, h.output, h.size, fun i hi hn => h.block i hi hn⟩
theorem Kp.setCell {S : Nat → Prop} {a w : World} (h : Kp S a w) {p : Addr} (hp : S p.block ∨ a.heap.size ≤ p.block) (u : Value) : Kp S a (w.setCell p u) :=
  ⟨h.os, h.tape, h.output, by simpa [World.setCell] using h.size, fun k hk hn => (Below.heap_setCell _ _ _ _ (by rintro rfl; rcases hp with hp | hp; exact hn hp; omega)).trans (h.block k hk hn)⟩
theorem Kp.put {g m : Nat} (w : World) (d : Array Ht) : Kp (fun k => k = g) w (putRowK enc 3 (Sort.ahead w m) g 0 d) := by
  refine ⟨rfl, rfl, rfl, by simp [putRowK], fun k _ hn => ?_⟩
  simp [putRowK, putRow, mapBlock, Array.getElem?_modify, Ne.symm hn]
theorem Kp.cell {S : Nat → Prop} {a b : World} (h : Kp S a b) {p : Addr} {v : Value} (hc : a.cell? p = some v) (hn : ¬ S p.block) : b.cell? p = some v :=
  (World.cell?_of_block (h.block p.block (World.block_lt_of_cell? a p hc) hn)).trans hc
theorem own_kp {S : Nat → Prop} {w w' : World} {v : Value} {d : Array Ht} (h : Own w v d) (k : Kp S w w') (hn : ∀ g, v.ownBlock = some g → ¬ S g) : Own w' v d := by
  refine ⟨h.1, ?_⟩
  rcases h.2 with h1 | ⟨g', cap', cur, rfl, hb', hh, r⟩
  · exact .inl h1
  · exact .inr ⟨g', cap', cur, rfl, hb', by rw [k.block g' (Array.getElem?_eq_some_iff.1 hh).1 (hn _ rfl)]; exact hh, r⟩
end Go.Proofs.YteaeaoekaoedoaaGreat.Tk
