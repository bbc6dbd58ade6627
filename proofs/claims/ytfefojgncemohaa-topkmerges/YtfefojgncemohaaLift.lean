/- What the rows' proofs share: arguments that came in, opened; the outcome. -/
import Derived.Test.YtfefojgncemohaaSame
import Derived.ProofKit
import Derived.Carry
import Derived.Deep.Slices
import Derived.Lib.SmallJoins
namespace Go.Proofs.Ytfefojgncemohaa
open Go.ChangeShapes Go.WideShapes Go.ChangeAt Go.RowKit Go.Joins Go.Deep

theorem Try.own : ownKnob Try.prog.godebug = none := by kernel_rfl
theorem Try.cells26 : Try.prog.cellsOf 26 = 3 := by kernel_rfl
theorem Try.cells24 : Try.prog.cellsOf 24 = 2 := by kernel_rfl
theorem Try.cells22 : Try.prog.cellsOf 22 = 1 := by kernel_rfl
theorem Try.cells3 : Try.prog.cellsOf 3 = 1 := by kernel_rfl
theorem Try.cells30 : Try.prog.cellsOf 30 = 1 := by kernel_rfl

theorem below_trodAll {H : Type} {enc : TypeId × Value → H} {W W' : World} (g : Gr W W') : ∀ (ts : List TypeId) (vs : List Value) (ds : List (DataW H)) (p : List MemPlace),
    (∀ t ∈ ts, Try.prog.readableRec t = true ∧ t < Try.prog.types.size) → (∀ x ∈ p, x.block < W.heap.size) → DataW.TrodAll enc Try.prog W 0 (fun _ => true) true ts vs ds p →
    DataW.TrodAll enc Try.prog W' 0 (fun b => decide (b < W.heap.size)) true ts vs ds p
  | [], vs, ds, p, _, _, h => by
    obtain ⟨rfl, rfl, rfl⟩ := trodAll_nil h
    rfl
  | t :: ts, vs, ds, p, hr, hl, h => by
    obtain ⟨v, vs1, d, ds1, a, b, rfl, rfl, rfl, h1, h2⟩ := trodAll_cons h
    exact ⟨a, b, Below.trod (by kernel_rfl) (hr t List.mem_cons_self).1 (hr t List.mem_cons_self).2 h1 g (fun x hx => hl x (List.mem_append_left _ hx)),
      below_trodAll g ts vs1 ds1 b (fun t' ht' => hr t' (List.mem_cons_of_mem _ ht')) (fun x hx => hl x (List.mem_append_right _ hx)) h2, rfl⟩

/-- The outcome of a law: true, and the arguments read as they did. -/
theorem law_post {H : Type} {enc : TypeId × Value → H} {s : ChangeSpec} {f : Func} {W W' : World} {args : Array Value} {ds gs : List (DataW H)} {before : List MemPlace}
    (hW : DataW.Whole enc Try.prog f.params.toList s.vars false W args.toList ds gs before) (hv : s.vars = []) (hr : f.resultTypes = #[4])
    (hf : s.fn H (ds ++ gs) = { results := [.lit (.bool true)], args := ds }) (hread : ∀ t ∈ f.params.toList, Try.prog.readableRec t = true ∧ t < Try.prog.types.size) (g : Gr W W') :
    s.post enc Try.prog f false true false false W args (.bool true) W' := by
  have hlt := hW.lt
  have hW2 := hW
  obtain ⟨p, q, hA, hV, rfl, _, _⟩ := hW2
  rw [hv] at hV
  obtain ⟨rfl, rfl⟩ := trodVars_none hV
  rw [List.append_nil] at hlt
  refine ⟨ds, [], p ++ [], [], p, [], hW, ?_, ?_, ?_, Below.frame g _, fun h => by cases h⟩
  · rw [hf, hr]
    exact trodAll_mk1 (shut_bool Try.underlying4 _)
  · rw [hf]
    exact below_trodAll g _ _ _ _ hread hlt hA
  · rw [hf, hv]
    exact rfl

/-- A hit's cells, read. -/
theorem trod26 {H : Type} {enc : TypeId × Value → H} {W : World} {base fuel : Nat} {sp : Nat → Bool} {hd : Bool} {cs : List Value} {x : DataW H × List MemPlace}
    (h : DataW.trod enc Try.prog W base sp hd fuel 26 cs = some x) : ∃ y : Ht, cs = [.int .i64 y.id, .int .u64 y.hi, .int .u64 y.lo] := by
  obtain ⟨y0, y1, n, _, hl, h0, h1⟩ := trod_struct2 Try.underlying26 h
  rw [Try.cells26] at hl
  match cs, hl with
  | [c0, c1, c2], _ =>
    have e0 := DataW.trod_int Try.underlying3 h0
    obtain ⟨z0, z1, m, _, hl1, k0, k1⟩ := trod_struct2 Try.underlying24 h1
    have e1 := DataW.trod_int Try.underlying22 k0
    have e2 := DataW.trod_int Try.underlying22 k1
    simp [Try.cells3, Try.cells22, Try.cells24] at e0 e1 e2
    obtain ⟨a, ⟨rfl, _⟩, _⟩ := e0
    obtain ⟨b, ⟨rfl, _⟩, _⟩ := e1
    obtain ⟨c, ⟨rfl, _⟩, _⟩ := e2
    exact ⟨⟨a, b, c⟩, rfl⟩
/-- A hit that came in. -/
theorem open_hit {H : Type} {enc : TypeId × Value → H} {W : World} {base b0 : Nat} {sp : Nat → Bool} {r : Reach} {v : Value} {d : DataW H} {p : List MemPlace}
    (hv' : Value.okWide Try.prog W r b0 26 v) (h : DataW.Trod enc Try.prog W base sp true 26 v d p) : ∃ y : Ht, v = hv y := by
  obtain ⟨cs, rfl, hsz⟩ := okWide_struct Try.underlying26 hv'
  obtain ⟨fuel, hf⟩ := h
  obtain ⟨y, hy⟩ := trod26 hf
  refine ⟨y, ?_⟩
  have : cs = (#[.int .i64 y.id, .int .u64 y.hi, .int .u64 y.lo] : Array Value) := by
    apply Array.ext'
    simpa [Value.cells] using hy
  rw [this]
theorem spot_none {w : World} {a : Addr} {v : Value} (h : w.cell? a = some v) : a = ⟨a.block, a.off, none⟩ := by
  obtain ⟨b, o, s⟩ := a
  cases s with
  | none => rfl
  | some s =>
    simp only [World.cell?] at h
    split at h <;> simp at h
/-- A list of hits, read. -/
theorem trod30 {H : Type} {enc : TypeId × Value → H} {W : World} {base fuel : Nat} {hd : Bool} {cs : List Value} {x : DataW H × List MemPlace}
    (h : DataW.trod enc Try.prog W base (fun _ => true) hd fuel 30 cs = some x) : ∃ v l, cs = [v] ∧ Rd W v l := by
  rcases open_slice Try.underlying30 h with ⟨rfl, _⟩ | ⟨a, len, cap, m, n, D, Pl, rfl, _, hlc, _, hm, _, hx⟩
  · exact ⟨_, [], rfl, .inl ⟨rfl, rfl⟩⟩
  · rw [if_pos rfl] at hm
    subst hm
    by_cases h0 : len = 0
    · subst h0
      exact ⟨_, [], rfl, .inr (.inl ⟨a, m, rfl, rfl⟩)⟩
    · have hy : ∀ i, i < len → ∃ y : Ht, W.cell? (a.add (i * 3)) = some (.int .i64 y.id) ∧ W.cell? ((a.add (i * 3)).add 1) = some (.int .u64 y.hi) ∧ W.cell? ((a.add (i * 3)).add 2) = some (.int .u64 y.lo) := by
        intro i hi
        obtain ⟨cs', hc, ht⟩ := hx i (by omega)
        obtain ⟨y, rfl⟩ := trod26 ht
        rw [Try.cells26] at hc
        obtain ⟨_, _, hcc⟩ := World.cells?_some hc
        have c0 := hcc 0 (by omega)
        have c1 := hcc 1 (by omega)
        have c2 := hcc 2 (by omega)
        exact ⟨y, by simpa [Addr.add] using c0, by simpa using c1, by simpa using c2⟩
      obtain ⟨Y, hY⟩ := choose_lt (α := Ht) (p := fun i y => W.cell? (a.add (i * 3)) = some (.int .i64 y.id) ∧ W.cell? ((a.add (i * 3)).add 1) = some (.int .u64 y.hi) ∧ W.cell? ((a.add (i * 3)).add 2) = some (.int .u64 y.lo)) hy
      have ha : a = ⟨a.block, a.off, none⟩ := spot_none (by simpa [Addr.add] using (hY 0 (by omega)).1)
      refine ⟨_, (List.range len).map Y, rfl, .inr (.inr ⟨a.block, a.off, m, by simp [← ha], fun i hi => ?_⟩)⟩
      have hi' : i < len := by simpa using hi
      have e : ((List.range len).map Y)[i]! = Y i := by rw [getElem!_pos _ i hi]; simp
      rw [e]
      have := hY i hi'
      rw [ha, Addr.add_lit, Addr.add_lit, Addr.add_lit] at this
      exact this
theorem open_hits {H : Type} {enc : TypeId × Value → H} {W : World} {b0 : Nat} {r : Reach} {v : Value} {d : DataW H} {p : List MemPlace}
    (hv' : Value.okWide Try.prog W r b0 30 v) (h : DataW.Trod enc Try.prog W 0 (fun _ => true) true 30 v d p) : ∃ l, Rd W v l := by
  obtain ⟨a0, len, cap, rfl⟩ := okWide_slice Try.underlying30 hv'
  obtain ⟨fuel, hf⟩ := h
  obtain ⟨v, l, e, hr⟩ := trod30 (by simpa [Value.cells] using hf)
  cases e
  exact ⟨l, hr⟩
end Go.Proofs.Ytfefojgncemohaa
