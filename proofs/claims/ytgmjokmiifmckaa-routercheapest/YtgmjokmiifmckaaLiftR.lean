/- What the rows' proofs share: arguments that came in, opened; the outcome. -/
import Derived.Test.YtgmjokmiifmckaaInts
import Derived.ProofKit
import Derived.Carry
import Derived.Deep.Slices
import Derived.Lib.SmallJoins
namespace Go.Proofs.Ytgmjokmiifmckaa
open Go.ChangeShapes Go.WideShapes Go.ChangeAt Go.RowKit Go.Joins Go.Deep

theorem Try.own : ownKnob Try.prog.godebug = none := by kernel_rfl
theorem Try.cells3 : Try.prog.cellsOf 3 = 1 := by kernel_rfl
theorem Try.cells34 : Try.prog.cellsOf 34 = 1 := by kernel_rfl

theorem below_trodAll {H : Type} {enc : TypeId × Value → H} {W W' : World} (g : Gb W W') : ∀ (ts : List TypeId) (vs : List Value) (ds : List (DataW H)) (p : List MemPlace),
    (∀ t ∈ ts, Try.prog.readableRec t = true ∧ t < Try.prog.types.size) → (∀ x ∈ p, x.block < W.heap.size) → DataW.TrodAll enc Try.prog W 0 (fun _ => true) true ts vs ds p →
    DataW.TrodAll enc Try.prog W' 0 (fun b => decide (b < W.heap.size)) true ts vs ds p
  | [], vs, ds, p, _, _, h => by
    obtain ⟨rfl, rfl, rfl⟩ := trodAll_nil h
    rfl
  | t :: ts, vs, ds, p, hr, hl, h => by
    obtain ⟨v, vs1, d, ds1, a, b, rfl, rfl, rfl, h1, h2⟩ := trodAll_cons h
    exact ⟨a, b, Below.trod (by kernel_rfl) (hr t List.mem_cons_self).1 (hr t List.mem_cons_self).2 h1 g (fun x hx => hl x (List.mem_append_left _ hx)),
      below_trodAll g ts vs1 ds1 b (fun t' ht' => hr t' (List.mem_cons_of_mem _ ht')) (fun x hx => hl x (List.mem_append_right _ hx)) h2, rfl⟩

/-- The outcome of a law: true, and the arguments read as they did. -/
theorem law_post {H : Type} {enc : TypeId × Value → H} {s : ChangeSpec} {f : Func} {W W' : World} {args : Array Value} {ds gs : List (DataW H)} {before : List MemPlace}
    (hW : DataW.Whole enc Try.prog f.params.toList s.vars false W args.toList ds gs before) (hv : s.vars = []) (hr : f.resultTypes = #[4])
    (hf : s.fn H (ds ++ gs) = { results := [.lit (.bool true)], args := ds }) (hread : ∀ t ∈ f.params.toList, Try.prog.readableRec t = true ∧ t < Try.prog.types.size) (g : Gb W W') :
    s.post enc Try.prog f false true false false W args (.bool true) W' := by
  have hlt := hW.lt
  have hW2 := hW
  obtain ⟨p, q, hA, hV, rfl, _, _⟩ := hW2
  rw [hv] at hV
  obtain ⟨rfl, rfl⟩ := trodVars_none hV
  rw [List.append_nil] at hlt
  refine ⟨ds, [], p ++ [], [], p, [], hW, ?_, ?_, ?_, Below.frame g _, fun h => by cases h⟩
  · rw [hf, hr]
    exact trodAll_mk1 (shut_bool Try.underlying4 _)
  · rw [hf]
    exact below_trodAll g _ _ _ _ hread hlt hA
  · rw [hf, hv]
    exact rfl
theorem spot_none {w : World} {a : Addr} {v : Value} (h : w.cell? a = some v) : a = ⟨a.block, a.off, none⟩ := by
  obtain ⟨b, o, s⟩ := a
  cases s with
  | none => rfl
  | some s =>
    simp only [World.cell?] at h
    split at h <;> simp at h
theorem word_of_wf {a : Int} (h : (Lit.int .u64 a).wf = true) : 0 ≤ a ∧ a < 18446744073709551616 := by
  simp [Lit.wf, IntKind.min, IntKind.max, IntKind.signed, IntKind.bits] at h
  exact ⟨by omega, by omega⟩
/-- A list of numbers, read. -/
theorem trod22 {H : Type} {enc : TypeId × Value → H} {W : World} {base fuel : Nat} {hd : Bool} {cs : List Value} {x : DataW H × List MemPlace}
    (h : DataW.trod enc Try.prog W base (fun _ => true) hd fuel 34 cs = some x) : ∃ v l, cs = [v] ∧ RdI W v l ∧ l.length ≤ maxLen := by
  rcases open_slice1 Try.underlying34 Try.cells3 h with ⟨rfl, _⟩ | ⟨a, len, cap, m, n, V, D, Pl, rfl, _, hlc, hcm, hm, _, hx⟩
  · exact ⟨_, [], rfl, rdi_nil _, Nat.zero_le _⟩
  · rw [if_pos rfl] at hm
    subst hm
    have hy : ∀ i, i < len → ∃ y : Int, W.cell? (a.add i) = some (.int .i64 y) := by
      intro i hi
      obtain ⟨hc, ht⟩ := hx i (by omega)
      obtain ⟨y, e, _⟩ := DataW.trod_int Try.underlying3 ht
      simp at e
      exact ⟨y, by rw [hc, e]⟩
    obtain ⟨Y, hY⟩ := choose_lt (α := Int) (p := fun i y => W.cell? (a.add i) = some (.int .i64 y)) hy
    refine ⟨_, (List.range len).map Y, rfl, ⟨some a, m, by simp, fun i hi => ?_⟩, by simp; omega⟩
    have hi' : i < len := by simpa using hi
    have ha : a = ⟨a.block, a.off, none⟩ := spot_none (by simpa [Addr.add] using hY 0 (by omega))
    refine ⟨a.block, a.off, by rw [← ha], ?_⟩
    have e : ((List.range len).map Y)[i]! = Y i := by rw [getElem!_pos _ i hi]; simp
    rw [e]
    have := hY i hi'
    rwa [ha, Addr.add_lit] at this
set_option maxRecDepth 100000 in
theorem open_ints {H : Type} {enc : TypeId × Value → H} {W : World} {b0 : Nat} {r : Reach} {v : Value} {d : DataW H} {p : List MemPlace}
    (hv' : Value.okWide Try.prog W r b0 34 v) (h : DataW.Trod enc Try.prog W 0 (fun _ => true) true 34 v d p) : ∃ l, RdI W v l ∧ l.length ≤ maxLen := by
  obtain ⟨a0, len, cap, rfl⟩ := okWide_slice Try.underlying34 hv'
  obtain ⟨fuel, hf⟩ := h
  obtain ⟨v, l, e, hr⟩ := trod22 (by simpa [Value.cells] using hf)
  cases e
  exact ⟨l, hr⟩
end Go.Proofs.Ytgmjokmiifmckaa
