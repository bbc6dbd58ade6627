/- Proved: the law RandRuns answers true for every seed and every script of calls, and leaves them as they were; the card's one condition is that math/bits' table reads, when the call begins, as the program's own text lays it. -/
import Derived.Test.YtjediopfnjkihaaDoorTabs
import Derived.Test.YtjediopfnjkihaaDoorRuns
import Derived.Deep.Slices
namespace Go.Proofs.YtjediopfnjkihaaDoor
open Go.ChangeShapes Go.WideShapes Go.ChangeAt Go.RowKit Go.Joins Go.Deep

theorem Tryd.cells32 : Tryd.prog.cellsOf 32 = 2 := by kernel_rfl
theorem Tryd.cells3 : Tryd.prog.cellsOf 3 = 1 := by kernel_rfl
theorem trod32 {H : Type} {enc : TypeId × Value → H} {W : World} {base fuel : Nat} {sp : Nat → Bool} {hd : Bool} {cs : List Value} {x : DataW H × List MemPlace}
    (h : DataW.trod enc Tryd.prog W base sp hd fuel 32 cs = some x) : ∃ k n : Int, cs = [.int .i64 k, .int .i64 n] := by
  obtain ⟨y0, y1, n, _, hl, h0, h1⟩ := trod_struct2 Tryd.underlying32 h
  rw [Tryd.cells32] at hl
  match cs, hl with
  | [c0, c1], _ =>
    have e0 := DataW.trod_int Tryd.underlying3 h0
    have e1 := DataW.trod_int Tryd.underlying3 h1
    simp [Tryd.cells3] at e0 e1
    obtain ⟨a, ⟨rfl, _⟩, _⟩ := e0
    obtain ⟨b, ⟨rfl, _⟩, _⟩ := e1
    exact ⟨a, b, rfl⟩
theorem spot_none {w : World} {a : Addr} {v : Value} (h : w.cell? a = some v) : a = ⟨a.block, a.off, none⟩ := by
  obtain ⟨b, o, s⟩ := a
  cases s with
  | none => rfl
  | some s =>
    simp only [World.cell?] at h
    split at h <;> simp at h
theorem open_ops {H : Type} {enc : TypeId × Value → H} {W : World} {b0 : Nat} {r : Reach} {v : Value} {d : DataW H} {p : List MemPlace}
    (hv' : Value.okWide Tryd.prog W r b0 23 v) (h : DataW.Trod enc Tryd.prog W 0 (fun _ => true) true 23 v d p) : ∃ a n cap K N, v = .slice a n cap ∧ OpAt W a n K N := by
  obtain ⟨a0, len, cap, rfl⟩ := okWide_slice Tryd.underlying23 hv'
  obtain ⟨fuel, hf⟩ := h
  refine ⟨a0, len, cap, ?_⟩
  rcases open_slice Tryd.underlying23 (by simpa [Value.cells] using hf) with ⟨e, _⟩ | ⟨a, len', cap', m, n, D, Pl, e, _, hlc, _, hm, _, hx⟩
  · cases e
    exact ⟨fun _ => 0, fun _ => 0, rfl, fun i hi => by omega⟩
  · cases e
    rw [if_pos rfl] at hm
    subst hm
    by_cases h0 : len = 0
    · subst h0
      exact ⟨fun _ => 0, fun _ => 0, rfl, fun i hi => by omega⟩
    · have hy : ∀ i, i < len → ∃ y : Int × Int, W.cell? (a.add (i * 2)) = some (.int .i64 y.1) ∧ W.cell? ((a.add (i * 2)).add 1) = some (.int .i64 y.2) := by
        intro i hi
        obtain ⟨cs', hc, ht⟩ := hx i (by omega)
        obtain ⟨k, n, rfl⟩ := trod32 ht
        rw [Tryd.cells32] at hc
        obtain ⟨_, _, hcc⟩ := World.cells?_some hc
        have c0 := hcc 0 (by omega)
        have c1 := hcc 1 (by omega)
        exact ⟨(k, n), by simpa [Addr.add] using c0, by simpa using c1⟩
      obtain ⟨Y, hY⟩ := choose_lt (α := Int × Int) (p := fun i y => W.cell? (a.add (i * 2)) = some (.int .i64 y.1) ∧ W.cell? ((a.add (i * 2)).add 1) = some (.int .i64 y.2)) hy
      have ha : a = ⟨a.block, a.off, none⟩ := spot_none (by simpa [Addr.add] using (hY 0 (by omega)).1)
      refine ⟨fun i => (Y i).1, fun i => (Y i).2, rfl, fun i hi => ⟨a.block, a.off, by rw [← ha], ?_⟩⟩
      have := hY i hi
      rw [ha, Addr.add_lit, Addr.add_lit] at this
      exact this

theorem word_of_wf {a : Int} (h : (Lit.int .u64 a).wf = true) : U a := by
  simp [Lit.wf, IntKind.min, IntKind.max, IntKind.signed, IntKind.bits] at h
  exact ⟨h.1, by omega⟩

set_option maxRecDepth 100000 in
theorem randRuns_lifted (os : Os) (started : os.Started) (H : Type) (enc : TypeId × Value → H) :
    ReturnsInHanded {} Tryd.checked os 3 .any (fun w args => (Rows.randRunsSpec.pre enc Tryd.prog Tryd.f3 [] false w args ∧ laidMetH Tryd.prog laid1 w) ∧ sizedMet enc Tryd.prog Tryd.f3 (OpenSpec.ofChange Rows.randRunsSpec) false w args)
      (Rows.randRunsSpec.post enc Tryd.prog Tryd.f3 false true false false) := by
  refine returnsInHanded_of_change_and (C := Tryd.checked) (X := fun w _ => laidMetH Tryd.prog laid1 w) (fun _ _ _ hh h => h.of_heap hh) Tryd.own started (by kernel_rfl) Tryd.func3
    (ChangeSpec.witness_shaped (enc := enc) (C := Tryd.checked) (os := os) (X := fun w _ => laidMetH Tryd.prog laid1 w) false (World.doorLaid Tryd.prog 400 os) #[.int .u64 0, .slice none 0 0] 8 rfl (World.shaped_of_RefB (by kernel_rfl) (by kernel_rfl)) (by kernel_rfl) (by kernel_rfl) (by kernel_rfl) (door_met os _)) ?_
  intro W base args ds gs before hval0 hW _ _ hL _
  have hval : ∀ (j : Nat) t v, Tryd.f3.params[j]? = some t → args[j]? = some v → Value.okWide Tryd.prog W .any base t v := hval0
  have hW' := hW
  obtain ⟨p, q, hA0, hV, rfl, hfz, hnd⟩ := hW
  have hA : DataW.TrodAll enc Tryd.prog W 0 (fun _ => true) true Tryd.f3.params.toList args.toList ds p := hA0
  rw [Tryd.params3] at hA hval
  obtain ⟨v0, v1, d0, d1, p0, p1, rfl, rfl, rfl, h0, h1⟩ := trodAll_two hA
  obtain ⟨rfl, rfl⟩ := trodVars_none hV
  obtain ⟨x, rfl, rfl, rfl, hwx⟩ := open_int Tryd.underlying22 (hval 0 22 v0 rfl rfl) h0
  obtain ⟨a, n, cap, K, N, rfl, hO⟩ := open_ops (hval 1 23 v1 rfl rfl) h1
  obtain ⟨hT, hw0⟩ := tab_of_laid hL
  refine (randRuns_any a n cap K N x W hO (word_of_wf hwx) hT hw0).mono fun e W' ⟨he, hg⟩ => ?_
  subst he
  exact ⟨_, rfl, law_post hW' rfl (by kernel_rfl) rfl (by rw [Tryd.params3]; intro t ht; simp at ht; rcases ht with rfl | rfl <;> exact ⟨by kernel_rfl, of_decide_eq_true (by kernel_rfl)⟩) (grown_below hg)⟩

theorem randRuns_row : Rows.RandRunsSaid :=
  OpenClaim.holds_of_wide 3 Tryd.f3 rfl rfl rfl rfl rfl rfl rfl ⟨rfl, rfl, rfl, rfl, rfl⟩ rfl rfl rfl rfl rfl (by kernel_rfl) Tryd.func3 (by kernel_rfl)
    (of_decide_eq_true (by kernel_rfl)) (by unfold Func.isWrapper; first | (rw [if_pos (by decide +kernel)]; kernel_rfl) | (rw [if_neg (by decide +kernel)]; exact ⟨rfl, rfl⟩))
    (fun os started H enc _ => randRuns_lifted os started H enc)

theorem randRuns_holds : Rows.RandRunsCardSaid :=
  Claim7.holds_tied_plain_at .later [] [.data] true (true, "04d7cc94fdef939c9019d586aae0ce750243bbfdd2ae8fc4bb0fd38c04140858") false
    randRuns_row (fun _ h => by cases h) (by kernel_rfl) (fun _ h => by cases h) randRuns_row_tie rfl ⟨rfl, rfl⟩ (by kernel_rfl) rfl
    (fun f fn hf hfn => by
      obtain rfl : f = 3 := Option.some.inj ((show Tryd.prog.funcNamed "theodolite/theodolitelaw04.RandRuns" = some 3 by kernel_rfl).symm.trans hf) |>.symm
      obtain rfl : fn = Tryd.f3 := (Option.some.inj (Tryd.func3.symm.trans hfn)).symm
      exact ⟨by kernel_rfl, fun j t ht => by
        rw [Tryd.params3] at ht
        have hm : t ∈ [22, 23] := by simpa using Array.mem_of_getElem? ht
        have hall : ([22, 23].all fun u => !Tryd.prog.wantsStandIn u) = true := by kernel_rfl
        exact (show Tryd.prog.wantsStandIn t = false by simpa using List.all_eq_true.1 hall t hm)⟩)
    (by kernel_rfl)
#print axioms randRuns_holds

end Go.Proofs.YtjediopfnjkihaaDoor
