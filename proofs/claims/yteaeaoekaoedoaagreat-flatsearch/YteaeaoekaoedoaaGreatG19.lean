import Derived.Test.YteaeaoekaoedoaaGreatG17
import Derived.Test.YteaeaoekaoedoaaGreatFMath
import Derived.RangeFuncNested
import Derived.RangeFuncBound
import Derived.RangeFuncCalls
import Derived.RangeFuncLeaves
import Derived.Shelf.Abstract
import Derived.Shelf.RegionOpen
import Derived.WalkKit
import Derived.OwnWalkIn
import Derived.TacticsInMore
import Derived.LoopNIn
import Derived.LoopIn
/- A heap that has just these hits: its calls. -/
namespace Go.Proofs.YteaeaoekaoedoaaGreat.Tk
open Go.RowKit Go.Sort

/-- The heap of size k has the hits m, in their order. -/
def Has (w : World) (hb k : Nat) (v : Value) (m : List Ht) : Prop :=
  ∃ d, Hp w hb (k : Int) v d ∧ MaxH d ∧ d.toList.Perm m ∧ Srtd m ∧ m.length ≤ k ∧ 1 ≤ k ∧ k ≤ 64
theorem Has.gr {w w' : World} {hb k : Nat} {v : Value} {m : List Ht} (h : Has w hb k v m) (g : Gr w w') : Has w' hb k v m := by
  obtain ⟨d, h1, r⟩ := h; exact ⟨d, h1.gr g, r⟩
theorem Has.kp {S : Nat → Prop} {w w' : World} {hb k : Nat} {v : Value} {m : List Ht} (h : Has w hb k v m) (K : Kp S w w') (h1 : ¬ S hb) (h2 : ∀ g, v.ownBlock = some g → ¬ S g) : Has w' hb k v m := by
  obtain ⟨d, hd, r⟩ := h; exact ⟨d, hd.kp K h1 h2, r⟩
theorem Has.lt {w : World} {hb k : Nat} {v : Value} {m : List Ht} (h : Has w hb k v m) : hb < w.heap.size := by obtain ⟨d, h1, _⟩ := h; exact h1.lt
theorem Has.own_lt {w : World} {hb k : Nat} {v : Value} {m : List Ht} (h : Has w hb k v m) {g : Nat} (hg : v.ownBlock = some g) : g < w.heap.size := by
  obtain ⟨d, h1, _⟩ := h; exact YteaeaoekaoedoaaGreat.Tk.own_lt h1.own hg
theorem new_has (k : Nat) (h1 : 1 ≤ k) (h2 : k ≤ 64) (w : World) : Has (w.alloc (.cells #[.int .i64 (k : Int), .slice none 0 0] 113)) w.heap.size k (.slice none 0 0) [] :=
  ⟨#[], new_hp _ w, fun _ _ h => absurd h (Nat.not_lt_zero _), List.Perm.refl _, List.Pairwise.nil, Nat.zero_le _, h1, h2⟩

theorem root_last {d : Array Ht} {m : List Ht} (hm : MaxH d) (p : d.toList.Perm m) (hs : Srtd m) {k : Nat} (hk : m.length = k) (h0 : 0 < k) : d[0]! = m[k - 1]! := by
  have hd : d.size = k := by have := p.length_eq; simp at this; omega
  have a1 : d[0]! ∈ m := p.subset (by rw [getElem!_pos d 0 (by omega)]; exact Array.mem_toList_iff.2 (Array.getElem_mem _))
  have a2 : m[k - 1]! ∈ d.toList := p.symm.subset (by rw [getElem!_pos m (k - 1) (by omega)]; exact List.getElem_mem _)
  have b1 := last_worst hs k hk _ a1
  obtain ⟨i, hi, e⟩ := List.mem_iff_getElem.1 a2
  have b2 := maxh_root hm i (by simpa using hi)
  rw [getElem!_pos d i (by simpa using hi)] at b2
  simp only [Array.getElem_toList] at e
  rw [e] at b2
  exact hlt_tot b2 b1

/-- What Offer leaves. -/
def Offered (w w' : World) (hb k : Nat) (v : Value) (m : List Ht) (x : Ht) : Prop :=
  ∃ v', Has w' hb k v' (keep k m x) ∧ Kp (fun b => b = hb ∨ some b = v.ownBlock) w w' ∧ (v'.ownBlock = v.ownBlock ∨ ∀ g, v'.ownBlock = some g → w.heap.size ≤ g)

theorem offer_has {w : World} {hb k : Nat} {v : Value} {m : List Ht} (h : Has w hb k v m) (x : Ht) :
    Calls Tryz.prog 55 #[.pointer (some ⟨hb, 0, none⟩), hv x] w fun e w' => e = .returned (.bool (kept k m x)) ∧ Offered w w' hb k v m x := by
  have h' := h
  obtain ⟨d, hp, hm, pm, hs, hl, k1, k2⟩ := h
  have hd : d.size = m.length := by have := pm.length_eq; simpa using this
  by_cases c : m.length < k
  · have e : kept k m x = true := by unfold kept; rw [decide_eq_true c]; rfl
    rw [e]
    refine (offer_more hp hm (by omega) (by omega) x).mono ?_
    rintro e w' ⟨rfl, g, cap, d', p1, p2, p3, p4, p5⟩
    refine ⟨rfl, _, ⟨d', p3, p2, ?_, keep_srtd k x hs, by unfold keep; rw [List.length_take]; omega, k1, k2⟩, p4, ?_⟩
    · rw [keep_more x c]
      refine p1.trans ((List.perm_append_singleton x d.toList).trans ((pm.cons x).trans (ins_perm x m).symm))
    · rcases p5 with p5 | p5
      · exact .inl p5.symm
      · right; intro g' hg'; simp [Value.ownBlock] at hg'; omega
  have hk : m.length = k := by omega
  have er := root_last hm pm hs hk (by omega)
  by_cases cx : hlt x m[k - 1]! = true
  · have e : kept k m x = true := by unfold kept; rw [cx]; simp
    rw [e]
    refine (offer_repl hp hm (by omega) (by omega) (by omega) x (by rw [er]; exact cx)).mono ?_
    rintro e w' ⟨rfl, d', p1, p2, p3, p4⟩
    refine ⟨rfl, v, ⟨d', p3, p2, ?_, keep_srtd k x hs, by unfold keep; rw [List.length_take]; omega, k1, k2⟩, p4, .inl rfl⟩
    refine (p1.trans ?_).trans (keep_repl (by omega) hk cx).symm
    -- the set's hits are x and those of m but the last
    have hne : m ≠ [] := by intro e0; subst e0; simp at hk; omega
    obtain ⟨a, z, rfl⟩ : ∃ a z, m = a ++ [z] := ⟨m.dropLast, m.getLast hne, (List.dropLast_concat_getLast hne).symm⟩
    have ez : (a ++ [z])[k - 1]! = z := by
      simp only [List.length_append, List.length_cons, List.length_nil] at hk
      rw [getElem!_pos (a ++ [z]) (k - 1) (by simp; omega), List.getElem_append_right (by omega)]
      simp
    rw [ez] at er
    rw [List.dropLast_concat]
    cases hdl : d.toList with
    | nil =>
      have q0 : d.toList.length = 0 := by rw [hdl]; rfl
      rw [Array.length_toList] at q0; omega
    | cons y r =>
      have hy : d[0]! = y := by
        have hz : 0 < d.size := by omega
        rw [getElem!_pos d 0 hz, ← Array.getElem_toList hz]
        simp [hdl]
      rw [Array.toList_setIfInBounds, hdl, List.set_cons_zero]
      refine List.Perm.cons x ?_
      have q : (y :: r).Perm (z :: a) := by rw [← hdl]; exact pm.trans (List.perm_append_singleton z a)
      rw [← hy, er] at q
      exact List.Perm.cons_inv q
  · have cx' : hlt x m[k - 1]! = false := by simpa using cx
    have e : kept k m x = false := by unfold kept; rw [cx', decide_eq_false c]; rfl
    rw [e]
    refine (offer_no hp (by omega) (by omega) (by omega) x (by rw [er]; exact cx')).mono ?_
    rintro e w' ⟨rfl, g⟩
    refine ⟨rfl, v, ?_, Kp.of_gr g, .inl rfl⟩
    rw [keep_no hs hk cx']
    exact h'.gr g

theorem len_has {w : World} {hb k : Nat} {v : Value} {m : List Ht} (h : Has w hb k v m) : Calls Tryz.prog 98 #[.pointer (some ⟨hb, 0, none⟩)] w fun e w' => e = .returned (.int .i64 (m.length : Nat)) ∧ w' = w := by
  obtain ⟨d, hp, hm, pm, hs, hl, k1, k2⟩ := h
  have := len17 hp
  rwa [show d.size = m.length by have := pm.length_eq; simpa using this] at this
theorem worst_has {w : World} {hb k : Nat} {v : Value} {m : List Ht} (h : Has w hb k v m) (h0 : 0 < m.length) : Calls Tryz.prog 77 #[.pointer (some ⟨hb, 0, none⟩)] w fun e w' => e = .returned (.tuple #[hv m[m.length - 1]!, .bool true]) ∧ Gr w w' := by
  obtain ⟨d, hp, hm, pm, hs, hl, k1, k2⟩ := h
  have hd : d.size = m.length := by have := pm.length_eq; simpa using this
  have := worst15 hp (by omega) (by omega)
  rwa [root_last hm pm hs rfl h0] at this
theorem worst_has_none {w : World} {hb k : Nat} {v : Value} {m : List Ht} (h : Has w hb k v m) (h0 : m.length = 0) : Calls Tryz.prog 77 #[.pointer (some ⟨hb, 0, none⟩)] w fun e w' => e = .returned (.tuple #[hv ⟨0, 0, 0⟩, .bool false]) ∧ Gr w w' := by
  refine worst15_none _ w fun W g => ?_
  have := len_has (h.gr g)
  rwa [h0] at this
theorem list_has {w : World} {hb k : Nat} {v : Value} {m : List Ht} (h : Has w hb k v m) : Calls Tryz.prog 56 #[.pointer (some ⟨hb, 0, none⟩)] w fun e w' => ∃ v', e = .returned v' ∧ Out w w' v' m := by
  obtain ⟨d, hp, hm, pm, hs, hl, k1, k2⟩ := h
  have hd : d.size = m.length := by have := pm.length_eq; simpa using this
  have := list16 hp (by omega)
  rwa [srt_of_perm hs pm] at this
end Go.Proofs.YteaeaoekaoedoaaGreat.Tk

/- A loop over a function that is ranged over, where that function turns nothing old: the law. -/
namespace Go.Proofs.YteaeaoekaoedoaaGreat
open Go.RowKit Go.Shelf
attribute [local go_sem] Oper.semAt_some

theorem grown_of_gb {a b : World} (h : Gb a b) : a.grownBy b none := ⟨h.os, h.tape, h.output, h.size, fun k hk _ => h.block k hk⟩
theorem gb_same {a b : World} (h : Gb a b) {k : Nat} {o : Obj} (hk : a.heap[k]? = some o) : b.heap[k]? = some o :=
  (h.block k (Array.getElem?_eq_some_iff.1 hk).1).trans hk

/-- How a round's body may be left: on, alone. -/
def leftOn (I : Nat → World → Prop) (k : Nat) (W : World) : Exit → Act → World → Prop
  | .normal, _, W' => KeepsOthers W W' ∧ I k W'
  | _, _, _ => False

/-- The contract of what is ranged over: N rounds, between them nothing old turns. -/
def Gives (n : Nat) (P : Program) (gf : Nat) (lb : Array Value) (N : Nat) (arg : Nat → Value) (I : Nat → World → Prop) : Prop :=
  ∀ (l : Nat) (J : Nat → World → Prop) (W : World), (∀ k W, J k W → I k W) →
    (∀ k W W', J k W → Gb W W' → J k W') →
    (∀ k W, k < N → J k W → YieldAt Fence.wide (n - 1) P l #[arg k] W fun e W' => e = .returned (.bool true) ∧ J (k + 1) W') →
    J 0 W →
    CallsIn Fence.wide n P gf (#[.func (.yield l) #[] #[]] ++ lb) W fun e W' => (∃ v, e = .returned v) ∧ J N W'

theorem range_c {n : Nat} {P : Program} {g : Operand} {ps : Array Tmp} {assign body : Code} {Q : Exit → Act → World → Prop} {a : Act} {w : World}
    {gf : Nat} {lb : Array Value} (hg : a.eval g = .func (.func gf) #[] lb) (eg : ∀ args w, (callFunc gf args).run P w = .ok (.enter gf args) w)
    (hps : ps.size = 1) (N : Nat) (arg : Nat → Value) (I : Nat → World → Prop) (I1 : Nat → Nat → World → Prop) (ob : Nat → Obj)
    (hI : OwnFrom w.heap.size I) (hI1 : ∀ p, OwnFrom w.heap.size (fun k => I1 k p)) (h0 : I 0 w) (hst : ∀ k W, k < N → I k W → I1 k W.heap.size (W.alloc (ob k)))
    (hit : Gives (n - 1) P gf lb N arg I) (a₁ : Nat → Nat → Act)
    (hassign : ∀ (l k : Nat) (W : World) (K : Act → World → Prop), K (a₁ k W.heap.size) (W.alloc (ob k)) →
      assign.wpIn (Fence.wide.inRound l) (n - 1 - 1) P (Exit.then K (fun _ _ _ => False)) { tmps := (ps.zip #[arg k]).foldl (fun t (p, v) => t.setIfInBounds p v) a.tmps, defers := [] } W)
    (hbody : ∀ (l k p : Nat) (W : World), k < N → I1 k p W → body.wpIn (Fence.wide.inRound l) (n - 1 - 1) P (leftOn I (k + 1) W) (a₁ k p) W)
    (hdone : ∀ (D : Nat) (W : World), w.heap.size ≤ D → I N W → W.heap[D]? = some (.deferred (some [])) → Q .normal { a with defers := { target := .collected D, args := #[] } :: a.defers } W) :
    (Code.rangeFunc g ps assign body).wpIn Fence.wide n P Q a w := by
  refine wpIn_rangeFunc fun fn hfn => ?_
  -- the record of the loop, in its states
  obtain ⟨rc, hrc⟩ : ∃ rc : LoopState → Option Code → Loop, rc = fun s p => { state := s, pending := p, fn := fn, tmps := a.tmps, params := ps, assign := assign, body := body, defers := w.heap.size } := ⟨_, rfl⟩
  obtain ⟨V, hV⟩ : ∃ V, (w.alloc (.deferred (some []))).alloc (.loop (rc .ready none)) = V := ⟨_, rfl⟩
  have hlV : V.heap[w.heap.size + 1]? = some (.loop (rc .ready none)) := by
    rw [← hV]; have := World.alloc_heap_new (w.alloc (.deferred (some []))) (.loop (rc .ready none)); rwa [World.size_alloc] at this
  have hdV : V.heap[w.heap.size]? = some (.deferred (some [])) := by
    rw [← hV]; exact (Below.heap_alloc _ _ _ (by simp)).trans (World.alloc_heap_new w _)
  have hIV : I 0 V := by rw [← hV]; exact hI.alloc _ (hI.alloc _ h0)
  refine ⟨w.heap.size + 1, [{ target := .collected w.heap.size, args := #[] }], V, { target := .fn (.func gf) lb, args := #[.func (.yield (w.heap.size + 1)) #[] #[]] }, V, gf,
    #[.func (.yield (w.heap.size + 1)) #[] #[]] ++ lb, V, ?_, ?_, fun _ _ => trivial, ?_, fun h => by simp [Fence.wide] at h, ?_⟩
  · rw [← hV, hrc]; exact run_enterLoop_outer _ _ _ _ _
  · simp only [resolve, hg]
    simp [go_sem]
  · simp [invoke, go_sem, eg]
  refine (hit (w.heap.size + 1)
    (fun k W => I k W ∧ W.heap[w.heap.size + 1]? = some (.loop (rc .ready none)) ∧ W.heap[w.heap.size]? = some (.deferred (some [])))
    V (fun _ _ h => h.1) (fun k W W' h g => ⟨hI k W W' none h.1 (grown_of_gb g) (fun r e => by cases e), gb_same g h.2.1, gb_same g h.2.2⟩) ?_ ⟨hIV, hlV, hdV⟩).mono ?_
  · -- one round
    rintro k W hk ⟨hi, hl, hd⟩
    have hlt : w.heap.size + 1 < W.heap.size := (Array.getElem?_eq_some_iff.1 hl).1
    have hy := run_yield (P := P) (args := #[arg k]) hl (by rw [hrc]; simp [hps])
    rw [hrc] at hy
    obtain ⟨p, hp0⟩ : ∃ p, p = W.heap.size := ⟨_, rfl⟩
    obtain ⟨Wa, hWa⟩ : ∃ Wa, W.alloc (ob k) = Wa := ⟨_, rfl⟩
    have gA : Gb W Wa := by rw [← hWa]; exact gb_alloc (Below.refl _ _) _
    have hla := gb_same gA hl
    have hda := gb_same gA hd
    have hlta : w.heap.size + 1 < Wa.heap.size := (Array.getElem?_eq_some_iff.1 hla).1
    have hia : I1 k p Wa := by rw [← hWa, hp0]; exact hst k W hk hi
    refine ⟨fn, _, assign, body, hy, roundIn_of_wpIn hfn (hassign _ k W _ ?_)⟩
    rw [hWa, ← hp0]
    refine ⟨_, run_beginRound hla (by rw [hrc]), ?_⟩
    clear hy hi hl hd hlt
    obtain ⟨W2, hW2⟩ : ∃ W2, Wa.putObj (w.heap.size + 1) (.loop { rc .ready none with state := .busy }) = W2 := ⟨_, rfl⟩
    rw [hW2]
    have hl2 : W2.heap[w.heap.size + 1]? = some (.loop { rc .ready none with state := .busy }) := by rw [← hW2]; exact World.putObj_heap_same hlta
    have hd2 : W2.heap[w.heap.size]? = some (.deferred (some [])) := by rw [← hW2]; exact (World.putObj_heap_other (by omega)).trans hda
    have hi2 : I1 k p W2 := by rw [← hW2]; exact (hI1 p).putObj _ hia (by omega) hla rfl
    refine wpIn_mono (hbody _ k p W2 hk hi2) ?_
    have fin : ∀ (j : Option Code) (W3 : World), KeepsOthers W2 W3 →
        (Instr.endRound (w.heap.size + 1) j).run P W3 = .ok (.bool j.isNone) (W3.putObj (w.heap.size + 1) (.loop (rc (if j.isNone then .ready else .done) j))) ∧
        W3.heap[w.heap.size + 1]? = some (.loop { rc .ready none with state := .busy }) ∧
        (W3.putObj (w.heap.size + 1) (.loop (rc (if j.isNone then .ready else .done) j))).heap[w.heap.size + 1]? = some (.loop (rc (if j.isNone then .ready else .done) j)) ∧
        (W3.putObj (w.heap.size + 1) (.loop (rc (if j.isNone then .ready else .done) j))).heap[w.heap.size]? = some (.deferred (some [])) := fun j W3 hk3 => by
      have hl3 := hk3.same _ _ hl2 rfl
      have := run_endRound (P := P) j hl3
      rw [hrc] at this ⊢
      exact ⟨this, by rw [hrc] at hl3; exact hl3, World.putObj_heap_same (Array.getElem?_eq_some_iff.1 hl3).1, (World.putObj_heap_other (by omega)).trans (hk3.same _ _ hd2 rfl)⟩
    rintro e a3 W3 hp
    cases e with
    | normal =>
      obtain ⟨hk3, hi3⟩ := hp
      obtain ⟨hr, hl3, hl4, hd4⟩ := fin none W3 hk3
      exact ⟨_, _, hr, rfl, hI.putObj _ hi3 (by omega) hl3 rfl, hl4, hd4⟩
    | ret => exact hp.elim
    | exit id => exact hp.elim
    | goto t => exact hp.elim
    | panic ch => exact hp.elim
    | outgrown => exact hp.elim
  · -- behind it
    rintro e W2 ⟨⟨v, rfl⟩, hi, hl, hd⟩
    exact ⟨none, _, by have := run_endLoop (P := P) hl (by rw [hrc]; simp); rw [hrc] at this; exact this, hdone _ _ (Nat.le_refl _) (hI.putObj _ hi (by omega) hl rfl) ((World.putObj_heap_other (by omega)).trans hd)⟩

end Go.Proofs.YteaeaoekaoedoaaGreat
