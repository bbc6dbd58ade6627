import Derived.Test.YtepjbdklljlecaaGreatVa25
import Derived.Test.YtepjbdklljlecaaGreatVa9
/- A loop over slices.Backward: the law, what is ranged over; a region that draws inside a round. -/
namespace Go.Proofs.YtepjbdklljlecaaGreat
open Go.RowKit Go.Shelf
attribute [local go_sem] Oper.semAt_some

/-- No operation is a deferred call, or asks a row. -/
def noDef (ops : Array Oper) : Bool := ops.all fun o => match o.op with | .defer _ => false | _ => true
theorem noDef_spec {ops : Array Oper} (h : noDef ops = true) {i : Nat} {o : Oper} (ho : ops[i]? = some o) : ∀ c, o.op ≠ .defer c := by
  intro c e
  unfold noDef at h
  rw [Array.all_eq_true] at h
  obtain ⟨hi, e2⟩ := Array.getElem?_eq_some_iff.1 ho
  have := h i hi
  rw [e2, e] at this
  cases this
theorem opIn_of_op {P : Program} {ops : Array Oper} {Q : Exit → Act → World → Prop} {F : Fence} {n i : Nat} (hfn : ∀ f, F.fn f) (hdp : F.depth = none) (hcl : ∀ (n : Nat) f args w (R : Ending → World → Prop), Calls P f args w R → CallsIn F n P f args w R) (hrw : ∀ (n : Nat) row args w (R : Value → World → Prop), Rows P row args w R → RowsIn F n P row args w R)
    (hno : ¬ LetsOut Q) (hd : noDef ops = true) {K K' : Act → World → Prop} (hK : ∀ a w, K a w → K' a w) {a : Act} {w : World} (h : wpOp P ops Q i K a w) : wpOpIn F n P ops Q i K' a w := by
  unfold wpOp at h
  unfold wpOpIn
  cases ho : ops[i]? with
  | none => rw [ho] at h; exact hK _ _ h
  | some o =>
    rw [ho] at h
    dsimp only at h ⊢
    split
    · rename_i hw
      rw [if_pos hw] at h
      rcases h with h | h
      · unfold Oper.wpIn
        refine ⟨fun f _ => hfn f, ?_⟩
        rw [Oper.semAt_eq F.round _ _ (noDef_spec hd ho)]
        unfold Oper.wp at h
        generalize (execOp a.eval o).run P w = r at *
        cases r with
        | ok x w' =>
          cases x with
          | value v => exact hK _ _ h
          | skip => exact hK _ _ h
          | defer d => exact hK _ _ h
          | enter f args =>
            refine ⟨fun e => (by rw [hdp] at e; cases e), ?_⟩
            refine hcl _ _ _ _ _ ?_
            refine Calls.mono h ?_
            intro e w'' he
            cases e with
            | returned v => exact hK _ _ he
            | panicked c => exact he
            | outgrown => exact he
          | row r args =>
            refine ⟨fun e => (by rw [hdp] at e; cases e), hrw _ _ _ _ _ ?_⟩
            exact Rows.mono h (fun v w'' he => hK _ _ he)
          | _ => exact h.elim
        | halt x w' =>
          cases x with
          | panic v => exact h
          | _ => exact h.elim
      · exact absurd h.2 hno
    · rename_i hw
      rw [if_neg hw] at h
      exact ⟨fun f _ => hfn f, hK _ _ h⟩
theorem anyIn_of_any' {P : Program} {ops : Array Oper} {Q : Exit → Act → World → Prop} {md : Region.Mode} {F : Fence} {n : Nat} (hfn : ∀ f, F.fn f) (hdp : F.depth = none) (hcl : ∀ (n : Nat) f args w (R : Ending → World → Prop), Calls P f args w R → CallsIn F n P f args w R) (hrw : ∀ (n : Nat) row args w (R : Value → World → Prop), Rows P row args w R → RowsIn F n P row args w R)
    (hno : ¬ LetsOut Q) (hd : noDef ops = true) : ∀ fuel listed a w, wpAny P md ops Q fuel listed a w → wpAnyIn F n P md ops Q fuel listed a w
  | 0, _, _, _, h => h
  | fuel + 1, _listed, _a, _w, h => ⟨h.1, fun i hi => opIn_of_op hfn hdp hcl hrw hno hd (fun a' w' h' => anyIn_of_any' hfn hdp hcl hrw hno hd fuel _ a' w' h') (h.2 i hi)⟩
theorem rows_wide {P : Program} (n : Nat) (row : String) (args : Array Value) (w : World) (R : Value → World → Prop) (h : Rows P row args w R) : RowsIn Fence.wide n P row args w R := fun c cs _ => by
  obtain ⟨v, w'', h1, h2⟩ := h c cs
  exact ⟨v, w'', h1, stepsIn_wide.2 h2⟩
/-- A region that draws, inside a round: by what must hold all through. -/
theorem regIn_round {P : Program} {ops : Array Oper} {Q : Exit → Act → World → Prop} {S : World → Prop} {l n id : Nat} {a : Act} {w : World} (hm : P.follows .mixedOrders = true) (hno : ¬ LetsOut Q) (hd : noDef ops = true) (hS : S w.drew)
    (h : S w.drew → wpAnyH P .any ops Q S ops.size (Array.replicate ops.size false) a w.drew) : (Code.region id ops true).wpIn (Fence.wide.inRound l) n P Q a w :=
  wpIn_region_any hm (anyIn_of_any' (fun _ => trivial) rfl (fun _n _f _args _w _R h => CallsIn.inRound l (callsIn_wide.2 h)) (fun n row args w R h => rows_wide n row args w R h) hno hd _ _ _ _ (wpAny_of_held _ _ _ _ (h hS)))
theorem regIn_wide {P : Program} {ops : Array Oper} {Q : Exit → Act → World → Prop} {S : World → Prop} {n id : Nat} {a : Act} {w : World} (hm : P.follows .mixedOrders = true) (hno : ¬ LetsOut Q) (hd : noDef ops = true) (hS : S w.drew)
    (h : S w.drew → wpAnyH P .any ops Q S ops.size (Array.replicate ops.size false) a w.drew) : (Code.region id ops true).wpIn Fence.wide n P Q a w :=
  wpIn_region_any hm (anyIn_of_any' (fun _ => trivial) rfl (fun _n _f _args _w _R h => callsIn_wide.2 h) (fun n row args w R h => rows_wide n row args w R h) hno hd _ _ _ _ (wpAny_of_held _ _ _ _ (h hS)))
/-- Left on, alone. -/
def onlyN (K : Act → World → Prop) : Exit → Act → World → Prop
  | .normal, a, w => K a w
  | _, _, _ => False
theorem regIn_only {P : Program} {ops : Array Oper} {Q : Exit → Act → World → Prop} {S : World → Prop} {n id : Nat} {a : Act} {w : World} (hm : P.follows .mixedOrders = true) (hd : noDef ops = true) (hS : S w.drew)
    (h : S w.drew → wpAnyH P .any ops (onlyN (fun a w => Q .normal a w)) S ops.size (Array.replicate ops.size false) a w.drew) : (Code.region id ops true).wpIn Fence.wide n P Q a w := by
  refine wpIn_mono (regIn_wide hm (fun h => by obtain ⟨_, _, h⟩ := h; exact h) hd hS h) ?_
  intro e a w h
  cases e with
  | normal => exact h
  | _ => exact h.elim
/-- The contract of what is ranged over: N rounds with these arguments, between them nothing old turns. -/
def GivesA (n : Nat) (P : Program) (gf : Nat) (lb : Array Value) (N : Nat) (arg : Nat → Array Value) (I : Nat → World → Prop) : Prop :=
  ∀ (l : Nat) (J : Nat → World → Prop) (W : World), (∀ k W, J k W → I k W) →
    (∀ k W W', J k W → Gb W W' → J k W') →
    (∀ k W, k < N → J k W → YieldAt Fence.wide (n - 1) P l (arg k) W fun e W' => e = .returned (.bool true) ∧ J (k + 1) W') →
    J 0 W →
    CallsIn Fence.wide n P gf (#[.func (.yield l) #[] #[]] ++ lb) W fun e W' => (∃ v, e = .returned v) ∧ J N W'
theorem rangeB_c {n : Nat} {P : Program} {g : Operand} {ps : Array Tmp} {assign body : Code} {Q : Exit → Act → World → Prop} {a : Act} {w : World}
    {gf : Nat} {lb : Array Value} (hg : a.eval g = .func (.func gf) #[] lb) (eg : ∀ args w, (callFunc gf args).run P w = .ok (.enter gf args) w)
    (N : Nat) (arg : Nat → Array Value) (hps : ∀ k, ps.size = (arg k).size) (I : Nat → World → Prop) (I1 : Nat → Nat → World → Prop) (ob : Nat → Obj)
    (hI : OwnFrom w.heap.size I) (hI1 : ∀ p, OwnFrom w.heap.size (fun k => I1 k p)) (h0 : I 0 w) (hst : ∀ k W, k < N → I k W → I1 k W.heap.size (W.alloc (ob k)))
    (hit : GivesA (n - 1) P gf lb N arg I) (a₁ : Nat → Nat → Act)
    (hassign : ∀ (l k : Nat) (W : World) (K : Act → World → Prop), K (a₁ k W.heap.size) (W.alloc (ob k)) →
      assign.wpIn (Fence.wide.inRound l) (n - 1 - 1) P (Exit.then K (fun _ _ _ => False)) { tmps := (ps.zip (arg k)).foldl (fun t (p, v) => t.setIfInBounds p v) a.tmps, defers := [] } W)
    (hbody : ∀ (l k p : Nat) (W : World), k < N → I1 k p W → body.wpIn (Fence.wide.inRound l) (n - 1 - 1) P (leftOn I (k + 1) W) (a₁ k p) W)
    (hdone : ∀ (D : Nat) (W : World), w.heap.size ≤ D → I N W → W.heap[D]? = some (.deferred (some [])) → Q .normal { a with defers := { target := .collected D, args := #[] } :: a.defers } W) :
    (Code.rangeFunc g ps assign body).wpIn Fence.wide n P Q a w := by
  refine wpIn_rangeFunc fun fn hfn => ?_
  -- the record of the loop, in its states
  obtain ⟨rc, hrc⟩ : ∃ rc : LoopState → Option Code → Loop, rc = fun s p => { state := s, pending := p, fn := fn, tmps := a.tmps, params := ps, assign := assign, body := body, defers := w.heap.size } := ⟨_, rfl⟩
  obtain ⟨V, hV⟩ : ∃ V, (w.alloc (.deferred (some []))).alloc (.loop (rc .ready none)) = V := ⟨_, rfl⟩
  have hlV : V.heap[w.heap.size + 1]? = some (.loop (rc .ready none)) := by
    rw [← hV]; have := World.alloc_heap_new (w.alloc (.deferred (some []))) (.loop (rc .ready none)); rwa [World.size_alloc] at this
  have hdV : V.heap[w.heap.size]? = some (.deferred (some [])) := by
    rw [← hV]; exact (Below.heap_alloc _ _ _ (by simp)).trans (World.alloc_heap_new w _)
  have hIV : I 0 V := by rw [← hV]; exact hI.alloc _ (hI.alloc _ h0)
  refine ⟨w.heap.size + 1, [{ target := .collected w.heap.size, args := #[] }], V, { target := .fn (.func gf) lb, args := #[.func (.yield (w.heap.size + 1)) #[] #[]] }, V, gf,
    #[.func (.yield (w.heap.size + 1)) #[] #[]] ++ lb, V, ?_, ?_, fun _ _ => trivial, ?_, fun h => by simp [Fence.wide] at h, ?_⟩
  · rw [← hV, hrc]; exact run_enterLoop_outer _ _ _ _ _
  · simp only [resolve, hg]
    simp [go_sem]
  · simp [invoke, go_sem, eg]
  refine (hit (w.heap.size + 1)
    (fun k W => I k W ∧ W.heap[w.heap.size + 1]? = some (.loop (rc .ready none)) ∧ W.heap[w.heap.size]? = some (.deferred (some [])))
    V (fun _ _ h => h.1) (fun k W W' h g => ⟨hI k W W' none h.1 (grown_of_gb g) (fun r e => by cases e), gb_same g h.2.1, gb_same g h.2.2⟩) ?_ ⟨hIV, hlV, hdV⟩).mono ?_
  · -- one round
    rintro k W hk ⟨hi, hl, hd⟩
    have hlt : w.heap.size + 1 < W.heap.size := (Array.getElem?_eq_some_iff.1 hl).1
    have hy := run_yield (P := P) (args := arg k) hl (by rw [hrc]; simp [hps k])
    rw [hrc] at hy
    obtain ⟨p, hp0⟩ : ∃ p, p = W.heap.size := ⟨_, rfl⟩
    obtain ⟨Wa, hWa⟩ : ∃ Wa, W.alloc (ob k) = Wa := ⟨_, rfl⟩
    have gA : Gb W Wa := by rw [← hWa]; exact gb_alloc (Below.refl _ _) _
    have hla := gb_same gA hl
    have hda := gb_same gA hd
    have hlta : w.heap.size + 1 < Wa.heap.size := (Array.getElem?_eq_some_iff.1 hla).1
    have hia : I1 k p Wa := by rw [← hWa, hp0]; exact hst k W hk hi
    refine ⟨fn, _, assign, body, hy, roundIn_of_wpIn hfn (hassign _ k W _ ?_)⟩
    rw [hWa, ← hp0]
    refine ⟨_, run_beginRound hla (by rw [hrc]), ?_⟩
    clear hy hi hl hd hlt
    obtain ⟨W2, hW2⟩ : ∃ W2, Wa.putObj (w.heap.size + 1) (.loop { rc .ready none with state := .busy }) = W2 := ⟨_, rfl⟩
    rw [hW2]
    have hl2 : W2.heap[w.heap.size + 1]? = some (.loop { rc .ready none with state := .busy }) := by rw [← hW2]; exact World.putObj_heap_same hlta
    have hd2 : W2.heap[w.heap.size]? = some (.deferred (some [])) := by rw [← hW2]; exact (World.putObj_heap_other (by omega)).trans hda
    have hi2 : I1 k p W2 := by rw [← hW2]; exact (hI1 p).putObj _ hia (by omega) hla rfl
    refine wpIn_mono (hbody _ k p W2 hk hi2) ?_
    have fin : ∀ (j : Option Code) (W3 : World), KeepsOthers W2 W3 →
        (Instr.endRound (w.heap.size + 1) j).run P W3 = .ok (.bool j.isNone) (W3.putObj (w.heap.size + 1) (.loop (rc (if j.isNone then .ready else .done) j))) ∧
        W3.heap[w.heap.size + 1]? = some (.loop { rc .ready none with state := .busy }) ∧
        (W3.putObj (w.heap.size + 1) (.loop (rc (if j.isNone then .ready else .done) j))).heap[w.heap.size + 1]? = some (.loop (rc (if j.isNone then .ready else .done) j)) ∧
        (W3.putObj (w.heap.size + 1) (.loop (rc (if j.isNone then .ready else .done) j))).heap[w.heap.size]? = some (.deferred (some [])) := fun j W3 hk3 => by
      have hl3 := hk3.same _ _ hl2 rfl
      have := run_endRound (P := P) j hl3
      rw [hrc] at this ⊢
      exact ⟨this, by rw [hrc] at hl3; exact hl3, World.putObj_heap_same (Array.getElem?_eq_some_iff.1 hl3).1, (World.putObj_heap_other (by omega)).trans (hk3.same _ _ hd2 rfl)⟩
    rintro e a3 W3 hp
    cases e with
    | normal =>
      obtain ⟨hk3, hi3⟩ := hp
      obtain ⟨hr, hl3, hl4, hd4⟩ := fin none W3 hk3
      exact ⟨_, _, hr, rfl, hI.putObj _ hi3 (by omega) hl3 rfl, hl4, hd4⟩
    | ret => exact hp.elim
    | exit id => exact hp.elim
    | goto t => exact hp.elim
    | panic ch => exact hp.elim
    | outgrown => exact hp.elim
  · -- behind it
    rintro e W2 ⟨⟨v, rfl⟩, hi, hl, hd⟩
    exact ⟨none, _, by have := run_endLoop (P := P) hl (by rw [hrc]; simp); rw [hrc] at this; exact this, hdone _ _ (Nat.le_refl _) (hI.putObj _ hi (by omega) hl rfl) ((World.putObj_heap_other (by omega)).trans hd)⟩

/-- No part. -/
def pt0 : Nat × Pt := (0, ⟨⟨0, [], [], 0, []⟩, [], (0, 0, 0), none⟩)
/-- A candidate, as a value. -/
abbrev cdV (q : List Int) (x : Nat × Pt) : Value := .agg #[.pointer (some ⟨x.1, 0, none⟩), .int .u64 (hi (bnd q x.2)), .int .u64 (lo (bnd q x.2))]
/-- The value reads as these candidates. -/
def RdC (W : World) (v : Value) (q : List Int) (O : List (Nat × Pt)) : Prop := ∃ a cap, v = .slice a O.length cap ∧ ∀ i, i < O.length → ∃ g, a = some ⟨g, 0, none⟩ ∧ W.cell? ⟨g, i * 3, none⟩ = some (.pointer (some ⟨(O.getD i pt0).1, 0, none⟩)) ∧ W.cell? ⟨g, i * 3 + 1, none⟩ = some (.int .u64 (hi (bnd q (O.getD i pt0).2))) ∧ W.cell? ⟨g, i * 3 + 2, none⟩ = some (.int .u64 (lo (bnd q (O.getD i pt0).2)))
theorem getD_at {O : List (Nat × Pt)} {i : Nat} (h : i < O.length) : O.getD i pt0 = O[i] := by
  rw [List.getD_eq_getElem?_getD, List.getElem?_eq_getElem h]; rfl
theorem SAt.rdc {w0 W : World} {T : Nat → Pt} {N sb hb k : Nat} {vq : Value} {q : List Int} {bud : Nat} {seen : List Rw} {O M : List (Nat × Pt)} {vs vo vh : Value} (h : SAt w0 W T N sb hb k vq q bud seen O M vs vo vh) : RdC W vo q O := by
  rcases h.form with ⟨e1, e2⟩ | ⟨g, cap, e, _, hcd⟩
  · exact ⟨none, 0, by rw [e2, e1]; rfl, fun i hi => by rw [e1] at hi; simp at hi⟩
  · refine ⟨some ⟨g, 0, none⟩, cap, e, fun i hi => ⟨g, rfl, ?_⟩⟩
    rw [getD_at hi]
    exact hcd i hi
theorem kback_c (a : Option Addr) (n c : Nat) (w : World) : Calls Tryz.prog 76 #[.slice a n c] w fun e w' => e = .returned (.func (.func 108) #[] #[.pointer (some ⟨w.heap.size, 0, none⟩)]) ∧ w.alloc (.cells #[.slice a n c] 89) = w' := by
  go_enter Tryz.func76, Tryz.ntmps76
  go_wp2
  go_ret
  exact ⟨rfl, rfl⟩
set_option maxHeartbeats 2000000 in
theorem back_gives (n : Nat) (_hn : 1 ≤ n) (Bb : Nat) (v : Value) (q : List Int) (O : List (Nat × Pt)) (hlen : O.length ≤ 10000) (I : Nat → World → Prop) (hr : ∀ k W, I k W → Boxed W Bb 89 v ∧ RdC W v q O) :
    GivesA n Tryz.prog 108 #[.pointer (some ⟨Bb, 0, none⟩)] O.length (fun k => #[.int .i64 ((O.length - 1 - k : Nat) : Int), cdV q (O.getD (O.length - 1 - k) pt0)]) I := by
  intro l J W hJI hgr hY h0
  refine callsIn_of_wp Tryz.func108 rfl trivial ?_ rfl
  simp only [Tryz.ntmps108, List.size_toArray, List.length_cons, List.length_nil, Nat.reduceAdd, Nat.reduceSub, Array.replicate_succ, Array.replicate_zero, List.push_toArray, List.append_toArray, List.nil_append, List.cons_append]
  obtain ⟨r1, r2⟩ := hr 0 W (hJI 0 W h0)
  obtain ⟨a, cap, rfl, _⟩ := r2
  have c1 := r1.cell
  obtain ⟨N, hN⟩ : ∃ N, N = O.length := ⟨_, rfl⟩
  have NH : Hid (N = O.length) := hN
  rw [← hN] at hlen hr hY c1 ⊢
  clear hN
  gi_wp2
  clear c1 r1
  gi_loopw [3] (fun v wr => ∃ k : Nat, v = .int .i64 ((N : Int) - 1 - k) ∧ k ≤ N ∧ J k wr) (fun v _ => (intOf v + 1).toNat)
  case atStart => exact ⟨0, by simp, Nat.zero_le _, h0⟩
  case round =>
    obtain ⟨k, rfl, hk, hj⟩ := hrel
    by_cases hlt : k < N
    · have hlt' : (0 : Int) ≤ (N : Int) - 1 - k := by omega
      obtain ⟨r1, r2⟩ := hr k wr (hJI k wr hj)
      obtain ⟨a', cap', ev, ha⟩ := r2
      obtain ⟨b, ea, e1, e2, e3⟩ := ha (N - 1 - k) (by have := NH.out; omega)
      injection ev with ev1 ev2 ev3
      subst ev1; subst ev3; subst ea
      clear ha ev2
      have c1 := r1.cell
      have hY2 := hY k wr hlt hj
      dsimp only [cdV] at hY2
      have hcast : (N : Int) - 1 - k = ((N - 1 - k : Nat) : Int) := by omega
      rw [hcast] at hlt' ⊢
      have hidx : ((N - 1 - k : Nat) : Int) < (N : Int) := by omega
      have MS : Hid (N - 1 - k + 1 = N - k) := by unfold Hid; omega
      have CS : Hid (((N - 1 - k : Nat) : Int) - 1 = (N : Int) - 1 - ((k + 1 : Nat) : Int)) := by unfold Hid; omega
      have hb1 : ((N - 1 - k : Nat) : Int) ≤ 10000 := by omega
      generalize O.getD (N - 1 - k) pt0 = x at *
      generalize N - 1 - k = t at *
      generalize hi (bnd q x.2) = xh at *
      generalize lo (bnd q x.2) = xl at *
      generalize x.1 = xb at *
      clear hY hr hcast
      obtain ⟨fn, tmps, assign, body, hy, hR⟩ := hY2
      gi_wp2
      refine hR.mono ?_
      rintro e W3 ⟨rfl, hJ3⟩
      clear hR hy
      gi_wp2
      go_roundw
      case rel => exact ⟨k + 1, by first | (rw [← CS.out]; done) | (rw [← CS.out]; rfl) | (simp [CS.out]), by omega, hJ3⟩
      case measure => first | (simp [intOf]; done) | (simp [intOf]; omega)
    · have hlt' : ¬ (0 : Int) ≤ (N : Int) - 1 - k := by omega
      gi_wp2
      go_end0
      obtain rfl : k = N := by omega
      exact ⟨⟨_, rfl⟩, hj⟩
end Go.Proofs.YtepjbdklljlecaaGreat

/- What an answer is made of. -/
namespace Go.Proofs.YtepjbdklljlecaaGreat
open Go.RowKit Go.Shelf Go.Maps Go.Sort

/-- slices.Sort turns the slice's own block alone. -/
theorem sortK_c {w : World} {base : Nat} {v : Value} {l : List Int} (h : Own w base v l) (hn : l.length ≤ 100000) :
    Calls Tryz.prog 75 #[v] w fun e w' => e = .returned (.tuple #[]) ∧ Own w' base v (srt l) ∧ Tk.Kp (fun b => v.ownBlock = some b) w w' := by
  rcases h.2 with ⟨rfl, h0⟩ | ⟨g, cap, cur, rfl, hg, hh, h1, h2, h3, h4⟩
  · have hc := Any.slices_Sort_int_none Tryz.laysSort none 0 w
    change Calls Tryz.prog 75 _ _ _ at hc
    refine hc.mono ?_
    rintro e w' ⟨rfl, e2⟩
    subst e2
    refine ⟨rfl, ?_, Tk.Kp.refl _ _⟩
    have : l = [] := List.eq_nil_of_length_eq_zero h0
    subst this
    rw [show srt [] = [] by simp [srt]]
    exact own_nil _ _
  · have hH : Holds (Value.int .i64) w g 0 l.toArray := holds_of_blockI hh (by rw [Nat.mul_one] at h4; exact h4)
    have hc := Any.slices_Sort_int Tryz.laysSort g 0 cap l w hH (Array.getElem?_eq_some_iff.1 hh).1 (by omega)
    change Calls Tryz.prog 75 _ _ _ at hc
    refine hc.mono ?_
    rintro e w' ⟨rfl, n, os, rfl⟩
    refine ⟨rfl, ?_, ?_⟩
    · have := ownsRow_sortedI (n := n) (os := os) (ts := srt l) (srt_len l) hg hh h1 h2 h3
      unfold Own
      rw [srt_len]; exact this
    · exact (Tk.Kp.grown (grownBy_sortedI _)).mono (fun k _ e => e.symm)
/-- Rows by rising ids. -/
def sRw (l : List Rw) : List Rw := l.mergeSort fun x y => decide (x.1 ≤ y.1)
theorem sRw_perm (l : List Rw) : (sRw l).Perm l := List.mergeSort_perm _ _
theorem sRw_ids (l : List Rw) : idsOf (sRw l) = srt (idsOf l) := by
  unfold idsOf sRw srt
  exact List.map_mergeSort (fun _ _ _ _ => rfl)
theorem SAt.sorted {w0 W W' : World} {T : Nat → Pt} {N sb hb k : Nat} {vq : Value} {q : List Int} {bud : Nat} {seen : List Rw} {O M : List (Nat × Pt)} {vs vo vh : Value} (h : SAt w0 W T N sb hb k vq q bud seen O M vs vo vh) (ho : Own W' w0.heap.size vs (srt (idsOf seen))) (kp : Tk.Kp (fun b => vs.ownBlock = some b) W W') : SAt w0 W' T N sb hb k vq q bud (sRw seen) O M vs vo vh := by
  have nn : ∀ {b : Nat} {t : TypeId}, Ty W b t → t ≠ 3 → ¬ vs.ownBlock = some b := fun ht hne e => ht.ne (h.tvs e) hne rfl
  refine ⟨by rw [kp.block sb (Array.getElem?_eq_some_iff.1 h.blk).1 (nn h.tsb (by decide))]; exact h.blk, h.sbB, h.hbB, ?_, h.hhB, by rw [sRw_ids]; exact ho, own_kpR h.op kp (fun g e => nn (h.tvo e) (by decide)), h.sub, fun x hx => (h.prt x hx).kp kp (nn (h.tp hx) (by decide)), h.gb.trans (kp.gr h.gb.size (fun b e => (h.sn.lt b e).1)), h.q, by rw [(sRw_perm seen).length_eq]; exact h.few, h.ofew⟩
  have e : Tk.firsts k (hitsOf q (sRw seen)) = Tk.firsts k (hitsOf q seen) := Tk.firsts_perm k ((sRw_perm seen).map _)
  rw [e]
  exact h.has.kp kp (nn h.thb (by decide)) (fun g e => nn (h.tvh e) (by decide))
/-- Regions in memory of the call's own. -/
def RgAt (W : World) (B : Nat) (v : Value) (l : List Reg) : Prop := ∃ xs, W.ownsRow B 102 6 v l.length xs ∧ ∀ i (_ : i < l.length), ∃ v1 v3, l[i].S = 3 ∧ l[i].H = [] ∧ xs[i * 6]? = some (.int .i64 3) ∧ xs[i * 6 + 1]? = some v1 ∧ xs[i * 6 + 2]? = some (.slice none 0 0) ∧ xs[i * 6 + 3]? = some (.int .u64 (hi l[i].R)) ∧ xs[i * 6 + 4]? = some (.int .u64 (lo l[i].R)) ∧ xs[i * 6 + 5]? = some v3 ∧ Own W B v1 l[i].L ∧ Own W B v3 l[i].I
theorem RgAt.kp {S : Nat → Prop} {W W' : World} {B : Nat} {v : Value} {l : List Reg} (h : RgAt W B v l) (k : Tk.Kp S W W') (hS : NoInt W S) (hn : ∀ g, v.ownBlock = some g → ¬ S g) : RgAt W' B v l := by
  obtain ⟨xs, h1, h2⟩ := h
  refine ⟨xs, own_kpR h1 k hn, fun i hi' => ?_⟩
  obtain ⟨v1, v3, s, r, a, b, c, d, e, f, o1, o3⟩ := h2 i hi'
  exact ⟨v1, v3, s, r, a, b, c, d, e, f, own_noint o1 k hS, own_noint o3 k hS⟩
theorem RgAt.gb {W W' : World} {B : Nat} {v : Value} {l : List Reg} (h : RgAt W B v l) (g : Gb W W') : RgAt W' B v l := h.kp (kpF g) (noF _) (fun _ _ h => h)
theorem RgAt.ty {W : World} {B : Nat} {v : Value} {l : List Reg} (h : RgAt W B v l) {g : Nat} (hg : v.ownBlock = some g) : Ty W g 102 := by
  obtain ⟨xs, h1, _⟩ := h
  exact own_ty h1 hg
theorem RgAt.form {W : World} {B : Nat} {v : Value} {l : List Reg} (h : RgAt W B v l) : ∃ a c, v = .slice a l.length c := by
  obtain ⟨xs, h1, _⟩ := h
  rcases h1.2 with ⟨e, h0⟩ | ⟨g, cap, cur, e, _⟩
  · exact ⟨none, 0, by rw [e, h0]⟩
  · exact ⟨_, cap, e⟩
theorem Tryz.info_regn : (Tryz.prog.info? 102).map (fun i => (i.zero, i.size, i.bytes)) = some (some (.agg #[.int .i64 0, .slice none 0 0, .slice none 0 0, .int .u64 0, .int .u64 0, .slice none 0 0]), 6, 96) := by kernel_rfl
theorem info_regn : ∃ i0, Tryz.prog.info? 102 = some i0 ∧ i0.zero = some (.agg #[.int .i64 0, .slice none 0 0, .slice none 0 0, .int .u64 0, .int .u64 0, .slice none 0 0]) ∧ i0.size = 6 ∧ i0.bytes = 96 := by
  have h := Tryz.info_regn
  cases hi : Tryz.prog.info? 102 with
  | none => rw [hi] at h; cases h
  | some i =>
    rw [hi] at h
    simp only [Option.map_some, Option.some.injEq, Prod.mk.injEq] at h
    exact ⟨i, rfl, h.1, h.2.1, h.2.2⟩
/-- One more region. -/
theorem RgAt.next {W : World} {B : Nat} {v v1 v3 : Value} {l : List Reg} {L I : List Int} {R : Nat} (h : RgAt W B v l) (hl : l.length ≤ 10000) (hB : B ≤ W.heap.size) (o1 : Own W B v1 L) (o3 : Own W B v3 I) :
    ∃ g n c W', (Builtin.append_ #[49, 49] 49 #[v, .slice (some ⟨W.heap.size, 0, none⟩) 1 1]).run Tryz.prog (W.alloc (.cells #[.int .i64 3, v1, .slice none 0 0, .int .u64 (hi R), .int .u64 (lo R), v3] 102)) = .ok (.slice (some ⟨g, 0, none⟩) n c) W' ∧ RgAt W' B (.slice (some ⟨g, 0, none⟩) n c) (l ++ [⟨3, L, [], R, I⟩]) ∧ Tk.Kp (fun b => v.ownBlock = some b) (W.alloc (.cells #[.int .i64 3, v1, .slice none 0 0, .int .u64 (hi R), .int .u64 (lo R), v3] 102)) W' := by
  obtain ⟨xs, h1, h2⟩ := h
  obtain ⟨i0, hi0, hz0, hz1, hz2⟩ := info_regn
  have gA : Gb W (W.alloc (.cells #[.int .i64 3, v1, .slice none 0 0, .int .u64 (hi R), .int .u64 (lo R), v3] 102)) := gb_alloc (Below.refl _ _) _
  have hcl : ∀ j u, [Value.int .i64 3, v1, .slice none 0 0, .int .u64 (hi R), .int .u64 (lo R), v3][j]? = some u → (W.alloc (.cells #[.int .i64 3, v1, .slice none 0 0, .int .u64 (hi R), .int .u64 (lo R), v3] 102)).cell? ((⟨W.heap.size, 0, none⟩ : Addr).add j) = some u := by
    intro j u hj
    rw [Addr.add_lit, Nat.zero_add]
    exact cell_cur (heap_new W _) (by simpa using hj)
  obtain ⟨v', W', hr, hown, hgrow, hnn, _⟩ := run_append_own_at (P := Tryz.prog) (W.alloc (.cells #[.int .i64 3, v1, .slice none 0 0, .int .u64 (hi R), .int .u64 (lo R), v3] 102)) B 49 49 102 i0 (.agg #[.int .i64 0, .slice none 0 0, .slice none 0 0, .int .u64 0, .int .u64 0, .slice none 0 0]) 6 96 Tryz.underlying49 hi0 hz0 hz1 hz2 rfl (by decide)
    v l.length xs (own_kpR h1 (kpF gA) (fun _ _ h => h)) ⟨W.heap.size, 0, none⟩ 1 1 [.int .i64 3, v1, .slice none 0 0, .int .u64 (hi R), .int .u64 (lo R), v3] rfl hcl (by
      intro y hy
      simp only [List.mem_cons, List.not_mem_nil, or_false] at hy
      rcases hy with rfl | rfl | rfl | rfl | rfl | rfl
      · rfl
      · exact own_one o1
      · rfl
      · rfl
      · rfl
      · exact own_one o3) (by simp only [maxLen]; omega) (by omega) (by have := gA.size; omega)
  obtain ⟨g, n, c, ev⟩ : ∃ g n c, v' = .slice (some ⟨g, 0, none⟩) n c := by
    rcases hown.2 with ⟨e, _⟩ | ⟨g, cap, cur, e, _⟩
    · exact absurd (hnn.1 e).2 (by decide)
    · exact ⟨g, _, cap, e⟩
  subst ev
  have kp : Tk.Kp (fun b => v.ownBlock = some b) (W.alloc (.cells #[.int .i64 3, v1, .slice none 0 0, .int .u64 (hi R), .int .u64 (lo R), v3] 102)) W' := ⟨hgrow.os, hgrow.tape, hgrow.output, hgrow.size, fun k hk hn => hgrow.block k hk (fun e => hn e.symm)⟩
  have lift : ∀ {u : Value} {x : List Int}, Own W B u x → Own W' B u x := fun ho => by
    refine own_kpI (own_kpI ho (kpF gA) (fun _ _ h => h)) kp (fun b e e2 => ?_)
    have t1 : Ty W b 3 := own_ty ho e
    exact t1.ne (own_ty h1 e2) (by decide) rfl
  refine ⟨g, n, c, W', hr, ⟨xs ++ [.int .i64 3, v1, .slice none 0 0, .int .u64 (hi R), .int .u64 (lo R), v3], by rw [List.length_append]; exact hown, fun i hi' => ?_⟩, kp⟩
  have hxl := h1.1
  rw [List.length_append] at hi'
  by_cases e : i < l.length
  · obtain ⟨u1, u3, s, r, a, b, cc, d, e', f, p1, p3⟩ := h2 i e
    rw [List.getElem_append_left e]
    refine ⟨u1, u3, s, r, ?_, ?_, ?_, ?_, ?_, ?_, lift p1, lift p3⟩ <;> (rw [List.getElem?_append_left (by omega)]; assumption)
  · have e' : i = l.length := by simp at hi'; omega
    subst e'
    have eg : (l ++ [(⟨3, L, [], R, I⟩ : Reg)])[l.length]'(by simp) = ⟨3, L, [], R, I⟩ := by simp
    rw [eg]
    refine ⟨v1, v3, rfl, rfl, ?_, ?_, ?_, ?_, ?_, ?_, lift o1, lift o3⟩
    · rw [List.getElem?_append_right (by omega), hxl, Nat.sub_self]; rfl
    · rw [List.getElem?_append_right (by omega), show l.length * 6 + 1 - xs.length = 1 by omega]; rfl
    · rw [List.getElem?_append_right (by omega), show l.length * 6 + 2 - xs.length = 2 by omega]; rfl
    · rw [List.getElem?_append_right (by omega), show l.length * 6 + 3 - xs.length = 3 by omega]; rfl
    · rw [List.getElem?_append_right (by omega), show l.length * 6 + 4 - xs.length = 4 by omega]; rfl
    · rw [List.getElem?_append_right (by omega), show l.length * 6 + 5 - xs.length = 5 by omega]; rfl
/-- What an answer tells of a part. -/
def regP (T : Nat → Pt) (N : Nat) (p : Pt) : Reg := ⟨3, p.reg.L, [], p.reg.R, srt (idsOf (rowsP T N p))⟩
/-- Behind j rounds of the answer's loop. -/
structure AnI (w0 : World) (T : Nat → Pt) (N sb hb k : Nat) (vq : Value) (q : List Int) (bud : Nat) (seen : List Rw) (O M : List (Nat × Pt)) (vs vo vh : Value) (rb kb bb : Nat) (regs : List Reg) (W : World) (vr : Value) : Prop where
  st : SAt w0 W T N sb hb k vq q bud seen O M vs vo vh
  r : W.heap[rb]? = some (.cells #[.slice none 0 0, .slice none 0 0, .slice none 0 0] 51 (0, 0))
  kk : W.heap[kb]? = some (.cells #[vr] 49 (0, 0))
  b : W.heap[bb]? = some (.cells #[vo] 89 (0, 0))
  rg : RgAt W w0.heap.size vr regs
  rbB : w0.heap.size ≤ rb
  kbB : w0.heap.size ≤ kb
theorem AnI.kp {S : Nat → Prop} {w0 : World} {T : Nat → Pt} {N sb hb k : Nat} {vq : Value} {q : List Int} {bud : Nat} {seen : List Rw} {O M : List (Nat × Pt)} {vs vo vh : Value} {rb kb bb : Nat} {regs : List Reg} {W W' : World} {vr : Value} (h : AnI w0 T N sb hb k vq q bud seen O M vs vo vh rb kb bb regs W vr) (kp : Tk.Kp S W W') (hS : ∀ b, S b → w0.heap.size ≤ b) (hc : ∀ b t, Ty W b t → ¬ S b) : AnI w0 T N sb hb k vq q bud seen O M vs vo vh rb kb bb regs W' vr := by
  have blk : ∀ {b : Nat} {c : Array Value} {t : TypeId} {s : Nat × Nat}, W.heap[b]? = some (.cells c t s) → W'.heap[b]? = some (.cells c t s) := fun {b c t s} e => by
    rw [kp.block b (Array.getElem?_eq_some_iff.1 e).1 (hc b t ⟨c, s, e⟩)]; exact e
  refine ⟨h.st.kp kp hS (hc _ _ h.st.tsb) (hc _ _ h.st.thb) (fun g e => hc _ _ (h.st.tvh e)) (fun g e => hc _ _ (h.st.tvs e)) (fun g e => hc _ _ (h.st.tvo e)) (fun x hx => hc _ _ (h.st.tp hx)), blk h.r, blk h.kk, blk h.b, ?_, h.rbB, h.kbB⟩
  refine h.rg.kp kp (fun b hb' cur s e => hc b _ ⟨cur, s, e⟩ hb') (fun g e => hc _ _ (h.rg.ty e))
end Go.Proofs.YtepjbdklljlecaaGreat

/- (*vptree.search).answer. -/
namespace Go.Proofs.YtepjbdklljlecaaGreat
open Go.RowKit Go.Shelf Go.Maps Go.Sort
attribute [local go_sem] Oper.semAt_some

/-- An answer in memory that w0 has not. -/
structure AnsK (w0 W' : World) (vh vs vr : Value) (hits : List Tk.Ht) (ids : List Int) (regs : List Reg) : Prop where
  gb : Gb w0 W'
  hits : Tk.Own W' vh hits.toArray
  hB : ∀ g, vh.ownBlock = some g → w0.heap.size ≤ g
  seen : Own W' w0.heap.size vs ids
  rest : RgAt W' w0.heap.size vr regs
theorem anI_from {w0 : World} {T : Nat → Pt} {N sb hb k : Nat} {vq : Value} {q : List Int} {bud : Nat} {seen : List Rw} {O M : List (Nat × Pt)} {vs vo vh : Value} {rb kb bb : Nat} {regs : Nat → List Reg} {B : Nat} (hB : w0.heap.size ≤ B) :
    OwnFrom B (fun (j : Nat) W => ∃ vr, AnI w0 T N sb hb k vq q bud seen O M vs vo vh rb kb bb (regs j) W vr) := by
  rintro j W W' row ⟨vr, h⟩ hg hr
  refine ⟨vr, h.kp (Tk.Kp.grown hg) (fun b e => ?_) (fun b t ht e => ?_)⟩
  · have := (hr b e.symm).1
    omega
  · obtain ⟨_, o, ho, hc⟩ := hr b e.symm
    obtain ⟨c, s, e2⟩ := ht
    rw [e2] at ho
    injection ho with ho
    subst ho
    cases hc
theorem blk_from {B p : Nat} {ob : Nat → Array Value} {ty : TypeId} {I : Nat → World → Prop} (hI : OwnFrom B I) : OwnFrom B (fun (j : Nat) W => I j W ∧ W.heap[p]? = some (.cells (ob j) ty (0, 0))) := by
  rintro j W W' row ⟨h1, h2⟩ hg hr
  refine ⟨hI j W W' row h1 hg hr, ?_⟩
  rw [hg.block p (Array.getElem?_eq_some_iff.1 h2).1 (fun e => ?_)]
  · exact h2
  · obtain ⟨_, o, ho, hc⟩ := hr p e.symm
    rw [h2] at ho
    injection ho with ho
    subst ho
    cases hc
set_option maxHeartbeats 4000000 in
set_option maxRecDepth 100000 in
theorem answer_c {w0 W : World} {T : Nat → Pt} {d N sb hb k : Nat} {vq : Value} {q : List Int} {bud : Nat} {seen : List Rw} {O M : List (Nat × Pt)} {vs vo vh : Value} (h : SAt w0 W T N sb hb k vq q bud seen O M vs vo vh) (hok : ∀ p ∈ opn O, OkP T d N p ∧ (rowsP T N p).length ≤ 512) :
    Calls Tryz.prog 43 #[.pointer (some ⟨sb, 0, none⟩)] W fun e W' => ∃ vh' vs' vr', e = .returned (.agg #[vh', vs', vr']) ∧ AnsK w0 W' vh' vs' vr' (Tk.firsts k (hitsOf q seen)) (srt (idsOf seen)) ((opn O).reverse.map (regP T N)) := by
  obtain ⟨sa, sc, es, _⟩ := h.sn.rd
  obtain ⟨oa, oc, eo, _⟩ := h.rdc
  have hil : (idsOf seen).length = seen.length := by unfold idsOf; rw [List.length_map]
  obtain ⟨W1, hW1⟩ : ∃ W1, W1 = W.alloc (.cells #[.slice none 0 0, .slice none 0 0, .slice none 0 0] 51) := ⟨_, rfl⟩
  have g1 : Gb W W1 := by rw [hW1]; exact gb_alloc (Below.refl _ _) _
  have h1 := h.grow g1
  have cS := sortK_c h1.sn (by rw [hil]; have := h.few; omega)
  have SX : Hid (∀ w2, Own w2 w0.heap.size vs (srt (idsOf seen)) → Tk.Kp (fun b => vs.ownBlock = some b) W1 w2 → AnI w0 T N sb hb k vq q bud (sRw seen) O M vs vo vh W.heap.size w2.heap.size (w2.heap.size + 1) [] ((w2.alloc (.cells #[.slice none 0 0] 49)).alloc (.cells #[vo] 89)) (.slice none 0 0) ∧ w0.heap.size ≤ w2.heap.size ∧ w2.cell? ⟨sb, 4, none⟩ = some vo) := by
    intro w2 ho kp
    have h2 := h1.sorted ho kp
    have g2 : Gb w2 ((w2.alloc (.cells #[.slice none 0 0] 49)).alloc (.cells #[vo] 89)) := gb_alloc (gb_alloc (Below.refl _ _) _) _
    have tr : W1.heap[W.heap.size]? = some (.cells #[.slice none 0 0, .slice none 0 0, .slice none 0 0] 51 (0, 0)) := by rw [hW1]; exact heap_new W _
    have nn : ∀ {b : Nat} {t : TypeId}, Ty W1 b t → t ≠ 3 → ¬ vs.ownBlock = some b := fun ht hne e => ht.ne (h1.tvs e) hne rfl
    have tr2 : w2.heap[W.heap.size]? = some (.cells #[.slice none 0 0, .slice none 0 0, .slice none 0 0] 51 (0, 0)) := by rw [kp.block W.heap.size (Array.getElem?_eq_some_iff.1 tr).1 (nn ⟨_, _, tr⟩ (by decide))]; exact tr
    have s0 := h.gb.size
    have s1 := g1.size
    have s2 := kp.size
    refine ⟨⟨h2.grow g2, ?_, ?_, ?_, ⟨[], ⟨rfl, .inl ⟨rfl, rfl⟩⟩, fun i hi' => absurd hi' (Nat.not_lt_zero _)⟩, by omega, by omega⟩, by omega, h2.cells.2.2.2.2.1⟩
    · rw [g2.block W.heap.size (Array.getElem?_eq_some_iff.1 tr2).1]; exact tr2
    · rw [(gb_alloc (Below.refl _ _) _ : Gb (w2.alloc (.cells #[.slice none 0 0] 49)) _).block w2.heap.size (by rw [World.size_alloc]; omega)]
      exact heap_new w2 _
    · have := heap_new (w2.alloc (.cells #[.slice none 0 0] 49)) (.cells #[vo] 89)
      rw [World.size_alloc] at this
      exact this
  have c3 := h1.cells.2.2.2.1
  have HH : Hid ((∀ p ∈ opn O, OkP T d N p ∧ (rowsP T N p).length ≤ 512) ∧ O.length ≤ 10000) := ⟨hok, h.ofew⟩
  subst es
  rw [hil] at *
  subst eo
  have CN : Hid (∀ w2, Calls Tryz.prog 76 #[.slice oa O.length oc] w2 fun e w' => e = .returned (.func (.func 108) #[] #[.pointer (some ⟨w2.heap.size, 0, none⟩)]) ∧ w2.alloc (.cells #[.slice oa O.length oc] 89) = w') := fun w2 => kback_c oa O.length oc w2
  obtain ⟨regs, hregs⟩ : ∃ regs, regs = (opn O).reverse.map (regP T N) := ⟨_, rfl⟩
  have RG : Hid (regs = (opn O).reverse.map (regP T N)) := hregs
  rw [← hregs]
  subst hW1
  clear h h1 g1 hok hregs
  refine (callsIn_wide (n := 4)).1 ?_
  refine callsIn_of_wp_marks Tryz.func43 rfl trivial ?_ rfl
  simp only [Tryz.ntmps43, List.size_toArray, List.length_cons, List.length_nil, Nat.reduceAdd, Nat.reduceSub, Array.replicate_succ, Array.replicate_zero, List.push_toArray, List.append_toArray, List.nil_append, List.cons_append]
  gi_wp2_with (first
    | (refine ⟨trivial, ?_⟩; gi_at_call 75; refine (callsIn_wide.2 cS).mono ?_; rintro e w2 ⟨rfl, ho2, kp2⟩; obtain ⟨hI0, hs0, c42⟩ := SX.out _ ho2 kp2; have c43 := gb_keeps (gb_alloc (Below.refl _ w2) (.cells #[.slice none 0 0] 49)) c42)
    | (refine ⟨trivial, ?_⟩; gi_at_call 76; refine (callsIn_wide.2 (CN.out _)).mono ?_; rintro e w3 ⟨rfl, hw3⟩))
  subst hw3
  have s2 := hs0
  clear cS SX CN ho2 kp2 c42 c43 c3
  have GV := back_gives 3 (by decide) (w2.heap.size + 1) (.slice oa O.length oc) q O HH.out.2 (fun j W' => ∃ vr, AnI w0 T N sb hb k vq q bud (sRw seen) O M (.slice sa seen.length sc) (.slice oa O.length oc) vh W.heap.size w2.heap.size (w2.heap.size + 1) (regs.take j) W' vr) (fun j W' h => by
    obtain ⟨vr, h⟩ := h
    exact ⟨h.b, h.st.rdc⟩)
  refine rangeB_c (gf := 108) (lb := #[.pointer (some ⟨(w2.heap.size + 1), 0, none⟩)]) rfl (enters_of Tryz.func108 (by kernel_rfl) rfl) O.length
    (fun j => #[.int .i64 ((O.length - 1 - j : Nat) : Int), cdV q (O.getD (O.length - 1 - j) pt0)]) (fun _ => rfl)
    (fun j W' => ∃ vr, AnI w0 T N sb hb k vq q bud (sRw seen) O M (.slice sa seen.length sc) (.slice oa O.length oc) vh W.heap.size w2.heap.size (w2.heap.size + 1) (regs.take j) W' vr) (fun j pp W' => (∃ vr, AnI w0 T N sb hb k vq q bud (sRw seen) O M (.slice sa seen.length sc) (.slice oa O.length oc) vh W.heap.size w2.heap.size (w2.heap.size + 1) (regs.take j) W' vr) ∧ W'.heap[pp]? = some (.cells #[.pointer (some ⟨(O.getD (O.length - 1 - j) pt0).1, 0, none⟩), .int .u64 (hi (bnd q (O.getD (O.length - 1 - j) pt0).2)), .int .u64 (lo (bnd q (O.getD (O.length - 1 - j) pt0).2))] 121))
    (fun j => (.cells #[.pointer (some ⟨(O.getD (O.length - 1 - j) pt0).1, 0, none⟩), .int .u64 (hi (bnd q (O.getD (O.length - 1 - j) pt0).2)), .int .u64 (lo (bnd q (O.getD (O.length - 1 - j) pt0).2))] 121))
    (anI_from (regs := fun j => regs.take j) (by simp [World.size_alloc]; omega)) (fun pp => blk_from (anI_from (regs := fun j => regs.take j) (by simp [World.size_alloc]; omega))) ⟨_, by rw [List.take_zero]; exact hI0⟩ (fun j W' _ ⟨vr, h⟩ => ⟨⟨vr, h.kp (kpF (gb_alloc (Below.refl _ _) _)) (fun _ h => h.elim) (fun _ _ _ h => h)⟩, heap_new _ _⟩) GV (fun j pp => { tmps := #[.pointer (some ⟨sb, 0, none⟩), undef, .pointer (some ⟨W.heap.size, 0, none⟩), .pointer (some ⟨w2.heap.size, 0, none⟩), undef, .pointer (some ⟨pp, 0, none⟩), .pointer (some ⟨sb, 0, none⟩), .pointer (some ⟨sb, 0, none⟩), .pointer (some ⟨sb, 3, none⟩), .slice sa seen.length sc, .tuple #[], .pointer (some ⟨sb, 0, none⟩), .pointer (some ⟨sb, 0, none⟩), .pointer (some ⟨sb, 4, none⟩), .slice oa O.length oc, .func (.func 108) #[] #[.pointer (some ⟨(w2.heap.size + 1), 0, none⟩)], .int .i64 ((O.length - 1 - j : Nat) : Int), cdV q (O.getD (O.length - 1 - j) pt0), undef, undef, undef, undef, undef, undef, undef, undef, undef, undef, undef, undef, undef, undef, undef, undef, undef], defers := [] }) ?assign ?body ?done
  case assign =>
    intro l j W' K hK
    generalize (O.getD (O.length - 1 - j) pt0) = x at *
    gi_wp2
    exact hK
  case body =>
    clear hI0 GV
    rintro l j pp W' hj ⟨⟨vr, hA⟩, hpp⟩
    have hlast : O.length - 1 - j < O.length := by omega
    rw [getD_at hlast] at hpp
    have hopl : (opn O).length = O.length := by unfold opn; rw [List.length_map]
    have hrv : ((opn O).reverse)[j]'(by rw [List.length_reverse, hopl]; exact hj) = O[O.length - 1 - j].2 := by
      rw [List.getElem_reverse]
      unfold opn
      simp only [List.getElem_map, List.length_map]
    have hpm : O[O.length - 1 - j] ∈ O := List.getElem_mem hlast
    have hpo : O[O.length - 1 - j].2 ∈ opn O := by rw [← hrv]; exact List.mem_reverse.1 (List.getElem_mem _)
    obtain ⟨okp, hrl⟩ := HH.out.1 _ hpo
    have hmp := hA.st.prt _ (hA.st.sub _ hpm)
    obtain ⟨x, hx⟩ : ∃ x, x = O[O.length - 1 - j] := ⟨_, rfl⟩
    have HX : Hid ((O.getD (O.length - 1 - j) pt0) = x) := by unfold Hid; rw [getD_at hlast, hx]
    rw [← hx] at hmp hpp okp hrl hrv
    obtain ⟨pb, p⟩ := x
    dsimp only at hmp hpp okp hrl hrv
    have gD : Gb W' W'.drew := (Below.refl _ _).drew
    have hAd : AnI w0 T N sb hb k vq q bud (sRw seen) O M (.slice sa seen.length sc) (.slice oa O.length oc) vh W.heap.size w2.heap.size (w2.heap.size + 1) (regs.take j) W'.drew vr := hA.kp (kpF gD) (fun _ h => h.elim) (fun _ _ _ h => h)
    have cR := region_c (hmp.gb gD) okp hAd.st.gb hrl
    obtain ⟨ra, rc, er⟩ := hA.rg.form
    have hrn : (regs.take j).length ≤ 10000 := by rw [List.length_take]; have := HH.out.2; omega
    have etk : regs.take (j + 1) = regs.take j ++ [⟨3, p.reg.L, [], p.reg.R, srt (idsOf (rowsP T N p))⟩] := by
      have hjr : j < regs.length := by rw [RG.out, List.length_map, List.length_reverse, hopl]; exact hj
      rw [List.take_succ_eq_append_getElem hjr]
      congr 2
      have : regs[j] = regP T N p := by simp only [RG.out, List.getElem_map, hrv]
      rw [this]; rfl
    obtain ⟨rh, hrh⟩ : ∃ rh, rh = hi p.reg.R := ⟨_, rfl⟩
    obtain ⟨rl, hrl'⟩ : ∃ rl, rl = lo p.reg.R := ⟨_, rfl⟩
    have tpp : Ty W'.drew pp 121 := ⟨_, _, hpp⟩
    have RX : Hid (∀ e w5, RegO W'.drew p.reg.L p.reg.R (srt (idsOf (rowsP T N p))) e w5 → ∃ a1 n1 c1 a3 n3 c3, e = .returned (.agg #[.int .i64 3, .slice a1 n1 c1, .slice none 0 0, .int .u64 rh, .int .u64 rl, .slice a3 n3 c3]) ∧ ((fun W0 => W0.cell? ⟨pp, 0, none⟩ = some (.pointer (some ⟨pb, 0, none⟩))) w5) ∧ ∃ g9 n9 c9 W6, (Builtin.append_ #[49, 49] 49 #[vr, .slice (some ⟨w5.heap.size, 0, none⟩) 1 1]).run Tryz.prog (w5.alloc (.cells #[.int .i64 3, .slice a1 n1 c1, .slice none 0 0, .int .u64 rh, .int .u64 rl, .slice a3 n3 c3] 102)) = .ok (.slice (some ⟨g9, 0, none⟩) n9 c9) W6 ∧
        Hid (((fun W0 => W0.cell? ⟨pp, 0, none⟩ = some (.pointer (some ⟨pb, 0, none⟩))) (w5.alloc (.cells #[.int .i64 3, .slice a1 n1 c1, .slice none 0 0, .int .u64 rh, .int .u64 rl, .slice a3 n3 c3] 102)) → (fun W0 => W0.cell? ⟨pp, 0, none⟩ = some (.pointer (some ⟨pb, 0, none⟩))) W6) ∧ ((fun W0 => W0.cell? ⟨pp, 0, none⟩ = some (.pointer (some ⟨pb, 0, none⟩))) W6 → (fun W0 => W0.cell? ⟨pp, 0, none⟩ = some (.pointer (some ⟨pb, 0, none⟩))) (W6.setCell ⟨w2.heap.size, 0, none⟩ (.slice (some ⟨g9, 0, none⟩) n9 c9)))) ∧
        w5.cell? ⟨w2.heap.size, 0, none⟩ = some vr ∧ (w5.alloc (.cells #[.int .i64 3, .slice a1 n1 c1, .slice none 0 0, .int .u64 rh, .int .u64 rl, .slice a3 n3 c3] 102)).cell? ⟨w2.heap.size, 0, none⟩ = some vr ∧ (∃ y, W6.cell? ⟨w2.heap.size, 0, none⟩ = some y) ∧ W6.frozen? ⟨w2.heap.size, 0, none⟩ = false ∧ Hid (KeepsOthers W' (W6.setCell ⟨w2.heap.size, 0, none⟩ (.slice (some ⟨g9, 0, none⟩) n9 c9)) ∧ ∃ vr', AnI w0 T N sb hb k vq q bud (sRw seen) O M (.slice sa seen.length sc) (.slice oa O.length oc) vh W.heap.size w2.heap.size (w2.heap.size + 1) (regs.take (j + 1)) (W6.setCell ⟨w2.heap.size, 0, none⟩ (.slice (some ⟨g9, 0, none⟩) n9 c9)) vr')) := by
      rintro e w5 ⟨v1, v3, rfl, g5, o1, o3⟩
      obtain ⟨a1, n1, c1, rfl⟩ := form_own o1
      obtain ⟨a3, n3, c3, rfl⟩ := form_own o3
      have hA5 := hAd.kp (kpF g5) (fun _ h => h.elim) (fun _ _ _ h => h)
      have sB := hAd.st.gb.size
      obtain ⟨g9, n9, c9, W6, hrun, hrg, kp6⟩ := hA5.rg.next (R := p.reg.R) hrn hA5.st.gb.size (o1.mono sB) (o3.mono sB)
      rw [← hrh, ← hrl'] at hrun kp6
      have gO : Gb w5 (w5.alloc (.cells #[.int .i64 3, .slice a1 n1 c1, .slice none 0 0, .int .u64 rh, .int .u64 rl, .slice a3 n3 c3] 102)) := gb_alloc (Below.refl _ _) _
      have hA6 := hA5.kp (kpF gO) (fun _ h => h.elim) (fun _ _ _ h => h)
      have tp6 : Ty (w5.alloc (.cells #[.int .i64 3, .slice a1 n1 c1, .slice none 0 0, .int .u64 rh, .int .u64 rl, .slice a3 n3 c3] 102)) pp 121 := (tpp.gb g5).gb gO
      have nn : ∀ {b : Nat} {t : TypeId}, Ty (w5.alloc (.cells #[.int .i64 3, .slice a1 n1 c1, .slice none 0 0, .int .u64 rh, .int .u64 rl, .slice a3 n3 c3] 102)) b t → t ≠ 102 → ¬ vr.ownBlock = some b := fun ht hne e => ht.ne (hA6.rg.ty e) hne rfl
      have blk : ∀ {b : Nat} {c : Array Value} {t : TypeId} {s : Nat × Nat}, (w5.alloc (.cells #[.int .i64 3, .slice a1 n1 c1, .slice none 0 0, .int .u64 rh, .int .u64 rl, .slice a3 n3 c3] 102)).heap[b]? = some (.cells c t s) → t ≠ 102 → W6.heap[b]? = some (.cells c t s) := fun {b c t s} e hne => by
        rw [kp6.block b (Array.getElem?_eq_some_iff.1 e).1 (nn ⟨c, s, e⟩ hne)]; exact e
      have kk6 := blk hA6.kk (by decide)
      have k7 : Tk.Kp (fun b => b = w2.heap.size) W6 (W6.setCell ⟨w2.heap.size, 0, none⟩ (.slice (some ⟨g9, 0, none⟩) n9 c9)) := (Tk.Kp.refl (fun b => b = w2.heap.size) W6).setCell (.inl rfl) _
      have ne : ∀ {b : Nat} {t : TypeId}, Ty (w5.alloc (.cells #[.int .i64 3, .slice a1 n1 c1, .slice none 0 0, .int .u64 rh, .int .u64 rl, .slice a3 n3 c3] 102)) b t → t ≠ 49 → ¬ b = w2.heap.size := fun ht hne e => ht.ne ⟨_, _, hA6.kk⟩ hne e
      have blk7 : ∀ {b : Nat} {c : Array Value} {t : TypeId} {s : Nat × Nat}, (w5.alloc (.cells #[.int .i64 3, .slice a1 n1 c1, .slice none 0 0, .int .u64 rh, .int .u64 rl, .slice a3 n3 c3] 102)).heap[b]? = some (.cells c t s) → t ≠ 102 → t ≠ 49 → (W6.setCell ⟨w2.heap.size, 0, none⟩ (.slice (some ⟨g9, 0, none⟩) n9 c9)).heap[b]? = some (.cells c t s) := fun {b c t s} e h1 h2 => by
        have e6 := blk e h1
        rw [k7.block b (Array.getElem?_eq_some_iff.1 e6).1 (ne ⟨c, s, e⟩ h2)]; exact e6
      have kS : Tk.Kp (fun b => vr.ownBlock = some b ∨ b = w2.heap.size) (w5.alloc (.cells #[.int .i64 3, .slice a1 n1 c1, .slice none 0 0, .int .u64 rh, .int .u64 rl, .slice a3 n3 c3] 102)) (W6.setCell ⟨w2.heap.size, 0, none⟩ (.slice (some ⟨g9, 0, none⟩) n9 c9)) := (kp6.mono (fun b _ h => .inl h)).trans (k7.mono (fun b _ h => .inr h))
      have nS : ∀ {b : Nat} {t : TypeId}, Ty (w5.alloc (.cells #[.int .i64 3, .slice a1 n1 c1, .slice none 0 0, .int .u64 rh, .int .u64 rl, .slice a3 n3 c3] 102)) b t → t ≠ 102 → t ≠ 49 → ¬ (vr.ownBlock = some b ∨ b = w2.heap.size) := fun ht h1 h2 e => by
        rcases e with e | e
        · exact nn ht h1 e
        · exact ne ht h2 e
      refine ⟨a1, n1, c1, a3, n3, c3, by rw [hrh, hrl'], gb_keeps g5 (cell_cur hpp rfl), g9, n9, c9, W6, hrun, ⟨fun a => kp6.cell a (nn tp6 (by decide)), fun a => k7.cell a (ne tp6 (by decide))⟩, cell_cur hA5.kk rfl, gb_keeps gO (cell_cur hA5.kk rfl), ⟨_, cell_cur kk6 rfl⟩, by simp [World.frozen?, kk6], ?_, .slice (some ⟨g9, 0, none⟩) n9 c9, ?_⟩
      · refine ⟨by have := gD.size; have := g5.size; have := gO.size; have := kS.size; omega, fun b o hb ho => ?_⟩
        have hb6 : (w5.alloc (.cells #[.int .i64 3, .slice a1 n1 c1, .slice none 0 0, .int .u64 rh, .int .u64 rl, .slice a3 n3 c3] 102)).heap[b]? = some o := gb_same gO (gb_same g5 (gb_same gD hb))
        rw [kS.block b (Array.getElem?_eq_some_iff.1 hb6).1 (fun e => ?_)]
        · exact hb6
        · rcases e with e | e
          · obtain ⟨c, s, e2⟩ := hA6.rg.ty e
            rw [e2] at hb6; injection hb6 with hb6; subst hb6; cases ho
          · rw [e, hA6.kk] at hb6; injection hb6 with hb6; subst hb6; cases ho
      · rw [etk]
        refine ⟨hA6.st.kp kS (fun b e => ?_) (nS hA6.st.tsb (by decide) (by decide)) (nS hA6.st.thb (by decide) (by decide)) (fun g e => nS (hA6.st.tvh e) (by decide) (by decide)) (fun g e => nS (hA6.st.tvs e) (by decide) (by decide)) (fun g e => nS (hA6.st.tvo e) (by decide) (by decide)) (fun y hy => nS (hA6.st.tp hy) (by decide) (by decide)), blk7 hA6.r (by decide) (by decide), by simp [World.setCell, Array.getElem?_modify, kk6], blk7 hA6.b (by decide) (by decide), ?_, hA.rbB, hA.kbB⟩
        · rcases e with e | e
          · obtain ⟨xs, h1, _⟩ := hA6.rg
            exact (h1.lt b e).1
          · rw [e]; exact hA.kbB
        · refine hrg.kp k7 (fun b e cur s hc => ?_) (fun g e => ?_)
          · rw [e, kk6] at hc; injection hc with hc; injection hc with _ hc _; revert hc; decide
          · exact (hrg.ty e).ne ⟨_, _, kk6⟩ (by decide)
    have l0 : W'.drew.cell? ⟨w2.heap.size, 0, none⟩ = some vr := cell_cur hAd.kk rfl
    have FS5 : (fun W0 => W0.cell? ⟨pp, 0, none⟩ = some (.pointer (some ⟨pb, 0, none⟩))) W'.drew := cell_cur hpp rfl
    subst er
    clear hA hAd gD hmp okp hrl hrv etk tpp hpp hpm hpo hopl hrn hlast hrh hrl' hx
    rw [HX.out]
    clear HX
    dsimp only [cdV]
    generalize hi (bnd q p) = xh at *
    generalize lo (bnd q p) = xl at *
    generalize (regs.take j).length = rn at *
    gi_wp2
    refine regIn_round (S := fun W0 => W0.cell? ⟨pp, 0, none⟩ = some (.pointer (some ⟨pb, 0, none⟩))) (by kernel_rfl) (by rintro ⟨_, _, h⟩; exact h) (by kernel_rfl) FS5 (fun hHeld => ?_)
    refine wpAnyH_take (i := 1) (v := ?_) rfl (by kernel_rfl) (by kernel_rfl) (by kernel_rfl) (fun _ _ _ h => h) (Or.inl ⟨by rfl, ?_⟩) (by assumption) ?_
    rotate_left 1
    · (intro w hSw; (have s0 := hSw); go_simp; try with_reducible rfl)
    refine wpAnyH_take (i := 2) (v := ?_) rfl (by kernel_rfl) (by kernel_rfl) (by kernel_rfl) (fun _ _ _ h => h) (Or.inl ⟨by rfl, ?_⟩) (by assumption) ?_
    rotate_left 1
    · (intro w hSw; (have s0 := hSw); go_simp; try with_reducible rfl)
    refine wpAnyH_ready (rs := [0, 3]) (by kernel_rfl) (by simp) ?_
    refine AllReadyH.cons rfl (fun K hK => ?_) (AllReadyH.cons rfl (fun K hK => ?_) AllReadyH.nil)
    · go_simp
      refine hK.out _ _ (hHeld) (fun hHeld => ?_)
      clear hK K
      refine wpAnyH_ready (rs := [3]) (by kernel_rfl) (by simp) ?_
      refine AllReadyH.cons rfl (fun K hK => ?_) AllReadyH.nil
      go_simp
      go_fit cR
      rintro e w5 hO
      obtain ⟨a1, n1, c1, a3, n3, c3, rfl, K9, g9, n9, c9', W6, hrun, K11, lk, lka, ⟨y9, z9⟩, fz9, FIN⟩ := RX.out _ _ hO
      clear hO cR RX
      refine hK.out _ _ (K9) (fun hHeld => ?_)
      clear hK K
      refine wpAnyH_ready (rs := [4]) (by kernel_rfl) (by simp) ?_
      refine AllReadyH.cons rfl (fun K hK => ?_) AllReadyH.nil
      go_simp
      refine hK.out _ _ (gb_keeps (gb_alloc (Below.refl _ _) _) hHeld) (fun hHeld => ?_)
      clear hK K
      refine wpAnyH_ready (rs := [5]) (by kernel_rfl) (by simp) ?_
      refine AllReadyH.cons rfl (fun K hK => ?_) AllReadyH.nil
      refine app_run (by rfl) _ _ _ (by rfl) ⟨.slice ra rn rc, .slice (some ⟨w5.heap.size, 0, none⟩) 1 1, _, _, (by go_simp), (by go_simp), hrun, ?_⟩
      refine hK.out _ _ (K11.out.1 hHeld) (fun hHeld => ?_)
      clear hK K
      refine wpAnyH_ready (rs := [6]) (by kernel_rfl) (by simp) ?_
      refine AllReadyH.cons rfl (fun K hK => ?_) AllReadyH.nil
      go_simp
      refine hK.out _ _ (K11.out.2 hHeld) (fun hHeld => ?_)
      clear hK K
      refine wpAnyH_done (by kernel_rfl) ?_ _
      exact FIN.out
    · go_simp
      go_fit cR
      rintro e w5 hO
      obtain ⟨a1, n1, c1, a3, n3, c3, rfl, K9, g9, n9, c9', W6, hrun, K11, lk, lka, ⟨y9, z9⟩, fz9, FIN⟩ := RX.out _ _ hO
      clear hO cR RX
      refine hK.out _ _ (K9) (fun hHeld => ?_)
      clear hK K
      refine wpAnyH_ready (rs := [0, 4]) (by kernel_rfl) (by simp) ?_
      refine AllReadyH.cons rfl (fun K hK => ?_) (AllReadyH.cons rfl (fun K hK => ?_) AllReadyH.nil)
      · go_simp
        refine hK.out _ _ (hHeld) (fun hHeld => ?_)
        clear hK K
        refine wpAnyH_ready (rs := [4]) (by kernel_rfl) (by simp) ?_
        refine AllReadyH.cons rfl (fun K hK => ?_) AllReadyH.nil
        go_simp
        refine hK.out _ _ (gb_keeps (gb_alloc (Below.refl _ _) _) hHeld) (fun hHeld => ?_)
        clear hK K
        refine wpAnyH_ready (rs := [5]) (by kernel_rfl) (by simp) ?_
        refine AllReadyH.cons rfl (fun K hK => ?_) AllReadyH.nil
        refine app_run (by rfl) _ _ _ (by rfl) ⟨.slice ra rn rc, .slice (some ⟨w5.heap.size, 0, none⟩) 1 1, _, _, (by go_simp), (by go_simp), hrun, ?_⟩
        refine hK.out _ _ (K11.out.1 hHeld) (fun hHeld => ?_)
        clear hK K
        refine wpAnyH_ready (rs := [6]) (by kernel_rfl) (by simp) ?_
        refine AllReadyH.cons rfl (fun K hK => ?_) AllReadyH.nil
        go_simp
        refine hK.out _ _ (K11.out.2 hHeld) (fun hHeld => ?_)
        clear hK K
        refine wpAnyH_done (by kernel_rfl) ?_ _
        exact FIN.out
      · go_simp
        refine hK.out _ _ (gb_keeps (gb_alloc (Below.refl _ _) _) hHeld) (fun hHeld => ?_)
        clear hK K
        refine wpAnyH_ready (rs := [0]) (by kernel_rfl) (by simp) ?_
        refine AllReadyH.cons rfl (fun K hK => ?_) AllReadyH.nil
        go_simp
        refine hK.out _ _ (hHeld) (fun hHeld => ?_)
        clear hK K
        refine wpAnyH_ready (rs := [5]) (by kernel_rfl) (by simp) ?_
        refine AllReadyH.cons rfl (fun K hK => ?_) AllReadyH.nil
        refine app_run (by rfl) _ _ _ (by rfl) ⟨.slice ra rn rc, .slice (some ⟨w5.heap.size, 0, none⟩) 1 1, _, _, (by go_simp), (by go_simp), hrun, ?_⟩
        refine hK.out _ _ (K11.out.1 hHeld) (fun hHeld => ?_)
        clear hK K
        refine wpAnyH_ready (rs := [6]) (by kernel_rfl) (by simp) ?_
        refine AllReadyH.cons rfl (fun K hK => ?_) AllReadyH.nil
        go_simp
        refine hK.out _ _ (K11.out.2 hHeld) (fun hHeld => ?_)
        clear hK K
        refine wpAnyH_done (by kernel_rfl) ?_ _
        exact FIN.out
  case done =>
    clear hI0 GV
    rintro D W' hD ⟨vr, hA⟩ hK
    have hrl : regs.length = O.length := by rw [RG.out, List.length_map, List.length_reverse]; unfold opn; rw [List.length_map]
    rw [List.take_of_length_le (by omega)] at hA
    have gD : Gb W' W'.drew := (Below.refl _ _).drew
    have hAd : AnI w0 T N sb hb k vq q bud (sRw seen) O M (.slice sa seen.length sc) (.slice oa O.length oc) vh W.heap.size w2.heap.size (w2.heap.size + 1) regs W'.drew vr := hA.kp (kpF gD) (fun _ h => h.elim) (fun _ _ _ h => h)
    have efs : Tk.firsts k (hitsOf q (sRw seen)) = Tk.firsts k (hitsOf q seen) := Tk.firsts_perm k ((sRw_perm seen).map _)
    have cL := Tk.list_has hAd.st.has
    rw [efs] at cL
    obtain ⟨ra, rc, er⟩ := hAd.rg.form
    have hDw : w0.heap.size ≤ D := by have := hD; simp [World.size_alloc] at this; omega
    have LX : Hid (∀ v6 w6, Tk.Out W'.drew w6 v6 (Tk.firsts k (hitsOf q seen)) → ∃ ha hn hc, v6 = .slice ha hn hc ∧ (((fun W0 => W0.cell? ⟨sb, 1, none⟩ = some (.pointer (some ⟨hb, 0, none⟩)) ∧ W0.cell? ⟨sb, 3, none⟩ = some (.slice sa seen.length sc) ∧ W0.cell? ⟨w2.heap.size, 0, none⟩ = some (.slice ra regs.length rc)) W'.drew → (fun W0 => W0.cell? ⟨sb, 1, none⟩ = some (.pointer (some ⟨hb, 0, none⟩)) ∧ W0.cell? ⟨sb, 3, none⟩ = some (.slice sa seen.length sc) ∧ W0.cell? ⟨w2.heap.size, 0, none⟩ = some (.slice ra regs.length rc)) w6) ∧ ((fun W0 => W0.cell? ⟨sb, 1, none⟩ = some (.pointer (some ⟨hb, 0, none⟩)) ∧ W0.cell? ⟨sb, 3, none⟩ = some (.slice sa seen.length sc) ∧ W0.cell? ⟨w2.heap.size, 0, none⟩ = some (.slice ra regs.length rc)) w6 → (fun W0 => W0.cell? ⟨sb, 1, none⟩ = some (.pointer (some ⟨hb, 0, none⟩)) ∧ W0.cell? ⟨sb, 3, none⟩ = some (.slice sa seen.length sc) ∧ W0.cell? ⟨w2.heap.size, 0, none⟩ = some (.slice ra regs.length rc)) (((w6.setCell ⟨W.heap.size, 0, none⟩ v6).setCell ⟨W.heap.size, 1, none⟩ (.slice sa seen.length sc)).setCell ⟨W.heap.size, 2, none⟩ vr))) ∧ (∃ y, w6.cell? ⟨W.heap.size, 0, none⟩ = some y) ∧ (∃ y, w6.cell? ⟨W.heap.size, 1, none⟩ = some y) ∧ (∃ y, w6.cell? ⟨W.heap.size, 2, none⟩ = some y) ∧ w6.frozen? ⟨W.heap.size, 0, none⟩ = false ∧ w6.frozen? ⟨W.heap.size, 1, none⟩ = false ∧ w6.frozen? ⟨W.heap.size, 2, none⟩ = false ∧
        Hid ((((w6.setCell ⟨W.heap.size, 0, none⟩ v6).setCell ⟨W.heap.size, 1, none⟩ (.slice sa seen.length sc)).setCell ⟨W.heap.size, 2, none⟩ vr).heap[D]? = some (.deferred (some [])) ∧ ∀ o', (∀ i y, (((w6.setCell ⟨W.heap.size, 0, none⟩ v6).setCell ⟨W.heap.size, 1, none⟩ (.slice sa seen.length sc)).setCell ⟨W.heap.size, 2, none⟩ vr).cell? ⟨W.heap.size, i, none⟩ = some y → ((((w6.setCell ⟨W.heap.size, 0, none⟩ v6).setCell ⟨W.heap.size, 1, none⟩ (.slice sa seen.length sc)).setCell ⟨W.heap.size, 2, none⟩ vr).putObj D o').cell? ⟨W.heap.size, i, none⟩ = some y) ∧ AnsK w0 ((((w6.setCell ⟨W.heap.size, 0, none⟩ v6).setCell ⟨W.heap.size, 1, none⟩ (.slice sa seen.length sc)).setCell ⟨W.heap.size, 2, none⟩ vr).putObj D o') v6 (.slice sa seen.length sc) vr (Tk.firsts k (hitsOf q seen)) (srt (idsOf seen)) regs)) := by
      rintro v6 w6 ⟨o6, g6, b6⟩
      have hA6 := hAd.kp (kpF g6) (fun _ h => h.elim) (fun _ _ _ h => h)
      obtain ⟨ha, hn, hc, ev⟩ : ∃ ha hn hc, v6 = .slice ha hn hc := by
        rcases o6.2 with ⟨e, _⟩ | ⟨g, cap, cur, e, _⟩
        · exact ⟨_, _, _, e⟩
        · exact ⟨_, _, _, e⟩
      have k7 : Tk.Kp (fun b => b = W.heap.size) w6 (((w6.setCell ⟨W.heap.size, 0, none⟩ v6).setCell ⟨W.heap.size, 1, none⟩ (.slice sa seen.length sc)).setCell ⟨W.heap.size, 2, none⟩ vr) := (((Tk.Kp.refl (fun b => b = W.heap.size) w6).setCell (.inl rfl) _).setCell (.inl rfl) _).setCell (.inl rfl) _
      have tr : Ty w6 W.heap.size 51 := ⟨_, _, hA6.r⟩
      have ne : ∀ {b : Nat} {t : TypeId}, Ty w6 b t → t ≠ 51 → ¬ b = W.heap.size := fun ht hne e => ht.ne tr hne e
      have hK6 : w6.heap[D]? = some (.deferred (some [])) := gb_same g6 (gb_same gD hK)
      have hDr : D ≠ W.heap.size := fun e => by rw [e, hA6.r] at hK6; cases hK6
      have hK7 : (((w6.setCell ⟨W.heap.size, 0, none⟩ v6).setCell ⟨W.heap.size, 1, none⟩ (.slice sa seen.length sc)).setCell ⟨W.heap.size, 2, none⟩ vr).heap[D]? = some (.deferred (some [])) := by rw [k7.block D (Array.getElem?_eq_some_iff.1 hK6).1 hDr]; exact hK6
      refine ⟨ha, hn, hc, ev, ⟨fun h => ⟨gb_keeps g6 h.1, gb_keeps g6 h.2.1, gb_keeps g6 h.2.2⟩, fun h => ⟨k7.cell h.1 (ne hA6.st.tsb (by decide)), k7.cell h.2.1 (ne hA6.st.tsb (by decide)), k7.cell h.2.2 (ne ⟨_, _, hA6.kk⟩ (by decide))⟩⟩, ⟨_, cell_cur hA6.r rfl⟩, ⟨_, cell_cur hA6.r rfl⟩, ⟨_, cell_cur hA6.r rfl⟩, by simp [World.frozen?, hA6.r], by simp [World.frozen?, hA6.r], by simp [World.frozen?, hA6.r], hK7, fun o' => ?_⟩
      have k8 : ∀ W7 : World, W7.heap[D]? = some (.deferred (some [])) → Tk.Kp (fun b => b = D) W7 (W7.putObj D o') := fun W7 _ => (Tk.Kp.grown (grownBy_putObj' W7 D o')).mono (fun b _ e => by injection e)
      have nD : ∀ {b : Nat} {t : TypeId}, Ty (((w6.setCell ⟨W.heap.size, 0, none⟩ v6).setCell ⟨W.heap.size, 1, none⟩ (.slice sa seen.length sc)).setCell ⟨W.heap.size, 2, none⟩ vr) b t → ¬ b = D := fun ht e => by
        obtain ⟨c, s, e2⟩ := ht
        rw [e, hK7] at e2
        cases e2
      have ty7 : ∀ {b : Nat} {t : TypeId}, Ty w6 b t → t ≠ 51 → Ty (((w6.setCell ⟨W.heap.size, 0, none⟩ v6).setCell ⟨W.heap.size, 1, none⟩ (.slice sa seen.length sc)).setCell ⟨W.heap.size, 2, none⟩ vr) b t := fun ht hne => by
        obtain ⟨c, s, e⟩ := ht
        exact ⟨c, s, by rw [k7.block _ (Array.getElem?_eq_some_iff.1 e).1 (ne ⟨c, s, e⟩ hne)]; exact e⟩
      have t6h : ∀ {g : Nat}, v6.ownBlock = some g → Ty w6 g 68 := fun hg => by
        rcases o6.2 with ⟨e, _⟩ | ⟨g', cap, cur, e, _, hh, _⟩
        · rw [e] at hg; cases hg
        · rw [e] at hg; cases hg; exact ⟨_, _, hh⟩
      have ki := k8 _ hK7
      refine ⟨fun i y hy => ki.cell hy hDr.symm, ?_, ?_, ?_, ?_, ?_⟩
      · have b7 : Below w0.heap.size w0 (((w6.setCell ⟨W.heap.size, 0, none⟩ v6).setCell ⟨W.heap.size, 1, none⟩ (.slice sa seen.length sc)).setCell ⟨W.heap.size, 2, none⟩ vr) := hA6.st.gb.trans (k7.gr hA6.st.gb.size (fun b e => by rw [e]; exact hA.rbB))
        exact below_putObj b7 hDw o'
      · exact own_putObj (Tk.own_kp o6 k7 (fun g hg => ne (t6h hg) (by decide))) hK7 rfl _
      · intro g hg
        have := b6 g hg
        have := hAd.st.gb.size
        omega
      · have := own_kpI hA6.st.sn k7 (fun g e => ne (hA6.st.tvs e) (by decide))
        rw [sRw_ids] at this
        exact own_kpI this ki (fun g e => nD (ty7 (hA6.st.tvs e) (by decide)))
      · have r7 := hA6.rg.kp k7 (fun b e cur s hc => by rw [e, hA6.r] at hc; injection hc with hc; injection hc with _ hc _; revert hc; decide) (fun g e => ne (hA6.rg.ty e) (by decide))
        exact r7.kp ki (fun b e cur s hc => by rw [e, hK7] at hc; cases hc) (fun g e => nD (r7.ty e))
    have FS6 : (fun W0 => W0.cell? ⟨sb, 1, none⟩ = some (.pointer (some ⟨hb, 0, none⟩)) ∧ W0.cell? ⟨sb, 3, none⟩ = some (.slice sa seen.length sc) ∧ W0.cell? ⟨w2.heap.size, 0, none⟩ = some (.slice ra regs.length rc)) W'.drew := ⟨hAd.st.cells.2.1, hAd.st.cells.2.2.2.1, by rw [← er]; exact cell_cur hAd.kk rfl⟩
    clear hA hAd gD efs hK hrl
    subst er
    generalize regs.length = rn at *
    generalize seen.length = ns at *
    gi_wp2
    refine regIn_only (S := fun W0 => W0.cell? ⟨sb, 1, none⟩ = some (.pointer (some ⟨hb, 0, none⟩)) ∧ W0.cell? ⟨sb, 3, none⟩ = some (.slice sa ns sc) ∧ W0.cell? ⟨w2.heap.size, 0, none⟩ = some (.slice ra rn rc)) (by kernel_rfl) (by kernel_rfl) FS6 (fun hHeld => ?_)
    refine wpAnyH_take (i := 0) (v := ?_) rfl (by kernel_rfl) (by kernel_rfl) (by kernel_rfl) (fun _ _ _ h => h) (Or.inl ⟨by rfl, ?_⟩) (by assumption) ?_
    rotate_left 1
    · (intro w hSw; (obtain ⟨s0, s1, s2⟩ := hSw); go_simp; try with_reducible rfl)
    refine wpAnyH_take (i := 1) (v := ?_) rfl (by kernel_rfl) (by kernel_rfl) (by kernel_rfl) (fun _ _ _ h => h) (Or.inl ⟨by rfl, ?_⟩) (by assumption) ?_
    rotate_left 1
    · (intro w hSw; (obtain ⟨s0, s1, s2⟩ := hSw); go_simp; try with_reducible rfl)
    refine wpAnyH_take (i := 2) (v := ?_) rfl (by kernel_rfl) (by kernel_rfl) (by kernel_rfl) (fun _ _ _ h => h) (Or.inl ⟨by rfl, ?_⟩) (by assumption) ?_
    rotate_left 1
    · (intro w hSw; (obtain ⟨s0, s1, s2⟩ := hSw); go_simp; try with_reducible rfl)
    refine wpAnyH_take (i := 3) (v := ?_) rfl (by kernel_rfl) (by kernel_rfl) (by kernel_rfl) (fun _ _ _ h => h) (Or.inl ⟨by rfl, ?_⟩) (by assumption) ?_
    rotate_left 1
    · (intro w hSw; (obtain ⟨s0, s1, s2⟩ := hSw); go_simp; try with_reducible rfl)
    refine wpAnyH_take (i := 5) (v := ?_) rfl (by kernel_rfl) (by kernel_rfl) (by kernel_rfl) (fun _ _ _ h => h) (Or.inl ⟨by rfl, ?_⟩) (by assumption) ?_
    rotate_left 1
    · (intro w hSw; (obtain ⟨s0, s1, s2⟩ := hSw); go_simp; try with_reducible rfl)
    refine wpAnyH_take (i := 6) (v := ?_) rfl (by kernel_rfl) (by kernel_rfl) (by kernel_rfl) (fun _ _ _ h => h) (Or.inl ⟨by rfl, ?_⟩) (by assumption) ?_
    rotate_left 1
    · (intro w hSw; (obtain ⟨s0, s1, s2⟩ := hSw); go_simp; try with_reducible rfl)
    refine wpAnyH_take (i := 7) (v := ?_) rfl (by kernel_rfl) (by kernel_rfl) (by kernel_rfl) (fun _ _ _ h => h) (Or.inl ⟨by rfl, ?_⟩) (by assumption) ?_
    rotate_left 1
    · (intro w hSw; (obtain ⟨s0, s1, s2⟩ := hSw); go_simp; try with_reducible rfl)
    refine wpAnyH_take (i := 8) (v := ?_) rfl (by kernel_rfl) (by kernel_rfl) (by kernel_rfl) (fun _ _ _ h => h) (Or.inl ⟨by rfl, ?_⟩) (by assumption) ?_
    rotate_left 1
    · (intro w hSw; (obtain ⟨s0, s1, s2⟩ := hSw); go_simp; try with_reducible rfl)
    refine wpAnyH_take (i := 9) (v := ?_) rfl (by kernel_rfl) (by kernel_rfl) (by kernel_rfl) (fun _ _ _ h => h) (Or.inl ⟨by rfl, ?_⟩) (by assumption) ?_
    rotate_left 1
    · (intro w hSw; (obtain ⟨s0, s1, s2⟩ := hSw); go_simp; try with_reducible rfl)
    refine wpAnyH_ready (rs := [4]) (by kernel_rfl) (by simp) ?_
    refine AllReadyH.cons rfl (fun K hK => ?_) AllReadyH.nil
    go_simp
    go_fit cL
    rintro e w6 ⟨v6, rfl, o6⟩
    obtain ⟨ha, hn, hc, rfl, K6, ⟨y0, z0⟩, ⟨y1, z1⟩, ⟨y2, z2⟩, f0, f1, f2, FIN⟩ := LX.out _ _ o6
    clear o6 cL LX
    refine hK.out _ _ (K6.1 hHeld) (fun hHeld => ?_)
    clear hK K
    refine wpAnyH_take (i := 10) (v := ?_) rfl (by kernel_rfl) (by kernel_rfl) (by kernel_rfl) (fun _ _ _ h => h) (Or.inl ⟨by rfl, ?_⟩) (by assumption) ?_
    rotate_left 1
    · (intro w hSw; (obtain ⟨s0, s1, s2⟩ := hSw); go_simp; try with_reducible rfl)
    refine wpAnyH_ready (rs := [11]) (by kernel_rfl) (by simp) ?_
    refine AllReadyH.cons rfl (fun K hK => ?_) AllReadyH.nil
    go_simp
    refine hK.out _ _ (K6.2 hHeld) (fun hHeld => ?_)
    clear hK K
    refine wpAnyH_done (by kernel_rfl) ?_ _
    dsimp only [onlyN]
    gi_wp2
    have q0 : (((w6.setCell ⟨W.heap.size, 0, none⟩ (.slice ha hn hc)).setCell ⟨W.heap.size, 1, none⟩ (.slice sa ns sc)).setCell ⟨W.heap.size, 2, none⟩ (.slice ra rn rc)).cell? ⟨W.heap.size, 0, none⟩ = some (.slice ha hn hc) := by simp [go_sem, z0]
    have q1 : (((w6.setCell ⟨W.heap.size, 0, none⟩ (.slice ha hn hc)).setCell ⟨W.heap.size, 1, none⟩ (.slice sa ns sc)).setCell ⟨W.heap.size, 2, none⟩ (.slice ra rn rc)).cell? ⟨W.heap.size, 1, none⟩ = some (.slice sa ns sc) := by simp [go_sem, z1]
    have q2 : (((w6.setCell ⟨W.heap.size, 0, none⟩ (.slice ha hn hc)).setCell ⟨W.heap.size, 1, none⟩ (.slice sa ns sc)).setCell ⟨W.heap.size, 2, none⟩ (.slice ra rn rc)).cell? ⟨W.heap.size, 2, none⟩ = some (.slice ra rn rc) := by simp [go_sem, z2]
    obtain ⟨hK7, hF⟩ := FIN.out
    refine ⟨by simp, .inl ⟨_, _, rfl, run_takeDeferred hK7, ?_⟩⟩
    have p0 := (hF (.deferred none)).1 _ _ q0
    have p1 := (hF (.deferred none)).1 _ _ q1
    have p2 := (hF (.deferred none)).1 _ _ q2
    have hAns := (hF (.deferred none)).2
    exact ⟨.agg #[.slice ha hn hc, .slice sa ns sc, .slice ra rn rc], by simp [results, Tryz.results43, go_sem, p0, p1, p2], _, _, _, rfl, hAns⟩
end Go.Proofs.YtepjbdklljlecaaGreat

/- (*vptree.Tree).Search. -/
namespace Go.Proofs.YtepjbdklljlecaaGreat
open Go.RowKit Go.Sort

theorem wtP_le {T : Nat → Pt} {d : Nat} : ∀ n p, OkP T d n p → wtP T n p + 1 ≤ 4 * (rowsP T n p).length
  | 0, p, ok => by
    have hk : p.kids = none := by rw [OkP] at ok; exact ok.1
    rw [wtP_leaf hk, rowsP_leaf hk]
    have := List.length_pos_iff.2 ((okP_leaf hk 0).1 ok).1
    omega
  | n + 1, p, ok => by
    cases hk : p.kids with
    | none =>
      rw [wtP_leaf hk, rowsP_leaf hk]
      have := List.length_pos_iff.2 ((okP_leaf hk _).1 ok).1
      omega
    | some lh =>
      obtain ⟨l, h⟩ := lh
      obtain ⟨m, e, o1, o2, _⟩ := okP_node hk ok
      have e' : n = m := by omega
      subst e'
      rw [wtP_node hk, rowsP_node hk, List.length_append]
      have := wtP_le n _ o1
      have := wtP_le n _ o2
      omega
theorem RgAt.mono {W : World} {B B' : Nat} {v : Value} {l : List Reg} (h : RgAt W B v l) (hB : B' ≤ B) : RgAt W B' v l := by
  obtain ⟨xs, h1, h2⟩ := h
  refine ⟨xs, ⟨h1.1, ?_⟩, fun i hi' => ?_⟩
  · rcases h1.2 with h | ⟨g, cap, cur, e, hg, r⟩
    · exact .inl h
    · exact .inr ⟨g, cap, cur, e, by omega, r⟩
  · obtain ⟨v1, v3, s, r, a, b, c, d, e, f, o1, o3⟩ := h2 i hi'
    exact ⟨v1, v3, s, r, a, b, c, d, e, f, o1.mono hB, o3.mono hB⟩
/-- The search just begun. -/
theorem SAt.new {w0 W : World} {T : Nat → Pt} {N k : Nat} {u : Value} {q : List Int} (hu : RdI w0 u q) (g : Gb w0 W) (hk : 1 ≤ k ∧ k ≤ 64) (b : Nat) :
    SAt w0 ((W.alloc (.cells #[.int .i64 (k : Int), .slice none 0 0] 113)).alloc (.cells #[u, .pointer (some ⟨W.heap.size, 0, none⟩), .int .i64 (b : Int), .slice none 0 0, .slice none 0 0] 91)) T N (W.heap.size + 1) W.heap.size k u q b [] [] [] (.slice none 0 0) (.slice none 0 0) (.slice none 0 0) := by
  have s := g.size
  have e1 := heap_new (W.alloc (.cells #[.int .i64 (k : Int), .slice none 0 0] 113)) (.cells #[u, .pointer (some ⟨W.heap.size, 0, none⟩), .int .i64 (b : Int), .slice none 0 0, .slice none 0 0] 91)
  rw [World.size_alloc] at e1
  refine ⟨e1, by omega, by omega, ?_, fun g e => by simp [Value.ownBlock] at e, ⟨rfl, .inl ⟨rfl, rfl⟩⟩, ⟨rfl, .inl ⟨rfl, rfl⟩⟩, fun x hx => (by cases hx), fun x hx => (by cases hx), gb_alloc (gb_alloc g _) _, hu, by simp, by simp⟩
  have : Tk.firsts k (hitsOf q []) = [] := Tk.firsts_nil k
  rw [this]
  exact (Tk.new_has k hk.1 hk.2 W).gr (gb_alloc (Below.refl _ _) _)
theorem AnsK.kp {S : Nat → Prop} {w0 w1 W W' : World} {vh vs vr : Value} {hits : List Tk.Ht} {ids : List Int} {regs : List Reg} (h : AnsK w1 W vh vs vr hits ids regs) (g : Gb w0 w1) (k : Tk.Kp S W W') (hS : ∀ b, S b → w0.heap.size ≤ b) (hn : NoInt W S) (n1 : ∀ g, vh.ownBlock = some g → ¬ S g) (n2 : ∀ g, vr.ownBlock = some g → ¬ S g) : AnsK w0 W' vh vs vr hits ids regs := by
  have s := g.size
  have s1 := h.gb.size
  refine ⟨(gb_trans g h.gb).trans (k.gr (by omega) hS), Tk.own_kp h.hits k n1, fun b e => by have := h.hB b e; omega, ?_, (h.rest.mono s).kp k hn n2⟩
  exact own_noint (h.seen.mono s) k hn
theorem AnsK.tvh {w0 W : World} {vh vs vr : Value} {hits : List Tk.Ht} {ids : List Int} {regs : List Reg} (h : AnsK w0 W vh vs vr hits ids regs) {g : Nat} (hg : vh.ownBlock = some g) : Ty W g 68 := by
  rcases h.hits.2 with ⟨e, _⟩ | ⟨g', cap, cur, e, _, hh, _⟩
  · rw [e] at hg; cases hg
  · rw [e] at hg; cases hg; exact ⟨_, _, hh⟩
theorem AnsK.forms {w0 W : World} {vh vs vr : Value} {hits : List Tk.Ht} {ids : List Int} {regs : List Reg} (h : AnsK w0 W vh vs vr hits ids regs) : ∃ a1 n1 c1 a2 n2 c2 a3 n3 c3, vh = .slice a1 n1 c1 ∧ vs = .slice a2 n2 c2 ∧ vr = .slice a3 n3 c3 := by
  obtain ⟨a2, n2, c2, e2⟩ := form_own h.seen
  obtain ⟨a3, c3, e3⟩ := h.rest.form
  rcases h.hits.2 with ⟨e, _⟩ | ⟨g', cap, cur, e, _⟩
  · exact ⟨_, _, _, a2, n2, c2, a3, _, c3, e, e2, e3⟩
  · exact ⟨_, _, _, a2, n2, c2, a3, _, c3, e, e2, e3⟩
/-- What Search tells. -/
def SeO (w0 : World) (k : Nat) (q : List Int) (T : Nat → Pt) (N : Nat) (R : Sr) (e : Ending) (W' : World) : Prop := ∃ vh vs vr, e = .returned (.tuple #[.agg #[vh, vs, vr], .int .i64 0]) ∧ AnsK w0 W' vh vs vr (Tk.firsts k (hitsOf q R.seen)) (srt (idsOf R.seen)) (R.opn.reverse.map (regP T N))
set_option maxHeartbeats 2000000 in
set_option maxRecDepth 100000 in
theorem search_walk {W : World} {tb m k b : Nat} {u : Value} {q : List Int} {T : Nat → Pt} {N : Nat} {R : Sr} {rt : Option Addr} (hq : chk q (m : Int) = 0) (hu : RdI W u q) (hk : 1 ≤ k ∧ k ≤ 64) (hb : b ≤ 1000000) (c0 : W.cell? ⟨tb, 0, none⟩ = some (.int .i64 (m : Int))) (c3 : W.cell? ⟨tb, 4, none⟩ = some (.pointer rt))
    (hX : ∀ W2, Gb W W2 → Calls Tryz.prog 41 #[.pointer (some ⟨W2.heap.size + 1, 0, none⟩), .pointer rt] ((W2.alloc (.cells #[.int .i64 (k : Int), .slice none 0 0] 113)).alloc (.cells #[u, .pointer (some ⟨W2.heap.size, 0, none⟩), .int .i64 (b : Int), .slice none 0 0, .slice none 0 0] 91)) fun e W3 => e = .returned (.tuple #[]) ∧
      Calls Tryz.prog 42 #[.pointer (some ⟨W2.heap.size + 1, 0, none⟩)] W3 fun e W4 => e = .returned (.tuple #[]) ∧ Calls Tryz.prog 43 #[.pointer (some ⟨W2.heap.size + 1, 0, none⟩)] W4 fun e W5 => ∃ vh vs vr, e = .returned (.agg #[vh, vs, vr]) ∧ AnsK W2 W5 vh vs vr (Tk.firsts k (hitsOf q R.seen)) (srt (idsOf R.seen)) (R.opn.reverse.map (regP T N))) :
    Calls Tryz.prog 19 #[.pointer (some ⟨tb, 0, none⟩), u, .int .i64 (k : Int), .int .i64 (b : Int)] W fun e W' => SeO W k q T N R e W' := by
  have g1 : Gb W (W.alloc (.cells #[.slice none 0 0, .slice none 0 0, .slice none 0 0] 51)) := gb_alloc (Below.refl _ _) _
  have cK := check_v (hu.gb g1) (m : Int) 0 hq
  have cN := Tk.new_ok (k : Int) (by omega) (by omega) (W.alloc (.cells #[.slice none 0 0, .slice none 0 0, .slice none 0 0] 51))
  have cA := hX _ g1
  have e0 := gb_keeps g1 c0
  have e3 : ∀ o1 o2, (((W.alloc (.cells #[.slice none 0 0, .slice none 0 0, .slice none 0 0] 51)).alloc o1).alloc o2).cell? ⟨tb, 4, none⟩ = some (.pointer rt) := fun o1 o2 => gb_keeps (gb_alloc (gb_alloc g1 _) _) c3
  have hb1 : ¬ (b : Int) < 0 := by omega
  have hb2 : ¬ (1000000 : Int) < (b : Int) := by omega
  have FIN : Hid (∀ W5 vh vs vr, AnsK (W.alloc (.cells #[.slice none 0 0, .slice none 0 0, .slice none 0 0] 51)) W5 vh vs vr (Tk.firsts k (hitsOf q R.seen)) (srt (idsOf R.seen)) (R.opn.reverse.map (regP T N)) → (∃ a1 n1 c1 a2 n2 c2 a3 n3 c3, vh = .slice a1 n1 c1 ∧ vs = .slice a2 n2 c2 ∧ vr = .slice a3 n3 c3) ∧ (∃ y, W5.cell? ⟨W.heap.size, 0, none⟩ = some y) ∧ (∃ y, W5.cell? ⟨W.heap.size, 1, none⟩ = some y) ∧ (∃ y, W5.cell? ⟨W.heap.size, 2, none⟩ = some y) ∧ W5.frozen? ⟨W.heap.size, 0, none⟩ = false ∧ W5.frozen? ⟨W.heap.size, 1, none⟩ = false ∧ W5.frozen? ⟨W.heap.size, 2, none⟩ = false ∧
      Hid (AnsK W (((W5.setCell ⟨W.heap.size, 0, none⟩ vh).setCell ⟨W.heap.size, 1, none⟩ vs).setCell ⟨W.heap.size, 2, none⟩ vr) vh vs vr (Tk.firsts k (hitsOf q R.seen)) (srt (idsOf R.seen)) (R.opn.reverse.map (regP T N)))) := by
    intro W5 vh vs vr h
    have hb5 : W5.heap[W.heap.size]? = some (.cells #[.slice none 0 0, .slice none 0 0, .slice none 0 0] 51 (0, 0)) := by
      rw [h.gb.block W.heap.size (by rw [World.size_alloc]; omega)]
      exact heap_new W _
    have k7 : Tk.Kp (fun b => b = W.heap.size) W5 (((W5.setCell ⟨W.heap.size, 0, none⟩ vh).setCell ⟨W.heap.size, 1, none⟩ vs).setCell ⟨W.heap.size, 2, none⟩ vr) := (((Tk.Kp.refl (fun b => b = W.heap.size) W5).setCell (.inl rfl) _).setCell (.inl rfl) _).setCell (.inl rfl) _
    have ne : ∀ {b : Nat} {t : TypeId}, Ty W5 b t → t ≠ 51 → ¬ b = W.heap.size := fun ht hne e => ht.ne ⟨_, _, hb5⟩ hne e
    refine ⟨h.forms, ⟨_, cell_cur hb5 rfl⟩, ⟨_, cell_cur hb5 rfl⟩, ⟨_, cell_cur hb5 rfl⟩, by simp [World.frozen?, hb5], by simp [World.frozen?, hb5], by simp [World.frozen?, hb5], ?_⟩
    exact h.kp g1 k7 (fun b e => by rw [e]; exact Nat.le_refl _) (fun b e cur s hc => by rw [e, hb5] at hc; injection hc with hc; injection hc with _ hc _; revert hc; decide) (fun g e => ne (h.tvh e) (by decide)) (fun g e => ne (h.rest.ty e) (by decide))
  obtain ⟨ua, uc, eu, _⟩ := hu.rd0
  subst eu
  generalize q.length = nq at *
  simp only [World.size_alloc] at cA
  simp only [World.size_alloc] at cN
  clear hX hu hq c0 c3 hk
  go_enter Tryz.func19, Tryz.ntmps19
  go_wp2_with fail
  go_fit cK
  rintro e w1 ⟨rfl, rfl⟩
  clear cK
  go_wp2_with fail
  go_fit cN
  rintro e w2 ⟨rfl, rfl⟩
  clear cN
  go_wp2_with fail
  go_fit cA
  rintro e w3 ⟨rfl, cR⟩
  clear cA
  go_wp2_with fail
  go_fit cR
  rintro e w4 ⟨rfl, cW⟩
  clear cR
  go_wp2_with fail
  go_fit cW
  rintro e w5 ⟨vh, vs, vr, rfl, hO⟩
  obtain ⟨⟨a1, n1, c1, a2, n2, c2, a3, n3, c3, rfl, rfl, rfl⟩, ⟨y0, z0⟩, ⟨y1, z1⟩, ⟨y2, z2⟩, f0, f1, f2, FF⟩ := FIN.out _ _ _ _ hO
  clear cW hO FIN
  go_wp2
  refine bodyPost_ret (v := .tuple #[.agg #[.slice a1 n1 c1, .slice a2 n2 c2, .slice a3 n3 c3], .int .i64 0]) (by simp [results, Tryz.results19, go_sem, z0, z1, z2]) rfl ?_
  exact ⟨_, _, _, rfl, FF.out⟩
theorem mem_le_sum : ∀ {l : List Nat} {x : Nat}, x ∈ l → x ≤ l.sum
  | a :: r, x, h => by
    rw [List.sum_cons]
    rcases List.mem_cons.1 h with e | e
    · omega
    · have := mem_le_sum e; omega
theorem run_len {w0 W : World} {T : Nat → Pt} {d N sb hb k : Nat} {vq : Value} {q : List Int} {b0 : Nat} {rs : List Rw} {R : Sr} {O M : List (Nat × Pt)} {vs vo vh : Value} (hI : InvS T d N q b0 rs R) (hrs : rs.length ≤ 512) (_h : SAt w0 W T N sb hb k vq q R.bud R.seen O M vs vo vh) (e : opn O = R.opn) : ∀ p ∈ opn O, OkP T d N p ∧ (rowsP T N p).length ≤ 512 := by
  have hl := hI.rows.length_eq
  rw [List.length_append] at hl
  have hsub : ∀ p ∈ R.opn, (rowsP T N p).length ≤ (R.opn.flatMap (rowsP T N)).length := fun p hp => by
    rw [List.length_flatMap]
    exact mem_le_sum (List.mem_map.2 ⟨p, hp, rfl⟩)
  intro p hp
  rw [e] at hp
  exact ⟨hI.ok p hp, by have := hsub p hp; omega⟩
/-- All parts below are balls. -/
def AllB (T : Nat → Pt) : Nat → Pt → Prop
  | 0, p => BlOk p ∧ p.kids = none
  | n + 1, p => BlOk p ∧ match p.kids with
    | none => True
    | some (l, h) => AllB T n (T l) ∧ AllB T n (T h)
theorem AllB.ball {T : Nat → Pt} : ∀ {n : Nat} {p : Pt}, AllB T n p → BlOk p
  | 0, _, h => h.1
  | _ + 1, _, h => h.1
theorem AllB.mono {T : Nat → Pt} : ∀ {n : Nat} {p : Pt}, AllB T n p → AllB T (n + 1) p
  | 0, p, h => by
    refine ⟨h.1, ?_⟩
    rw [h.2]
    trivial
  | n + 1, p, h => by
    refine ⟨h.1, ?_⟩
    have h2 := h.2
    cases hk : p.kids with
    | none => trivial
    | some lh =>
      obtain ⟨l, hh⟩ := lh
      rw [hk] at h2
      exact ⟨AllB.mono h2.1, AllB.mono h2.2⟩
theorem TrO.allB {Iq : Nat → Prop} {w : World} {T : Nat → Pt} : ∀ {n b : Nat} {F : List Nat}, TrO Iq w T (n + 1) b F → AllB T n (T b)
  | 0, b, F, h => by
    obtain ⟨vl, vh, vr, hp, h⟩ := h
    refine ⟨hp.ball, ?_⟩
    cases hk : (T b).kids with
    | none => rfl
    | some lh =>
      obtain ⟨l, hh⟩ := lh
      rw [hk] at h
      obtain ⟨_, _, _, h1, _⟩ := h
      exact h1.elim
  | n + 1, b, F, h => by
    obtain ⟨vl, vh, vr, hp, h⟩ := h
    refine ⟨hp.ball, ?_⟩
    cases hk : (T b).kids with
    | none => trivial
    | some lh =>
      obtain ⟨l, hh⟩ := lh
      rw [hk] at h
      obtain ⟨_, _, _, h1, h2, _⟩ := h
      exact ⟨TrO.allB h1, TrO.allB h2⟩
theorem allB_leaf {T : Nat → Pt} {p : Pt} (h : BlOk p) (hk : p.kids = none) : ∀ n, AllB T n p
  | 0 => ⟨h, hk⟩
  | n + 1 => ⟨h, by rw [hk]; trivial⟩
theorem allB_kids {T : Nat → Pt} {p : Pt} {l h : Nat} : ∀ {n : Nat}, AllB T n p → p.kids = some (l, h) → AllB T n (T l) ∧ AllB T n (T h)
  | 0, a, hk => by rw [a.2] at hk; cases hk
  | n + 1, a, hk => by
    have a2 := a.2
    rw [hk] at a2
    exact ⟨AllB.mono a2.1, AllB.mono a2.2⟩
theorem step_allB {T : Nat → Pt} {q : List Int} {k N : Nat} {s s' : Sr} (h : ∀ p ∈ s.opn, AllB T N p) (e : stepS T q k s = some s') : ∀ p ∈ s'.opn, AllB T N p := by
  unfold stepS at e
  cases hl : s.opn.getLast? with
  | none => rw [hl] at e; cases e
  | some p =>
    rw [hl] at e
    dsimp only at e
    split at e
    · cases e
    · split at e
      · cases e
      · injection e with e
        rw [← e]
        have hp := h p (List.mem_of_getLast? hl)
        have hd : ∀ u ∈ s.opn.dropLast, AllB T N u := fun u hu => h u (List.dropLast_subset _ hu)
        unfold look
        cases hk : p.kids with
        | none =>
          dsimp only
          intro u hu
          split at hu
          · rcases List.mem_cons.1 ((insP_perm q _ _).subset hu) with rfl | hu
            · exact allB_leaf (p := ⟨p.reg, _, _, none⟩) hp.ball rfl N
            · exact hd u hu
          · exact hd u hu
        | some lh =>
          obtain ⟨l, hh⟩ := lh
          dsimp only
          intro u hu
          obtain ⟨k1, k2⟩ := allB_kids hp hk
          rcases List.mem_cons.1 ((insP_perm q _ _).subset hu) with rfl | hu
          · exact k2
          · rcases List.mem_cons.1 ((insP_perm q _ _).subset hu) with rfl | hu
            · exact k1
            · exact hd u hu
theorem run_allB {T : Nat → Pt} {q : List Int} {k N : Nat} : ∀ n s, (∀ p ∈ s.opn, AllB T N p) → ∀ p ∈ (runS T q k n s).opn, AllB T N p
  | 0, _, h => h
  | n + 1, s, h => by
    rw [runS]
    cases e : stepS T q k s with
    | none => exact h
    | some s' => exact run_allB n s' (step_allB h e)
theorem kd_searchB {Iq : Nat → Prop} {w : World} {tb m leaf : Nat} {rs : List Rw} {F : List Nat} (h : TreeAt Iq w tb m leaf rs F) {q : List Int} (hq : chk q (m : Int) = 0) {k b : Nat} (hk : 1 ≤ k ∧ k ≤ 64) (hb : b ≤ 1000000) :
    ∃ T N R, InvS T m N q b rs R ∧ stepS T q k R = none ∧ (∀ p ∈ R.opn, BlOk p) ∧ ∀ (W : World) (u : Value), Gb w W → RdI W u q → Calls Tryz.prog 19 #[.pointer (some ⟨tb, 0, none⟩), u, .int .i64 (k : Int), .int .i64 (b : Int)] W fun e W' => SeO W k q T N R e W' := by
  obtain ⟨g, cap, sb, d, rt, F1, hbk, hd, hdm, hri, hok, hrt, eF, hnd, hm, hlf, nF1, ⟨pv, er⟩, ltF, _, hS⟩ := h.open'
  subst er
  have c0 := cell_cur (i := 0) hbk rfl
  have c3 := cell_cur (i := 4) hbk rfl
  have hrs := hok.few
  rcases hrt with ⟨e1, e2, e3⟩ | ⟨rb, T, N, e1, t, ok, pm⟩
  · cases e2
    subst e1
    have hI : InvS (fun _ => (⟨⟨0, [], [], 0, []⟩, [], (0, 0, 0), none⟩ : Pt)) m 0 q b [] ⟨[], b, []⟩ := ⟨List.Perm.refl _, fun p hp => (by cases hp), List.Pairwise.nil, by simp⟩
    refine ⟨fun _ => ⟨⟨0, [], [], 0, []⟩, [], (0, 0, 0), none⟩, 0, ⟨[], b, []⟩, hI, rfl, fun p hp => (by cases hp), fun W u gW hu => ?_⟩
    refine search_walk hq hu hk hb (gb_keeps gW c0) (gb_keeps gW c3) (fun W2 g2 => ?_)
    refine (await_nil _ _).mono ?_
    rintro e W3 ⟨rfl, g3⟩
    have h3 := SAt.new (T := fun _ => (⟨⟨0, [], [], 0, []⟩, [], (0, 0, 0), none⟩ : Pt)) (N := 0) (hu.gb g2) (Below.refl _ W2) hk b
    refine ⟨rfl, (run_c (R := ⟨[], b, []⟩) (g := 0) (b0 := b) (rs := []) (d := m) ⟨b, [], [], [], _, _, _, h3.grow g3, hI, rfl, rfl, by simp⟩ hq (by simp) hb).mono ?_⟩
    rintro e W4 ⟨rfl, O, M, vs, vo, vh, h4, e4⟩
    refine ⟨rfl, (answer_c h4 (run_len hI (by simp) h4 e4)).mono ?_⟩
    rintro e W5 ⟨vh', vs', vr', rfl, hA⟩
    rw [e4] at hA
    exact ⟨vh', vs', vr', rfl, hA⟩
  · cases e1
    have hI0 : InvS T m N q b rs ⟨[], b, [T rb]⟩ := by
      refine ⟨by simpa using pm, fun p hp => ?_, List.pairwise_singleton _ _, by simp⟩
      rw [List.mem_singleton.1 hp]; exact ok
    obtain ⟨g0, hg0⟩ : ∃ g0, g0 = wtS T N ⟨[], b, [T rb]⟩ := ⟨_, rfl⟩
    obtain ⟨R, hR⟩ : ∃ R, R = runS T q k g0 ⟨[], b, [T rb]⟩ := ⟨_, rfl⟩
    obtain ⟨hI, hst⟩ := run_inv (k := k) g0 _ hI0 (by rw [hg0]; exact Nat.le_refl _)
    rw [← hR] at hI hst
    have hgb : g0 ≤ 2048 := by
      have h1 := wtP_le N _ ok
      have h2 := pm.length_eq
      have : g0 = wtP T N (T rb) := by rw [hg0]; unfold wtS; simp
      omega
    refine ⟨T, N, R, hI, hst, fun p hp => ?_, fun W u gW hu => ?_⟩
    · rw [hR] at hp
      exact (run_allB g0 _ (fun u hu => by rw [List.mem_singleton.1 hu]; exact t.allB) p hp).ball
    refine search_walk hq hu hk hb (gb_keeps gW c0) (gb_keeps gW c3) (fun W2 g2 => ?_)
    have h3 := SAt.new (T := T) (N := N) (hu.gb g2) (Below.refl _ W2) hk b
    have gT := gb_trans gW g2
    have tr : TrR W2 T (N + 1) rb := (t.gb gT).rd
    have hmp := tr.mp h3.gb
    obtain ⟨b1, b2, b3⟩ := box_ckB (okP_box ok) hq
    refine (await_c h3 hmp b1 List.Pairwise.nil (by simp)).mono ?_
    rintro e W3 ⟨rfl, O', vo', h4, e4, l4⟩
    have e5 : opn O' = [T rb] := by rw [e4]; rfl
    refine ⟨rfl, (run_c (R := R) (g := g0) (b0 := b) (rs := rs) (d := m) ⟨b, [], O', [] ++ [(rb, T rb)], _, _, _, h4, by rw [e5]; exact hI0, by rw [e5]; exact hg0, by rw [e5]; exact hR.symm, by rw [l4]; simp; omega⟩ hq hrs hb).mono ?_⟩
    rintro e W4 ⟨rfl, O, M, vs, vo, vh, h5, e6⟩
    refine ⟨rfl, (answer_c h5 (run_len hI hrs h5 e6)).mono ?_⟩
    rintro e W5 ⟨vh', vs', vr', rfl, hA⟩
    rw [e6] at hA
    exact ⟨vh', vs', vr', rfl, hA⟩
theorem kd_search {Iq : Nat → Prop} {w : World} {tb m leaf : Nat} {rs : List Rw} {F : List Nat} (h : TreeAt Iq w tb m leaf rs F) {q : List Int} (hq : chk q (m : Int) = 0) {k b : Nat} (hk : 1 ≤ k ∧ k ≤ 64) (hb : b ≤ 1000000) :
    ∃ T N R, InvS T m N q b rs R ∧ stepS T q k R = none ∧ ∀ (W : World) (u : Value), Gb w W → RdI W u q → Calls Tryz.prog 19 #[.pointer (some ⟨tb, 0, none⟩), u, .int .i64 (k : Int), .int .i64 (b : Int)] W fun e W' => SeO W k q T N R e W' := by
  obtain ⟨T, N, R, h1, h2, _, h3⟩ := kd_searchB h hq hk hb
  exact ⟨T, N, R, h1, h2, h3⟩
end Go.Proofs.YtepjbdklljlecaaGreat
