import Derived.Test.YtepjbdklljlecaaGreatVa8
import Derived.SizedLaws
import Derived.Test.YtepjbdklljlecaaGreatVa10
import Derived.Test.YtepjbdklljlecaaGreatVa3
import Derived.Test.YtepjbdklljlecaaGreatVa9
/- Rows that came in, with the form's own reach: none is longer than its memory. -/
namespace Go.Proofs.YtepjbdklljlecaaGreat
open Go.ChangeShapes Go.WideShapes Go.ChangeAt Go.RowKit Go.Joins Go.Deep

theorem Tryz.bytesI : Tryz.prog.bytesOf 3 = 8 := by kernel_rfl
theorem Tryz.bytesR : Tryz.prog.bytesOf 43 = 32 := by kernel_rfl
theorem weights_in {H : Type} {e : TypeId} {d : DataW H} : ∀ {l : List (DataW H)}, d ∈ l → ∀ n ∈ d.weights Tryz.prog e, n ∈ DataW.weightsAll Tryz.prog e l
  | x :: r, h, n, hn => by
    simp only [DataW.weightsAll, List.mem_append]
    cases List.mem_cons.1 h with
    | inl h => subst h; exact .inl hn
    | inr h => exact .inr (weights_in h n hn)
theorem trodI_sz {H : Type} {enc : TypeId × Value → H} {W : World} {base fuel : Nat} {hd : Bool} {v : Value} {l : List Int} {x : DataW H × List MemPlace}
    (h : DataW.trod enc Tryz.prog W base (fun _ => true) hd fuel 41 [v] = some x) (hr : RdI W v l) (hw : ∀ n ∈ x.1.weights Tryz.prog 41, n ≤ reachBytes) : l.length ≤ reachBytes := by
  rcases open_slice Tryz.underlying41 h with ⟨e, _⟩ | ⟨a, len, cap, m, n, D, Pl, e, _, hlc, hcm, _, rfl, _⟩
  · cases e
    obtain ⟨_, _, e, _⟩ := hr
    injection e with _ e2 _
    omega
  · cases e
    have h1 := hw ((((List.range len).map D).length + ((List.range (m - len)).map fun j => D (len + j)).length) * Tryz.prog.bytesOf 3) (by simp [DataW.weights, Tryz.underlying41])
    rw [Tryz.bytesI] at h1
    simp only [List.length_map, List.length_range] at h1
    obtain ⟨_, _, e, _⟩ := hr
    injection e with _ e2 _
    omega
set_option maxRecDepth 100000 in
theorem open_rows_sz {H : Type} {enc : TypeId × Value → H} {W : World} {b0 : Nat} {r : Reach} {v : Value} {d : DataW H} {p : List MemPlace}
    (hv' : Value.okWide Tryz.prog W r b0 22 v) (h : DataW.Trod enc Tryz.prog W 0 (fun _ => true) true 22 v d p) (hw : ∀ n ∈ d.weights Tryz.prog 22, n ≤ reachBytes) :
    ∃ rs : List Rw, RdW W v rs ∧ rs.length ≤ reachBytes ∧ (∀ i, i < rs.length → (Lit.int .i64 rs[i]!.1).wf = true) ∧ (∀ i, i < rs.length → rs[i]!.2.length ≤ reachBytes) ∧ ∀ a n c, v = .slice a n c → n ≤ c := by
  obtain ⟨a0, len, cap, rfl⟩ := okWide_slice Tryz.underlying22 hv'
  obtain ⟨fuel, hf⟩ := h
  rcases open_slice Tryz.underlying22 (by simpa [Value.cells] using hf) with ⟨e, _⟩ | ⟨a, len, cap, m, n, D, Pl, e, _, hlc, hcm, hm, hD, hx⟩
  · cases e
    exact ⟨[], ⟨none, 0, rfl, fun i hi => absurd hi (Nat.not_lt_zero _)⟩, Nat.zero_le _, fun i hi => absurd hi (Nat.not_lt_zero _), fun i hi => absurd hi (Nat.not_lt_zero _), fun a n c e => by cases e; exact Nat.le_refl _⟩
  · cases e
    rw [if_pos rfl] at hm
    subst hm
    have hd : d = .slice ((List.range len).map D) ((List.range (m - len)).map fun j => D (len + j)) := congrArg Prod.fst hD
    subst hd
    have hw0 := hw ((((List.range len).map D).length + ((List.range (m - len)).map fun j => D (len + j)).length) * Tryz.prog.bytesOf 43) (by simp [DataW.weights, Tryz.underlying22])
    rw [Tryz.bytesR] at hw0
    simp only [List.length_map, List.length_range] at hw0
    have hy : ∀ i, i < len → ∃ y : Rw, (∃ u, W.cell? (a.add (i * 2)) = some (.int .i64 y.1) ∧ W.cell? ((a.add (i * 2)).add 1) = some u ∧ RdI W u y.2) ∧ (Lit.int .i64 y.1).wf = true ∧ y.2.length ≤ reachBytes := by
      intro i hi
      obtain ⟨cs, hc, ht⟩ := hx i (by omega)
      obtain ⟨z0, z1, k, hz, hl1, j0, j1⟩ := trod_struct2 Tryz.underlying43 ht
      rw [Tryz.cells43] at hl1 hc
      match cs, hl1 with
      | [c0, c1], _ =>
        obtain ⟨x, e5, _, wx⟩ := DataW.trod_int Tryz.underlying3 j0
        obtain ⟨u, l, e6, rl, ll⟩ := trod22 j1
        have j2 := j1
        rw [e6] at j2
        simp [Tryz.cells3, Tryz.cells41] at e5 e6
        subst e5 e6
        obtain ⟨_, _, hcc⟩ := World.cells?_some hc
        have q0 := hcc 0 (by omega)
        have q1 := hcc 1 (by omega)
        refine ⟨(x, l), ⟨_, by simpa [Addr.add] using q0, by simpa using q1, rl⟩, wx, trodI_sz j2 rl (fun n hn => hw n ?_)⟩
        have hz' : D i = .agg [z0.1, z1.1] := congrArg Prod.fst hz
        simp only [DataW.weights, Tryz.underlying22, List.mem_cons, List.mem_append]
        refine .inr (.inl (weights_in (d := D i) (List.mem_map.2 ⟨i, List.mem_range.2 hi, rfl⟩) n ?_))
        rw [hz']
        simp only [DataW.weights, Tryz.underlying43, List.map_cons, List.map_nil, DataW.weightsEach, List.mem_append]
        exact .inr (.inl hn)
    obtain ⟨Y, hY⟩ := choose_lt (α := Rw) (p := fun i y => (∃ u, W.cell? (a.add (i * 2)) = some (.int .i64 y.1) ∧ W.cell? ((a.add (i * 2)).add 1) = some u ∧ RdI W u y.2) ∧ (Lit.int .i64 y.1).wf = true ∧ y.2.length ≤ reachBytes) hy
    have hg : ∀ i, i < len → ((List.range len).map Y)[i]! = Y i := by
      intro i hi
      rw [getElem!_pos _ i (by simpa using hi)]; simp
    refine ⟨(List.range len).map Y, ⟨some a, m, by simp, fun i hi => ?_⟩, by simp; omega, fun i hi => ?_, fun i hi => ?_, fun a n c e => by cases e; exact hlc⟩
    · have hi' : i < len := by simpa using hi
      obtain ⟨⟨u0, q0, _⟩, _⟩ := hY 0 (by omega)
      have ha : a = ⟨a.block, a.off, none⟩ := spot_none (by simpa [Addr.add] using q0)
      obtain ⟨⟨u, q1, q2, q3⟩, _⟩ := hY i hi'
      rw [hg i hi']
      rw [ha, Addr.add_lit] at q1
      rw [ha, Addr.add_lit, Addr.add_lit] at q2
      exact ⟨a.block, a.off, u, by rw [← ha], q1, q2, q3⟩
    · have hi' : i < len := by simpa using hi
      rw [hg i hi']; exact (hY i hi').2.1
    · have hi' : i < len := by simpa using hi
      rw [hg i hi']; exact (hY i hi').2.2
end Go.Proofs.YtepjbdklljlecaaGreat

/- What is ranged over: the draws of a source. -/
namespace Go.Proofs.YtepjbdklljlecaaGreat.Rn
open Go.RowKit Go.Shelf
attribute [local go_sem] Oper.semAt_some

theorem Boxed.ne {W : World} {A B : Nat} {t u : TypeId} {v v' : Value} (h : Boxed W A t v) (k : Boxed W B u v') (hn : t ≠ u) : A ≠ B := by
  rintro rfl
  have := (show W.heap[A]? = _ from h).symm.trans k
  simp at this
  exact hn this.2
theorem Boxed.past {W : World} {A B : Nat} {t : TypeId} {v : Value} (h : Boxed W A t v) (hn : A ≠ B) (u : Value) : Boxed (W.setCell ⟨B, 0, none⟩ u) A t v :=
  h.kept (grownBy_setCell' W B u) (by simpa using hn)

set_option maxHeartbeats 1000000 in
theorem draws1_gives (n : Nat) (hn : 1 ≤ n) (Bs Bc b : Nat) (c x : Int) (_hx : U x) (hc : c ≤ 1000000) (I : Nat → World → Prop)
    (hr : ∀ k W, I k W → Boxed W Bs 81 (.pointer (some ⟨b, 0, none⟩)) ∧ Boxed W Bc 3 (.int .i64 c) ∧ Boxed W b 144 (.int .u64 (stN x k))) :
    Gives n Tryz.prog 226 #[.pointer (some ⟨Bs, 0, none⟩), .pointer (some ⟨Bc, 0, none⟩)] c.toNat b (fun k => .int .u64 (stN x (k + 1))) (fun k => .int .u64 (mx (stN x (k + 1)))) I := by
  intro l J J1 Jx W hJI hst hY h0
  refine callsIn_of_wp Tryz.func226 rfl trivial ?_ rfl
  simp only [Tryz.ntmps226, List.size_toArray, List.length_cons, List.length_nil, Nat.reduceAdd, Nat.reduceSub, Array.replicate_succ, Array.replicate_zero, List.push_toArray, List.append_toArray, List.nil_append, List.cons_append]
  obtain ⟨r1, r2, r3⟩ := hr 0 W (hJI 0 W h0)
  have c1 := r1.cell
  have c2 := r2.cell
  gi_wp2
  clear c1 c2 r1 r2 r3
  gi_loopw [7] (fun v wr => ∃ k : Nat, v = .int .i64 k ∧ k ≤ c.toNat ∧ J k wr) (fun v _ => c.toNat - (intOf v).toNat)
  case atStart => exact ⟨0, rfl, Nat.zero_le _, h0⟩
  case round =>
    obtain ⟨k, rfl, hk, hj⟩ := hrel
    by_cases hlt : k < c.toNat
    · have hlt' : (k : Int) < c := by omega
      obtain ⟨r1, r2, r3⟩ := hr k wr (hJI k wr hj)
      have n1 := Boxed.ne r1 r3 (by decide)
      have c1 := r1.cell
      have c3 := r3.cell
      have f3 := r3.frozen
      have c4 := (Boxed.past r1 n1 (.int .u64 (IntKind.u64.wrap (stN x k + 11400714819323198485)))).cell
      have c5 := (r3.set (.int .u64 (IntKind.u64.wrap (stN x k + 11400714819323198485)))).cell
      obtain ⟨fn, tmps, assign, body, hy, hR⟩ := hY k _ hlt (hst k wr hlt hj)
      simp only [stN_succ] at hy hR
      gi_wp2_with (refine ⟨trivial, ?_⟩; gi_at_call 227; refine (callsIn_wide.2 (mix_c _ _ (u_wrap _))).mono ?_; rintro e w1 ⟨rfl, rfl⟩)
      refine hR.mono ?_
      rintro e W3 (⟨rfl, hJ3⟩ | ⟨rfl, hJx3⟩)
      · gi_wp2
        go_roundw
        case rel => exact ⟨k + 1, by simp, by omega, hJ3⟩
        case measure => simp [intOf]; omega
      · gi_wp2
        refine bodyPost_ret (results_none rfl _ _ _) rfl ?_
        exact ⟨⟨_, rfl⟩, .inr ⟨k, hlt, hJx3⟩⟩
    · have hlt' : ¬ (k : Int) < c := by omega
      gi_wp2
      go_end0
      obtain rfl : k = c.toNat := by omega
      exact ⟨⟨_, rfl⟩, .inl hj⟩

end Go.Proofs.YtepjbdklljlecaaGreat.Rn

/- Next: a source, and none. -/
namespace Go.Proofs.YtepjbdklljlecaaGreat.Rn
open Go.RowKit Go.Shelf
attribute [local go_sem] Oper.semAt_some

/-- Of what was there only the block r may have turned. -/
theorem ownFrom_grown {B : Nat} {w : World} {r : Option Nat} (hB : w.heap.size ≤ B) : OwnFrom B (fun (_ : Nat) W => w.grownBy W r) :=
  fun _ A C row hs hg hr => ⟨hg.os.trans hs.os, hg.tape.trans hs.tape, hg.output.trans hs.output, Nat.le_trans hs.size hg.size, fun k hk hn =>
    (hg.block k (Nat.lt_of_lt_of_le hk hs.size) (fun e => by have := (hr k e.symm).1; omega)).trans (hs.block k hk hn)⟩
theorem ownFrom_boxed {B b : Nat} {t : TypeId} {v : Nat → Value} : OwnFrom B (fun (k : Nat) W => Boxed W b t (v k)) :=
  fun k A C row hs hg hr => hs.kept hg (fun e => by obtain ⟨_, o, ho, hc⟩ := hr b e.symm; rw [show A.heap[b]? = _ from hs] at ho; cases ho; cases hc)
theorem ownFrom_pure' {B : Nat} {p : Nat → Prop} : OwnFrom B (fun (k : Nat) (_ : World) => p k) := fun _ _ _ _ hs _ _ => hs
theorem grownBy_refl (w : World) (r : Option Nat) : w.grownBy w r := ⟨rfl, rfl, rfl, Nat.le_refl _, fun _ _ _ => rfl⟩
theorem grownBy_al {w V : World} {r : Option Nat} (h : w.grownBy V r) (o : Obj) : w.grownBy (V.alloc o) r :=
  ⟨h.os, h.tape, h.output, by have := h.size; simp; omega, fun k hk hn => (Below.heap_alloc V o k (Nat.lt_of_lt_of_le hk h.size)).trans (h.block k hk hn)⟩
theorem grownBy_set {w V : World} {b : Nat} (h : w.grownBy V (some b)) {p : Addr} (hp : p.block = b ∨ w.heap.size ≤ p.block) (u : Value) : w.grownBy (V.setCell p u) (some b) :=
  ⟨h.os, h.tape, h.output, Nat.le_trans h.size (KeepsWalks.setCell V p u).size, fun k hk hn => (Below.heap_setCell V p u k (fun e => by
    rcases hp with hp | hp
    · exact hn (by rw [e, hp])
    · omega)).trans (h.block k hk hn)⟩
theorem grownBy_put {w V : World} {r : Option Nat} (h : w.grownBy V r) {D : Nat} (hD : w.heap.size ≤ D) (o : Obj) : w.grownBy (V.putObj D o) r :=
  ⟨h.os, h.tape, h.output, by have := h.size; simp; omega, fun k hk hn => (World.putObj_heap_other (by omega)).trans (h.block k hk hn)⟩
theorem Boxed.put {W : World} {B D : Nat} {t : TypeId} {v : Value} {o : Obj} (h : Boxed W B t v) (hD : W.heap[D]? = some o) (ho : o.isCells = false) (o' : Obj) : Boxed (W.putObj D o') B t v :=
  h.kept (grownBy_putObj' W D o') (fun e => by cases e; rw [show W.heap[B]? = _ from h] at hD; cases hD; cases ho)

set_option maxRecDepth 100000 in
set_option maxHeartbeats 2000000 in
theorem next_c (b : Nat) (x : Int) (w : World) (hb : Boxed w b 144 (.int .u64 x)) (hx : U x) :
    Calls Tryz.prog 176 #[.pointer (some ⟨b, 0, none⟩)] w fun e w' => e = .returned (.int .u64 (mx (stp x))) ∧ Boxed w' b 144 (.int .u64 (stp x)) ∧ w.grownBy w' (some b) := by
  refine (callsIn_wide (n := 4)).1 ?_
  refine callsIn_of_wp_marks Tryz.func176 rfl trivial ?_ rfl
  simp only [Tryz.ntmps176, List.size_toArray, List.length_cons, List.length_nil, Nat.reduceAdd, Nat.reduceSub, Array.replicate_succ, Array.replicate_zero, List.push_toArray, List.append_toArray, List.nil_append, List.cons_append]
  gi_wp2_with (refine ⟨trivial, ?_⟩; gi_at_call 208; refine (callsIn_wide.2 (draws_c _ _ _)).mono ?_; rintro e w1 ⟨rfl, rfl⟩)
  obtain ⟨V, hV⟩ : ∃ V, (((w.alloc (.cells #[.int .u64 0] 23)).alloc (.cells #[.pointer (some ⟨b, 0, none⟩)] 81)).alloc (.cells #[.int .i64 1] 3)) = V := ⟨_, rfl⟩
  have hbl := hb.lt
  have bR : Boxed V w.heap.size 23 (.int .u64 0) := by rw [← hV]; exact ((Boxed.new w _ _).alloc _).alloc _
  have bS : Boxed V (w.heap.size + 1) 81 (.pointer (some ⟨b, 0, none⟩)) := by
    rw [← hV]; have := (Boxed.new (w.alloc (.cells #[.int .u64 0] 23)) 81 (.pointer (some ⟨b, 0, none⟩))).alloc (.cells #[.int .i64 1] 3); rwa [World.size_alloc] at this
  have bC : Boxed V (w.heap.size + 1 + 1) 3 (.int .i64 1) := by
    rw [← hV]; have := Boxed.new ((w.alloc (.cells #[.int .u64 0] 23)).alloc (.cells #[.pointer (some ⟨b, 0, none⟩)] 81)) 3 (.int .i64 1); rwa [World.size_alloc, World.size_alloc] at this
  have bB : Boxed V b 144 (.int .u64 x) := by rw [← hV]; exact ((hb.alloc _).alloc _).alloc _
  have gV : w.grownBy V (some b) := by rw [← hV]; exact grownBy_al (grownBy_al (grownBy_al (grownBy_refl _ _) _) _) _
  have sV : w.heap.size + 3 = V.heap.size := by rw [← hV]; simp
  rw [hV]
  refine range_c (gf := 226) (lb := #[.pointer (some ⟨w.heap.size + 1, 0, none⟩), .pointer (some ⟨w.heap.size + 1 + 1, 0, none⟩)]) rfl (enters_of Tryz.func226 (by kernel_rfl) rfl) rfl
    1 b (fun k => .int .u64 (stN x (k + 1))) (fun k => .int .u64 (mx (stN x (k + 1))))
    (fun k W => k = 0 ∧ Boxed W b 144 (.int .u64 (stN x k)) ∧ Boxed W w.heap.size 23 (.int .u64 0) ∧ Boxed W (w.heap.size + 1) 81 (.pointer (some ⟨b, 0, none⟩)) ∧ Boxed W (w.heap.size + 1 + 1) 3 (.int .i64 1) ∧ w.grownBy W (some b))
    (fun k W => k = 0 ∧ Boxed W b 144 (.int .u64 (stN x (k + 1))) ∧ Boxed W w.heap.size 23 (.int .u64 0) ∧ w.grownBy W (some b))
    (fun _ W => Boxed W b 144 (.int .u64 (stp x)) ∧ Boxed W w.heap.size 23 (.int .u64 (mx (stp x))) ∧ w.grownBy W (some b))
    (ownFrom_pure'.and (ownFrom_boxed.and (ownFrom_boxed.and (ownFrom_boxed.and (ownFrom_boxed.and (ownFrom_grown gV.size))))))
    (ownFrom_pure'.and (ownFrom_boxed.and (ownFrom_boxed.and (ownFrom_grown gV.size))))
    (ownFrom_boxed.and (ownFrom_boxed.and (ownFrom_grown gV.size)))
    ⟨rfl, bB, bR, bS, bC, gV⟩
    (fun k W _ h => ⟨h.1, h.2.1.set _, h.2.2.1.other (by omega) _, grownBy_set h.2.2.2.2.2 (.inl rfl) _⟩)
    (draws1_gives 3 (by decide) _ _ b 1 x hx (by decide) _ (fun k W h => ⟨h.2.2.2.1, h.2.2.2.2.1, h.2.1⟩))
    (fun k => { tmps := #[.pointer (some ⟨b, 0, none⟩), undef, .pointer (some ⟨w.heap.size, 0, none⟩), .int .u64 (mx (stN x (k + 1))), .pointer (some ⟨b, 0, none⟩),
      .func (.func 226) #[] #[.pointer (some ⟨w.heap.size + 1, 0, none⟩), .pointer (some ⟨w.heap.size + 1 + 1, 0, none⟩)], .int .u64 (mx (stN x (k + 1))), undef], defers := [] }) ?assign ?body ?done ?stop
  case assign =>
    intro l k W K hK
    gi_wp2
    exact hK
  case body =>
    rintro l k W hk ⟨rfl, h1, h2, hg⟩
    have c2 := h2.cell
    have f2 := h2.frozen
    gi_wp2
    exact ⟨KeepsOthers.setCell _ _ _, h1.other (by omega) _, h2.set _, grownBy_set hg (.inr (Nat.le_refl _)) _⟩
  case done =>
    rintro D W hD ⟨h, _⟩ _
    cases h
  case stop =>
    rintro D k W hD hk ⟨h1, h2, hg⟩ hK
    gi_wp2
    refine ⟨by simp, .inl ⟨_, _, rfl, run_takeDeferred hK, ?_⟩⟩
    have c2 := (Boxed.put h2 hK rfl (.deferred none)).cell
    refine ⟨.int .u64 (mx (stp x)), ?_, rfl, Boxed.put h1 hK rfl _, grownBy_put hg (by omega) _⟩
    simp [results, Tryz.f176, go_sem, c2]

end Go.Proofs.YtepjbdklljlecaaGreat.Rn

/- Below, and the calls on no source. -/
namespace Go.Proofs.YtepjbdklljlecaaGreat.Rn
open Go.RowKit Go.Shelf

/-- P4.2. -/
abbrev ckOk (n lo hi : Int) : Prop := lo ≤ n ∧ n ≤ hi
theorem ckE_ok {n lo hi : Int} (h : ckOk n lo hi) : ckE n lo hi = 0 := if_neg (by have := h.1; have := h.2; omega)
set_option maxHeartbeats 400000 in
theorem below_ok (b : Nat) (x n : Int) (w : World) (hb : Boxed w b 144 (.int .u64 x)) (hx : U x) (h : ckOk n 1 1000000000) :
    Calls Tryz.prog 132 #[.pointer (some ⟨b, 0, none⟩), .int .i64 n] w fun e w' => e = .returned (.tuple #[.int .i64 (mx (stp x) % n), .int .i64 0]) ∧ Boxed w' b 144 (.int .u64 (stp x)) ∧ w.grownBy w' (some b) := by
  have hck := check_c ⟨b, 0, none⟩ n 1 1000000000 w
  rw [ckE_ok h] at hck
  have hn := next_c b x w hb hx
  have hr := fun W => rest_c (mx (stp x)) n W (u_mx _) h.1 h.2
  generalize mx (stp x) = z at *
  clear h
  go_enter Tryz.func132, Tryz.ntmps132
  go_wp2_with first | (go_at_call 174; refine hck.mono ?_; rintro e w1 ⟨rfl, rfl⟩) | (go_at_call 176; refine hn.mono ?_; rintro e w2 ⟨rfl, hb2, g2⟩) | (go_at_call 175; refine (hr _).mono ?_; rintro e w3 ⟨rfl, rfl⟩)
  exact bodyPost_ret (v := .tuple #[.int .i64 (z % n), .int .i64 0]) (by simp [results, Tryz.results132, go_sem]) rfl ⟨rfl, hb2, g2⟩
end Go.Proofs.YtepjbdklljlecaaGreat.Rn

/- flat.Check, checkAll, begin. -/
namespace Go.Proofs.YtepjbdklljlecaaGreat
open Go.RowKit Go.Sort

/-- Rows whose numbers are of a machine's word. -/
def Wf (rs : List Rw) : Prop := rs.length ≤ 4611686018427387904 ∧ ∀ i, i < rs.length → (Lit.int .i64 rs[i]!.1).wf = true
set_option maxHeartbeats 1000000 in
theorem fcheck_c {w : World} {v : Value} {rs : List Rw} (h : RdW w v rs) (hwf : Wf rs) (d : Int) :
    Calls Tryz.prog 54 #[v, .int .i64 d] w fun e w' => e = .returned (.int .i64 (flatE rs d)) ∧ Gb w w' := by
  have hb := box_c h d hwf.1 hwf.2
  have E := flatE_box rs d
  obtain ⟨a, cap, rfl, _⟩ := h
  generalize boxR rs d = R at *
  generalize boxE rs d = x at *
  generalize flatE rs d = y at *
  generalize rs.length = n at *
  by_cases hx : x = 1
  · rw [if_pos hx] at E
    subst hx; subst E
    go_enter Tryz.func54, Tryz.ntmps54
    go_wp2_with fail
    refine hb.mono ?_
    rintro e w' ⟨vl, vh, vi, rfl, g, o1, o2, o3, _⟩
    obtain ⟨p1, c1, rfl, _⟩ := o1.rd
    obtain ⟨p2, c2, rfl, _⟩ := o2.rd
    obtain ⟨p3, c3, rfl, _⟩ := o3.rd
    clear hb o1 o2 o3
    go_wp2
    go_ret
    exact ⟨rfl, by refine gb_trans g ?_; go_grown⟩
  · rw [if_neg hx] at E
    subst E
    have hx' : (y == 1) = false := by rw [beq_eq_false_iff_ne]; exact hx
    go_enter Tryz.func54, Tryz.ntmps54
    go_wp2_with fail
    refine hb.mono ?_
    rintro e w' ⟨vl, vh, vi, rfl, g, o1, o2, o3, _⟩
    obtain ⟨p1, c1, rfl, _⟩ := o1.rd
    obtain ⟨p2, c2, rfl, _⟩ := o2.rd
    obtain ⟨p3, c3, rfl, _⟩ := o3.rd
    clear hb o1 o2 o3
    go_wp2
    go_ret
    exact ⟨rfl, by refine gb_trans g ?_; go_grown⟩

set_option maxHeartbeats 1000000 in
theorem ask_c {w : World} {v u : Value} {rs : List Rw} {q : List Int} (h : RdW w v rs) (hu : RdI w u q) (hwf : Wf rs) :
    Calls Tryz.prog 79 #[v, u] w fun e w' => e = .returned (.int .i64 (askE rs q)) ∧ Gb w w' := by
  have c1 := check_c hu (q.length : Int)
  have c2 := fcheck_c h hwf (q.length : Int)
  have E : askE rs q = if chk q (q.length : Int) = 0 then flatE rs (q.length : Int) else chk q (q.length : Int) := rfl
  obtain ⟨a, cap, rfl, _⟩ := h
  obtain ⟨a', cap', rfl, _⟩ := hu
  generalize askE rs q = z at *
  generalize flatE rs (q.length : Int) = y at *
  generalize chk q (q.length : Int) = x at *
  generalize rs.length = n at *
  generalize q.length = m at *
  by_cases hx : x = 0
  · rw [if_pos hx] at E
    subst hx; subst E
    go_enter Tryz.func79, Tryz.ntmps79
    go_wp2_with fail
    refine c1.mono ?_
    rintro e w' ⟨rfl, e2⟩
    subst e2
    clear c1
    go_wp2_with fail
    refine c2.mono ?_
    rintro e w' ⟨rfl, g⟩
    clear c2
    go_wp2
    go_ret
    exact ⟨rfl, g⟩
  · rw [if_neg hx] at E
    subst E
    have hx' : (z == 0) = false := by rw [beq_eq_false_iff_ne]; exact hx
    go_enter Tryz.func79, Tryz.ntmps79
    go_wp2_with fail
    refine c1.mono ?_
    rintro e w' ⟨rfl, e2⟩
    subst e2
    clear c1 c2
    go_wp2
    go_ret
    exact ⟨rfl, Below.refl _ _⟩

/-- What begin leaves: none and why not, or a heap of its own, as yet empty. -/
def Begun (w w' : World) (p : Value) (rs : List Rw) (q : List Int) (k : Int) : Prop :=
  Gb w w' ∧ (topE rs q k ≠ 0 → p = .pointer none) ∧ (topE rs q k = 0 → ∃ hb, p = .pointer (some ⟨hb, 0, none⟩) ∧ w.heap.size ≤ hb ∧ Tk.Has w' hb k.toNat (.slice none 0 0) [])
set_option maxHeartbeats 1000000 in
theorem begin_c {w : World} {v u : Value} {rs : List Rw} {q : List Int} (h : RdW w v rs) (hu : RdI w u q) (hwf : Wf rs) (k : Int) :
    Calls Tryz.prog 44 #[v, u, .int .i64 k] w fun e w' => ∃ p, e = .returned (.tuple #[p, .int .i64 (topE rs q k)]) ∧ Begun w w' p rs q k := by
  have c1 := ask_c h hu hwf
  have E : topE rs q k = if askE rs q = 0 then (if 1 ≤ k ∧ k ≤ 64 then 0 else 1) else askE rs q := rfl
  unfold Begun
  obtain ⟨a, cap, rfl, _⟩ := h
  obtain ⟨a', cap', rfl, _⟩ := hu
  generalize topE rs q k = z at *
  generalize askE rs q = x at *
  generalize rs.length = n at *
  generalize q.length = m at *
  by_cases hx : x = 0
  · rw [if_pos hx] at E
    subst hx
    by_cases hk : 1 ≤ k ∧ k ≤ 64
    · rw [if_pos hk] at E
      subst E
      go_enter Tryz.func44, Tryz.ntmps44
      go_wp2_with fail
      refine c1.mono ?_
      rintro e w' ⟨rfl, g⟩
      clear c1
      have cN := Tk.new_ok k hk.1 hk.2 w'
      go_wp2_with fail
      refine cN.mono ?_
      rintro e w2 ⟨rfl, e2⟩
      subst e2
      clear cN
      go_wp2
      go_ret2
      refine ⟨_, rfl, gb_alloc g _, fun e => absurd rfl e, fun _ => ⟨_, rfl, g.size, ?_⟩⟩
      have hh := Tk.new_has k.toNat (by omega) (by omega) w'
      rwa [show ((k.toNat : Nat) : Int) = k by omega] at hh
    · rw [if_neg hk] at E
      subst E
      have hk' : k < 1 ∨ 64 < k := by omega
      clear hk
      go_enter Tryz.func44, Tryz.ntmps44
      go_wp2_with fail
      refine c1.mono ?_
      rintro e w' ⟨rfl, g⟩
      clear c1
      have cN : Calls Tryz.prog 40 #[.int .i64 k] w' fun e w'' => e = .returned (.tuple #[.pointer none, .int .i64 1]) ∧ w'' = w' := by
        rcases hk' with h | h
        · exact Tk.new_lo k h w'
        · exact Tk.new_hi k h w'
      go_wp2_with fail
      refine cN.mono ?_
      rintro e w2 ⟨rfl, e2⟩
      subst e2
      clear cN
      go_wp2
      go_ret2
      exact ⟨_, rfl, g, fun _ => rfl, fun e => absurd e (by decide)⟩
  · rw [if_neg hx] at E
    subst E
    have hx' : (z == 0) = false := by rw [beq_eq_false_iff_ne]; exact hx
    go_enter Tryz.func44, Tryz.ntmps44
    go_wp2_with fail
    refine c1.mono ?_
    rintro e w' ⟨rfl, g⟩
    clear c1
    go_wp2
    go_ret2
    exact ⟨_, rfl, g, fun _ => rfl, fun e => absurd e hx⟩
end Go.Proofs.YtepjbdklljlecaaGreat

/- flat.hits: what is ranged over. -/
namespace Go.Proofs.YtepjbdklljlecaaGreat
open Go.RowKit Go.Shelf
attribute [local go_sem] Oper.semAt_some

theorem hits_c (a a' : Option Addr) (n n' c c' : Nat) (w : World) :
    Calls Tryz.prog 80 #[.slice a n c, .slice a' n' c'] w fun e w' => e = .returned (.func (.func 113) #[] #[.pointer (some ⟨w.heap.size, 0, none⟩), .pointer (some ⟨w.heap.size + 1, 0, none⟩)]) ∧ (w.alloc (.cells #[.slice a n c] 22)).alloc (.cells #[.slice a' n' c'] 41) = w' := by
  go_enter Tryz.func80, Tryz.ntmps80
  go_wp2
  go_ret
  exact ⟨rfl, rfl⟩

/-- What the rounds may lean on: the boxes of the rows and of q, and what they read as. -/
structure HitsAt (W : World) (Br Bq : Nat) (v u : Value) (rs : List Rw) (q : List Int) : Prop where
  br : Boxed W Br 22 v
  bq : Boxed W Bq 41 u
  rows : RdW W v rs
  q : RdI W u q

set_option maxHeartbeats 2000000 in
theorem hits1_gives (n : Nat) (hn : 1 ≤ n) (Br Bq : Nat) (v u : Value) (rs : List Rw) (q : List Int) (hask : askE rs q = 0) (I : Nat → World → Prop)
    (hr : ∀ k W, I k W → HitsAt W Br Bq v u rs q) :
    Gives n Tryz.prog 113 #[.pointer (some ⟨Br, 0, none⟩), .pointer (some ⟨Bq, 0, none⟩)] rs.length (fun k => Tk.hv (hitOf q rs[k]!)) I := by
  intro l J W hJI hgr hY h0
  refine callsIn_of_wp Tryz.func113 rfl trivial ?_ rfl
  simp only [Tryz.ntmps113, List.size_toArray, List.length_cons, List.length_nil, Nat.reduceAdd, Nat.reduceSub, Array.replicate_succ, Array.replicate_zero, List.push_toArray, List.append_toArray, List.nil_append, List.cons_append]
  obtain ⟨r1, r2, r3, _⟩ := hr 0 W (hJI 0 W h0)
  obtain ⟨a, cap, rfl, _⟩ := r3
  have hlen : rs.length ≤ 512 := (askE_zero.1 hask).2.few
  have c1 := r1.cell
  obtain ⟨N, hN⟩ : ∃ N, N = rs.length := ⟨_, rfl⟩
  have NH : Hid (N = rs.length) := hN
  rw [← hN] at hlen hr hY c1 ⊢
  clear hN
  gi_wp2
  clear c1 r1 r2
  gi_loopw [10] (fun v wr => ∃ k : Nat, v = .int .i64 k ∧ k ≤ N ∧ J k wr) (fun v _ => N - (intOf v).toNat)
  case atStart => exact ⟨0, rfl, Nat.zero_le _, h0⟩
  case round =>
    obtain ⟨k, rfl, hk, hj⟩ := hrel
    by_cases hlt : k < N
    · have hlt' : (k : Int) < N := by omega
      obtain ⟨r1, r2, r3, r4⟩ := hr k wr (hJI k wr hj)
      have hkr : k < rs.length := by have := NH.out; omega
      obtain ⟨a', cap', ev, ha⟩ := r3
      obtain ⟨b, o, x, ea, e1, e2, e3⟩ := ha k hkr
      injection ev with ev1 ev2 ev3
      subst ev1; subst ev3; subst ea
      clear ha ev2
      have c1 := r1.cell
      have c2 := r2.cell
      obtain ⟨hd1, hd2⟩ := row_dist hask (List.getElem_mem hkr)
      rw [← getElem!_pos rs k hkr] at hd1 hd2
      have X : Hid (RdI wr x rs[k]!.2) := e3
      have U : Hid (RdI wr u q) := r4
      obtain ⟨pa, ca, rfl, _⟩ := e3
      obtain ⟨pb, cb, rfl, _⟩ := r4
      have hY' := fun W => hY k W hlt
      have cD := fun W (g : Gb wr W) => dist_c (U.out.gb g) (X.out.gb g)
      rw [hd1, hd2] at cD
      obtain ⟨y, hy⟩ : ∃ y, y = rs[k]!.1 := ⟨_, rfl⟩
      obtain ⟨m, hm⟩ : ∃ m, m = rs[k]!.2.length := ⟨_, rfl⟩
      obtain ⟨D, hD⟩ : ∃ D, D = dst q rs[k]!.2 := ⟨_, rfl⟩
      have Y : Hid (y = rs[k]!.1 ∧ D = dst q rs[k]!.2) := ⟨hy, hD⟩
      rw [← hm] at e2
      rw [← hy] at e1
      rw [← hD, ← hm] at cD
      have hY2 : ∀ W, J k W → YieldAt Fence.wide (n - 1) Tryz.prog l #[.agg #[.int .i64 y, .int .u64 (hi D), .int .u64 (lo D)]] W fun e W' => e = .returned (.bool true) ∧ J (k + 1) W' := by
        rw [hy, hD]; exact hY'
      clear hY' hd1 hd2 hy hm hD hY hr
      have G1 : Gb wr (wr.alloc (.cells #[.int .i64 y, .slice pa m ca] 43)) := by go_grown
      have cD1 := cD _ G1
      clear cD
      have c3 := (r2.alloc (.cells #[.int .i64 y, .slice pa m ca] 43)).cell
      have k0 : (wr.alloc (.cells #[.int .i64 y, .slice pa m ca] 43)).cell? ⟨wr.heap.size, 0, none⟩ = some (.int .i64 y) := by simp [go_sem]
      gi_wp2_with (refine ⟨trivial, ?_⟩; gi_at_call 106; refine (callsIn_wide.2 cD1).mono ?_; rintro e w1 ⟨rfl, g1⟩; have k1 := gb_keeps g1.gb k0; have k2 := gb_keeps (gb_alloc (Below.refl _ w1) (.cells #[.int .u64 (hi D), .int .u64 (lo D)] 66)) k1; obtain ⟨fn, tmps, assign, body, hy, hR⟩ := hY2 (w1.alloc (.cells #[.int .u64 (hi D), .int .u64 (lo D)] 66)) (hgr k _ _ hj (gb_alloc (gb_trans G1 g1.gb) _)))
      refine hR.mono ?_
      rintro e W3 ⟨rfl, hJ3⟩
      clear hR hy k2 k1 k0 g1 cD1 G1 c3
      gi_wp2
      go_roundw
      case rel => exact ⟨k + 1, by simp, by omega, hJ3⟩
      case measure => simp [intOf]; omega
    · have hlt' : ¬ (k : Int) < N := by omega
      gi_wp2
      go_end0
      obtain rfl : k = N := by omega
      exact ⟨⟨_, rfl⟩, hj⟩
end Go.Proofs.YtepjbdklljlecaaGreat

/- flat.nearest, TopK. -/
namespace Go.Proofs.YtepjbdklljlecaaGreat
open Go.RowKit Go.Shelf
attribute [local go_sem] Oper.semAt_some

theorem Boxed.kp {S : Nat → Prop} {W W' : World} {B : Nat} {t : TypeId} {v : Value} (h : Boxed W B t v) (k : Tk.Kp S W W') (hn : ¬ S B) : Boxed W' B t v :=
  (k.block B h.lt hn).trans h
theorem keeps_of_kp {S : Nat → Prop} {W W' : World} (k : Tk.Kp S W W') (hS : ∀ b, S b → ∃ o : Obj, W.heap[b]? = some o ∧ o.isCells = true) : KeepsOthers W W' := by
  refine ⟨k.size, fun b o hb ho => ?_⟩
  rw [k.block b (Array.getElem?_eq_some_iff.1 hb).1, hb]
  intro hs
  obtain ⟨o', e, h'⟩ := hS b hs
  rw [hb] at e
  injection e with e
  rw [e, h'] at ho
  cases ho
/-- A heap's block and its hits' block. -/
theorem Has.cells {W : World} {hb k : Nat} {v : Value} {m : List Tk.Ht} (h : Tk.Has W hb k v m) : ∃ cs, W.heap[hb]? = some (.cells cs 113 (0, 0)) := by
  obtain ⟨d, h1, _⟩ := h; exact ⟨_, h1.blk⟩
theorem Has.own {W : World} {hb k : Nat} {v : Value} {m : List Tk.Ht} (h : Tk.Has W hb k v m) {g : Nat} (hg : v.ownBlock = some g) : ∃ cs, W.heap[g]? = some (.cells cs 68 (0, 0)) := by
  obtain ⟨d, h1, _⟩ := h
  rcases h1.own.2 with ⟨rfl, _⟩ | ⟨g', cap', cur, rfl, _, hh, _⟩
  · cases hg
  · simp only [Value.ownBlock, Option.some.injEq] at hg
    exact ⟨cur, by rw [← hg]; exact hh⟩
theorem ownFrom_has {B hb k : Nat} {vh : Value} {m : Nat → List Tk.Ht} : OwnFrom B (fun (j : Nat) W => Tk.Has W hb k vh (m j)) := fun j W W' row h hg hr => by
  refine h.kp (Tk.Kp.grown hg) ?_ ?_
  · intro e
    obtain ⟨_, o, ho, hc⟩ := hr hb e.symm
    obtain ⟨cs, h1⟩ := Has.cells h
    rw [h1] at ho; injection ho with ho; subst ho; cases hc
  · intro g hg' e
    obtain ⟨_, o, ho, hc⟩ := hr g e.symm
    obtain ⟨cs, h1⟩ := Has.own h hg'
    rw [h1] at ho; injection ho with ho; subst ho; cases hc

theorem box_ne {W : World} {hb k : Nat} {vh : Value} {m : List Tk.Ht} (h : Tk.Has W hb k vh m) {B : Nat} {t : TypeId} {v : Value} (b : Boxed W B t v) (h1 : t ≠ 113) (h2 : t ≠ 68) : ¬ (B = hb ∨ some B = vh.ownBlock) := by
  have e : W.heap[B]? = some (.cells #[v] t (0, 0)) := b
  rintro (rfl | e2)
  · obtain ⟨cs, e3⟩ := Has.cells h
    rw [e] at e3; simp at e3; exact h1 e3.2
  · obtain ⟨cs, e3⟩ := Has.own h e2.symm
    rw [e] at e3; simp at e3; exact h2 e3.2
theorem gb_trans' {a b c : World} {B : Nat} (h : Below B a b) (k : Gb b c) (hB : B ≤ b.heap.size) : Below B a c := h.trans (k.mono hB)
theorem below_putObj {a b : World} {B D : Nat} (h : Below B a b) (hD : B ≤ D) (o : Obj) : Below B a (b.putObj D o) :=
  ⟨h.os, h.tape, h.output, by simpa [World.putObj] using h.size, fun k hk => (World.putObj_heap_other (by omega)).trans (h.block k hk)⟩
theorem own_putObj {w : World} {v : Value} {d : Array Tk.Ht} {D : Nat} {o : Obj} (h : Tk.Own w v d) (hK : w.heap[D]? = some o) (hc : o.isCells = false) (o' : Obj) : Tk.Own (w.putObj D o') v d := by
  refine Tk.own_kp h (Tk.Kp.grown (grownBy_putObj' w D o')) fun g hg e => ?_
  rcases h.2 with ⟨rfl, _⟩ | ⟨g', cap', cur, rfl, _, hh, _⟩
  · cases hg
  · simp only [Value.ownBlock, Option.some.injEq] at hg e
    subst hg; subst e
    rw [hh] at hK; injection hK with hK; subst hK; cases hc
/-- Behind j rounds. -/
def NearAt (w0 : World) (hb k Bb Br Bq : Nat) (v u : Value) (rs : List Rw) (q : List Int) (j : Nat) (W : World) : Prop :=
  ∃ vh, Tk.Has W hb k vh (Tk.firsts k (hitsOf q (rs.take j))) ∧ (∀ g, vh.ownBlock = some g → w0.heap.size ≤ g) ∧ Below w0.heap.size w0 W ∧ Boxed W Bb 85 (.pointer (some ⟨hb, 0, none⟩)) ∧ Boxed W Br 22 v ∧ Boxed W Bq 41 u
theorem ownFrom_ex {β γ : Type} {B : Nat} {I : γ → β → World → Prop} (h : ∀ x, OwnFrom B (I x)) : OwnFrom B (fun s W => ∃ x, I x s W) := fun s W W' row hs hg hr => by
  obtain ⟨x, hx⟩ := hs; exact ⟨x, h x s W W' row hx hg hr⟩
theorem ownFrom_box {β : Type} {B b : Nat} {t : TypeId} {v : β → Value} : OwnFrom B (fun (k : β) W => Boxed W b t (v k)) := (boxed_own b t v).from B
theorem ownFrom_near {w0 : World} {B hb k Bb Br Bq : Nat} {v u : Value} {rs : List Rw} {q : List Int} (hB : w0.heap.size ≤ B) : OwnFrom B (NearAt w0 hb k Bb Br Bq v u rs q) :=
  ownFrom_ex fun _ => ownFrom_has.and ((ownFrom_pure B _).and ((ownFrom_below (Nat.le_refl _) hB).and (ownFrom_box.and (ownFrom_box.and ownFrom_box))))

/-- A hit in a block of its own. -/
abbrev hitObj (x : Tk.Ht) : Obj := .cells #[.int .i64 x.1, .int .u64 x.2.1, .int .u64 x.2.2] 68
def HitBox (W : World) (p : Nat) (x : Tk.Ht) : Prop := W.heap[p]? = some (hitObj x)
theorem hitBox_new (W : World) (x : Tk.Ht) : HitBox (W.alloc (hitObj x)) W.heap.size x := World.alloc_heap_new W _
theorem HitBox.cells {W : World} {p : Nat} {x : Tk.Ht} (h : HitBox W p x) : W.cell? ⟨p, 0, none⟩ = some (.int .i64 x.1) ∧ W.cell? ⟨p, 1, none⟩ = some (.int .u64 x.2.1) ∧ W.cell? ⟨p, 2, none⟩ = some (.int .u64 x.2.2) := by
  have e : W.heap[p]? = some (hitObj x) := h
  refine ⟨?_, ?_, ?_⟩ <;> simp [World.cell?, e]
theorem ownFrom_hitBox {B p : Nat} {x : Nat → Tk.Ht} : OwnFrom B (fun (j : Nat) W => HitBox W p (x j)) := fun j W W' row h hg hr => by
  have e : W.heap[p]? = some (hitObj (x j)) := h
  refine (hg.block p (Array.getElem?_eq_some_iff.1 e).1 ?_).trans e
  intro e2
  obtain ⟨_, o, ho, hc⟩ := hr p e2.symm
  rw [e] at ho; injection ho with ho; subst ho; cases hc
/-- Offer, with what it leaves of other blocks told by their kind. -/
theorem offer_has' {w : World} {hb k : Nat} {v : Value} {m : List Tk.Ht} (h : Tk.Has w hb k v m) (x : Tk.Ht) :
    Calls Tryz.prog 81 #[.pointer (some ⟨hb, 0, none⟩), Tk.hv x] w fun e w' => (∃ b, e = .returned (.bool b)) ∧ ∃ v', Tk.Has w' hb k v' (Tk.keep k m x) ∧ Tk.Kp (fun b => b = hb ∨ some b = v.ownBlock) w w' ∧ (v'.ownBlock = v.ownBlock ∨ ∀ g, v'.ownBlock = some g → w.heap.size ≤ g) := by
  refine (Tk.offer_has h x).mono ?_
  rintro e w' ⟨rfl, v', h1, h2, h3⟩
  exact ⟨⟨_, rfl⟩, v', h1, h2, h3⟩

/-- Lists of hits that came out, in memory that w0 has not. -/
def OutH (w0 w' : World) (v : Value) (l : List Tk.Ht) : Prop := Tk.Own w' v l.toArray ∧ Below w0.heap.size w0 w' ∧ ∀ g, v.ownBlock = some g → w0.heap.size ≤ g

set_option maxRecDepth 100000 in
set_option maxHeartbeats 2000000 in
theorem nearest_c {w0 w : World} {hb k : Nat} {v u : Value} {rs : List Rw} {q : List Int} (hH : Tk.Has w hb k (.slice none 0 0) []) (hh : w0.heap.size ≤ hb) (hv : RdW w0 v rs) (hu : RdI w0 u q) (g0 : Below w0.heap.size w0 w) (hask : askE rs q = 0) :
    Calls Tryz.prog 45 #[.pointer (some ⟨hb, 0, none⟩), v, u] w fun e w' => ∃ v', e = .returned v' ∧ OutH w0 w' v' (Tk.firsts k (hitsOf q rs)) := by
  have V : Hid (RdW w0 v rs) := hv
  have U : Hid (RdI w0 u q) := hu
  obtain ⟨av, cv, rfl, _⟩ := hv
  obtain ⟨au, cu, rfl, _⟩ := hu
  obtain ⟨m, hm⟩ : ∃ m, m = q.length := ⟨_, rfl⟩
  obtain ⟨n, hn⟩ : ∃ n, n = rs.length := ⟨_, rfl⟩
  have NH : Hid (n = rs.length) := hn
  rw [← hm] at U
  rw [← hn] at V
  rw [← hm, ← hn]
  clear hm hn
  have hits := fun W => hits_c av au n m cv cu W
  refine (callsIn_wide (n := 4)).1 ?_
  refine callsIn_of_wp_marks Tryz.func45 rfl trivial ?_ rfl
  simp only [Tryz.ntmps45, List.size_toArray, List.length_cons, List.length_nil, Nat.reduceAdd, Nat.reduceSub, Array.replicate_succ, Array.replicate_zero, List.push_toArray, List.append_toArray, List.nil_append, List.cons_append]
  gi_wp2_with (refine ⟨trivial, ?_⟩; gi_at_call 80; refine (callsIn_wide.2 (hits _)).mono ?_; rintro e w1 ⟨rfl, hw1⟩)
  have V1 : Hid ((((w.alloc (.cells #[.pointer (some ⟨hb, 0, none⟩)] 85)).alloc (.cells #[.slice av n cv] 22)).alloc (.cells #[.slice au m cu] 41)) = w1) := hw1
  have N0 : NearAt w0 hb k w.heap.size (w.heap.size + 1) (w.heap.size + 1 + 1) (.slice av n cv) (.slice au m cu) rs q 0 w1 := by
    rw [← hw1]
    have b1 := ((Boxed.new w 85 (.pointer (some ⟨hb, 0, none⟩))).alloc (.cells #[.slice av n cv] 22)).alloc (.cells #[.slice au m cu] 41)
    have b2 := (Boxed.new (w.alloc (.cells #[.pointer (some ⟨hb, 0, none⟩)] 85)) 22 (.slice av n cv)).alloc (.cells #[.slice au m cu] 41)
    have b3 := Boxed.new ((w.alloc (.cells #[.pointer (some ⟨hb, 0, none⟩)] 85)).alloc (.cells #[.slice av n cv] 22)) 41 (.slice au m cu)
    simp only [World.size_alloc] at b2 b3
    refine ⟨.slice none 0 0, ?_, fun g e => by simp [Value.ownBlock] at e, ?_, b1, b2, b3⟩
    · rw [List.take_zero]
      show Tk.Has _ hb k _ (Tk.firsts k [])
      rw [Tk.firsts_nil]
      exact hH.gr (gb_alloc (gb_alloc (gb_alloc (Below.refl _ _) _) _) _)
    · exact ((g0.alloc g0.size _).alloc (by rw [World.size_alloc]; exact Nat.le_succ_of_le g0.size) _).alloc (by rw [World.size_alloc, World.size_alloc]; have := g0.size; omega) _
  have s1 : w.heap.size + 3 = w1.heap.size := by rw [← hw1]; simp
  have s0 := g0.size
  clear hw1 hits V1
  have hrd : ∀ j W, NearAt w0 hb k w.heap.size (w.heap.size + 1) (w.heap.size + 1 + 1) (.slice av n cv) (.slice au m cu) rs q j W → HitsAt W (w.heap.size + 1) (w.heap.size + 1 + 1) (.slice av n cv) (.slice au m cu) rs q := fun j W h => by
    obtain ⟨vh, h1, h2, h3, h4, h5, h6⟩ := h
    exact ⟨h5, h6, V.out.gb h3, U.out.gb h3⟩
  refine range_c (gf := 113) (lb := #[.pointer (some ⟨w.heap.size + 1, 0, none⟩), .pointer (some ⟨w.heap.size + 1 + 1, 0, none⟩)]) rfl (enters_of Tryz.func113 (by kernel_rfl) rfl) rfl
    n (fun j => Tk.hv (hitOf q rs[j]!)) (NearAt w0 hb k w.heap.size (w.heap.size + 1) (w.heap.size + 1 + 1) (.slice av n cv) (.slice au m cu) rs q)
    (fun j p W => NearAt w0 hb k w.heap.size (w.heap.size + 1) (w.heap.size + 1 + 1) (.slice av n cv) (.slice au m cu) rs q j W ∧ HitBox W p (hitOf q rs[j]!))
    (fun j => hitObj (hitOf q rs[j]!))
    (ownFrom_near (by omega)) (fun p => (ownFrom_near (by omega)).and ownFrom_hitBox) N0
    (fun j W _ h => ⟨ownFrom_near (B := 0 + w0.heap.size) (by omega) j W _ none h (grown_of_gb (gb_alloc (Below.refl _ _) _)) (fun r e => by cases e), hitBox_new W _⟩)
    (by have := hits1_gives 3 (by decide) (w.heap.size + 1) (w.heap.size + 1 + 1) (.slice av n cv) (.slice au m cu) rs q hask _ hrd
        rwa [← NH.out] at this)
    (fun j p => { tmps := #[.pointer (some ⟨hb, 0, none⟩), .slice av n cv, .slice au m cu, .pointer (some ⟨w.heap.size, 0, none⟩), undef, undef, .slice none 0 0, .pointer (some ⟨p, 0, none⟩), .slice av n cv, .slice au m cu,
      .func (.func 113) #[] #[.pointer (some ⟨w.heap.size + 1, 0, none⟩), .pointer (some ⟨w.heap.size + 1 + 1, 0, none⟩)], Tk.hv (hitOf q rs[j]!), undef, undef, undef, undef, undef], defers := [] }) ?assign ?body ?done
  case assign =>
    intro l j W K hK
    generalize rs[j]! = r at *
    gi_wp2
    exact hK
  case body =>
    clear N0
    rintro l j p W hj ⟨⟨vh, h1, h2, h3, h4, h5, h6⟩, hp⟩
    have hjr : j < rs.length := by have := NH.out; omega
    have hm := hitsOf_snoc q hjr
    have hoff := offer_has' h1 (hitOf q rs[j]!)
    rw [← Tk.firsts_snoc, ← hm] at hoff
    generalize hitOf q rs[j]! = x at *
    obtain ⟨x0, x1, x2⟩ := x
    have cB := h4.cell
    obtain ⟨y0, y1, y2⟩ := hp.cells
    gi_wp2_with (refine ⟨trivial, ?_⟩; gi_at_call 81; refine (CallsIn.inRound l (callsIn_wide.2 hoff)).mono ?_; rintro e w5 ⟨⟨b, rfl⟩, v', q1, q2, q3⟩)
    refine ⟨keeps_of_kp q2 ?_, v', q1, ?_, ?_, Boxed.kp h4 q2 (box_ne h1 h4 (by decide) (by decide)), Boxed.kp h5 q2 (box_ne h1 h5 (by decide) (by decide)), Boxed.kp h6 q2 (box_ne h1 h6 (by decide) (by decide))⟩
    · rintro b (rfl | e)
      · obtain ⟨cs, e⟩ := Has.cells h1; exact ⟨_, e, rfl⟩
      · obtain ⟨cs, e⟩ := Has.own h1 e.symm; exact ⟨_, e, rfl⟩
    · intro g e
      rcases q3 with q3 | q3
      · exact h2 g (by rw [← q3]; exact e)
      · have := q3 g e; have := h3.size; omega
    · refine h3.trans (q2.gr h3.size ?_)
      rintro b (rfl | e)
      · exact hh
      · exact h2 b e.symm
  case done =>
    clear N0
    rintro D W hD ⟨vh, h1, h2, h3, h4, h5, h6⟩ hK
    have cB := h4.cell
    have hl := Tk.list_has h1
    rw [List.take_of_length_le (by have := NH.out; omega)] at hl
    gi_wp2_with (refine ⟨trivial, ?_⟩; gi_at_call 78; refine (callsIn_wide.2 hl).mono ?_; rintro e w5 ⟨v', rfl, o1, o2, o3⟩)
    have hK' := gb_same o2 hK
    refine ⟨by simp, .inl ⟨_, _, rfl, run_takeDeferred hK', ?_⟩⟩
    exact ⟨v', by simp [results, Tryz.results45, go_sem], v', rfl, own_putObj o1 hK' rfl _, below_putObj (gb_trans' h3 o2 h3.size) (by omega) _, fun g e => by have := o3 g e; have := h3.size; omega⟩

set_option maxHeartbeats 1000000 in
theorem topk_c {w : World} {v u : Value} {rs : List Rw} {q : List Int} (hv : RdW w v rs) (hu : RdI w u q) (hwf : Wf rs) (k : Int) :
    Calls Tryz.prog 20 #[v, u, .int .i64 k] w fun e w' => ∃ v', e = .returned (.tuple #[v', .int .i64 (topE rs q k)]) ∧ Gb w w' ∧
      (topE rs q k ≠ 0 → v' = .slice none 0 0) ∧ (topE rs q k = 0 → OutH w w' v' (Tk.firsts k.toNat (hitsOf q rs))) := by
  have cb := begin_c hv hu hwf k
  have V : Hid (RdW w v rs) := hv
  have U : Hid (RdI w u q) := hu
  obtain ⟨av, cv, rfl, _⟩ := hv
  obtain ⟨au, cu, rfl, _⟩ := hu
  obtain ⟨n, hn⟩ : ∃ n, n = rs.length := ⟨_, rfl⟩
  obtain ⟨m, hm⟩ : ∃ m, m = q.length := ⟨_, rfl⟩
  rw [← hn] at V cb ⊢
  rw [← hm] at U cb ⊢
  clear hn hm
  by_cases hz : topE rs q k = 0
  · have hask := (topE_zero.1 hz).1
    have ZH : Hid (topE rs q k = 0) := hz
    rw [hz] at cb ⊢
    go_enter Tryz.func20, Tryz.ntmps20
    go_wp2_with fail
    refine cb.mono ?_
    rintro e w1 ⟨p, rfl, g1, _, hp⟩
    obtain ⟨hb, rfl, hhb, hH⟩ := hp ZH.out
    have cn := nearest_c hH hhb V.out U.out g1 hask
    clear cb hp
    go_wp2_with fail
    refine cn.mono ?_
    rintro e w2 ⟨v', rfl, o⟩
    clear cn
    go_wp2
    go_ret2
    exact ⟨_, rfl, o.2.1, fun e => absurd rfl e, fun _ => o⟩
  · have ZH : Hid (topE rs q k ≠ 0) := hz
    have hz' : (topE rs q k == 0) = false := by rw [beq_eq_false_iff_ne]; exact hz
    generalize topE rs q k = z at *
    go_enter Tryz.func20, Tryz.ntmps20
    go_wp2_with fail
    refine cb.mono ?_
    rintro e w1 ⟨p, rfl, g1, hp⟩
    clear cb hp
    go_wp2
    go_ret2
    exact ⟨_, rfl, g1, fun _ => rfl, fun e => absurd e ZH.out⟩
end Go.Proofs.YtepjbdklljlecaaGreat
