/- Next: a source, and none. -/
import Derived.Test.YtjediopfnjkihaaDraws
namespace Go.Proofs.Ytjediopfnjkihaa
open Go.RowKit Go.Shelf
attribute [local go_sem] Oper.semAt_some

set_option maxHeartbeats 1000000 in
theorem draws1_nil (n : Nat) (Bs Bc : Nat) (put arg : Nat → Value) (b : Nat) (I : Nat → World → Prop) (hr : ∀ k W, I k W → Boxed W Bs 23 (.pointer none)) :
    Gives n Try.prog 15 #[.pointer (some ⟨Bs, 0, none⟩), .pointer (some ⟨Bc, 0, none⟩)] 0 b put arg I := by
  intro l J J1 Jx W hJI hst hY h0
  refine callsIn_of_wp Try.func15 rfl trivial ?_ rfl
  simp only [Try.ntmps15, List.size_toArray, List.length_cons, List.length_nil, Nat.reduceAdd, Nat.reduceSub, Array.replicate_succ, Array.replicate_zero, List.push_toArray, List.append_toArray, List.nil_append, List.cons_append]
  have c1 := (hr 0 W (hJI 0 W h0)).cell
  gi_wp2
  refine bodyPost_ret (results_none rfl _ _ _) rfl ?_
  exact ⟨⟨_, rfl⟩, .inl h0⟩

/-- Of what was there only the block r may have turned. -/
theorem ownFrom_grown {B : Nat} {w : World} {r : Option Nat} (hB : w.heap.size ≤ B) : OwnFrom B (fun (_ : Nat) W => w.grownBy W r) :=
  fun _ A C row hs hg hr => ⟨hg.os.trans hs.os, hg.tape.trans hs.tape, hg.output.trans hs.output, Nat.le_trans hs.size hg.size, fun k hk hn =>
    (hg.block k (Nat.lt_of_lt_of_le hk hs.size) (fun e => by have := (hr k e.symm).1; omega)).trans (hs.block k hk hn)⟩
theorem ownFrom_boxed {B b : Nat} {t : TypeId} {v : Nat → Value} : OwnFrom B (fun (k : Nat) W => Boxed W b t (v k)) :=
  fun k A C row hs hg hr => hs.kept hg (fun e => by obtain ⟨_, o, ho, hc⟩ := hr b e.symm; rw [show A.heap[b]? = _ from hs] at ho; cases ho; cases hc)
theorem ownFrom_pure' {B : Nat} {p : Nat → Prop} : OwnFrom B (fun (k : Nat) (_ : World) => p k) := fun _ _ _ _ hs _ _ => hs
theorem grownBy_refl (w : World) (r : Option Nat) : w.grownBy w r := ⟨rfl, rfl, rfl, Nat.le_refl _, fun _ _ _ => rfl⟩
theorem grownBy_al {w V : World} {r : Option Nat} (h : w.grownBy V r) (o : Obj) : w.grownBy (V.alloc o) r :=
  ⟨h.os, h.tape, h.output, by have := h.size; simp; omega, fun k hk hn => (Below.heap_alloc V o k (Nat.lt_of_lt_of_le hk h.size)).trans (h.block k hk hn)⟩
theorem grownBy_set {w V : World} {b : Nat} (h : w.grownBy V (some b)) {p : Addr} (hp : p.block = b ∨ w.heap.size ≤ p.block) (u : Value) : w.grownBy (V.setCell p u) (some b) :=
  ⟨h.os, h.tape, h.output, Nat.le_trans h.size (KeepsWalks.setCell V p u).size, fun k hk hn => (Below.heap_setCell V p u k (fun e => by
    rcases hp with hp | hp
    · exact hn (by rw [e, hp])
    · omega)).trans (h.block k hk hn)⟩
theorem grownBy_new {w V : World} {r : Option Nat} {p : Addr} (h : w.grownBy V r) (hp : w.heap.size ≤ p.block) (u : Value) : w.grownBy (V.setCell p u) r :=
  ⟨h.os, h.tape, h.output, Nat.le_trans h.size (KeepsWalks.setCell V p u).size, fun k hk hn => (Below.heap_setCell V p u k (fun e => by omega)).trans (h.block k hk hn)⟩
theorem grownBy_put {w V : World} {r : Option Nat} (h : w.grownBy V r) {D : Nat} (hD : w.heap.size ≤ D) (o : Obj) : w.grownBy (V.putObj D o) r :=
  ⟨h.os, h.tape, h.output, by have := h.size; simp; omega, fun k hk hn => (World.putObj_heap_other (by omega)).trans (h.block k hk hn)⟩
theorem Boxed.put {W : World} {B D : Nat} {t : TypeId} {v : Value} {o : Obj} (h : Boxed W B t v) (hD : W.heap[D]? = some o) (ho : o.isCells = false) (o' : Obj) : Boxed (W.putObj D o') B t v :=
  h.kept (grownBy_putObj' W D o') (fun e => by cases e; rw [show W.heap[B]? = _ from h] at hD; cases hD; cases ho)

set_option maxRecDepth 100000 in
set_option maxHeartbeats 2000000 in
theorem next_c (b : Nat) (x : Int) (w : World) (hb : Boxed w b 36 (.int .u64 x)) (hx : U x) :
    Calls Try.prog 8 #[.pointer (some ⟨b, 0, none⟩)] w fun e w' => e = .returned (.int .u64 (mx (stp x))) ∧ Boxed w' b 36 (.int .u64 (stp x)) ∧ w.grownBy w' (some b) := by
  refine (callsIn_wide (n := 4)).1 ?_
  refine callsIn_of_wp_marks Try.func8 rfl trivial ?_ rfl
  simp only [Try.ntmps8, List.size_toArray, List.length_cons, List.length_nil, Nat.reduceAdd, Nat.reduceSub, Array.replicate_succ, Array.replicate_zero, List.push_toArray, List.append_toArray, List.nil_append, List.cons_append]
  gi_wp2_with (refine ⟨trivial, ?_⟩; gi_at_call 12; refine (callsIn_wide.2 (draws_c _ _ _)).mono ?_; rintro e w1 ⟨rfl, rfl⟩)
  obtain ⟨V, hV⟩ : ∃ V, (((w.alloc (.cells #[.int .u64 0] 22)).alloc (.cells #[.pointer (some ⟨b, 0, none⟩)] 23)).alloc (.cells #[.int .i64 1] 3)) = V := ⟨_, rfl⟩
  have hbl := hb.lt
  have bR : Boxed V w.heap.size 22 (.int .u64 0) := by rw [← hV]; exact ((Boxed.new w _ _).alloc _).alloc _
  have bS : Boxed V (w.heap.size + 1) 23 (.pointer (some ⟨b, 0, none⟩)) := by
    rw [← hV]; have := (Boxed.new (w.alloc (.cells #[.int .u64 0] 22)) 23 (.pointer (some ⟨b, 0, none⟩))).alloc (.cells #[.int .i64 1] 3); rwa [World.size_alloc] at this
  have bC : Boxed V (w.heap.size + 1 + 1) 3 (.int .i64 1) := by
    rw [← hV]; have := Boxed.new ((w.alloc (.cells #[.int .u64 0] 22)).alloc (.cells #[.pointer (some ⟨b, 0, none⟩)] 23)) 3 (.int .i64 1); rwa [World.size_alloc, World.size_alloc] at this
  have bB : Boxed V b 36 (.int .u64 x) := by rw [← hV]; exact ((hb.alloc _).alloc _).alloc _
  have gV : w.grownBy V (some b) := by rw [← hV]; exact grownBy_al (grownBy_al (grownBy_al (grownBy_refl _ _) _) _) _
  have sV : w.heap.size + 3 = V.heap.size := by rw [← hV]; simp
  rw [hV]
  refine range_c (gf := 15) (lb := #[.pointer (some ⟨w.heap.size + 1, 0, none⟩), .pointer (some ⟨w.heap.size + 1 + 1, 0, none⟩)]) rfl (enters_of Try.func15 (by kernel_rfl) rfl) rfl
    1 b (fun k => .int .u64 (stN x (k + 1))) (fun k => .int .u64 (mx (stN x (k + 1))))
    (fun k W => k = 0 ∧ Boxed W b 36 (.int .u64 (stN x k)) ∧ Boxed W w.heap.size 22 (.int .u64 0) ∧ Boxed W (w.heap.size + 1) 23 (.pointer (some ⟨b, 0, none⟩)) ∧ Boxed W (w.heap.size + 1 + 1) 3 (.int .i64 1) ∧ w.grownBy W (some b))
    (fun k W => k = 0 ∧ Boxed W b 36 (.int .u64 (stN x (k + 1))) ∧ Boxed W w.heap.size 22 (.int .u64 0) ∧ w.grownBy W (some b))
    (fun _ W => Boxed W b 36 (.int .u64 (stp x)) ∧ Boxed W w.heap.size 22 (.int .u64 (mx (stp x))) ∧ w.grownBy W (some b))
    (ownFrom_pure'.and (ownFrom_boxed.and (ownFrom_boxed.and (ownFrom_boxed.and (ownFrom_boxed.and (ownFrom_grown gV.size))))))
    (ownFrom_pure'.and (ownFrom_boxed.and (ownFrom_boxed.and (ownFrom_grown gV.size))))
    (ownFrom_boxed.and (ownFrom_boxed.and (ownFrom_grown gV.size)))
    ⟨rfl, bB, bR, bS, bC, gV⟩
    (fun k W _ h => ⟨h.1, h.2.1.set _, h.2.2.1.other (by omega) _, grownBy_set h.2.2.2.2.2 (.inl rfl) _⟩)
    (draws1_gives 3 (by decide) _ _ b 1 x hx (by decide) _ (fun k W h => ⟨h.2.2.2.1, h.2.2.2.2.1, h.2.1⟩))
    (fun k => { tmps := #[.pointer (some ⟨b, 0, none⟩), undef, .pointer (some ⟨w.heap.size, 0, none⟩), .int .u64 (mx (stN x (k + 1))), .pointer (some ⟨b, 0, none⟩),
      .func (.func 15) #[] #[.pointer (some ⟨w.heap.size + 1, 0, none⟩), .pointer (some ⟨w.heap.size + 1 + 1, 0, none⟩)], .int .u64 (mx (stN x (k + 1))), undef], defers := [] }) ?assign ?body ?done ?stop
  case assign =>
    intro l k W K hK
    gi_wp2
    exact hK
  case body =>
    rintro l k W hk ⟨rfl, h1, h2, hg⟩
    have c2 := h2.cell
    have f2 := h2.frozen
    gi_wp2
    exact ⟨KeepsOthers.setCell _ _ _, h1.other (by omega) _, h2.set _, grownBy_set hg (.inr (Nat.le_refl _)) _⟩
  case done =>
    rintro D W hD ⟨h, _⟩ _
    cases h
  case stop =>
    rintro D k W hD hk ⟨h1, h2, hg⟩ hK
    gi_wp2
    refine ⟨by simp, .inl ⟨_, _, rfl, run_takeDeferred hK, ?_⟩⟩
    have c2 := (Boxed.put h2 hK rfl (.deferred none)).cell
    refine ⟨.int .u64 (mx (stp x)), ?_, rfl, Boxed.put h1 hK rfl _, grownBy_put hg (by omega) _⟩
    simp [results, Try.f8, go_sem, c2]

set_option maxRecDepth 100000 in
set_option maxHeartbeats 2000000 in
theorem next_nil (w : World) :
    Calls Try.prog 8 #[.pointer none] w fun e w' => e = .returned (.int .u64 0) ∧ w.grownBy w' none := by
  refine (callsIn_wide (n := 4)).1 ?_
  refine callsIn_of_wp_marks Try.func8 rfl trivial ?_ rfl
  simp only [Try.ntmps8, List.size_toArray, List.length_cons, List.length_nil, Nat.reduceAdd, Nat.reduceSub, Array.replicate_succ, Array.replicate_zero, List.push_toArray, List.append_toArray, List.nil_append, List.cons_append]
  gi_wp2_with (refine ⟨trivial, ?_⟩; gi_at_call 12; refine (callsIn_wide.2 (draws_c _ _ _)).mono ?_; rintro e w1 ⟨rfl, rfl⟩)
  obtain ⟨V, hV⟩ : ∃ V, (((w.alloc (.cells #[.int .u64 0] 22)).alloc (.cells #[.pointer none] 23)).alloc (.cells #[.int .i64 1] 3)) = V := ⟨_, rfl⟩
  have bR : Boxed V w.heap.size 22 (.int .u64 0) := by rw [← hV]; exact ((Boxed.new w _ _).alloc _).alloc _
  have bS : Boxed V (w.heap.size + 1) 23 (.pointer none) := by
    rw [← hV]; have := (Boxed.new (w.alloc (.cells #[.int .u64 0] 22)) 23 (.pointer none)).alloc (.cells #[.int .i64 1] 3); rwa [World.size_alloc] at this
  have gV : w.grownBy V none := by rw [← hV]; exact grownBy_al (grownBy_al (grownBy_al (grownBy_refl _ _) _) _) _
  have sV : w.heap.size + 3 = V.heap.size := by rw [← hV]; simp
  rw [hV]
  refine range_c (gf := 15) (lb := #[.pointer (some ⟨w.heap.size + 1, 0, none⟩), .pointer (some ⟨w.heap.size + 1 + 1, 0, none⟩)]) rfl (enters_of Try.func15 (by kernel_rfl) rfl) rfl
    0 0 (fun _ => undef) (fun _ => undef)
    (fun _ W => Boxed W w.heap.size 22 (.int .u64 0) ∧ Boxed W (w.heap.size + 1) 23 (.pointer none) ∧ w.grownBy W none)
    (fun _ _ => True) (fun _ _ => False)
    (ownFrom_boxed.and (ownFrom_boxed.and (ownFrom_grown gV.size)))
    (fun _ _ _ _ _ _ _ => trivial) (fun _ _ _ _ h _ _ => h)
    ⟨bR, bS, gV⟩
    (fun k W hk h => by omega)
    (draws1_nil 3 _ _ _ _ _ _ (fun k W h => h.2.1))
    (fun k => { tmps := #[.pointer none, undef, .pointer (some ⟨w.heap.size, 0, none⟩), undef, .pointer none,
      .func (.func 15) #[] #[.pointer (some ⟨w.heap.size + 1, 0, none⟩), .pointer (some ⟨w.heap.size + 1 + 1, 0, none⟩)], undef, undef], defers := [] }) ?assign ?body ?done ?stop
  case assign =>
    intro l k W K hK
    gi_wp2
    exact hK
  case body =>
    rintro l k W hk _
    omega
  case done =>
    rintro D W hD ⟨h1, h2, hg⟩ hK
    have c2 := h1.cell
    have f2 := h1.frozen
    gi_wp2
    have hK' := (KeepsOthers.setCell W ⟨w.heap.size, 0, none⟩ (.int .u64 0)).same D _ hK rfl
    refine ⟨by simp, .inl ⟨_, _, rfl, run_takeDeferred hK', ?_⟩⟩
    have c3 := (Boxed.put (h1.set (.int .u64 0)) hK' rfl (.deferred none)).cell
    refine ⟨.int .u64 0, ?_, rfl, grownBy_put (grownBy_new (p := ⟨w.heap.size, 0, none⟩) hg (Nat.le_refl _) _) (by omega) _⟩
    simp [results, Try.f8, go_sem, c3]
  case stop =>
    rintro D k W hD hk
    omega

end Go.Proofs.Ytjediopfnjkihaa
