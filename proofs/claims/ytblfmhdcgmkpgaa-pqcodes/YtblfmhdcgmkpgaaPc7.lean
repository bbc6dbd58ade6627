import Derived.Test.YtblfmhdcgmkpgaaPc6
/- What is ranged over: the draws of a source. -/
namespace Go.Proofs.Ytblfmhdcgmkpgaa.Rn
open Go.RowKit Go.Shelf
attribute [local go_sem] Oper.semAt_some

theorem Boxed.ne {W : World} {A B : Nat} {t u : TypeId} {v v' : Value} (h : Boxed W A t v) (k : Boxed W B u v') (hn : t ≠ u) : A ≠ B := by
  rintro rfl
  have := (show W.heap[A]? = _ from h).symm.trans k
  simp at this
  exact hn this.2
theorem Boxed.past {W : World} {A B : Nat} {t : TypeId} {v : Value} (h : Boxed W A t v) (hn : A ≠ B) (u : Value) : Boxed (W.setCell ⟨B, 0, none⟩ u) A t v :=
  h.kept (grownBy_setCell' W B u) (by simpa using hn)

set_option maxHeartbeats 1000000 in
theorem draws1_gives (n : Nat) (hn : 1 ≤ n) (Bs Bc b : Nat) (c x : Int) (_hx : U x) (hc : c ≤ 1000000) (I : Nat → World → Prop)
    (hr : ∀ k W, I k W → Boxed W Bs 109 (.pointer (some ⟨b, 0, none⟩)) ∧ Boxed W Bc 3 (.int .i64 c) ∧ Boxed W b 115 (.int .u64 (stN x k))) :
    Gives n Try.prog 88 #[.pointer (some ⟨Bs, 0, none⟩), .pointer (some ⟨Bc, 0, none⟩)] c.toNat b (fun k => .int .u64 (stN x (k + 1))) (fun k => .int .u64 (mx (stN x (k + 1)))) I := by
  intro l J J1 Jx W hJI hst hY h0
  refine callsIn_of_wp Try.func88 rfl trivial ?_ rfl
  simp only [Try.ntmps88, List.size_toArray, List.length_cons, List.length_nil, Nat.reduceAdd, Nat.reduceSub, Array.replicate_succ, Array.replicate_zero, List.push_toArray, List.append_toArray, List.nil_append, List.cons_append]
  obtain ⟨r1, r2, r3⟩ := hr 0 W (hJI 0 W h0)
  have c1 := r1.cell
  have c2 := r2.cell
  gi_wp2
  clear c1 c2 r1 r2 r3
  gi_loopw [7] (fun v wr => ∃ k : Nat, v = .int .i64 k ∧ k ≤ c.toNat ∧ J k wr) (fun v _ => c.toNat - (intOf v).toNat)
  case atStart => exact ⟨0, rfl, Nat.zero_le _, h0⟩
  case round =>
    obtain ⟨k, rfl, hk, hj⟩ := hrel
    by_cases hlt : k < c.toNat
    · have hlt' : (k : Int) < c := by omega
      obtain ⟨r1, r2, r3⟩ := hr k wr (hJI k wr hj)
      have n1 := Boxed.ne r1 r3 (by decide)
      have c1 := r1.cell
      have c3 := r3.cell
      have f3 := r3.frozen
      have c4 := (Boxed.past r1 n1 (.int .u64 (IntKind.u64.wrap (stN x k + 11400714819323198485)))).cell
      have c5 := (r3.set (.int .u64 (IntKind.u64.wrap (stN x k + 11400714819323198485)))).cell
      obtain ⟨fn, tmps, assign, body, hy, hR⟩ := hY k _ hlt (hst k wr hlt hj)
      simp only [stN_succ] at hy hR
      gi_wp2_with (refine ⟨trivial, ?_⟩; gi_at_call 89; refine (callsIn_wide.2 (mix_c _ _ (u_wrap _))).mono ?_; rintro e w1 ⟨rfl, rfl⟩)
      refine hR.mono ?_
      rintro e W3 (⟨rfl, hJ3⟩ | ⟨rfl, hJx3⟩)
      · gi_wp2
        go_roundw
        case rel => exact ⟨k + 1, by simp, by omega, hJ3⟩
        case measure => simp [intOf]; omega
      · gi_wp2
        refine bodyPost_ret (results_none rfl _ _ _) rfl ?_
        exact ⟨⟨_, rfl⟩, .inr ⟨k, hlt, hJx3⟩⟩
    · have hlt' : ¬ (k : Int) < c := by omega
      gi_wp2
      go_end0
      obtain rfl : k = c.toNat := by omega
      exact ⟨⟨_, rfl⟩, .inl hj⟩

end Go.Proofs.Ytblfmhdcgmkpgaa.Rn

/- Worlds that have grown; what check asks. -/
namespace Go.Proofs.Ytblfmhdcgmkpgaa.Rn
open Go.RowKit Go.Shelf

/-- Of what was there only the block r may have turned. -/
theorem ownFrom_grown {B : Nat} {w : World} {r : Option Nat} (hB : w.heap.size ≤ B) : OwnFrom B (fun (_ : Nat) W => w.grownBy W r) :=
  fun _ A C row hs hg hr => ⟨hg.os.trans hs.os, hg.tape.trans hs.tape, hg.output.trans hs.output, Nat.le_trans hs.size hg.size, fun k hk hn =>
    (hg.block k (Nat.lt_of_lt_of_le hk hs.size) (fun e => by have := (hr k e.symm).1; omega)).trans (hs.block k hk hn)⟩
theorem ownFrom_boxed {B b : Nat} {t : TypeId} {v : Nat → Value} : OwnFrom B (fun (k : Nat) W => Boxed W b t (v k)) :=
  fun k A C row hs hg hr => hs.kept hg (fun e => by obtain ⟨_, o, ho, hc⟩ := hr b e.symm; rw [show A.heap[b]? = _ from hs] at ho; cases ho; cases hc)
theorem ownFrom_pure' {B : Nat} {p : Nat → Prop} : OwnFrom B (fun (k : Nat) (_ : World) => p k) := fun _ _ _ _ hs _ _ => hs
theorem grownBy_refl (w : World) (r : Option Nat) : w.grownBy w r := ⟨rfl, rfl, rfl, Nat.le_refl _, fun _ _ _ => rfl⟩
theorem grownBy_al {w V : World} {r : Option Nat} (h : w.grownBy V r) (o : Obj) : w.grownBy (V.alloc o) r :=
  ⟨h.os, h.tape, h.output, by have := h.size; simp; omega, fun k hk hn => (Below.heap_alloc V o k (Nat.lt_of_lt_of_le hk h.size)).trans (h.block k hk hn)⟩
theorem grownBy_set {w V : World} {b : Nat} (h : w.grownBy V (some b)) {p : Addr} (hp : p.block = b ∨ w.heap.size ≤ p.block) (u : Value) : w.grownBy (V.setCell p u) (some b) :=
  ⟨h.os, h.tape, h.output, Nat.le_trans h.size (KeepsWalks.setCell V p u).size, fun k hk hn => (Below.heap_setCell V p u k (fun e => by
    rcases hp with hp | hp
    · exact hn (by rw [e, hp])
    · omega)).trans (h.block k hk hn)⟩
theorem grownBy_new {w V : World} {r : Option Nat} {p : Addr} (h : w.grownBy V r) (hp : w.heap.size ≤ p.block) (u : Value) : w.grownBy (V.setCell p u) r :=
  ⟨h.os, h.tape, h.output, Nat.le_trans h.size (KeepsWalks.setCell V p u).size, fun k hk hn => (Below.heap_setCell V p u k (fun e => by omega)).trans (h.block k hk hn)⟩
theorem grownBy_put {w V : World} {r : Option Nat} (h : w.grownBy V r) {D : Nat} (hD : w.heap.size ≤ D) (o : Obj) : w.grownBy (V.putObj D o) r :=
  ⟨h.os, h.tape, h.output, by have := h.size; simp; omega, fun k hk hn => (World.putObj_heap_other (by omega)).trans (h.block k hk hn)⟩
theorem Boxed.put {W : World} {B D : Nat} {t : TypeId} {v : Value} {o : Obj} (h : Boxed W B t v) (hD : W.heap[D]? = some o) (ho : o.isCells = false) (o' : Obj) : Boxed (W.putObj D o') B t v :=
  h.kept (grownBy_putObj' W D o') (fun e => by cases e; rw [show W.heap[B]? = _ from h] at hD; cases hD; cases ho)

abbrev ckOk (n lo hi : Int) : Prop := lo ≤ n ∧ n ≤ hi
theorem ckE_ok {n lo hi : Int} (h : ckOk n lo hi) : ckE n lo hi = 0 := if_neg (by have := h.1; have := h.2; omega)
theorem ckE_no {n lo hi : Int} (h : ¬ ckOk n lo hi) : ckE n lo hi = 1 := if_pos (by omega)

end Go.Proofs.Ytblfmhdcgmkpgaa.Rn
