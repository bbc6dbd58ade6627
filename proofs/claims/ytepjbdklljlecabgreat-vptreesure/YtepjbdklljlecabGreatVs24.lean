import Derived.Test.YtepjbdklljlecabGreatVs20
import Derived.Test.YtepjbdklljlecabGreatVs21
import Derived.Test.YtepjbdklljlecabGreatVsBoxY
import Derived.RangeFuncNested
import Derived.RangeFuncBound
import Derived.RangeFuncCalls
import Derived.RangeFuncLeaves
import Derived.Shelf.Abstract
import Derived.Shelf.RegionOpen
import Derived.WalkKit
import Derived.OwnWalkIn
import Derived.TacticsInMore
import Derived.LoopNIn
import Derived.LoopIn
/- What is ranged over: the draws of a source. -/
namespace Go.Proofs.YtepjbdklljlecabGreat.Rn
open Go.RowKit Go.Shelf
attribute [local go_sem] Oper.semAt_some

theorem Boxed.ne {W : World} {A B : Nat} {t u : TypeId} {v v' : Value} (h : Boxed W A t v) (k : Boxed W B u v') (hn : t ≠ u) : A ≠ B := by
  rintro rfl
  have := (show W.heap[A]? = _ from h).symm.trans k
  simp at this
  exact hn this.2
theorem Boxed.past {W : World} {A B : Nat} {t : TypeId} {v : Value} (h : Boxed W A t v) (hn : A ≠ B) (u : Value) : Boxed (W.setCell ⟨B, 0, none⟩ u) A t v :=
  h.kept (grownBy_setCell' W B u) (by simpa using hn)

set_option maxHeartbeats 1000000 in
theorem draws1_gives (n : Nat) (hn : 1 ≤ n) (Bs Bc b : Nat) (c x : Int) (_hx : U x) (hc : c ≤ 1000000) (I : Nat → World → Prop)
    (hr : ∀ k W, I k W → Boxed W Bs 62 (.pointer (some ⟨b, 0, none⟩)) ∧ Boxed W Bc 3 (.int .i64 c) ∧ Boxed W b 131 (.int .u64 (stN x k))) :
    Gives n Tryz.prog 185 #[.pointer (some ⟨Bs, 0, none⟩), .pointer (some ⟨Bc, 0, none⟩)] c.toNat b (fun k => .int .u64 (stN x (k + 1))) (fun k => .int .u64 (mx (stN x (k + 1)))) I := by
  intro l J J1 Jx W hJI hst hY h0
  refine callsIn_of_wp Tryz.func185 rfl trivial ?_ rfl
  simp only [Tryz.ntmps185, List.size_toArray, List.length_cons, List.length_nil, Nat.reduceAdd, Nat.reduceSub, Array.replicate_succ, Array.replicate_zero, List.push_toArray, List.append_toArray, List.nil_append, List.cons_append]
  obtain ⟨r1, r2, r3⟩ := hr 0 W (hJI 0 W h0)
  have c1 := r1.cell
  have c2 := r2.cell
  gi_wp2
  clear c1 c2 r1 r2 r3
  gi_loopw [7] (fun v wr => ∃ k : Nat, v = .int .i64 k ∧ k ≤ c.toNat ∧ J k wr) (fun v _ => c.toNat - (intOf v).toNat)
  case atStart => exact ⟨0, rfl, Nat.zero_le _, h0⟩
  case round =>
    obtain ⟨k, rfl, hk, hj⟩ := hrel
    by_cases hlt : k < c.toNat
    · have hlt' : (k : Int) < c := by omega
      obtain ⟨r1, r2, r3⟩ := hr k wr (hJI k wr hj)
      have n1 := Boxed.ne r1 r3 (by decide)
      have c1 := r1.cell
      have c3 := r3.cell
      have f3 := r3.frozen
      have c4 := (Boxed.past r1 n1 (.int .u64 (IntKind.u64.wrap (stN x k + 11400714819323198485)))).cell
      have c5 := (r3.set (.int .u64 (IntKind.u64.wrap (stN x k + 11400714819323198485)))).cell
      obtain ⟨fn, tmps, assign, body, hy, hR⟩ := hY k _ hlt (hst k wr hlt hj)
      simp only [stN_succ] at hy hR
      gi_wp2_with (refine ⟨trivial, ?_⟩; gi_at_call 186; refine (callsIn_wide.2 (mix_c _ _ (u_wrap _))).mono ?_; rintro e w1 ⟨rfl, rfl⟩)
      refine hR.mono ?_
      rintro e W3 (⟨rfl, hJ3⟩ | ⟨rfl, hJx3⟩)
      · gi_wp2
        go_roundw
        case rel => exact ⟨k + 1, by simp, by omega, hJ3⟩
        case measure => simp [intOf]; omega
      · gi_wp2
        refine bodyPost_ret (results_none rfl _ _ _) rfl ?_
        exact ⟨⟨_, rfl⟩, .inr ⟨k, hlt, hJx3⟩⟩
    · have hlt' : ¬ (k : Int) < c := by omega
      gi_wp2
      go_end0
      obtain rfl : k = c.toNat := by omega
      exact ⟨⟨_, rfl⟩, .inl hj⟩

end Go.Proofs.YtepjbdklljlecabGreat.Rn

/- Next: a source, and none. -/
namespace Go.Proofs.YtepjbdklljlecabGreat.Rn
open Go.RowKit Go.Shelf
attribute [local go_sem] Oper.semAt_some

/-- Of what was there only the block r may have turned. -/
theorem ownFrom_grown {B : Nat} {w : World} {r : Option Nat} (hB : w.heap.size ≤ B) : OwnFrom B (fun (_ : Nat) W => w.grownBy W r) :=
  fun _ A C row hs hg hr => ⟨hg.os.trans hs.os, hg.tape.trans hs.tape, hg.output.trans hs.output, Nat.le_trans hs.size hg.size, fun k hk hn =>
    (hg.block k (Nat.lt_of_lt_of_le hk hs.size) (fun e => by have := (hr k e.symm).1; omega)).trans (hs.block k hk hn)⟩
theorem ownFrom_boxed {B b : Nat} {t : TypeId} {v : Nat → Value} : OwnFrom B (fun (k : Nat) W => Boxed W b t (v k)) :=
  fun k A C row hs hg hr => hs.kept hg (fun e => by obtain ⟨_, o, ho, hc⟩ := hr b e.symm; rw [show A.heap[b]? = _ from hs] at ho; cases ho; cases hc)
theorem ownFrom_pure' {B : Nat} {p : Nat → Prop} : OwnFrom B (fun (k : Nat) (_ : World) => p k) := fun _ _ _ _ hs _ _ => hs
theorem grownBy_refl (w : World) (r : Option Nat) : w.grownBy w r := ⟨rfl, rfl, rfl, Nat.le_refl _, fun _ _ _ => rfl⟩
theorem grownBy_al {w V : World} {r : Option Nat} (h : w.grownBy V r) (o : Obj) : w.grownBy (V.alloc o) r :=
  ⟨h.os, h.tape, h.output, by have := h.size; simp; omega, fun k hk hn => (Below.heap_alloc V o k (Nat.lt_of_lt_of_le hk h.size)).trans (h.block k hk hn)⟩
theorem grownBy_set {w V : World} {b : Nat} (h : w.grownBy V (some b)) {p : Addr} (hp : p.block = b ∨ w.heap.size ≤ p.block) (u : Value) : w.grownBy (V.setCell p u) (some b) :=
  ⟨h.os, h.tape, h.output, Nat.le_trans h.size (KeepsWalks.setCell V p u).size, fun k hk hn => (Below.heap_setCell V p u k (fun e => by
    rcases hp with hp | hp
    · exact hn (by rw [e, hp])
    · omega)).trans (h.block k hk hn)⟩
theorem grownBy_put {w V : World} {r : Option Nat} (h : w.grownBy V r) {D : Nat} (hD : w.heap.size ≤ D) (o : Obj) : w.grownBy (V.putObj D o) r :=
  ⟨h.os, h.tape, h.output, by have := h.size; simp; omega, fun k hk hn => (World.putObj_heap_other (by omega)).trans (h.block k hk hn)⟩
theorem Boxed.put {W : World} {B D : Nat} {t : TypeId} {v : Value} {o : Obj} (h : Boxed W B t v) (hD : W.heap[D]? = some o) (ho : o.isCells = false) (o' : Obj) : Boxed (W.putObj D o') B t v :=
  h.kept (grownBy_putObj' W D o') (fun e => by cases e; rw [show W.heap[B]? = _ from h] at hD; cases hD; cases ho)

set_option maxRecDepth 100000 in
set_option maxHeartbeats 2000000 in
theorem next_c (b : Nat) (x : Int) (w : World) (hb : Boxed w b 131 (.int .u64 x)) (hx : U x) :
    Calls Tryz.prog 147 #[.pointer (some ⟨b, 0, none⟩)] w fun e w' => e = .returned (.int .u64 (mx (stp x))) ∧ Boxed w' b 131 (.int .u64 (stp x)) ∧ w.grownBy w' (some b) := by
  refine (callsIn_wide (n := 4)).1 ?_
  refine callsIn_of_wp_marks Tryz.func147 rfl trivial ?_ rfl
  simp only [Tryz.ntmps147, List.size_toArray, List.length_cons, List.length_nil, Nat.reduceAdd, Nat.reduceSub, Array.replicate_succ, Array.replicate_zero, List.push_toArray, List.append_toArray, List.nil_append, List.cons_append]
  gi_wp2_with (refine ⟨trivial, ?_⟩; gi_at_call 170; refine (callsIn_wide.2 (draws_c _ _ _)).mono ?_; rintro e w1 ⟨rfl, rfl⟩)
  obtain ⟨V, hV⟩ : ∃ V, (((w.alloc (.cells #[.int .u64 0] 23)).alloc (.cells #[.pointer (some ⟨b, 0, none⟩)] 62)).alloc (.cells #[.int .i64 1] 3)) = V := ⟨_, rfl⟩
  have hbl := hb.lt
  have bR : Boxed V w.heap.size 23 (.int .u64 0) := by rw [← hV]; exact ((Boxed.new w _ _).alloc _).alloc _
  have bS : Boxed V (w.heap.size + 1) 62 (.pointer (some ⟨b, 0, none⟩)) := by
    rw [← hV]; have := (Boxed.new (w.alloc (.cells #[.int .u64 0] 23)) 62 (.pointer (some ⟨b, 0, none⟩))).alloc (.cells #[.int .i64 1] 3); rwa [World.size_alloc] at this
  have bC : Boxed V (w.heap.size + 1 + 1) 3 (.int .i64 1) := by
    rw [← hV]; have := Boxed.new ((w.alloc (.cells #[.int .u64 0] 23)).alloc (.cells #[.pointer (some ⟨b, 0, none⟩)] 62)) 3 (.int .i64 1); rwa [World.size_alloc, World.size_alloc] at this
  have bB : Boxed V b 131 (.int .u64 x) := by rw [← hV]; exact ((hb.alloc _).alloc _).alloc _
  have gV : w.grownBy V (some b) := by rw [← hV]; exact grownBy_al (grownBy_al (grownBy_al (grownBy_refl _ _) _) _) _
  have sV : w.heap.size + 3 = V.heap.size := by rw [← hV]; simp
  rw [hV]
  refine range_c (gf := 185) (lb := #[.pointer (some ⟨w.heap.size + 1, 0, none⟩), .pointer (some ⟨w.heap.size + 1 + 1, 0, none⟩)]) rfl (enters_of Tryz.func185 (by kernel_rfl) rfl) rfl
    1 b (fun k => .int .u64 (stN x (k + 1))) (fun k => .int .u64 (mx (stN x (k + 1))))
    (fun k W => k = 0 ∧ Boxed W b 131 (.int .u64 (stN x k)) ∧ Boxed W w.heap.size 23 (.int .u64 0) ∧ Boxed W (w.heap.size + 1) 62 (.pointer (some ⟨b, 0, none⟩)) ∧ Boxed W (w.heap.size + 1 + 1) 3 (.int .i64 1) ∧ w.grownBy W (some b))
    (fun k W => k = 0 ∧ Boxed W b 131 (.int .u64 (stN x (k + 1))) ∧ Boxed W w.heap.size 23 (.int .u64 0) ∧ w.grownBy W (some b))
    (fun _ W => Boxed W b 131 (.int .u64 (stp x)) ∧ Boxed W w.heap.size 23 (.int .u64 (mx (stp x))) ∧ w.grownBy W (some b))
    (ownFrom_pure'.and (ownFrom_boxed.and (ownFrom_boxed.and (ownFrom_boxed.and (ownFrom_boxed.and (ownFrom_grown gV.size))))))
    (ownFrom_pure'.and (ownFrom_boxed.and (ownFrom_boxed.and (ownFrom_grown gV.size))))
    (ownFrom_boxed.and (ownFrom_boxed.and (ownFrom_grown gV.size)))
    ⟨rfl, bB, bR, bS, bC, gV⟩
    (fun k W _ h => ⟨h.1, h.2.1.set _, h.2.2.1.other (by omega) _, grownBy_set h.2.2.2.2.2 (.inl rfl) _⟩)
    (draws1_gives 3 (by decide) _ _ b 1 x hx (by decide) _ (fun k W h => ⟨h.2.2.2.1, h.2.2.2.2.1, h.2.1⟩))
    (fun k => { tmps := #[.pointer (some ⟨b, 0, none⟩), undef, .pointer (some ⟨w.heap.size, 0, none⟩), .int .u64 (mx (stN x (k + 1))), .pointer (some ⟨b, 0, none⟩),
      .func (.func 185) #[] #[.pointer (some ⟨w.heap.size + 1, 0, none⟩), .pointer (some ⟨w.heap.size + 1 + 1, 0, none⟩)], .int .u64 (mx (stN x (k + 1))), undef], defers := [] }) ?assign ?body ?done ?stop
  case assign =>
    intro l k W K hK
    gi_wp2
    exact hK
  case body =>
    rintro l k W hk ⟨rfl, h1, h2, hg⟩
    have c2 := h2.cell
    have f2 := h2.frozen
    gi_wp2
    exact ⟨KeepsOthers.setCell _ _ _, h1.other (by omega) _, h2.set _, grownBy_set hg (.inr (Nat.le_refl _)) _⟩
  case done =>
    rintro D W hD ⟨h, _⟩ _
    cases h
  case stop =>
    rintro D k W hD hk ⟨h1, h2, hg⟩ hK
    gi_wp2
    refine ⟨by simp, .inl ⟨_, _, rfl, run_takeDeferred hK, ?_⟩⟩
    have c2 := (Boxed.put h2 hK rfl (.deferred none)).cell
    refine ⟨.int .u64 (mx (stp x)), ?_, rfl, Boxed.put h1 hK rfl _, grownBy_put hg (by omega) _⟩
    simp [results, Tryz.f147, go_sem, c2]

end Go.Proofs.YtepjbdklljlecabGreat.Rn

/- Below, and the calls on no source. -/
namespace Go.Proofs.YtepjbdklljlecabGreat.Rn
open Go.RowKit Go.Shelf

/-- P4.2. -/
abbrev ckOk (n lo hi : Int) : Prop := lo ≤ n ∧ n ≤ hi
theorem ckE_ok {n lo hi : Int} (h : ckOk n lo hi) : ckE n lo hi = 0 := if_neg (by have := h.1; have := h.2; omega)
set_option maxHeartbeats 400000 in
theorem below_ok (b : Nat) (x n : Int) (w : World) (hb : Boxed w b 131 (.int .u64 x)) (hx : U x) (h : ckOk n 1 1000000000) :
    Calls Tryz.prog 108 #[.pointer (some ⟨b, 0, none⟩), .int .i64 n] w fun e w' => e = .returned (.tuple #[.int .i64 (mx (stp x) % n), .int .i64 0]) ∧ Boxed w' b 131 (.int .u64 (stp x)) ∧ w.grownBy w' (some b) := by
  have hck := check_c ⟨b, 0, none⟩ n 1 1000000000 w
  rw [ckE_ok h] at hck
  have hn := next_c b x w hb hx
  have hr := fun W => rest_c (mx (stp x)) n W (u_mx _) h.1 h.2
  generalize mx (stp x) = z at *
  clear h
  go_enter Tryz.func108, Tryz.ntmps108
  go_wp2_with first | (go_at_call 145; refine hck.mono ?_; rintro e w1 ⟨rfl, rfl⟩) | (go_at_call 147; refine hn.mono ?_; rintro e w2 ⟨rfl, hb2, g2⟩) | (go_at_call 146; refine (hr _).mono ?_; rintro e w3 ⟨rfl, rfl⟩)
  exact bodyPost_ret (v := .tuple #[.int .i64 (z % n), .int .i64 0]) (by simp [results, Tryz.results108, go_sem]) rfl ⟨rfl, hb2, g2⟩
end Go.Proofs.YtepjbdklljlecabGreat.Rn

/- A heap that has just these hits: its calls. -/
namespace Go.Proofs.YtepjbdklljlecabGreat.Tk
open Go.RowKit Go.Sort

/-- The heap of size k has the hits m, in their order. -/
def Has (w : World) (hb k : Nat) (v : Value) (m : List Ht) : Prop :=
  ∃ d, Hp w hb (k : Int) v d ∧ MaxH d ∧ d.toList.Perm m ∧ Srtd m ∧ m.length ≤ k ∧ 1 ≤ k ∧ k ≤ 64
theorem Has.gr {w w' : World} {hb k : Nat} {v : Value} {m : List Ht} (h : Has w hb k v m) (g : Gr w w') : Has w' hb k v m := by
  obtain ⟨d, h1, r⟩ := h; exact ⟨d, h1.gr g, r⟩
theorem Has.kp {S : Nat → Prop} {w w' : World} {hb k : Nat} {v : Value} {m : List Ht} (h : Has w hb k v m) (K : Kp S w w') (h1 : ¬ S hb) (h2 : ∀ g, v.ownBlock = some g → ¬ S g) : Has w' hb k v m := by
  obtain ⟨d, hd, r⟩ := h; exact ⟨d, hd.kp K h1 h2, r⟩
theorem Has.lt {w : World} {hb k : Nat} {v : Value} {m : List Ht} (h : Has w hb k v m) : hb < w.heap.size := by obtain ⟨d, h1, _⟩ := h; exact h1.lt
theorem Has.own_lt {w : World} {hb k : Nat} {v : Value} {m : List Ht} (h : Has w hb k v m) {g : Nat} (hg : v.ownBlock = some g) : g < w.heap.size := by
  obtain ⟨d, h1, _⟩ := h; exact YtepjbdklljlecabGreat.Tk.own_lt h1.own hg
theorem new_has (k : Nat) (h1 : 1 ≤ k) (h2 : k ≤ 64) (w : World) : Has (w.alloc (.cells #[.int .i64 (k : Int), .slice none 0 0] 96)) w.heap.size k (.slice none 0 0) [] :=
  ⟨#[], new_hp _ w, fun _ _ h => absurd h (Nat.not_lt_zero _), List.Perm.refl _, List.Pairwise.nil, Nat.zero_le _, h1, h2⟩

theorem root_last {d : Array Ht} {m : List Ht} (hm : MaxH d) (p : d.toList.Perm m) (hs : Srtd m) {k : Nat} (hk : m.length = k) (h0 : 0 < k) : d[0]! = m[k - 1]! := by
  have hd : d.size = k := by have := p.length_eq; simp at this; omega
  have a1 : d[0]! ∈ m := p.subset (by rw [getElem!_pos d 0 (by omega)]; exact Array.mem_toList_iff.2 (Array.getElem_mem _))
  have a2 : m[k - 1]! ∈ d.toList := p.symm.subset (by rw [getElem!_pos m (k - 1) (by omega)]; exact List.getElem_mem _)
  have b1 := last_worst hs k hk _ a1
  obtain ⟨i, hi, e⟩ := List.mem_iff_getElem.1 a2
  have b2 := maxh_root hm i (by simpa using hi)
  rw [getElem!_pos d i (by simpa using hi)] at b2
  simp only [Array.getElem_toList] at e
  rw [e] at b2
  exact hlt_tot b2 b1

/-- What Offer leaves. -/
def Offered (w w' : World) (hb k : Nat) (v : Value) (m : List Ht) (x : Ht) : Prop :=
  ∃ v', Has w' hb k v' (keep k m x) ∧ Kp (fun b => b = hb ∨ some b = v.ownBlock) w w' ∧ (v'.ownBlock = v.ownBlock ∨ ∀ g, v'.ownBlock = some g → w.heap.size ≤ g)

theorem offer_has {w : World} {hb k : Nat} {v : Value} {m : List Ht} (h : Has w hb k v m) (x : Ht) :
    Calls Tryz.prog 61 #[.pointer (some ⟨hb, 0, none⟩), hv x] w fun e w' => e = .returned (.bool (kept k m x)) ∧ Offered w w' hb k v m x := by
  have h' := h
  obtain ⟨d, hp, hm, pm, hs, hl, k1, k2⟩ := h
  have hd : d.size = m.length := by have := pm.length_eq; simpa using this
  by_cases c : m.length < k
  · have e : kept k m x = true := by unfold kept; rw [decide_eq_true c]; rfl
    rw [e]
    refine (offer_more hp hm (by omega) (by omega) x).mono ?_
    rintro e w' ⟨rfl, g, cap, d', p1, p2, p3, p4, p5⟩
    refine ⟨rfl, _, ⟨d', p3, p2, ?_, keep_srtd k x hs, by unfold keep; rw [List.length_take]; omega, k1, k2⟩, p4, ?_⟩
    · rw [keep_more x c]
      refine p1.trans ((List.perm_append_singleton x d.toList).trans ((pm.cons x).trans (ins_perm x m).symm))
    · rcases p5 with p5 | p5
      · exact .inl p5.symm
      · right; intro g' hg'; simp [Value.ownBlock] at hg'; omega
  have hk : m.length = k := by omega
  have er := root_last hm pm hs hk (by omega)
  by_cases cx : hlt x m[k - 1]! = true
  · have e : kept k m x = true := by unfold kept; rw [cx]; simp
    rw [e]
    refine (offer_repl hp hm (by omega) (by omega) (by omega) x (by rw [er]; exact cx)).mono ?_
    rintro e w' ⟨rfl, d', p1, p2, p3, p4⟩
    refine ⟨rfl, v, ⟨d', p3, p2, ?_, keep_srtd k x hs, by unfold keep; rw [List.length_take]; omega, k1, k2⟩, p4, .inl rfl⟩
    refine (p1.trans ?_).trans (keep_repl (by omega) hk cx).symm
    -- the set's hits are x and those of m but the last
    have hne : m ≠ [] := by intro e0; subst e0; simp at hk; omega
    obtain ⟨a, z, rfl⟩ : ∃ a z, m = a ++ [z] := ⟨m.dropLast, m.getLast hne, (List.dropLast_concat_getLast hne).symm⟩
    have ez : (a ++ [z])[k - 1]! = z := by
      simp only [List.length_append, List.length_cons, List.length_nil] at hk
      rw [getElem!_pos (a ++ [z]) (k - 1) (by simp; omega), List.getElem_append_right (by omega)]
      simp
    rw [ez] at er
    rw [List.dropLast_concat]
    cases hdl : d.toList with
    | nil =>
      have q0 : d.toList.length = 0 := by rw [hdl]; rfl
      rw [Array.length_toList] at q0; omega
    | cons y r =>
      have hy : d[0]! = y := by
        have hz : 0 < d.size := by omega
        rw [getElem!_pos d 0 hz, ← Array.getElem_toList hz]
        simp [hdl]
      rw [Array.toList_setIfInBounds, hdl, List.set_cons_zero]
      refine List.Perm.cons x ?_
      have q : (y :: r).Perm (z :: a) := by rw [← hdl]; exact pm.trans (List.perm_append_singleton z a)
      rw [← hy, er] at q
      exact List.Perm.cons_inv q
  · have cx' : hlt x m[k - 1]! = false := by simpa using cx
    have e : kept k m x = false := by unfold kept; rw [cx', decide_eq_false c]; rfl
    rw [e]
    refine (offer_no hp (by omega) (by omega) (by omega) x (by rw [er]; exact cx')).mono ?_
    rintro e w' ⟨rfl, g⟩
    refine ⟨rfl, v, ?_, Kp.of_gr g, .inl rfl⟩
    rw [keep_no hs hk cx']
    exact h'.gr g

theorem len_has {w : World} {hb k : Nat} {v : Value} {m : List Ht} (h : Has w hb k v m) : Calls Tryz.prog 124 #[.pointer (some ⟨hb, 0, none⟩)] w fun e w' => e = .returned (.int .i64 (m.length : Nat)) ∧ w' = w := by
  obtain ⟨d, hp, hm, pm, hs, hl, k1, k2⟩ := h
  have := len17 hp
  rwa [show d.size = m.length by have := pm.length_eq; simpa using this] at this
theorem worst_has {w : World} {hb k : Nat} {v : Value} {m : List Ht} (h : Has w hb k v m) (h0 : 0 < m.length) : Calls Tryz.prog 82 #[.pointer (some ⟨hb, 0, none⟩)] w fun e w' => e = .returned (.tuple #[hv m[m.length - 1]!, .bool true]) ∧ Gr w w' := by
  obtain ⟨d, hp, hm, pm, hs, hl, k1, k2⟩ := h
  have hd : d.size = m.length := by have := pm.length_eq; simpa using this
  have := worst15 hp (by omega) (by omega)
  rwa [root_last hm pm hs rfl h0] at this
theorem worst_has_none {w : World} {hb k : Nat} {v : Value} {m : List Ht} (h : Has w hb k v m) (h0 : m.length = 0) : Calls Tryz.prog 82 #[.pointer (some ⟨hb, 0, none⟩)] w fun e w' => e = .returned (.tuple #[hv ⟨0, 0, 0⟩, .bool false]) ∧ Gr w w' := by
  refine worst15_none _ w fun W g => ?_
  have := len_has (h.gr g)
  rwa [h0] at this
theorem list_has {w : World} {hb k : Nat} {v : Value} {m : List Ht} (h : Has w hb k v m) : Calls Tryz.prog 51 #[.pointer (some ⟨hb, 0, none⟩)] w fun e w' => ∃ v', e = .returned v' ∧ Out w w' v' m := by
  obtain ⟨d, hp, hm, pm, hs, hl, k1, k2⟩ := h
  have hd : d.size = m.length := by have := pm.length_eq; simpa using this
  have := list16 hp (by omega)
  rwa [srt_of_perm hs pm] at this
end Go.Proofs.YtepjbdklljlecabGreat.Tk

/- flat.Check, checkAll, begin. -/
namespace Go.Proofs.YtepjbdklljlecabGreat
open Go.RowKit Go.Sort

/-- Rows whose numbers are of a machine's word. -/
def Wf (rs : List Rw) : Prop := rs.length ≤ 4611686018427387904 ∧ ∀ i, i < rs.length → (Lit.int .i64 rs[i]!.1).wf = true
set_option maxHeartbeats 1000000 in
theorem fcheck_c {w : World} {v : Value} {rs : List Rw} (h : RdW w v rs) (hwf : Wf rs) (d : Int) :
    Calls Tryz.prog 29 #[v, .int .i64 d] w fun e w' => e = .returned (.int .i64 (flatE rs d)) ∧ Gb w w' := by
  have hb := box_c h d hwf.1 hwf.2
  have E := flatE_box rs d
  obtain ⟨a, cap, rfl, _⟩ := h
  generalize boxR rs d = R at *
  generalize boxE rs d = x at *
  generalize flatE rs d = y at *
  generalize rs.length = n at *
  by_cases hx : x = 1
  · rw [if_pos hx] at E
    subst hx; subst E
    go_enter Tryz.func29, Tryz.ntmps29
    go_wp2_with fail
    refine hb.mono ?_
    rintro e w' ⟨vl, vh, vi, rfl, g, o1, o2, o3, _⟩
    obtain ⟨p1, c1, rfl, _⟩ := o1.rd
    obtain ⟨p2, c2, rfl, _⟩ := o2.rd
    obtain ⟨p3, c3, rfl, _⟩ := o3.rd
    clear hb o1 o2 o3
    go_wp2
    go_ret
    exact ⟨rfl, by refine gb_trans g ?_; go_grown⟩
  · rw [if_neg hx] at E
    subst E
    have hx' : (y == 1) = false := by rw [beq_eq_false_iff_ne]; exact hx
    go_enter Tryz.func29, Tryz.ntmps29
    go_wp2_with fail
    refine hb.mono ?_
    rintro e w' ⟨vl, vh, vi, rfl, g, o1, o2, o3, _⟩
    obtain ⟨p1, c1, rfl, _⟩ := o1.rd
    obtain ⟨p2, c2, rfl, _⟩ := o2.rd
    obtain ⟨p3, c3, rfl, _⟩ := o3.rd
    clear hb o1 o2 o3
    go_wp2
    go_ret
    exact ⟨rfl, by refine gb_trans g ?_; go_grown⟩

set_option maxHeartbeats 1000000 in
theorem ask_c {w : World} {v u : Value} {rs : List Rw} {q : List Int} (h : RdW w v rs) (hu : RdI w u q) (hwf : Wf rs) :
    Calls Tryz.prog 59 #[v, u] w fun e w' => e = .returned (.int .i64 (askE rs q)) ∧ Gb w w' := by
  have c1 := check_c hu (q.length : Int)
  have c2 := fcheck_c h hwf (q.length : Int)
  have E : askE rs q = if chk q (q.length : Int) = 0 then flatE rs (q.length : Int) else chk q (q.length : Int) := rfl
  obtain ⟨a, cap, rfl, _⟩ := h
  obtain ⟨a', cap', rfl, _⟩ := hu
  generalize askE rs q = z at *
  generalize flatE rs (q.length : Int) = y at *
  generalize chk q (q.length : Int) = x at *
  generalize rs.length = n at *
  generalize q.length = m at *
  by_cases hx : x = 0
  · rw [if_pos hx] at E
    subst hx; subst E
    go_enter Tryz.func59, Tryz.ntmps59
    go_wp2_with fail
    refine c1.mono ?_
    rintro e w' ⟨rfl, e2⟩
    subst e2
    clear c1
    go_wp2_with fail
    refine c2.mono ?_
    rintro e w' ⟨rfl, g⟩
    clear c2
    go_wp2
    go_ret
    exact ⟨rfl, g⟩
  · rw [if_neg hx] at E
    subst E
    have hx' : (z == 0) = false := by rw [beq_eq_false_iff_ne]; exact hx
    go_enter Tryz.func59, Tryz.ntmps59
    go_wp2_with fail
    refine c1.mono ?_
    rintro e w' ⟨rfl, e2⟩
    subst e2
    clear c1 c2
    go_wp2
    go_ret
    exact ⟨rfl, Below.refl _ _⟩

/-- What begin leaves: none and why not, or a heap of its own, as yet empty. -/
def Begun (w w' : World) (p : Value) (rs : List Rw) (q : List Int) (k : Int) : Prop :=
  Gb w w' ∧ (topE rs q k ≠ 0 → p = .pointer none) ∧ (topE rs q k = 0 → ∃ hb, p = .pointer (some ⟨hb, 0, none⟩) ∧ w.heap.size ≤ hb ∧ Tk.Has w' hb k.toNat (.slice none 0 0) [])
set_option maxHeartbeats 1000000 in
theorem begin_c {w : World} {v u : Value} {rs : List Rw} {q : List Int} (h : RdW w v rs) (hu : RdI w u q) (hwf : Wf rs) (k : Int) :
    Calls Tryz.prog 26 #[v, u, .int .i64 k] w fun e w' => ∃ p, e = .returned (.tuple #[p, .int .i64 (topE rs q k)]) ∧ Begun w w' p rs q k := by
  have c1 := ask_c h hu hwf
  have E : topE rs q k = if askE rs q = 0 then (if 1 ≤ k ∧ k ≤ 64 then 0 else 1) else askE rs q := rfl
  unfold Begun
  obtain ⟨a, cap, rfl, _⟩ := h
  obtain ⟨a', cap', rfl, _⟩ := hu
  generalize topE rs q k = z at *
  generalize askE rs q = x at *
  generalize rs.length = n at *
  generalize q.length = m at *
  by_cases hx : x = 0
  · rw [if_pos hx] at E
    subst hx
    by_cases hk : 1 ≤ k ∧ k ≤ 64
    · rw [if_pos hk] at E
      subst E
      go_enter Tryz.func26, Tryz.ntmps26
      go_wp2_with fail
      refine c1.mono ?_
      rintro e w' ⟨rfl, g⟩
      clear c1
      have cN := Tk.new_ok k hk.1 hk.2 w'
      go_wp2_with fail
      refine cN.mono ?_
      rintro e w2 ⟨rfl, e2⟩
      subst e2
      clear cN
      go_wp2
      go_ret2
      refine ⟨_, rfl, gb_alloc g _, fun e => absurd rfl e, fun _ => ⟨_, rfl, g.size, ?_⟩⟩
      have hh := Tk.new_has k.toNat (by omega) (by omega) w'
      rwa [show ((k.toNat : Nat) : Int) = k by omega] at hh
    · rw [if_neg hk] at E
      subst E
      have hk' : k < 1 ∨ 64 < k := by omega
      clear hk
      go_enter Tryz.func26, Tryz.ntmps26
      go_wp2_with fail
      refine c1.mono ?_
      rintro e w' ⟨rfl, g⟩
      clear c1
      have cN : Calls Tryz.prog 20 #[.int .i64 k] w' fun e w'' => e = .returned (.tuple #[.pointer none, .int .i64 1]) ∧ w'' = w' := by
        rcases hk' with h | h
        · exact Tk.new_lo k h w'
        · exact Tk.new_hi k h w'
      go_wp2_with fail
      refine cN.mono ?_
      rintro e w2 ⟨rfl, e2⟩
      subst e2
      clear cN
      go_wp2
      go_ret2
      exact ⟨_, rfl, g, fun _ => rfl, fun e => absurd e (by decide)⟩
  · rw [if_neg hx] at E
    subst E
    have hx' : (z == 0) = false := by rw [beq_eq_false_iff_ne]; exact hx
    go_enter Tryz.func26, Tryz.ntmps26
    go_wp2_with fail
    refine c1.mono ?_
    rintro e w' ⟨rfl, g⟩
    clear c1
    go_wp2
    go_ret2
    exact ⟨_, rfl, g, fun _ => rfl, fun e => absurd e hx⟩
end Go.Proofs.YtepjbdklljlecabGreat

/- A loop over a function that is ranged over, where that function turns nothing old: the law. -/
namespace Go.Proofs.YtepjbdklljlecabGreat
open Go.RowKit Go.Shelf
attribute [local go_sem] Oper.semAt_some

theorem grown_of_gb {a b : World} (h : Gb a b) : a.grownBy b none := ⟨h.os, h.tape, h.output, h.size, fun k hk _ => h.block k hk⟩
theorem gb_same {a b : World} (h : Gb a b) {k : Nat} {o : Obj} (hk : a.heap[k]? = some o) : b.heap[k]? = some o :=
  (h.block k (Array.getElem?_eq_some_iff.1 hk).1).trans hk

/-- How a round's body may be left: on, alone. -/
def leftOn (I : Nat → World → Prop) (k : Nat) (W : World) : Exit → Act → World → Prop
  | .normal, _, W' => KeepsOthers W W' ∧ I k W'
  | _, _, _ => False

/-- The contract of what is ranged over: N rounds, between them nothing old turns. -/
def Gives (n : Nat) (P : Program) (gf : Nat) (lb : Array Value) (N : Nat) (arg : Nat → Value) (I : Nat → World → Prop) : Prop :=
  ∀ (l : Nat) (J : Nat → World → Prop) (W : World), (∀ k W, J k W → I k W) →
    (∀ k W W', J k W → Gb W W' → J k W') →
    (∀ k W, k < N → J k W → YieldAt Fence.wide (n - 1) P l #[arg k] W fun e W' => e = .returned (.bool true) ∧ J (k + 1) W') →
    J 0 W →
    CallsIn Fence.wide n P gf (#[.func (.yield l) #[] #[]] ++ lb) W fun e W' => (∃ v, e = .returned v) ∧ J N W'

theorem range_c {n : Nat} {P : Program} {g : Operand} {ps : Array Tmp} {assign body : Code} {Q : Exit → Act → World → Prop} {a : Act} {w : World}
    {gf : Nat} {lb : Array Value} (hg : a.eval g = .func (.func gf) #[] lb) (eg : ∀ args w, (callFunc gf args).run P w = .ok (.enter gf args) w)
    (hps : ps.size = 1) (N : Nat) (arg : Nat → Value) (I : Nat → World → Prop) (I1 : Nat → Nat → World → Prop) (ob : Nat → Obj)
    (hI : OwnFrom w.heap.size I) (hI1 : ∀ p, OwnFrom w.heap.size (fun k => I1 k p)) (h0 : I 0 w) (hst : ∀ k W, k < N → I k W → I1 k W.heap.size (W.alloc (ob k)))
    (hit : Gives (n - 1) P gf lb N arg I) (a₁ : Nat → Nat → Act)
    (hassign : ∀ (l k : Nat) (W : World) (K : Act → World → Prop), K (a₁ k W.heap.size) (W.alloc (ob k)) →
      assign.wpIn (Fence.wide.inRound l) (n - 1 - 1) P (Exit.then K (fun _ _ _ => False)) { tmps := (ps.zip #[arg k]).foldl (fun t (p, v) => t.setIfInBounds p v) a.tmps, defers := [] } W)
    (hbody : ∀ (l k p : Nat) (W : World), k < N → I1 k p W → body.wpIn (Fence.wide.inRound l) (n - 1 - 1) P (leftOn I (k + 1) W) (a₁ k p) W)
    (hdone : ∀ (D : Nat) (W : World), w.heap.size ≤ D → I N W → W.heap[D]? = some (.deferred (some [])) → Q .normal { a with defers := { target := .collected D, args := #[] } :: a.defers } W) :
    (Code.rangeFunc g ps assign body).wpIn Fence.wide n P Q a w := by
  refine wpIn_rangeFunc fun fn hfn => ?_
  -- the record of the loop, in its states
  obtain ⟨rc, hrc⟩ : ∃ rc : LoopState → Option Code → Loop, rc = fun s p => { state := s, pending := p, fn := fn, tmps := a.tmps, params := ps, assign := assign, body := body, defers := w.heap.size } := ⟨_, rfl⟩
  obtain ⟨V, hV⟩ : ∃ V, (w.alloc (.deferred (some []))).alloc (.loop (rc .ready none)) = V := ⟨_, rfl⟩
  have hlV : V.heap[w.heap.size + 1]? = some (.loop (rc .ready none)) := by
    rw [← hV]; have := World.alloc_heap_new (w.alloc (.deferred (some []))) (.loop (rc .ready none)); rwa [World.size_alloc] at this
  have hdV : V.heap[w.heap.size]? = some (.deferred (some [])) := by
    rw [← hV]; exact (Below.heap_alloc _ _ _ (by simp)).trans (World.alloc_heap_new w _)
  have hIV : I 0 V := by rw [← hV]; exact hI.alloc _ (hI.alloc _ h0)
  refine ⟨w.heap.size + 1, [{ target := .collected w.heap.size, args := #[] }], V, { target := .fn (.func gf) lb, args := #[.func (.yield (w.heap.size + 1)) #[] #[]] }, V, gf,
    #[.func (.yield (w.heap.size + 1)) #[] #[]] ++ lb, V, ?_, ?_, fun _ _ => trivial, ?_, fun h => by simp [Fence.wide] at h, ?_⟩
  · rw [← hV, hrc]; exact run_enterLoop_outer _ _ _ _ _
  · simp only [resolve, hg]
    simp [go_sem]
  · simp [invoke, go_sem, eg]
  refine (hit (w.heap.size + 1)
    (fun k W => I k W ∧ W.heap[w.heap.size + 1]? = some (.loop (rc .ready none)) ∧ W.heap[w.heap.size]? = some (.deferred (some [])))
    V (fun _ _ h => h.1) (fun k W W' h g => ⟨hI k W W' none h.1 (grown_of_gb g) (fun r e => by cases e), gb_same g h.2.1, gb_same g h.2.2⟩) ?_ ⟨hIV, hlV, hdV⟩).mono ?_
  · -- one round
    rintro k W hk ⟨hi, hl, hd⟩
    have hlt : w.heap.size + 1 < W.heap.size := (Array.getElem?_eq_some_iff.1 hl).1
    have hy := run_yield (P := P) (args := #[arg k]) hl (by rw [hrc]; simp [hps])
    rw [hrc] at hy
    obtain ⟨p, hp0⟩ : ∃ p, p = W.heap.size := ⟨_, rfl⟩
    obtain ⟨Wa, hWa⟩ : ∃ Wa, W.alloc (ob k) = Wa := ⟨_, rfl⟩
    have gA : Gb W Wa := by rw [← hWa]; exact gb_alloc (Below.refl _ _) _
    have hla := gb_same gA hl
    have hda := gb_same gA hd
    have hlta : w.heap.size + 1 < Wa.heap.size := (Array.getElem?_eq_some_iff.1 hla).1
    have hia : I1 k p Wa := by rw [← hWa, hp0]; exact hst k W hk hi
    refine ⟨fn, _, assign, body, hy, roundIn_of_wpIn hfn (hassign _ k W _ ?_)⟩
    rw [hWa, ← hp0]
    refine ⟨_, run_beginRound hla (by rw [hrc]), ?_⟩
    clear hy hi hl hd hlt
    obtain ⟨W2, hW2⟩ : ∃ W2, Wa.putObj (w.heap.size + 1) (.loop { rc .ready none with state := .busy }) = W2 := ⟨_, rfl⟩
    rw [hW2]
    have hl2 : W2.heap[w.heap.size + 1]? = some (.loop { rc .ready none with state := .busy }) := by rw [← hW2]; exact World.putObj_heap_same hlta
    have hd2 : W2.heap[w.heap.size]? = some (.deferred (some [])) := by rw [← hW2]; exact (World.putObj_heap_other (by omega)).trans hda
    have hi2 : I1 k p W2 := by rw [← hW2]; exact (hI1 p).putObj _ hia (by omega) hla rfl
    refine wpIn_mono (hbody _ k p W2 hk hi2) ?_
    have fin : ∀ (j : Option Code) (W3 : World), KeepsOthers W2 W3 →
        (Instr.endRound (w.heap.size + 1) j).run P W3 = .ok (.bool j.isNone) (W3.putObj (w.heap.size + 1) (.loop (rc (if j.isNone then .ready else .done) j))) ∧
        W3.heap[w.heap.size + 1]? = some (.loop { rc .ready none with state := .busy }) ∧
        (W3.putObj (w.heap.size + 1) (.loop (rc (if j.isNone then .ready else .done) j))).heap[w.heap.size + 1]? = some (.loop (rc (if j.isNone then .ready else .done) j)) ∧
        (W3.putObj (w.heap.size + 1) (.loop (rc (if j.isNone then .ready else .done) j))).heap[w.heap.size]? = some (.deferred (some [])) := fun j W3 hk3 => by
      have hl3 := hk3.same _ _ hl2 rfl
      have := run_endRound (P := P) j hl3
      rw [hrc] at this ⊢
      exact ⟨this, by rw [hrc] at hl3; exact hl3, World.putObj_heap_same (Array.getElem?_eq_some_iff.1 hl3).1, (World.putObj_heap_other (by omega)).trans (hk3.same _ _ hd2 rfl)⟩
    rintro e a3 W3 hp
    cases e with
    | normal =>
      obtain ⟨hk3, hi3⟩ := hp
      obtain ⟨hr, hl3, hl4, hd4⟩ := fin none W3 hk3
      exact ⟨_, _, hr, rfl, hI.putObj _ hi3 (by omega) hl3 rfl, hl4, hd4⟩
    | ret => exact hp.elim
    | exit id => exact hp.elim
    | goto t => exact hp.elim
    | panic ch => exact hp.elim
    | outgrown => exact hp.elim
  · -- behind it
    rintro e W2 ⟨⟨v, rfl⟩, hi, hl, hd⟩
    exact ⟨none, _, by have := run_endLoop (P := P) hl (by rw [hrc]; simp); rw [hrc] at this; exact this, hdone _ _ (Nat.le_refl _) (hI.putObj _ hi (by omega) hl rfl) ((World.putObj_heap_other (by omega)).trans hd)⟩

end Go.Proofs.YtepjbdklljlecabGreat

/- Slices of hits that are read; the reference's Same. -/
namespace Go.Proofs.YtepjbdklljlecabGreat.Tk
open Go.RowKit Go.Sort
attribute [local go_sem ↓] Go.wp_at_zero Go.wp_at_succ

/-- These hits lie in block b from o on. -/
def Lies (w : World) (b o : Nat) (l : List Ht) : Prop := ∀ i, i < l.length →
  w.cell? ⟨b, o + i * 3, none⟩ = some (.int .i64 l[i]!.id) ∧ w.cell? ⟨b, o + i * 3 + 1, none⟩ = some (.int .u64 l[i]!.hi) ∧ w.cell? ⟨b, o + i * 3 + 2, none⟩ = some (.int .u64 l[i]!.lo)
/-- The slice v reads as these hits. -/
def Rd (w : World) (v : Value) (l : List Ht) : Prop := (v = .slice none 0 0 ∧ l = []) ∨ (∃ a cap, v = .slice (some a) 0 cap ∧ l = []) ∨ ∃ b o cap, v = .slice (some ⟨b, o, none⟩) l.length cap ∧ Lies w b o l
theorem Lies.gr {w w' : World} {b o : Nat} {l : List Ht} (h : Lies w b o l) (g : Gr w w') : Lies w' b o l := fun i hi => by
  obtain ⟨h0, h1, h2⟩ := h i hi; exact ⟨gr_keeps g h0, gr_keeps g h1, gr_keeps g h2⟩
theorem Lies.kp {S : Nat → Prop} {w w' : World} {b o : Nat} {l : List Ht} (h : Lies w b o l) (g : Kp S w w') (hn : ¬ S b) : Lies w' b o l := fun i hi => by
  obtain ⟨h0, h1, h2⟩ := h i hi; exact ⟨g.cell h0 hn, g.cell h1 hn, g.cell h2 hn⟩
theorem Rd.gr {w w' : World} {v : Value} {l : List Ht} (h : Rd w v l) (g : Gr w w') : Rd w' v l := by
  rcases h with h | h | ⟨b, o, cap, e2, h⟩
  · exact .inl h
  · exact .inr (.inl h)
  · exact .inr (.inr ⟨b, o, cap, e2, h.gr g⟩)
theorem own_lies {w : World} {g n cap : Nat} {d : Array Ht} (h : Own w (.slice (some ⟨g, 0, none⟩) n cap) d) : Lies w g 0 d.toList := fun i hi => by
  have hi' : i < d.size := by simpa using hi
  have := own_cell h hi'
  rw [Nat.zero_add]
  have e : d.toList[i]! = d[i]! := by rw [getElem!_pos d.toList i hi, getElem!_pos d i hi']; simp
  rw [e]; exact this
theorem Rd.form {w : World} {v : Value} {l : List Ht} (h : Rd w v l) : ∃ a cap, v = .slice a l.length cap ∧ ∀ i, i < l.length → ∃ b o, a = some ⟨b, o, none⟩ ∧ Lies w b o l := by
  rcases h with ⟨rfl, rfl⟩ | ⟨a, cap, rfl, rfl⟩ | ⟨b, o, cap, rfl, h⟩
  · exact ⟨none, 0, rfl, fun i hi => absurd hi (Nat.not_lt_zero _)⟩
  · exact ⟨_, cap, rfl, fun i hi => absurd hi (Nat.not_lt_zero _)⟩
  · exact ⟨_, cap, rfl, fun _ _ => ⟨b, o, rfl, h⟩⟩

theorem hv_in (x y : Ht) (W : World) : (Op.equalIn 10000 60 (hv x) (hv y)).run Tryz.prog W = .ok (decide (x = y)) W := by
  have u3 := Tryz.underlying3
  have a3 := Tryz.isAgg3
  have z3 := Tryz.sizeOf3
  have u22 := Tryz.underlying23
  have a22 := Tryz.isAgg23
  have z22 := Tryz.sizeOf23
  have a24 := Tryz.isAgg58
  have z24 := Tryz.sizeOf58
  have hS : Tryz.prog.underlying 60 = some (.struct (Tryz.prog.fieldsOf 60)) := by kernel_rfl
  have hp : Tryz.prog.stoodInHeld 60 = false := by kernel_rfl
  have hS2 : Tryz.prog.underlying 58 = some (.struct (Tryz.prog.fieldsOf 58)) := by kernel_rfl
  have hp2 : Tryz.prog.stoodInHeld 58 = false := by kernel_rfl
  have h24 : ∀ (a b c d : Int) W, (Op.equalIn 9999 58 (.agg #[.int .u64 a, .int .u64 b]) (.agg #[.int .u64 c, .int .u64 d])).run Tryz.prog W = .ok (a == c && b == d) W := by
    intro a b c d W
    rw [show (9999 : Nat) = 9998 + 1 from rfl, run_equalIn_agg W 9998 58 _ _ hS2 hp2]
    simp only [Program.fieldsOf, Tryz.underlying58]
    go_simp
    by_cases h1 : a = c <;> by_cases h2 : b = d <;> simp [h1, h2]
  rw [show (10000 : Nat) = 9999 + 1 from rfl, run_equalIn_agg W 9999 60 _ _ hS hp]
  simp only [Program.fieldsOf, Tryz.underlying60]
  go_simp
  obtain ⟨a, b, c⟩ := x
  obtain ⟨a', b', c'⟩ := y
  by_cases h1 : a = a' <;> by_cases h2 : b = b' <;> by_cases h3 : c = c' <;> simp [h1, h2, h3]
theorem hv_ne (x y : Ht) (W : World) : (binOp .neq 60 (hv x) (hv y)).run Tryz.prog W = .ok (.bool (!decide (x = y))) W := by
  rw [run_neq_struct, hv_in]; rfl

set_option maxHeartbeats 2000000 in
set_option maxRecDepth 100000 in
theorem same_c {w : World} {u v : Value} {l m : List Ht} (hu : Rd w u l) (hv' : Rd w v m) (hlen : l.length ≤ 4000) :
    Calls Tryz.prog 12 #[u, v] w fun e w' => e = .returned (.bool (decide (l = m))) ∧ Gr w w' := by
  obtain ⟨a, ca, rfl, ha⟩ := hu.form
  obtain ⟨b, cb, rfl, hb⟩ := hv'.form
  clear hu hv'
  by_cases hlm : l.length = m.length
  · have A : Hid (∀ i, i < l.length → ∃ b o, a = some ⟨b, o, none⟩ ∧ Lies w b o l) := ha
    have B : Hid (∀ i, i < m.length → ∃ b' o, b = some ⟨b', o, none⟩ ∧ Lies w b' o m) := hb
    have L : Hid (l.length = m.length) := hlm
    rw [← hlm]
    obtain ⟨n, hN⟩ : ∃ n, n = l.length := ⟨_, rfl⟩
    have N : Hid (n = l.length) := hN
    rw [← hN] at hlen ⊢
    clear ha hb hlm hN
    go_enter Tryz.func12, Tryz.ntmps12
    go_wp2
    go_loopw [5] (fun iv w' => ∃ q : Nat, iv = .int .i64 (q : Int) ∧ q ≤ n ∧ Hid (l.take q = m.take q ∧ Gr w w')) (fun iv _ => n - (intOf iv).toNat)
    case atStart => exact ⟨0, rfl, Nat.zero_le _, ⟨by simp, Below.refl _ _⟩⟩
    case round =>
      obtain ⟨q, rfl, hq, X⟩ := hrel
      by_cases hqn : q < n
      · obtain ⟨b1, o1, ea, h1⟩ := A.out q (by have := N.out; omega)
        obtain ⟨b2, o2, eb, h2⟩ := B.out q (by have := L.out; have := N.out; omega)
        obtain ⟨x0, x1, x2⟩ := (h1.gr X.out.2) q (by have := N.out; omega)
        obtain ⟨y0, y1, y2⟩ := (h2.gr X.out.2) q (by have := L.out; have := N.out; omega)
        subst ea; subst eb
        have Q : Hid (q < l.length ∧ q < m.length) := ⟨by have := N.out; omega, by have := L.out; have := N.out; omega⟩
        obtain ⟨x, hx⟩ : ∃ x, x = l[q]! := ⟨_, rfl⟩
        obtain ⟨y, hy⟩ : ∃ y, y = m[q]! := ⟨_, rfl⟩
        have XY : Hid (x = l[q]! ∧ y = m[q]!) := ⟨hx, hy⟩
        rw [← hx] at x0 x1 x2
        rw [← hy] at y0 y1 y2
        clear hx hy h1 h2
        have hne := fun W => hv_ne x y W
        by_cases hxy : x = y
        · have E : Hid (x = y) := hxy
          rw [decide_eq_true hxy] at hne
          clear hxy
          go_wp2
          go_quiet (fail)
          go_wp2
          go_roundw
          case rel =>
            refine ⟨q + 1, by simp, hqn, ⟨?_, X.out.2.trans (below_drewN (Below.refl _ _) _)⟩⟩
            obtain ⟨e1, e2⟩ := XY.out
            have e3 := E.out
            rw [e1, e2, getElem!_pos l q Q.out.1, getElem!_pos m q Q.out.2] at e3
            rw [List.take_succ_eq_append_getElem Q.out.1, List.take_succ_eq_append_getElem Q.out.2, X.out.1, e3]
          case measure => simp [intOf]; omega
        · have E : Hid (l ≠ m) := by
            intro e
            obtain ⟨e1, e2⟩ := XY.out
            exact hxy (by rw [e1, e2, e])
          rw [decide_eq_false hxy] at hne
          have R : Hid (decide (l = m) = false) := decide_eq_false E.out
          clear hxy
          go_wp2
          go_quiet (fail)
          go_wp2
          go_ret
          exact ⟨by rw [R.out]; rfl, X.out.2.trans (below_drewN (Below.refl _ _) _)⟩
      · have R : Hid (decide (l = m) = true) := by
          have e := X.out.1
          have h1 := N.out
          have h2 := L.out
          rw [List.take_of_length_le (by omega), List.take_of_length_le (by omega)] at e
          exact decide_eq_true e
        go_wp2
        go_ret
        exact ⟨by rw [R.out]; rfl, X.out.2⟩
  · have R : Hid (decide (l = m) = false) := decide_eq_false (fun e => hlm (by rw [e]))
    have hne : ((l.length : Int) == (m.length : Int)) = false := by rw [beq_eq_false_iff_ne]; omega
    generalize l.length = n1 at *
    generalize m.length = n2 at *
    clear ha hb hlm
    go_enter Tryz.func12, Tryz.ntmps12
    go_wp2
    go_ret
    exact ⟨by rw [R.out]; rfl, Below.refl _ _⟩
end Go.Proofs.YtepjbdklljlecabGreat.Tk
