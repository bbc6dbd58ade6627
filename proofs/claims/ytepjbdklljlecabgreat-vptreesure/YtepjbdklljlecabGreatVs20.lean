import Derived.Test.YtepjbdklljlecabGreatVs13
import Derived.SizedLaws
import Derived.Test.YtepjbdklljlecabGreatVs4
import Derived.Laws.AppendOwnNone
import Derived.Test.YtepjbdklljlecabGreatProg
import Derived.RangeFuncNested
import Derived.RangeFuncBound
import Derived.RangeFuncCalls
import Derived.RangeFuncLeaves
import Derived.Shelf.Abstract
import Derived.Shelf.RegionOpen
import Derived.WalkKit
import Derived.OwnWalkIn
import Derived.TacticsInMore
import Derived.LoopNIn
import Derived.LoopIn
import Derived.Test.YtepjbdklljlecabGreatVs18
import Derived.Test.YtepjbdklljlecabGreatVsInB
import Derived.Test.YtepjbdklljlecabGreatVsBoxY
import Derived.Test.YtepjbdklljlecabGreatVsFar
import Derived.Deep.OwnRows
import Derived.Laws.CopyOwn
import Derived.Laws.OwnMore
/- Rows that came in, with the form's own reach: none is longer than its memory. -/
namespace Go.Proofs.YtepjbdklljlecabGreat
open Go.ChangeShapes Go.WideShapes Go.ChangeAt Go.RowKit Go.Joins Go.Deep

theorem Tryz.bytesI : Tryz.prog.bytesOf 3 = 8 := by kernel_rfl
theorem Tryz.bytesR : Tryz.prog.bytesOf 49 = 32 := by kernel_rfl
theorem weights_in {H : Type} {e : TypeId} {d : DataW H} : ∀ {l : List (DataW H)}, d ∈ l → ∀ n ∈ d.weights Tryz.prog e, n ∈ DataW.weightsAll Tryz.prog e l
  | x :: r, h, n, hn => by
    simp only [DataW.weightsAll, List.mem_append]
    cases List.mem_cons.1 h with
    | inl h => subst h; exact .inl hn
    | inr h => exact .inr (weights_in h n hn)
theorem trodI_sz {H : Type} {enc : TypeId × Value → H} {W : World} {base fuel : Nat} {hd : Bool} {v : Value} {l : List Int} {x : DataW H × List MemPlace}
    (h : DataW.trod enc Tryz.prog W base (fun _ => true) hd fuel 27 [v] = some x) (hr : RdI W v l) (hw : ∀ n ∈ x.1.weights Tryz.prog 27, n ≤ reachBytes) : l.length ≤ reachBytes := by
  rcases open_slice Tryz.underlying27 h with ⟨e, _⟩ | ⟨a, len, cap, m, n, D, Pl, e, _, hlc, hcm, _, rfl, _⟩
  · cases e
    obtain ⟨_, _, e, _⟩ := hr
    injection e with _ e2 _
    omega
  · cases e
    have h1 := hw ((((List.range len).map D).length + ((List.range (m - len)).map fun j => D (len + j)).length) * Tryz.prog.bytesOf 3) (by simp [DataW.weights, Tryz.underlying27])
    rw [Tryz.bytesI] at h1
    simp only [List.length_map, List.length_range] at h1
    obtain ⟨_, _, e, _⟩ := hr
    injection e with _ e2 _
    omega
set_option maxRecDepth 100000 in
theorem open_rows_sz {H : Type} {enc : TypeId × Value → H} {W : World} {b0 : Nat} {r : Reach} {v : Value} {d : DataW H} {p : List MemPlace}
    (hv' : Value.okWide Tryz.prog W r b0 22 v) (h : DataW.Trod enc Tryz.prog W 0 (fun _ => true) true 22 v d p) (hw : ∀ n ∈ d.weights Tryz.prog 22, n ≤ reachBytes) :
    ∃ rs : List Rw, RdW W v rs ∧ rs.length ≤ reachBytes ∧ (∀ i, i < rs.length → (Lit.int .i64 rs[i]!.1).wf = true) ∧ (∀ i, i < rs.length → rs[i]!.2.length ≤ reachBytes) ∧ ∀ a n c, v = .slice a n c → n ≤ c := by
  obtain ⟨a0, len, cap, rfl⟩ := okWide_slice Tryz.underlying22 hv'
  obtain ⟨fuel, hf⟩ := h
  rcases open_slice Tryz.underlying22 (by simpa [Value.cells] using hf) with ⟨e, _⟩ | ⟨a, len, cap, m, n, D, Pl, e, _, hlc, hcm, hm, hD, hx⟩
  · cases e
    exact ⟨[], ⟨none, 0, rfl, fun i hi => absurd hi (Nat.not_lt_zero _)⟩, Nat.zero_le _, fun i hi => absurd hi (Nat.not_lt_zero _), fun i hi => absurd hi (Nat.not_lt_zero _), fun a n c e => by cases e; exact Nat.le_refl _⟩
  · cases e
    rw [if_pos rfl] at hm
    subst hm
    have hd : d = .slice ((List.range len).map D) ((List.range (m - len)).map fun j => D (len + j)) := congrArg Prod.fst hD
    subst hd
    have hw0 := hw ((((List.range len).map D).length + ((List.range (m - len)).map fun j => D (len + j)).length) * Tryz.prog.bytesOf 49) (by simp [DataW.weights, Tryz.underlying22])
    rw [Tryz.bytesR] at hw0
    simp only [List.length_map, List.length_range] at hw0
    have hy : ∀ i, i < len → ∃ y : Rw, (∃ u, W.cell? (a.add (i * 2)) = some (.int .i64 y.1) ∧ W.cell? ((a.add (i * 2)).add 1) = some u ∧ RdI W u y.2) ∧ (Lit.int .i64 y.1).wf = true ∧ y.2.length ≤ reachBytes := by
      intro i hi
      obtain ⟨cs, hc, ht⟩ := hx i (by omega)
      obtain ⟨z0, z1, k, hz, hl1, j0, j1⟩ := trod_struct2 Tryz.underlying49 ht
      rw [Tryz.cells49] at hl1 hc
      match cs, hl1 with
      | [c0, c1], _ =>
        obtain ⟨x, e5, _, wx⟩ := DataW.trod_int Tryz.underlying3 j0
        obtain ⟨u, l, e6, rl, ll⟩ := trod22 j1
        have j2 := j1
        rw [e6] at j2
        simp [Tryz.cells3, Tryz.cells27] at e5 e6
        subst e5 e6
        obtain ⟨_, _, hcc⟩ := World.cells?_some hc
        have q0 := hcc 0 (by omega)
        have q1 := hcc 1 (by omega)
        refine ⟨(x, l), ⟨_, by simpa [Addr.add] using q0, by simpa using q1, rl⟩, wx, trodI_sz j2 rl (fun n hn => hw n ?_)⟩
        have hz' : D i = .agg [z0.1, z1.1] := congrArg Prod.fst hz
        simp only [DataW.weights, Tryz.underlying22, List.mem_cons, List.mem_append]
        refine .inr (.inl (weights_in (d := D i) (List.mem_map.2 ⟨i, List.mem_range.2 hi, rfl⟩) n ?_))
        rw [hz']
        simp only [DataW.weights, Tryz.underlying49, List.map_cons, List.map_nil, DataW.weightsEach, List.mem_append]
        exact .inr (.inl hn)
    obtain ⟨Y, hY⟩ := choose_lt (α := Rw) (p := fun i y => (∃ u, W.cell? (a.add (i * 2)) = some (.int .i64 y.1) ∧ W.cell? ((a.add (i * 2)).add 1) = some u ∧ RdI W u y.2) ∧ (Lit.int .i64 y.1).wf = true ∧ y.2.length ≤ reachBytes) hy
    have hg : ∀ i, i < len → ((List.range len).map Y)[i]! = Y i := by
      intro i hi
      rw [getElem!_pos _ i (by simpa using hi)]; simp
    refine ⟨(List.range len).map Y, ⟨some a, m, by simp, fun i hi => ?_⟩, by simp; omega, fun i hi => ?_, fun i hi => ?_, fun a n c e => by cases e; exact hlc⟩
    · have hi' : i < len := by simpa using hi
      obtain ⟨⟨u0, q0, _⟩, _⟩ := hY 0 (by omega)
      have ha : a = ⟨a.block, a.off, none⟩ := spot_none (by simpa [Addr.add] using q0)
      obtain ⟨⟨u, q1, q2, q3⟩, _⟩ := hY i hi'
      rw [hg i hi']
      rw [ha, Addr.add_lit] at q1
      rw [ha, Addr.add_lit, Addr.add_lit] at q2
      exact ⟨a.block, a.off, u, by rw [← ha], q1, q2, q3⟩
    · have hi' : i < len := by simpa using hi
      rw [hg i hi']; exact (hY i hi').2.1
    · have hi' : i < len := by simpa using hi
      rw [hg i hi']; exact (hY i hi').2.2
end Go.Proofs.YtepjbdklljlecabGreat

/- Rows in a list of the call's own. -/
namespace Go.Proofs.YtepjbdklljlecabGreat
open Go.RowKit Go.Sort Go.Maps

theorem Tryz.infoW : (Tryz.prog.info? 49).map (fun i => (i.zero, i.size, i.bytes)) = some (some (.agg #[.int .i64 0, .slice none 0 0]), 2, 32) := by kernel_rfl
theorem info_partsW : ∃ i0, Tryz.prog.info? 49 = some i0 ∧ i0.zero = some (.agg #[.int .i64 0, .slice none 0 0]) ∧ i0.size = 2 ∧ i0.bytes = 32 := by
  obtain ⟨i, hi, hzz⟩ := Option.map_eq_some_iff.1 Tryz.infoW
  simp only [Prod.mk.injEq] at hzz
  exact ⟨i, hi, hzz.1, hzz.2.1, hzz.2.2⟩
/-- The cells xs are these rows'; their vectors are read in w. -/
def CellsW (w : World) (xs : List Value) (rs : List Rw) : Prop := ∀ i, i < rs.length → xs[i * 2]? = some (.int .i64 rs[i]!.1) ∧ ∃ u, xs[i * 2 + 1]? = some u ∧ RdI w u rs[i]!.2
theorem CellsW.gb {w w' : World} {xs : List Value} {rs : List Rw} (h : CellsW w xs rs) (g : Gb w w') : CellsW w' xs rs := fun i hi => by
  obtain ⟨h1, u, h2, h3⟩ := h i hi
  exact ⟨h1, u, h2, h3.gb g⟩
/-- The call owns, in blocks from B on, a slice v of these rows, whose vectors are read in w. -/
def OwnW (w W : World) (B : Nat) (v : Value) (rs : List Rw) : Prop := ∃ xs, W.ownsRow B 49 2 v rs.length xs ∧ CellsW w xs rs
theorem OwnW.kept {w W W' : World} {B : Nat} {v : Value} {rs : List Rw} {row : Option Nat} (h : OwnW w W B v rs) (hg : W.grownBy W' row) (hne : v.ownBlock = none ∨ v.ownBlock ≠ row) : OwnW w W' B v rs := by
  obtain ⟨xs, h1, h2⟩ := h
  exact ⟨xs, h1.kept hg hne, h2⟩
theorem OwnW.gb {w W W' : World} {B : Nat} {v : Value} {rs : List Rw} (h : OwnW w W B v rs) (g : Gb W W') : OwnW w W' B v rs :=
  h.kept (row := none) ⟨g.os, g.tape, g.output, g.size, fun k hk _ => g.block k hk⟩ (by cases hv : v.ownBlock <;> simp)
theorem OwnW.rdw {w W : World} {B : Nat} {v : Value} {rs : List Rw} (h : OwnW w W B v rs) (g : Gb w W) : RdW W v rs := by
  obtain ⟨xs, h, hx⟩ := h
  rcases h.2 with ⟨rfl, h0⟩ | ⟨b, cap, cur, rfl, _⟩
  · have : rs = [] := List.eq_nil_of_length_eq_zero h0
    subst this
    exact ⟨none, 0, rfl, fun i hi => absurd hi (Nat.not_lt_zero _)⟩
  · refine ⟨_, cap, rfl, fun i hi => ?_⟩
    obtain ⟨h1, u, h2, h3⟩ := hx i hi
    have c1 := World.ownsRow.cells h (g := b) rfl (i * 2) _ h1
    have c2 := World.ownsRow.cells h (g := b) rfl (i * 2 + 1) _ h2
    rw [Addr.add_lit] at c1 c2
    exact ⟨b, 0, u, rfl, c1, by rw [Nat.add_assoc]; exact c2, h3.gb g⟩
theorem OwnW.form {w W : World} {B : Nat} {v : Value} {rs : List Rw} (h : OwnW w W B v rs) : ∃ a cap, v = .slice a rs.length cap := by
  obtain ⟨xs, h, _⟩ := h
  rcases h.2 with ⟨rfl, h0⟩ | ⟨b, cap, cur, rfl, _⟩
  · exact ⟨none, 0, by rw [h0]⟩
  · exact ⟨_, cap, rfl⟩
theorem two_cells (w : World) (x y : Value) (t : TypeId) : ∀ j u, [x, y][j]? = some u → (w.alloc (.cells #[x, y] t)).cell? ((⟨w.heap.size, 0, none⟩ : Addr).add j) = some u := by
  intro j u hj
  rw [Addr.add_lit]
  rcases j with _ | _ | j <;> simp at hj
  · subst hj; simp [go_sem]
  · subst hj; simp [go_sem]
end Go.Proofs.YtepjbdklljlecabGreat

/- The source's state and what it draws: the plain functions of layer 4, and the calls that touch no state. -/
namespace Go.Proofs.YtepjbdklljlecabGreat.Rn
open Go.RowKit Go.Shelf

/-- A number of 64 bits. -/
abbrev U (z : Int) : Prop := 0 ≤ z ∧ z < 18446744073709551616
theorem u_wrap (z : Int) : U (IntKind.u64.wrap z) := by
  rw [IntKind.wrap_u64]; exact ⟨Int.emod_nonneg _ (by decide), Int.emod_lt_of_pos _ (by decide)⟩
theorem u_bits (o : BinOp) (x y : Int) : U (bits o .u64 x y) := by
  unfold bits; exact u_wrap _
/-- P4.1: what a state becomes, and the number that it tells. -/
def stp (x : Int) : Int := IntKind.u64.wrap (x + 11400714819323198485)
def sh (z m c : Int) : Int := IntKind.u64.wrap (bits .xor .u64 z (z / m) * c)
def mx0 (z : Int) : Int := bits .xor .u64 z (z / 2147483648)
def mx (z : Int) : Int := mx0 (sh (sh z 1073741824 13787848793156543929) 134217728 10723151780598845931)
theorem u_stp (x : Int) : U (stp x) := u_wrap _
theorem u_mx (z : Int) : U (mx z) := by unfold mx mx0; exact u_bits _ _ _
/-- The state behind k draws. -/
def stN (x : Int) : Nat → Int
  | 0 => x
  | k + 1 => stp (stN x k)
theorem stN_succ (x : Int) (k : Nat) : stN x (k + 1) = IntKind.u64.wrap (stN x k + 11400714819323198485) := rfl
set_option maxHeartbeats 400000 in
theorem mix_c (z : Int) (w : World) (h : U z) :
    Calls Tryz.prog 186 #[.int .u64 z] w fun e w' => e = .returned (.int .u64 (mx z)) ∧ w = w' := by
  obtain ⟨h0, h1⟩ := h
  go_enter Tryz.func186, Tryz.ntmps186
  go_wp2
  go_ret
  exact ⟨rfl, rfl⟩
set_option maxHeartbeats 400000 in
theorem rest_c (z n : Int) (w : World) (h : U z) (hn : 1 ≤ n) (hm : n ≤ 1000000000) :
    Calls Tryz.prog 146 #[.int .u64 z, .int .i64 n] w fun e w' => e = .returned (.int .i64 (z % n)) ∧ w = w' := by
  obtain ⟨h0, h1⟩ := h
  have e1 : wrap64 (z % n) = z % n := by
    have := Int.emod_nonneg z (b := n) (by omega)
    have := Int.emod_lt_of_pos z (b := n) (by omega)
    simp only [wrap64]; omega
  go_enter Tryz.func146, Tryz.ntmps146
  go_wp2
  go_ret
  exact ⟨by simp [e1], rfl⟩
set_option maxHeartbeats 400000 in
theorem new_c (x : Int) (w : World) :
    Calls Tryz.prog 30 #[.int .u64 x] w fun e w' => e = .returned (.pointer (some ⟨w.heap.size, 0, none⟩)) ∧ w' = w.alloc (.cells #[.int .u64 x] 131) := by
  go_enter Tryz.func30, Tryz.ntmps30
  go_wp2
  go_ret
  exact ⟨rfl, rfl⟩
set_option maxHeartbeats 400000 in
theorem draws_c (p : Option Addr) (k : Int) (w : World) :
    Calls Tryz.prog 170 #[.pointer p, .int .i64 k] w fun e w' => e = .returned (.func (.func 185) #[] #[.pointer (some ⟨w.heap.size, 0, none⟩), .pointer (some ⟨w.heap.size + 1, 0, none⟩)]) ∧ w' = (w.alloc (.cells #[.pointer p] 62)).alloc (.cells #[.int .i64 k] 3) := by
  go_enter Tryz.func170, Tryz.ntmps170
  go_wp2
  go_ret
  exact ⟨rfl, rfl⟩

/-- What keeps a source from drawing for n. -/
def ckE (n lo hi : Int) : Int := if n < lo ∨ hi < n then 1 else 0
set_option maxHeartbeats 400000 in
theorem check_c (a : Addr) (n lo hi : Int) (w : World) :
    Calls Tryz.prog 145 #[.pointer (some a), .int .i64 n, .int .i64 lo, .int .i64 hi] w fun e w' => e = .returned (.int .i64 (ckE n lo hi)) ∧ w = w' := by
  unfold ckE
  by_cases h1 : n < lo
  · rw [if_pos (.inl h1)]
    go_enter Tryz.func145, Tryz.ntmps145
    go_wp2
    go_ret
    exact ⟨rfl, rfl⟩
  · by_cases h2 : hi < n
    · rw [if_pos (.inr h2)]
      go_enter Tryz.func145, Tryz.ntmps145
      go_wp2
      go_ret
      exact ⟨rfl, rfl⟩
    · rw [if_neg (by omega)]
      go_enter Tryz.func145, Tryz.ntmps145
      go_wp2
      go_ret
      exact ⟨rfl, rfl⟩

end Go.Proofs.YtepjbdklljlecabGreat.Rn

/- A loop over the draws of a source: the statement, where the function that is ranged over writes one cell ahead of each round; and that function. -/
namespace Go.Proofs.YtepjbdklljlecabGreat.Rn
open Go.RowKit Go.Shelf
attribute [local go_sem] Oper.semAt_some

/-- How a round's body may be left: on, or by a return. -/
def leftBy (I : Nat → World → Prop) (Ir : Nat → World → Prop) (k : Nat) (W : World) : Exit → Act → World → Prop
  | .normal, _, W' => KeepsOthers W W' ∧ I k W'
  | .ret, _, W' => KeepsOthers W W' ∧ Ir k W'
  | _, _, _ => False

/-- The contract of what is ranged over: N rounds at most, ahead of the k-th the cell b is put. -/
def Gives (n : Nat) (P : Program) (gf : Nat) (lb : Array Value) (N b : Nat) (put arg : Nat → Value) (I : Nat → World → Prop) : Prop :=
  ∀ (l : Nat) (J J1 Jx : Nat → World → Prop) (W : World), (∀ k W, J k W → I k W) →
    (∀ k W, k < N → J k W → J1 k (W.setCell ⟨b, 0, none⟩ (put k))) →
    (∀ k W, k < N → J1 k W → YieldAt Fence.wide (n - 1) P l #[arg k] W fun e W' =>
      (e = .returned (.bool true) ∧ J (k + 1) W') ∨ (e = .returned (.bool false) ∧ Jx (k + 1) W')) →
    J 0 W →
    CallsIn Fence.wide n P gf (#[.func (.yield l) #[] #[]] ++ lb) W fun e W' => (∃ v, e = .returned v) ∧ (J N W' ∨ ∃ k, k < N ∧ Jx (k + 1) W')

theorem range_c {n : Nat} {P : Program} {g : Operand} {ps : Array Tmp} {assign body : Code} {Q : Exit → Act → World → Prop} {a : Act} {w : World}
    {gf : Nat} {lb : Array Value} (hg : a.eval g = .func (.func gf) #[] lb) (eg : ∀ args w, (callFunc gf args).run P w = .ok (.enter gf args) w)
    (hps : ps.size = 1) (N b : Nat) (put arg : Nat → Value) (I I1 Ir : Nat → World → Prop)
    (hI : OwnFrom w.heap.size I) (hI1 : OwnFrom w.heap.size I1) (hIr : OwnFrom w.heap.size Ir) (h0 : I 0 w)
    (hst : ∀ k W, k < N → I k W → I1 k (W.setCell ⟨b, 0, none⟩ (put k)))
    (hit : Gives (n - 1) P gf lb N b put arg I) (a₁ : Nat → Act)
    (hassign : ∀ (l k : Nat) (W : World) (K : Act → World → Prop), K (a₁ k) W →
      assign.wpIn (Fence.wide.inRound l) (n - 1 - 1) P (Exit.then K (fun _ _ _ => False)) { tmps := (ps.zip #[arg k]).foldl (fun t (p, v) => t.setIfInBounds p v) a.tmps, defers := [] } W)
    (hbody : ∀ (l k : Nat) (W : World), k < N → I1 k W → body.wpIn (Fence.wide.inRound l) (n - 1 - 1) P (leftBy I Ir (k + 1) W) (a₁ k) W)
    (hdone : ∀ (D : Nat) (W : World), w.heap.size ≤ D → I N W → W.heap[D]? = some (.deferred (some [])) → Q .normal { a with defers := { target := .collected D, args := #[] } :: a.defers } W)
    (hstop : ∀ (D k : Nat) (W : World), w.heap.size ≤ D → k < N → Ir (k + 1) W → W.heap[D]? = some (.deferred (some [])) → Code.ret.wpIn Fence.wide n P Q { a with defers := { target := .collected D, args := #[] } :: a.defers } W) :
    (Code.rangeFunc g ps assign body).wpIn Fence.wide n P Q a w := by
  refine wpIn_rangeFunc fun fn hfn => ?_
  -- the record of the loop, in its states
  obtain ⟨rc, hrc⟩ : ∃ rc : LoopState → Option Code → Loop, rc = fun s p => { state := s, pending := p, fn := fn, tmps := a.tmps, params := ps, assign := assign, body := body, defers := w.heap.size } := ⟨_, rfl⟩
  obtain ⟨V, hV⟩ : ∃ V, (w.alloc (.deferred (some []))).alloc (.loop (rc .ready none)) = V := ⟨_, rfl⟩
  have hlV : V.heap[w.heap.size + 1]? = some (.loop (rc .ready none)) := by
    rw [← hV]; have := World.alloc_heap_new (w.alloc (.deferred (some []))) (.loop (rc .ready none)); rwa [World.size_alloc] at this
  have hdV : V.heap[w.heap.size]? = some (.deferred (some [])) := by
    rw [← hV]; exact (Below.heap_alloc _ _ _ (by simp)).trans (World.alloc_heap_new w _)
  have hIV : I 0 V := by rw [← hV]; exact hI.alloc _ (hI.alloc _ h0)
  refine ⟨w.heap.size + 1, [{ target := .collected w.heap.size, args := #[] }], V, { target := .fn (.func gf) lb, args := #[.func (.yield (w.heap.size + 1)) #[] #[]] }, V, gf,
    #[.func (.yield (w.heap.size + 1)) #[] #[]] ++ lb, V, ?_, ?_, fun _ _ => trivial, ?_, fun h => by simp [Fence.wide] at h, ?_⟩
  · rw [← hV, hrc]; exact run_enterLoop_outer _ _ _ _ _
  · simp only [resolve, hg]
    simp [go_sem]
  · simp [invoke, go_sem, eg]
  refine (hit (w.heap.size + 1)
    (fun k W => I k W ∧ W.heap[w.heap.size + 1]? = some (.loop (rc .ready none)) ∧ W.heap[w.heap.size]? = some (.deferred (some [])))
    (fun k W => I1 k W ∧ W.heap[w.heap.size + 1]? = some (.loop (rc .ready none)) ∧ W.heap[w.heap.size]? = some (.deferred (some [])))
    (fun k W => Ir k W ∧ W.heap[w.heap.size + 1]? = some (.loop (rc .done (some .ret))) ∧ W.heap[w.heap.size]? = some (.deferred (some [])))
    V (fun _ _ h => h.1) (fun k W hk h => ⟨hst k W hk h.1, (KeepsOthers.setCell W _ _).same _ _ h.2.1 rfl, (KeepsOthers.setCell W _ _).same _ _ h.2.2 rfl⟩) ?_ ⟨hIV, hlV, hdV⟩).mono ?_
  · -- one round
    rintro k W hk ⟨hi, hl, hd⟩
    have hlt : w.heap.size + 1 < W.heap.size := (Array.getElem?_eq_some_iff.1 hl).1
    have hy := run_yield (P := P) (args := #[arg k]) hl (by rw [hrc]; simp [hps])
    rw [hrc] at hy
    refine ⟨fn, _, assign, body, hy, roundIn_of_wpIn hfn (hassign _ k W _ ⟨_, run_beginRound hl (by rw [hrc]), ?_⟩)⟩
    obtain ⟨W2, hW2⟩ : ∃ W2, W.putObj (w.heap.size + 1) (.loop { rc .ready none with state := .busy }) = W2 := ⟨_, rfl⟩
    rw [hW2]
    have hl2 : W2.heap[w.heap.size + 1]? = some (.loop { rc .ready none with state := .busy }) := by rw [← hW2]; exact World.putObj_heap_same hlt
    have hd2 : W2.heap[w.heap.size]? = some (.deferred (some [])) := by rw [← hW2]; exact (World.putObj_heap_other (by omega)).trans hd
    have hi2 : I1 k W2 := by rw [← hW2]; exact hI1.putObj _ hi (by omega) hl rfl
    refine wpIn_mono (hbody _ k W2 hk hi2) ?_
    have fin : ∀ (j : Option Code) (W3 : World), KeepsOthers W2 W3 →
        (Instr.endRound (w.heap.size + 1) j).run P W3 = .ok (.bool j.isNone) (W3.putObj (w.heap.size + 1) (.loop (rc (if j.isNone then .ready else .done) j))) ∧
        W3.heap[w.heap.size + 1]? = some (.loop { rc .ready none with state := .busy }) ∧
        (W3.putObj (w.heap.size + 1) (.loop (rc (if j.isNone then .ready else .done) j))).heap[w.heap.size + 1]? = some (.loop (rc (if j.isNone then .ready else .done) j)) ∧
        (W3.putObj (w.heap.size + 1) (.loop (rc (if j.isNone then .ready else .done) j))).heap[w.heap.size]? = some (.deferred (some [])) := fun j W3 hk3 => by
      have hl3 := hk3.same _ _ hl2 rfl
      have := run_endRound (P := P) j hl3
      rw [hrc] at this ⊢
      exact ⟨this, by rw [hrc] at hl3; exact hl3, World.putObj_heap_same (Array.getElem?_eq_some_iff.1 hl3).1, (World.putObj_heap_other (by omega)).trans (hk3.same _ _ hd2 rfl)⟩
    rintro e a3 W3 hp
    cases e with
    | normal =>
      obtain ⟨hk3, hi3⟩ := hp
      obtain ⟨hr, hl3, hl4, hd4⟩ := fin none W3 hk3
      exact ⟨_, _, hr, .inl ⟨rfl, hI.putObj _ hi3 (by omega) hl3 rfl, hl4, hd4⟩⟩
    | ret =>
      obtain ⟨hk3, hi3⟩ := hp
      obtain ⟨hr, hl3, hl4, hd4⟩ := fin (some .ret) W3 hk3
      exact ⟨_, _, hr, .inr ⟨rfl, hIr.putObj _ hi3 (by omega) hl3 rfl, hl4, hd4⟩⟩
    | exit id => exact hp.elim
    | goto t => exact hp.elim
    | panic ch => exact hp.elim
    | outgrown => exact hp.elim
  · -- behind it
    rintro e W2 ⟨⟨v, rfl⟩, ⟨hi, hl, hd⟩ | ⟨k, hk, hi, hl, hd⟩⟩
    · exact ⟨none, _, by have := run_endLoop (P := P) hl (by rw [hrc]; simp); rw [hrc] at this; exact this, hdone _ _ (Nat.le_refl _) (hI.putObj _ hi (by omega) hl rfl) ((World.putObj_heap_other (by omega)).trans hd)⟩
    · exact ⟨some .ret, _, by have := run_endLoop (P := P) hl (by rw [hrc]; simp); rw [hrc] at this; exact this, hstop _ k _ (Nat.le_refl _) hk (hIr.putObj _ hi (by omega) hl rfl) ((World.putObj_heap_other (by omega)).trans hd)⟩

end Go.Proofs.YtepjbdklljlecabGreat.Rn

/- The reference's find. -/
namespace Go.Proofs.YtepjbdklljlecabGreat
open Go.RowKit Go.Sort

end Go.Proofs.YtepjbdklljlecabGreat

/- The reference's Id, ids and form. -/
namespace Go.Proofs.YtepjbdklljlecabGreat
open Go.RowKit

end Go.Proofs.YtepjbdklljlecabGreat

/- theodolitekeep.Ints; the law's own box and ball. -/
namespace Go.Proofs.YtepjbdklljlecabGreat
open Go.RowKit Go.Sort

end Go.Proofs.YtepjbdklljlecabGreat

/- The reference's ids. -/
namespace Go.Proofs.YtepjbdklljlecabGreat
open Go.RowKit

end Go.Proofs.YtepjbdklljlecabGreat

/- The reference's CheckRegion. -/
namespace Go.Proofs.YtepjbdklljlecabGreat
open Go.RowKit

end Go.Proofs.YtepjbdklljlecabGreat

/- theodolitekeep.Lend and Back; theodoliteref03.Dist. -/
namespace Go.Proofs.YtepjbdklljlecabGreat
open Go.RowKit Go.Sort Go.Maps

/-- Numbers that were lent: block g, with the mark behind them. -/
def Lent (W : World) (B g : Nat) (l : List Int) : Prop := B ≤ g ∧ W.heap[g]? = some (.cells (l.map (Value.int .i64) ++ [Value.int .i64 (-77)]).toArray 3 (0, 0))
theorem Lent.gb {W W' : World} {B g : Nat} {l : List Int} (h : Lent W B g l) (k : Gb W W') : Lent W' B g l :=
  ⟨h.1, by rw [k.block g (Array.getElem?_eq_some_iff.1 h.2).1]; exact h.2⟩
theorem Lent.far {W W' : World} {B g g' : Nat} {l : List Int} (h : Lent W B g l) (k : W.grownBy W' (some g')) (hne : g ≠ g') : Lent W' B g l :=
  ⟨h.1, by rw [k.block g (Array.getElem?_eq_some_iff.1 h.2).1 (by simpa using hne)]; exact h.2⟩
theorem Lent.rd {W : World} {B g : Nat} {l : List Int} (h : Lent W B g l) : RdI W (.slice (some ⟨g, 0, none⟩) l.length (l.length + 1)) l := by
  refine ⟨_, _, rfl, fun i hi => ⟨g, 0, rfl, ?_⟩⟩
  simp only [World.cell?, h.2, Nat.zero_add]
  simp only [Option.isSome_none, Bool.false_eq_true, if_false, List.getElem?_toArray]
  rw [List.getElem?_append_left (by simpa using hi)]
  simp [hi]
theorem Lent.mark {W : World} {B g : Nat} {l : List Int} (h : Lent W B g l) : W.cell? ⟨g, l.length, none⟩ = some (.int .i64 (-77)) := by
  simp only [World.cell?, h.2]
  simp
theorem Lent.own {W : World} {B g : Nat} {l : List Int} (h : Lent W B g l) (hl : l.length ≤ 65536) : Own W B (.slice (some ⟨g, 0, none⟩) (l.length + 1) (l.length + 1)) (tab (fun i => if i < l.length then l[i]! else -77) (l.length + 1)) := by
  unfold Own
  rw [tab_len]
  refine ⟨by simp [tab], .inr ⟨g, _, _, rfl, h.1, h.2, Nat.le_refl _, by simp only [maxLen]; omega, by simp, ?_⟩⟩
  apply List.ext_getElem?
  intro t
  by_cases ht : t < l.length + 1
  · rw [Nat.mul_one, List.getElem?_take_of_lt ht]
    by_cases h2 : t < l.length
    · simp [tab, ht, h2]
    · have e : t = l.length := by omega
      subst e
      simp [tab]
  · rw [List.getElem?_eq_none (by simp; omega), List.getElem?_eq_none (by simp [tab]; omega)]

end Go.Proofs.YtepjbdklljlecabGreat

/- theodolitekeep.LendRows: rows in memory of the call's own, with a mark behind. -/
namespace Go.Proofs.YtepjbdklljlecabGreat
open Go.RowKit Go.Sort Go.Maps

/-- Rows in memory, by the index: two cells each. -/
def RA (W : World) (g n : Nat) (f : Nat → Value × Value) : Prop :=
  ∃ cur : Array Value, W.heap[g]? = some (.cells cur 49 (0, 0)) ∧ cur.size = n * 2 ∧ ∀ i, i < n → cur[i * 2]? = some (f i).1 ∧ cur[i * 2 + 1]? = some (f i).2
theorem RA.lt {W : World} {g n : Nat} {f : Nat → Value × Value} (h : RA W g n f) : g < W.heap.size := by
  obtain ⟨cur, h1, _⟩ := h; exact (Array.getElem?_eq_some_iff.1 h1).1
theorem RA.cell {W : World} {g n : Nat} {f : Nat → Value × Value} (h : RA W g n f) {i : Nat} (hi : i < n) : W.cell? ⟨g, i * 2, none⟩ = some (f i).1 ∧ W.cell? ⟨g, i * 2 + 1, none⟩ = some (f i).2 := by
  obtain ⟨cur, h1, _, h4⟩ := h
  obtain ⟨a, b⟩ := h4 i hi
  simp [World.cell?, h1, a, b]
theorem RA.frozen {W : World} {g n : Nat} {f : Nat → Value × Value} (h : RA W g n f) (o : Nat) : W.frozen? ⟨g, o, none⟩ = false := by
  obtain ⟨cur, h1, _⟩ := h
  simp [World.frozen?, h1]
theorem RA.block {W W' : World} {g n : Nat} {f : Nat → Value × Value} (h : RA W g n f) (e : W'.heap[g]? = W.heap[g]?) : RA W' g n f := by
  obtain ⟨cur, h1, h2⟩ := h
  exact ⟨cur, e.trans h1, h2⟩
theorem RA.set {W : World} {g n : Nat} {f : Nat → Value × Value} (h : RA W g n f) {i : Nat} (hi : i < n) (x y : Value) :
    RA ((W.setCell ⟨g, i * 2, none⟩ x).setCell ⟨g, i * 2 + 1, none⟩ y) g n (fun t => if t = i then (x, y) else f t) := by
  obtain ⟨cur, h1, h2, h5⟩ := h
  refine ⟨(cur.setIfInBounds (i * 2) x).setIfInBounds (i * 2 + 1) y, ?_, by simpa using h2, fun t ht => ?_⟩
  · simp [World.setCell, Array.getElem?_modify, h1]
  · by_cases e : t = i
    · subst e
      simp only [if_true]
      refine ⟨?_, ?_⟩
      · rw [Array.getElem?_setIfInBounds_ne (by omega), Array.getElem?_setIfInBounds_self_of_lt (by omega)]
      · rw [Array.getElem?_setIfInBounds_self_of_lt (by simp; omega)]
    · simp only [if_neg e]
      obtain ⟨a, b⟩ := h5 t ht
      refine ⟨?_, ?_⟩
      · rw [Array.getElem?_setIfInBounds_ne (by omega), Array.getElem?_setIfInBounds_ne (by omega)]; exact a
      · rw [Array.getElem?_setIfInBounds_ne (by omega), Array.getElem?_setIfInBounds_ne (by omega)]; exact b
/-- What is laid of rows that are lent: block G, n places, p of them done. -/
structure Lr (w W : World) (G n : Nat) (rs : List Rw) (p : Nat) (z : Prop) (f : Nat → Value × Value) : Prop where
  gb : Gb w W
  hG : w.heap.size ≤ G
  arr : RA W G n f
  lent : ∃ gs : Nat → Nat, ∀ i, i < p → f i = (.int .i64 rs[i]!.1, .slice (some ⟨gs i, 0, none⟩) rs[i]!.2.length (rs[i]!.2.length + 1)) ∧ Lent W (G + 1) (gs i) rs[i]!.2 ∧ ∀ j, j < i → gs j ≠ gs i
  end' : z
theorem Lr.gr {w W W' : World} {G n p : Nat} {rs : List Rw} {z : Prop} {f : Nat → Value × Value} (h : Lr w W G n rs p z f) (g : Gb W W') : Lr w W' G n rs p z f := by
  obtain ⟨gs, hl⟩ := h.lent
  exact ⟨gb_trans h.gb g, h.hG, h.arr.block (g.block _ h.arr.lt), ⟨gs, fun i hi => ⟨(hl i hi).1, (hl i hi).2.1.gb g, (hl i hi).2.2⟩⟩, h.end'⟩
theorem two_far {g b : Nat} {W : World} (hn : b ≠ g) (o1 o2 : Nat) (x y : Value) : ((W.setCell ⟨g, o1, none⟩ x).setCell ⟨g, o2, none⟩ y).heap[b]? = W.heap[b]? :=
  (Below.heap_setCell _ _ _ _ (by dsimp only; exact hn)).trans (Below.heap_setCell _ _ _ _ (by dsimp only; exact hn))
theorem two_gb {g : Nat} {w W : World} (h : Gb w W) (hg : w.heap.size ≤ g) (o1 o2 : Nat) (x y : Value) : Gb w ((W.setCell ⟨g, o1, none⟩ x).setCell ⟨g, o2, none⟩ y) :=
  gb_set (gb_set h (by dsimp only; exact hg) _) (by dsimp only; exact hg) _
theorem Lent.block {W W' : World} {B g : Nat} {l : List Int} (h : Lent W B g l) (e : W'.heap[g]? = W.heap[g]?) : Lent W' B g l := ⟨h.1, e.trans h.2⟩
theorem Lent.lt {W : World} {B g : Nat} {l : List Int} (h : Lent W B g l) : g < W.heap.size := (Array.getElem?_eq_some_iff.1 h.2).1
/-- Rows that were lent. -/
def LentR (w W : World) (G : Nat) (rs : List Rw) : Prop := ∃ f, Lr w W G (rs.length + 1) rs rs.length (f rs.length = (.int .i64 (-77), .slice none 0 0)) f
theorem Lr.mark {w W : World} {G n : Nat} {rs : List Rw} {f : Nat → Value × Value} (h : Lr w W G (n + 1) rs n True f) (hn : n = rs.length) :
    LentR w ((W.setCell ⟨G, n * 2, none⟩ (.int .i64 (-77))).setCell ⟨G, n * 2 + 1, none⟩ (.slice none 0 0)) G rs := by
  subst hn
  obtain ⟨gs, hl⟩ := h.lent
  refine ⟨_, two_gb h.gb h.hG _ _ _ _, h.hG, h.arr.set (Nat.lt_succ_self _) _ _, ⟨gs, fun i hi => ?_⟩, by simp⟩
  obtain ⟨a, b, c⟩ := hl i hi
  exact ⟨by rw [if_neg (by omega)]; exact a, b.block (two_far (by have := b.1; omega) _ _ _ _), c⟩
theorem LentR.gr {w W W' : World} {G : Nat} {rs : List Rw} (h : LentR w W G rs) (g : Gb W W') : LentR w W' G rs := by
  obtain ⟨f, h⟩ := h
  exact ⟨f, h.gr g⟩
theorem LentR.rd {w W : World} {G : Nat} {rs : List Rw} (h : LentR w W G rs) : RdW W (.slice (some ⟨G, 0, none⟩) rs.length (rs.length + 1)) rs := by
  obtain ⟨f, h⟩ := h
  obtain ⟨gs, hl⟩ := h.lent
  refine ⟨_, _, rfl, fun i hi => ?_⟩
  obtain ⟨a, b, _⟩ := hl i hi
  have hc := h.arr.cell (i := i) (by omega)
  rw [a] at hc
  exact ⟨G, 0, _, rfl, by rw [Nat.zero_add]; exact hc.1, by rw [Nat.zero_add]; exact hc.2, b.rd⟩
/-- What the region holds while it draws. -/
structure Rs (w W : World) (a b : Addr) (u v : Value) : Prop where
  gb : Gb w W
  ca : W.cell? a = some u
  cb : W.cell? b = some v
  la : a.block < w.heap.size
  lb : b.block < w.heap.size
theorem Rs.gr {w W W' : World} {a b : Addr} {u v : Value} (h : Rs w W a b u v) (g : Gb W W') : Rs w W' a b u v := ⟨gb_trans h.gb g, gb_keeps g h.ca, gb_keeps g h.cb, h.la, h.lb⟩
theorem Rs.set {w W : World} {a b : Addr} {u v : Value} {B : Nat} (h : Rs w W a b u v) (hB : w.heap.size ≤ B) (o1 o2 : Nat) (x y : Value) : Rs w ((W.setCell ⟨B, o1, none⟩ x).setCell ⟨B, o2, none⟩ y) a b u v := by
  have ha := h.la
  have hb := h.lb
  exact ⟨two_gb h.gb hB _ _ _ _, (World.cell?_of_block (two_far (by omega) _ _ _ _)).trans h.ca, (World.cell?_of_block (two_far (by omega) _ _ _ _)).trans h.cb, h.la, h.lb⟩
end Go.Proofs.YtepjbdklljlecabGreat

/- theodolitekeep.Back; theodoliteref03.Dist; VecDists: the walk. -/
namespace Go.Proofs.YtepjbdklljlecabGreat
open Go.RowKit Go.Sort Go.Maps

end Go.Proofs.YtepjbdklljlecabGreat

/- theodolitekeep.BackRows: rows that were lent are as they were. -/
namespace Go.Proofs.YtepjbdklljlecabGreat
open Go.RowKit Go.Sort Go.Maps

/-- Nothing has turned but in the blocks from B on below T. -/
structure Mid (B T : Nat) (w W : World) : Prop where
  os : W.os = w.os
  tape : W.tape = w.tape
  output : W.output = w.output
  size : w.heap.size ≤ W.heap.size
  block : ∀ k, k < w.heap.size → (k < B ∨ T ≤ k) → W.heap[k]? = w.heap[k]?
theorem Mid.refl (B T : Nat) (w : World) : Mid B T w w := ⟨rfl, rfl, rfl, Nat.le_refl _, fun _ _ _ => rfl⟩
theorem Mid.gb {B T : Nat} {w0 w W : World} (h : Mid B T w W) (g : Gb w0 w) (hB : w0.heap.size ≤ B) : Gb w0 W := by
  have hs := g.size
  exact ⟨h.os.trans g.os, h.tape.trans g.tape, h.output.trans g.output, Nat.le_trans g.size h.size, fun k hk => (h.block k (by omega) (.inl (by omega))).trans (g.block k hk)⟩
theorem Mid.drew {B T : Nat} {w W : World} (h : Mid B T w W) : Mid B T w W.drew := ⟨h.os, h.tape, h.output, h.size, h.block⟩
theorem Mid.grown {B T g : Nat} {w W W' : World} (h : Mid B T w W) (k : W.grownBy W' (some g)) (h1 : B ≤ g) (h2 : g < T) : Mid B T w W' :=
  ⟨k.os.trans h.os, k.tape.trans h.tape, k.output.trans h.output, Nat.le_trans h.size k.size, fun j hj hb => (k.block j (Nat.lt_of_lt_of_le hj h.size) (by simp; omega)).trans (h.block j hj hb)⟩
theorem Mid.set {B T g : Nat} {w W : World} (h : Mid B T w W) (h1 : B ≤ g) (h2 : g < T) (o1 o2 : Nat) (x y : Value) : Mid B T w ((W.setCell ⟨g, o1, none⟩ x).setCell ⟨g, o2, none⟩ y) :=
  ⟨h.os, h.tape, h.output, by simpa [World.setCell] using h.size, fun j hj hb => (two_far (by omega) _ _ _ _).trans (h.block j hj hb)⟩
/-- Rows that were lent, in blocks from B on below T. -/
structure LT (B T : Nat) (W : World) (G : Nat) (rs : List Rw) (f : Nat → Value × Value) (gs : Nat → Nat) : Prop where
  lo : B ≤ G
  hi : G < T
  arr : RA W G (rs.length + 1) f
  mark : f rs.length = (.int .i64 (-77), .slice none 0 0)
  row : ∀ i, i < rs.length → f i = (.int .i64 rs[i]!.1, .slice (some ⟨gs i, 0, none⟩) rs[i]!.2.length (rs[i]!.2.length + 1)) ∧ Lent W (G + 1) (gs i) rs[i]!.2 ∧ gs i < T ∧ ∀ j, j < i → gs j ≠ gs i
theorem LentR.lt {w W : World} {G : Nat} {rs : List Rw} (h : LentR w W G rs) : ∃ f gs, LT w.heap.size W.heap.size W G rs f gs := by
  obtain ⟨f, h⟩ := h
  obtain ⟨gs, hl⟩ := h.lent
  exact ⟨f, gs, h.hG, h.arr.lt, h.arr, h.end', fun i hi => ⟨(hl i hi).1, (hl i hi).2.1, (hl i hi).2.1.lt, (hl i hi).2.2⟩⟩
theorem LT.keep {B T G : Nat} {W W' : World} {rs : List Rw} {f : Nat → Value × Value} {gs : Nat → Nat} (h : LT B T W G rs f gs) (e : ∀ k, B ≤ k → k < T → W'.heap[k]? = W.heap[k]?) : LT B T W' G rs f gs :=
  ⟨h.lo, h.hi, h.arr.block (e _ h.lo h.hi), h.mark, fun i hi => by
    obtain ⟨a, b, c, d⟩ := h.row i hi
    exact ⟨a, b.block (e _ (by have := b.1; have := h.lo; omega) c), c, d⟩⟩
/-- p rows are back. -/
structure Bk (B T : Nat) (w W : World) (G : Nat) (rs : List Rw) (f : Nat → Value × Value) (gs : Nat → Nat) (p : Nat) : Prop where
  mid : Mid B T w W
  arr : ∃ f', RA W G (rs.length + 1) f' ∧ ∀ i, p ≤ i → f' i = f i
  lent : ∀ i, p ≤ i → i < rs.length → Lent W (G + 1) (gs i) rs[i]!.2
theorem Bk.drew {B T G p : Nat} {w W : World} {rs : List Rw} {f : Nat → Value × Value} {gs : Nat → Nat} (h : Bk B T w W G rs f gs p) : Bk B T w W.drew G rs f gs p :=
  ⟨h.mid.drew, h.arr, h.lent⟩
/-- What the region holds while it draws: four cells. -/
structure Qs (W : World) (a b c d : Addr) (u v x y : Value) : Prop where
  ca : W.cell? a = some u
  cb : W.cell? b = some v
  cc : W.cell? c = some x
  cd : W.cell? d = some y
theorem Qs.grown {W W' : World} {a b c d : Addr} {u v x y : Value} {g : Nat} (h : Qs W a b c d u v x y) (k : W.grownBy W' (some g)) (ha : a.block ≠ g) (hb : b.block ≠ g) (hc : c.block ≠ g) (hd : d.block ≠ g) : Qs W' a b c d u v x y := by
  have far : ∀ {p : Addr} {q : Value}, p.block ≠ g → W.cell? p = some q → W'.cell? p = some q := fun {p q} hp hq =>
    (World.cell?_of_block (k.block _ (World.block_lt_of_cell? W _ hq) (by simp; omega))).trans hq
  exact ⟨far ha h.ca, far hb h.cb, far hc h.cc, far hd h.cd⟩
end Go.Proofs.YtepjbdklljlecabGreat
