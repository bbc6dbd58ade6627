/- Rows of numbers of the call's own; rising. -/
import Derived.Test.YtblfmhdcgmkpgaaRnGrown
import Derived.Deep.OwnRows
import Derived.Deep.RegionHeld3
namespace Go.Proofs.Ytblfmhdcgmkpgaa.Rn
open Go.RowKit Go.Shelf

/-- Block g holds, at its head, f 0 .. f (n - 1). -/
def Arr (w : World) (g n cap : Nat) (f : Nat → Int) : Prop :=
  ∃ cur : Array Value, w.heap[g]? = some (.cells cur 3 (0, 0)) ∧ cap ≤ cur.size ∧ n ≤ cap ∧ ∀ i, i < n → cur[i]? = some (.int .i64 (f i))
theorem Arr.lt {w : World} {g n cap : Nat} {f : Nat → Int} (h : Arr w g n cap f) : g < w.heap.size := by
  obtain ⟨cur, h1, _⟩ := h; exact (Array.getElem?_eq_some_iff.1 h1).1
theorem Arr.cell {w : World} {g n cap : Nat} {f : Nat → Int} (h : Arr w g n cap f) {i : Nat} (hi : i < n) : w.cell? ⟨g, i, none⟩ = some (.int .i64 (f i)) := by
  obtain ⟨cur, h1, _, _, h4⟩ := h
  simp [World.cell?, h1, h4 i hi]
theorem Arr.frozen {w : World} {g n cap : Nat} {f : Nat → Int} (h : Arr w g n cap f) (i : Nat) : w.frozen? ⟨g, i, none⟩ = false := by
  obtain ⟨cur, h1, _⟩ := h
  simp [World.frozen?, h1]
theorem Arr.kept {w w' : World} {g n cap : Nat} {f : Nat → Int} {r : Option Nat} (h : Arr w g n cap f) (hg : w.grownBy w' r) (hn : some g ≠ r) : Arr w' g n cap f := by
  have hl := h.lt
  obtain ⟨cur, h1, h2⟩ := h
  exact ⟨cur, (hg.block g hl hn).trans h1, h2⟩
theorem Arr.alloc {w : World} {g n cap : Nat} {f : Nat → Int} (h : Arr w g n cap f) (o : Obj) : Arr (w.alloc o) g n cap f :=
  h.kept (World.grownBy_alloc w o none) (by simp)
theorem Arr.set {w : World} {g n cap : Nat} {f : Nat → Int} (h : Arr w g n cap f) {i : Nat} (hi : i < n) (x : Int) :
    Arr (w.setCell ⟨g, i, none⟩ (.int .i64 x)) g n cap (fun t => if t = i then x else f t) := by
  obtain ⟨cur, h1, h2, h3, h4⟩ := h
  refine ⟨cur.setIfInBounds i (.int .i64 x), ?_, by simpa using h2, h3, fun t ht => ?_⟩
  · simp [World.setCell, Array.getElem?_modify, h1]
  · by_cases e : t = i
    · subst e; simp [Array.getElem?_setIfInBounds]; omega
    · rw [Array.getElem?_setIfInBounds_ne (Ne.symm e), h4 t ht]; simp only [if_neg e]
theorem Arr.other {w : World} {g n cap : Nat} {f : Nat → Int} (h : Arr w g n cap f) {p : Addr} (hp : p.block ≠ g) (u : Value) : Arr (w.setCell p u) g n cap f := by
  obtain ⟨cur, h1, h2⟩ := h
  exact ⟨cur, (Below.heap_setCell w p u g (Ne.symm hp)).trans h1, h2⟩
theorem Arr.put {w : World} {g n cap : Nat} {f : Nat → Int} {D : Nat} {o : Obj} (h : Arr w g n cap f) (hD : w.heap[D]? = some o) (ho : o.isCells = false) (o' : Obj) : Arr (w.putObj D o') g n cap f := by
  obtain ⟨cur, h1, h2⟩ := h
  refine ⟨cur, (World.putObj_heap_other (fun e => ?_)).trans h1, h2⟩
  subst e; rw [h1] at hD; cases hD; cases ho
theorem Arr.congr {w : World} {g n cap : Nat} {f f' : Nat → Int} (h : Arr w g n cap f) (e : ∀ i, i < n → f i = f' i) : Arr w g n cap f' := by
  obtain ⟨cur, h1, h2, h3, h4⟩ := h
  exact ⟨cur, h1, h2, h3, fun i hi => by rw [h4 i hi, e i hi]⟩
theorem ownFrom_arr {B g n cap : Nat} {f : Nat → Nat → Int} : OwnFrom B (fun (k : Nat) W => Arr W g n cap (f k)) :=
  fun k A C row hs hg hr => hs.kept hg (fun e => by
    obtain ⟨_, o, ho, hc⟩ := hr g e.symm
    obtain ⟨cur, h1, _⟩ := hs
    rw [h1] at ho; cases ho; cases hc)
theorem arr_made (w : World) (n : Nat) : Arr (w.alloc (.cells (madeCells #[Value.int .i64 0] n) 3)) w.heap.size n n (fun _ => 0) := by
  refine ⟨_, World.alloc_heap_new w _, by rw [size_madeCells]; exact Nat.le_refl _, Nat.le_refl _, fun i hi => ?_⟩
  simp [madeCells, hi, Nat.mod_one]

theorem Try.info3' : (Try.prog.info? 3).map (fun i => (i.zero, i.size, i.bytes)) = some (some (.int .i64 0), 1, 8) := by kernel_rfl
set_option maxHeartbeats 1000000 in
theorem rising_c (n : Nat) (w : World) (hn : n ≤ 65536) :
    Calls Try.prog 83 #[.int .i64 n] w fun e w' => e = .returned (.slice (some ⟨w.heap.size, 0, none⟩) n n) ∧ Arr w' w.heap.size n n (fun t => (t : Int)) ∧ w.grownBy w' none := by
  have hmk := run_make_row' (P := Try.prog) 40 3 (.int .i64 0) 8 Try.underlying40 Try.info3' rfl .i64 .i64 n (by omega) (by omega) w
  have A0 := arr_made w n
  have G0 : w.grownBy (w.alloc (.cells (madeCells #[Value.int .i64 0] n) 3)) none := grownBy_al (grownBy_refl _ _) _
  generalize w.alloc (.cells (madeCells #[Value.int .i64 0] n) 3) = V at *
  go_enter Try.func83, Try.ntmps83
  go_wp2
  clear hmk
  go_loopw [4, 9] (fun _ v wr => ∃ k : Nat, v = .int .i64 k ∧ k ≤ n ∧ Arr wr w.heap.size n n (fun t => if t < k then (t : Int) else 0) ∧ w.grownBy wr none) (fun _ v _ => n - (intOf v).toNat)
  case atStart => exact ⟨0, rfl, Nat.zero_le _, by simpa using A0, G0⟩
  case round =>
    clear A0 G0
    obtain ⟨k, rfl, hk, A, G⟩ := hrel
    by_cases hlt : k < n
    · have hlt' : (k : Int) < n := by omega
      have c1 := A.cell hlt
      have f1 := A.frozen k
      go_wp2
      go_roundw
      case rel =>
        refine ⟨k + 1, by simp, by omega, (A.set hlt (k : Int)).congr (fun i hi => ?_), grownBy_new G (Nat.le_refl _) _⟩
        by_cases e : i = k
        · subst e; simp
        · simp only [if_neg e]; by_cases e2 : i < k
          · rw [if_pos e2, if_pos (by omega)]
          · rw [if_neg e2, if_neg (by omega)]
      case measure => simp [intOf]; omega
    · obtain rfl : k = n := by omega
      go_wp2
      go_ret
      exact ⟨rfl, A.congr (fun i hi => by rw [if_pos hi]), G⟩

/-- Two places change. -/
def swp (f : Nat → Int) (i j : Nat) : Nat → Int := fun t => if t = j then f i else if t = i then f j else f t
/-- P4.4: the row behind k draws. -/
def pS (x : Int) (n : Nat) : Nat → Nat → Int
  | 0 => fun t => (t : Int)
  | k + 1 => swp (pS x n k) (n - 1 - k) (mx (stN x (k + 1)) % ((n - 1 - k : Nat) + 1)).toNat

/-- A region that draws, in a round. -/
theorem any_round {l n : Nat} {P : Program} {ops : Array Oper} {Q : Exit → Act → World → Prop} {md : Region.Mode} (hnd : ∀ (i : Nat) (o : Oper), ops[i]? = some o → ∀ c, o.op ≠ .defer c) (hQ : ¬ LetsOut Q) :
    ∀ (fuel : Nat) (listed : Array Bool) (a : Act) (w : World), wpAny P md ops Q fuel listed a w → wpAnyIn (Fence.wide.inRound l) n P md ops Q fuel listed a w
  | 0, _, _, _, h => h
  | fuel + 1, listed, a, w, h => by
    refine ⟨h.1, fun i hi => ?_⟩
    have := h.2 i hi
    unfold wpOp at this
    unfold wpOpIn
    cases ho : ops[i]? with
    | none => simp only [ho] at this ⊢; exact any_round hnd hQ fuel _ _ _ this
    | some o =>
      simp only [ho] at this ⊢
      by_cases hw : Region.wanted o (yielded ops a.tmps) = true
      · simp only [hw, if_true] at this ⊢
        rcases this with this | this
        · refine ⟨fun _ _ => trivial, ?_⟩
          unfold Oper.wp at this
          rw [Oper.semAt_plain _ _ _ (hnd i o ho)]
          generalize (execOp a.eval o).run P w = r at *
          cases r with
          | ok x w' =>
            cases x <;> simp only [Oper.upon, Oper.uponIn] at this ⊢
            case value v => exact any_round hnd hQ fuel _ _ _ this
            case skip => exact any_round hnd hQ fuel _ _ _ this
            case defer d => exact any_round hnd hQ fuel _ _ _ this
            case enter f args =>
              refine ⟨fun h => by simp [Fence.wide, Fence.inRound] at h, CallsIn.inRound l (callsIn_wide.2 (Calls.mono this fun e w'' he => ?_))⟩
              cases e with
              | returned u => exact any_round hnd hQ fuel _ _ _ he
              | panicked c => exact he
              | outgrown => exact he
            case row row args =>
              exact ⟨fun h => by simp [Fence.wide, Fence.inRound] at h, fun c cs _ => let ⟨v, w', r, st⟩ := this c cs; ⟨v, w', any_round hnd hQ fuel _ _ _ r, stepsIn_wide.2 st⟩⟩
          | halt x w' => cases x <;> simp only [Oper.upon, Oper.uponIn] at this ⊢ <;> exact this
        · exact (hQ this.2).elim
      · simp only [hw] at this ⊢
        exact ⟨fun _ _ => trivial, any_round hnd hQ fuel _ _ _ this⟩

end Go.Proofs.Ytblfmhdcgmkpgaa.Rn
