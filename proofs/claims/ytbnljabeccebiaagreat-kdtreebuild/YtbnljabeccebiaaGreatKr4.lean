import Derived.Test.YtbnljabeccebiaaGreatKr3
import Derived.ProofKit
import Derived.Carry
import Derived.Deep.Slices
import Derived.Lib.SmallJoins
import Derived.SizedLaws
import Derived.BigRegion
import Derived.OneCell
/- What the rows' proofs share: arguments that came in, opened; the outcome. -/
namespace Go.Proofs.YtbnljabeccebiaaGreat
open Go.ChangeShapes Go.WideShapes Go.ChangeAt Go.RowKit Go.Joins Go.Deep

theorem Tryz.own : ownKnob Tryz.prog.godebug = none := by kernel_rfl
theorem Tryz.cells3 : Tryz.prog.cellsOf 3 = 1 := by kernel_rfl
theorem Tryz.cells41 : Tryz.prog.cellsOf 41 = 1 := by kernel_rfl
theorem Tryz.cells23 : Tryz.prog.cellsOf 23 = 1 := by kernel_rfl
theorem Tryz.cells43 : Tryz.prog.cellsOf 43 = 2 := by kernel_rfl

theorem below_trodAll {H : Type} {enc : TypeId × Value → H} {W W' : World} (g : Gb W W') : ∀ (ts : List TypeId) (vs : List Value) (ds : List (DataW H)) (p : List MemPlace),
    (∀ t ∈ ts, Tryz.prog.readableRec t = true ∧ t < Tryz.prog.types.size) → (∀ x ∈ p, x.block < W.heap.size) → DataW.TrodAll enc Tryz.prog W 0 (fun _ => true) true ts vs ds p →
    DataW.TrodAll enc Tryz.prog W' 0 (fun b => decide (b < W.heap.size)) true ts vs ds p
  | [], vs, ds, p, _, _, h => by
    obtain ⟨rfl, rfl, rfl⟩ := trodAll_nil h
    rfl
  | t :: ts, vs, ds, p, hr, hl, h => by
    obtain ⟨v, vs1, d, ds1, a, b, rfl, rfl, rfl, h1, h2⟩ := trodAll_cons h
    exact ⟨a, b, Below.trod (by kernel_rfl) (hr t List.mem_cons_self).1 (hr t List.mem_cons_self).2 h1 g (fun x hx => hl x (List.mem_append_left _ hx)),
      below_trodAll g ts vs1 ds1 b (fun t' ht' => hr t' (List.mem_cons_of_mem _ ht')) (fun x hx => hl x (List.mem_append_right _ hx)) h2, rfl⟩

/-- The outcome of a law: true, and the arguments read as they did. -/
theorem law_post {H : Type} {enc : TypeId × Value → H} {s : ChangeSpec} {f : Func} {W W' : World} {args : Array Value} {ds gs : List (DataW H)} {before : List MemPlace}
    (hW : DataW.Whole enc Tryz.prog f.params.toList s.vars false W args.toList ds gs before) (hv : s.vars = []) (hr : f.resultTypes = #[4])
    (hf : s.fn H (ds ++ gs) = { results := [.lit (.bool true)], args := ds }) (hread : ∀ t ∈ f.params.toList, Tryz.prog.readableRec t = true ∧ t < Tryz.prog.types.size) (g : Gb W W') :
    s.post enc Tryz.prog f false true false false W args (.bool true) W' := by
  have hlt := hW.lt
  have hW2 := hW
  obtain ⟨p, q, hA, hV, rfl, _, _⟩ := hW2
  rw [hv] at hV
  obtain ⟨rfl, rfl⟩ := trodVars_none hV
  rw [List.append_nil] at hlt
  refine ⟨ds, [], p ++ [], [], p, [], hW, ?_, ?_, ?_, Below.frame g _, fun h => by cases h⟩
  · rw [hf, hr]
    exact trodAll_mk1 (shut_bool Tryz.underlying4 _)
  · rw [hf]
    exact below_trodAll g _ _ _ _ hread hlt hA
  · rw [hf, hv]
    exact rfl
theorem spot_none {w : World} {a : Addr} {v : Value} (h : w.cell? a = some v) : a = ⟨a.block, a.off, none⟩ := by
  obtain ⟨b, o, s⟩ := a
  cases s with
  | none => rfl
  | some s =>
    simp only [World.cell?] at h
    split at h <;> simp at h
/-- A list of numbers, read. -/
theorem trod22 {H : Type} {enc : TypeId × Value → H} {W : World} {base fuel : Nat} {hd : Bool} {cs : List Value} {x : DataW H × List MemPlace}
    (h : DataW.trod enc Tryz.prog W base (fun _ => true) hd fuel 41 cs = some x) : ∃ v l, cs = [v] ∧ RdI W v l ∧ l.length ≤ maxLen := by
  rcases open_slice1 Tryz.underlying41 Tryz.cells3 h with ⟨rfl, _⟩ | ⟨a, len, cap, m, n, V, D, Pl, rfl, _, hlc, hcm, hm, _, hx⟩
  · exact ⟨_, [], rfl, rdi_nil _, Nat.zero_le _⟩
  · rw [if_pos rfl] at hm
    subst hm
    have hy : ∀ i, i < len → ∃ y : Int, W.cell? (a.add i) = some (.int .i64 y) := by
      intro i hi
      obtain ⟨hc, ht⟩ := hx i (by omega)
      obtain ⟨y, e, _⟩ := DataW.trod_int Tryz.underlying3 ht
      simp at e
      exact ⟨y, by rw [hc, e]⟩
    obtain ⟨Y, hY⟩ := choose_lt (α := Int) (p := fun i y => W.cell? (a.add i) = some (.int .i64 y)) hy
    refine ⟨_, (List.range len).map Y, rfl, ⟨some a, m, by simp, fun i hi => ?_⟩, by simp; omega⟩
    have hi' : i < len := by simpa using hi
    have ha : a = ⟨a.block, a.off, none⟩ := spot_none (by simpa [Addr.add] using hY 0 (by omega))
    refine ⟨a.block, a.off, by rw [← ha], ?_⟩
    have e : ((List.range len).map Y)[i]! = Y i := by rw [getElem!_pos _ i hi]; simp
    rw [e]
    have := hY i hi'
    rwa [ha, Addr.add_lit] at this
end Go.Proofs.YtbnljabeccebiaaGreat

/- Rows that came in, with the form's own reach: none is longer than its memory. -/
namespace Go.Proofs.YtbnljabeccebiaaGreat
open Go.ChangeShapes Go.WideShapes Go.ChangeAt Go.RowKit Go.Joins Go.Deep

theorem Tryz.bytesI : Tryz.prog.bytesOf 3 = 8 := by kernel_rfl
theorem Tryz.bytesR : Tryz.prog.bytesOf 43 = 32 := by kernel_rfl
theorem weights_in {H : Type} {e : TypeId} {d : DataW H} : ∀ {l : List (DataW H)}, d ∈ l → ∀ n ∈ d.weights Tryz.prog e, n ∈ DataW.weightsAll Tryz.prog e l
  | x :: r, h, n, hn => by
    simp only [DataW.weightsAll, List.mem_append]
    cases List.mem_cons.1 h with
    | inl h => subst h; exact .inl hn
    | inr h => exact .inr (weights_in h n hn)
theorem trodI_sz {H : Type} {enc : TypeId × Value → H} {W : World} {base fuel : Nat} {hd : Bool} {v : Value} {l : List Int} {x : DataW H × List MemPlace}
    (h : DataW.trod enc Tryz.prog W base (fun _ => true) hd fuel 41 [v] = some x) (hr : RdI W v l) (hw : ∀ n ∈ x.1.weights Tryz.prog 41, n ≤ reachBytes) : l.length ≤ reachBytes := by
  rcases open_slice Tryz.underlying41 h with ⟨e, _⟩ | ⟨a, len, cap, m, n, D, Pl, e, _, hlc, hcm, _, rfl, _⟩
  · cases e
    obtain ⟨_, _, e, _⟩ := hr
    injection e with _ e2 _
    omega
  · cases e
    have h1 := hw ((((List.range len).map D).length + ((List.range (m - len)).map fun j => D (len + j)).length) * Tryz.prog.bytesOf 3) (by simp [DataW.weights, Tryz.underlying41])
    rw [Tryz.bytesI] at h1
    simp only [List.length_map, List.length_range] at h1
    obtain ⟨_, _, e, _⟩ := hr
    injection e with _ e2 _
    omega
set_option maxRecDepth 100000 in
theorem open_rows_sz {H : Type} {enc : TypeId × Value → H} {W : World} {b0 : Nat} {r : Reach} {v : Value} {d : DataW H} {p : List MemPlace}
    (hv' : Value.okWide Tryz.prog W r b0 22 v) (h : DataW.Trod enc Tryz.prog W 0 (fun _ => true) true 22 v d p) (hw : ∀ n ∈ d.weights Tryz.prog 22, n ≤ reachBytes) :
    ∃ rs : List Rw, RdW W v rs ∧ rs.length ≤ reachBytes ∧ (∀ i, i < rs.length → (Lit.int .i64 rs[i]!.1).wf = true) ∧ (∀ i, i < rs.length → rs[i]!.2.length ≤ reachBytes) ∧ ∀ a n c, v = .slice a n c → n ≤ c := by
  obtain ⟨a0, len, cap, rfl⟩ := okWide_slice Tryz.underlying22 hv'
  obtain ⟨fuel, hf⟩ := h
  rcases open_slice Tryz.underlying22 (by simpa [Value.cells] using hf) with ⟨e, _⟩ | ⟨a, len, cap, m, n, D, Pl, e, _, hlc, hcm, hm, hD, hx⟩
  · cases e
    exact ⟨[], ⟨none, 0, rfl, fun i hi => absurd hi (Nat.not_lt_zero _)⟩, Nat.zero_le _, fun i hi => absurd hi (Nat.not_lt_zero _), fun i hi => absurd hi (Nat.not_lt_zero _), fun a n c e => by cases e; exact Nat.le_refl _⟩
  · cases e
    rw [if_pos rfl] at hm
    subst hm
    have hd : d = .slice ((List.range len).map D) ((List.range (m - len)).map fun j => D (len + j)) := congrArg Prod.fst hD
    subst hd
    have hw0 := hw ((((List.range len).map D).length + ((List.range (m - len)).map fun j => D (len + j)).length) * Tryz.prog.bytesOf 43) (by simp [DataW.weights, Tryz.underlying22])
    rw [Tryz.bytesR] at hw0
    simp only [List.length_map, List.length_range] at hw0
    have hy : ∀ i, i < len → ∃ y : Rw, (∃ u, W.cell? (a.add (i * 2)) = some (.int .i64 y.1) ∧ W.cell? ((a.add (i * 2)).add 1) = some u ∧ RdI W u y.2) ∧ (Lit.int .i64 y.1).wf = true ∧ y.2.length ≤ reachBytes := by
      intro i hi
      obtain ⟨cs, hc, ht⟩ := hx i (by omega)
      obtain ⟨z0, z1, k, hz, hl1, j0, j1⟩ := trod_struct2 Tryz.underlying43 ht
      rw [Tryz.cells43] at hl1 hc
      match cs, hl1 with
      | [c0, c1], _ =>
        obtain ⟨x, e5, _, wx⟩ := DataW.trod_int Tryz.underlying3 j0
        obtain ⟨u, l, e6, rl, ll⟩ := trod22 j1
        have j2 := j1
        rw [e6] at j2
        simp [Tryz.cells3, Tryz.cells41] at e5 e6
        subst e5 e6
        obtain ⟨_, _, hcc⟩ := World.cells?_some hc
        have q0 := hcc 0 (by omega)
        have q1 := hcc 1 (by omega)
        refine ⟨(x, l), ⟨_, by simpa [Addr.add] using q0, by simpa using q1, rl⟩, wx, trodI_sz j2 rl (fun n hn => hw n ?_)⟩
        have hz' : D i = .agg [z0.1, z1.1] := congrArg Prod.fst hz
        simp only [DataW.weights, Tryz.underlying22, List.mem_cons, List.mem_append]
        refine .inr (.inl (weights_in (d := D i) (List.mem_map.2 ⟨i, List.mem_range.2 hi, rfl⟩) n ?_))
        rw [hz']
        simp only [DataW.weights, Tryz.underlying43, List.map_cons, List.map_nil, DataW.weightsEach, List.mem_append]
        exact .inr (.inl hn)
    obtain ⟨Y, hY⟩ := choose_lt (α := Rw) (p := fun i y => (∃ u, W.cell? (a.add (i * 2)) = some (.int .i64 y.1) ∧ W.cell? ((a.add (i * 2)).add 1) = some u ∧ RdI W u y.2) ∧ (Lit.int .i64 y.1).wf = true ∧ y.2.length ≤ reachBytes) hy
    have hg : ∀ i, i < len → ((List.range len).map Y)[i]! = Y i := by
      intro i hi
      rw [getElem!_pos _ i (by simpa using hi)]; simp
    refine ⟨(List.range len).map Y, ⟨some a, m, by simp, fun i hi => ?_⟩, by simp; omega, fun i hi => ?_, fun i hi => ?_, fun a n c e => by cases e; exact hlc⟩
    · have hi' : i < len := by simpa using hi
      obtain ⟨⟨u0, q0, _⟩, _⟩ := hY 0 (by omega)
      have ha : a = ⟨a.block, a.off, none⟩ := spot_none (by simpa [Addr.add] using q0)
      obtain ⟨⟨u, q1, q2, q3⟩, _⟩ := hY i hi'
      rw [hg i hi']
      rw [ha, Addr.add_lit] at q1
      rw [ha, Addr.add_lit, Addr.add_lit] at q2
      exact ⟨a.block, a.off, u, by rw [← ha], q1, q2, q3⟩
    · have hi' : i < len := by simpa using hi
      rw [hg i hi']; exact (hY i hi').2.1
    · have hi' : i < len := by simpa using hi
      rw [hg i hi']; exact (hY i hi').2.2
end Go.Proofs.YtbnljabeccebiaaGreat

/- vec.Box. -/
namespace Go.Proofs.YtbnljabeccebiaaGreat
open Go.RowKit Go.Sort Go.Maps

/-- A list of n numbers, told by a function. -/
def tab (f : Nat → Int) (n : Nat) : List Int := (List.range n).map f
theorem tab_len (f : Nat → Int) (n : Nat) : (tab f n).length = n := by simp [tab]
theorem tab_get (f : Nat → Int) {n i : Nat} (h : i < n) : (tab f n)[i]! = f i := by
  rw [getElem!_pos _ i (by simpa [tab] using h)]; simp [tab]
theorem tab_ext {f g : Nat → Int} {n : Nat} (h : ∀ i, i < n → f i = g i) : tab f n = tab g n := by
  unfold tab
  exact List.map_congr_left (fun i hi => h i (List.mem_range.1 hi))
theorem tab_of (l : List Int) : l = tab (fun i => l[i]!) l.length := by
  apply List.ext_getElem (by simp [tab])
  intro i h1 h2
  simp [tab, h1]

theorem own_set {w : World} {B g cap n i : Nat} {f : Nat → Int} (h : Own w B (.slice (some ⟨g, 0, none⟩) n cap) (tab f n)) (hi : i < n) (x : Int) :
    Own (w.setCell ⟨g, i, none⟩ (.int .i64 x)) B (.slice (some ⟨g, 0, none⟩) n cap) (tab (fun t => if t = i then x else f t) n) := by
  unfold Own at *
  rw [tab_len] at *
  refine ⟨by simp [tab], ?_⟩
  rcases h.2 with ⟨e, _⟩ | ⟨g', cap', cur, e, hb, hh, h1, h2, h3, h4⟩
  · cases e
  · cases e
    have hgl : g < w.heap.size := (Array.getElem?_eq_some_iff.1 hh).1
    refine .inr ⟨g, cap, cur.setIfInBounds i (.int .i64 x), rfl, hb, ?_, h1, h2, by simpa using h3, ?_⟩
    · simp [World.setCell, Array.getElem?_modify, hh]
    · rw [Nat.mul_one] at *
      apply List.ext_getElem?
      intro t
      have h5 : (cur.toList.take n)[t]? = ((tab f n).map (Value.int .i64))[t]? := by rw [h4]
      by_cases ht : t < n
      · rw [List.getElem?_take_of_lt ht] at h5 ⊢
        have hts : t < cur.size := by omega
        by_cases e : t = i
        · subst e
          simp [tab, ht, hts]
        · have e' : i ≠ t := fun k => e k.symm
          simp [tab, ht, hts, e, e'] at h5 ⊢
          exact h5
      · rw [List.getElem?_take_eq_none (by omega), List.getElem?_eq_none (by simp [tab]; omega)]
theorem Own.at {w : World} {B g cap n i : Nat} {f : Nat → Int} (h : Own w B (.slice (some ⟨g, 0, none⟩) n cap) (tab f n)) (hi : i < n) : w.cell? ⟨g, i, none⟩ = some (.int .i64 (f i)) ∧ w.frozen? ⟨g, i, none⟩ = false := by
  constructor
  · have := World.ownsRow.cells h (g := g) rfl i (.int .i64 (f i)) (by simp [tab, hi])
    rwa [Addr.add_lit, Nat.zero_add] at this
  · have h' := h
    unfold Own at h'
    rw [tab_len] at h'
    rcases h'.2 with ⟨e, _⟩ | ⟨g', cap', cur, e, hb, hh, _⟩
    · cases e
    · cases e
      simp [World.frozen?, hh]

/-- The least, and the greatest, of x and the first k of f. -/
def mnN (f : Nat → Int) (x : Int) : Nat → Int
  | 0 => x
  | k + 1 => min (mnN f x k) (f k)
def mxN (f : Nat → Int) (x : Int) : Nat → Int
  | 0 => x
  | k + 1 => max (mxN f x k) (f k)
def loAt (rs : List Rw) (k i : Nat) : Int := mnN (fun j => rs[j]!.2[i]!) rs[0]!.2[i]! k
def hiAt (rs : List Rw) (k i : Nat) : Int := mxN (fun j => rs[j]!.2[i]!) rs[0]!.2[i]! k
def boxL (rs : List Rw) (n : Nat) : List Int := tab (loAt rs rs.length) n
def boxH (rs : List Rw) (n : Nat) : List Int := tab (hiAt rs rs.length) n
/-- What Box answers: its error; its region. -/
def boxE (rs : List Rw) (d : Int) : Int := if 1 ≤ d ∧ d ≤ 64 then (if rs.length = 0 then 1 else idsE rs d) else 30

theorem rowsTo_all {rs : List Rw} {d : Int} : ∀ {q : Nat}, rowsTo rs d q = 0 → ∀ i, i < q → rowE rs d i = 0
  | 0, _, i, hi => by omega
  | q + 1, h, i, hi => by
    rw [rowsTo] at h
    split at h
    · rename_i h1
      by_cases e : i = q
      · subst e; exact h
      · exact rowsTo_all h1 i (by omega)
    · rename_i h1; exact absurd h h1
theorem idsE_ok {rs : List Rw} {d : Int} (h : idsE rs d = 0) : rs.length ≤ 512 ∧ ∀ i, i < rs.length → chk rs[i]!.2 d = 0 ∧ okId rs[i]!.1 = true ∧ ((idsOf rs).take i).contains rs[i]!.1 = false := by
  unfold idsE at h; split at h
  · rename_i h1
    refine ⟨h1, fun i hi => ?_⟩
    have h2 := rowsTo_all h i hi
    unfold rowE at h2
    split at h2
    · rename_i h3; exact ⟨h2, h3.2, h3.1⟩
    · cases h2
  · cases h

/-- The two lists of the box while it is made: w the world as the loops begin. -/
structure BxSt (w W : World) (g1 g2 c1 c2 n : Nat) (f h : Nat → Int) : Prop where
  low : Own W w.heap.size (.slice (some ⟨g1, 0, none⟩) n c1) (tab f n)
  high : Own W w.heap.size (.slice (some ⟨g2, 0, none⟩) n c2) (tab h n)
  ne : g1 ≠ g2
  b1 : w.heap.size ≤ g1
  b2 : w.heap.size ≤ g2
  gb : Gb w W
theorem BxSt.alloc {w W : World} {g1 g2 c1 c2 n : Nat} {f h : Nat → Int} (s : BxSt w W g1 g2 c1 c2 n f h) (o : Obj) : BxSt w (W.alloc o) g1 g2 c1 c2 n f h :=
  ⟨World.ownsRow.alloc s.low o, World.ownsRow.alloc s.high o, s.ne, s.b1, s.b2, gb_alloc s.gb o⟩
theorem BxSt.drew {w W : World} {g1 g2 c1 c2 n : Nat} {f h : Nat → Int} (s : BxSt w W g1 g2 c1 c2 n f h) : BxSt w W.drew g1 g2 c1 c2 n f h :=
  ⟨s.low, s.high, s.ne, s.b1, s.b2, s.gb.drew⟩
theorem BxSt.set {w W : World} {g1 g2 c1 c2 n i : Nat} {f h : Nat → Int} (s : BxSt w W g1 g2 c1 c2 n f h) (hi : i < n) (x y : Int) :
    BxSt w ((W.setCell ⟨g1, i, none⟩ (.int .i64 x)).setCell ⟨g2, i, none⟩ (.int .i64 y)) g1 g2 c1 c2 n (fun t => if t = i then x else f t) (fun t => if t = i then y else h t) := by
  have a1 := own_set s.low hi x
  have a2 : Own (W.setCell ⟨g1, i, none⟩ (.int .i64 x)) w.heap.size (.slice (some ⟨g2, 0, none⟩) n c2) (tab h n) := ownsRow_setCell_other s.high (by simp [Value.ownBlock]; exact fun e => s.ne e.symm) _
  exact ⟨ownsRow_setCell_other a1 (by simp [Value.ownBlock]; exact s.ne) _, own_set a2 hi y, s.ne, s.b1, s.b2, gb_set (gb_set s.gb s.b1 _) s.b2 _⟩

theorem own_form {w : World} {B : Nat} {v : Value} {l : List Int} (h : Own w B v l) (h0 : 1 ≤ l.length) : ∃ g cap, v = .slice (some ⟨g, 0, none⟩) l.length cap ∧ B ≤ g ∧ g < w.heap.size := by
  rcases h.2 with ⟨_, e⟩ | ⟨g, cap, cur, e, hb, hh, _⟩
  · omega
  · exact ⟨g, cap, e, hb, (Array.getElem?_eq_some_iff.1 hh).1⟩
theorem gb_froz {a b : World} (h : Gb a b) {p : Addr} {v : Value} (hc : a.cell? p = some v) : b.frozen? p = a.frozen? p :=
  World.frozen?_of_block (h.block p.block (World.block_lt_of_cell? a p hc))
abbrev z36 : Obj := .cells #[.int .i64 0, .slice none 0 0, .slice none 0 0, .int .u64 0, .int .u64 0, .slice none 0 0] 101
/-- A variable for a region, new, behind calls. -/
theorem reg0 {w W : World} (g : Gb (w.alloc z36) W) : (W.cell? ⟨w.heap.size, 0, none⟩ = some (.int .i64 0) ∧ W.cell? ⟨w.heap.size, 1, none⟩ = some (.slice none 0 0) ∧ W.cell? ⟨w.heap.size, 2, none⟩ = some (.slice none 0 0) ∧ W.cell? ⟨w.heap.size, 3, none⟩ = some (.int .u64 0) ∧ W.cell? ⟨w.heap.size, 4, none⟩ = some (.int .u64 0) ∧ W.cell? ⟨w.heap.size, 5, none⟩ = some (.slice none 0 0)) ∧
    (∀ i, i < 6 → W.frozen? ⟨w.heap.size, i, none⟩ = false) := by
  have c0 : (w.alloc z36).cell? ⟨w.heap.size, 0, none⟩ = some (.int .i64 0) := by simp [go_sem]
  have c1 : (w.alloc z36).cell? ⟨w.heap.size, 1, none⟩ = some (.slice none 0 0) := by simp [go_sem]
  have c2 : (w.alloc z36).cell? ⟨w.heap.size, 2, none⟩ = some (.slice none 0 0) := by simp [go_sem]
  have c3 : (w.alloc z36).cell? ⟨w.heap.size, 3, none⟩ = some (.int .u64 0) := by simp [go_sem]
  have c4 : (w.alloc z36).cell? ⟨w.heap.size, 4, none⟩ = some (.int .u64 0) := by simp [go_sem]
  have c5 : (w.alloc z36).cell? ⟨w.heap.size, 5, none⟩ = some (.slice none 0 0) := by simp [go_sem]
  refine ⟨⟨gb_keeps g c0, gb_keeps g c1, gb_keeps g c2, gb_keeps g c3, gb_keeps g c4, gb_keeps g c5⟩, fun i hi => ?_⟩
  have : i = 0 ∨ i = 1 ∨ i = 2 ∨ i = 3 ∨ i = 4 ∨ i = 5 := by omega
  rcases this with rfl | rfl | rfl | rfl | rfl | rfl
  · rw [gb_froz g c0]; simp [go_sem]
  · rw [gb_froz g c1]; simp [go_sem]
  · rw [gb_froz g c2]; simp [go_sem]
  · rw [gb_froz g c3]; simp [go_sem]
  · rw [gb_froz g c4]; simp [go_sem]
  · rw [gb_froz g c5]; simp [go_sem]
/-- The box of some rows, or nothing beside an error. -/
def boxR (rs : List Rw) (d : Int) : Reg := if boxE rs d = 0 then ⟨2, boxL rs d.toNat, boxH rs d.toNat, 0, srt (idsOf rs)⟩ else ⟨0, [], [], 0, []⟩
/-- A region that came out: its lists in memory of their own. -/
def OutR (w w' : World) (r : Reg) (vl vh vi : Value) : Prop := Gb w w' ∧ Own w' w.heap.size vl r.L ∧ Own w' w.heap.size vh r.H ∧ Own w' w.heap.size vi r.I ∧ ∀ g, vl.ownBlock = some g → vh.ownBlock ≠ some g ∧ vi.ownBlock ≠ some g
theorem outR_nil {w w' : World} (g : Gb w w') : OutR w w' ⟨0, [], [], 0, []⟩ (.slice none 0 0) (.slice none 0 0) (.slice none 0 0) :=
  ⟨g, own_nil _ _, own_nil _ _, own_nil _ _, fun g e => by simp [Value.ownBlock] at e⟩

set_option maxHeartbeats 4000000 in
set_option maxRecDepth 100000 in
theorem box_no {w : World} {v : Value} {rs : List Rw} (h : RdW w v rs) (d : Int) (hlen : rs.length ≤ 4611686018427387904) (hwf : ∀ i, i < rs.length → (Lit.int .i64 rs[i]!.1).wf = true) (hne : boxE rs d ≠ 0) :
    Calls Tryz.prog 89 #[v, .int .i64 d] w fun e w' => ∃ vl vh vi, e = .returned (.tuple #[rv (boxR rs d) vl vh vi, .int .i64 (boxE rs d)]) ∧ OutR w w' (boxR rs d) vl vh vi := by
  have ER : boxR rs d = ⟨0, [], [], 0, []⟩ := by unfold boxR; rw [if_neg hne]
  rw [ER]
  have E : Hid (boxE rs d = if 1 ≤ d ∧ d ≤ 64 then (if rs.length = 0 then 1 else idsE rs d) else 30) := rfl
  have G0 : Gb w (w.alloc z36) := gb_alloc (Below.refl _ _) _
  have C50 := idsOf_c (h.gb G0) d hlen hwf
  obtain ⟨a, cap, rfl, _⟩ := h
  generalize boxE rs d = be at *
  clear ER
  by_cases hd : (decide (1 ≤ d) && decide (d ≤ 64)) = true
  · have c34 := fun W => isDim_v d true hd W
    rw [if_pos (by simpa using hd)] at E
    by_cases h0 : rs.length = 0
    · rw [if_pos h0] at E
      have e := E.out
      subst e
      rw [h0]
      clear hd C50 E h0 hwf hlen hne
      go_enter Tryz.func89, Tryz.ntmps89
      go_wp2_with (go_at_call 65; refine (c34 _).mono ?_; rintro e w' ⟨rfl, e2⟩; subst e2)
      exact bodyPost_ret (v := .tuple #[.agg #[.int .i64 0, .slice none 0 0, .slice none 0 0, .int .u64 0, .int .u64 0, .slice none 0 0], .int .i64 1]) (by simp [results, Tryz.results89, go_sem]) rfl ⟨.slice none 0 0, .slice none 0 0, .slice none 0 0, rfl, outR_nil G0⟩
    · rw [if_neg h0] at E
      have e := E.out
      rw [← e] at C50
      have h0' : ((rs.length : Int) == 0) = false := by rw [beq_eq_false_iff_ne]; omega
      have hne' : (be == 0) = false := by rw [beq_eq_false_iff_ne]; exact hne
      have HNE : Hid (be ≠ 0) := hne
      generalize rs.length = n at *
      clear hd E h0 hwf hlen hne e
      go_enter Tryz.func89, Tryz.ntmps89
      go_wp2_with fail
      refine (c34 _).mono ?_
      rintro e w' ⟨rfl, e2⟩
      subst e2
      go_wp2_with fail
      refine C50.mono ?_
      rintro e w1 ⟨v', rfl, g1, _, k2⟩
      have e2 := k2 HNE.out
      subst e2
      clear k2
      obtain ⟨⟨q0, q1, q2, q3, q4, q5⟩, qf⟩ := reg0 g1
      have f0 := qf 0 (by omega)
      have f1 := qf 1 (by omega)
      have f2 := qf 2 (by omega)
      have f3 := qf 3 (by omega)
      have f4 := qf 4 (by omega)
      have f5 := qf 5 (by omega)
      clear qf
      have hB : w.heap.size ≤ w.heap.size := Nat.le_refl _
      have GG := gb_trans G0 g1
      go_wp2
      exact bodyPost_ret (v := .tuple #[.agg #[.int .i64 0, .slice none 0 0, .slice none 0 0, .int .u64 0, .int .u64 0, .slice none 0 0], .int .i64 be]) (by simp [results, Tryz.results89, go_sem, q0, q1, q2, q3, q4, q5]) rfl ⟨.slice none 0 0, .slice none 0 0, .slice none 0 0, rfl, outR_nil (gb_set (gb_set (gb_set (gb_set (gb_set (gb_set GG hB _) hB _) hB _) hB _) hB _) hB _)⟩
  · have c34 := fun W => isDim_v d false (by simpa using hd) W
    rw [if_neg (by simpa using hd)] at E
    have e := E.out
    subst e
    generalize rs.length = n at *
    clear hd C50 E hwf hlen hne
    go_enter Tryz.func89, Tryz.ntmps89
    go_wp2_with (go_at_call 65; refine (c34 _).mono ?_; rintro e w' ⟨rfl, e2⟩; subst e2)
    exact bodyPost_ret (v := .tuple #[.agg #[.int .i64 0, .slice none 0 0, .slice none 0 0, .int .u64 0, .int .u64 0, .slice none 0 0], .int .i64 30]) (by simp [results, Tryz.results89, go_sem]) rfl ⟨.slice none 0 0, .slice none 0 0, .slice none 0 0, rfl, outR_nil G0⟩
end Go.Proofs.YtbnljabeccebiaaGreat
