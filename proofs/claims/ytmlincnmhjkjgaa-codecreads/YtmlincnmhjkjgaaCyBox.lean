/- vec.Box. -/
import Derived.Test.YtmlincnmhjkjgaaCyIds
import Derived.BigRegion
import Derived.OneCell
namespace Go.Proofs.Ytmlincnmhjkjgaa
open Go.RowKit Go.Sort Go.Maps

/-- A list of n numbers, told by a function. -/
def tab (f : Nat → Int) (n : Nat) : List Int := (List.range n).map f
theorem tab_len (f : Nat → Int) (n : Nat) : (tab f n).length = n := by simp [tab]
theorem tab_get (f : Nat → Int) {n i : Nat} (h : i < n) : (tab f n)[i]! = f i := by
  rw [getElem!_pos _ i (by simpa [tab] using h)]; simp [tab]
theorem tab_ext {f g : Nat → Int} {n : Nat} (h : ∀ i, i < n → f i = g i) : tab f n = tab g n := by
  unfold tab
  exact List.map_congr_left (fun i hi => h i (List.mem_range.1 hi))
theorem tab_of (l : List Int) : l = tab (fun i => l[i]!) l.length := by
  apply List.ext_getElem (by simp [tab])
  intro i h1 h2
  simp [tab, h1]

theorem own_set {w : World} {B g cap n i : Nat} {f : Nat → Int} (h : Own w B (.slice (some ⟨g, 0, none⟩) n cap) (tab f n)) (hi : i < n) (x : Int) :
    Own (w.setCell ⟨g, i, none⟩ (.int .i64 x)) B (.slice (some ⟨g, 0, none⟩) n cap) (tab (fun t => if t = i then x else f t) n) := by
  unfold Own at *
  rw [tab_len] at *
  refine ⟨by simp [tab], ?_⟩
  rcases h.2 with ⟨e, _⟩ | ⟨g', cap', cur, e, hb, hh, h1, h2, h3, h4⟩
  · cases e
  · cases e
    have hgl : g < w.heap.size := (Array.getElem?_eq_some_iff.1 hh).1
    refine .inr ⟨g, cap, cur.setIfInBounds i (.int .i64 x), rfl, hb, ?_, h1, h2, by simpa using h3, ?_⟩
    · simp [World.setCell, Array.getElem?_modify, hh]
    · rw [Nat.mul_one] at *
      apply List.ext_getElem?
      intro t
      have h5 : (cur.toList.take n)[t]? = ((tab f n).map (Value.int .i64))[t]? := by rw [h4]
      by_cases ht : t < n
      · rw [List.getElem?_take_of_lt ht] at h5 ⊢
        have hts : t < cur.size := by omega
        by_cases e : t = i
        · subst e
          simp [tab, ht, hts]
        · have e' : i ≠ t := fun k => e k.symm
          simp [tab, ht, hts, e, e'] at h5 ⊢
          exact h5
      · rw [List.getElem?_take_eq_none (by omega), List.getElem?_eq_none (by simp [tab]; omega)]
theorem Own.at {w : World} {B g cap n i : Nat} {f : Nat → Int} (h : Own w B (.slice (some ⟨g, 0, none⟩) n cap) (tab f n)) (hi : i < n) : w.cell? ⟨g, i, none⟩ = some (.int .i64 (f i)) ∧ w.frozen? ⟨g, i, none⟩ = false := by
  constructor
  · have := World.ownsRow.cells h (g := g) rfl i (.int .i64 (f i)) (by simp [tab, hi])
    rwa [Addr.add_lit, Nat.zero_add] at this
  · have h' := h
    unfold Own at h'
    rw [tab_len] at h'
    rcases h'.2 with ⟨e, _⟩ | ⟨g', cap', cur, e, hb, hh, _⟩
    · cases e
    · cases e
      simp [World.frozen?, hh]

/-- The least, and the greatest, of x and the first k of f. -/
def mnN (f : Nat → Int) (x : Int) : Nat → Int
  | 0 => x
  | k + 1 => min (mnN f x k) (f k)
def mxN (f : Nat → Int) (x : Int) : Nat → Int
  | 0 => x
  | k + 1 => max (mxN f x k) (f k)
def loAt (rs : List Rw) (k i : Nat) : Int := mnN (fun j => rs[j]!.2[i]!) rs[0]!.2[i]! k
def hiAt (rs : List Rw) (k i : Nat) : Int := mxN (fun j => rs[j]!.2[i]!) rs[0]!.2[i]! k
def boxL (rs : List Rw) (n : Nat) : List Int := tab (loAt rs rs.length) n
def boxH (rs : List Rw) (n : Nat) : List Int := tab (hiAt rs rs.length) n
/-- What Box answers: its error; its region. -/
def boxE (rs : List Rw) (d : Int) : Int := if 1 ≤ d ∧ d ≤ 64 then (if rs.length = 0 then 1 else idsE rs d) else 30

theorem rowsTo_all {rs : List Rw} {d : Int} : ∀ {q : Nat}, rowsTo rs d q = 0 → ∀ i, i < q → rowE rs d i = 0
  | 0, _, i, hi => by omega
  | q + 1, h, i, hi => by
    rw [rowsTo] at h
    split at h
    · rename_i h1
      by_cases e : i = q
      · subst e; exact h
      · exact rowsTo_all h1 i (by omega)
    · rename_i h1; exact absurd h h1
theorem idsE_ok {rs : List Rw} {d : Int} (h : idsE rs d = 0) : rs.length ≤ 512 ∧ ∀ i, i < rs.length → chk rs[i]!.2 d = 0 ∧ okId rs[i]!.1 = true ∧ ((idsOf rs).take i).contains rs[i]!.1 = false := by
  unfold idsE at h; split at h
  · rename_i h1
    refine ⟨h1, fun i hi => ?_⟩
    have h2 := rowsTo_all h i hi
    unfold rowE at h2
    split at h2
    · rename_i h3; exact ⟨h2, h3.2, h3.1⟩
    · cases h2
  · cases h

theorem pair_rd {w : World} {v : Value} {rs : List Rw} (h : RdW w v rs) {i : Nat} (hi : i < rs.length) : ∃ b o u, w.cell? ⟨b, o + i * 2 + 1, none⟩ = some u ∧ RdI w u rs[i]!.2 := by
  obtain ⟨a, cap, e, h⟩ := h
  obtain ⟨b, o, u, _, _, h1, h2⟩ := h i hi
  exact ⟨b, o, u, h1, h2⟩

/-- The two lists of the box while it is made: w the world as the loops begin. -/
structure BxSt (w W : World) (g1 g2 c1 c2 n : Nat) (f h : Nat → Int) : Prop where
  low : Own W w.heap.size (.slice (some ⟨g1, 0, none⟩) n c1) (tab f n)
  high : Own W w.heap.size (.slice (some ⟨g2, 0, none⟩) n c2) (tab h n)
  ne : g1 ≠ g2
  b1 : w.heap.size ≤ g1
  b2 : w.heap.size ≤ g2
  gb : Gb w W
theorem BxSt.alloc {w W : World} {g1 g2 c1 c2 n : Nat} {f h : Nat → Int} (s : BxSt w W g1 g2 c1 c2 n f h) (o : Obj) : BxSt w (W.alloc o) g1 g2 c1 c2 n f h :=
  ⟨World.ownsRow.alloc s.low o, World.ownsRow.alloc s.high o, s.ne, s.b1, s.b2, gb_alloc s.gb o⟩
theorem BxSt.drew {w W : World} {g1 g2 c1 c2 n : Nat} {f h : Nat → Int} (s : BxSt w W g1 g2 c1 c2 n f h) : BxSt w W.drew g1 g2 c1 c2 n f h :=
  ⟨s.low, s.high, s.ne, s.b1, s.b2, s.gb.drew⟩
theorem BxSt.set {w W : World} {g1 g2 c1 c2 n i : Nat} {f h : Nat → Int} (s : BxSt w W g1 g2 c1 c2 n f h) (hi : i < n) (x y : Int) :
    BxSt w ((W.setCell ⟨g1, i, none⟩ (.int .i64 x)).setCell ⟨g2, i, none⟩ (.int .i64 y)) g1 g2 c1 c2 n (fun t => if t = i then x else f t) (fun t => if t = i then y else h t) := by
  have a1 := own_set s.low hi x
  have a2 : Own (W.setCell ⟨g1, i, none⟩ (.int .i64 x)) w.heap.size (.slice (some ⟨g2, 0, none⟩) n c2) (tab h n) := ownsRow_setCell_other s.high (by simp [Value.ownBlock]; exact fun e => s.ne e.symm) _
  exact ⟨ownsRow_setCell_other a1 (by simp [Value.ownBlock]; exact s.ne) _, own_set a2 hi y, s.ne, s.b1, s.b2, gb_set (gb_set s.gb s.b1 _) s.b2 _⟩

theorem own_form {w : World} {B : Nat} {v : Value} {l : List Int} (h : Own w B v l) (h0 : 1 ≤ l.length) : ∃ g cap, v = .slice (some ⟨g, 0, none⟩) l.length cap ∧ B ≤ g ∧ g < w.heap.size := by
  rcases h.2 with ⟨_, e⟩ | ⟨g, cap, cur, e, hb, hh, _⟩
  · omega
  · exact ⟨g, cap, e, hb, (Array.getElem?_eq_some_iff.1 hh).1⟩
theorem gb_froz {a b : World} (h : Gb a b) {p : Addr} {v : Value} (hc : a.cell? p = some v) : b.frozen? p = a.frozen? p :=
  World.frozen?_of_block (h.block p.block (World.block_lt_of_cell? a p hc))
abbrev z36 : Obj := .cells #[.int .i64 0, .slice none 0 0, .slice none 0 0, .int .u64 0, .int .u64 0, .slice none 0 0] 71
/-- A variable for a region, new, behind calls. -/
theorem reg0 {w W : World} (g : Gb (w.alloc z36) W) : (W.cell? ⟨w.heap.size, 0, none⟩ = some (.int .i64 0) ∧ W.cell? ⟨w.heap.size, 1, none⟩ = some (.slice none 0 0) ∧ W.cell? ⟨w.heap.size, 2, none⟩ = some (.slice none 0 0) ∧ W.cell? ⟨w.heap.size, 3, none⟩ = some (.int .u64 0) ∧ W.cell? ⟨w.heap.size, 4, none⟩ = some (.int .u64 0) ∧ W.cell? ⟨w.heap.size, 5, none⟩ = some (.slice none 0 0)) ∧
    (∀ i, i < 6 → W.frozen? ⟨w.heap.size, i, none⟩ = false) := by
  have c0 : (w.alloc z36).cell? ⟨w.heap.size, 0, none⟩ = some (.int .i64 0) := by simp [go_sem]
  have c1 : (w.alloc z36).cell? ⟨w.heap.size, 1, none⟩ = some (.slice none 0 0) := by simp [go_sem]
  have c2 : (w.alloc z36).cell? ⟨w.heap.size, 2, none⟩ = some (.slice none 0 0) := by simp [go_sem]
  have c3 : (w.alloc z36).cell? ⟨w.heap.size, 3, none⟩ = some (.int .u64 0) := by simp [go_sem]
  have c4 : (w.alloc z36).cell? ⟨w.heap.size, 4, none⟩ = some (.int .u64 0) := by simp [go_sem]
  have c5 : (w.alloc z36).cell? ⟨w.heap.size, 5, none⟩ = some (.slice none 0 0) := by simp [go_sem]
  refine ⟨⟨gb_keeps g c0, gb_keeps g c1, gb_keeps g c2, gb_keeps g c3, gb_keeps g c4, gb_keeps g c5⟩, fun i hi => ?_⟩
  have : i = 0 ∨ i = 1 ∨ i = 2 ∨ i = 3 ∨ i = 4 ∨ i = 5 := by omega
  rcases this with rfl | rfl | rfl | rfl | rfl | rfl
  · rw [gb_froz g c0]; simp [go_sem]
  · rw [gb_froz g c1]; simp [go_sem]
  · rw [gb_froz g c2]; simp [go_sem]
  · rw [gb_froz g c3]; simp [go_sem]
  · rw [gb_froz g c4]; simp [go_sem]
  · rw [gb_froz g c5]; simp [go_sem]
/-- The box of some rows, or nothing beside an error. -/
def boxR (rs : List Rw) (d : Int) : Reg := if boxE rs d = 0 then ⟨2, boxL rs d.toNat, boxH rs d.toNat, 0, srt (idsOf rs)⟩ else ⟨0, [], [], 0, []⟩
/-- A region that came out: its lists in memory of their own. -/
def OutR (w w' : World) (r : Reg) (vl vh vi : Value) : Prop := Gb w w' ∧ Own w' w.heap.size vl r.L ∧ Own w' w.heap.size vh r.H ∧ Own w' w.heap.size vi r.I ∧ ∀ g, vl.ownBlock = some g → vh.ownBlock ≠ some g ∧ vi.ownBlock ≠ some g
theorem outR_nil {w w' : World} (g : Gb w w') : OutR w w' ⟨0, [], [], 0, []⟩ (.slice none 0 0) (.slice none 0 0) (.slice none 0 0) :=
  ⟨g, own_nil _ _, own_nil _ _, own_nil _ _, fun g e => by simp [Value.ownBlock] at e⟩

set_option maxHeartbeats 4000000 in
set_option maxRecDepth 100000 in
theorem box_no {w : World} {v : Value} {rs : List Rw} (h : RdW w v rs) (d : Int) (hlen : rs.length ≤ 4611686018427387904) (hwf : ∀ i, i < rs.length → (Lit.int .i64 rs[i]!.1).wf = true) (hne : boxE rs d ≠ 0) :
    Calls Try.prog 40 #[v, .int .i64 d] w fun e w' => ∃ vl vh vi, e = .returned (.tuple #[rv (boxR rs d) vl vh vi, .int .i64 (boxE rs d)]) ∧ OutR w w' (boxR rs d) vl vh vi := by
  have ER : boxR rs d = ⟨0, [], [], 0, []⟩ := by unfold boxR; rw [if_neg hne]
  rw [ER]
  have E : Hid (boxE rs d = if 1 ≤ d ∧ d ≤ 64 then (if rs.length = 0 then 1 else idsE rs d) else 30) := rfl
  have G0 : Gb w (w.alloc z36) := gb_alloc (Below.refl _ _) _
  have C50 := idsOf_c (h.gb G0) d hlen hwf
  obtain ⟨a, cap, rfl, _⟩ := h
  generalize boxE rs d = be at *
  clear ER
  by_cases hd : (decide (1 ≤ d) && decide (d ≤ 64)) = true
  · have c34 := fun W => isDim_v d true hd W
    rw [if_pos (by simpa using hd)] at E
    by_cases h0 : rs.length = 0
    · rw [if_pos h0] at E
      have e := E.out
      subst e
      rw [h0]
      clear hd C50 E h0 hwf hlen hne
      go_enter Try.func40, Try.ntmps40
      go_wp2_with (go_at_call 39; refine (c34 _).mono ?_; rintro e w' ⟨rfl, e2⟩; subst e2)
      exact bodyPost_ret (v := .tuple #[.agg #[.int .i64 0, .slice none 0 0, .slice none 0 0, .int .u64 0, .int .u64 0, .slice none 0 0], .int .i64 1]) (by simp [results, Try.results40, go_sem]) rfl ⟨.slice none 0 0, .slice none 0 0, .slice none 0 0, rfl, outR_nil G0⟩
    · rw [if_neg h0] at E
      have e := E.out
      rw [← e] at C50
      have h0' : ((rs.length : Int) == 0) = false := by rw [beq_eq_false_iff_ne]; omega
      have hne' : (be == 0) = false := by rw [beq_eq_false_iff_ne]; exact hne
      have HNE : Hid (be ≠ 0) := hne
      generalize rs.length = n at *
      clear hd E h0 hwf hlen hne e
      go_enter Try.func40, Try.ntmps40
      go_wp2_with fail
      refine (c34 _).mono ?_
      rintro e w' ⟨rfl, e2⟩
      subst e2
      go_wp2_with fail
      refine C50.mono ?_
      rintro e w1 ⟨v', rfl, g1, _, k2⟩
      have e2 := k2 HNE.out
      subst e2
      clear k2
      obtain ⟨⟨q0, q1, q2, q3, q4, q5⟩, qf⟩ := reg0 g1
      have f0 := qf 0 (by omega)
      have f1 := qf 1 (by omega)
      have f2 := qf 2 (by omega)
      have f3 := qf 3 (by omega)
      have f4 := qf 4 (by omega)
      have f5 := qf 5 (by omega)
      clear qf
      have hB : w.heap.size ≤ w.heap.size := Nat.le_refl _
      have GG := gb_trans G0 g1
      go_wp2
      exact bodyPost_ret (v := .tuple #[.agg #[.int .i64 0, .slice none 0 0, .slice none 0 0, .int .u64 0, .int .u64 0, .slice none 0 0], .int .i64 be]) (by simp [results, Try.results40, go_sem, q0, q1, q2, q3, q4, q5]) rfl ⟨.slice none 0 0, .slice none 0 0, .slice none 0 0, rfl, outR_nil (gb_set (gb_set (gb_set (gb_set (gb_set (gb_set GG hB _) hB _) hB _) hB _) hB _) hB _)⟩
  · have c34 := fun W => isDim_v d false (by simpa using hd) W
    rw [if_neg (by simpa using hd)] at E
    have e := E.out
    subst e
    generalize rs.length = n at *
    clear hd C50 E hwf hlen hne
    go_enter Try.func40, Try.ntmps40
    go_wp2_with (go_at_call 39; refine (c34 _).mono ?_; rintro e w' ⟨rfl, e2⟩; subst e2)
    exact bodyPost_ret (v := .tuple #[.agg #[.int .i64 0, .slice none 0 0, .slice none 0 0, .int .u64 0, .int .u64 0, .slice none 0 0], .int .i64 30]) (by simp [results, Try.results40, go_sem]) rfl ⟨.slice none 0 0, .slice none 0 0, .slice none 0 0, rfl, outR_nil G0⟩
end Go.Proofs.Ytmlincnmhjkjgaa
