import Derived.Test.YtepjbdklljlecaaGreatVbKqTq
import Derived.Test.YtepjbdklljlecaaGreatVb45
import Derived.Test.YtepjbdklljlecaaGreatVb3
import Derived.Test.YtepjbdklljlecaaGreatVb4
/- The reference's Table.Delete and Of; rows that were put one by one. -/
namespace Go.Proofs.YtepjbdklljlecaaGreat
open Go.RowKit Go.Sort Go.Maps

theorem ris_eq : ∀ {a b : List Rw}, Ris a → Ris b → a.Perm b → a = b
  | [], b, _, _, p => (p.symm.eq_nil).symm
  | x :: r, [], _, _, p => absurd p.eq_nil (by simp)
  | x :: r, y :: s, ha, hb, p => by
    have h1 := List.pairwise_cons.1 ha
    have h2 := List.pairwise_cons.1 hb
    have e : x = y := by
      rcases List.mem_cons.1 (p.mem_iff.1 List.mem_cons_self) with e | hx
      · exact e
      · rcases List.mem_cons.1 (p.mem_iff.2 (List.mem_cons_self (a := y) (l := s))) with e | hy
        · exact e.symm
        · have := h1.1 y hy
          have := h2.1 x hx
          omega
    subst e
    rw [ris_eq h1.2 h2.2 (List.Perm.cons_inv p)]
/-- One row put. -/
def put1 (m : Nat) (rs : List Rw) (r : Rw) : List Rw := if putE m rs r = 0 then putRw rs r else rs
theorem puts_same {m : Nat} : ∀ {l : List Rw}, RowsOk l (m : Int) → Ris (l.foldr (fun r a => put1 m a r) []) ∧ (l.foldr (fun r a => put1 m a r) []).Perm l
  | [], _ => ⟨List.Pairwise.nil, List.Perm.refl _⟩
  | r :: l, h => by
    have hl : RowsOk l (m : Int) := h.sub (List.sublist_cons_self r l)
    obtain ⟨a, p⟩ := puts_same hl
    rw [List.foldr_cons]
    generalize l.foldr (fun r a => put1 m a r) [] = x at a p
    have hn : ∀ y ∈ x, y.1 ≠ r.1 := fun y hy e => by
      have h1 := h.ids
      unfold idsOf at h1
      rw [List.map_cons, List.pairwise_cons] at h1
      exact h1.1 y.1 (List.mem_map.2 ⟨y, p.mem_iff.1 hy, rfl⟩) e.symm
    have hd : delRw x r.1 = x := by
      unfold delRw
      rw [List.filter_eq_self]
      intro y hy
      have := hn y hy
      simpa using this
    have hf := h.few
    have he : putE m x r = 0 := by
      obtain ⟨h1, h2⟩ := h.row r List.mem_cons_self
      unfold putE
      rw [if_pos h1, if_pos h2, if_neg]
      rintro ⟨_, h4⟩
      rw [p.length_eq] at h4
      simp at hf
      omega
    unfold put1
    rw [if_pos he]
    unfold putRw
    rw [hd]
    refine ⟨ins_ris a hn, (ins_perm x r).trans ?_⟩
    exact (List.perm_append_singleton r x).trans (p.cons r)
theorem puts_l {m : Nat} {l rs : List Rw} (h : RowsOk l (m : Int)) (hr : Ris rs) (hp : rs.Perm l) : l.foldl (put1 m) [] = rs := by
  have h' : RowsOk l.reverse (m : Int) := h.perm (List.reverse_perm l).symm
  obtain ⟨a, p⟩ := puts_same h'
  rw [List.foldr_reverse] at a p
  exact ris_eq a hr ((p.trans (List.reverse_perm l)).trans hp.symm)
theorem tb_new {w : World} {m : Nat} : TbAt (w.alloc (.cells #[.int .i64 (m : Int), .slice none 0 0] 77)) w.heap.size m [] [w.heap.size] := by
  refine ⟨.slice none 0 0, [], heap_new _ _, ⟨World.ownsRow_nil _ _ _ _, (fun x hx => by cases hx), upT _⟩, rfl, List.Pairwise.nil, by simp, rfl⟩
/-- What Of tells. -/
def OfO (w : World) (m : Nat) (rs : List Rw) (e : Ending) (w' : World) : Prop := ∃ tb G, e = .returned (.pointer (some ⟨tb, 0, none⟩)) ∧ TbAt w' tb m rs G ∧ (∀ y ∈ G, w.heap.size ≤ y) ∧ Gb w w'
set_option maxRecDepth 100000 in
set_option maxHeartbeats 2000000 in
theorem tof_c {w : World} {v : Value} {l rs : List Rw} {m : Nat} (hv : RdW w v l) (hok : RowsOk l (m : Int)) (hr : Ris rs) (hp : rs.Perm l) :
    Calls Tryz.prog 16 #[v, .int .i64 (m : Int)] w fun e w' => OfO w m rs e w' := by
  have PS : Hid (l.foldl (put1 m) [] = rs) := puts_l hok hr hp
  have V : Hid (RdW w v l) := hv
  obtain ⟨av, cv, ev, _⟩ := hv
  subst ev
  obtain ⟨n, hn⟩ : ∃ n, n = l.length := ⟨_, rfl⟩
  have N : Hid (n = l.length) := hn
  have n512 : n ≤ 512 := by rw [hn]; exact hok.few
  have T0 := tb_new (w := w) (m := m)
  have G0 : Gb w (w.alloc (.cells #[.int .i64 (m : Int), .slice none 0 0] 77)) := gb_alloc (Below.refl _ _) _
  obtain ⟨w1, hw1⟩ : ∃ w1, w1 = w.alloc (.cells #[.int .i64 (m : Int), .slice none 0 0] 77) := ⟨_, rfl⟩
  rw [← hw1] at T0 G0
  have TT : Hid (∃ G, TbAt w1 w.heap.size m [] G ∧ (∀ y ∈ G, w.heap.size ≤ y) ∧ Gb w w1) := ⟨_, T0, fun y hy => by simp at hy; omega, G0⟩
  rw [← hn] at V ⊢
  clear hn hok hr hp T0 G0
  go_enter Tryz.func16, Tryz.ntmps16
  go_wp2
  rw [← hw1]
  clear hw1
  go_loopw [6] (fun iv W => ∃ q : Nat, iv = .int .i64 (q : Int) ∧ q ≤ n ∧ Hid (∃ G, TbAt W w.heap.size m ((l.take q).foldl (put1 m) []) G ∧ (∀ y ∈ G, w.heap.size ≤ y) ∧ Gb w W)) (fun iv _ => n - (intOf iv).toNat)
  case atStart => exact ⟨0, rfl, Nat.zero_le _, TT⟩
  case round =>
    clear TT
    obtain ⟨q, rfl, hq, X⟩ := hrel
    by_cases hqn : q < n
    · have hqi : (q : Int) < (n : Int) := by omega
      have hql : q < l.length := by have := N.out; omega
      obtain ⟨G, tt, hG, g⟩ := X.out
      obtain ⟨_, _, e, hc⟩ := V.out
      injection e with e1 e2 e3
      subst e1 e3
      obtain ⟨rb, ro, ru, e, r0, r1, hr⟩ := hc q hql
      subst e
      have r0 := gb_keeps g r0
      have r1 := gb_keeps g r1
      have cP := tput_c (xi := l[q]!.1) tt (hr.gb g)
      have hs := g.size
      have NX : Hid (∀ W', TbOut wr w.heap.size m (if putE m ((l.take q).foldl (put1 m) []) (l[q]!.1, l[q]!.2) = 0 then putRw ((l.take q).foldl (put1 m) []) (l[q]!.1, l[q]!.2) else (l.take q).foldl (put1 m) []) G W' → ∃ G, TbAt W' w.heap.size m ((l.take (q + 1)).foldl (put1 m) []) G ∧ (∀ y ∈ G, w.heap.size ≤ y) ∧ Gb w W') := by
        rintro W' ⟨G', t', l', k'⟩
        rw [List.take_succ_eq_append_getElem hql, List.foldl_append, ← getElem!_pos l q hql]
        refine ⟨G', t', fun y hy => ?_, g.trans (k'.gr hs (fun k e => by omega))⟩
        rcases l' y hy with h | h
        · exact hG y h
        · omega
      obtain ⟨ar, cr, er, _⟩ := hr.rd0
      subst er
      generalize (l.take q).foldl (put1 m) [] = rsq at *
      generalize l[q]!.1 = xi at *
      generalize hxl : l[q]!.2 = xl at *
      generalize putE m rsq (xi, xl) = pe at *
      clear hxl hc e2 hr tt X hG hql hs g
      go_wp2_with fail
      refine cP.mono ?_
      rintro e w3 ⟨rfl, hO⟩
      have XN : Hid _ := NX.out _ hO
      clear cP hO NX r0 r1
      go_wp2
      go_roundw
      case rel => exact ⟨q + 1, by first | rfl | go_num | simp, hqn, XN⟩
      case measure => simp [intOf]; omega
    · have hqi : ¬ (q : Int) < (n : Int) := by omega
      have FX : Hid (∃ G, TbAt wr w.heap.size m rs G ∧ (∀ y ∈ G, w.heap.size ≤ y) ∧ Gb w wr) := by
        obtain ⟨G, tt, hG, g⟩ := X.out
        rw [List.take_of_length_le (by have := N.out; omega), PS.out] at tt
        exact ⟨G, tt, hG, g⟩
      clear X
      go_wp2
      go_ret
      obtain ⟨G, tt, hG, g⟩ := FX.out
      exact ⟨_, G, rfl, tt, hG, g⟩
end Go.Proofs.YtepjbdklljlecaaGreat

/- theodolitekeep.Spoil: what it writes over is the answer's own. -/
namespace Go.Proofs.YtepjbdklljlecaaGreat
open Go.RowKit Go.Sort

/-- No block of cells has turned but of these types; those keep their size, and numbers stay numbers. -/
structure Shp (P : TypeId → Prop) (W W' : World) : Prop where
  keep : ∀ (k : Nat) (cur : Array Value) (t : TypeId) (f : Nat × Nat), W.heap[k]? = some (.cells cur t f) → ¬ P t → W'.heap[k]? = W.heap[k]?
  size : ∀ (k : Nat) (cur : Array Value) (t : TypeId) (f : Nat × Nat), W.heap[k]? = some (.cells cur t f) → ∃ cur', W'.heap[k]? = some (.cells cur' t f) ∧ cur'.size = cur.size ∧ (t = 3 → ∀ (i : Nat) (x : Int), cur[i]? = some (.int .i64 x) → ∃ y : Int, cur'[i]? = some (.int .i64 y))
theorem Shp.refl (P : TypeId → Prop) (W : World) : Shp P W W := ⟨fun _ _ _ _ _ _ => rfl, fun _ cur _ _ h => ⟨cur, h, rfl, fun _ _ x hx => ⟨x, hx⟩⟩⟩
theorem Shp.trans {P : TypeId → Prop} {a b c : World} (h : Shp P a b) (g : Shp P b c) : Shp P a c := by
  refine ⟨fun k cur t f e n => ?_, fun k cur t f e => ?_⟩
  · have h1 := h.keep k cur t f e n
    exact (g.keep k cur t f (h1.trans e) n).trans h1
  · obtain ⟨c1, e1, s1, i1⟩ := h.size k cur t f e
    obtain ⟨c2, e2, s2, i2⟩ := g.size k c1 t f e1
    refine ⟨c2, e2, s2.trans s1, fun e3 i x hx => ?_⟩
    obtain ⟨y, hy⟩ := i1 e3 i x hx
    exact i2 e3 i y hy
theorem Shp.mono {P Q : TypeId → Prop} {a b : World} (h : Shp P a b) (hp : ∀ t, P t → Q t) : Shp Q a b := ⟨fun k cur t f e n => h.keep k cur t f e fun p => n (hp t p), h.size⟩
theorem Shp.gb {P : TypeId → Prop} {a b : World} (g : Gb a b) : Shp P a b :=
  ⟨fun k _ _ _ e _ => g.block k (Array.getElem?_eq_some_iff.1 e).1, fun k cur _ _ e => ⟨cur, (g.block k (Array.getElem?_eq_some_iff.1 e).1).trans e, rfl, fun _ _ x hx => ⟨x, hx⟩⟩⟩
theorem heap_set {W : World} {g o : Nat} {x : Value} {cur : Array Value} {t : TypeId} {f : Nat × Nat} (h : W.heap[g]? = some (.cells cur t f)) : (W.setCell ⟨g, o, none⟩ x).heap[g]? = some (.cells (cur.setIfInBounds o x) t f) := by
  simp [World.setCell, Array.getElem?_modify, h]
theorem Shp.set {P : TypeId → Prop} {W : World} {g : Nat} {cur : Array Value} {t : TypeId} {f : Nat × Nat} (h : W.heap[g]? = some (.cells cur t f)) (hp : P t) (o : Nat) (x : Value) (hx : t = 3 → ∃ y : Int, x = .int .i64 y) : Shp P W (W.setCell ⟨g, o, none⟩ x) := by
  refine ⟨fun k cur' t' f' e n => ?_, fun k cur' t' f' e => ?_⟩
  · by_cases hk : k = g
    · subst hk; rw [h] at e; cases e; exact absurd hp n
    · exact Below.heap_setCell _ _ _ _ (by dsimp only; exact hk)
  · by_cases hk : k = g
    · subst hk
      rw [h] at e; cases e
      refine ⟨_, heap_set h, by simp, fun e3 i z hz => ?_⟩
      by_cases hi : i = o
      · subst hi
        obtain ⟨y, rfl⟩ := hx e3
        have hlt : i < cur.size := (Array.getElem?_eq_some_iff.1 hz).1
        exact ⟨y, by rw [Array.getElem?_setIfInBounds_self_of_lt hlt]⟩
      · exact ⟨z, by rw [Array.getElem?_setIfInBounds_ne (fun e => hi e.symm)]; exact hz⟩
    · exact ⟨cur', (Below.heap_setCell _ _ _ _ (by dsimp only; exact hk)).trans e, rfl, fun _ _ z hz => ⟨z, hz⟩⟩
/-- Nothing has turned but in the blocks from B on below T, and these only so. -/
structure MS (P : TypeId → Prop) (B T : Nat) (W W' : World) : Prop where
  mid : Mid B T W W'
  shp : Shp P W W'
theorem Mid.trans {B T : Nat} {a b c : World} (h : Mid B T a b) (g : Mid B T b c) : Mid B T a c :=
  ⟨g.os.trans h.os, g.tape.trans h.tape, g.output.trans h.output, Nat.le_trans h.size g.size, fun k hk hb => (g.block k (Nat.lt_of_lt_of_le hk h.size) hb).trans (h.block k hk hb)⟩
theorem mid_gb {B T : Nat} {a b : World} (g : Gb a b) : Mid B T a b := ⟨g.os, g.tape, g.output, g.size, fun k hk _ => g.block k hk⟩
theorem MS.refl (P : TypeId → Prop) (B T : Nat) (W : World) : MS P B T W W := ⟨Mid.refl _ _ _, Shp.refl _ _⟩
theorem MS.trans {P : TypeId → Prop} {B T : Nat} {a b c : World} (h : MS P B T a b) (g : MS P B T b c) : MS P B T a c := ⟨h.mid.trans g.mid, h.shp.trans g.shp⟩
theorem MS.mono {P Q : TypeId → Prop} {B T : Nat} {a b : World} (h : MS P B T a b) (hp : ∀ t, P t → Q t) : MS Q B T a b := ⟨h.mid, h.shp.mono hp⟩
theorem ms_gb {P : TypeId → Prop} {B T : Nat} {a b : World} (g : Gb a b) : MS P B T a b := ⟨mid_gb g, Shp.gb g⟩
theorem MS.set {P : TypeId → Prop} {B T g : Nat} {W0 W : World} {cur : Array Value} {t : TypeId} {f : Nat × Nat} (m : MS P B T W0 W) (h1 : B ≤ g) (h2 : g < T) (h : W.heap[g]? = some (.cells cur t f)) (hp : P t) (o : Nat) (x : Value) (hx : t = 3 → ∃ y : Int, x = .int .i64 y) : MS P B T W0 (W.setCell ⟨g, o, none⟩ x) :=
  ⟨⟨m.mid.os, m.mid.tape, m.mid.output, by simpa [World.setCell] using m.mid.size, fun k hk hb => (Below.heap_setCell _ _ _ _ (by dsimp only; omega)).trans (m.mid.block k hk hb)⟩, m.shp.trans (Shp.set h hp o x hx)⟩
theorem MS.cell {P : TypeId → Prop} {B T b o : Nat} {W W' : World} {v : Value} (m : MS P B T W W') (hb : T ≤ b) (h : W.cell? ⟨b, o, none⟩ = some v) : W'.cell? ⟨b, o, none⟩ = some v :=
  (World.cell?_of_block (a := ⟨b, o, none⟩) (m.mid.block b (World.block_lt_of_cell? W _ h) (.inr hb))).trans h
/-- A list of cells, k a place, that may be written over. -/
def WL (W : World) (B T : Nat) (ty : TypeId) (k : Nat) (a : Option Addr) (n : Nat) : Prop := n = 0 ∨ ∃ g cur, a = some ⟨g, 0, none⟩ ∧ B ≤ g ∧ g < T ∧ W.heap[g]? = some (.cells cur ty (0, 0)) ∧ n * k ≤ cur.size
theorem WL.ms {P : TypeId → Prop} {W W' : World} {B T B' T' : Nat} {ty : TypeId} {k : Nat} {a : Option Addr} {n : Nat} (h : WL W B T ty k a n) (m : MS P B' T' W W') : WL W' B T ty k a n := by
  rcases h with h | ⟨g, cur, e, h1, h2, h3, h4⟩
  · exact .inl h
  · obtain ⟨c1, e1, s1, _⟩ := m.shp.size g cur ty (0, 0) h3
    exact .inr ⟨g, c1, e, h1, h2, e1, by omega⟩
/-- A list of numbers that may be written over. -/
def WI (W : World) (B T : Nat) (v : Value) : Prop := ∃ a n c, v = .slice a n c ∧ n ≤ 4611686018427387904 ∧ (n = 0 ∨ ∃ g cur, a = some ⟨g, 0, none⟩ ∧ B ≤ g ∧ g < T ∧ W.heap[g]? = some (.cells cur 3 (0, 0)) ∧ ∀ i, i < n → ∃ x : Int, cur[i]? = some (.int .i64 x))
theorem WI.ms {P : TypeId → Prop} {W W' : World} {B T B' T' : Nat} {v : Value} (h : WI W B T v) (m : MS P B' T' W W') : WI W' B T v := by
  obtain ⟨a, n, c, rfl, hn, h⟩ := h
  refine ⟨a, n, c, rfl, hn, ?_⟩
  rcases h with h | ⟨g, cur, e, h1, h2, h3, h4⟩
  · exact .inl h
  · obtain ⟨c1, e1, s1, i1⟩ := m.shp.size g cur 3 (0, 0) h3
    exact .inr ⟨g, c1, e, h1, h2, e1, fun i hi => by obtain ⟨x, hx⟩ := h4 i hi; exact i1 rfl i x hx⟩
theorem wi_own {W : World} {B T : Nat} {v : Value} {l : List Int} (h : Own W B v l) (hn : l.length ≤ 4611686018427387904) (hT : ∀ g, v.ownBlock = some g → g < T) : WI W B T v := by
  rcases h.2 with ⟨rfl, h0⟩ | ⟨g, cap, cur, rfl, hb, hh, hc, _, hs, ht⟩
  · exact ⟨none, 0, 0, rfl, Nat.zero_le _, .inl rfl⟩
  · refine ⟨_, _, _, rfl, hn, .inr ⟨g, cur, rfl, hb, hT g rfl, hh, fun i hi => ?_⟩⟩
    have h1 : (cur.toList.take (l.length * 1))[i]? = (l.map (Value.int .i64))[i]? := by rw [ht]
    rw [List.getElem?_take_of_lt (by omega), List.getElem?_map, List.getElem?_eq_getElem hi] at h1
    exact ⟨l[i], by simpa using h1⟩
/-- An answer that may be written over. -/
structure OwnA (W : World) (B T : Nat) (vh vs vr : Value) : Prop where
  top : T ≤ W.heap.size
  hits : ∃ a n c, vh = .slice a n c ∧ n ≤ 4611686018427387904 ∧ WL W B T 68 3 a n
  seen : WI W B T vs
  rest : ∃ a n c, vr = .slice a n c ∧ n ≤ 4611686018427387904 ∧ (n = 0 ∨ ∃ g cur, a = some ⟨g, 0, none⟩ ∧ B ≤ g ∧ g < T ∧ W.heap[g]? = some (.cells cur 102 (0, 0)) ∧
    ∀ i, i < n → ∃ (S : Int) (vl vu : Value) (h l : Int) (vi : Value), cur[i * 6]? = some (.int .i64 S) ∧ cur[i * 6 + 1]? = some vl ∧ cur[i * 6 + 2]? = some vu ∧ cur[i * 6 + 3]? = some (.int .u64 h) ∧ cur[i * 6 + 4]? = some (.int .u64 l) ∧ cur[i * 6 + 5]? = some vi ∧ WI W B T vl ∧ WI W B T vu ∧ WI W B T vi)
theorem OwnA.gb {W W' : World} {B T : Nat} {vh vs vr : Value} (h : OwnA W B T vh vs vr) (g : Gb W W') : OwnA W' B T vh vs vr := by
  have m : MS (fun _ => False) B T W W' := ms_gb g
  obtain ⟨a, n, c, e, hn, hl⟩ := h.hits
  obtain ⟨a', n', c', e', hn', hl'⟩ := h.rest
  refine ⟨Nat.le_trans h.top g.size, ⟨a, n, c, e, hn, hl.ms m⟩, h.seen.ms m, ⟨a', n', c', e', hn', ?_⟩⟩
  rcases hl' with h0 | ⟨x, cur, h1, h2, h3, h4, h5⟩
  · exact .inl h0
  · refine .inr ⟨x, cur, h1, h2, h3, (g.block x (Array.getElem?_eq_some_iff.1 h4).1).trans h4, fun i hi => ?_⟩
    obtain ⟨S, vl, vu, p, l, vi, d0, d1, d2, d3, d4, d5, w1, w2, w3⟩ := h5 i hi
    exact ⟨S, vl, vu, p, l, vi, d0, d1, d2, d3, d4, d5, w1.ms m, w2.ms m, w3.ms m⟩
theorem cell_of {W : World} {g o : Nat} {cur : Array Value} {t : TypeId} {v : Value} (h : W.heap[g]? = some (.cells cur t (0, 0))) (hc : cur[o]? = some v) : W.cell? ⟨g, o, none⟩ = some v := by simp [World.cell?, h, hc]
theorem froz_of {W : World} {g : Nat} {cur : Array Value} {t : TypeId} (h : W.heap[g]? = some (.cells cur t (0, 0))) (o : Nat) : W.frozen? ⟨g, o, none⟩ = false := by simp [World.frozen?, h]
abbrev tInt : TypeId → Prop := fun t => t = 3
end Go.Proofs.YtepjbdklljlecaaGreat

/- theodolitekeep.SpoilRows. -/
namespace Go.Proofs.YtepjbdklljlecaaGreat
open Go.RowKit Go.Sort

abbrev tRw : TypeId → Prop := fun t => t = 3 ∨ t = 43
set_option maxRecDepth 100000 in
set_option maxHeartbeats 1000000 in
theorem spoilrows_c {w : World} {B T g n cap : Nat} {rcur : Array Value} (top : T ≤ w.heap.size) (hn : n ≤ 4611686018427387904) (hB : B ≤ g) (hT : g < T) (hb : w.heap[g]? = some (.cells rcur 43 (0, 0)))
    (hr : ∀ i, i < n → ∃ (x : Int) (u : Value), rcur[i * 2]? = some (.int .i64 x) ∧ rcur[i * 2 + 1]? = some u ∧ WI w B T u) :
    Calls Tryz.prog 35 #[.slice (some ⟨g, 0, none⟩) n cap] w fun e w' => e = .returned (.tuple #[]) ∧ Mid B T w w' := by
  have TOP : Hid (T ≤ w.heap.size) := top
  have HR : Hid (∀ i, i < n → ∃ (x : Int) (u : Value), rcur[i * 2]? = some (.int .i64 x) ∧ rcur[i * 2 + 1]? = some u ∧ WI w B T u) := hr
  have HB : Hid (w.heap[g]? = some (.cells rcur 43 (0, 0)) ∧ B ≤ g ∧ g < T) := ⟨hb, hB, hT⟩
  clear top hr hb hB hT
  go_enter Tryz.func35, Tryz.ntmps35
  go_wp2
  go_loopw [2] (fun iv W => ∃ p : Nat, iv = .int .i64 (p : Int) ∧ p ≤ n ∧ Hid (MS tRw B T w W ∧ ∃ cur', W.heap[g]? = some (.cells cur' 43 (0, 0)) ∧ cur'.size = rcur.size ∧ ∀ j, p * 2 ≤ j → cur'[j]? = rcur[j]?)) (fun iv _ => n - (intOf iv).toNat)
  case atStart => exact ⟨0, rfl, Nat.zero_le _, MS.refl _ _ _ _, rcur, HB.out.1, rfl, fun _ _ => rfl⟩
  case round =>
    obtain ⟨p, rfl, hp, X⟩ := hrel
    by_cases hpn : p < n
    · have hpi : decide ((p : Int) < (n : Int)) = true := by rw [decide_eq_true_eq]; omega
      have hpp : (p : Int) < (n : Int) := by omega
      obtain ⟨cur', s3, s4, s5⟩ := X.out.2
      obtain ⟨x, u, d0, d1, w1⟩ := HR.out p hpn
      rw [← s5 _ (by omega)] at d0 d1
      obtain ⟨W3, hW3⟩ : ∃ W3, W3 = wr := ⟨_, rfl⟩
      have M3 : Hid (MS tRw B T w W3) := by rw [hW3]; exact X.out.1
      have L1 : Hid (WI W3 B T u) := w1.ms M3.out
      have HC : Hid (W3.heap[g]? = some (.cells cur' 43 (0, 0)) ∧ cur'.size = rcur.size ∧ (∀ j, p * 2 ≤ j → cur'[j]? = rcur[j]?) ∧ cur'[p * 2]? = some (.int .i64 x) ∧ cur'[p * 2 + 1]? = some u) := by rw [hW3]; exact ⟨s3, s4, s5, d0, d1⟩
      have MI : Hid (MS tInt B T W3 wr) := by rw [hW3]; exact MS.refl _ _ _ _
      obtain ⟨a1, n1, q1, e1, b1', _⟩ := w1
      subst e1
      clear s3 s4 s5 d0 d1 X hW3
      go_wp2_with fail
      go_loopw [3] (fun iv W => ∃ y : Nat, iv = .int .i64 (y : Int) ∧ y ≤ n1 ∧ Hid (MS tInt B T W3 W)) (fun iv _ => n1 - (intOf iv).toNat)
      case atStart => exact ⟨0, rfl, Nat.zero_le _, MI⟩
      case round =>
        clear MI
        obtain ⟨y, rfl, hy, X⟩ := hrel
        have h5 : wr.heap[g]? = some (.cells cur' 43 (0, 0)) := (X.out.shp.keep g _ _ _ HC.out.1 (by simp)).trans HC.out.1
        have b0 := cell_of h5 HC.out.2.2.2.1
        have b1 := cell_of h5 HC.out.2.2.2.2
        by_cases hyn : y < n1
        · have hyi : (y : Int) < (n1 : Int) := by omega
          obtain ⟨vb, cur, e, h1, h2, h3, h4⟩ : ∃ vb cur, a1 = some ⟨vb, 0, none⟩ ∧ B ≤ vb ∧ vb < T ∧ wr.heap[vb]? = some (.cells cur 3 (0, 0)) ∧ ∀ i, i < n1 → ∃ x : Int, cur[i]? = some (.int .i64 x) := by
            obtain ⟨_, _, _, e, _, h⟩ := L1.out.ms X.out
            cases e
            rcases h with h | h
            · omega
            · exact h
          subst e
          obtain ⟨z, k0⟩ := h4 y hyn
          have c0 := cell_of h3 k0
          have f0 := froz_of h3 y
          have hgr : g ≠ vb := fun e => by rw [e, h3] at h5; simp at h5
          have XD : Hid (∀ z, MS tInt B T W3 (wr.drew.setCell ⟨vb, y, none⟩ (.int .i64 z))) := fun z => (X.out.trans (ms_gb (Below.refl _ _).drew)).set h1 h2 h3 rfl _ _ (fun _ => ⟨_, rfl⟩)
          have b1 : wr.drew.cell? ⟨g, p * 2 + 1, none⟩ = some (.slice (some ⟨vb, 0, none⟩) n1 q1) := b1
          have c0 : wr.drew.cell? ⟨vb, y, none⟩ = some (.int .i64 z) := c0
          have f0 : wr.drew.frozen? ⟨vb, y, none⟩ = false := f0
          clear h3 h4 k0 h5 b0
          go_wp2_with fail
          refine wp_region_held_drew (S := fun W => W.cell? ⟨g, p * 2 + 1, none⟩ = some (.slice (some ⟨vb, 0, none⟩) n1 q1)) (by kernel_rfl) (b1) (fun hHeld => ?_)
          refine wpAnyH_take (i := 0) (v := ?_) rfl (by kernel_rfl) (by kernel_rfl) (by kernel_rfl) (fun _ _ _ h => h) (Or.inl ⟨by rfl, ?_⟩) (by assumption) ?_
          rotate_left 1
          · (intro w hSw; (try dsimp only at hSw); go_simp; try with_reducible rfl)
          try simp only [Act.put, List.getElem_toArray, List.getElem_cons_zero, List.setIfInBounds_toArray, List.set_cons_zero, List.set_cons_succ]
          refine wpAnyH_take (i := 1) (v := ?_) rfl (by kernel_rfl) (by kernel_rfl) (by kernel_rfl) (fun _ _ _ h => h) (Or.inl ⟨by rfl, ?_⟩) (by assumption) ?_
          rotate_left 1
          · (intro w hSw; (try dsimp only at hSw); go_simp; try with_reducible rfl)
          try simp only [Act.put, List.getElem_toArray, List.getElem_cons_zero, List.getElem_cons_succ, List.setIfInBounds_toArray, List.set_cons_zero, List.set_cons_succ]
          refine wpAnyH_take (i := 2) (v := ?_) rfl (by kernel_rfl) (by kernel_rfl) (by kernel_rfl) (fun _ _ _ h => h) (Or.inl ⟨by rfl, ?_⟩) (by assumption) ?_
          rotate_left 1
          · (intro w hSw; (try dsimp only at hSw); go_simp; try with_reducible rfl)
          try simp only [Act.put, List.getElem_toArray, List.getElem_cons_zero, List.getElem_cons_succ, List.setIfInBounds_toArray, List.set_cons_zero, List.set_cons_succ]
          refine wpAnyH_take (i := 3) (v := ?_) rfl (by kernel_rfl) (by kernel_rfl) (by kernel_rfl) (fun _ _ _ h => h) (Or.inl ⟨by rfl, ?_⟩) (by assumption) ?_
          rotate_left 1
          · (intro w hSw; (try dsimp only at hSw); go_simp; try with_reducible rfl)
          try simp only [Act.put, List.getElem_toArray, List.getElem_cons_zero, List.getElem_cons_succ, List.setIfInBounds_toArray, List.set_cons_zero, List.set_cons_succ]
          refine wpAnyH_take (i := 4) (v := ?_) rfl (by kernel_rfl) (by kernel_rfl) (by kernel_rfl) (fun _ _ _ h => h) (Or.inl ⟨by rfl, ?_⟩) (by assumption) ?_
          rotate_left 1
          · (intro w hSw; (try dsimp only at hSw); go_simp; try with_reducible rfl)
          try simp only [Act.put, List.getElem_toArray, List.getElem_cons_zero, List.getElem_cons_succ, List.setIfInBounds_toArray, List.set_cons_zero, List.set_cons_succ]
          refine wpAnyH_take (i := 5) (v := ?_) rfl (by kernel_rfl) (by kernel_rfl) (by kernel_rfl) (fun _ _ _ h => h) (Or.inl ⟨by rfl, ?_⟩) (by assumption) ?_
          rotate_left 1
          · (intro w hSw; (try dsimp only at hSw); go_simp; try with_reducible rfl)
          try simp only [Act.put, List.getElem_toArray, List.getElem_cons_zero, List.getElem_cons_succ, List.setIfInBounds_toArray, List.set_cons_zero, List.set_cons_succ]
          refine wpAnyH_take (i := 6) (v := ?_) rfl (by kernel_rfl) (by kernel_rfl) (by kernel_rfl) (fun _ _ _ h => h) (Or.inl ⟨by rfl, ?_⟩) (by assumption) ?_
          rotate_left 1
          · (intro w hSw; (try dsimp only at hSw); go_simp; try with_reducible rfl)
          try simp only [Act.put, List.getElem_toArray, List.getElem_cons_zero, List.getElem_cons_succ, List.setIfInBounds_toArray, List.set_cons_zero, List.set_cons_succ]
          refine wpAnyH_take (i := 7) (v := ?_) rfl (by kernel_rfl) (by kernel_rfl) (by kernel_rfl) (fun _ _ _ h => h) (Or.inl ⟨by rfl, ?_⟩) (by assumption) ?_
          rotate_left 1
          · (intro w hSw; (try dsimp only at hSw); go_simp; try with_reducible rfl)
          try simp only [Act.put, List.getElem_toArray, List.getElem_cons_zero, List.getElem_cons_succ, List.setIfInBounds_toArray, List.set_cons_zero, List.set_cons_succ]
          refine wpAnyH_take (i := 8) (v := ?_) rfl (by kernel_rfl) (by kernel_rfl) (by kernel_rfl) (fun _ _ _ h => h) (Or.inl ⟨by rfl, ?_⟩) (by assumption) ?_
          rotate_left 1
          · (intro w hSw; (try dsimp only at hSw); go_simp; try with_reducible rfl)
          try simp only [Act.put, List.getElem_toArray, List.getElem_cons_zero, List.getElem_cons_succ, List.setIfInBounds_toArray, List.set_cons_zero, List.set_cons_succ]
          refine wpAnyH_take (i := 9) (v := ?_) rfl (by kernel_rfl) (by kernel_rfl) (by kernel_rfl) (fun _ _ _ h => h) (Or.inl ⟨by rfl, ?_⟩) (by assumption) ?_
          rotate_left 1
          · (intro w hSw; (try dsimp only at hSw); go_simp; try with_reducible rfl)
          try simp only [Act.put, List.getElem_toArray, List.getElem_cons_zero, List.getElem_cons_succ, List.setIfInBounds_toArray, List.set_cons_zero, List.set_cons_succ]
          refine wpAnyH_take (i := 10) (v := ?_) rfl (by kernel_rfl) (by kernel_rfl) (by kernel_rfl) (fun _ _ _ h => h) (Or.inl ⟨by rfl, ?_⟩) (by assumption) ?_
          rotate_left 1
          · (intro w hSw; (try dsimp only at hSw); go_simp; try with_reducible rfl)
          try simp only [Act.put, List.getElem_toArray, List.getElem_cons_zero, List.getElem_cons_succ, List.setIfInBounds_toArray, List.set_cons_zero, List.set_cons_succ]
          refine wpAnyH_take (i := 11) (v := ?_) rfl (by kernel_rfl) (by kernel_rfl) (by kernel_rfl) (fun _ _ _ h => h) (Or.inl ⟨by rfl, ?_⟩) (by assumption) ?_
          rotate_left 1
          · (intro w hSw; (try dsimp only at hSw); go_simp; try with_reducible rfl)
          try simp only [Act.put, List.getElem_toArray, List.getElem_cons_zero, List.getElem_cons_succ, List.setIfInBounds_toArray, List.set_cons_zero, List.set_cons_succ]
          refine wpAnyH_take (i := 12) (v := ?_) rfl (by kernel_rfl) (by kernel_rfl) (by kernel_rfl) (fun _ _ _ h => h) (Or.inl ⟨by rfl, ?_⟩) (by assumption) ?_
          rotate_left 1
          · (intro w hSw; (try dsimp only at hSw); go_simp; try with_reducible rfl)
          try simp only [Act.put, List.getElem_toArray, List.getElem_cons_zero, List.getElem_cons_succ, List.setIfInBounds_toArray, List.set_cons_zero, List.set_cons_succ]
          refine wpAnyH_ready (rs := [13]) (by kernel_rfl) (by simp) ?_
          refine AllReadyH.cons rfl (fun K hK => ?_) AllReadyH.nil
          go_simp
          refine hK.out _ _ (hHeld) (fun hHeld => ?_)
          clear hK K
          try simp only [Act.put, List.getElem_toArray, List.getElem_cons_zero, List.getElem_cons_succ, List.setIfInBounds_toArray, List.set_cons_zero, List.set_cons_succ]
          refine wpAnyH_take (i := 14) (v := ?_) rfl (by kernel_rfl) (by kernel_rfl) (by kernel_rfl) (fun _ _ _ h => h) (Or.inl ⟨by rfl, ?_⟩) (by assumption) ?_
          rotate_left 1
          · (intro w hSw; (try dsimp only at hSw); go_simp; try with_reducible rfl)
          try simp only [Act.put, List.getElem_toArray, List.getElem_cons_zero, List.getElem_cons_succ, List.setIfInBounds_toArray, List.set_cons_zero, List.set_cons_succ]
          refine wpAnyH_take (i := 15) (v := ?_) rfl (by kernel_rfl) (by kernel_rfl) (by kernel_rfl) (fun _ _ _ h => h) (Or.inl ⟨by rfl, ?_⟩) (by assumption) ?_
          rotate_left 1
          · (intro w hSw; (try dsimp only at hSw); go_simp; try with_reducible rfl)
          try simp only [Act.put, List.getElem_toArray, List.getElem_cons_zero, List.getElem_cons_succ, List.setIfInBounds_toArray, List.set_cons_zero, List.set_cons_succ]
          refine wpAnyH_ready (rs := [16]) (by kernel_rfl) (by simp) ?_
          refine AllReadyH.cons rfl (fun K hK => ?_) AllReadyH.nil
          go_simp
          refine hK.out _ _ ((World.cell?_setCell_far _ _ _ _ (by dsimp only; exact hgr.symm)).trans hHeld) (fun hHeld => ?_)
          clear hK K
          try simp only [Act.put, List.getElem_toArray, List.getElem_cons_zero, List.getElem_cons_succ, List.setIfInBounds_toArray, List.set_cons_zero, List.set_cons_succ]
          refine wpAnyH_done (by kernel_rfl) ?_ _
          go_wp2
          go_roundw
          case rel => exact ⟨y + 1, by first | rfl | go_num | simp, hyn, XD.out _⟩
          case measure => simp [intOf]; omega
        · have hyi : ¬ (y : Int) < (n1 : Int) := by omega
          have f0 := froz_of h5 (p * 2)
          have f1 := froz_of h5 (p * 2 + 1)
          have XN : Hid (MS tRw B T w ((wr.setCell ⟨g, p * 2, none⟩ (.int .i64 0)).setCell ⟨g, p * 2 + 1, none⟩ (.slice none 0 0)) ∧ ∃ cur', ((wr.setCell ⟨g, p * 2, none⟩ (.int .i64 0)).setCell ⟨g, p * 2 + 1, none⟩ (.slice none 0 0)).heap[g]? = some (.cells cur' 43 (0, 0)) ∧ cur'.size = rcur.size ∧ ∀ j, (p + 1) * 2 ≤ j → cur'[j]? = rcur[j]?) := by
            refine ⟨((M3.out.trans (X.out.mono fun t h => .inl h)).set HB.out.2.1 HB.out.2.2 h5 (.inr rfl) _ _ (fun e => by simp at e)).set HB.out.2.1 HB.out.2.2 (heap_set h5) (.inr rfl) _ _ (fun e => by simp at e), _, heap_set (heap_set h5), ?_, fun j hj => ?_⟩
            · simp [HC.out.2.1]
            · rw [Array.getElem?_setIfInBounds_ne (by omega), Array.getElem?_setIfInBounds_ne (by omega)]
              exact HC.out.2.2.1 j (by omega)
          clear h5 L1 X
          go_wp2
          go_roundw
          case rel => exact ⟨p + 1, by first | rfl | go_num | simp, hpn, XN⟩
          case measure => simp [intOf]; omega
    · have hpi : ¬ (p : Int) < (n : Int) := by omega
      have XF : Hid (Mid B T w wr) := X.out.1.mid
      clear X
      go_wp2
      refine bodyPost_end (v := .tuple #[]) (by simp [results, Tryz.results35, go_sem]) rfl ⟨rfl, ?_⟩
      exact XF.out
end Go.Proofs.YtepjbdklljlecaaGreat

/- theodolitekeep.Vectors, of rows that are not too long each: the sum. -/
namespace Go.Proofs.YtepjbdklljlecaaGreat
open Go.RowKit Go.Sort

/-- How many coordinates rows have in all. -/
def coords (rs : List Rw) : Nat := (rs.map fun r => r.2.length).sum
theorem coords_snoc {rs : List Rw} {q : Nat} (hq : q < rs.length) : coords (rs.take (q + 1)) = coords (rs.take q) + rs[q]!.2.length := by
  unfold coords
  rw [List.take_succ_eq_append_getElem hq, List.map_append, List.sum_append, getElem!_pos rs q hq]
  simp
theorem coords_le {rs : List Rw} (q : Nat) : coords (rs.take q) ≤ coords rs := by
  have h : coords rs = coords (rs.take q) + coords (rs.drop q) := by
    unfold coords
    rw [← List.sum_append, ← List.map_append, List.take_append_drop]
  omega
theorem coords_row {rs : List Rw} {i : Nat} (hi : i < rs.length) : rs[i]!.2.length ≤ coords rs := by
  have h1 := coords_snoc hi
  have h2 := coords_le (rs := rs) (i + 1)
  omega
set_option maxHeartbeats 1000000 in
set_option maxRecDepth 100000 in
theorem vects_b {w : World} {v : Value} {rs : List Rw} (h : RdW w v rs) (most : Nat) (hlen : rs.length ≤ 4611686018427387904) (hmost : most ≤ 4611686018427387903) (hrow : ∀ i, i < rs.length → rs[i]!.2.length ≤ 4611686018427387904) :
    Calls Tryz.prog 28 #[v, .int .i64 (most : Int)] w fun e w' => (∃ z : Int, e = .returned (.int .i64 z) ∧ (z ≤ (most : Int) → rs.length + coords rs ≤ most)) ∧ w = w' := by
  obtain ⟨a, cap, rfl, ha⟩ := h
  have A : Hid (∀ i, i < rs.length → ∃ b o u, a = some ⟨b, o, none⟩ ∧ w.cell? ⟨b, o + i * 2, none⟩ = some (.int .i64 rs[i]!.1) ∧ w.cell? ⟨b, o + i * 2 + 1, none⟩ = some u ∧ RdI w u rs[i]!.2) := ha
  obtain ⟨n, hN⟩ : ∃ n, n = rs.length := ⟨_, rfl⟩
  have N : Hid (n = rs.length) := hN
  have HS : Hid (∀ i, i < rs.length → rs[i]!.2.length ≤ 4611686018427387904) := hrow
  rw [← hN] at hlen ⊢
  clear ha hN hrow
  go_enter Tryz.func28, Tryz.ntmps28
  go_wp2
  go_loopw [5, 6] (fun zv iv w' => ∃ (q z : Nat), zv = .int .i64 (z : Int) ∧ iv = .int .i64 (q : Int) ∧ q ≤ n ∧ Hid (z = n + coords (rs.take q)) ∧ w = w') (fun _ iv _ => n - (intOf iv).toNat)
  case atStart => exact ⟨0, n, rfl, rfl, Nat.zero_le _, by unfold Hid; simp [coords], rfl⟩
  case round =>
    obtain ⟨q, z, rfl, rfl, hq, Z, rfl⟩ := hrel
    by_cases hqn : q < n
    · have hqi : (q : Int) < (n : Int) := by omega
      by_cases hz : (z : Int) ≤ (most : Int)
      · have hql : q < rs.length := by have := N.out; omega
        obtain ⟨b, o, u, ea, hc, hd, hr⟩ := A.out q hql
        obtain ⟨pu, cu, eu, _⟩ := hr
        subst ea; subst eu
        have hs := coords_snoc hql
        have hZ := Z.out
        have hS := HS.out q hql
        generalize rs[q]!.2.length = k at *
        generalize rs[q]!.1 = x at *
        obtain ⟨y, hy⟩ : ∃ y : Nat, y = z + k := ⟨_, rfl⟩
        have Y : Hid (y = n + coords (rs.take (q + 1))) := by unfold Hid; omega
        have hyb : y ≤ 9223372036854775807 := by omega
        have hyi : (z : Int) + (k : Int) = (y : Int) := by omega
        clear hql hs hZ hS hy Z
        go_wp2
        go_roundw
        case rel => exact ⟨q + 1, y, by first | rfl | go_num, by simp, hqn, Y, by first | rfl | trivial⟩
        case measure => simp [intOf]; omega
      · go_wp2
        go_ret
        exact ⟨⟨_, rfl, fun h => by omega⟩, by first | rfl | trivial⟩
    · have hqi : ¬ (q : Int) < (n : Int) := by omega
      have hZ := Z.out
      rw [List.take_of_length_le (by have := N.out; omega)] at hZ
      have F : Hid ((z : Int) ≤ (most : Int) → n + coords rs ≤ most) := fun h => by omega
      clear Z hZ
      go_wp2
      go_ret
      exact ⟨⟨_, rfl, F.out⟩, by first | rfl | trivial⟩
end Go.Proofs.YtepjbdklljlecaaGreat

/- theodolitekeep.BackRows: its walk. -/
namespace Go.Proofs.YtepjbdklljlecaaGreat
open Go.RowKit Go.Sort Go.Maps

set_option maxRecDepth 100000 in
set_option maxHeartbeats 1000000 in
theorem backrows_c {w0 w : World} {B T G : Nat} {v : Value} {rs : List Rw} {f : Nat → Value × Value} {gs : Nat → Nat} (hL : LT B T w G rs f gs) (g0 : Gb w0 w) (hB : w0.heap.size ≤ B) (hv : RdW w0 v rs) (hn : rs.length ≤ 65536) (hr : ∀ i, i < rs.length → rs[i]!.2.length ≤ 65536) :
    Calls Tryz.prog 13 #[.slice (some ⟨G, 0, none⟩) rs.length (rs.length + 1), v] w fun e w' => e = .returned (.bool true) ∧ Mid B T w w' := by
  have V : Hid (RdW w0 v rs) := hv
  have HR : Hid (∀ i, i < rs.length → rs[i]!.2.length ≤ 65536) := hr
  have LL : Hid (LT B T w G rs f gs) := hL
  obtain ⟨av, cv, rfl, _⟩ := hv
  obtain ⟨n, hN⟩ : ∃ n, n = rs.length := ⟨_, rfl⟩
  have N : Hid (n = rs.length) := hN
  obtain ⟨m, hM⟩ : ∃ m, m = n + 1 := ⟨_, rfl⟩
  have M : Hid (m = n + 1) := hM
  have hm : (n : Int) + 1 = (m : Int) := by omega
  have hnm : (n : Int) < (m : Int) := by omega
  have hnm2 : n ≤ m := by omega
  have hmk0 := (hL.arr.cell (i := rs.length) (by omega)).1
  rw [hL.mark] at hmk0
  have GG : Hid (Gb w0 w ∧ w0.heap.size ≤ B) := ⟨g0, hB⟩
  have S0 : Hid (Bk B T w w G rs f gs 0) := hL.bk
  rw [← hN] at V hn hmk0 ⊢
  rw [← hM]
  have hmb : m ≤ 65537 := by omega
  clear hN hM hr hL g0 hB
  go_enter Tryz.func13, Tryz.ntmps13
  go_wp2
  go_loopw [5, 6] (fun ok iv W => ok = .bool true ∧ ∃ p : Nat, iv = .int .i64 (p : Int) ∧ p ≤ n ∧ Hid (Bk B T w W G rs f gs p)) (fun _ iv _ => n - (intOf iv).toNat)
  case atStart => exact ⟨rfl, 0, rfl, Nat.zero_le _, S0.out⟩
  case round =>
    obtain ⟨rfl, p, rfl, hp, X⟩ := hrel
    by_cases hpn : p < n
    · have hpi : decide ((p : Int) < (n : Int)) = true := by rw [decide_eq_true_eq]; omega
      have hpp : (p : Int) < (n : Int) := by omega
      have hpm : (p : Int) < (m : Int) := by omega
      have hpl : p < rs.length := by have := N.out; omega
      obtain ⟨_, _, ev, hA⟩ := V.out
      obtain ⟨b, o, ur, ea, k1, k2, k3⟩ := hA p hpl
      injection ev with ev1 ev2 ev3
      subst ev1
      subst ea
      clear hA ev2 ev3
      have gX : Gb w0 wr := X.out.mid.gb GG.out.1 GG.out.2
      obtain ⟨r1, r2, r3, _⟩ := LL.out.row p hpl
      obtain ⟨f', a1, a2⟩ := X.out.arr
      have c1 := a1.cell (i := p) (by omega)
      rw [a2 p (Nat.le_refl _), r1] at c1
      have bw := World.block_lt_of_cell? w0 _ k1
      have hlo := LL.out.lo
      have hB2 := GG.out.2
      have hgp := r2.1
      have hne : b ≠ gs p := by simp only [] at bw; omega
      have hnG : G ≠ gs p := by omega
      have cl := back_c (X.out.drew.lent p (Nat.le_refl _) hpl) (k3.gb gX.drew) (HR.out p hpl)
      have FS0 : Qs wr.drew ⟨G, p * 2, none⟩ ⟨G, p * 2 + 1, none⟩ ⟨b, o + p * 2, none⟩ ⟨b, o + p * 2 + 1, none⟩ (.int .i64 rs[p]!.1) (.slice (some ⟨gs p, 0, none⟩) rs[p]!.2.length (rs[p]!.2.length + 1)) (.int .i64 rs[p]!.1) ur := ⟨c1.1, c1.2, gb_keeps gX k1, gb_keeps gX k2⟩
      obtain ⟨pr, cr, rfl, _⟩ := k3
      have XD : Hid (Bk B T w wr.drew G rs f gs p) := X.out.drew
      clear k1 k2 c1 a1 a2 r1 r2 r3 gX bw hlo hB2 hgp
      generalize rs[p]!.2.length = nr at *
      generalize rs[p]!.1 = x1 at *
      go_wp2
      refine wp_region_held_drew (S := fun w' => Qs w' ⟨G, p * 2, none⟩ ⟨G, p * 2 + 1, none⟩ ⟨b, o + p * 2, none⟩ ⟨b, o + p * 2 + 1, none⟩ (.int .i64 x1) (.slice (some ⟨gs p, 0, none⟩) nr (nr + 1)) (.int .i64 x1) (.slice pr nr cr)) (by kernel_rfl) (FS0) (fun hHeld => ?_)
      refine wpAnyH_take (i := 0) (v := ?_) rfl (by kernel_rfl) (by kernel_rfl) (by kernel_rfl) (fun _ _ _ h => h) (Or.inl ⟨by rfl, ?_⟩) (by assumption) ?_
      rotate_left 1
      · (intro w hSw; (obtain ⟨s1, s2, s3, s4⟩ := hSw); go_simp; try with_reducible rfl)
      try simp only [Act.put, List.getElem_toArray, List.getElem_cons_zero, List.setIfInBounds_toArray, List.set_cons_zero, List.set_cons_succ]
      refine wpAnyH_take (i := 1) (v := ?_) rfl (by kernel_rfl) (by kernel_rfl) (by kernel_rfl) (fun _ _ _ h => h) (Or.inl ⟨by rfl, ?_⟩) (by assumption) ?_
      rotate_left 1
      · (intro w hSw; (obtain ⟨s1, s2, s3, s4⟩ := hSw); go_simp; try with_reducible rfl)
      try simp only [Act.put, List.getElem_toArray, List.getElem_cons_zero, List.getElem_cons_succ, List.setIfInBounds_toArray, List.set_cons_zero, List.set_cons_succ]
      refine wpAnyH_take (i := 2) (v := ?_) rfl (by kernel_rfl) (by kernel_rfl) (by kernel_rfl) (fun _ _ _ h => h) (Or.inl ⟨by rfl, ?_⟩) (by assumption) ?_
      rotate_left 1
      · (intro w hSw; (obtain ⟨s1, s2, s3, s4⟩ := hSw); go_simp; try with_reducible rfl)
      try simp only [Act.put, List.getElem_toArray, List.getElem_cons_zero, List.getElem_cons_succ, List.setIfInBounds_toArray, List.set_cons_zero, List.set_cons_succ]
      refine wpAnyH_take (i := 3) (v := ?_) rfl (by kernel_rfl) (by kernel_rfl) (by kernel_rfl) (fun _ _ _ h => h) (Or.inl ⟨by rfl, ?_⟩) (by assumption) ?_
      rotate_left 1
      · (intro w hSw; (obtain ⟨s1, s2, s3, s4⟩ := hSw); go_simp; try with_reducible rfl)
      try simp only [Act.put, List.getElem_toArray, List.getElem_cons_zero, List.getElem_cons_succ, List.setIfInBounds_toArray, List.set_cons_zero, List.set_cons_succ]
      refine wpAnyH_take (i := 4) (v := ?_) rfl (by kernel_rfl) (by kernel_rfl) (by kernel_rfl) (fun _ _ _ h => h) (Or.inl ⟨by rfl, ?_⟩) (by assumption) ?_
      rotate_left 1
      · (intro w hSw; (obtain ⟨s1, s2, s3, s4⟩ := hSw); go_simp; try with_reducible rfl)
      try simp only [Act.put, List.getElem_toArray, List.getElem_cons_zero, List.getElem_cons_succ, List.setIfInBounds_toArray, List.set_cons_zero, List.set_cons_succ]
      refine wpAnyH_take (i := 5) (v := ?_) rfl (by kernel_rfl) (by kernel_rfl) (by kernel_rfl) (fun _ _ _ h => h) (Or.inl ⟨by rfl, ?_⟩) (by assumption) ?_
      rotate_left 1
      · (intro w hSw; (obtain ⟨s1, s2, s3, s4⟩ := hSw); go_simp; try with_reducible rfl)
      try simp only [Act.put, List.getElem_toArray, List.getElem_cons_zero, List.getElem_cons_succ, List.setIfInBounds_toArray, List.set_cons_zero, List.set_cons_succ]
      refine wpAnyH_take (i := 6) (v := ?_) rfl (by kernel_rfl) (by kernel_rfl) (by kernel_rfl) (fun _ _ _ h => h) (Or.inl ⟨by rfl, ?_⟩) (by assumption) ?_
      rotate_left 1
      · (intro w hSw; (obtain ⟨s1, s2, s3, s4⟩ := hSw); go_simp; try with_reducible rfl)
      try simp only [Act.put, List.getElem_toArray, List.getElem_cons_zero, List.getElem_cons_succ, List.setIfInBounds_toArray, List.set_cons_zero, List.set_cons_succ]
      refine wpAnyH_take (i := 7) (v := ?_) rfl (by kernel_rfl) (by kernel_rfl) (by kernel_rfl) (fun _ _ _ h => h) (Or.inl ⟨by rfl, ?_⟩) (by assumption) ?_
      rotate_left 1
      · (intro w hSw; (obtain ⟨s1, s2, s3, s4⟩ := hSw); go_simp; try with_reducible rfl)
      try simp only [Act.put, List.getElem_toArray, List.getElem_cons_zero, List.getElem_cons_succ, List.setIfInBounds_toArray, List.set_cons_zero, List.set_cons_succ]
      refine wpAnyH_take (i := 8) (v := ?_) rfl (by kernel_rfl) (by kernel_rfl) (by kernel_rfl) (fun _ _ _ h => h) (Or.inl ⟨by rfl, ?_⟩) (by assumption) ?_
      rotate_left 1
      · (intro w hSw; (obtain ⟨s1, s2, s3, s4⟩ := hSw); go_simp; try with_reducible rfl)
      try simp only [Act.put, List.getElem_toArray, List.getElem_cons_zero, List.getElem_cons_succ, List.setIfInBounds_toArray, List.set_cons_zero, List.set_cons_succ]
      refine wpAnyH_take (i := 9) (v := ?_) rfl (by kernel_rfl) (by kernel_rfl) (by kernel_rfl) (fun _ _ _ h => h) (Or.inl ⟨by rfl, ?_⟩) (by assumption) ?_
      rotate_left 1
      · (intro w hSw; (obtain ⟨s1, s2, s3, s4⟩ := hSw); go_simp; try with_reducible rfl)
      try simp only [Act.put, List.getElem_toArray, List.getElem_cons_zero, List.getElem_cons_succ, List.setIfInBounds_toArray, List.set_cons_zero, List.set_cons_succ]
      refine wpAnyH_take (i := 10) (v := ?_) rfl (by kernel_rfl) (by kernel_rfl) (by kernel_rfl) (fun _ _ _ h => h) (Or.inl ⟨by rfl, ?_⟩) (by assumption) ?_
      rotate_left 1
      · (intro w hSw; (obtain ⟨s1, s2, s3, s4⟩ := hSw); go_simp; try with_reducible rfl)
      try simp only [Act.put, List.getElem_toArray, List.getElem_cons_zero, List.getElem_cons_succ, List.setIfInBounds_toArray, List.set_cons_zero, List.set_cons_succ]
      refine wpAnyH_take (i := 11) (v := ?_) rfl (by kernel_rfl) (by kernel_rfl) (by kernel_rfl) (fun _ _ _ h => h) (Or.inl ⟨by rfl, ?_⟩) (by assumption) ?_
      rotate_left 1
      · (intro w hSw; (obtain ⟨s1, s2, s3, s4⟩ := hSw); go_simp; try with_reducible rfl)
      try simp only [Act.put, List.getElem_toArray, List.getElem_cons_zero, List.getElem_cons_succ, List.setIfInBounds_toArray, List.set_cons_zero, List.set_cons_succ]
      refine wpAnyH_take (i := 12) (v := ?_) rfl (by kernel_rfl) (by kernel_rfl) (by kernel_rfl) (fun _ _ _ h => h) (Or.inl ⟨by rfl, ?_⟩) (by assumption) ?_
      rotate_left 1
      · (intro w hSw; (obtain ⟨s1, s2, s3, s4⟩ := hSw); go_simp; try with_reducible rfl)
      try simp only [Act.put, List.getElem_toArray, List.getElem_cons_zero, List.getElem_cons_succ, List.setIfInBounds_toArray, List.set_cons_zero, List.set_cons_succ]
      refine wpAnyH_take (i := 13) (v := ?_) rfl (by kernel_rfl) (by kernel_rfl) (by kernel_rfl) (fun _ _ _ h => h) (Or.inl ⟨by rfl, ?_⟩) (by assumption) ?_
      rotate_left 1
      · (intro w hSw; (obtain ⟨s1, s2, s3, s4⟩ := hSw); go_simp; try with_reducible rfl)
      try simp only [Act.put, List.getElem_toArray, List.getElem_cons_zero, List.getElem_cons_succ, List.setIfInBounds_toArray, List.set_cons_zero, List.set_cons_succ]
      refine wpAnyH_take (i := 14) (v := ?_) rfl (by kernel_rfl) (by kernel_rfl) (by kernel_rfl) (fun _ _ _ h => h) (Or.inl ⟨by rfl, ?_⟩) (by assumption) ?_
      rotate_left 1
      · (intro w hSw; (obtain ⟨s1, s2, s3, s4⟩ := hSw); go_simp; try with_reducible rfl)
      try simp only [Act.put, List.getElem_toArray, List.getElem_cons_zero, List.getElem_cons_succ, List.setIfInBounds_toArray, List.set_cons_zero, List.set_cons_succ]
      refine wpAnyH_take (i := 15) (v := ?_) rfl (by kernel_rfl) (by kernel_rfl) (by kernel_rfl) (fun _ _ _ h => h) (Or.inl ⟨by rfl, ?_⟩) (by assumption) ?_
      rotate_left 1
      · (intro w hSw; (obtain ⟨s1, s2, s3, s4⟩ := hSw); go_simp; try with_reducible rfl)
      try simp only [Act.put, List.getElem_toArray, List.getElem_cons_zero, List.getElem_cons_succ, List.setIfInBounds_toArray, List.set_cons_zero, List.set_cons_succ]
      refine wpAnyH_take (i := 16) (v := ?_) rfl (by kernel_rfl) (by kernel_rfl) (by kernel_rfl) (fun _ _ _ h => h) (Or.inl ⟨by rfl, ?_⟩) (by assumption) ?_
      rotate_left 1
      · (intro w hSw; (obtain ⟨s1, s2, s3, s4⟩ := hSw); go_simp; try with_reducible rfl)
      try simp only [Act.put, List.getElem_toArray, List.getElem_cons_zero, List.getElem_cons_succ, List.setIfInBounds_toArray, List.set_cons_zero, List.set_cons_succ]
      refine wpAnyH_take (i := 17) (v := ?_) rfl (by kernel_rfl) (by kernel_rfl) (by kernel_rfl) (fun _ _ _ h => h) (Or.inl ⟨by rfl, ?_⟩) (by assumption) ?_
      rotate_left 1
      · (intro w hSw; (obtain ⟨s1, s2, s3, s4⟩ := hSw); go_simp; try with_reducible rfl)
      try simp only [Act.put, List.getElem_toArray, List.getElem_cons_zero, List.getElem_cons_succ, List.setIfInBounds_toArray, List.set_cons_zero, List.set_cons_succ]
      refine wpAnyH_take (i := 18) (v := ?_) rfl (by kernel_rfl) (by kernel_rfl) (by kernel_rfl) (fun _ _ _ h => h) (Or.inl ⟨by rfl, ?_⟩) (by assumption) ?_
      rotate_left 1
      · (intro w hSw; (obtain ⟨s1, s2, s3, s4⟩ := hSw); go_simp; try with_reducible rfl)
      try simp only [Act.put, List.getElem_toArray, List.getElem_cons_zero, List.getElem_cons_succ, List.setIfInBounds_toArray, List.set_cons_zero, List.set_cons_succ]
      refine wpAnyH_take (i := 19) (v := ?_) rfl (by kernel_rfl) (by kernel_rfl) (by kernel_rfl) (fun _ _ _ h => h) (Or.inl ⟨by rfl, ?_⟩) (by assumption) ?_
      rotate_left 1
      · (intro w hSw; (obtain ⟨s1, s2, s3, s4⟩ := hSw); go_simp; try with_reducible rfl)
      try simp only [Act.put, List.getElem_toArray, List.getElem_cons_zero, List.getElem_cons_succ, List.setIfInBounds_toArray, List.set_cons_zero, List.set_cons_succ]
      refine wpAnyH_take (i := 20) (v := ?_) rfl (by kernel_rfl) (by kernel_rfl) (by kernel_rfl) (fun _ _ _ h => h) (Or.inl ⟨by rfl, ?_⟩) (by assumption) ?_
      rotate_left 1
      · (intro w hSw; (obtain ⟨s1, s2, s3, s4⟩ := hSw); go_simp; try with_reducible rfl)
      try simp only [Act.put, List.getElem_toArray, List.getElem_cons_zero, List.getElem_cons_succ, List.setIfInBounds_toArray, List.set_cons_zero, List.set_cons_succ]
      refine wpAnyH_take (i := 21) (v := ?_) rfl (by kernel_rfl) (by kernel_rfl) (by kernel_rfl) (fun _ _ _ h => h) (Or.inl ⟨by rfl, ?_⟩) (by assumption) ?_
      rotate_left 1
      · (intro w hSw; (obtain ⟨s1, s2, s3, s4⟩ := hSw); go_simp; try with_reducible rfl)
      try simp only [Act.put, List.getElem_toArray, List.getElem_cons_zero, List.getElem_cons_succ, List.setIfInBounds_toArray, List.set_cons_zero, List.set_cons_succ]
      refine wpAnyH_take (i := 22) (v := ?_) rfl (by kernel_rfl) (by kernel_rfl) (by kernel_rfl) (fun _ _ _ h => h) (Or.inl ⟨by rfl, ?_⟩) (by assumption) ?_
      rotate_left 1
      · (intro w hSw; (obtain ⟨s1, s2, s3, s4⟩ := hSw); go_simp; try with_reducible rfl)
      try simp only [Act.put, List.getElem_toArray, List.getElem_cons_zero, List.getElem_cons_succ, List.setIfInBounds_toArray, List.set_cons_zero, List.set_cons_succ]
      refine wpAnyH_take (i := 23) (v := ?_) rfl (by kernel_rfl) (by kernel_rfl) (by kernel_rfl) (fun _ _ _ h => h) (Or.inl ⟨by rfl, ?_⟩) (by assumption) ?_
      rotate_left 1
      · (intro w hSw; (obtain ⟨s1, s2, s3, s4⟩ := hSw); go_simp; try with_reducible rfl)
      try simp only [Act.put, List.getElem_toArray, List.getElem_cons_zero, List.getElem_cons_succ, List.setIfInBounds_toArray, List.set_cons_zero, List.set_cons_succ]
      refine wpAnyH_take (i := 24) (v := ?_) rfl (by kernel_rfl) (by kernel_rfl) (by kernel_rfl) (fun _ _ _ h => h) (Or.inl ⟨by rfl, ?_⟩) (by assumption) ?_
      rotate_left 1
      · (intro w hSw; (obtain ⟨s1, s2, s3, s4⟩ := hSw); go_simp; try with_reducible rfl)
      try simp only [Act.put, List.getElem_toArray, List.getElem_cons_zero, List.getElem_cons_succ, List.setIfInBounds_toArray, List.set_cons_zero, List.set_cons_succ]
      refine wpAnyH_ready (rs := [25]) (by kernel_rfl) (by simp) ?_
      refine AllReadyH.cons rfl (fun K hK => ?_) AllReadyH.nil
      go_simp
      refine cl.mono ?_
      rintro e w4 ⟨rfl, g4⟩
      refine hK.out _ _ (hHeld.grown g4 hnG hnG hne hne) (fun hHeld => ?_)
      clear hK K
      try simp only [Act.put, List.getElem_toArray, List.getElem_cons_zero, List.getElem_cons_succ, List.setIfInBounds_toArray, List.set_cons_zero, List.set_cons_succ]
      refine wpAnyH_take (i := 26) (v := ?_) rfl (by kernel_rfl) (by kernel_rfl) (by kernel_rfl) (fun _ _ _ h => h) (Or.inl ⟨by rfl, ?_⟩) (by assumption) ?_
      rotate_left 1
      · (intro w hSw; (obtain ⟨s1, s2, s3, s4⟩ := hSw); go_simp; try with_reducible rfl)
      try simp only [Act.put, List.getElem_toArray, List.getElem_cons_zero, List.getElem_cons_succ, List.setIfInBounds_toArray, List.set_cons_zero, List.set_cons_succ]
      refine wpAnyH_take (i := 27) (v := ?_) rfl (by kernel_rfl) (by kernel_rfl) (by kernel_rfl) (fun _ _ _ h => h) (Or.inl ⟨by rfl, ?_⟩) (by assumption) ?_
      rotate_left 1
      · (intro w hSw; (obtain ⟨s1, s2, s3, s4⟩ := hSw); go_simp; try with_reducible rfl)
      try simp only [Act.put, List.getElem_toArray, List.getElem_cons_zero, List.getElem_cons_succ, List.setIfInBounds_toArray, List.set_cons_zero, List.set_cons_succ]
      refine wpAnyH_done (by kernel_rfl) ?_ _
      obtain ⟨f4, a4, _⟩ := XD.out.arr
      have a5 := a4.block (g4.block G a4.lt (by simp; omega))
      have q0 := hHeld.ca
      have q1 := hHeld.cb
      have f0 := a5.frozen (p * 2)
      have f1 := a5.frozen (p * 2 + 1)
      have XN : Hid _ := XD.out.step LL.out hpl g4 (.int .i64 5) (.slice none 0 0)
      clear a4 a5 hHeld cl FS0
      go_wp2
      exact ⟨⟨rfl, p + 1, by go_num, hpn, XN.out⟩, by simp [intOf]; omega⟩
    · have hpi : ¬ (p : Int) < (n : Int) := by omega
      go_wp2
      go_ret
      exact ⟨rfl, X.out.mid⟩
end Go.Proofs.YtepjbdklljlecaaGreat
