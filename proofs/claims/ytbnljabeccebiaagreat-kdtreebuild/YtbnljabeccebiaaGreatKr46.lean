import Derived.Test.YtbnljabeccebiaaGreatKr45
import Derived.Test.YtbnljabeccebiaaGreatKrReg
import Derived.Test.YtbnljabeccebiaaGreatKr39
import Derived.Test.YtbnljabeccebiaaGreatKr43
/- theodolitekeep.Spoil: what it writes over is the answer's own. -/
namespace Go.Proofs.YtbnljabeccebiaaGreat
open Go.RowKit Go.Sort

/-- No block of cells has turned but of these types; those keep their size, and numbers stay numbers. -/
structure Shp (P : TypeId → Prop) (W W' : World) : Prop where
  keep : ∀ (k : Nat) (cur : Array Value) (t : TypeId) (f : Nat × Nat), W.heap[k]? = some (.cells cur t f) → ¬ P t → W'.heap[k]? = W.heap[k]?
  size : ∀ (k : Nat) (cur : Array Value) (t : TypeId) (f : Nat × Nat), W.heap[k]? = some (.cells cur t f) → ∃ cur', W'.heap[k]? = some (.cells cur' t f) ∧ cur'.size = cur.size ∧ (t = 3 → ∀ (i : Nat) (x : Int), cur[i]? = some (.int .i64 x) → ∃ y : Int, cur'[i]? = some (.int .i64 y))
theorem Shp.refl (P : TypeId → Prop) (W : World) : Shp P W W := ⟨fun _ _ _ _ _ _ => rfl, fun _ cur _ _ h => ⟨cur, h, rfl, fun _ _ x hx => ⟨x, hx⟩⟩⟩
theorem Shp.trans {P : TypeId → Prop} {a b c : World} (h : Shp P a b) (g : Shp P b c) : Shp P a c := by
  refine ⟨fun k cur t f e n => ?_, fun k cur t f e => ?_⟩
  · have h1 := h.keep k cur t f e n
    exact (g.keep k cur t f (h1.trans e) n).trans h1
  · obtain ⟨c1, e1, s1, i1⟩ := h.size k cur t f e
    obtain ⟨c2, e2, s2, i2⟩ := g.size k c1 t f e1
    refine ⟨c2, e2, s2.trans s1, fun e3 i x hx => ?_⟩
    obtain ⟨y, hy⟩ := i1 e3 i x hx
    exact i2 e3 i y hy
theorem Shp.mono {P Q : TypeId → Prop} {a b : World} (h : Shp P a b) (hp : ∀ t, P t → Q t) : Shp Q a b := ⟨fun k cur t f e n => h.keep k cur t f e fun p => n (hp t p), h.size⟩
theorem Shp.gb {P : TypeId → Prop} {a b : World} (g : Gb a b) : Shp P a b :=
  ⟨fun k _ _ _ e _ => g.block k (Array.getElem?_eq_some_iff.1 e).1, fun k cur _ _ e => ⟨cur, (g.block k (Array.getElem?_eq_some_iff.1 e).1).trans e, rfl, fun _ _ x hx => ⟨x, hx⟩⟩⟩
theorem heap_set {W : World} {g o : Nat} {x : Value} {cur : Array Value} {t : TypeId} {f : Nat × Nat} (h : W.heap[g]? = some (.cells cur t f)) : (W.setCell ⟨g, o, none⟩ x).heap[g]? = some (.cells (cur.setIfInBounds o x) t f) := by
  simp [World.setCell, Array.getElem?_modify, h]
theorem Shp.set {P : TypeId → Prop} {W : World} {g : Nat} {cur : Array Value} {t : TypeId} {f : Nat × Nat} (h : W.heap[g]? = some (.cells cur t f)) (hp : P t) (o : Nat) (x : Value) (hx : t = 3 → ∃ y : Int, x = .int .i64 y) : Shp P W (W.setCell ⟨g, o, none⟩ x) := by
  refine ⟨fun k cur' t' f' e n => ?_, fun k cur' t' f' e => ?_⟩
  · by_cases hk : k = g
    · subst hk; rw [h] at e; cases e; exact absurd hp n
    · exact Below.heap_setCell _ _ _ _ (by dsimp only; exact hk)
  · by_cases hk : k = g
    · subst hk
      rw [h] at e; cases e
      refine ⟨_, heap_set h, by simp, fun e3 i z hz => ?_⟩
      by_cases hi : i = o
      · subst hi
        obtain ⟨y, rfl⟩ := hx e3
        have hlt : i < cur.size := (Array.getElem?_eq_some_iff.1 hz).1
        exact ⟨y, by rw [Array.getElem?_setIfInBounds_self_of_lt hlt]⟩
      · exact ⟨z, by rw [Array.getElem?_setIfInBounds_ne (fun e => hi e.symm)]; exact hz⟩
    · exact ⟨cur', (Below.heap_setCell _ _ _ _ (by dsimp only; exact hk)).trans e, rfl, fun _ _ z hz => ⟨z, hz⟩⟩
/-- Nothing has turned but in the blocks from B on below T, and these only so. -/
structure MS (P : TypeId → Prop) (B T : Nat) (W W' : World) : Prop where
  mid : Mid B T W W'
  shp : Shp P W W'
theorem Mid.trans {B T : Nat} {a b c : World} (h : Mid B T a b) (g : Mid B T b c) : Mid B T a c :=
  ⟨g.os.trans h.os, g.tape.trans h.tape, g.output.trans h.output, Nat.le_trans h.size g.size, fun k hk hb => (g.block k (Nat.lt_of_lt_of_le hk h.size) hb).trans (h.block k hk hb)⟩
theorem mid_gb {B T : Nat} {a b : World} (g : Gb a b) : Mid B T a b := ⟨g.os, g.tape, g.output, g.size, fun k hk _ => g.block k hk⟩
theorem MS.refl (P : TypeId → Prop) (B T : Nat) (W : World) : MS P B T W W := ⟨Mid.refl _ _ _, Shp.refl _ _⟩
theorem MS.trans {P : TypeId → Prop} {B T : Nat} {a b c : World} (h : MS P B T a b) (g : MS P B T b c) : MS P B T a c := ⟨h.mid.trans g.mid, h.shp.trans g.shp⟩
theorem MS.mono {P Q : TypeId → Prop} {B T : Nat} {a b : World} (h : MS P B T a b) (hp : ∀ t, P t → Q t) : MS Q B T a b := ⟨h.mid, h.shp.mono hp⟩
theorem ms_gb {P : TypeId → Prop} {B T : Nat} {a b : World} (g : Gb a b) : MS P B T a b := ⟨mid_gb g, Shp.gb g⟩
theorem MS.set {P : TypeId → Prop} {B T g : Nat} {W0 W : World} {cur : Array Value} {t : TypeId} {f : Nat × Nat} (m : MS P B T W0 W) (h1 : B ≤ g) (h2 : g < T) (h : W.heap[g]? = some (.cells cur t f)) (hp : P t) (o : Nat) (x : Value) (hx : t = 3 → ∃ y : Int, x = .int .i64 y) : MS P B T W0 (W.setCell ⟨g, o, none⟩ x) :=
  ⟨⟨m.mid.os, m.mid.tape, m.mid.output, by simpa [World.setCell] using m.mid.size, fun k hk hb => (Below.heap_setCell _ _ _ _ (by dsimp only; omega)).trans (m.mid.block k hk hb)⟩, m.shp.trans (Shp.set h hp o x hx)⟩
theorem MS.cell {P : TypeId → Prop} {B T b o : Nat} {W W' : World} {v : Value} (m : MS P B T W W') (hb : T ≤ b) (h : W.cell? ⟨b, o, none⟩ = some v) : W'.cell? ⟨b, o, none⟩ = some v :=
  (World.cell?_of_block (a := ⟨b, o, none⟩) (m.mid.block b (World.block_lt_of_cell? W _ h) (.inr hb))).trans h
/-- A list of cells, k a place, that may be written over. -/
def WL (W : World) (B T : Nat) (ty : TypeId) (k : Nat) (a : Option Addr) (n : Nat) : Prop := n = 0 ∨ ∃ g cur, a = some ⟨g, 0, none⟩ ∧ B ≤ g ∧ g < T ∧ W.heap[g]? = some (.cells cur ty (0, 0)) ∧ n * k ≤ cur.size
theorem WL.ms {P : TypeId → Prop} {W W' : World} {B T B' T' : Nat} {ty : TypeId} {k : Nat} {a : Option Addr} {n : Nat} (h : WL W B T ty k a n) (m : MS P B' T' W W') : WL W' B T ty k a n := by
  rcases h with h | ⟨g, cur, e, h1, h2, h3, h4⟩
  · exact .inl h
  · obtain ⟨c1, e1, s1, _⟩ := m.shp.size g cur ty (0, 0) h3
    exact .inr ⟨g, c1, e, h1, h2, e1, by omega⟩
/-- A list of numbers that may be written over. -/
def WI (W : World) (B T : Nat) (v : Value) : Prop := ∃ a n c, v = .slice a n c ∧ n ≤ 4611686018427387904 ∧ (n = 0 ∨ ∃ g cur, a = some ⟨g, 0, none⟩ ∧ B ≤ g ∧ g < T ∧ W.heap[g]? = some (.cells cur 3 (0, 0)) ∧ ∀ i, i < n → ∃ x : Int, cur[i]? = some (.int .i64 x))
theorem WI.ms {P : TypeId → Prop} {W W' : World} {B T B' T' : Nat} {v : Value} (h : WI W B T v) (m : MS P B' T' W W') : WI W' B T v := by
  obtain ⟨a, n, c, rfl, hn, h⟩ := h
  refine ⟨a, n, c, rfl, hn, ?_⟩
  rcases h with h | ⟨g, cur, e, h1, h2, h3, h4⟩
  · exact .inl h
  · obtain ⟨c1, e1, s1, i1⟩ := m.shp.size g cur 3 (0, 0) h3
    exact .inr ⟨g, c1, e, h1, h2, e1, fun i hi => by obtain ⟨x, hx⟩ := h4 i hi; exact i1 rfl i x hx⟩
theorem wi_own {W : World} {B T : Nat} {v : Value} {l : List Int} (h : Own W B v l) (hn : l.length ≤ 4611686018427387904) (hT : ∀ g, v.ownBlock = some g → g < T) : WI W B T v := by
  rcases h.2 with ⟨rfl, h0⟩ | ⟨g, cap, cur, rfl, hb, hh, hc, _, hs, ht⟩
  · exact ⟨none, 0, 0, rfl, Nat.zero_le _, .inl rfl⟩
  · refine ⟨_, _, _, rfl, hn, .inr ⟨g, cur, rfl, hb, hT g rfl, hh, fun i hi => ?_⟩⟩
    have h1 : (cur.toList.take (l.length * 1))[i]? = (l.map (Value.int .i64))[i]? := by rw [ht]
    rw [List.getElem?_take_of_lt (by omega), List.getElem?_map, List.getElem?_eq_getElem hi] at h1
    exact ⟨l[i], by simpa using h1⟩
/-- An answer that may be written over. -/
structure OwnA (W : World) (B T : Nat) (vh vs vr : Value) : Prop where
  top : T ≤ W.heap.size
  hits : ∃ a n c, vh = .slice a n c ∧ n ≤ 4611686018427387904 ∧ WL W B T 68 3 a n
  seen : WI W B T vs
  rest : ∃ a n c, vr = .slice a n c ∧ n ≤ 4611686018427387904 ∧ (n = 0 ∨ ∃ g cur, a = some ⟨g, 0, none⟩ ∧ B ≤ g ∧ g < T ∧ W.heap[g]? = some (.cells cur 101 (0, 0)) ∧
    ∀ i, i < n → ∃ (S : Int) (vl vu : Value) (h l : Int) (vi : Value), cur[i * 6]? = some (.int .i64 S) ∧ cur[i * 6 + 1]? = some vl ∧ cur[i * 6 + 2]? = some vu ∧ cur[i * 6 + 3]? = some (.int .u64 h) ∧ cur[i * 6 + 4]? = some (.int .u64 l) ∧ cur[i * 6 + 5]? = some vi ∧ WI W B T vl ∧ WI W B T vu ∧ WI W B T vi)
theorem OwnA.gb {W W' : World} {B T : Nat} {vh vs vr : Value} (h : OwnA W B T vh vs vr) (g : Gb W W') : OwnA W' B T vh vs vr := by
  have m : MS (fun _ => False) B T W W' := ms_gb g
  obtain ⟨a, n, c, e, hn, hl⟩ := h.hits
  obtain ⟨a', n', c', e', hn', hl'⟩ := h.rest
  refine ⟨Nat.le_trans h.top g.size, ⟨a, n, c, e, hn, hl.ms m⟩, h.seen.ms m, ⟨a', n', c', e', hn', ?_⟩⟩
  rcases hl' with h0 | ⟨x, cur, h1, h2, h3, h4, h5⟩
  · exact .inl h0
  · refine .inr ⟨x, cur, h1, h2, h3, (g.block x (Array.getElem?_eq_some_iff.1 h4).1).trans h4, fun i hi => ?_⟩
    obtain ⟨S, vl, vu, p, l, vi, d0, d1, d2, d3, d4, d5, w1, w2, w3⟩ := h5 i hi
    exact ⟨S, vl, vu, p, l, vi, d0, d1, d2, d3, d4, d5, w1.ms m, w2.ms m, w3.ms m⟩
theorem cell_of {W : World} {g o : Nat} {cur : Array Value} {t : TypeId} {v : Value} (h : W.heap[g]? = some (.cells cur t (0, 0))) (hc : cur[o]? = some v) : W.cell? ⟨g, o, none⟩ = some v := by simp [World.cell?, h, hc]
theorem froz_of {W : World} {g : Nat} {cur : Array Value} {t : TypeId} (h : W.heap[g]? = some (.cells cur t (0, 0))) (o : Nat) : W.frozen? ⟨g, o, none⟩ = false := by simp [World.frozen?, h]
abbrev tInt : TypeId → Prop := fun t => t = 3
end Go.Proofs.YtbnljabeccebiaaGreat

/- A search's answer, plainly: sound, within its budget, the same in every later world. -/
namespace Go.Proofs.YtbnljabeccebiaaGreat
open Go.RowKit Go.Sort

theorem own_cur {W : World} {B n k : Nat} {t : TypeId} {v : Value} {xs : List Value} {g : Nat} {cap n' : Nat} (h : W.ownsRow B t k v n xs) (e : v = .slice (some ⟨g, 0, none⟩) n' cap) : ∃ cur, B ≤ g ∧ g < W.heap.size ∧ W.heap[g]? = some (.cells cur t (0, 0)) ∧ n * k ≤ cur.size ∧ ∀ (j : Nat) u, xs[j]? = some u → cur[j]? = some u := by
  have hc := h.cells (g := g) (by rw [e]; rfl)
  have hlt := h.lt g (by rw [e]; rfl)
  rcases h.2 with ⟨e', _⟩ | ⟨g', cap', cur, e', hB, hh, h1, h2, h3, _⟩
  · rw [e] at e'; cases e'
  · rw [e] at e'
    cases e'
    refine ⟨cur, hlt.1, hlt.2, hh, by rw [h3]; exact Nat.mul_le_mul_right k h1, fun j u hj => ?_⟩
    have := hc j u hj
    rw [Addr.add_lit, Nat.zero_add] at this
    simpa [World.cell?, hh] using this
end Go.Proofs.YtbnljabeccebiaaGreat

/- theodolitekeep.SpoilRows. -/
namespace Go.Proofs.YtbnljabeccebiaaGreat
open Go.RowKit Go.Sort

abbrev tRw : TypeId → Prop := fun t => t = 3 ∨ t = 43
set_option maxRecDepth 100000 in
set_option maxHeartbeats 1000000 in
theorem spoilrows_c {w : World} {B T g n cap : Nat} {rcur : Array Value} (top : T ≤ w.heap.size) (hn : n ≤ 4611686018427387904) (hB : B ≤ g) (hT : g < T) (hb : w.heap[g]? = some (.cells rcur 43 (0, 0)))
    (hr : ∀ i, i < n → ∃ (x : Int) (u : Value), rcur[i * 2]? = some (.int .i64 x) ∧ rcur[i * 2 + 1]? = some u ∧ WI w B T u) :
    Calls Tryz.prog 35 #[.slice (some ⟨g, 0, none⟩) n cap] w fun e w' => e = .returned (.tuple #[]) ∧ Mid B T w w' := by
  have TOP : Hid (T ≤ w.heap.size) := top
  have HR : Hid (∀ i, i < n → ∃ (x : Int) (u : Value), rcur[i * 2]? = some (.int .i64 x) ∧ rcur[i * 2 + 1]? = some u ∧ WI w B T u) := hr
  have HB : Hid (w.heap[g]? = some (.cells rcur 43 (0, 0)) ∧ B ≤ g ∧ g < T) := ⟨hb, hB, hT⟩
  clear top hr hb hB hT
  go_enter Tryz.func35, Tryz.ntmps35
  go_wp2
  go_loopw [2] (fun iv W => ∃ p : Nat, iv = .int .i64 (p : Int) ∧ p ≤ n ∧ Hid (MS tRw B T w W ∧ ∃ cur', W.heap[g]? = some (.cells cur' 43 (0, 0)) ∧ cur'.size = rcur.size ∧ ∀ j, p * 2 ≤ j → cur'[j]? = rcur[j]?)) (fun iv _ => n - (intOf iv).toNat)
  case atStart => exact ⟨0, rfl, Nat.zero_le _, MS.refl _ _ _ _, rcur, HB.out.1, rfl, fun _ _ => rfl⟩
  case round =>
    obtain ⟨p, rfl, hp, X⟩ := hrel
    by_cases hpn : p < n
    · have hpi : decide ((p : Int) < (n : Int)) = true := by rw [decide_eq_true_eq]; omega
      have hpp : (p : Int) < (n : Int) := by omega
      obtain ⟨cur', s3, s4, s5⟩ := X.out.2
      obtain ⟨x, u, d0, d1, w1⟩ := HR.out p hpn
      rw [← s5 _ (by omega)] at d0 d1
      obtain ⟨W3, hW3⟩ : ∃ W3, W3 = wr := ⟨_, rfl⟩
      have M3 : Hid (MS tRw B T w W3) := by rw [hW3]; exact X.out.1
      have L1 : Hid (WI W3 B T u) := w1.ms M3.out
      have HC : Hid (W3.heap[g]? = some (.cells cur' 43 (0, 0)) ∧ cur'.size = rcur.size ∧ (∀ j, p * 2 ≤ j → cur'[j]? = rcur[j]?) ∧ cur'[p * 2]? = some (.int .i64 x) ∧ cur'[p * 2 + 1]? = some u) := by rw [hW3]; exact ⟨s3, s4, s5, d0, d1⟩
      have MI : Hid (MS tInt B T W3 wr) := by rw [hW3]; exact MS.refl _ _ _ _
      obtain ⟨a1, n1, q1, e1, b1', _⟩ := w1
      subst e1
      clear s3 s4 s5 d0 d1 X hW3
      go_wp2_with fail
      go_loopw [3] (fun iv W => ∃ y : Nat, iv = .int .i64 (y : Int) ∧ y ≤ n1 ∧ Hid (MS tInt B T W3 W)) (fun iv _ => n1 - (intOf iv).toNat)
      case atStart => exact ⟨0, rfl, Nat.zero_le _, MI⟩
      case round =>
        clear MI
        obtain ⟨y, rfl, hy, X⟩ := hrel
        have h5 : wr.heap[g]? = some (.cells cur' 43 (0, 0)) := (X.out.shp.keep g _ _ _ HC.out.1 (by simp)).trans HC.out.1
        have b0 := cell_of h5 HC.out.2.2.2.1
        have b1 := cell_of h5 HC.out.2.2.2.2
        by_cases hyn : y < n1
        · have hyi : (y : Int) < (n1 : Int) := by omega
          obtain ⟨vb, cur, e, h1, h2, h3, h4⟩ : ∃ vb cur, a1 = some ⟨vb, 0, none⟩ ∧ B ≤ vb ∧ vb < T ∧ wr.heap[vb]? = some (.cells cur 3 (0, 0)) ∧ ∀ i, i < n1 → ∃ x : Int, cur[i]? = some (.int .i64 x) := by
            obtain ⟨_, _, _, e, _, h⟩ := L1.out.ms X.out
            cases e
            rcases h with h | h
            · omega
            · exact h
          subst e
          obtain ⟨z, k0⟩ := h4 y hyn
          have c0 := cell_of h3 k0
          have f0 := froz_of h3 y
          have hgr : g ≠ vb := fun e => by rw [e, h3] at h5; simp at h5
          have XD : Hid (∀ z, MS tInt B T W3 (wr.drew.setCell ⟨vb, y, none⟩ (.int .i64 z))) := fun z => (X.out.trans (ms_gb (Below.refl _ _).drew)).set h1 h2 h3 rfl _ _ (fun _ => ⟨_, rfl⟩)
          have b1 : wr.drew.cell? ⟨g, p * 2 + 1, none⟩ = some (.slice (some ⟨vb, 0, none⟩) n1 q1) := b1
          have c0 : wr.drew.cell? ⟨vb, y, none⟩ = some (.int .i64 z) := c0
          have f0 : wr.drew.frozen? ⟨vb, y, none⟩ = false := f0
          clear h3 h4 k0 h5 b0
          go_wp2_with fail
          refine wp_region_held_drew (S := fun W => W.cell? ⟨g, p * 2 + 1, none⟩ = some (.slice (some ⟨vb, 0, none⟩) n1 q1)) (by kernel_rfl) (b1) (fun hHeld => ?_)
          refine wpAnyH_take (i := 0) (v := ?_) rfl (by kernel_rfl) (by kernel_rfl) (by kernel_rfl) (fun _ _ _ h => h) (Or.inl ⟨by rfl, ?_⟩) (by assumption) ?_
          rotate_left 1
          · (intro w hSw; (try dsimp only at hSw); go_simp; try with_reducible rfl)
          try simp only [Act.put, List.getElem_toArray, List.getElem_cons_zero, List.setIfInBounds_toArray, List.set_cons_zero, List.set_cons_succ]
          refine wpAnyH_take (i := 1) (v := ?_) rfl (by kernel_rfl) (by kernel_rfl) (by kernel_rfl) (fun _ _ _ h => h) (Or.inl ⟨by rfl, ?_⟩) (by assumption) ?_
          rotate_left 1
          · (intro w hSw; (try dsimp only at hSw); go_simp; try with_reducible rfl)
          try simp only [Act.put, List.getElem_toArray, List.getElem_cons_zero, List.getElem_cons_succ, List.setIfInBounds_toArray, List.set_cons_zero, List.set_cons_succ]
          refine wpAnyH_take (i := 2) (v := ?_) rfl (by kernel_rfl) (by kernel_rfl) (by kernel_rfl) (fun _ _ _ h => h) (Or.inl ⟨by rfl, ?_⟩) (by assumption) ?_
          rotate_left 1
          · (intro w hSw; (try dsimp only at hSw); go_simp; try with_reducible rfl)
          try simp only [Act.put, List.getElem_toArray, List.getElem_cons_zero, List.getElem_cons_succ, List.setIfInBounds_toArray, List.set_cons_zero, List.set_cons_succ]
          refine wpAnyH_take (i := 3) (v := ?_) rfl (by kernel_rfl) (by kernel_rfl) (by kernel_rfl) (fun _ _ _ h => h) (Or.inl ⟨by rfl, ?_⟩) (by assumption) ?_
          rotate_left 1
          · (intro w hSw; (try dsimp only at hSw); go_simp; try with_reducible rfl)
          try simp only [Act.put, List.getElem_toArray, List.getElem_cons_zero, List.getElem_cons_succ, List.setIfInBounds_toArray, List.set_cons_zero, List.set_cons_succ]
          refine wpAnyH_take (i := 4) (v := ?_) rfl (by kernel_rfl) (by kernel_rfl) (by kernel_rfl) (fun _ _ _ h => h) (Or.inl ⟨by rfl, ?_⟩) (by assumption) ?_
          rotate_left 1
          · (intro w hSw; (try dsimp only at hSw); go_simp; try with_reducible rfl)
          try simp only [Act.put, List.getElem_toArray, List.getElem_cons_zero, List.getElem_cons_succ, List.setIfInBounds_toArray, List.set_cons_zero, List.set_cons_succ]
          refine wpAnyH_take (i := 5) (v := ?_) rfl (by kernel_rfl) (by kernel_rfl) (by kernel_rfl) (fun _ _ _ h => h) (Or.inl ⟨by rfl, ?_⟩) (by assumption) ?_
          rotate_left 1
          · (intro w hSw; (try dsimp only at hSw); go_simp; try with_reducible rfl)
          try simp only [Act.put, List.getElem_toArray, List.getElem_cons_zero, List.getElem_cons_succ, List.setIfInBounds_toArray, List.set_cons_zero, List.set_cons_succ]
          refine wpAnyH_take (i := 6) (v := ?_) rfl (by kernel_rfl) (by kernel_rfl) (by kernel_rfl) (fun _ _ _ h => h) (Or.inl ⟨by rfl, ?_⟩) (by assumption) ?_
          rotate_left 1
          · (intro w hSw; (try dsimp only at hSw); go_simp; try with_reducible rfl)
          try simp only [Act.put, List.getElem_toArray, List.getElem_cons_zero, List.getElem_cons_succ, List.setIfInBounds_toArray, List.set_cons_zero, List.set_cons_succ]
          refine wpAnyH_take (i := 7) (v := ?_) rfl (by kernel_rfl) (by kernel_rfl) (by kernel_rfl) (fun _ _ _ h => h) (Or.inl ⟨by rfl, ?_⟩) (by assumption) ?_
          rotate_left 1
          · (intro w hSw; (try dsimp only at hSw); go_simp; try with_reducible rfl)
          try simp only [Act.put, List.getElem_toArray, List.getElem_cons_zero, List.getElem_cons_succ, List.setIfInBounds_toArray, List.set_cons_zero, List.set_cons_succ]
          refine wpAnyH_take (i := 8) (v := ?_) rfl (by kernel_rfl) (by kernel_rfl) (by kernel_rfl) (fun _ _ _ h => h) (Or.inl ⟨by rfl, ?_⟩) (by assumption) ?_
          rotate_left 1
          · (intro w hSw; (try dsimp only at hSw); go_simp; try with_reducible rfl)
          try simp only [Act.put, List.getElem_toArray, List.getElem_cons_zero, List.getElem_cons_succ, List.setIfInBounds_toArray, List.set_cons_zero, List.set_cons_succ]
          refine wpAnyH_take (i := 9) (v := ?_) rfl (by kernel_rfl) (by kernel_rfl) (by kernel_rfl) (fun _ _ _ h => h) (Or.inl ⟨by rfl, ?_⟩) (by assumption) ?_
          rotate_left 1
          · (intro w hSw; (try dsimp only at hSw); go_simp; try with_reducible rfl)
          try simp only [Act.put, List.getElem_toArray, List.getElem_cons_zero, List.getElem_cons_succ, List.setIfInBounds_toArray, List.set_cons_zero, List.set_cons_succ]
          refine wpAnyH_take (i := 10) (v := ?_) rfl (by kernel_rfl) (by kernel_rfl) (by kernel_rfl) (fun _ _ _ h => h) (Or.inl ⟨by rfl, ?_⟩) (by assumption) ?_
          rotate_left 1
          · (intro w hSw; (try dsimp only at hSw); go_simp; try with_reducible rfl)
          try simp only [Act.put, List.getElem_toArray, List.getElem_cons_zero, List.getElem_cons_succ, List.setIfInBounds_toArray, List.set_cons_zero, List.set_cons_succ]
          refine wpAnyH_take (i := 11) (v := ?_) rfl (by kernel_rfl) (by kernel_rfl) (by kernel_rfl) (fun _ _ _ h => h) (Or.inl ⟨by rfl, ?_⟩) (by assumption) ?_
          rotate_left 1
          · (intro w hSw; (try dsimp only at hSw); go_simp; try with_reducible rfl)
          try simp only [Act.put, List.getElem_toArray, List.getElem_cons_zero, List.getElem_cons_succ, List.setIfInBounds_toArray, List.set_cons_zero, List.set_cons_succ]
          refine wpAnyH_take (i := 12) (v := ?_) rfl (by kernel_rfl) (by kernel_rfl) (by kernel_rfl) (fun _ _ _ h => h) (Or.inl ⟨by rfl, ?_⟩) (by assumption) ?_
          rotate_left 1
          · (intro w hSw; (try dsimp only at hSw); go_simp; try with_reducible rfl)
          try simp only [Act.put, List.getElem_toArray, List.getElem_cons_zero, List.getElem_cons_succ, List.setIfInBounds_toArray, List.set_cons_zero, List.set_cons_succ]
          refine wpAnyH_ready (rs := [13]) (by kernel_rfl) (by simp) ?_
          refine AllReadyH.cons rfl (fun K hK => ?_) AllReadyH.nil
          go_simp
          refine hK.out _ _ (hHeld) (fun hHeld => ?_)
          clear hK K
          try simp only [Act.put, List.getElem_toArray, List.getElem_cons_zero, List.getElem_cons_succ, List.setIfInBounds_toArray, List.set_cons_zero, List.set_cons_succ]
          refine wpAnyH_take (i := 14) (v := ?_) rfl (by kernel_rfl) (by kernel_rfl) (by kernel_rfl) (fun _ _ _ h => h) (Or.inl ⟨by rfl, ?_⟩) (by assumption) ?_
          rotate_left 1
          · (intro w hSw; (try dsimp only at hSw); go_simp; try with_reducible rfl)
          try simp only [Act.put, List.getElem_toArray, List.getElem_cons_zero, List.getElem_cons_succ, List.setIfInBounds_toArray, List.set_cons_zero, List.set_cons_succ]
          refine wpAnyH_take (i := 15) (v := ?_) rfl (by kernel_rfl) (by kernel_rfl) (by kernel_rfl) (fun _ _ _ h => h) (Or.inl ⟨by rfl, ?_⟩) (by assumption) ?_
          rotate_left 1
          · (intro w hSw; (try dsimp only at hSw); go_simp; try with_reducible rfl)
          try simp only [Act.put, List.getElem_toArray, List.getElem_cons_zero, List.getElem_cons_succ, List.setIfInBounds_toArray, List.set_cons_zero, List.set_cons_succ]
          refine wpAnyH_ready (rs := [16]) (by kernel_rfl) (by simp) ?_
          refine AllReadyH.cons rfl (fun K hK => ?_) AllReadyH.nil
          go_simp
          refine hK.out _ _ ((World.cell?_setCell_far _ _ _ _ (by dsimp only; exact hgr.symm)).trans hHeld) (fun hHeld => ?_)
          clear hK K
          try simp only [Act.put, List.getElem_toArray, List.getElem_cons_zero, List.getElem_cons_succ, List.setIfInBounds_toArray, List.set_cons_zero, List.set_cons_succ]
          refine wpAnyH_done (by kernel_rfl) ?_ _
          go_wp2
          go_roundw
          case rel => exact ⟨y + 1, by first | rfl | go_num | simp, hyn, XD.out _⟩
          case measure => simp [intOf]; omega
        · have hyi : ¬ (y : Int) < (n1 : Int) := by omega
          have f0 := froz_of h5 (p * 2)
          have f1 := froz_of h5 (p * 2 + 1)
          have XN : Hid (MS tRw B T w ((wr.setCell ⟨g, p * 2, none⟩ (.int .i64 0)).setCell ⟨g, p * 2 + 1, none⟩ (.slice none 0 0)) ∧ ∃ cur', ((wr.setCell ⟨g, p * 2, none⟩ (.int .i64 0)).setCell ⟨g, p * 2 + 1, none⟩ (.slice none 0 0)).heap[g]? = some (.cells cur' 43 (0, 0)) ∧ cur'.size = rcur.size ∧ ∀ j, (p + 1) * 2 ≤ j → cur'[j]? = rcur[j]?) := by
            refine ⟨((M3.out.trans (X.out.mono fun t h => .inl h)).set HB.out.2.1 HB.out.2.2 h5 (.inr rfl) _ _ (fun e => by simp at e)).set HB.out.2.1 HB.out.2.2 (heap_set h5) (.inr rfl) _ _ (fun e => by simp at e), _, heap_set (heap_set h5), ?_, fun j hj => ?_⟩
            · simp [HC.out.2.1]
            · rw [Array.getElem?_setIfInBounds_ne (by omega), Array.getElem?_setIfInBounds_ne (by omega)]
              exact HC.out.2.2.1 j (by omega)
          clear h5 L1 X
          go_wp2
          go_roundw
          case rel => exact ⟨p + 1, by first | rfl | go_num | simp, hpn, XN⟩
          case measure => simp [intOf]; omega
    · have hpi : ¬ (p : Int) < (n : Int) := by omega
      have XF : Hid (Mid B T w wr) := X.out.1.mid
      clear X
      go_wp2
      refine bodyPost_end (v := .tuple #[]) (by simp [results, Tryz.results35, go_sem]) rfl ⟨rfl, ?_⟩
      exact XF.out
end Go.Proofs.YtbnljabeccebiaaGreat
