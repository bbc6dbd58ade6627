/- theodolitekeep.Spoil: what it writes over is the answer's own. -/
import Derived.Test.YteaeaoekaoedoaaGreatM48
import Derived.Test.YteaeaoekaoedoaaGreatM5
namespace Go.Proofs.YteaeaoekaoedoaaGreat
open Go.RowKit Go.Sort

/-- No block of cells has turned but of these types; those keep their size, and numbers stay numbers. -/
structure Shp (P : TypeId → Prop) (W W' : World) : Prop where
  keep : ∀ (k : Nat) (cur : Array Value) (t : TypeId) (f : Nat × Nat), W.heap[k]? = some (.cells cur t f) → ¬ P t → W'.heap[k]? = W.heap[k]?
  size : ∀ (k : Nat) (cur : Array Value) (t : TypeId) (f : Nat × Nat), W.heap[k]? = some (.cells cur t f) → ∃ cur', W'.heap[k]? = some (.cells cur' t f) ∧ cur'.size = cur.size ∧ (t = 3 → ∀ (i : Nat) (x : Int), cur[i]? = some (.int .i64 x) → ∃ y : Int, cur'[i]? = some (.int .i64 y))
theorem Shp.refl (P : TypeId → Prop) (W : World) : Shp P W W := ⟨fun _ _ _ _ _ _ => rfl, fun _ cur _ _ h => ⟨cur, h, rfl, fun _ _ x hx => ⟨x, hx⟩⟩⟩
theorem Shp.trans {P : TypeId → Prop} {a b c : World} (h : Shp P a b) (g : Shp P b c) : Shp P a c := by
  refine ⟨fun k cur t f e n => ?_, fun k cur t f e => ?_⟩
  · have h1 := h.keep k cur t f e n
    exact (g.keep k cur t f (h1.trans e) n).trans h1
  · obtain ⟨c1, e1, s1, i1⟩ := h.size k cur t f e
    obtain ⟨c2, e2, s2, i2⟩ := g.size k c1 t f e1
    refine ⟨c2, e2, s2.trans s1, fun e3 i x hx => ?_⟩
    obtain ⟨y, hy⟩ := i1 e3 i x hx
    exact i2 e3 i y hy
theorem Shp.mono {P Q : TypeId → Prop} {a b : World} (h : Shp P a b) (hp : ∀ t, P t → Q t) : Shp Q a b := ⟨fun k cur t f e n => h.keep k cur t f e fun p => n (hp t p), h.size⟩
theorem Shp.gb {P : TypeId → Prop} {a b : World} (g : Gb a b) : Shp P a b :=
  ⟨fun k _ _ _ e _ => g.block k (Array.getElem?_eq_some_iff.1 e).1, fun k cur _ _ e => ⟨cur, (g.block k (Array.getElem?_eq_some_iff.1 e).1).trans e, rfl, fun _ _ x hx => ⟨x, hx⟩⟩⟩
theorem heap_set {W : World} {g o : Nat} {x : Value} {cur : Array Value} {t : TypeId} {f : Nat × Nat} (h : W.heap[g]? = some (.cells cur t f)) : (W.setCell ⟨g, o, none⟩ x).heap[g]? = some (.cells (cur.setIfInBounds o x) t f) := by
  simp [World.setCell, Array.getElem?_modify, h]
theorem Shp.set {P : TypeId → Prop} {W : World} {g : Nat} {cur : Array Value} {t : TypeId} {f : Nat × Nat} (h : W.heap[g]? = some (.cells cur t f)) (hp : P t) (o : Nat) (x : Value) (hx : t = 3 → ∃ y : Int, x = .int .i64 y) : Shp P W (W.setCell ⟨g, o, none⟩ x) := by
  refine ⟨fun k cur' t' f' e n => ?_, fun k cur' t' f' e => ?_⟩
  · by_cases hk : k = g
    · subst hk; rw [h] at e; cases e; exact absurd hp n
    · exact Below.heap_setCell _ _ _ _ (by dsimp only; exact hk)
  · by_cases hk : k = g
    · subst hk
      rw [h] at e; cases e
      refine ⟨_, heap_set h, by simp, fun e3 i z hz => ?_⟩
      by_cases hi : i = o
      · subst hi
        obtain ⟨y, rfl⟩ := hx e3
        have hlt : i < cur.size := (Array.getElem?_eq_some_iff.1 hz).1
        exact ⟨y, by rw [Array.getElem?_setIfInBounds_self_of_lt hlt]⟩
      · exact ⟨z, by rw [Array.getElem?_setIfInBounds_ne (fun e => hi e.symm)]; exact hz⟩
    · exact ⟨cur', (Below.heap_setCell _ _ _ _ (by dsimp only; exact hk)).trans e, rfl, fun _ _ z hz => ⟨z, hz⟩⟩
/-- Nothing has turned but in the blocks from B on below T, and these only so. -/
structure MS (P : TypeId → Prop) (B T : Nat) (W W' : World) : Prop where
  mid : Mid B T W W'
  shp : Shp P W W'
theorem Mid.trans {B T : Nat} {a b c : World} (h : Mid B T a b) (g : Mid B T b c) : Mid B T a c :=
  ⟨g.os.trans h.os, g.tape.trans h.tape, g.output.trans h.output, Nat.le_trans h.size g.size, fun k hk hb => (g.block k (Nat.lt_of_lt_of_le hk h.size) hb).trans (h.block k hk hb)⟩
theorem mid_gb {B T : Nat} {a b : World} (g : Gb a b) : Mid B T a b := ⟨g.os, g.tape, g.output, g.size, fun k hk _ => g.block k hk⟩
theorem MS.refl (P : TypeId → Prop) (B T : Nat) (W : World) : MS P B T W W := ⟨Mid.refl _ _ _, Shp.refl _ _⟩
theorem MS.trans {P : TypeId → Prop} {B T : Nat} {a b c : World} (h : MS P B T a b) (g : MS P B T b c) : MS P B T a c := ⟨h.mid.trans g.mid, h.shp.trans g.shp⟩
theorem MS.mono {P Q : TypeId → Prop} {B T : Nat} {a b : World} (h : MS P B T a b) (hp : ∀ t, P t → Q t) : MS Q B T a b := ⟨h.mid, h.shp.mono hp⟩
theorem ms_gb {P : TypeId → Prop} {B T : Nat} {a b : World} (g : Gb a b) : MS P B T a b := ⟨mid_gb g, Shp.gb g⟩
theorem MS.set {P : TypeId → Prop} {B T g : Nat} {W0 W : World} {cur : Array Value} {t : TypeId} {f : Nat × Nat} (m : MS P B T W0 W) (h1 : B ≤ g) (h2 : g < T) (h : W.heap[g]? = some (.cells cur t f)) (hp : P t) (o : Nat) (x : Value) (hx : t = 3 → ∃ y : Int, x = .int .i64 y) : MS P B T W0 (W.setCell ⟨g, o, none⟩ x) :=
  ⟨⟨m.mid.os, m.mid.tape, m.mid.output, by simpa [World.setCell] using m.mid.size, fun k hk hb => (Below.heap_setCell _ _ _ _ (by dsimp only; omega)).trans (m.mid.block k hk hb)⟩, m.shp.trans (Shp.set h hp o x hx)⟩
theorem MS.cell {P : TypeId → Prop} {B T b o : Nat} {W W' : World} {v : Value} (m : MS P B T W W') (hb : T ≤ b) (h : W.cell? ⟨b, o, none⟩ = some v) : W'.cell? ⟨b, o, none⟩ = some v :=
  (World.cell?_of_block (a := ⟨b, o, none⟩) (m.mid.block b (World.block_lt_of_cell? W _ h) (.inr hb))).trans h
/-- A list of cells, k a place, that may be written over. -/
def WL (W : World) (B T : Nat) (ty : TypeId) (k : Nat) (a : Option Addr) (n : Nat) : Prop := n = 0 ∨ ∃ g cur, a = some ⟨g, 0, none⟩ ∧ B ≤ g ∧ g < T ∧ W.heap[g]? = some (.cells cur ty (0, 0)) ∧ n * k ≤ cur.size
theorem WL.ms {P : TypeId → Prop} {W W' : World} {B T B' T' : Nat} {ty : TypeId} {k : Nat} {a : Option Addr} {n : Nat} (h : WL W B T ty k a n) (m : MS P B' T' W W') : WL W' B T ty k a n := by
  rcases h with h | ⟨g, cur, e, h1, h2, h3, h4⟩
  · exact .inl h
  · obtain ⟨c1, e1, s1, _⟩ := m.shp.size g cur ty (0, 0) h3
    exact .inr ⟨g, c1, e, h1, h2, e1, by omega⟩
/-- A list of numbers that may be written over. -/
def WI (W : World) (B T : Nat) (v : Value) : Prop := ∃ a n c, v = .slice a n c ∧ n ≤ 4611686018427387904 ∧ (n = 0 ∨ ∃ g cur, a = some ⟨g, 0, none⟩ ∧ B ≤ g ∧ g < T ∧ W.heap[g]? = some (.cells cur 3 (0, 0)) ∧ ∀ i, i < n → ∃ x : Int, cur[i]? = some (.int .i64 x))
theorem WI.ms {P : TypeId → Prop} {W W' : World} {B T B' T' : Nat} {v : Value} (h : WI W B T v) (m : MS P B' T' W W') : WI W' B T v := by
  obtain ⟨a, n, c, rfl, hn, h⟩ := h
  refine ⟨a, n, c, rfl, hn, ?_⟩
  rcases h with h | ⟨g, cur, e, h1, h2, h3, h4⟩
  · exact .inl h
  · obtain ⟨c1, e1, s1, i1⟩ := m.shp.size g cur 3 (0, 0) h3
    exact .inr ⟨g, c1, e, h1, h2, e1, fun i hi => by obtain ⟨x, hx⟩ := h4 i hi; exact i1 rfl i x hx⟩
theorem wi_own {W : World} {B T : Nat} {v : Value} {l : List Int} (h : Own W B v l) (hn : l.length ≤ 4611686018427387904) (hT : ∀ g, v.ownBlock = some g → g < T) : WI W B T v := by
  rcases h.2 with ⟨rfl, h0⟩ | ⟨g, cap, cur, rfl, hb, hh, hc, _, hs, ht⟩
  · exact ⟨none, 0, 0, rfl, Nat.zero_le _, .inl rfl⟩
  · refine ⟨_, _, _, rfl, hn, .inr ⟨g, cur, rfl, hb, hT g rfl, hh, fun i hi => ?_⟩⟩
    have h1 : (cur.toList.take (l.length * 1))[i]? = (l.map (Value.int .i64))[i]? := by rw [ht]
    rw [List.getElem?_take_of_lt (by omega), List.getElem?_map, List.getElem?_eq_getElem hi] at h1
    exact ⟨l[i], by simpa using h1⟩
/-- An answer that may be written over. -/
structure OwnA (W : World) (B T : Nat) (vh vs vr : Value) : Prop where
  top : T ≤ W.heap.size
  hits : ∃ a n c, vh = .slice a n c ∧ n ≤ 4611686018427387904 ∧ WL W B T 57 3 a n
  seen : WI W B T vs
  rest : ∃ a n c, vr = .slice a n c ∧ n ≤ 4611686018427387904 ∧ (n = 0 ∨ ∃ g cur, a = some ⟨g, 0, none⟩ ∧ B ≤ g ∧ g < T ∧ W.heap[g]? = some (.cells cur 63 (0, 0)) ∧
    ∀ i, i < n → ∃ (S : Int) (vl vu : Value) (h l : Int) (vi : Value), cur[i * 6]? = some (.int .i64 S) ∧ cur[i * 6 + 1]? = some vl ∧ cur[i * 6 + 2]? = some vu ∧ cur[i * 6 + 3]? = some (.int .u64 h) ∧ cur[i * 6 + 4]? = some (.int .u64 l) ∧ cur[i * 6 + 5]? = some vi ∧ WI W B T vl ∧ WI W B T vu ∧ WI W B T vi)
theorem OwnA.gb {W W' : World} {B T : Nat} {vh vs vr : Value} (h : OwnA W B T vh vs vr) (g : Gb W W') : OwnA W' B T vh vs vr := by
  have m : MS (fun _ => False) B T W W' := ms_gb g
  obtain ⟨a, n, c, e, hn, hl⟩ := h.hits
  obtain ⟨a', n', c', e', hn', hl'⟩ := h.rest
  refine ⟨Nat.le_trans h.top g.size, ⟨a, n, c, e, hn, hl.ms m⟩, h.seen.ms m, ⟨a', n', c', e', hn', ?_⟩⟩
  rcases hl' with h0 | ⟨x, cur, h1, h2, h3, h4, h5⟩
  · exact .inl h0
  · refine .inr ⟨x, cur, h1, h2, h3, (g.block x (Array.getElem?_eq_some_iff.1 h4).1).trans h4, fun i hi => ?_⟩
    obtain ⟨S, vl, vu, p, l, vi, d0, d1, d2, d3, d4, d5, w1, w2, w3⟩ := h5 i hi
    exact ⟨S, vl, vu, p, l, vi, d0, d1, d2, d3, d4, d5, w1.ms m, w2.ms m, w3.ms m⟩
theorem size_of_last {cur : Array Value} {o : Nat} {v : Value} (h : cur[o]? = some v) : o < cur.size := (Array.getElem?_eq_some_iff.1 h).1
theorem cell_of {W : World} {g o : Nat} {cur : Array Value} {t : TypeId} {v : Value} (h : W.heap[g]? = some (.cells cur t (0, 0))) (hc : cur[o]? = some v) : W.cell? ⟨g, o, none⟩ = some v := by simp [World.cell?, h, hc]
theorem froz_of {W : World} {g : Nat} {cur : Array Value} {t : TypeId} (h : W.heap[g]? = some (.cells cur t (0, 0))) (o : Nat) : W.frozen? ⟨g, o, none⟩ = false := by simp [World.frozen?, h]
theorem some_of {cur : Array Value} {o : Nat} (h : o < cur.size) : ∃ v, cur[o]? = some v := ⟨cur[o], Array.getElem?_eq_getElem h⟩
abbrev tHit : TypeId → Prop := fun t => t = 57
abbrev tInt : TypeId → Prop := fun t => t = 3
abbrev tHI : TypeId → Prop := fun t => t = 3 ∨ t = 57
abbrev tReg : TypeId → Prop := fun t => t = 3 ∨ t = 63 ∨ t = 57

set_option maxRecDepth 100000 in
set_option maxHeartbeats 1000000 in
theorem spoil_c {w : World} {B T : Nat} {vh vs vr : Value} (h : OwnA w B T vh vs vr) :
    Calls Tryz.prog 25 #[.agg #[vh, vs, vr]] w fun e w' => e = .returned (.tuple #[]) ∧ Mid B T w w' := by
  obtain ⟨ah, nh, ch, evh, hnb, hH⟩ := h.hits
  obtain ⟨sa, ns, cs, evs, hsb, hS⟩ := h.seen
  obtain ⟨ar, nr, cr, evr, hrb, hR⟩ := h.rest
  have TOP : Hid (T ≤ w.heap.size) := h.top
  have SW : Hid (WI w B T (.slice sa ns cs)) := evs ▸ h.seen
  subst evh; subst evs; subst evr
  have HH : Hid (WL w B T 57 3 ah nh) := hH
  have HR : Hid _ := hR
  clear hH hS hR h
  obtain ⟨W1, hW1⟩ : ∃ W1, W1 = w.alloc (.cells #[.slice ah nh ch, .slice sa ns cs, .slice ar nr cr] 44) := ⟨_, rfl⟩
  have G0 : Hid (Gb w W1) := by unfold Hid; rw [hW1]; exact gb_alloc (Below.refl _ _) _
  have BX : Hid (W1.cell? ⟨w.heap.size, 0, none⟩ = some (.slice ah nh ch) ∧ W1.cell? ⟨w.heap.size, 1, none⟩ = some (.slice sa ns cs) ∧ W1.cell? ⟨w.heap.size, 2, none⟩ = some (.slice ar nr cr)) := by
    unfold Hid; rw [hW1]; exact ⟨by simp [go_sem], by simp [go_sem], by simp [go_sem]⟩
  go_enter Tryz.func25, Tryz.ntmps25
  go_wp2_with fail
  rw [← hW1]
  clear hW1
  go_loopw [2] (fun iv W => ∃ p : Nat, iv = .int .i64 (p : Int) ∧ p ≤ nh ∧ Hid (MS tHI B T W1 W)) (fun iv _ => nh - (intOf iv).toNat)
  case atStart => exact ⟨0, rfl, Nat.zero_le _, MS.refl _ _ _ _⟩
  case round =>
    obtain ⟨p, rfl, hp, X⟩ := hrel
    obtain ⟨x0, x1, x2⟩ := BX.out
    have x0 := X.out.cell TOP.out x0
    clear x1 x2
    by_cases hpn : p < nh
    · have hpi : (p : Int) < (nh : Int) := by omega
      obtain ⟨g, cur, e, h1, h2, h3, h4⟩ : ∃ g cur, ah = some ⟨g, 0, none⟩ ∧ B ≤ g ∧ g < T ∧ wr.heap[g]? = some (.cells cur 57 (0, 0)) ∧ nh * 3 ≤ cur.size := by
        rcases (HH.out.ms (P := tHI) (B' := B) (T' := T) (ms_gb G0.out)).ms X.out with h | h
        · omega
        · exact h
      subst e
      obtain ⟨v0, k0⟩ := some_of (cur := cur) (o := p * 3) (by omega)
      obtain ⟨v1, k1⟩ := some_of (cur := cur) (o := p * 3 + 1) (by omega)
      obtain ⟨v2, k2⟩ := some_of (cur := cur) (o := p * 3 + 2) (by omega)
      have c0 := cell_of h3 k0
      have c1 := cell_of h3 k1
      have c2 := cell_of h3 k2
      have f0 := froz_of h3 (p * 3)
      have f1 := froz_of h3 (p * 3 + 1)
      have f2 := froz_of h3 (p * 3 + 2)
      have XN : Hid (MS tHI B T W1 (((wr.setCell ⟨g, p * 3, none⟩ (.int .i64 (-1))).setCell ⟨g, p * 3 + 1, none⟩ (.int .u64 0)).setCell ⟨g, p * 3 + 2, none⟩ (.int .u64 0))) :=
        ((X.out.set h1 h2 h3 (.inr rfl) _ _ (fun e => by simp at e)).set h1 h2 (heap_set h3) (.inr rfl) _ _ (fun e => by simp at e)).set h1 h2 (heap_set (heap_set h3)) (.inr rfl) _ _ (fun e => by simp at e)
      clear h3 h4 k0 k1 k2
      go_wp2
      go_roundw
      case rel => exact ⟨p + 1, by first | rfl | go_num | simp, hpn, XN⟩
      case measure => simp [intOf]; omega
    · have hpi : ¬ (p : Int) < (nh : Int) := by omega
      go_wp2
      clear x0
      go_loopw [3] (fun iv W => ∃ p : Nat, iv = .int .i64 (p : Int) ∧ p ≤ ns ∧ Hid (MS tHI B T W1 W)) (fun iv _ => ns - (intOf iv).toNat)
      case atStart => exact ⟨0, rfl, Nat.zero_le _, X⟩
      case round =>
        clear X hp hpi hpn
        obtain ⟨p, rfl, hp, X⟩ := hrel
        obtain ⟨x0, x1, x2⟩ := BX.out
        have x1 := X.out.cell TOP.out x1
        clear x0 x2
        by_cases hpn : p < ns
        · have hpi : (p : Int) < (ns : Int) := by omega
          obtain ⟨g, cur, e, h1, h2, h3, h4⟩ : ∃ g cur, sa = some ⟨g, 0, none⟩ ∧ B ≤ g ∧ g < T ∧ wr.heap[g]? = some (.cells cur 3 (0, 0)) ∧ ∀ i, i < ns → ∃ x : Int, cur[i]? = some (.int .i64 x) := by
            obtain ⟨_, _, _, e, _, h⟩ := (SW.out.ms (P := tHI) (B' := B) (T' := T) (ms_gb G0.out)).ms X.out
            cases e
            rcases h with h | h
            · omega
            · exact h
          subst e
          obtain ⟨y, k0⟩ := h4 p hpn
          have c0 := cell_of h3 k0
          have f0 := froz_of h3 p
          have XN : Hid (MS tHI B T W1 (wr.setCell ⟨g, p, none⟩ (.int .i64 (-1)))) := X.out.set h1 h2 h3 (.inl rfl) _ _ (fun _ => ⟨_, rfl⟩)
          clear h3 h4 k0
          go_wp2
          go_roundw
          case rel => exact ⟨p + 1, by first | rfl | go_num | simp, hpn, XN⟩
          case measure => simp [intOf]; omega
        · have hpi : ¬ (p : Int) < (ns : Int) := by omega
          go_wp2
          clear x1
          go_loopw [4] (fun iv W => ∃ p : Nat, iv = .int .i64 (p : Int) ∧ p ≤ nr ∧ Hid (MS tReg B T W1 W ∧ (∀ g cur, ar = some ⟨g, 0, none⟩ → w.heap[g]? = some (.cells cur 63 (0, 0)) → ∃ cur', W.heap[g]? = some (.cells cur' 63 (0, 0)) ∧ cur'.size = cur.size ∧ ∀ j, p * 6 ≤ j → cur'[j]? = cur[j]?))) (fun iv _ => nr - (intOf iv).toNat)
          case atStart => exact ⟨0, rfl, Nat.zero_le _, X.out.mono (fun t h => by rcases h with h | h; exact .inl h; exact .inr (.inr h)), fun g cur e hg => by
            have h1 := (G0.out.block g (Array.getElem?_eq_some_iff.1 hg).1).trans hg
            exact ⟨cur, (X.out.shp.keep g _ _ _ h1 (by simp)).trans h1, rfl, fun _ _ => rfl⟩⟩
          case round =>
            clear X hp hpi hpn
            obtain ⟨p, rfl, hp, X⟩ := hrel
            obtain ⟨x0, x1, x2⟩ := BX.out
            have x2 := X.out.1.cell TOP.out x2
            clear x0 x1
            by_cases hpn : p < nr
            · have hpi : decide ((p : Int) < (nr : Int)) = true := by rw [decide_eq_true_eq]; omega
              have hpp : (p : Int) < (nr : Int) := by omega
              obtain ⟨rg, rcur, e, r1, r2, r3, r4⟩ : ∃ g cur, ar = some ⟨g, 0, none⟩ ∧ B ≤ g ∧ g < T ∧ w.heap[g]? = some (.cells cur 63 (0, 0)) ∧
                  ∀ i, i < nr → ∃ (S : Int) (vl vu : Value) (h l : Int) (vi : Value), cur[i * 6]? = some (.int .i64 S) ∧ cur[i * 6 + 1]? = some vl ∧ cur[i * 6 + 2]? = some vu ∧ cur[i * 6 + 3]? = some (.int .u64 h) ∧ cur[i * 6 + 4]? = some (.int .u64 l) ∧ cur[i * 6 + 5]? = some vi ∧ WI w B T vl ∧ WI w B T vu ∧ WI w B T vi := by
                rcases HR.out with h | h
                · omega
                · exact h
              subst e
              obtain ⟨cur', s3, s4, s5⟩ := X.out.2 rg rcur rfl r3
              obtain ⟨S, vl, vu, h, l, vi, d0, d1, d2, d3, d4, d5, w1, w2, w3⟩ := r4 p hpn
              rw [← s5 _ (by omega)] at d0 d1 d2 d3 d4 d5
              have c0 := cell_of s3 d0
              have c1 := cell_of s3 d1
              have c2 := cell_of s3 d2
              have c3 := cell_of s3 d3
              have c4 := cell_of s3 d4
              have c5 := cell_of s3 d5
              obtain ⟨W3, hW3⟩ : ∃ W3, W3 = wr.alloc (.cells #[.int .i64 S, vl, vu, .int .u64 h, .int .u64 l, vi] 63) := ⟨_, rfl⟩
              obtain ⟨rb, hrb⟩ : ∃ rb, rb = wr.heap.size := ⟨_, rfl⟩
              have G3 : Hid (Gb wr W3) := by unfold Hid; rw [hW3]; exact gb_alloc (Below.refl _ _) _
              have M3 : Hid (MS tReg B T W1 W3) := X.out.1.trans (ms_gb G3.out)
              have MW : Hid (MS tReg B T w W3) := (ms_gb G0.out).trans M3.out
              have L1 : Hid (WI W3 B T vl) := w1.ms MW.out
              have L2 : Hid (WI W3 B T vu) := w2.ms MW.out
              have L3 : Hid (WI W3 B T vi) := w3.ms MW.out
              have RT : Hid (T ≤ rb) := by unfold Hid; rw [hrb]; have := TOP.out; have := G0.out.size; have := X.out.1.mid.size; omega
              have RB : Hid (W3.cell? ⟨rb, 1, none⟩ = some vl ∧ W3.cell? ⟨rb, 2, none⟩ = some vu ∧ W3.cell? ⟨rb, 5, none⟩ = some vi) := by
                unfold Hid; rw [hW3, hrb]; exact ⟨by simp [go_sem], by simp [go_sem], by simp [go_sem]⟩
              have HC : Hid (W3.heap[rg]? = some (.cells cur' 63 (0, 0)) ∧ cur'.size = rcur.size ∧ (∀ j, p * 6 ≤ j → cur'[j]? = rcur[j]?) ∧ p * 6 + 5 < cur'.size ∧ B ≤ rg ∧ rg < T ∧ w.heap[rg]? = some (.cells rcur 63 (0, 0))) :=
                ⟨(G3.out.block rg (Array.getElem?_eq_some_iff.1 s3).1).trans s3, s4, s5, size_of_last d5, r1, r2, r3⟩
              obtain ⟨a1, n1, q1, e1, b1', _⟩ := w1
              obtain ⟨a2, n2, q2, e2, b2', _⟩ := w2
              obtain ⟨a3, n3, q3, e3, b3', _⟩ := w3
              subst e1; subst e2; subst e3
              clear r1 r2 r3 r4 s3 s4 s5 d0 d1 d2 d3 d4 d5 X
              go_wp2_with fail
              rw [← hW3, ← hrb]
              clear hW3 hrb c0 c1 c2 c3 c4 c5 x2
              go_loopw [6] (fun iv W => ∃ y : Nat, iv = .int .i64 (y : Int) ∧ y ≤ n1 ∧ Hid (MS tInt B T W3 W)) (fun iv _ => n1 - (intOf iv).toNat)
              case atStart => exact ⟨0, rfl, Nat.zero_le _, (MS.refl _ _ _ _ : MS tInt B T W3 W3)⟩
              case round =>
                obtain ⟨y, rfl, hy, X⟩ := hrel
                obtain ⟨b1, b2, b3⟩ := RB.out
                have b1 := X.out.cell RT.out b1
                clear b2 b3
                by_cases hyn : y < n1
                · have hyi : (y : Int) < (n1 : Int) := by omega
                  obtain ⟨g, cur, e, h1, h2, h3, h4⟩ : ∃ g cur, a1 = some ⟨g, 0, none⟩ ∧ B ≤ g ∧ g < T ∧ wr.heap[g]? = some (.cells cur 3 (0, 0)) ∧ ∀ i, i < n1 → ∃ x : Int, cur[i]? = some (.int .i64 x) := by
                    obtain ⟨_, _, _, e, _, h⟩ := L1.out.ms X.out
                    cases e
                    rcases h with h | h
                    · omega
                    · exact h
                  subst e
                  obtain ⟨x, k0⟩ := h4 y hyn
                  have c0 := cell_of h3 k0
                  have f0 := froz_of h3 y
                  have hgr : g ≠ rb := by have := RT.out; omega
                  have XD : Hid (∀ z, MS tInt B T W3 (wr.drew.setCell ⟨g, y, none⟩ (.int .i64 z))) := fun z => (X.out.trans (ms_gb (Below.refl _ _).drew)).set h1 h2 h3 rfl _ _ (fun _ => ⟨_, rfl⟩)
                  have b1 : wr.drew.cell? ⟨rb, 1, none⟩ = some (.slice (some ⟨g, 0, none⟩) n1 q1) := b1
                  have c0 : wr.drew.cell? ⟨g, y, none⟩ = some (.int .i64 x) := c0
                  have f0 : wr.drew.frozen? ⟨g, y, none⟩ = false := f0
                  clear h3 h4 k0
                  go_wp2_with fail
                  refine wp_region_held_drew (S := fun W => W.cell? ⟨rb, 1, none⟩ = some (.slice (some ⟨g, 0, none⟩) n1 q1)) (by kernel_rfl) (b1) (fun hHeld => ?_)
                  refine wpAnyH_take (i := 0) (v := ?_) rfl (by kernel_rfl) (by kernel_rfl) (by kernel_rfl) (fun _ _ _ h => h) (Or.inl ⟨by rfl, ?_⟩) (by assumption) ?_
                  rotate_left 1
                  · (intro w hSw; (try dsimp only at hSw); go_simp; try with_reducible rfl)
                  try simp only [Act.put, List.getElem_toArray, List.getElem_cons_zero, List.setIfInBounds_toArray, List.set_cons_zero, List.set_cons_succ]
                  refine wpAnyH_take (i := 1) (v := ?_) rfl (by kernel_rfl) (by kernel_rfl) (by kernel_rfl) (fun _ _ _ h => h) (Or.inl ⟨by rfl, ?_⟩) (by assumption) ?_
                  rotate_left 1
                  · (intro w hSw; (try dsimp only at hSw); go_simp; try with_reducible rfl)
                  try simp only [Act.put, List.getElem_toArray, List.getElem_cons_zero, List.getElem_cons_succ, List.setIfInBounds_toArray, List.set_cons_zero, List.set_cons_succ]
                  refine wpAnyH_take (i := 2) (v := ?_) rfl (by kernel_rfl) (by kernel_rfl) (by kernel_rfl) (fun _ _ _ h => h) (Or.inl ⟨by rfl, ?_⟩) (by assumption) ?_
                  rotate_left 1
                  · (intro w hSw; (try dsimp only at hSw); go_simp; try with_reducible rfl)
                  try simp only [Act.put, List.getElem_toArray, List.getElem_cons_zero, List.getElem_cons_succ, List.setIfInBounds_toArray, List.set_cons_zero, List.set_cons_succ]
                  refine wpAnyH_take (i := 3) (v := ?_) rfl (by kernel_rfl) (by kernel_rfl) (by kernel_rfl) (fun _ _ _ h => h) (Or.inl ⟨by rfl, ?_⟩) (by assumption) ?_
                  rotate_left 1
                  · (intro w hSw; (try dsimp only at hSw); go_simp; try with_reducible rfl)
                  try simp only [Act.put, List.getElem_toArray, List.getElem_cons_zero, List.getElem_cons_succ, List.setIfInBounds_toArray, List.set_cons_zero, List.set_cons_succ]
                  refine wpAnyH_take (i := 4) (v := ?_) rfl (by kernel_rfl) (by kernel_rfl) (by kernel_rfl) (fun _ _ _ h => h) (Or.inl ⟨by rfl, ?_⟩) (by assumption) ?_
                  rotate_left 1
                  · (intro w hSw; (try dsimp only at hSw); go_simp; try with_reducible rfl)
                  try simp only [Act.put, List.getElem_toArray, List.getElem_cons_zero, List.getElem_cons_succ, List.setIfInBounds_toArray, List.set_cons_zero, List.set_cons_succ]
                  refine wpAnyH_take (i := 5) (v := ?_) rfl (by kernel_rfl) (by kernel_rfl) (by kernel_rfl) (fun _ _ _ h => h) (Or.inl ⟨by rfl, ?_⟩) (by assumption) ?_
                  rotate_left 1
                  · (intro w hSw; (try dsimp only at hSw); go_simp; try with_reducible rfl)
                  try simp only [Act.put, List.getElem_toArray, List.getElem_cons_zero, List.getElem_cons_succ, List.setIfInBounds_toArray, List.set_cons_zero, List.set_cons_succ]
                  refine wpAnyH_take (i := 6) (v := ?_) rfl (by kernel_rfl) (by kernel_rfl) (by kernel_rfl) (fun _ _ _ h => h) (Or.inl ⟨by rfl, ?_⟩) (by assumption) ?_
                  rotate_left 1
                  · (intro w hSw; (try dsimp only at hSw); go_simp; try with_reducible rfl)
                  try simp only [Act.put, List.getElem_toArray, List.getElem_cons_zero, List.getElem_cons_succ, List.setIfInBounds_toArray, List.set_cons_zero, List.set_cons_succ]
                  refine wpAnyH_ready (rs := [7]) (by kernel_rfl) (by simp) ?_
                  refine AllReadyH.cons rfl (fun K hK => ?_) AllReadyH.nil
                  go_simp
                  refine hK.out _ _ (hHeld) (fun hHeld => ?_)
                  clear hK K
                  try simp only [Act.put, List.getElem_toArray, List.getElem_cons_zero, List.getElem_cons_succ, List.setIfInBounds_toArray, List.set_cons_zero, List.set_cons_succ]
                  refine wpAnyH_take (i := 8) (v := ?_) rfl (by kernel_rfl) (by kernel_rfl) (by kernel_rfl) (fun _ _ _ h => h) (Or.inl ⟨by rfl, ?_⟩) (by assumption) ?_
                  rotate_left 1
                  · (intro w hSw; (try dsimp only at hSw); go_simp; try with_reducible rfl)
                  try simp only [Act.put, List.getElem_toArray, List.getElem_cons_zero, List.getElem_cons_succ, List.setIfInBounds_toArray, List.set_cons_zero, List.set_cons_succ]
                  refine wpAnyH_take (i := 9) (v := ?_) rfl (by kernel_rfl) (by kernel_rfl) (by kernel_rfl) (fun _ _ _ h => h) (Or.inl ⟨by rfl, ?_⟩) (by assumption) ?_
                  rotate_left 1
                  · (intro w hSw; (try dsimp only at hSw); go_simp; try with_reducible rfl)
                  try simp only [Act.put, List.getElem_toArray, List.getElem_cons_zero, List.getElem_cons_succ, List.setIfInBounds_toArray, List.set_cons_zero, List.set_cons_succ]
                  refine wpAnyH_ready (rs := [10]) (by kernel_rfl) (by simp) ?_
                  refine AllReadyH.cons rfl (fun K hK => ?_) AllReadyH.nil
                  go_simp
                  refine hK.out _ _ ((World.cell?_setCell_far _ _ _ _ (by dsimp only; omega)).trans hHeld) (fun hHeld => ?_)
                  clear hK K
                  try simp only [Act.put, List.getElem_toArray, List.getElem_cons_zero, List.getElem_cons_succ, List.setIfInBounds_toArray, List.set_cons_zero, List.set_cons_succ]
                  refine wpAnyH_done (by kernel_rfl) ?_ _
                  go_wp2
                  go_roundw
                  case rel => exact ⟨y + 1, by first | rfl | go_num | simp, hyn, XD.out _⟩
                  case measure => simp [intOf]; omega
                · have hyi : ¬ (y : Int) < (n1 : Int) := by omega
                  have XE6 : Hid (MS tInt B T W3 wr) := X
                  clear X
                  go_wp2
                  go_loopw [7] (fun iv W => ∃ y : Nat, iv = .int .i64 (y : Int) ∧ y ≤ n2 ∧ Hid (MS tInt B T W3 W)) (fun iv _ => n2 - (intOf iv).toNat)
                  case atStart => exact ⟨0, rfl, Nat.zero_le _, XE6⟩
                  case round =>
                    obtain ⟨y, rfl, hy, X⟩ := hrel
                    obtain ⟨b1, b2, b3⟩ := RB.out
                    have b2 := X.out.cell RT.out b2
                    clear b1 b3
                    by_cases hyn : y < n2
                    · have hyi : (y : Int) < (n2 : Int) := by omega
                      obtain ⟨g, cur, e, h1, h2, h3, h4⟩ : ∃ g cur, a2 = some ⟨g, 0, none⟩ ∧ B ≤ g ∧ g < T ∧ wr.heap[g]? = some (.cells cur 3 (0, 0)) ∧ ∀ i, i < n2 → ∃ x : Int, cur[i]? = some (.int .i64 x) := by
                        obtain ⟨_, _, _, e, _, h⟩ := L2.out.ms X.out
                        cases e
                        rcases h with h | h
                        · omega
                        · exact h
                      subst e
                      obtain ⟨x, k0⟩ := h4 y hyn
                      have c0 := cell_of h3 k0
                      have f0 := froz_of h3 y
                      have hgr : g ≠ rb := by have := RT.out; omega
                      have XD : Hid (∀ z, MS tInt B T W3 (wr.drew.setCell ⟨g, y, none⟩ (.int .i64 z))) := fun z => (X.out.trans (ms_gb (Below.refl _ _).drew)).set h1 h2 h3 rfl _ _ (fun _ => ⟨_, rfl⟩)
                      have b2 : wr.drew.cell? ⟨rb, 2, none⟩ = some (.slice (some ⟨g, 0, none⟩) n2 q2) := b2
                      have c0 : wr.drew.cell? ⟨g, y, none⟩ = some (.int .i64 x) := c0
                      have f0 : wr.drew.frozen? ⟨g, y, none⟩ = false := f0
                      clear h3 h4 k0
                      go_wp2_with fail
                      refine wp_region_held_drew (S := fun W => W.cell? ⟨rb, 2, none⟩ = some (.slice (some ⟨g, 0, none⟩) n2 q2)) (by kernel_rfl) (b2) (fun hHeld => ?_)
                      refine wpAnyH_take (i := 0) (v := ?_) rfl (by kernel_rfl) (by kernel_rfl) (by kernel_rfl) (fun _ _ _ h => h) (Or.inl ⟨by rfl, ?_⟩) (by assumption) ?_
                      rotate_left 1
                      · (intro w hSw; (try dsimp only at hSw); go_simp; try with_reducible rfl)
                      try simp only [Act.put, List.getElem_toArray, List.getElem_cons_zero, List.setIfInBounds_toArray, List.set_cons_zero, List.set_cons_succ]
                      refine wpAnyH_take (i := 1) (v := ?_) rfl (by kernel_rfl) (by kernel_rfl) (by kernel_rfl) (fun _ _ _ h => h) (Or.inl ⟨by rfl, ?_⟩) (by assumption) ?_
                      rotate_left 1
                      · (intro w hSw; (try dsimp only at hSw); go_simp; try with_reducible rfl)
                      try simp only [Act.put, List.getElem_toArray, List.getElem_cons_zero, List.getElem_cons_succ, List.setIfInBounds_toArray, List.set_cons_zero, List.set_cons_succ]
                      refine wpAnyH_take (i := 2) (v := ?_) rfl (by kernel_rfl) (by kernel_rfl) (by kernel_rfl) (fun _ _ _ h => h) (Or.inl ⟨by rfl, ?_⟩) (by assumption) ?_
                      rotate_left 1
                      · (intro w hSw; (try dsimp only at hSw); go_simp; try with_reducible rfl)
                      try simp only [Act.put, List.getElem_toArray, List.getElem_cons_zero, List.getElem_cons_succ, List.setIfInBounds_toArray, List.set_cons_zero, List.set_cons_succ]
                      refine wpAnyH_take (i := 3) (v := ?_) rfl (by kernel_rfl) (by kernel_rfl) (by kernel_rfl) (fun _ _ _ h => h) (Or.inl ⟨by rfl, ?_⟩) (by assumption) ?_
                      rotate_left 1
                      · (intro w hSw; (try dsimp only at hSw); go_simp; try with_reducible rfl)
                      try simp only [Act.put, List.getElem_toArray, List.getElem_cons_zero, List.getElem_cons_succ, List.setIfInBounds_toArray, List.set_cons_zero, List.set_cons_succ]
                      refine wpAnyH_take (i := 4) (v := ?_) rfl (by kernel_rfl) (by kernel_rfl) (by kernel_rfl) (fun _ _ _ h => h) (Or.inl ⟨by rfl, ?_⟩) (by assumption) ?_
                      rotate_left 1
                      · (intro w hSw; (try dsimp only at hSw); go_simp; try with_reducible rfl)
                      try simp only [Act.put, List.getElem_toArray, List.getElem_cons_zero, List.getElem_cons_succ, List.setIfInBounds_toArray, List.set_cons_zero, List.set_cons_succ]
                      refine wpAnyH_take (i := 5) (v := ?_) rfl (by kernel_rfl) (by kernel_rfl) (by kernel_rfl) (fun _ _ _ h => h) (Or.inl ⟨by rfl, ?_⟩) (by assumption) ?_
                      rotate_left 1
                      · (intro w hSw; (try dsimp only at hSw); go_simp; try with_reducible rfl)
                      try simp only [Act.put, List.getElem_toArray, List.getElem_cons_zero, List.getElem_cons_succ, List.setIfInBounds_toArray, List.set_cons_zero, List.set_cons_succ]
                      refine wpAnyH_take (i := 6) (v := ?_) rfl (by kernel_rfl) (by kernel_rfl) (by kernel_rfl) (fun _ _ _ h => h) (Or.inl ⟨by rfl, ?_⟩) (by assumption) ?_
                      rotate_left 1
                      · (intro w hSw; (try dsimp only at hSw); go_simp; try with_reducible rfl)
                      try simp only [Act.put, List.getElem_toArray, List.getElem_cons_zero, List.getElem_cons_succ, List.setIfInBounds_toArray, List.set_cons_zero, List.set_cons_succ]
                      refine wpAnyH_ready (rs := [7]) (by kernel_rfl) (by simp) ?_
                      refine AllReadyH.cons rfl (fun K hK => ?_) AllReadyH.nil
                      go_simp
                      refine hK.out _ _ (hHeld) (fun hHeld => ?_)
                      clear hK K
                      try simp only [Act.put, List.getElem_toArray, List.getElem_cons_zero, List.getElem_cons_succ, List.setIfInBounds_toArray, List.set_cons_zero, List.set_cons_succ]
                      refine wpAnyH_take (i := 8) (v := ?_) rfl (by kernel_rfl) (by kernel_rfl) (by kernel_rfl) (fun _ _ _ h => h) (Or.inl ⟨by rfl, ?_⟩) (by assumption) ?_
                      rotate_left 1
                      · (intro w hSw; (try dsimp only at hSw); go_simp; try with_reducible rfl)
                      try simp only [Act.put, List.getElem_toArray, List.getElem_cons_zero, List.getElem_cons_succ, List.setIfInBounds_toArray, List.set_cons_zero, List.set_cons_succ]
                      refine wpAnyH_take (i := 9) (v := ?_) rfl (by kernel_rfl) (by kernel_rfl) (by kernel_rfl) (fun _ _ _ h => h) (Or.inl ⟨by rfl, ?_⟩) (by assumption) ?_
                      rotate_left 1
                      · (intro w hSw; (try dsimp only at hSw); go_simp; try with_reducible rfl)
                      try simp only [Act.put, List.getElem_toArray, List.getElem_cons_zero, List.getElem_cons_succ, List.setIfInBounds_toArray, List.set_cons_zero, List.set_cons_succ]
                      refine wpAnyH_ready (rs := [10]) (by kernel_rfl) (by simp) ?_
                      refine AllReadyH.cons rfl (fun K hK => ?_) AllReadyH.nil
                      go_simp
                      refine hK.out _ _ ((World.cell?_setCell_far _ _ _ _ (by dsimp only; omega)).trans hHeld) (fun hHeld => ?_)
                      clear hK K
                      try simp only [Act.put, List.getElem_toArray, List.getElem_cons_zero, List.getElem_cons_succ, List.setIfInBounds_toArray, List.set_cons_zero, List.set_cons_succ]
                      refine wpAnyH_done (by kernel_rfl) ?_ _
                      go_wp2
                      go_roundw
                      case rel => exact ⟨y + 1, by first | rfl | go_num | simp, hyn, XD.out _⟩
                      case measure => simp [intOf]; omega
                    · have hyi : ¬ (y : Int) < (n2 : Int) := by omega
                      have XE7 : Hid (MS tInt B T W3 wr) := X
                      clear X
                      go_wp2
                      go_loopw [8] (fun iv W => ∃ y : Nat, iv = .int .i64 (y : Int) ∧ y ≤ n3 ∧ Hid (MS tInt B T W3 W)) (fun iv _ => n3 - (intOf iv).toNat)
                      case atStart => exact ⟨0, rfl, Nat.zero_le _, XE7⟩
                      case round =>
                        obtain ⟨y, rfl, hy, X⟩ := hrel
                        obtain ⟨b1, b2, b3⟩ := RB.out
                        have b3 := X.out.cell RT.out b3
                        clear b1 b2
                        by_cases hyn : y < n3
                        · have hyi : (y : Int) < (n3 : Int) := by omega
                          obtain ⟨g, cur, e, h1, h2, h3, h4⟩ : ∃ g cur, a3 = some ⟨g, 0, none⟩ ∧ B ≤ g ∧ g < T ∧ wr.heap[g]? = some (.cells cur 3 (0, 0)) ∧ ∀ i, i < n3 → ∃ x : Int, cur[i]? = some (.int .i64 x) := by
                            obtain ⟨_, _, _, e, _, h⟩ := L3.out.ms X.out
                            cases e
                            rcases h with h | h
                            · omega
                            · exact h
                          subst e
                          obtain ⟨x, k0⟩ := h4 y hyn
                          have c0 := cell_of h3 k0
                          have f0 := froz_of h3 y
                          have hgr : g ≠ rb := by have := RT.out; omega
                          have XN : Hid (MS tInt B T W3 (wr.setCell ⟨g, y, none⟩ (.int .i64 (-1)))) := X.out.set h1 h2 h3 rfl _ _ (fun _ => ⟨_, rfl⟩)
                          clear h3 h4 k0
                          go_wp2
                          go_roundw
                          case rel => exact ⟨y + 1, by first | rfl | go_num | simp, hyn, XN⟩
                          case measure => simp [intOf]; omega
                        · have hyi : ¬ (y : Int) < (n3 : Int) := by omega
                          have XE8 : Hid (MS tInt B T W3 wr) := X
                          clear X
                          obtain ⟨x0, x1, x2⟩ := BX.out
                          have MF : Hid (MS tReg B T W1 wr) := M3.out.trans (XE8.out.mono (fun t h => .inl h))
                          have x2 := MF.out.cell TOP.out x2
                          have h3 : wr.heap[rg]? = some (.cells cur' 63 (0, 0)) := (XE8.out.shp.keep rg _ _ _ HC.out.1 (by simp)).trans HC.out.1
                          obtain ⟨hc1, hc2, hc3, hc4, hc5, hc6, hc7⟩ := HC.out
                          obtain ⟨v0, k0⟩ := some_of (cur := cur') (o := p * 6) (by omega)
                          obtain ⟨v1, k1⟩ := some_of (cur := cur') (o := p * 6 + 1) (by omega)
                          obtain ⟨v2, k2⟩ := some_of (cur := cur') (o := p * 6 + 2) (by omega)
                          obtain ⟨v3, k3⟩ := some_of (cur := cur') (o := p * 6 + 3) (by omega)
                          obtain ⟨v4, k4⟩ := some_of (cur := cur') (o := p * 6 + 4) (by omega)
                          obtain ⟨v5, k5⟩ := some_of (cur := cur') (o := p * 6 + 5) (by omega)
                          have c0 := cell_of h3 k0
                          have c1 := cell_of h3 k1
                          have c2 := cell_of h3 k2
                          have c3 := cell_of h3 k3
                          have c4 := cell_of h3 k4
                          have c5 := cell_of h3 k5
                          have f0 := froz_of h3 (p * 6)
                          have f1 := froz_of h3 (p * 6 + 1)
                          have f2 := froz_of h3 (p * 6 + 2)
                          have f3 := froz_of h3 (p * 6 + 3)
                          have f4 := froz_of h3 (p * 6 + 4)
                          have f5 := froz_of h3 (p * 6 + 5)
                          have XN : Hid (∀ u0 u1 u2 u3 u4 u5 : Value, MS tReg B T W1 ((((((wr.setCell ⟨rg, p * 6, none⟩ u0).setCell ⟨rg, p * 6 + 1, none⟩ u1).setCell ⟨rg, p * 6 + 2, none⟩ u2).setCell ⟨rg, p * 6 + 3, none⟩ u3).setCell ⟨rg, p * 6 + 4, none⟩ u4).setCell ⟨rg, p * 6 + 5, none⟩ u5) ∧ (∀ g cur, (some ⟨rg, 0, none⟩ : Option Addr) = some ⟨g, 0, none⟩ → w.heap[g]? = some (.cells cur 63 (0, 0)) → ∃ cur', ((((((wr.setCell ⟨rg, p * 6, none⟩ u0).setCell ⟨rg, p * 6 + 1, none⟩ u1).setCell ⟨rg, p * 6 + 2, none⟩ u2).setCell ⟨rg, p * 6 + 3, none⟩ u3).setCell ⟨rg, p * 6 + 4, none⟩ u4).setCell ⟨rg, p * 6 + 5, none⟩ u5).heap[g]? = some (.cells cur' 63 (0, 0)) ∧ cur'.size = cur.size ∧ ∀ j, (p + 1) * 6 ≤ j → cur'[j]? = cur[j]?)) := fun u0 u1 u2 u3 u4 u5 => by
                            have e0 := heap_set (o := p * 6) (x := u0) h3
                            have e1 := heap_set (o := p * 6 + 1) (x := u1) e0
                            have e2 := heap_set (o := p * 6 + 2) (x := u2) e1
                            have e3 := heap_set (o := p * 6 + 3) (x := u3) e2
                            have e4 := heap_set (o := p * 6 + 4) (x := u4) e3
                            have e5 := heap_set (o := p * 6 + 5) (x := u5) e4
                            have nt : ∀ x : Value, (63 : TypeId) = 3 → ∃ y : Int, x = .int .i64 y := fun _ e => by simp at e
                            refine ⟨(((((MF.out.set hc5 hc6 h3 (.inr (.inl rfl)) _ _ (nt _)).set hc5 hc6 e0 (.inr (.inl rfl)) _ _ (nt _)).set hc5 hc6 e1 (.inr (.inl rfl)) _ _ (nt _)).set hc5 hc6 e2 (.inr (.inl rfl)) _ _ (nt _)).set hc5 hc6 e3 (.inr (.inl rfl)) _ _ (nt _)).set hc5 hc6 e4 (.inr (.inl rfl)) _ _ (nt _), fun g cur e hg => ?_⟩
                            cases e
                            rw [hc7] at hg
                            cases hg
                            refine ⟨_, e5, by simpa using hc2, fun j hj => ?_⟩
                            rw [Array.getElem?_setIfInBounds_ne (by omega), Array.getElem?_setIfInBounds_ne (by omega), Array.getElem?_setIfInBounds_ne (by omega), Array.getElem?_setIfInBounds_ne (by omega), Array.getElem?_setIfInBounds_ne (by omega), Array.getElem?_setIfInBounds_ne (by omega)]
                            exact hc3 j (by omega)
                          clear x0 x1 h3 k0 k1 k2 k3 k4 k5 hc1 hc2 hc3 hc4 hc5 hc6 hc7 MF
                          go_wp2
                          go_roundw
                          case rel => exact ⟨p + 1, by first | rfl | go_num | simp, hpn, XN.out _ _ _ _ _ _⟩
                          case measure => simp [intOf]; omega
            · have hpi : ¬ (p : Int) < (nr : Int) := by omega
              have G : Hid (Mid B T w wr) := (mid_gb G0.out).trans X.out.1.mid
              go_wp2
              go_end0
              exact ⟨rfl, G.out⟩
end Go.Proofs.YteaeaoekaoedoaaGreat
