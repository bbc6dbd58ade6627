import Derived.Test.YtbnljabeccebiabGreatKs29
import Derived.Test.YtbnljabeccebiabGreatKs40
import Derived.Maps.OwnIn
import Derived.Test.YtbnljabeccebiabGreatKs41
import Derived.Test.YtbnljabeccebiabGreatKs43
import Derived.Test.YtbnljabeccebiabGreatKs42
import Derived.Test.YtbnljabeccebiabGreatKs44
/- Hits in a block of the call's own, by their places. -/
namespace Go.Proofs.YtbnljabeccebiabGreat
open Go.RowKit Go.Sort

/-- Block g holds, at its head, the hits f 0 .. f (n - 1). -/
def HA (W : World) (g n cap : Nat) (f : Nat → Tk.Ht) : Prop :=
  ∃ cur : Array Value, W.heap[g]? = some (.cells cur 60 (0, 0)) ∧ cur.size = cap * 3 ∧ n ≤ cap ∧ cap ≤ maxLen ∧ ∀ i, i < n → cur[i * 3]? = some (.int .i64 (f i).1) ∧ cur[i * 3 + 1]? = some (.int .u64 (f i).2.1) ∧ cur[i * 3 + 2]? = some (.int .u64 (f i).2.2)
theorem HA.lt {W : World} {g n cap : Nat} {f : Nat → Tk.Ht} (h : HA W g n cap f) : g < W.heap.size := by
  obtain ⟨cur, h1, _⟩ := h; exact (Array.getElem?_eq_some_iff.1 h1).1
theorem HA.cell {W : World} {g n cap : Nat} {f : Nat → Tk.Ht} (h : HA W g n cap f) {i : Nat} (hi : i < n) : W.cell? ⟨g, i * 3, none⟩ = some (.int .i64 (f i).1) ∧ W.cell? ⟨g, i * 3 + 1, none⟩ = some (.int .u64 (f i).2.1) ∧ W.cell? ⟨g, i * 3 + 2, none⟩ = some (.int .u64 (f i).2.2) := by
  obtain ⟨cur, h1, _, _, _, h4⟩ := h
  obtain ⟨a, b, c⟩ := h4 i hi
  simp [World.cell?, h1, a, b, c]
theorem HA.frozen {W : World} {g n cap : Nat} {f : Nat → Tk.Ht} (h : HA W g n cap f) (o : Nat) : W.frozen? ⟨g, o, none⟩ = false := by
  obtain ⟨cur, h1, _⟩ := h
  simp [World.frozen?, h1]
theorem HA.block {W W' : World} {g n cap : Nat} {f : Nat → Tk.Ht} (h : HA W g n cap f) (e : W'.heap[g]? = W.heap[g]?) : HA W' g n cap f := by
  obtain ⟨cur, h1, h2⟩ := h
  exact ⟨cur, e.trans h1, h2⟩
theorem HA.congr {W : World} {g n cap : Nat} {f f' : Nat → Tk.Ht} (h : HA W g n cap f) (e : ∀ i, i < n → f i = f' i) : HA W g n cap f' := by
  obtain ⟨cur, h1, h2, h3, h4, h5⟩ := h
  exact ⟨cur, h1, h2, h3, h4, fun i hi => by rw [← e i hi]; exact h5 i hi⟩
theorem HA.set {W : World} {g n cap : Nat} {f : Nat → Tk.Ht} (h : HA W g n cap f) {i : Nat} (hi : i < n) (x : Tk.Ht) :
    HA (((W.setCell ⟨g, i * 3, none⟩ (.int .i64 x.1)).setCell ⟨g, i * 3 + 1, none⟩ (.int .u64 x.2.1)).setCell ⟨g, i * 3 + 2, none⟩ (.int .u64 x.2.2)) g n cap (fun t => if t = i then x else f t) := by
  obtain ⟨cur, h1, h2, h3, h4, h5⟩ := h
  refine ⟨((cur.setIfInBounds (i * 3) (.int .i64 x.1)).setIfInBounds (i * 3 + 1) (.int .u64 x.2.1)).setIfInBounds (i * 3 + 2) (.int .u64 x.2.2), ?_, by simpa using h2, h3, h4, fun t ht => ?_⟩
  · simp [World.setCell, Array.getElem?_modify, h1]
  · by_cases e : t = i
    · subst e
      simp only [if_true]
      refine ⟨?_, ?_, ?_⟩
      · rw [Array.getElem?_setIfInBounds_ne (by omega), Array.getElem?_setIfInBounds_ne (by omega), Array.getElem?_setIfInBounds_self_of_lt (by omega)]
      · rw [Array.getElem?_setIfInBounds_ne (by omega), Array.getElem?_setIfInBounds_self_of_lt (by simp; omega)]
      · rw [Array.getElem?_setIfInBounds_self_of_lt (by simp; omega)]
    · simp only [if_neg e]
      obtain ⟨a, b, c⟩ := h5 t ht
      refine ⟨?_, ?_, ?_⟩
      · rw [Array.getElem?_setIfInBounds_ne (by omega), Array.getElem?_setIfInBounds_ne (by omega), Array.getElem?_setIfInBounds_ne (by omega)]; exact a
      · rw [Array.getElem?_setIfInBounds_ne (by omega), Array.getElem?_setIfInBounds_ne (by omega), Array.getElem?_setIfInBounds_ne (by omega)]; exact b
      · rw [Array.getElem?_setIfInBounds_ne (by omega), Array.getElem?_setIfInBounds_ne (by omega), Array.getElem?_setIfInBounds_ne (by omega)]; exact c
theorem ha_of_own {W : World} {g n cap : Nat} {d : Array Tk.Ht} (h : Tk.Own W (.slice (some ⟨g, 0, none⟩) n cap) d) : n = d.size ∧ HA W g d.size cap (fun i => d.toList[i]!) := by
  rcases h.2 with ⟨e, _⟩ | ⟨g', cap', cur, e, _, h2, h3, h4, h5, h6⟩
  · cases e
  · cases e
    refine ⟨rfl, cur, h2, h5, h3, h4, fun i hi => ?_⟩
    have hl : i < d.toList.length := by simpa using hi
    have key : ∀ c, c < 3 → cur[i * 3 + c]? = (Tk.enc d.toList[i]!)[c]? := fun c hc => by
      have h7 := Tk.fl_get d.toList i c hl hc
      rw [← h6, List.getElem?_take_of_lt (by omega), Array.getElem?_toList] at h7
      rw [h7, getElem!_pos d.toList i hl]
    have k0 := key 0 (by omega)
    have k1 := key 1 (by omega)
    have k2 := key 2 (by omega)
    rw [Nat.add_zero] at k0
    exact ⟨k0.trans rfl, k1.trans rfl, k2.trans rfl⟩
theorem own_of_ha {W : World} {g cap : Nat} {l : List Tk.Ht} {f : Nat → Tk.Ht} (h : HA W g l.length cap f) (e : ∀ i, i < l.length → f i = l[i]!) : Tk.Own W (.slice (some ⟨g, 0, none⟩) l.length cap) l.toArray := by
  obtain ⟨cur, h1, h2, h3, h4, h5⟩ := h
  refine ⟨by rw [Tk.fl_len]; simp, .inr ⟨g, cap, cur, by simp, Nat.zero_le _, h1, by simpa using h3, h4, h2, ?_⟩⟩
  simp only [List.size_toArray]
  apply List.ext_getElem?
  intro j
  by_cases hj : j < l.length * 3
  · obtain ⟨i, c, hc, rfl⟩ : ∃ i c, c < 3 ∧ j = i * 3 + c := ⟨j / 3, j % 3, by omega, by omega⟩
    have hi : i < l.length := by omega
    rw [List.getElem?_take_of_lt hj, Array.getElem?_toList, Tk.fl_get l i c hi hc]
    obtain ⟨a, b, d⟩ := h5 i hi
    rw [e i hi, getElem!_pos l i hi] at a b d
    rcases c with _ | _ | _ | c
    · rw [Nat.add_zero]; exact a
    · exact b
    · exact d
    · omega
  · rw [List.getElem?_eq_none (by rw [List.length_take]; omega), List.getElem?_eq_none (by rw [Tk.fl_len]; simpa using hj)]
end Go.Proofs.YtbnljabeccebiabGreat

/- flat.order, slices.SortFunc by it, Range. -/
namespace Go.Proofs.YtbnljabeccebiabGreat
open Go.RowKit Go.Shelf Go.Sort Go.Lib
attribute [local go_sem] Oper.semAt_some

theorem cf_is (x y : Tk.Ht) : Tk.cf x y = if Tk.hlt x y = true then -1 else if Tk.hlt y x = true then 1 else 0 := by
  simp only [Tk.hlt_iff]
  unfold Tk.cf Tk.cor Tk.cw Tk.ci
  (repeat' split) <;> first | omega | rfl
end Go.Proofs.YtbnljabeccebiabGreat

/- flat.Range. -/
namespace Go.Proofs.YtbnljabeccebiabGreat
open Go.RowKit Go.Shelf Go.Sort Go.Lib
attribute [local go_sem] Oper.semAt_some

/-- Here a walk stands still. -/
def Stop (p : Prop) : Prop := p
theorem stop_at {p : Prop} (h : Stop p) : p := h

/-- Is a hit no farther than a radius? -/
def inRad (rh rl : Int) (x : Tk.Ht) : Bool := decide (Tk.cw x.2.1 x.2.2 rh rl ≤ 0)
def nearL (rh rl : Int) (q : List Int) (rs : List Rw) : List Tk.Ht := (hitsOf q rs).filter (inRad rh rl)
theorem nearL_snoc (rh rl : Int) (q : List Int) {rs : List Rw} {i : Nat} (h : i < rs.length) : nearL rh rl q (rs.take (i + 1)) = nearL rh rl q (rs.take i) ++ if inRad rh rl (hitOf q rs[i]!) = true then [hitOf q rs[i]!] else [] := by
  unfold nearL
  rw [hitsOf_snoc q h, List.filter_append]
  congr 1
  split
  · rename_i e; simp only [List.filter_cons, e, if_true, List.filter_nil]
  · rename_i e; simp only [List.filter_cons, e, List.filter_nil]; rfl
theorem nearL_len (rh rl : Int) (q : List Int) (rs : List Rw) : (nearL rh rl q rs).length ≤ rs.length := by
  unfold nearL; exact Nat.le_trans (List.length_filter_le _ _) (by rw [hitsOf_len]; exact Nat.le_refl _)

def RadBox (W : World) (p : Nat) (rh rl : Int) : Prop := W.heap[p]? = some (.cells #[.int .u64 rh, .int .u64 rl] 58 (0, 0))
theorem RadBox.cells {W : World} {p : Nat} {rh rl : Int} (h : RadBox W p rh rl) : W.cell? ⟨p, 0, none⟩ = some (.int .u64 rh) ∧ W.cell? ⟨p, 1, none⟩ = some (.int .u64 rl) := by
  have e : W.heap[p]? = _ := h
  refine ⟨?_, ?_⟩ <;> simp [World.cell?, e]
theorem RadBox.gb {W W' : World} {p : Nat} {rh rl : Int} (h : RadBox W p rh rl) (g : Gb W W') : RadBox W' p rh rl := gb_same g h
theorem ownFrom_rad {B p : Nat} {rh rl : Int} : OwnFrom B (fun (_ : Nat) W => RadBox W p rh rl) := fun j W W' row h hg hr => by
  have e : W.heap[p]? = _ := h
  refine (hg.block p (Array.getElem?_eq_some_iff.1 e).1 ?_).trans e
  intro e2
  obtain ⟨_, o, ho, hc⟩ := hr p e2.symm
  rw [e] at ho; injection ho with ho; subst ho; cases hc
theorem ownFrom_own {B : Nat} {v : Value} {d : Nat → Array Tk.Ht} : OwnFrom B (fun (j : Nat) W => Tk.Own W v (d j)) := fun j W W' row h hg hr => by
  refine Tk.own_kp h (Tk.Kp.grown hg) fun g hg' e => ?_
  rcases h.2 with ⟨rfl, _⟩ | ⟨g', cap', cur, rfl, _, hh, _⟩
  · cases hg'
  · simp only [Value.ownBlock, Option.some.injEq] at hg'
    subst hg'
    obtain ⟨_, o, ho, hc⟩ := hr _ e.symm
    rw [hh] at ho; injection ho with ho; subst ho; cases hc
theorem Boxed.gb {W W' : World} {B : Nat} {t : TypeId} {v : Value} (h : Boxed W B t v) (g : Gb W W') : Boxed W' B t v := gb_same g h
theorem own_type {W : World} {v : Value} {d : Array Tk.Ht} (h : Tk.Own W v d) {g : Nat} (hg : v.ownBlock = some g) : ∃ cs, W.heap[g]? = some (.cells cs 60 (0, 0)) := by
  rcases h.2 with ⟨rfl, _⟩ | ⟨g', cap', cur, rfl, _, hh, _⟩
  · cases hg
  · simp only [Value.ownBlock, Option.some.injEq] at hg
    exact ⟨cur, by rw [← hg]; exact hh⟩
theorem box_ne_own {W : World} {v : Value} {d : Array Tk.Ht} (h : Tk.Own W v d) {B : Nat} {cs : Array Value} {t : TypeId} (b : W.heap[B]? = some (.cells cs t (0, 0))) (h1 : t ≠ 60) : some B ≠ v.ownBlock := by
  intro e
  obtain ⟨cs', e3⟩ := own_type h e.symm
  rw [b] at e3; simp at e3; exact h1 e3.2

theorem own_slice {W : World} {v : Value} {d : Array Tk.Ht} (h : Tk.Own W v d) : ∃ a n c, v = .slice a n c := by
  rcases h.2 with ⟨rfl, _⟩ | ⟨g', cap', cur, rfl, _⟩
  · exact ⟨_, _, _, rfl⟩
  · exact ⟨_, _, _, rfl⟩
/-- Behind j rounds. -/
def RngAt (w0 : World) (Bn Bd Br Bq : Nat) (v u : Value) (rs : List Rw) (q : List Int) (rh rl : Int) (j : Nat) (W : World) : Prop :=
  ∃ vn, Boxed W Bn 35 vn ∧ Tk.Own W vn (nearL rh rl q (rs.take j)).toArray ∧ (∀ g, vn.ownBlock = some g → w0.heap.size ≤ g) ∧ Below w0.heap.size w0 W ∧ RadBox W Bd rh rl ∧ Boxed W Br 22 v ∧ Boxed W Bq 27 u
theorem ownFrom_rng {w0 : World} {B Bn Bd Br Bq : Nat} {v u : Value} {rs : List Rw} {q : List Int} {rh rl : Int} (hB : w0.heap.size ≤ B) : OwnFrom B (RngAt w0 Bn Bd Br Bq v u rs q rh rl) :=
  ownFrom_ex fun _ => ownFrom_box.and (ownFrom_own.and ((ownFrom_pure B _).and ((ownFrom_below (Nat.le_refl _) hB).and (ownFrom_rad.and (ownFrom_box.and ownFrom_box)))))

end Go.Proofs.YtbnljabeccebiabGreat

/- flat.risingIds, somewhere. -/
namespace Go.Proofs.YtbnljabeccebiabGreat
open Go.RowKit Go.Sort

/-- Behind some rounds: the list of the ids so far. -/
structure UpSt (w W : World) (v : Value) (l : List Int) : Prop where
  row : Own W w.heap.size v l
  gb : Gb w W
theorem UpSt.alloc {w W : World} {v : Value} {l : List Int} (h : UpSt w W v l) (o : Obj) : UpSt w (W.alloc o) v l :=
  ⟨World.ownsRow.alloc h.row o, gb_alloc h.gb o⟩
theorem UpSt.next {w W W2 : World} {v v' : Value} {l : List Int} {x : Int} (h : UpSt w W v l)
    (hr : W2.ownsRow w.heap.size 3 1 v' (l.length + 1) (l.map (Value.int .i64) ++ [.int .i64 x])) (hg2 : W.grownBy W2 v.ownBlock) : UpSt w W2 v' (l ++ [x]) := by
  refine ⟨?_, below_grown h.gb hg2 (fun k e => (World.ownsRow.lt h.row k e).1) h.gb.size⟩
  unfold Own
  rw [List.length_append, List.map_append]
  exact hr

/-- What is not looked at: nothing, or one region with all their ids. -/
def Rest (w w' : World) (v : Value) (rs : List Rw) : Prop := Gb w w' ∧ ((rs = [] ∧ v = .slice none 0 0) ∨ rs ≠ [] ∧ ∃ vi g, v = .slice (some ⟨g, 0, none⟩) 1 1 ∧ w.heap.size ≤ g ∧
  w'.heap[g]? = some (.cells #[.int .i64 1, .slice none 0 0, .slice none 0 0, .int .u64 0, .int .u64 0, vi] 78 (0, 0)) ∧ Own w' w.heap.size vi (srt (idsOf rs)))
end Go.Proofs.YtbnljabeccebiabGreat

/- flat.Search. -/
namespace Go.Proofs.YtbnljabeccebiabGreat
open Go.RowKit Go.Sort

theorem rdw_take {w : World} {a : Option Addr} {n cap c : Nat} {rs : List Rw} (h : RdW w (.slice a n cap) rs) (hc : c ≤ n) : RdW w (.slice a c cap) (rs.take c) := by
  obtain ⟨a', cap', e, h⟩ := h
  injection e with e1 e2 e3
  subst e1; subst e3
  have hl : (rs.take c).length = c := by rw [List.length_take]; omega
  refine ⟨a, cap, by rw [hl], fun i hi => ?_⟩
  rw [hl] at hi
  obtain ⟨b, o, u, r⟩ := h i (by omega)
  refine ⟨b, o, u, ?_⟩
  rw [getElem!_pos (rs.take c) i (by omega), List.getElem_take, ← getElem!_pos rs i (by omega)]
  exact r
theorem rdw_drop {w : World} {a : Option Addr} {n cap c : Nat} {rs : List Rw} (h : RdW w (.slice a n cap) rs) (hn : n ≤ cap) (hc : c ≤ n) : RdW w (.slice (if cap = c then a else Option.map (fun x => x.add (c * 2)) a) (n - c) (cap - c)) (rs.drop c) := by
  obtain ⟨a', cap', e, h⟩ := h
  injection e with e1 e2 e3
  subst e1; subst e3
  refine ⟨_, _, by rw [List.length_drop, e2], fun i hi => ?_⟩
  rw [List.length_drop] at hi
  obtain ⟨b, o, u, e4, e5, e6, e7⟩ := h (c + i) (by omega)
  subst e4
  rw [if_neg (by omega)]
  refine ⟨b, o + c * 2, u, by simp [Addr.add], ?_⟩
  rw [getElem!_pos (rs.drop c) i (by rw [List.length_drop]; omega), List.getElem_drop, ← getElem!_pos rs (c + i) (by omega)]
  rw [show o + c * 2 + i * 2 = o + (c + i) * 2 by omega]
  exact ⟨e5, e6, e7⟩
theorem grown_setCell (w : World) (p : Addr) (u : Value) : w.grownBy (w.setCell p u) (some p.block) :=
  ⟨rfl, rfl, rfl, by simp [World.setCell], fun k _ hn => Below.heap_setCell _ _ _ _ (by rintro rfl; exact hn rfl)⟩

def searchE (rs : List Rw) (q : List Int) (k b : Int) : Int := if topE rs q k = 0 then (if 0 ≤ b ∧ b ≤ 1000000 then 0 else 1) else topE rs q k
theorem searchE_zero {rs : List Rw} {q : List Int} {k b : Int} : searchE rs q k b = 0 ↔ topE rs q k = 0 ∧ 0 ≤ b ∧ b ≤ 1000000 := by
  unfold searchE
  split
  · rename_i h
    split
    · rename_i h1; simp [h, h1]
    · rename_i h1; simp [h]; omega
  · rename_i h; exact ⟨fun e => absurd e h, fun e => absurd e.1 h⟩

/-- Rows that were not looked at, in memory from B on. -/
def RestAt (w : World) (B : Nat) (v : Value) (rs : List Rw) : Prop := (rs = [] ∧ v = .slice none 0 0) ∨ rs ≠ [] ∧ ∃ vi g, v = .slice (some ⟨g, 0, none⟩) 1 1 ∧ B ≤ g ∧
  w.heap[g]? = some (.cells #[.int .i64 1, .slice none 0 0, .slice none 0 0, .int .u64 0, .int .u64 0, vi] 78 (0, 0)) ∧ Own w B vi (srt (idsOf rs))
theorem RestAt.grown {w w' : World} {B : Nat} {v : Value} {rs : List Rw} {b : Nat} (h : RestAt w B v rs) (g : w.grownBy w' (some b)) (hb : b < B) : RestAt w' B v rs := by
  rcases h with h | ⟨h0, vi, x, h1, h2, h3, h4⟩
  · exact .inl h
  · refine .inr ⟨h0, vi, x, h1, h2, (g.block x (Array.getElem?_eq_some_iff.1 h3).1 (by simp; omega)).trans h3, h4.kept g (.inr fun e => ?_)⟩
    have := (World.ownsRow.lt h4 b e).1
    omega
/-- An answer: hits, ids that were seen, the rest; each in memory of its own. -/
def AnsB (w w' : World) (B1 B2 : Nat) (vh vs vr : Value) (rs : List Rw) (q : List Int) (k c : Nat) : Prop := w.heap.size ≤ B1 ∧ B1 ≤ B2 ∧ B2 ≤ w'.heap.size ∧ Gb w w' ∧ Tk.Own w' vh (Tk.firsts k (hitsOf q (rs.take c))).toArray ∧
  (∀ g, vh.ownBlock = some g → w.heap.size ≤ g ∧ g < B1) ∧ Own w' B1 vs (srt (idsOf (rs.take c))) ∧ (∀ g, vs.ownBlock = some g → g < B2) ∧ RestAt w' B2 vr (rs.drop c)
def AnsAt (w w' : World) (vh vs vr : Value) (rs : List Rw) (q : List Int) (k c : Nat) : Prop := ∃ B1 B2, AnsB w w' B1 B2 vh vs vr rs q k c
theorem AnsB.set {w w' : World} {B1 B2 : Nat} {vh vs vr : Value} {rs : List Rw} {q : List Int} {k c : Nat} (h : AnsB w w' B1 B2 vh vs vr rs q k c) (hne : vh.ownBlock ≠ some w.heap.size) (h1 : vs.ownBlock ≠ some w.heap.size) (h2 : w.heap.size < B2) (o : Nat) (u : Value) :
    AnsB w (w'.setCell ⟨w.heap.size, o, none⟩ u) B1 B2 vh vs vr rs q k c := by
  obtain ⟨b1, b2, b3, g, t, b4, b5, b6, b7⟩ := h
  have gs := grown_setCell w' ⟨w.heap.size, o, none⟩ u
  refine ⟨b1, b2, by have := gs.size; omega, gb_set g (Nat.le_refl _) u, ?_, b4, b5.kept gs (.inr h1), b6, b7.grown gs h2⟩
  exact Tk.own_kp t (Tk.Kp.grown gs) fun x hx e => hne (by rw [hx, e])

end Go.Proofs.YtbnljabeccebiabGreat

/- The law's big, and Before; the laws' statements in plain words. -/
namespace Go.Proofs.YtbnljabeccebiabGreat
open Go.RowKit Go.Sort

/-- The document's order of two hits with distances that are numbers. -/
theorem wdv_ne (a b c d : Int) (W : World) : (binOp .neq 58 (.agg #[.int .u64 a, .int .u64 b]) (.agg #[.int .u64 c, .int .u64 d])).run Tryz.prog W = .ok (.bool (!(a == c && b == d))) W := by
  have u37 := Tryz.underlying23
  have a37 := Tryz.isAgg23
  have z37 := Tryz.sizeOf23
  have hS2 : Tryz.prog.underlying 58 = some (.struct (Tryz.prog.fieldsOf 58)) := by kernel_rfl
  have hp2 : Tryz.prog.stoodInHeld 58 = false := by kernel_rfl
  have h24 : (Op.equalIn 10000 58 (.agg #[.int .u64 a, .int .u64 b]) (.agg #[.int .u64 c, .int .u64 d])).run Tryz.prog W = .ok (a == c && b == d) W := by
    rw [show (10000 : Nat) = 9999 + 1 from rfl, run_equalIn_agg W 9999 58 _ _ hS2 hp2]
    simp only [Program.fieldsOf, Tryz.underlying58]
    go_simp
    by_cases h1 : a = c <;> by_cases h2 : b = d <;> simp [h1, h2]
  rw [run_neq_struct, h24]; rfl
theorem dst_comm5 {a b : List Int} (h : a.length = b.length) : dst a b = dst b a := by
  unfold dst
  rw [← h]
  have hg : ∀ x y : Int, gap x x y = gap y y x := fun x y => by unfold gap; (repeat' split) <;> omega
  have : ∀ n, sumN (fun i => gap a[i]! a[i]! b[i]! * gap a[i]! a[i]! b[i]!) n = sumN (fun i => gap b[i]! b[i]! a[i]! * gap b[i]! b[i]! a[i]!) n := fun n => by
    congr 1; funext i; rw [hg]
  exact this _
end Go.Proofs.YtbnljabeccebiabGreat

/- The reference's Hits: all rows' hits in their order, by laying each in among those ahead. -/
namespace Go.Proofs.YtbnljabeccebiabGreat
open Go.RowKit Go.Sort Go.Maps

theorem ins_at (x : Tk.Ht) : ∀ (l : List Tk.Ht) (q : Nat), (∀ i, i < q → Tk.hlt x l[i]! = false) → q ≤ l.length → (q < l.length → Tk.hlt x l[q]! = true) → Tk.ins x l = l.take q ++ x :: l.drop q
  | [], q, _, hq, _ => by
    obtain rfl : q = 0 := by simpa using hq
    rfl
  | y :: r, 0, _, _, h => by
    have := h (by simp)
    simp only [List.getElem!_cons_zero] at this
    unfold Tk.ins
    rw [if_pos this]; rfl
  | y :: r, q + 1, h1, h2, h3 => by
    have h0 := h1 0 (by omega)
    simp only [List.getElem!_cons_zero] at h0
    unfold Tk.ins
    rw [if_neg (by rw [h0]; simp), ins_at x r q (fun i hi => by have := h1 (i + 1) (by omega); simpa using this) (by simpa using h2) (fun hq => by have := h3 (by simpa using hq); simpa using this)]
    rfl
/-- Three cells hold a hit. -/
structure H3 (W : World) (b : Nat) (x : Tk.Ht) : Prop where
  c0 : W.cell? ⟨b, 0, none⟩ = some (.int .i64 x.1)
  c1 : W.cell? ⟨b, 1, none⟩ = some (.int .u64 x.2.1)
  c2 : W.cell? ⟨b, 2, none⟩ = some (.int .u64 x.2.2)
theorem H3.gb {W W' : World} {b : Nat} {x : Tk.Ht} (h : H3 W b x) (g : Gb W W') : H3 W' b x := ⟨gb_keeps g h.c0, gb_keeps g h.c1, gb_keeps g h.c2⟩
theorem H3.new (W : World) (x : Tk.Ht) (t : TypeId) : H3 (W.alloc (.cells #[.int .i64 x.1, .int .u64 x.2.1, .int .u64 x.2.2] t)) W.heap.size x := ⟨by simp [go_sem], by simp [go_sem], by simp [go_sem]⟩
theorem H3.block {W W' : World} {b : Nat} {x : Tk.Ht} (h : H3 W b x) (e : W'.heap[b]? = W.heap[b]?) : H3 W' b x :=
  ⟨(World.cell?_of_block (a := ⟨b, 0, none⟩) e).trans h.c0, (World.cell?_of_block (a := ⟨b, 1, none⟩) e).trans h.c1, (World.cell?_of_block (a := ⟨b, 2, none⟩) e).trans h.c2⟩
/-- What the region holds while it draws. -/
structure Hs (w W : World) (a b : Addr) (u v : Value) : Prop where
  gb : Gb w W
  ca : W.cell? a = some u
  cb : W.cell? b = some v
  la : a.block < w.heap.size
  lb : b.block < w.heap.size
theorem Hs.gr {w W W' : World} {a b : Addr} {u v : Value} (h : Hs w W a b u v) (g : Gb W W') : Hs w W' a b u v := ⟨gb_trans h.gb g, gb_keeps g h.ca, gb_keeps g h.cb, h.la, h.lb⟩
theorem Hs.set {w W : World} {a b : Addr} {u v : Value} {B : Nat} (h : Hs w W a b u v) (hB : w.heap.size ≤ B) (x y z : Value) : Hs w (((W.setCell ⟨B, 0, none⟩ x).setCell ⟨B, 1, none⟩ y).setCell ⟨B, 2, none⟩ z) a b u v := by
  have far : ∀ {p : Addr} {q : Value}, p.block ≠ B → W.cell? p = some q → (((W.setCell ⟨B, 0, none⟩ x).setCell ⟨B, 1, none⟩ y).setCell ⟨B, 2, none⟩ z).cell? p = some q := fun {p q} hp hc => by
    refine (World.cell?_of_block (Below.heap_setCell _ _ _ _ (by dsimp only; exact hp))).trans ?_
    refine (World.cell?_of_block (Below.heap_setCell _ _ _ _ (by dsimp only; exact hp))).trans ?_
    exact (World.cell?_of_block (Below.heap_setCell _ _ _ _ (by dsimp only; exact hp))).trans hc
  have ha := h.la
  have hb := h.lb
  exact ⟨gb_set (gb_set (gb_set h.gb (by dsimp only; exact hB) _) (by dsimp only; exact hB) _) (by dsimp only; exact hB) _, far (by omega) h.ca, far (by omega) h.cb, h.la, h.lb⟩
/-- Each hit of rows is one of a row. -/
theorem hit_of_mem {q : List Int} {rs : List Rw} {x : Tk.Ht} (h : x ∈ Tk.srt (hitsOf q rs)) : ∃ r ∈ rs, x = hitOf q r := by
  have := (Tk.srt_perm _).mem_iff.1 h
  unfold hitsOf at this
  obtain ⟨r, hr, e⟩ := List.mem_map.1 this
  exact ⟨r, hr, e.symm⟩
/-- A hit is laid in among others. -/
structure Lay (w W : World) (g n cap Bh k : Nat) (L : List Tk.Ht) (x : Tk.Ht) : Prop where
  arr : ∃ f, HA W g (n + 1) cap f ∧ (∀ t, t < k → f t = L[t]!) ∧ ∀ t, k < t → t ≤ n → f t = L[t - 1]!
  box : H3 W Bh x
  gb : Gb w W
  hg : w.heap.size ≤ g
  ne : Bh ≠ g
  more : ∀ t, k ≤ t → t < n → Tk.hlt x L[t]! = true
theorem Lay.gr {w W W' : World} {g n cap Bh k : Nat} {L : List Tk.Ht} {x : Tk.Ht} (h : Lay w W g n cap Bh k L x) (g' : Gb W W') : Lay w W' g n cap Bh k L x := by
  obtain ⟨f, h1, h2⟩ := h.arr
  exact ⟨⟨f, h1.block (g'.block _ h1.lt), h2⟩, h.box.gb g', gb_trans h.gb g', h.hg, h.ne, h.more⟩
theorem three_gb {g : Nat} {w W : World} (h : Gb w W) (hg : w.heap.size ≤ g) (o1 o2 o3 : Nat) (x y z : Value) : Gb w (((W.setCell ⟨g, o1, none⟩ x).setCell ⟨g, o2, none⟩ y).setCell ⟨g, o3, none⟩ z) :=
  gb_set (gb_set (gb_set h (by dsimp only; exact hg) _) (by dsimp only; exact hg) _) (by dsimp only; exact hg) _
theorem three_far {g b : Nat} {W : World} (hn : b ≠ g) (o1 o2 o3 : Nat) (x y z : Value) : (((W.setCell ⟨g, o1, none⟩ x).setCell ⟨g, o2, none⟩ y).setCell ⟨g, o3, none⟩ z).heap[b]? = W.heap[b]? :=
  (Below.heap_setCell _ _ _ _ (by dsimp only; exact hn)).trans ((Below.heap_setCell _ _ _ _ (by dsimp only; exact hn)).trans (Below.heap_setCell _ _ _ _ (by dsimp only; exact hn)))
/-- One place on. -/
theorem Lay.down {w W : World} {g n cap Bh k : Nat} {L : List Tk.Ht} {x : Tk.Ht} (h : Lay w W g n cap Bh (k + 1) L x) (hk : k + 1 ≤ n) (hx : Tk.hlt x L[k]! = true) :
    Lay w (((W.setCell ⟨g, (k + 1) * 3, none⟩ (.int .i64 L[k]!.1)).setCell ⟨g, (k + 1) * 3 + 1, none⟩ (.int .u64 L[k]!.2.1)).setCell ⟨g, (k + 1) * 3 + 2, none⟩ (.int .u64 L[k]!.2.2)) g n cap Bh k L x := by
  obtain ⟨f, h1, h2, h3⟩ := h.arr
  refine ⟨⟨_, h1.set (i := k + 1) (by omega) L[k]!, fun t ht => ?_, fun t ht1 ht2 => ?_⟩, h.box.block (three_far h.ne _ _ _ _ _ _), three_gb h.gb h.hg _ _ _ _ _ _, h.hg, h.ne, fun t ht1 ht2 => ?_⟩
  · rw [if_neg (by omega)]; exact h2 t (by omega)
  · by_cases e : t = k + 1
    · subst e; rw [if_pos rfl]; rfl
    · rw [if_neg e]; exact h3 t (by omega) ht2
  · by_cases e : t = k
    · subst e; exact hx
    · exact h.more t (by omega) ht2
/-- It lies. -/
theorem Lay.done {w W : World} {g n cap Bh k : Nat} {L : List Tk.Ht} {x : Tk.Ht} (h : Lay w W g n cap Bh k L x) (hk : k ≤ n) (hn : L.length = n) (hS : Tk.Srtd L) (hx : k = 0 ∨ Tk.hlt x L[k - 1]! = false) :
    OutH w (((W.setCell ⟨g, k * 3, none⟩ (.int .i64 x.1)).setCell ⟨g, k * 3 + 1, none⟩ (.int .u64 x.2.1)).setCell ⟨g, k * 3 + 2, none⟩ (.int .u64 x.2.2)) (.slice (some ⟨g, 0, none⟩) (n + 1) cap) (Tk.ins x L) := by
  obtain ⟨f, h1, h2, h3⟩ := h.arr
  have hahead : ∀ i, i < k → Tk.hlt x L[i]! = false := fun i hi => by
    rcases hx with e | e
    · omega
    · by_cases e2 : i = k - 1
      · rw [e2]; exact e
      · have := List.pairwise_iff_getElem.1 hS i (k - 1) (by omega) (by omega) (by omega)
        rw [← getElem!_pos L i (by omega), ← getElem!_pos L (k - 1) (by omega)] at this
        exact Tk.hlt_ntrans e this
  have hins := ins_at x L k hahead (by omega) (fun hq => h.more k (Nat.le_refl _) (by omega))
  have hl : (Tk.ins x L).length = n + 1 := by rw [Tk.ins_len, hn]
  refine ⟨?_, three_gb h.gb h.hg _ _ _ _ _ _, fun b e => by cases e; exact h.hg⟩
  have h4 := h1.set (i := k) (by omega) x
  rw [← hl] at h4 ⊢
  refine own_of_ha h4 (fun i hi => ?_)
  rw [getElem!_pos (Tk.ins x L) i hi]
  have : ∀ (M : List Tk.Ht) (hM : M = Tk.ins x L) (hi' : i < M.length), (Tk.ins x L)[i] = M[i] := fun M hM _ => by subst hM; rfl
  rw [this _ hins.symm (by rw [← hins]; exact hi)]
  by_cases e : i = k
  · subst e; rw [if_pos rfl, List.getElem_append_right (by rw [List.length_take]; omega)]
    simp only [List.length_take]
    rw [List.getElem_cons]
    simp
    omega
  · rw [if_neg e]
    by_cases e2 : i < k
    · rw [h2 i e2, List.getElem_append_left (by rw [List.length_take]; omega), List.getElem_take, getElem!_pos L i (by omega)]
    · rw [h3 i (by omega) (by omega), List.getElem_append_right (by rw [List.length_take]; omega)]
      rw [getElem!_pos L (i - 1) (by omega)]
      rw [List.getElem_cons]
      have e3 : ¬ (i - (List.take k L).length = 0) := by rw [List.length_take]; omega
      rw [dif_neg e3, List.getElem_drop]
      congr 1
      rw [List.length_take]; omega
theorem three_new (w : World) (x : Tk.Ht) (t : TypeId) : ∀ j u, (Tk.enc x)[j]? = some u → (w.alloc (.cells #[.int .i64 x.1, .int .u64 x.2.1, .int .u64 x.2.2] t)).cell? ((⟨w.heap.size, 0, none⟩ : Addr).add j) = some u := by
  intro j u hu
  rw [Addr.add_lit]
  rcases j with _ | _ | _ | j <;> simp [Tk.enc] at hu <;> subst hu <;> simp [go_sem]
/-- Behind the append. -/
theorem lay_new {w wr W9 w2 : World} {ov v2 : Value} {L : List Tk.Ht} {x : Tk.Ht} {p Bh : Nat} {o : Obj} (hp : L.length = p) (F0 : H3 W9 Bh x) (FB : wr.heap.size ≤ Bh) (FL : Bh < W9.heap.size) (G9 : Gb w W9)
    (hob : ∀ g, ov.ownBlock = some g → w.heap.size ≤ g ∧ g < wr.heap.size) (hr : w2.ownsRow 0 60 3 v2 (p + 1) (Tk.fl L ++ Tk.enc x)) (hg : (W9.alloc o).grownBy w2 ov.ownBlock) (hloc : v2.ownBlock = ov.ownBlock ∨ v2.ownBlock = some (W9.alloc o).heap.size) :
    ∃ g cap, v2 = .slice (some ⟨g, 0, none⟩) (p + 1) cap ∧ Lay w w2 g p cap Bh p L x := by
  have hO : Tk.Own w2 v2 (L ++ [x]).toArray := by
    unfold Tk.Own
    rw [show (L ++ [x]).toArray.size = p + 1 by simp [hp], show (L ++ [x]).toArray.toList = L ++ [x] from rfl, Tk.fl_app, Tk.fl_one]
    exact hr
  rcases hr.2 with ⟨_, e0⟩ | ⟨g, cap, cur, rfl, _⟩
  · omega
  have hA := (ha_of_own hO).2
  rw [show (L ++ [x]).toArray.size = p + 1 by simp [hp]] at hA
  have hgl : w.heap.size ≤ g ∧ Bh ≠ g := by
    rcases hloc with e | e
    · have := hob g e.symm; omega
    · simp only [Value.ownBlock, Option.some.injEq] at e
      rw [World.size_alloc] at e
      have := G9.size
      omega
  refine ⟨g, cap, rfl, ⟨_, hA, fun t ht => ?_, fun t ht1 ht2 => by omega⟩, ?_, below_grown (gb_alloc G9 _) hg (fun k e => (hob k e).1) (by rw [World.size_alloc]; have := G9.size; omega), hgl.1, hgl.2, fun t ht1 ht2 => by omega⟩
  · show (L ++ [x])[t]! = L[t]!
    rw [getElem!_pos (L ++ [x]) t (by simp; omega), List.getElem_append_left (by omega), ← getElem!_pos L t (by omega)]
  · refine H3.block F0 ((hg.block Bh (by rw [World.size_alloc]; omega) (fun e => ?_)).trans (Below.heap_alloc W9 _ Bh FL))
    have := hob Bh e.symm
    omega
theorem own_fm {W : World} {ov : Value} {L : List Tk.Ht} {p : Nat} (h : Tk.Own W ov L.toArray) (hp : L.length = p) : ∃ a c, ov = .slice a p c := by
  rcases h.2 with ⟨e, e0⟩ | ⟨g, cap, cur, e, _⟩
  · have h0 : p = 0 := by rw [← hp]; simpa using e0
    subst h0
    exact ⟨none, 0, e⟩
  · exact ⟨some ⟨g, 0, none⟩, cap, by rw [e]; simp [hp]⟩
theorem six_gb {w0 W w' : World} {p0 p1 p2 q0 q1 q2 : Addr} {v0 v1 v2 u0 u1 u2 : Value} (g : Gr W w') (h : Gb w0 W ∧ W.cell? p0 = some v0 ∧ W.cell? p1 = some v1 ∧ W.cell? p2 = some v2 ∧ W.cell? q0 = some u0 ∧ W.cell? q1 = some u1 ∧ W.cell? q2 = some u2) :
    Gb w0 w' ∧ w'.cell? p0 = some v0 ∧ w'.cell? p1 = some v1 ∧ w'.cell? p2 = some v2 ∧ w'.cell? q0 = some u0 ∧ w'.cell? q1 = some u1 ∧ w'.cell? q2 = some u2 :=
  ⟨gb_trans h.1 g.gb, g.keeps h.2.1, g.keeps h.2.2.1, g.keeps h.2.2.2.1, g.keeps h.2.2.2.2.1, g.keeps h.2.2.2.2.2.1, g.keeps h.2.2.2.2.2.2⟩

end Go.Proofs.YtbnljabeccebiabGreat

/- Answers as they are read; what a sound answer is. -/
namespace Go.Proofs.YtbnljabeccebiabGreat
open Go.RowKit Go.Sort

/-- An answer, plainly. -/
structure Ans where
  hits : List Tk.Ht
  seen : List Int
  rest : List Reg
/-- A slice that reads as these regions. -/
def RdL (w : World) (v : Value) (l : List Reg) : Prop := ∃ a cap, v = .slice a l.length cap ∧ ∀ i (hi' : i < l.length), ∃ b o vl vh vi, a = some ⟨b, o, none⟩ ∧
  w.cell? ⟨b, o + i * 6, none⟩ = some (.int .i64 l[i].S) ∧ w.cell? ⟨b, o + i * 6 + 1, none⟩ = some vl ∧ w.cell? ⟨b, o + i * 6 + 2, none⟩ = some vh ∧ w.cell? ⟨b, o + i * 6 + 3, none⟩ = some (.int .u64 (hi l[i].R)) ∧
  w.cell? ⟨b, o + i * 6 + 4, none⟩ = some (.int .u64 (lo l[i].R)) ∧ w.cell? ⟨b, o + i * 6 + 5, none⟩ = some vi ∧ RdI w vl l[i].L ∧ RdI w vh l[i].H ∧ RdI w vi l[i].I
theorem RdL.gb {w w' : World} {v : Value} {l : List Reg} (h : RdL w v l) (g : Gb w w') : RdL w' v l := by
  obtain ⟨a, cap, e, h⟩ := h
  refine ⟨a, cap, e, fun i hi' => ?_⟩
  obtain ⟨b, o, vl, vh, vi, e0, c0, c1, c2, c3, c4, c5, r1, r2, r3⟩ := h i hi'
  exact ⟨b, o, vl, vh, vi, e0, gb_keeps g c0, gb_keeps g c1, gb_keeps g c2, gb_keeps g c3, gb_keeps g c4, gb_keeps g c5, r1.gb g, r2.gb g, r3.gb g⟩
theorem rdl_nil (w : World) : RdL w (.slice none 0 0) [] := ⟨none, 0, rfl, fun _ hi' => absurd hi' (Nat.not_lt_zero _)⟩
/-- The parts of an answer's value read as this answer. -/
structure RdA (w : World) (vh vs vr : Value) (a : Ans) : Prop where
  hits : Tk.Rd w vh a.hits
  seen : RdI w vs a.seen
  rest : RdL w vr a.rest
theorem RdA.gb {w w' : World} {vh vs vr : Value} {a : Ans} (h : RdA w vh vs vr a) (g : Gb w w') : RdA w' vh vs vr a := ⟨h.hits.gr g, h.seen.gb g, h.rest.gb g⟩
/-- All ids of an answer. -/
def allIds (a : Ans) : List Int := a.seen ++ a.rest.flatMap (·.I)
/-- An answer that is sound; srs: the rows that were seen, in the order of their ids. -/
structure SoundP (rs : List Rw) (q : List Int) (k : Nat) (a : Ans) (srs : List Rw) : Prop where
  ids : idsOf srs = a.seen
  mem : ∀ r ∈ srs, r ∈ rs
  rise : ∀ i, i + 1 < a.seen.length → a.seen[i]! < a.seen[i + 1]!
  reg : ∀ r ∈ a.rest, ckR r (q.length : Int) = 0 ∧ r.I ≠ [] ∧ r.R < 340282366920938463463374607431768211456 ∧ ∀ x ∈ r.I, ∃ row ∈ rs, row.1 = x ∧ inV r row.2 = true
  hits : a.hits = Tk.firsts k (hitsOf q srs)
  all : (allIds a).Perm (idsOf rs)
end Go.Proofs.YtbnljabeccebiabGreat
