import Derived.Test.YtepjbdklljlecaaGreatVb19
import Derived.Test.YtepjbdklljlecaaGreatVb17
import Derived.Maps.OwnIn
import Derived.Test.YtepjbdklljlecaaGreatVb7
import Derived.Test.YtepjbdklljlecaaGreatVb16
import Derived.Test.YtepjbdklljlecaaGreatVb10
/- flat.nearest, TopK. -/
namespace Go.Proofs.YtepjbdklljlecaaGreat
open Go.RowKit Go.Shelf
attribute [local go_sem] Oper.semAt_some

theorem Boxed.kp {S : Nat → Prop} {W W' : World} {B : Nat} {t : TypeId} {v : Value} (h : Boxed W B t v) (k : Tk.Kp S W W') (hn : ¬ S B) : Boxed W' B t v :=
  (k.block B h.lt hn).trans h
/-- A heap's block and its hits' block. -/
theorem Has.cells {W : World} {hb k : Nat} {v : Value} {m : List Tk.Ht} (h : Tk.Has W hb k v m) : ∃ cs, W.heap[hb]? = some (.cells cs 113 (0, 0)) := by
  obtain ⟨d, h1, _⟩ := h; exact ⟨_, h1.blk⟩
theorem Has.own {W : World} {hb k : Nat} {v : Value} {m : List Tk.Ht} (h : Tk.Has W hb k v m) {g : Nat} (hg : v.ownBlock = some g) : ∃ cs, W.heap[g]? = some (.cells cs 68 (0, 0)) := by
  obtain ⟨d, h1, _⟩ := h
  rcases h1.own.2 with ⟨rfl, _⟩ | ⟨g', cap', cur, rfl, _, hh, _⟩
  · cases hg
  · simp only [Value.ownBlock, Option.some.injEq] at hg
    exact ⟨cur, by rw [← hg]; exact hh⟩
theorem below_putObj {a b : World} {B D : Nat} (h : Below B a b) (hD : B ≤ D) (o : Obj) : Below B a (b.putObj D o) :=
  ⟨h.os, h.tape, h.output, by simpa [World.putObj] using h.size, fun k hk => (World.putObj_heap_other (by omega)).trans (h.block k hk)⟩
theorem own_putObj {w : World} {v : Value} {d : Array Tk.Ht} {D : Nat} {o : Obj} (h : Tk.Own w v d) (hK : w.heap[D]? = some o) (hc : o.isCells = false) (o' : Obj) : Tk.Own (w.putObj D o') v d := by
  refine Tk.own_kp h (Tk.Kp.grown (grownBy_putObj' w D o')) fun g hg e => ?_
  rcases h.2 with ⟨rfl, _⟩ | ⟨g', cap', cur, rfl, _, hh, _⟩
  · cases hg
  · simp only [Value.ownBlock, Option.some.injEq] at hg e
    subst hg; subst e
    rw [hh] at hK; injection hK with hK; subst hK; cases hc
/-- A hit in a block of its own. -/
abbrev hitObj (x : Tk.Ht) : Obj := .cells #[.int .i64 x.1, .int .u64 x.2.1, .int .u64 x.2.2] 68
def HitBox (W : World) (p : Nat) (x : Tk.Ht) : Prop := W.heap[p]? = some (hitObj x)
theorem HitBox.cells {W : World} {p : Nat} {x : Tk.Ht} (h : HitBox W p x) : W.cell? ⟨p, 0, none⟩ = some (.int .i64 x.1) ∧ W.cell? ⟨p, 1, none⟩ = some (.int .u64 x.2.1) ∧ W.cell? ⟨p, 2, none⟩ = some (.int .u64 x.2.2) := by
  have e : W.heap[p]? = some (hitObj x) := h
  refine ⟨?_, ?_, ?_⟩ <;> simp [World.cell?, e]
/-- Offer, with what it leaves of other blocks told by their kind. -/
theorem offer_has' {w : World} {hb k : Nat} {v : Value} {m : List Tk.Ht} (h : Tk.Has w hb k v m) (x : Tk.Ht) :
    Calls Tryz.prog 81 #[.pointer (some ⟨hb, 0, none⟩), Tk.hv x] w fun e w' => (∃ b, e = .returned (.bool b)) ∧ ∃ v', Tk.Has w' hb k v' (Tk.keep k m x) ∧ Tk.Kp (fun b => b = hb ∨ some b = v.ownBlock) w w' ∧ (v'.ownBlock = v.ownBlock ∨ ∀ g, v'.ownBlock = some g → w.heap.size ≤ g) := by
  refine (Tk.offer_has h x).mono ?_
  rintro e w' ⟨rfl, v', h1, h2, h3⟩
  exact ⟨⟨_, rfl⟩, v', h1, h2, h3⟩

/-- Lists of hits that came out, in memory that w0 has not. -/
def OutH (w0 w' : World) (v : Value) (l : List Tk.Ht) : Prop := Tk.Own w' v l.toArray ∧ Below w0.heap.size w0 w' ∧ ∀ g, v.ownBlock = some g → w0.heap.size ≤ g

end Go.Proofs.YtepjbdklljlecaaGreat

/- Hits in a block of the call's own, by their places. -/
namespace Go.Proofs.YtepjbdklljlecaaGreat
open Go.RowKit Go.Sort

/-- Block g holds, at its head, the hits f 0 .. f (n - 1). -/
def HA (W : World) (g n cap : Nat) (f : Nat → Tk.Ht) : Prop :=
  ∃ cur : Array Value, W.heap[g]? = some (.cells cur 68 (0, 0)) ∧ cur.size = cap * 3 ∧ n ≤ cap ∧ cap ≤ maxLen ∧ ∀ i, i < n → cur[i * 3]? = some (.int .i64 (f i).1) ∧ cur[i * 3 + 1]? = some (.int .u64 (f i).2.1) ∧ cur[i * 3 + 2]? = some (.int .u64 (f i).2.2)
theorem HA.lt {W : World} {g n cap : Nat} {f : Nat → Tk.Ht} (h : HA W g n cap f) : g < W.heap.size := by
  obtain ⟨cur, h1, _⟩ := h; exact (Array.getElem?_eq_some_iff.1 h1).1
theorem HA.cell {W : World} {g n cap : Nat} {f : Nat → Tk.Ht} (h : HA W g n cap f) {i : Nat} (hi : i < n) : W.cell? ⟨g, i * 3, none⟩ = some (.int .i64 (f i).1) ∧ W.cell? ⟨g, i * 3 + 1, none⟩ = some (.int .u64 (f i).2.1) ∧ W.cell? ⟨g, i * 3 + 2, none⟩ = some (.int .u64 (f i).2.2) := by
  obtain ⟨cur, h1, _, _, _, h4⟩ := h
  obtain ⟨a, b, c⟩ := h4 i hi
  simp [World.cell?, h1, a, b, c]
theorem HA.frozen {W : World} {g n cap : Nat} {f : Nat → Tk.Ht} (h : HA W g n cap f) (o : Nat) : W.frozen? ⟨g, o, none⟩ = false := by
  obtain ⟨cur, h1, _⟩ := h
  simp [World.frozen?, h1]
theorem HA.block {W W' : World} {g n cap : Nat} {f : Nat → Tk.Ht} (h : HA W g n cap f) (e : W'.heap[g]? = W.heap[g]?) : HA W' g n cap f := by
  obtain ⟨cur, h1, h2⟩ := h
  exact ⟨cur, e.trans h1, h2⟩
theorem HA.congr {W : World} {g n cap : Nat} {f f' : Nat → Tk.Ht} (h : HA W g n cap f) (e : ∀ i, i < n → f i = f' i) : HA W g n cap f' := by
  obtain ⟨cur, h1, h2, h3, h4, h5⟩ := h
  exact ⟨cur, h1, h2, h3, h4, fun i hi => by rw [← e i hi]; exact h5 i hi⟩
theorem HA.set {W : World} {g n cap : Nat} {f : Nat → Tk.Ht} (h : HA W g n cap f) {i : Nat} (hi : i < n) (x : Tk.Ht) :
    HA (((W.setCell ⟨g, i * 3, none⟩ (.int .i64 x.1)).setCell ⟨g, i * 3 + 1, none⟩ (.int .u64 x.2.1)).setCell ⟨g, i * 3 + 2, none⟩ (.int .u64 x.2.2)) g n cap (fun t => if t = i then x else f t) := by
  obtain ⟨cur, h1, h2, h3, h4, h5⟩ := h
  refine ⟨((cur.setIfInBounds (i * 3) (.int .i64 x.1)).setIfInBounds (i * 3 + 1) (.int .u64 x.2.1)).setIfInBounds (i * 3 + 2) (.int .u64 x.2.2), ?_, by simpa using h2, h3, h4, fun t ht => ?_⟩
  · simp [World.setCell, Array.getElem?_modify, h1]
  · by_cases e : t = i
    · subst e
      simp only [if_true]
      refine ⟨?_, ?_, ?_⟩
      · rw [Array.getElem?_setIfInBounds_ne (by omega), Array.getElem?_setIfInBounds_ne (by omega), Array.getElem?_setIfInBounds_self_of_lt (by omega)]
      · rw [Array.getElem?_setIfInBounds_ne (by omega), Array.getElem?_setIfInBounds_self_of_lt (by simp; omega)]
      · rw [Array.getElem?_setIfInBounds_self_of_lt (by simp; omega)]
    · simp only [if_neg e]
      obtain ⟨a, b, c⟩ := h5 t ht
      refine ⟨?_, ?_, ?_⟩
      · rw [Array.getElem?_setIfInBounds_ne (by omega), Array.getElem?_setIfInBounds_ne (by omega), Array.getElem?_setIfInBounds_ne (by omega)]; exact a
      · rw [Array.getElem?_setIfInBounds_ne (by omega), Array.getElem?_setIfInBounds_ne (by omega), Array.getElem?_setIfInBounds_ne (by omega)]; exact b
      · rw [Array.getElem?_setIfInBounds_ne (by omega), Array.getElem?_setIfInBounds_ne (by omega), Array.getElem?_setIfInBounds_ne (by omega)]; exact c
theorem own_of_ha {W : World} {g cap : Nat} {l : List Tk.Ht} {f : Nat → Tk.Ht} (h : HA W g l.length cap f) (e : ∀ i, i < l.length → f i = l[i]!) : Tk.Own W (.slice (some ⟨g, 0, none⟩) l.length cap) l.toArray := by
  obtain ⟨cur, h1, h2, h3, h4, h5⟩ := h
  refine ⟨by rw [Tk.fl_len]; simp, .inr ⟨g, cap, cur, by simp, Nat.zero_le _, h1, by simpa using h3, h4, h2, ?_⟩⟩
  simp only [List.size_toArray]
  apply List.ext_getElem?
  intro j
  by_cases hj : j < l.length * 3
  · obtain ⟨i, c, hc, rfl⟩ : ∃ i c, c < 3 ∧ j = i * 3 + c := ⟨j / 3, j % 3, by omega, by omega⟩
    have hi : i < l.length := by omega
    rw [List.getElem?_take_of_lt hj, Array.getElem?_toList, Tk.fl_get l i c hi hc]
    obtain ⟨a, b, d⟩ := h5 i hi
    rw [e i hi, getElem!_pos l i hi] at a b d
    rcases c with _ | _ | _ | c
    · rw [Nat.add_zero]; exact a
    · exact b
    · exact d
    · omega
  · rw [List.getElem?_eq_none (by rw [List.length_take]; omega), List.getElem?_eq_none (by rw [Tk.fl_len]; simpa using hj)]
end Go.Proofs.YtepjbdklljlecaaGreat

/- flat.order, slices.SortFunc by it, Range. -/
namespace Go.Proofs.YtepjbdklljlecaaGreat
open Go.RowKit Go.Shelf Go.Sort Go.Lib
attribute [local go_sem] Oper.semAt_some

end Go.Proofs.YtepjbdklljlecaaGreat

/- flat.Range. -/
namespace Go.Proofs.YtepjbdklljlecaaGreat
open Go.RowKit Go.Shelf Go.Sort Go.Lib
attribute [local go_sem] Oper.semAt_some

def RadBox (W : World) (p : Nat) (rh rl : Int) : Prop := W.heap[p]? = some (.cells #[.int .u64 rh, .int .u64 rl] 66 (0, 0))
theorem RadBox.cells {W : World} {p : Nat} {rh rl : Int} (h : RadBox W p rh rl) : W.cell? ⟨p, 0, none⟩ = some (.int .u64 rh) ∧ W.cell? ⟨p, 1, none⟩ = some (.int .u64 rl) := by
  have e : W.heap[p]? = _ := h
  refine ⟨?_, ?_⟩ <;> simp [World.cell?, e]
theorem RadBox.gb {W W' : World} {p : Nat} {rh rl : Int} (h : RadBox W p rh rl) (g : Gb W W') : RadBox W' p rh rl := gb_same g h
theorem Boxed.gb {W W' : World} {B : Nat} {t : TypeId} {v : Value} (h : Boxed W B t v) (g : Gb W W') : Boxed W' B t v := gb_same g h
end Go.Proofs.YtepjbdklljlecaaGreat

/- flat.risingIds, somewhere. -/
namespace Go.Proofs.YtepjbdklljlecaaGreat
open Go.RowKit Go.Sort

/-- Behind some rounds: the list of the ids so far. -/
structure UpSt (w W : World) (v : Value) (l : List Int) : Prop where
  row : Own W w.heap.size v l
  gb : Gb w W
theorem UpSt.alloc {w W : World} {v : Value} {l : List Int} (h : UpSt w W v l) (o : Obj) : UpSt w (W.alloc o) v l :=
  ⟨World.ownsRow.alloc h.row o, gb_alloc h.gb o⟩
theorem UpSt.next {w W W2 : World} {v v' : Value} {l : List Int} {x : Int} (h : UpSt w W v l)
    (hr : W2.ownsRow w.heap.size 3 1 v' (l.length + 1) (l.map (Value.int .i64) ++ [.int .i64 x])) (hg2 : W.grownBy W2 v.ownBlock) : UpSt w W2 v' (l ++ [x]) := by
  refine ⟨?_, below_grown h.gb hg2 (fun k e => (World.ownsRow.lt h.row k e).1) h.gb.size⟩
  unfold Own
  rw [List.length_append, List.map_append]
  exact hr

end Go.Proofs.YtepjbdklljlecaaGreat

/- flat.Search. -/
namespace Go.Proofs.YtepjbdklljlecaaGreat
open Go.RowKit Go.Sort

theorem grown_setCell (w : World) (p : Addr) (u : Value) : w.grownBy (w.setCell p u) (some p.block) :=
  ⟨rfl, rfl, rfl, by simp [World.setCell], fun k _ hn => Below.heap_setCell _ _ _ _ (by rintro rfl; exact hn rfl)⟩

/-- Rows that were not looked at, in memory from B on. -/
def RestAt (w : World) (B : Nat) (v : Value) (rs : List Rw) : Prop := (rs = [] ∧ v = .slice none 0 0) ∨ rs ≠ [] ∧ ∃ vi g, v = .slice (some ⟨g, 0, none⟩) 1 1 ∧ B ≤ g ∧
  w.heap[g]? = some (.cells #[.int .i64 1, .slice none 0 0, .slice none 0 0, .int .u64 0, .int .u64 0, vi] 102 (0, 0)) ∧ Own w B vi (srt (idsOf rs))
theorem RestAt.grown {w w' : World} {B : Nat} {v : Value} {rs : List Rw} {b : Nat} (h : RestAt w B v rs) (g : w.grownBy w' (some b)) (hb : b < B) : RestAt w' B v rs := by
  rcases h with h | ⟨h0, vi, x, h1, h2, h3, h4⟩
  · exact .inl h
  · refine .inr ⟨h0, vi, x, h1, h2, (g.block x (Array.getElem?_eq_some_iff.1 h3).1 (by simp; omega)).trans h3, h4.kept g (.inr fun e => ?_)⟩
    have := (World.ownsRow.lt h4 b e).1
    omega
/-- An answer: hits, ids that were seen, the rest; each in memory of its own. -/
def AnsB (w w' : World) (B1 B2 : Nat) (vh vs vr : Value) (rs : List Rw) (q : List Int) (k c : Nat) : Prop := w.heap.size ≤ B1 ∧ B1 ≤ B2 ∧ B2 ≤ w'.heap.size ∧ Gb w w' ∧ Tk.Own w' vh (Tk.firsts k (hitsOf q (rs.take c))).toArray ∧
  (∀ g, vh.ownBlock = some g → w.heap.size ≤ g ∧ g < B1) ∧ Own w' B1 vs (srt (idsOf (rs.take c))) ∧ (∀ g, vs.ownBlock = some g → g < B2) ∧ RestAt w' B2 vr (rs.drop c)
theorem AnsB.set {w w' : World} {B1 B2 : Nat} {vh vs vr : Value} {rs : List Rw} {q : List Int} {k c : Nat} (h : AnsB w w' B1 B2 vh vs vr rs q k c) (hne : vh.ownBlock ≠ some w.heap.size) (h1 : vs.ownBlock ≠ some w.heap.size) (h2 : w.heap.size < B2) (o : Nat) (u : Value) :
    AnsB w (w'.setCell ⟨w.heap.size, o, none⟩ u) B1 B2 vh vs vr rs q k c := by
  obtain ⟨b1, b2, b3, g, t, b4, b5, b6, b7⟩ := h
  have gs := grown_setCell w' ⟨w.heap.size, o, none⟩ u
  refine ⟨b1, b2, by have := gs.size; omega, gb_set g (Nat.le_refl _) u, ?_, b4, b5.kept gs (.inr h1), b6, b7.grown gs h2⟩
  exact Tk.own_kp t (Tk.Kp.grown gs) fun x hx e => hne (by rw [hx, e])

end Go.Proofs.YtepjbdklljlecaaGreat

/- The law's big, and Before; the laws' statements in plain words. -/
namespace Go.Proofs.YtepjbdklljlecaaGreat
open Go.RowKit Go.Sort

end Go.Proofs.YtepjbdklljlecaaGreat

/- The reference's Ids and Rows. -/
namespace Go.Proofs.YtepjbdklljlecaaGreat
open Go.RowKit Go.Sort Go.Maps

set_option maxHeartbeats 4000000 in
set_option maxRecDepth 100000 in
theorem rIds_c {w : World} {v : Value} {rs : List Rw} (h : RdW w v rs) (hn : rs.length ≤ 2000) :
    Calls Tryz.prog 142 #[v] w fun e w' => ∃ v', e = .returned v' ∧ Own w' w.heap.size v' (srt (idsOf rs)) ∧ Gb w w' := by
  obtain ⟨a, cap, rfl, ha⟩ := h
  have A : Hid (∀ i, i < rs.length → ∃ b o u, a = some ⟨b, o, none⟩ ∧ w.cell? ⟨b, o + i * 2, none⟩ = some (.int .i64 rs[i]!.1) ∧ w.cell? ⟨b, o + i * 2 + 1, none⟩ = some u ∧ RdI w u rs[i]!.2) := ha
  obtain ⟨n, hN⟩ : ∃ n, n = rs.length := ⟨_, rfl⟩
  have N : Hid (n = rs.length) := hN
  rw [← hN] at hn ⊢
  clear ha hN
  go_enter Tryz.func142, Tryz.ntmps142
  go_wp2
  go_loopw [3, 4] (fun vv iv w' => ∃ q : Nat, iv = .int .i64 (q : Int) ∧ q ≤ n ∧ Hid (Own w' w.heap.size vv (srt ((idsOf rs).take q)) ∧ Gb w w')) (fun _ iv _ => n - (intOf iv).toNat)
  case atStart => exact ⟨0, rfl, Nat.zero_le _, ⟨by simp [srt]; exact own_nil _ _, Below.refl _ _⟩⟩
  case round =>
    obtain ⟨q, rfl, hq, X⟩ := hrel
    by_cases hqn : q < n
    · have hqi : (q : Int) < (n : Int) := by omega
      have hql : q < rs.length := by have := N.out; omega
      obtain ⟨b, o, u, ea, h1, h2, h3⟩ := A.out q hql
      subst ea
      have h1 := gb_keeps X.out.2 h1
      clear h2 h3
      have NX : Hid (srt ((idsOf rs).take (q + 1)) = insI rs[q]!.1 (srt ((idsOf rs).take q))) := by unfold Hid; rw [ids_take hql, srt_snocI]
      have c68 := rwith_c X.out.1 (by rw [srt_len, List.length_take]; omega) rs[q]!.1
      generalize rs[q]!.1 = x at *
      clear hql
      go_wp2_with fail
      refine c68.mono ?_
      rintro e w1 ⟨v', rfl, o1, g1⟩
      have R : Hid (Own w1 w.heap.size v' (srt ((idsOf rs).take (q + 1))) ∧ Gb w w1) := ⟨by rw [NX.out]; exact o1.mono X.out.2.size, gb_trans X.out.2 g1⟩
      clear c68 o1 g1 X NX h1
      go_wp2
      go_roundw
      case rel => exact ⟨q + 1, by simp, hqn, R⟩
      case measure => simp [intOf]; omega
    · have hqi : ¬ (q : Int) < (n : Int) := by omega
      have R : Hid (Own wr w.heap.size u3 (srt (idsOf rs)) ∧ Gb w wr) := by
        have h1 := X.out
        rw [List.take_of_length_le (by unfold idsOf; rw [List.length_map]; have := N.out; omega)] at h1
        exact h1
      clear X
      go_wp2
      go_ret
      exact ⟨_, rfl, R.out⟩
theorem contains_take {l : List Int} {x : Int} {q : Nat} (hq : q ≤ l.length) : (l.take q).contains x = true ↔ ∃ k, k < q ∧ l[k]! = x := by
  rw [List.contains_iff_mem, List.mem_iff_getElem]
  constructor
  · rintro ⟨k, hk, e⟩
    have h1 : k < q := by rw [List.length_take] at hk; omega
    refine ⟨k, h1, ?_⟩
    rw [getElem!_pos l k (by omega), ← e]; simp
  · rintro ⟨k, hk, e⟩
    refine ⟨k, by rw [List.length_take]; omega, ?_⟩
    rw [getElem!_pos l k (by omega)] at e
    rw [← e]; simp

set_option maxHeartbeats 8000000 in
set_option maxRecDepth 100000 in
theorem rrows_c {w : World} {v : Value} {rs : List Rw} (h : RdW w v rs) (d : Int) (hlen : rs.length ≤ 4611686018427387904) :
    Calls Tryz.prog 53 #[v, .int .i64 d] w fun e w' => e = .returned (.int .i64 (idsE rs d)) ∧ Gr w w' := by
  obtain ⟨a, cap, rfl, ha⟩ := h
  have A : Hid (∀ i, i < rs.length → ∃ b o u, a = some ⟨b, o, none⟩ ∧ w.cell? ⟨b, o + i * 2, none⟩ = some (.int .i64 rs[i]!.1) ∧ w.cell? ⟨b, o + i * 2 + 1, none⟩ = some u ∧ RdI w u rs[i]!.2) := ha
  obtain ⟨n, hN⟩ : ∃ n, n = rs.length := ⟨_, rfl⟩
  have N : Hid (n = rs.length) := hN
  rw [← hN] at hlen ⊢
  clear ha
  by_cases hn : n ≤ 512
  · have E : Hid (idsE rs d = rowsTo rs d rs.length) := by unfold Hid idsE; rw [if_pos (by omega)]
    clear hN
    go_enter Tryz.func53, Tryz.ntmps53
    go_wp2
    go_loopw [5] (fun iv w' => ∃ q : Nat, iv = .int .i64 (q : Int) ∧ q ≤ n ∧ Hid (rowsTo rs d q = 0 ∧ Gr w w')) (fun iv _ => n - (intOf iv).toNat)
    case atStart => exact ⟨0, rfl, Nat.zero_le _, rfl, Gr.refl _⟩
    case round =>
      obtain ⟨q, rfl, hq, X⟩ := hrel
      by_cases hqn : q < n
      · have hqi : (q : Int) < (n : Int) := by omega
        have hql : q < rs.length := by have := N.out; omega
        obtain ⟨b, o, u, ea, h1, h2, h3⟩ := A.out q hql
        have EE : Hid (rowE rs d q = if ((idsOf rs).take q).contains rs[q]!.1 = false ∧ okId rs[q]!.1 = true then chk rs[q]!.2 d else 50) := rfl
        have hE : Hid (rowE rs d q ≠ 0 → idsE rs d = rowE rs d q) := fun h => rowsTo_err hql X.out.1 h (by have := N.out; omega)
        have hNext : Hid (rowE rs d q = 0 → rowsTo rs d (q + 1) = 0) := fun h => rowsTo_next X.out.1 h
        replace h1 := X.out.2.keeps h1
        replace h2 := X.out.2.keeps h2
        have h3 := h3.gb X.out.2.gb
        subst ea
        cases hok : okId rs[q]!.1 with
        | false =>
          have c66 := fun W => rid_v rs[q]!.1 false hok W
          have R : Hid (idsE rs d = 50 ∧ Gr w wr) := by
            have e1 := EE.out
            rw [if_neg (by rw [hok]; simp)] at e1
            exact ⟨by rw [hE.out (by omega), e1], X.out.2⟩
          generalize rs[q]!.1 = x at *
          clear EE hE hNext hok h3
          go_wp2_with (go_at_call 60; refine (c66 _).mono ?_; rintro e w' ⟨rfl, e2⟩; subst e2)
          go_ret
          exact ⟨by rw [R.out.1]; rfl, R.out.2⟩
        | true =>
          have c66 := fun W => rid_v rs[q]!.1 true hok W
          have c15 := fun W (g : Gr wr W) r h => rcheck_v (h3.gb g.gb) d r h
          have IDS : Hid (∀ k, k < rs.length → (idsOf rs)[k]! = rs[k]!.1) := fun k hk => by
            unfold idsOf
            rw [getElem!_pos _ k (by simpa using hk), getElem!_pos rs k hk]; simp
          have CT : Hid (((idsOf rs).take q).contains rs[q]!.1 = true ↔ ∃ k, k < q ∧ rs[k]!.1 = rs[q]!.1) := by
            unfold Hid
            rw [contains_take (by unfold idsOf; rw [List.length_map]; omega)]
            exact ⟨fun ⟨k, hk, e⟩ => ⟨k, hk, by rw [← IDS.out k (by omega)]; exact e⟩, fun ⟨k, hk, e⟩ => ⟨k, hk, by rw [IDS.out k (by omega)]; exact e⟩⟩
          obtain ⟨a1, c1, rfl, _⟩ := h3
          obtain ⟨x, hx⟩ : ∃ x, x = rs[q]!.1 := ⟨_, rfl⟩
          obtain ⟨m, hm⟩ : ∃ m, m = rs[q]!.2.length := ⟨_, rfl⟩
          rw [← hx] at h1 c66 CT EE
          rw [← hm] at h2 c15
          have XM : Hid (x = rs[q]!.1 ∧ m = rs[q]!.2.length ∧ q < rs.length ∧ okId x = true) := ⟨hx, hm, hql, by rw [hx]; exact hok⟩
          clear hql hx hm hok
          go_wp2_with (go_at_call 60; refine (c66 _).mono ?_; rintro e w' ⟨rfl, e2⟩; subst e2)
          clear c66
          go_loopw [6] (fun iv w' => ∃ p : Nat, iv = .int .i64 (p : Int) ∧ p ≤ q ∧ Hid ((∀ i, i < p → rs[i]!.1 ≠ x) ∧ Gr wr w')) (fun iv _ => q - (intOf iv).toNat)
          case atStart => exact ⟨0, rfl, Nat.zero_le _, fun i hi => absurd hi (Nat.not_lt_zero _), Gr.refl _⟩
          case round =>
            obtain ⟨p, rfl, hp, Y⟩ := hrel
            by_cases hpq : p < q
            · have hpi : (p : Int) < (q : Int) := by omega
              have hpn : (p : Int) < (n : Int) := by omega
              obtain ⟨b', o', u', ea, y1, _, _⟩ := A.out p (by have := N.out; omega)
              cases ea
              replace y1 := (X.out.2.trans Y.out.2).keeps y1
              have z1 := Y.out.2.keeps h1
              by_cases hxy : rs[p]!.1 = x
              · have R : Hid (idsE rs d = 50 ∧ Gr w wr) := by
                  have e1 := EE.out
                  rw [if_neg (by rw [CT.out.2 ⟨p, hpq, hxy⟩]; simp)] at e1
                  exact ⟨by rw [hE.out (by omega), e1], X.out.2.trans Y.out.2⟩
                rw [hxy] at y1
                clear EE hE hNext hxy CT IDS c15
                go_wp2
                go_quiet (fail)
                go_wp2
                go_ret
                exact ⟨by rw [R.out.1]; rfl, R.out.2.drewN _⟩
              · have R : Hid (∀ i, i < p + 1 → rs[i]!.1 ≠ x) := fun i hi => by
                  by_cases e : i = p
                  · rw [e]; exact hxy
                  · exact Y.out.1 i (by omega)
                have hxy' : (rs[p]!.1 == x) = false := by rw [beq_eq_false_iff_ne]; exact hxy
                generalize rs[p]!.1 = y at *
                clear EE hE hNext CT IDS c15
                go_wp2
                go_quiet (fail)
                go_wp2
                go_roundw
                case rel => exact ⟨p + 1, by simp, hpq, R.out, Y.out.2.drewN _⟩
                case measure => simp [intOf]; omega
            · have hpi : ¬ (p : Int) < (q : Int) := by omega
              have EE2 : Hid (rowE rs d q = chk rs[q]!.2 d) := by
                have e1 := EE.out
                rw [if_pos ⟨by
                  cases hc : ((idsOf rs).take q).contains x with
                  | false => rfl
                  | true =>
                    obtain ⟨k, hk, e⟩ := CT.out.1 hc
                    exact absurd e (Y.out.1 k (by omega)), XM.out.2.2.2⟩] at e1
                exact e1
              have z2 := Y.out.2.keeps h2
              have GG : Hid (Gr w wr) := X.out.2.trans Y.out.2
              by_cases hv : chk rs[q]!.2 d = 0
              · have c := c15 _ Y.out.2 0 hv
                have R : Hid (rowsTo rs d (q + 1) = 0) := hNext.out (by rw [EE2.out, hv])
                clear EE hE hNext CT IDS c15 EE2 hv Y X
                go_wp2_with (go_at_call 61; refine c.mono ?_; rintro e w' ⟨rfl, e2⟩; subst e2)
                go_roundw
                case rel => exact ⟨q + 1, by simp, hqn, R.out, GG.out⟩
                case measure => simp [intOf]; omega
              · have c := c15 _ Y.out.2 _ rfl
                have R : Hid (idsE rs d = chk rs[q]!.2 d) := by
                  have := hE.out (by rw [EE2.out]; exact hv)
                  rw [EE2.out] at this; exact this
                have hv' : (chk rs[q]!.2 d == 0) = false := by rw [beq_eq_false_iff_ne]; exact hv
                generalize chk rs[q]!.2 d = ce at *
                clear EE hE hNext CT IDS c15 EE2 Y X
                go_wp2_with (go_at_call 61; refine c.mono ?_; rintro e w' ⟨rfl, e2⟩; subst e2)
                go_ret
                exact ⟨by rw [R.out]; rfl, GG.out⟩
      · have hqi : ¬ (q : Int) < (n : Int) := by omega
        have R : Hid (idsE rs d = 0 ∧ Gr w wr) := by
          have h1 := X.out.1
          rw [show q = rs.length by have := N.out; omega, ← E.out] at h1
          exact ⟨h1, X.out.2⟩
        clear X E
        go_wp2
        go_ret
        exact ⟨by rw [R.out.1]; rfl, R.out.2⟩
  · have E : Hid (idsE rs d = 2) := by unfold Hid idsE; rw [if_neg (by omega)]
    have hn' : (n : Int) > 512 := by omega
    clear hN
    go_enter Tryz.func53, Tryz.ntmps53
    go_wp2
    go_ret
    exact ⟨by rw [E.out]; rfl, Gr.refl _⟩
end Go.Proofs.YtepjbdklljlecaaGreat

/- The law's examples. -/
namespace Go.Proofs.YtepjbdklljlecaaGreat
open Go.RowKit Go.Shelf Go.Sort Go.Lib
attribute [local go_sem] Oper.semAt_some

end Go.Proofs.YtepjbdklljlecaaGreat

/- The reference's Ints and Same. -/
namespace Go.Proofs.YtepjbdklljlecaaGreat
open Go.RowKit Go.Sort Go.Maps

end Go.Proofs.YtepjbdklljlecaaGreat
