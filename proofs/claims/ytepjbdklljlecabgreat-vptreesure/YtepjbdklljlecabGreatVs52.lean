import Derived.Test.YtepjbdklljlecabGreatVs48
import Derived.Test.YtepjbdklljlecabGreatVs6
import Derived.Test.YtepjbdklljlecabGreatVs24
import Derived.Test.YtepjbdklljlecabGreatVs31
import Derived.Test.YtepjbdklljlecabGreatVsFar
import Derived.Test.YtepjbdklljlecabGreatVsRNear
import Derived.Test.YtepjbdklljlecabGreatVsRNearB
import Derived.Test.YtepjbdklljlecabGreatVs30
import Derived.Test.YtepjbdklljlecabGreatVs20
import Derived.BigQuiet
/- The law's big, and Before; the laws' statements in plain words. -/
namespace Go.Proofs.YtepjbdklljlecabGreat
open Go.RowKit Go.Sort

end Go.Proofs.YtepjbdklljlecabGreat

/- The reference's Hits: all rows' hits in their order, by laying each in among those ahead. -/
namespace Go.Proofs.YtepjbdklljlecabGreat
open Go.RowKit Go.Sort Go.Maps

theorem ins_at (x : Tk.Ht) : ∀ (l : List Tk.Ht) (q : Nat), (∀ i, i < q → Tk.hlt x l[i]! = false) → q ≤ l.length → (q < l.length → Tk.hlt x l[q]! = true) → Tk.ins x l = l.take q ++ x :: l.drop q
  | [], q, _, hq, _ => by
    obtain rfl : q = 0 := by simpa using hq
    rfl
  | y :: r, 0, _, _, h => by
    have := h (by simp)
    simp only [List.getElem!_cons_zero] at this
    unfold Tk.ins
    rw [if_pos this]; rfl
  | y :: r, q + 1, h1, h2, h3 => by
    have h0 := h1 0 (by omega)
    simp only [List.getElem!_cons_zero] at h0
    unfold Tk.ins
    rw [if_neg (by rw [h0]; simp), ins_at x r q (fun i hi => by have := h1 (i + 1) (by omega); simpa using this) (by simpa using h2) (fun hq => by have := h3 (by simpa using hq); simpa using this)]
    rfl
/-- Three cells hold a hit. -/
structure H3 (W : World) (b : Nat) (x : Tk.Ht) : Prop where
  c0 : W.cell? ⟨b, 0, none⟩ = some (.int .i64 x.1)
  c1 : W.cell? ⟨b, 1, none⟩ = some (.int .u64 x.2.1)
  c2 : W.cell? ⟨b, 2, none⟩ = some (.int .u64 x.2.2)
theorem H3.gb {W W' : World} {b : Nat} {x : Tk.Ht} (h : H3 W b x) (g : Gb W W') : H3 W' b x := ⟨gb_keeps g h.c0, gb_keeps g h.c1, gb_keeps g h.c2⟩
theorem H3.new (W : World) (x : Tk.Ht) (t : TypeId) : H3 (W.alloc (.cells #[.int .i64 x.1, .int .u64 x.2.1, .int .u64 x.2.2] t)) W.heap.size x := ⟨by simp [go_sem], by simp [go_sem], by simp [go_sem]⟩
theorem H3.block {W W' : World} {b : Nat} {x : Tk.Ht} (h : H3 W b x) (e : W'.heap[b]? = W.heap[b]?) : H3 W' b x :=
  ⟨(World.cell?_of_block (a := ⟨b, 0, none⟩) e).trans h.c0, (World.cell?_of_block (a := ⟨b, 1, none⟩) e).trans h.c1, (World.cell?_of_block (a := ⟨b, 2, none⟩) e).trans h.c2⟩
/-- What the region holds while it draws. -/
structure Hs (w W : World) (a b : Addr) (u v : Value) : Prop where
  gb : Gb w W
  ca : W.cell? a = some u
  cb : W.cell? b = some v
  la : a.block < w.heap.size
  lb : b.block < w.heap.size
theorem Hs.gr {w W W' : World} {a b : Addr} {u v : Value} (h : Hs w W a b u v) (g : Gb W W') : Hs w W' a b u v := ⟨gb_trans h.gb g, gb_keeps g h.ca, gb_keeps g h.cb, h.la, h.lb⟩
theorem Hs.set {w W : World} {a b : Addr} {u v : Value} {B : Nat} (h : Hs w W a b u v) (hB : w.heap.size ≤ B) (x y z : Value) : Hs w (((W.setCell ⟨B, 0, none⟩ x).setCell ⟨B, 1, none⟩ y).setCell ⟨B, 2, none⟩ z) a b u v := by
  have far : ∀ {p : Addr} {q : Value}, p.block ≠ B → W.cell? p = some q → (((W.setCell ⟨B, 0, none⟩ x).setCell ⟨B, 1, none⟩ y).setCell ⟨B, 2, none⟩ z).cell? p = some q := fun {p q} hp hc => by
    refine (World.cell?_of_block (Below.heap_setCell _ _ _ _ (by dsimp only; exact hp))).trans ?_
    refine (World.cell?_of_block (Below.heap_setCell _ _ _ _ (by dsimp only; exact hp))).trans ?_
    exact (World.cell?_of_block (Below.heap_setCell _ _ _ _ (by dsimp only; exact hp))).trans hc
  have ha := h.la
  have hb := h.lb
  exact ⟨gb_set (gb_set (gb_set h.gb (by dsimp only; exact hB) _) (by dsimp only; exact hB) _) (by dsimp only; exact hB) _, far (by omega) h.ca, far (by omega) h.cb, h.la, h.lb⟩
/-- A hit is laid in among others. -/
structure Lay (w W : World) (g n cap Bh k : Nat) (L : List Tk.Ht) (x : Tk.Ht) : Prop where
  arr : ∃ f, HA W g (n + 1) cap f ∧ (∀ t, t < k → f t = L[t]!) ∧ ∀ t, k < t → t ≤ n → f t = L[t - 1]!
  box : H3 W Bh x
  gb : Gb w W
  hg : w.heap.size ≤ g
  ne : Bh ≠ g
  more : ∀ t, k ≤ t → t < n → Tk.hlt x L[t]! = true
theorem Lay.gr {w W W' : World} {g n cap Bh k : Nat} {L : List Tk.Ht} {x : Tk.Ht} (h : Lay w W g n cap Bh k L x) (g' : Gb W W') : Lay w W' g n cap Bh k L x := by
  obtain ⟨f, h1, h2⟩ := h.arr
  exact ⟨⟨f, h1.block (g'.block _ h1.lt), h2⟩, h.box.gb g', gb_trans h.gb g', h.hg, h.ne, h.more⟩
theorem three_gb {g : Nat} {w W : World} (h : Gb w W) (hg : w.heap.size ≤ g) (o1 o2 o3 : Nat) (x y z : Value) : Gb w (((W.setCell ⟨g, o1, none⟩ x).setCell ⟨g, o2, none⟩ y).setCell ⟨g, o3, none⟩ z) :=
  gb_set (gb_set (gb_set h (by dsimp only; exact hg) _) (by dsimp only; exact hg) _) (by dsimp only; exact hg) _
theorem three_far {g b : Nat} {W : World} (hn : b ≠ g) (o1 o2 o3 : Nat) (x y z : Value) : (((W.setCell ⟨g, o1, none⟩ x).setCell ⟨g, o2, none⟩ y).setCell ⟨g, o3, none⟩ z).heap[b]? = W.heap[b]? :=
  (Below.heap_setCell _ _ _ _ (by dsimp only; exact hn)).trans ((Below.heap_setCell _ _ _ _ (by dsimp only; exact hn)).trans (Below.heap_setCell _ _ _ _ (by dsimp only; exact hn)))
/-- One place on. -/
theorem Lay.down {w W : World} {g n cap Bh k : Nat} {L : List Tk.Ht} {x : Tk.Ht} (h : Lay w W g n cap Bh (k + 1) L x) (hk : k + 1 ≤ n) (hx : Tk.hlt x L[k]! = true) :
    Lay w (((W.setCell ⟨g, (k + 1) * 3, none⟩ (.int .i64 L[k]!.1)).setCell ⟨g, (k + 1) * 3 + 1, none⟩ (.int .u64 L[k]!.2.1)).setCell ⟨g, (k + 1) * 3 + 2, none⟩ (.int .u64 L[k]!.2.2)) g n cap Bh k L x := by
  obtain ⟨f, h1, h2, h3⟩ := h.arr
  refine ⟨⟨_, h1.set (i := k + 1) (by omega) L[k]!, fun t ht => ?_, fun t ht1 ht2 => ?_⟩, h.box.block (three_far h.ne _ _ _ _ _ _), three_gb h.gb h.hg _ _ _ _ _ _, h.hg, h.ne, fun t ht1 ht2 => ?_⟩
  · rw [if_neg (by omega)]; exact h2 t (by omega)
  · by_cases e : t = k + 1
    · subst e; rw [if_pos rfl]; rfl
    · rw [if_neg e]; exact h3 t (by omega) ht2
  · by_cases e : t = k
    · subst e; exact hx
    · exact h.more t (by omega) ht2
/-- It lies. -/
theorem Lay.done {w W : World} {g n cap Bh k : Nat} {L : List Tk.Ht} {x : Tk.Ht} (h : Lay w W g n cap Bh k L x) (hk : k ≤ n) (hn : L.length = n) (hS : Tk.Srtd L) (hx : k = 0 ∨ Tk.hlt x L[k - 1]! = false) :
    OutH w (((W.setCell ⟨g, k * 3, none⟩ (.int .i64 x.1)).setCell ⟨g, k * 3 + 1, none⟩ (.int .u64 x.2.1)).setCell ⟨g, k * 3 + 2, none⟩ (.int .u64 x.2.2)) (.slice (some ⟨g, 0, none⟩) (n + 1) cap) (Tk.ins x L) := by
  obtain ⟨f, h1, h2, h3⟩ := h.arr
  have hahead : ∀ i, i < k → Tk.hlt x L[i]! = false := fun i hi => by
    rcases hx with e | e
    · omega
    · by_cases e2 : i = k - 1
      · rw [e2]; exact e
      · have := List.pairwise_iff_getElem.1 hS i (k - 1) (by omega) (by omega) (by omega)
        rw [← getElem!_pos L i (by omega), ← getElem!_pos L (k - 1) (by omega)] at this
        exact Tk.hlt_ntrans e this
  have hins := ins_at x L k hahead (by omega) (fun hq => h.more k (Nat.le_refl _) (by omega))
  have hl : (Tk.ins x L).length = n + 1 := by rw [Tk.ins_len, hn]
  refine ⟨?_, three_gb h.gb h.hg _ _ _ _ _ _, fun b e => by cases e; exact h.hg⟩
  have h4 := h1.set (i := k) (by omega) x
  rw [← hl] at h4 ⊢
  refine own_of_ha h4 (fun i hi => ?_)
  rw [getElem!_pos (Tk.ins x L) i hi]
  have : ∀ (M : List Tk.Ht) (hM : M = Tk.ins x L) (hi' : i < M.length), (Tk.ins x L)[i] = M[i] := fun M hM _ => by subst hM; rfl
  rw [this _ hins.symm (by rw [← hins]; exact hi)]
  by_cases e : i = k
  · subst e; rw [if_pos rfl, List.getElem_append_right (by rw [List.length_take]; omega)]
    simp only [List.length_take]
    rw [List.getElem_cons]
    simp
    omega
  · rw [if_neg e]
    by_cases e2 : i < k
    · rw [h2 i e2, List.getElem_append_left (by rw [List.length_take]; omega), List.getElem_take, getElem!_pos L i (by omega)]
    · rw [h3 i (by omega) (by omega), List.getElem_append_right (by rw [List.length_take]; omega)]
      rw [getElem!_pos L (i - 1) (by omega)]
      rw [List.getElem_cons]
      have e3 : ¬ (i - (List.take k L).length = 0) := by rw [List.length_take]; omega
      rw [dif_neg e3, List.getElem_drop]
      congr 1
      rw [List.length_take]; omega
end Go.Proofs.YtepjbdklljlecabGreat

/- Answers as they are read; what a sound answer is. -/
namespace Go.Proofs.YtepjbdklljlecabGreat
open Go.RowKit Go.Sort

/-- An answer, plainly. -/
structure Ans where
  hits : List Tk.Ht
  seen : List Int
  rest : List Reg
/-- A slice that reads as these regions. -/
def RdL (w : World) (v : Value) (l : List Reg) : Prop := ∃ a cap, v = .slice a l.length cap ∧ ∀ i (hi' : i < l.length), ∃ b o vl vh vi, a = some ⟨b, o, none⟩ ∧
  w.cell? ⟨b, o + i * 6, none⟩ = some (.int .i64 l[i].S) ∧ w.cell? ⟨b, o + i * 6 + 1, none⟩ = some vl ∧ w.cell? ⟨b, o + i * 6 + 2, none⟩ = some vh ∧ w.cell? ⟨b, o + i * 6 + 3, none⟩ = some (.int .u64 (hi l[i].R)) ∧
  w.cell? ⟨b, o + i * 6 + 4, none⟩ = some (.int .u64 (lo l[i].R)) ∧ w.cell? ⟨b, o + i * 6 + 5, none⟩ = some vi ∧ RdI w vl l[i].L ∧ RdI w vh l[i].H ∧ RdI w vi l[i].I
theorem RdL.gb {w w' : World} {v : Value} {l : List Reg} (h : RdL w v l) (g : Gb w w') : RdL w' v l := by
  obtain ⟨a, cap, e, h⟩ := h
  refine ⟨a, cap, e, fun i hi' => ?_⟩
  obtain ⟨b, o, vl, vh, vi, e0, c0, c1, c2, c3, c4, c5, r1, r2, r3⟩ := h i hi'
  exact ⟨b, o, vl, vh, vi, e0, gb_keeps g c0, gb_keeps g c1, gb_keeps g c2, gb_keeps g c3, gb_keeps g c4, gb_keeps g c5, r1.gb g, r2.gb g, r3.gb g⟩
theorem rdl_nil (w : World) : RdL w (.slice none 0 0) [] := ⟨none, 0, rfl, fun _ hi' => absurd hi' (Nat.not_lt_zero _)⟩
/-- The parts of an answer's value read as this answer. -/
structure RdA (w : World) (vh vs vr : Value) (a : Ans) : Prop where
  hits : Tk.Rd w vh a.hits
  seen : RdI w vs a.seen
  rest : RdL w vr a.rest
theorem RdA.gb {w w' : World} {vh vs vr : Value} {a : Ans} (h : RdA w vh vs vr a) (g : Gb w w') : RdA w' vh vs vr a := ⟨h.hits.gr g, h.seen.gb g, h.rest.gb g⟩
/-- All ids of an answer. -/
def allIds (a : Ans) : List Int := a.seen ++ a.rest.flatMap (·.I)
/-- An answer that is sound; srs: the rows that were seen, in the order of their ids. -/
structure SoundP (rs : List Rw) (q : List Int) (k : Nat) (a : Ans) (srs : List Rw) : Prop where
  ids : idsOf srs = a.seen
  mem : ∀ r ∈ srs, r ∈ rs
  rise : ∀ i, i + 1 < a.seen.length → a.seen[i]! < a.seen[i + 1]!
  reg : ∀ r ∈ a.rest, ckR r (q.length : Int) = 0 ∧ r.I ≠ [] ∧ r.R < 340282366920938463463374607431768211456 ∧ ∀ x ∈ r.I, ∃ row ∈ rs, row.1 = x ∧ inV r row.2 = true
  hits : a.hits = Tk.firsts k (hitsOf q srs)
  all : (allIds a).Perm (idsOf rs)
end Go.Proofs.YtepjbdklljlecabGreat

/- The reference's Near and Bound. -/
namespace Go.Proofs.YtepjbdklljlecabGreat
open Go.RowKit

theorem rnear_c {w : World} {v u : Value} {r : Reg} {a : List Int} (hv : RdR w v r) (hu : RdI w u a) (h0 : ckB r a = 0) (hR : r.R < 340282366920938463463374607431768211456) :
    Calls Tryz.prog 25 #[v, u] w fun e w' => e = .returned (Wd (bdV r a)) ∧ Gr w w' := by
  by_cases s2 : r.S = 2
  · exact rnear_box hv hu h0 s2
  by_cases s3 : r.S = 3
  · exact rnear_ball hv hu h0 hR s3
  · exact rnear_all hv hu s2 s3

end Go.Proofs.YtepjbdklljlecabGreat

/- The law's examples. -/
namespace Go.Proofs.YtepjbdklljlecabGreat
open Go.RowKit Go.Shelf Go.Sort Go.Lib
attribute [local go_sem] Oper.semAt_some

end Go.Proofs.YtepjbdklljlecabGreat

/- The reference's Check, Asked, Range. -/
namespace Go.Proofs.YtepjbdklljlecabGreat
open Go.RowKit Go.Sort Go.Maps

end Go.Proofs.YtepjbdklljlecabGreat

/- The reference's Range. -/
namespace Go.Proofs.YtepjbdklljlecabGreat
open Go.RowKit Go.Sort Go.Maps

end Go.Proofs.YtepjbdklljlecabGreat

/- The reference's First and TopK. -/
namespace Go.Proofs.YtepjbdklljlecabGreat
open Go.RowKit Go.Sort Go.Maps

end Go.Proofs.YtepjbdklljlecabGreat

/- The reference's Ints and Same. -/
namespace Go.Proofs.YtepjbdklljlecabGreat
open Go.RowKit Go.Sort Go.Maps

end Go.Proofs.YtepjbdklljlecabGreat

/- The reference's Sound: of an answer that is. -/
namespace Go.Proofs.YtepjbdklljlecabGreat
open Go.RowKit Go.Sort Go.Maps

theorem wrapN {n : Nat} (h : n < 9223372036854775808) : IntKind.i64.wrap (n : Int) = (n : Int) := by
  unfold IntKind.wrap IntKind.signed IntKind.bits
  simp
  omega
end Go.Proofs.YtepjbdklljlecabGreat

/- theodolitekeep.Region and Answer: of two that read as the same. -/
namespace Go.Proofs.YtepjbdklljlecabGreat
open Go.RowKit Go.Sort

/-- What the region holds while it draws: two variables' lists, two regions' cells. -/
structure Tw (W : World) (B : Nat) (va vb : Value) (p r : Addr) (S x1 x2 x3 y1 y2 y3 R1 R2 : Value) : Prop where
  v0 : W.cell? ⟨B, 2, none⟩ = some va
  v1 : W.cell? ⟨B + 1, 2, none⟩ = some vb
  a0 : W.cell? p = some S
  a1 : W.cell? ⟨p.block, p.off + 1, none⟩ = some x1
  a2 : W.cell? ⟨p.block, p.off + 2, none⟩ = some x2
  a3 : W.cell? ⟨p.block, p.off + 3, none⟩ = some R1
  a4 : W.cell? ⟨p.block, p.off + 4, none⟩ = some R2
  a5 : W.cell? ⟨p.block, p.off + 5, none⟩ = some x3
  b0 : W.cell? r = some S
  b1 : W.cell? ⟨r.block, r.off + 1, none⟩ = some y1
  b2 : W.cell? ⟨r.block, r.off + 2, none⟩ = some y2
  b3 : W.cell? ⟨r.block, r.off + 3, none⟩ = some R1
  b4 : W.cell? ⟨r.block, r.off + 4, none⟩ = some R2
  b5 : W.cell? ⟨r.block, r.off + 5, none⟩ = some y3
theorem Tw.gb {W W' : World} {B : Nat} {va vb : Value} {p r : Addr} {S x1 x2 x3 y1 y2 y3 R1 R2 : Value} (h : Tw W B va vb p r S x1 x2 x3 y1 y2 y3 R1 R2) (g : Gb W W') : Tw W' B va vb p r S x1 x2 x3 y1 y2 y3 R1 R2 :=
  ⟨gb_keeps g h.v0, gb_keeps g h.v1, gb_keeps g h.a0, gb_keeps g h.a1, gb_keeps g h.a2, gb_keeps g h.a3, gb_keeps g h.a4, gb_keeps g h.a5, gb_keeps g h.b0, gb_keeps g h.b1, gb_keeps g h.b2, gb_keeps g h.b3, gb_keeps g h.b4, gb_keeps g h.b5⟩
/-- What bounds an answer's lists. -/
structure Few (a : Ans) : Prop where
  hits : a.hits.length ≤ 4000
  seen : a.seen.length ≤ 4611686018427387904
  rest : a.rest.length ≤ 4611686018427387904
  reg : ∀ r ∈ a.rest, r.L.length ≤ 4611686018427387904 ∧ r.H.length ≤ 4611686018427387904 ∧ r.I.length ≤ 4611686018427387904

end Go.Proofs.YtepjbdklljlecabGreat
