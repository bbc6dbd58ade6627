/- theodolitekeep.Back; theodoliteref03.Dist; VecDists: the walk. -/
import Derived.Test.YteaeaoekaoedoaaGreatG44
namespace Go.Proofs.YteaeaoekaoedoaaGreat
open Go.RowKit Go.Sort Go.Maps

theorem grown_set {w W : World} {g i : Nat} (h : w.grownBy W (some g)) (u : Value) : w.grownBy (W.setCell ⟨g, i, none⟩ u) (some g) :=
  ⟨h.os, h.tape, h.output, by simpa [World.setCell] using h.size, fun k hk hn => (Below.heap_setCell _ _ _ _ (fun e => hn (by rw [e]))).trans (h.block k hk hn)⟩
theorem grown_gb {w W : World} {g : Nat} (h : Gb w W) : w.grownBy W (some g) := ⟨h.os, h.tape, h.output, h.size, fun k hk _ => h.block k hk⟩

set_option maxHeartbeats 4000000 in
set_option maxRecDepth 100000 in
theorem back_c {w : World} {B g : Nat} {v : Value} {l : List Int} (hg : Lent w B g l) (hv : RdI w v l) (hn : l.length ≤ 65536) :
    Calls Tryz.prog 12 #[.slice (some ⟨g, 0, none⟩) l.length (l.length + 1), v] w fun e w' => e = .returned (.bool true) ∧ w.grownBy w' (some g) := by
  have c32 := ints_v hg.rd hv (by omega) true (by simp)
  have mk := hg.mark
  have HG : Hid (Lent w B g l) := hg
  obtain ⟨a, cap, rfl, _⟩ := hv
  have OW : Hid (∀ W, Gb w W → Own W B (.slice (some ⟨g, 0, none⟩) (l.length + 1) (l.length + 1)) (tab (fun i => if i < l.length then l[i]! else -77) (l.length + 1))) := fun W k => (HG.out.gb k).own hn
  obtain ⟨n, hN⟩ : ∃ n, n = l.length := ⟨_, rfl⟩
  rw [← hN] at c32 mk hn OW ⊢
  obtain ⟨m, hM⟩ : ∃ m, m = n + 1 := ⟨_, rfl⟩
  have hm : (n : Int) + 1 = (m : Int) := by omega
  have hnm : (n : Int) < (m : Int) := by omega
  have hnm2 : n < m := by omega
  have hmb : m ≤ 65537 := by omega
  rw [← hM] at c32 OW ⊢
  clear HG hN hg hM
  go_enter Tryz.func12, Tryz.ntmps12
  go_wp2_with fail
  refine c32.mono ?_
  rintro e w1 ⟨rfl, g1⟩
  have mk1 := gb_keeps g1.gb mk
  clear mk c32
  go_wp2
  go_loopw [6] (fun iv w' => ∃ q : Nat, ∃ f : Nat → Int, iv = .int .i64 (q : Int) ∧ q ≤ m ∧ Hid (Own w' B (.slice (some ⟨g, 0, none⟩) m m) (tab f m) ∧ w.grownBy w' (some g))) (fun iv _ => m - (intOf iv).toNat)
  case atStart => exact ⟨0, _, rfl, Nat.zero_le _, OW.out w1 g1.gb, grown_gb g1.gb⟩
  case round =>
    clear mk1 OW g1
    obtain ⟨q, f, rfl, hq, X⟩ := hrel
    by_cases hqm : q < m
    · have hqi : (q : Int) < (m : Int) := by omega
      obtain ⟨c0, f0⟩ := X.out.1.at hqm
      go_wp2
      refine ⟨⟨q + 1, _, by go_num, hqm, own_set X.out.1 hqm _, grown_set X.out.2 _⟩, by simp [intOf]; omega⟩
    · have hqi : ¬ (q : Int) < (m : Int) := by omega
      go_wp2
      go_ret
      exact ⟨rfl, X.out.2⟩
set_option maxHeartbeats 2000000 in
theorem rdist_c {w : World} {u v : Value} {a b : List Int} (hu : RdI w u a) (hv : RdI w v b) :
    Calls Tryz.prog 26 #[u, v] w fun e w' => e = .returned (.tuple #[Wd (distV a b), .int .i64 (distE a b)]) ∧ Gr w w' := by
  have U : Hid (RdI w u a) := hu
  have V : Hid (RdI w v b) := hv
  have G0 : Gr w (w.alloc (.cells #[.int .u64 0, .int .u64 0] 39)) := (Gr.refl _).alloc _ _
  have cA := fun r h => rcheck_v (hu.gb G0.gb) (a.length : Int) r h
  have cB := fun r h => rcheck_v (hv.gb G0.gb) (a.length : Int) r h
  obtain ⟨pa, ca, rfl, _⟩ := hu
  obtain ⟨pb, cb, rfl, _⟩ := hv
  by_cases h1 : chk a a.length = 0
  · have c1 := cA _ h1
    by_cases h2 : chk b a.length = 0
    · have c2 := cB _ h2
      have E : distE a b = 0 := by unfold distE; rw [if_pos h1, h2]
      have E2 : distV a b = dst a b := by unfold distV; rw [if_pos E]
      obtain ⟨_, _, h3, h4, h5, h6, h7⟩ := distE_ok E
      have c3 := far_c (U.out.gb G0.gb) (V.out.gb G0.gb) h3 h5 h6 h7
      rw [E, E2]
      clear cA cB h1 h2 h3 h4 h5 h6 h7 E E2 U V
      generalize dst a b = s at *
      generalize b.length = m at *
      generalize a.length = n at *
      go_enter Tryz.func26, Tryz.ntmps26
      go_wp2_with fail
      refine c1.mono ?_
      rintro e w' ⟨rfl, e2⟩
      subst e2
      go_wp2_with fail
      refine c2.mono ?_
      rintro e w' ⟨rfl, e2⟩
      subst e2
      go_wp2_with fail
      refine c3.mono ?_
      rintro e w' ⟨rfl, g⟩
      obtain ⟨v0, v1, v2, v3⟩ := g.var2
      go_wp2
      exact bodyPost_ret (v := .tuple #[Wd s, .int .i64 0]) (by simp [results, Tryz.results26, go_sem, v0, v1]) rfl ⟨rfl, ((G0.trans g).setCell (by simp) _).setCell (by simp) _⟩
    · have c2 := cB _ rfl
      have E : distE a b = chk b a.length := by unfold distE; rw [if_pos h1]
      have E2 : distV a b = 0 := by unfold distV; rw [E, if_neg h2]
      have h3 : (chk b a.length == 0) = false := by rw [beq_eq_false_iff_ne]; exact h2
      rw [E, E2]
      clear cA cB h1 h2 E E2 U V
      generalize chk b a.length = s at *
      generalize b.length = m at *
      generalize a.length = n at *
      go_enter Tryz.func26, Tryz.ntmps26
      go_wp2_with fail
      refine c1.mono ?_
      rintro e w' ⟨rfl, e2⟩
      subst e2
      go_wp2_with fail
      refine c2.mono ?_
      rintro e w' ⟨rfl, e2⟩
      subst e2
      go_wp2
      exact bodyPost_ret (v := .tuple #[Wd 0, .int .i64 s]) (by simp [results, Tryz.results26, go_sem, hi, lo]) rfl ⟨rfl, G0⟩
  · have c1 := cA _ rfl
    have E : distE a b = chk a a.length := by unfold distE; rw [if_neg h1]
    have E2 : distV a b = 0 := by unfold distV; rw [E, if_neg h1]
    have h3 : (chk a a.length == 0) = false := by rw [beq_eq_false_iff_ne]; exact h1
    rw [E, E2]
    clear cA cB h1 E E2 U V
    generalize chk a a.length = s at *
    generalize b.length = m at *
    generalize a.length = n at *
    go_enter Tryz.func26, Tryz.ntmps26
    go_wp2_with fail
    refine c1.mono ?_
    rintro e w' ⟨rfl, e2⟩
    subst e2
    go_wp2
    exact bodyPost_ret (v := .tuple #[Wd 0, .int .i64 s]) (by simp [results, Tryz.results26, go_sem, hi, lo]) rfl ⟨rfl, G0⟩

end Go.Proofs.YteaeaoekaoedoaaGreat

/- theodolitekeep.BackRows: rows that were lent are as they were. -/
namespace Go.Proofs.YteaeaoekaoedoaaGreat
open Go.RowKit Go.Sort Go.Maps

/-- Nothing has turned but in the blocks from B on below T. -/
structure Mid (B T : Nat) (w W : World) : Prop where
  os : W.os = w.os
  tape : W.tape = w.tape
  output : W.output = w.output
  size : w.heap.size ≤ W.heap.size
  block : ∀ k, k < w.heap.size → (k < B ∨ T ≤ k) → W.heap[k]? = w.heap[k]?
theorem Mid.refl (B T : Nat) (w : World) : Mid B T w w := ⟨rfl, rfl, rfl, Nat.le_refl _, fun _ _ _ => rfl⟩
theorem Mid.gb {B T : Nat} {w0 w W : World} (h : Mid B T w W) (g : Gb w0 w) (hB : w0.heap.size ≤ B) : Gb w0 W := by
  have hs := g.size
  exact ⟨h.os.trans g.os, h.tape.trans g.tape, h.output.trans g.output, Nat.le_trans g.size h.size, fun k hk => (h.block k (by omega) (.inl (by omega))).trans (g.block k hk)⟩
theorem Mid.drew {B T : Nat} {w W : World} (h : Mid B T w W) : Mid B T w W.drew := ⟨h.os, h.tape, h.output, h.size, h.block⟩
theorem Mid.grown {B T g : Nat} {w W W' : World} (h : Mid B T w W) (k : W.grownBy W' (some g)) (h1 : B ≤ g) (h2 : g < T) : Mid B T w W' :=
  ⟨k.os.trans h.os, k.tape.trans h.tape, k.output.trans h.output, Nat.le_trans h.size k.size, fun j hj hb => (k.block j (Nat.lt_of_lt_of_le hj h.size) (by simp; omega)).trans (h.block j hj hb)⟩
theorem Mid.set {B T g : Nat} {w W : World} (h : Mid B T w W) (h1 : B ≤ g) (h2 : g < T) (o1 o2 : Nat) (x y : Value) : Mid B T w ((W.setCell ⟨g, o1, none⟩ x).setCell ⟨g, o2, none⟩ y) :=
  ⟨h.os, h.tape, h.output, by simpa [World.setCell] using h.size, fun j hj hb => (two_far (by omega) _ _ _ _).trans (h.block j hj hb)⟩
/-- Rows that were lent, in blocks from B on below T. -/
structure LT (B T : Nat) (W : World) (G : Nat) (rs : List Rw) (f : Nat → Value × Value) (gs : Nat → Nat) : Prop where
  lo : B ≤ G
  hi : G < T
  arr : RA W G (rs.length + 1) f
  mark : f rs.length = (.int .i64 (-77), .slice none 0 0)
  row : ∀ i, i < rs.length → f i = (.int .i64 rs[i]!.1, .slice (some ⟨gs i, 0, none⟩) rs[i]!.2.length (rs[i]!.2.length + 1)) ∧ Lent W (G + 1) (gs i) rs[i]!.2 ∧ gs i < T ∧ ∀ j, j < i → gs j ≠ gs i
theorem LentR.lt {w W : World} {G : Nat} {rs : List Rw} (h : LentR w W G rs) : ∃ f gs, LT w.heap.size W.heap.size W G rs f gs := by
  obtain ⟨f, h⟩ := h
  obtain ⟨gs, hl⟩ := h.lent
  exact ⟨f, gs, h.hG, h.arr.lt, h.arr, h.end', fun i hi => ⟨(hl i hi).1, (hl i hi).2.1, (hl i hi).2.1.lt, (hl i hi).2.2⟩⟩
theorem LT.keep {B T G : Nat} {W W' : World} {rs : List Rw} {f : Nat → Value × Value} {gs : Nat → Nat} (h : LT B T W G rs f gs) (e : ∀ k, B ≤ k → k < T → W'.heap[k]? = W.heap[k]?) : LT B T W' G rs f gs :=
  ⟨h.lo, h.hi, h.arr.block (e _ h.lo h.hi), h.mark, fun i hi => by
    obtain ⟨a, b, c, d⟩ := h.row i hi
    exact ⟨a, b.block (e _ (by have := b.1; have := h.lo; omega) c), c, d⟩⟩
/-- p rows are back. -/
structure Bk (B T : Nat) (w W : World) (G : Nat) (rs : List Rw) (f : Nat → Value × Value) (gs : Nat → Nat) (p : Nat) : Prop where
  mid : Mid B T w W
  arr : ∃ f', RA W G (rs.length + 1) f' ∧ ∀ i, p ≤ i → f' i = f i
  lent : ∀ i, p ≤ i → i < rs.length → Lent W (G + 1) (gs i) rs[i]!.2
theorem LT.bk {B T G : Nat} {W : World} {rs : List Rw} {f : Nat → Value × Value} {gs : Nat → Nat} (h : LT B T W G rs f gs) : Bk B T W W G rs f gs 0 :=
  ⟨Mid.refl _ _ _, ⟨f, h.arr, fun _ _ => rfl⟩, fun i _ hi => (h.row i hi).2.1⟩
theorem Bk.drew {B T G p : Nat} {w W : World} {rs : List Rw} {f : Nat → Value × Value} {gs : Nat → Nat} (h : Bk B T w W G rs f gs p) : Bk B T w W.drew G rs f gs p :=
  ⟨h.mid.drew, h.arr, h.lent⟩
/-- One more row is back. -/
theorem Bk.step {B T G p : Nat} {w W W2 : World} {rs : List Rw} {f : Nat → Value × Value} {gs : Nat → Nat} (h : Bk B T w W G rs f gs p) (L : LT B T w G rs f gs) (hp : p < rs.length) (k : W.grownBy W2 (some (gs p))) (x y : Value) :
    Bk B T w ((W2.setCell ⟨G, p * 2, none⟩ x).setCell ⟨G, p * 2 + 1, none⟩ y) G rs f gs (p + 1) := by
  obtain ⟨_, b, c, _⟩ := L.row p hp
  have hb := b.1
  have hlo := L.lo
  obtain ⟨f', h1, h2⟩ := h.arr
  refine ⟨(h.mid.grown k (by omega) c).set L.lo L.hi _ _ _ _, ⟨_, (h1.block (k.block G h1.lt (by simp; omega))).set (i := p) (by omega) x y, fun i hi => ?_⟩, fun i hi hl => ?_⟩
  · rw [if_neg (by omega)]; exact h2 i (by omega)
  · have h3 := h.lent i (by omega) hl
    have hne := (L.row i hl).2.2.2 p (by omega)
    exact h3.block ((two_far (by have := h3.1; omega) _ _ _ _).trans (k.block _ h3.lt (by simp; omega)))
/-- What the region holds while it draws: four cells. -/
structure Qs (W : World) (a b c d : Addr) (u v x y : Value) : Prop where
  ca : W.cell? a = some u
  cb : W.cell? b = some v
  cc : W.cell? c = some x
  cd : W.cell? d = some y
theorem Qs.grown {W W' : World} {a b c d : Addr} {u v x y : Value} {g : Nat} (h : Qs W a b c d u v x y) (k : W.grownBy W' (some g)) (ha : a.block ≠ g) (hb : b.block ≠ g) (hc : c.block ≠ g) (hd : d.block ≠ g) : Qs W' a b c d u v x y := by
  have far : ∀ {p : Addr} {q : Value}, p.block ≠ g → W.cell? p = some q → W'.cell? p = some q := fun {p q} hp hq =>
    (World.cell?_of_block (k.block _ (World.block_lt_of_cell? W _ hq) (by simp; omega))).trans hq
  exact ⟨far ha h.ca, far hb h.cb, far hc h.cc, far hd h.cd⟩
end Go.Proofs.YteaeaoekaoedoaaGreat
