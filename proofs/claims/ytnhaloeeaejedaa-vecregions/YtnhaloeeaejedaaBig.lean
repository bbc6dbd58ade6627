/- The law's big; a region that was lent. -/
import Derived.Test.YtnhaloeeaejedaaDists
namespace Go.Proofs.Ytnhaloeeaejedaa
open Go.RowKit Go.Sort Go.Maps

def bg (r : Reg) : Bool := decide (65536 < r.L.length) || decide (65536 < r.H.length) || decide (65536 < r.I.length)
set_option maxHeartbeats 2000000 in
theorem big_c {w : World} {v : Value} {r : Reg} (h : RdR w v r) : Calls Try.prog 16 #[v] w fun e w' => e = .returned (.bool (bg r)) ∧ Gr w w' := by
  obtain ⟨vl, vh, vi, rfl, ⟨pl, cl, rfl, _⟩, ⟨ph, ch, rfl, _⟩, ⟨pi, ci, rfl, _⟩⟩ := h
  have G0 : Gr w (w.alloc (rc r (.slice pl r.L.length cl) (.slice ph r.H.length ch) (.slice pi r.I.length ci))) := (Gr.refl _).alloc _ _
  have E : Hid (bg r = (decide (65536 < r.L.length) || decide (65536 < r.H.length) || decide (65536 < r.I.length))) := rfl
  generalize bg r = res at *
  obtain ⟨S, L, H, R, I⟩ := r
  dsimp only at *
  generalize L.length = nl at *
  generalize H.length = nh at *
  generalize I.length = ni at *
  by_cases h1 : 65536 < nl
  · have e : res = true := by rw [E.out]; simp [h1]
    subst e
    have h1' : (65536 : Int) < nl := by omega
    clear E h1
    go_enter Try.func16, Try.ntmps16
    go_wp2
    go_ret
    exact ⟨rfl, G0⟩
  by_cases h2 : 65536 < nh
  · have e : res = true := by rw [E.out]; simp [h2]
    subst e
    have h1' : ¬ (65536 : Int) < nl := by omega
    have h2' : (65536 : Int) < nh := by omega
    clear E h1 h2
    go_enter Try.func16, Try.ntmps16
    go_wp2
    go_ret
    exact ⟨rfl, G0⟩
  by_cases h3 : 65536 < ni
  · have e : res = true := by rw [E.out]; simp [h3]
    subst e
    have h1' : ¬ (65536 : Int) < nl := by omega
    have h2' : ¬ (65536 : Int) < nh := by omega
    have h3' : (65536 : Int) < ni := by omega
    clear E h1 h2 h3
    go_enter Try.func16, Try.ntmps16
    go_wp2
    go_ret
    exact ⟨rfl, G0⟩
  · have e : res = false := by rw [E.out]; simp [h1, h2, h3]
    subst e
    have h1' : ¬ (65536 : Int) < nl := by omega
    have h2' : ¬ (65536 : Int) < nh := by omega
    have h3' : ¬ (65536 : Int) < ni := by omega
    clear E h1 h2 h3
    go_enter Try.func16, Try.ntmps16
    go_wp2
    go_ret
    exact ⟨rfl, G0⟩

/-- The six cells of a region, put. -/
abbrev set6 (V : World) (b : Nat) (x0 x1 x2 x3 x4 x5 : Value) : World :=
  (((((V.setCell ⟨b, 0, none⟩ x0).setCell ⟨b, 1, none⟩ x1).setCell ⟨b, 2, none⟩ x2).setCell ⟨b, 3, none⟩ x3).setCell ⟨b, 4, none⟩ x4).setCell ⟨b, 5, none⟩ x5
theorem set6_block (V : World) (b : Nat) (x0 x1 x2 x3 x4 x5 : Value) (k : Nat) (hk : k ≠ b) : (set6 V b x0 x1 x2 x3 x4 x5).heap[k]? = V.heap[k]? := by
  rw [Below.heap_setCell _ _ _ _ hk, Below.heap_setCell _ _ _ _ hk, Below.heap_setCell _ _ _ _ hk, Below.heap_setCell _ _ _ _ hk, Below.heap_setCell _ _ _ _ hk, Below.heap_setCell _ _ _ _ hk]
theorem set6_cells {V : World} {b : Nat} {y0 y1 y2 y3 y4 y5 : Value} (h : V.heap[b]? = some (.cells #[y0, y1, y2, y3, y4, y5] 36 (0, 0))) (x0 x1 x2 x3 x4 x5 : Value) :
    (set6 V b x0 x1 x2 x3 x4 x5).heap[b]? = some (.cells #[x0, x1, x2, x3, x4, x5] 36 (0, 0)) := by
  simp [set6, World.setCell, Array.getElem?_modify, h]
theorem regAt_of {V : World} {b : Nat} {r : Reg} {vl vh vi : Value} (h : V.heap[b]? = some (.cells #[.int .i64 r.S, vl, vh, .int .u64 (hi r.R), .int .u64 (lo r.R), vi] 36 (0, 0))) : RegAt V b r vl vh vi :=
  ⟨by simp [World.cell?, h], by simp [World.cell?, h], by simp [World.cell?, h], by simp [World.cell?, h], by simp [World.cell?, h], by simp [World.cell?, h]⟩
theorem RegAt.lt {V : World} {b : Nat} {r : Reg} {vl vh vi : Value} (h : RegAt V b r vl vh vi) : b < V.heap.size := World.block_lt_of_cell? V _ h.c0
theorem RegAt.block {V V' : World} {b : Nat} {r : Reg} {vl vh vi : Value} (h : RegAt V b r vl vh vi) (k : V'.heap[b]? = V.heap[b]?) : RegAt V' b r vl vh vi :=
  ⟨(World.cell?_of_block (a := ⟨b, 0, none⟩) k).trans h.c0, (World.cell?_of_block (a := ⟨b, 1, none⟩) k).trans h.c1, (World.cell?_of_block (a := ⟨b, 2, none⟩) k).trans h.c2, (World.cell?_of_block (a := ⟨b, 3, none⟩) k).trans h.c3, (World.cell?_of_block (a := ⟨b, 4, none⟩) k).trans h.c4, (World.cell?_of_block (a := ⟨b, 5, none⟩) k).trans h.c5⟩
theorem set6_gb {w V : World} {b : Nat} (h : Gb w V) (hb : w.heap.size ≤ b) (x0 x1 x2 x3 x4 x5 : Value) : Gb w (set6 V b x0 x1 x2 x3 x4 x5) :=
  gb_set (gb_set (gb_set (gb_set (gb_set (gb_set h hb _) hb _) hb _) hb _) hb _) hb _

/-- A lent list as a value. -/
abbrev lv (g : Nat) (l : List Int) : Value := .slice (some ⟨g, 0, none⟩) l.length (l.length + 1)
/-- The law's own region: each list lent. -/
structure St (w V : World) (r : Reg) (vl vh vi : Value) (b gx gy gz : Nat) : Prop where
  own : RegAt V w.heap.size r vl vh vi
  cpy : RegAt V b r (lv gx r.L) (lv gy r.H) (lv gz r.I)
  lx : Lent V w.heap.size gx r.L
  ly : Lent V w.heap.size gy r.H
  lz : Lent V w.heap.size gz r.I
  n1 : gx ≠ gy
  n2 : gx ≠ gz
  n3 : gy ≠ gz
  m1 : b ≠ gx
  m2 : b ≠ gy
  m3 : b ≠ gz
  o1 : w.heap.size ≠ gx
  o2 : w.heap.size ≠ gy
  o3 : w.heap.size ≠ gz
  gb : Gb w V
theorem St.more {w V V' : World} {r : Reg} {vl vh vi : Value} {b gx gy gz : Nat} (h : St w V r vl vh vi b gx gy gz) (g : Gb V V') : St w V' r vl vh vi b gx gy gz :=
  ⟨h.own.gb g, h.cpy.gb g, h.lx.gb g, h.ly.gb g, h.lz.gb g, h.n1, h.n2, h.n3, h.m1, h.m2, h.m3, h.o1, h.o2, h.o3, gb_trans h.gb g⟩
theorem St.rd {w V : World} {r : Reg} {vl vh vi : Value} {b gx gy gz : Nat} (h : St w V r vl vh vi b gx gy gz) : RdR V (rv r (lv gx r.L) (lv gy r.H) (lv gz r.I)) r :=
  ⟨_, _, _, rfl, h.lx.rd, h.ly.rd, h.lz.rd⟩

/-- What is left when the lists are being given back: the k-th is still lent. -/
theorem st_put {w V : World} {r : Reg} {vl vh vi : Value} {b gx gy gz : Nat} (own : RegAt V w.heap.size r vl vh vi)
    (hb : V.heap[b]? = some (.cells #[.int .i64 0, .slice none 0 0, .slice none 0 0, .int .u64 0, .int .u64 0, .slice none 0 0] 36 (0, 0)))
    (lx : Lent V w.heap.size gx r.L) (ly : Lent V w.heap.size gy r.H) (lz : Lent V w.heap.size gz r.I) (n1 : gx ≠ gy) (n2 : gx ≠ gz) (n3 : gy ≠ gz) (m1 : b ≠ gx) (m2 : b ≠ gy) (m3 : b ≠ gz)
    (o1 : w.heap.size ≠ gx) (o2 : w.heap.size ≠ gy) (o3 : w.heap.size ≠ gz) (o : w.heap.size ≠ b) (gb : Gb w V) (hwb : w.heap.size ≤ b) :
    St w (set6 V b (.int .i64 r.S) (lv gx r.L) (lv gy r.H) (.int .u64 (hi r.R)) (.int .u64 (lo r.R)) (lv gz r.I)) r vl vh vi b gx gy gz :=
  ⟨own.block (set6_block _ _ _ _ _ _ _ _ _ o), regAt_of (set6_cells hb _ _ _ _ _ _), ⟨lx.1, (set6_block _ _ _ _ _ _ _ _ _ (Ne.symm m1)).trans lx.2⟩, ⟨ly.1, (set6_block _ _ _ _ _ _ _ _ _ (Ne.symm m2)).trans ly.2⟩, ⟨lz.1, (set6_block _ _ _ _ _ _ _ _ _ (Ne.symm m3)).trans lz.2⟩,
    n1, n2, n3, m1, m2, m3, o1, o2, o3, set6_gb gb hwb _ _ _ _ _ _⟩

end Go.Proofs.Ytnhaloeeaejedaa
