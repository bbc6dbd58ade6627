import Derived.Test.YtepjbdklljlecabGreatVsVpHi
import Derived.Test.YtepjbdklljlecabGreatVs24
import Derived.Test.YtepjbdklljlecabGreatVsBall
import Derived.Test.YtepjbdklljlecabGreatVs22
/- (*vptree.Tree).ballOf: a ball round one of the rows, drawn. -/
namespace Go.Proofs.YtepjbdklljlecabGreat
open Go.RowKit Go.Sort Go.Maps

/-- A ball round one of the rows; the source has gone on. -/
def BallO (w w' : World) (sb : Nat) (rs : List Rw) (e : Ending) : Prop := ∃ j vl vh, j < rs.length ∧ e = .returned (rv ⟨3, rs[j]!.2, [], radN rs[j]!.2 rs rs.length, []⟩ vl vh (.slice none 0 0)) ∧ Own w' w.heap.size vl rs[j]!.2 ∧ Own w' w.heap.size vh [] ∧ (∃ y, Rn.U y ∧ Boxed w' sb 131 (.int .u64 y)) ∧ Tk.Kp (fun b => b = sb) w w'
theorem rowsE_row {rs : List Rw} {d : Int} (h : idsE rs d = 0) {j : Nat} (hj : j < rs.length) : chk rs[j]!.2 d = 0 := by
  have := (idsE_zero.1 h).row rs[j]! (by rw [getElem!_pos rs j hj]; exact List.getElem_mem hj)
  exact this.2
/-- The six cells of a region's variable. -/
def R6 (W : World) (b : Nat) : Prop := W.heap[b]? = some (.cells #[.int .i64 0, .slice none 0 0, .slice none 0 0, .int .u64 0, .int .u64 0, .slice none 0 0] 79 (0, 0))
theorem R6.cells {W : World} {b : Nat} (h : R6 W b) : (W.cell? ⟨b, 0, none⟩ = some (.int .i64 0) ∧ W.cell? ⟨b, 1, none⟩ = some (.slice none 0 0) ∧ W.cell? ⟨b, 2, none⟩ = some (.slice none 0 0) ∧ W.cell? ⟨b, 3, none⟩ = some (.int .u64 0) ∧ W.cell? ⟨b, 4, none⟩ = some (.int .u64 0) ∧ W.cell? ⟨b, 5, none⟩ = some (.slice none 0 0)) ∧ ∀ i, W.frozen? ⟨b, i, none⟩ = false := by
  unfold R6 at h
  refine ⟨⟨?_, ?_, ?_, ?_, ?_, ?_⟩, fun i => ?_⟩
  · simp [World.cell?, h]
  · simp [World.cell?, h]
  · simp [World.cell?, h]
  · simp [World.cell?, h]
  · simp [World.cell?, h]
  · simp [World.cell?, h]
  · simp [World.frozen?, h]
theorem reg6 {W : World} {b : Nat} (h : R6 W b) : (W.cell? ⟨b, 0, none⟩ = some (.int .i64 0) ∧ W.cell? ⟨b, 1, none⟩ = some (.slice none 0 0) ∧ W.cell? ⟨b, 2, none⟩ = some (.slice none 0 0) ∧ W.cell? ⟨b, 3, none⟩ = some (.int .u64 0) ∧ W.cell? ⟨b, 4, none⟩ = some (.int .u64 0) ∧ W.cell? ⟨b, 5, none⟩ = some (.slice none 0 0)) ∧ W.frozen? ⟨b, 0, none⟩ = false ∧ W.frozen? ⟨b, 1, none⟩ = false ∧ W.frozen? ⟨b, 2, none⟩ = false ∧ W.frozen? ⟨b, 3, none⟩ = false ∧ W.frozen? ⟨b, 4, none⟩ = false ∧ W.frozen? ⟨b, 5, none⟩ = false :=
  ⟨h.cells.1, h.cells.2 0, h.cells.2 1, h.cells.2 2, h.cells.2 3, h.cells.2 4, h.cells.2 5⟩
theorem kp_six {a W : World} {b : Nat} (h : Tk.Kp (fun k => k = b) a W) (x0 x1 x2 x3 x4 x5 : Value) : Tk.Kp (fun k => k = b) a ((((((W.setCell ⟨b, 0, none⟩ x0).setCell ⟨b, 1, none⟩ x1).setCell ⟨b, 2, none⟩ x2).setCell ⟨b, 3, none⟩ x3).setCell ⟨b, 4, none⟩ x4).setCell ⟨b, 5, none⟩ x5) :=
  (((((h.setCell (p := ⟨b, 0, none⟩) (.inl rfl) x0).setCell (p := ⟨b, 1, none⟩) (.inl rfl) x1).setCell (p := ⟨b, 2, none⟩) (.inl rfl) x2).setCell (p := ⟨b, 3, none⟩) (.inl rfl) x3).setCell (p := ⟨b, 4, none⟩) (.inl rfl) x4).setCell (p := ⟨b, 5, none⟩) (.inl rfl) x5
theorem R6.kp {W W' : World} {b : Nat} {S : Nat → Prop} (h : R6 W b) (k : Tk.Kp S W W') (hn : ¬ S b) : R6 W' b := by
  unfold R6 at h ⊢
  rw [k.block b (Array.getElem?_eq_some_iff.1 h).1 hn]; exact h
set_option maxHeartbeats 400000 in
set_option maxRecDepth 100000 in
theorem ballOf_c {w : World} {tb sb : Nat} {v : Value} {rs : List Rw} {d : Nat} {x : Int} (hs : w.cell? ⟨tb, 2, none⟩ = some (.pointer (some ⟨sb, 0, none⟩))) (hx : Boxed w sb 131 (.int .u64 x)) (ux : Rn.U x)
    (h : ∀ W, Tk.Kp (fun b => b = sb) w W → RdW W v rs) (hn : 1 ≤ rs.length) (hn5 : rs.length ≤ 512) (hok : idsE rs (d : Int) = 0) (hwf : ∀ i, i < rs.length → (Lit.int .i64 rs[i]!.1).wf = true) :
    Calls Tryz.prog 67 #[.pointer (some ⟨tb, 0, none⟩), v] w fun e w' => BallO w w' sb rs e := by
  have H : Hid (∀ W, Tk.Kp (fun b => b = sb) w W → RdW W v rs) := h
  have K : Hid (idsE rs (d : Int) = 0 ∧ ∀ i, i < rs.length → (Lit.int .i64 rs[i]!.1).wf = true) := ⟨hok, hwf⟩
  obtain ⟨av, cv, rfl, _⟩ := h w (Tk.Kp.refl _ _)
  obtain ⟨n, hN⟩ : ∃ n, n = rs.length := ⟨_, rfl⟩
  have N : Hid (n = rs.length) := hN
  rw [← hN] at H hn hn5 ⊢
  have RZ : Hid (R6 (w.alloc (.cells #[.int .i64 0, .slice none 0 0, .slice none 0 0, .int .u64 0, .int .u64 0, .slice none 0 0] 79)) w.heap.size) := World.alloc_heap_new w _
  have k0 : Tk.Kp (fun b => b = sb) w (w.alloc (.cells #[.int .i64 0, .slice none 0 0, .slice none 0 0, .int .u64 0, .int .u64 0, .slice none 0 0] 79)) := Tk.Kp.of_gr (gb_alloc (Below.refl _ _) _)
  have hs0 := alloc_keeps hs (.cells #[.int .i64 0, .slice none 0 0, .slice none 0 0, .int .u64 0, .int .u64 0, .slice none 0 0] 79)
  have cB := Rn.below_ok sb x (n : Int) _ (hx.alloc (.cells #[.int .i64 0, .slice none 0 0, .slice none 0 0, .int .u64 0, .int .u64 0, .slice none 0 0] 79)) ux ⟨by omega, by omega⟩
  have M0 := Int.emod_nonneg (Rn.mx (Rn.stp x)) (b := (n : Int)) (by omega)
  have M1 := Int.emod_lt_of_pos (Rn.mx (Rn.stp x)) (b := (n : Int)) (by omega)
  generalize Rn.mx (Rn.stp x) % (n : Int) = pl at *
  obtain ⟨j, rfl⟩ : ∃ j : Nat, pl = j := ⟨pl.toNat, by omega⟩
  have hsb : sb < w.heap.size := hx.lt
  have KW : Hid (Tk.Kp (fun b => b = sb) w (w.alloc (.cells #[.int .i64 0, .slice none 0 0, .slice none 0 0, .int .u64 0, .int .u64 0, .slice none 0 0] 79))) := k0
  obtain ⟨W0, hW0⟩ : ∃ W0, W0 = w.alloc (.cells #[.int .i64 0, .slice none 0 0, .slice none 0 0, .int .u64 0, .int .u64 0, .slice none 0 0] 79) := ⟨_, rfl⟩
  rw [← hW0] at cB RZ KW
  have US : Hid (Rn.U (Rn.stp x)) := Rn.u_stp x
  have SZ : Hid (w.heap.size < W0.heap.size) := by unfold Hid; rw [hW0, World.size_alloc]; omega
  clear h hok hwf hN hs hx ux k0
  go_enter Tryz.func67, Tryz.ntmps67
  go_wp2_with fail
  rw [← hW0]
  clear hW0
  go_fit cB
  rintro e w1 ⟨rfl, hb1, g1⟩
  have k1 : Tk.Kp (fun b => b = sb) W0 w1 := (Tk.Kp.grown g1).mono (fun k _ e => by injection e)
  have K1 : Hid (Tk.Kp (fun b => b = sb) w w1 ∧ Boxed w1 sb 131 (.int .u64 (Rn.stp x))) := ⟨KW.out.trans k1, hb1⟩
  have RZ1 : Hid (R6 w1 w.heap.size ∧ w.heap.size < w1.heap.size) := ⟨RZ.out.kp k1 (by omega), Nat.lt_of_lt_of_le SZ.out k1.size⟩
  have hjn : j < rs.length := by have := N.out; omega
  have rw1 := H.out w1 K1.out.1
  have RW1 : Hid (RdW w1 (.slice av n cv) rs) := rw1
  obtain ⟨_, _, e0, hA⟩ := rw1
  obtain ⟨b, o, u, ea, c1, c2, c3⟩ := hA j hjn
  injection e0 with e01 e02 e03
  subst e01 ea
  have kC := rowsE_row K.out.1 hjn
  have lC := chk_ok kC
  have hE : ballE rs[j]!.2 rs = 0 := by unfold ballE; rw [← lC.2.2.1, if_pos kC]; exact K.out.1
  have cb := ball_c c3 RW1.out (by omega) K.out.2
  have hR : ballR rs[j]!.2 rs = ⟨3, rs[j]!.2, [], radN rs[j]!.2 rs rs.length, srt (idsOf rs)⟩ := by unfold ballR; rw [if_pos hE]
  rw [hE, hR] at cb
  have JB : Hid (j < rs.length) := hjn
  obtain ⟨pu, cu, eu, _⟩ := c3
  subst eu
  obtain ⟨R, hRR⟩ : ∃ R, R = radN rs[j]!.2 rs rs.length := ⟨_, rfl⟩
  have RR : Hid (radN rs[j]!.2 rs rs.length = R) := hRR.symm
  rw [← hRR] at cb
  clear hRR
  generalize hV : rs[j]!.2 = V at *
  have VV : Hid (rs[j]!.2 = V) := hV
  generalize V.length = nV at *
  have hji : (j : Int) < (n : Int) := by omega
  clear hA e02 e03 cB g1 k1 kC lC hE hR hb1 hV hs0
  go_wp2_with fail
  go_fit cb
  rintro e w2 ⟨vl, vh, vi, rfl, gO, ol, oh, oi, _⟩
  dsimp only at ol oh oi
  obtain ⟨al, cl, el, _⟩ := ol.rd
  obtain ⟨nV', hnV'⟩ : ∃ n, n = V.length := ⟨_, rfl⟩
  rw [← hnV'] at el
  clear hnV'
  obtain ⟨ah, ch, eh, _⟩ := oh.rd
  obtain ⟨ai, ci, ei, _⟩ := oi.rd
  subst el eh ei
  have k2 : Tk.Kp (fun b => b = sb) w w2 := K1.out.1.trans (Tk.Kp.of_gr gO)
  have hs := reg6 ((RZ1.out.1.kp (Tk.Kp.of_gr (S := fun _ => False) gO) id).kp (Tk.Kp.of_gr (S := fun _ => False) (gb_alloc (Below.refl _ _) (.cells #[.int .i64 3, .slice al nV' cl, .slice ah 0 ch, .int .u64 (hi R), .int .u64 (lo R), .slice none 0 0] 79))) id)
  have hsz : w1.heap.size ≤ w2.heap.size := gO.size
  have hlt1 := RZ1.out.2
  have hne : ¬ w2.heap.size = w.heap.size := by omega
  have hne2 : ¬ w.heap.size = w2.heap.size := by omega
  have hlt2 : w.heap.size < w2.heap.size := by omega
  have FIN : Hid (∀ W, Tk.Kp (fun b => b = w.heap.size) w2 W → BallO w W sb rs (.returned (rv ⟨3, V, [], R, []⟩ (.slice al nV' cl) (.slice ah 0 ch) (.slice none 0 0)))) := fun W kW => by
    refine ⟨j, _, _, JB.out, by rw [VV.out, RR.out], ?_, ?_, ⟨_, US.out, ?_⟩, ?_⟩
    · rw [VV.out]; exact own_kpI (ol.mono (Nat.le_of_lt RZ1.out.2)) kW (fun g hg e => by have h1 := (World.ownsRow.lt ol g hg).1; have h2 := RZ1.out.2; omega)
    · exact own_kpI (oh.mono (Nat.le_of_lt RZ1.out.2)) kW (fun g hg e => by have h1 := (World.ownsRow.lt oh g hg).1; have h2 := RZ1.out.2; omega)
    · have hb2 : Boxed w2 sb 131 (.int .u64 (Rn.stp x)) := (gO.block sb K1.out.2.lt).trans K1.out.2
      exact (kW.block sb hb2.lt (by omega)).trans hb2
    · exact ⟨kW.os.trans k2.os, kW.tape.trans k2.tape, kW.output.trans k2.output, Nat.le_trans k2.size kW.size, fun b hb hn => (kW.block b (Nat.lt_of_lt_of_le hb k2.size) (by omega)).trans (k2.block b hb hn)⟩
  generalize (srt (idsOf rs)).length = ni at *
  dsimp only [rv]
  clear gO ol oh oi cb k2 hne hne2 hlt2 hsz hlt1 hsb
  go_wp2
  obtain ⟨⟨q0, q1, q2, q3, q4, q5⟩, _⟩ := hs
  refine bodyPost_ret (v := .agg #[.int .i64 3, .slice al nV' cl, .slice ah 0 ch, .int .u64 (hi R), .int .u64 (lo R), .slice none 0 0]) (by simp [results, Tryz.results67, go_sem, q0, q1, q2, q3, q4, q5]) rfl (FIN.out _ ?_)
  refine kp_six (Tk.Kp.of_gr (gb_alloc (Below.refl _ _) _)) _ _ _ _ _ _
end Go.Proofs.YtepjbdklljlecabGreat

/- slices.SortFunc at measured rows (five cells), by their hits. -/
namespace Go.Proofs.YtepjbdklljlecabGreat
open Go.Shelf Go.RowKit Go.Lib Go.Sort
shelf_lay_g SlLaysF0.n6 Slsf 6 at Tryz 110 as Tryz.laidSortM

/-- A measured row: the row, and its hit. -/
abbrev Me := Rt × Tk.Ht
abbrev encM (x : Me) : List Value := [.int .i64 x.1.1, x.1.2.1, .int .i64 x.2.1, .int .u64 x.2.2.1, .int .u64 x.2.2.2]
abbrev mv (x : Me) : Value := .agg #[.int .i64 x.1.1, x.1.2.1, .int .i64 x.2.1, .int .u64 x.2.2.1, .int .u64 x.2.2.2]
/-- These measured rows lie in block g from o on. -/
def MeAt (w : World) (g o : Nat) (d : List Me) : Prop := ∃ cur, w.heap[g]? = some (.cells cur 178 (0, 0)) ∧ o + d.length * 5 ≤ cur.size ∧ ∀ i (h : i < d.length), cur[o + i * 5]? = some (.int .i64 d[i].1.1) ∧ cur[o + i * 5 + 1]? = some d[i].1.2.1 ∧ cur[o + i * 5 + 2]? = some (.int .i64 d[i].2.1) ∧ cur[o + i * 5 + 3]? = some (.int .u64 d[i].2.2.1) ∧ cur[o + i * 5 + 4]? = some (.int .u64 d[i].2.2.2)
structure SrtM (w w' : World) (g o n : Nat) : Prop where
  kp : Tk.Kp (fun b => b = g) w w'
  blk : ∀ cur, w.heap[g]? = some (.cells cur 178 (0, 0)) → ∃ cur', w'.heap[g]? = some (.cells cur' 178 (0, 0)) ∧ cur'.size = cur.size ∧ ∀ i, (i < o ∨ o + n * 5 ≤ i) → cur'[i]? = cur[i]?
theorem sort_heapM {α : Type} [Inhabited α] (enc : α → List Value) (w : World) (g o m : Nat) (d : Array α) (os : Array Obj) {cur : Array Value} (h : w.heap[g]? = some (.cells cur 178 (0, 0))) :
    (sortWorldK enc 5 w g o m d os).heap[g]? = some (.cells (putCells id o (flatK enc 5 d) cur) 178 (0, 0)) := by
  have hlt := (Array.getElem?_eq_some_iff.1 h).1
  unfold sortWorldK
  rw [heap_grow_old _ _ (by simp [putRowK, putRow, mapBlock]; exact hlt)]
  simp [putRowK, putRow, mapBlock, Array.getElem?_modify, h, onCells]
theorem sort_kpM {α : Type} [Inhabited α] (enc : α → List Value) (w : World) (g o m : Nat) (d : Array α) (os : Array Obj) : Tk.Kp (fun b => b = g) w (sortWorldK enc 5 w g o m d os) := by
  unfold sortWorldK
  refine Tk.Kp.trans (b := putRowK enc 5 (Sort.ahead w m) g o d) ⟨rfl, rfl, rfl, by simp [putRowK, putRow, mapBlock], fun k _ hn => ?_⟩ (Tk.Kp.of_gr (Tk.gr_grow _ _))
  simp [putRowK, putRow, mapBlock, Array.getElem?_modify, Ne.symm hn]
theorem sortM {w : World} {g o cap fn : Nat} {d : List Me} {cb : Array Value} {cf : Me → Me → Int} (ok : Me → Prop) (hd : MeAt w g o d) (hne : d ≠ []) (hlen : d.length ≤ 4000) (hok : ∀ x ∈ d, ok x) (hone : ∀ x, ok x → x.1.2.1.oneCell' = true)
    (hO : SWO (fun x y : Me => decide (cf x y < 0))) (eg : ∀ args w, (callFunc fn args).run Tryz.prog w = .ok (.enter fn args) w)
    (hc : ∀ W, Tk.Kp (fun b => b = g) w W → ∀ x y, ok x → ok y → Calls Tryz.prog fn (#[mv x, mv y] ++ cb) W fun e w' => e = .returned (.int .i64 (cf x y)) ∧ Tk.Gw W w') :
    Calls Tryz.prog 110 #[.slice (some ⟨g, o, none⟩) d.length cap, .func (.func fn) #[] cb] w fun e w' => e = .returned (.tuple #[]) ∧ ∃ d', d'.Perm d ∧ (d'.Pairwise fun x y => ¬ cf y x < 0) ∧ MeAt w' g o d' ∧ SrtM w w' g o d.length := by
  haveI : Inhabited {x // ok x} := ⟨⟨d.head hne, hok _ (List.head_mem hne)⟩⟩
  obtain ⟨cur, hcur, hsz, hcells⟩ := hd
  have hlt := (Array.getElem?_eq_some_iff.1 hcur).1
  obtain ⟨A, hA⟩ : ∃ A : Array {x // ok x}, A = (d.attachWith ok hok).toArray := ⟨_, rfl⟩
  have hAs : A.size = d.length := by rw [hA]; simp
  have hAg : ∀ i (h : i < d.length), (A[i]!).1 = d[i] := by
    intro i h
    rw [getElem!_pos A i (by omega)]
    subst hA
    simp
  have hH : HoldsK (fun x : {x // ok x} => encM x.1) 5 w g o A := by
    intro t ht
    have ht' : t < d.length * 5 := by simpa [hAs] using ht
    have hi : t / 5 < d.length := by omega
    have e : (flatK (fun x : {x // ok x} => encM x.1) 5 A)[t]! = (encM d[t / 5])[t % 5]! := by
      rw [get_flatK _ _ _ _ (by rw [hAs]; exact ht'), hAg _ hi]
    refine ⟨?_, by simp [World.frozen?, hcur]⟩
    rw [e]
    obtain ⟨c0, c1, c2, c3, c4⟩ := hcells (t / 5) hi
    have hm : t % 5 = 0 ∨ t % 5 = 1 ∨ t % 5 = 2 ∨ t % 5 = 3 ∨ t % 5 = 4 := by omega
    rcases hm with h0 | h0 | h0 | h0 | h0
    · rw [h0]; exact cell_cur hcur (by rw [show o + t = o + t / 5 * 5 by omega]; exact c0)
    · rw [h0]; exact cell_cur hcur (by rw [show o + t = o + t / 5 * 5 + 1 by omega]; exact c1)
    · rw [h0]; exact cell_cur hcur (by rw [show o + t = o + t / 5 * 5 + 2 by omega]; exact c2)
    · rw [h0]; exact cell_cur hcur (by rw [show o + t = o + t / 5 * 5 + 3 by omega]; exact c3)
    · rw [h0]; exact cell_cur hcur (by rw [show o + t = o + t / 5 * 5 + 4 by omega]; exact c4)
  have hS : SWO (ltOf fun x y : {x // ok x} => cf x.1 y.1) := ⟨fun x => hO.irrefl x.1, fun x y z => hO.trans x.1 y.1 z.1, fun x y z => hO.ntrans x.1 y.1 z.1⟩
  have hcmp : CmpLays Tryz.prog fn cb (fun x : {x // ok x} => encM x.1) 5 (fun x y => cf x.1 y.1) g o A.size w := by
    intro m os dk _ x y
    exact hc _ (sort_kpM _ _ _ _ _ _ _) x.1 y.1 x.2 y.2
  have hs := AnyQ.slices_SortFunc Tryz.laidSortM 5 Tryz.isAgg178 Tryz.sizeOf178 (fun x : {x // ok x} => encM x.1) (fun _ => rfl) (fun x v hv => by
    simp only [encM, List.mem_cons, List.not_mem_nil, or_false] at hv
    rcases hv with rfl | rfl | rfl | rfl | rfl
    · rfl
    · exact hone x.1 x.2
    · rfl
    · rfl
    · rfl) (fun x y => cf x.1 y.1) hS fn cb g o cap A w eg hcmp hH hlt (by omega)
  rw [hAs] at hs
  change Calls Tryz.prog 110 _ _ _ at hs
  refine hs.mono ?_
  rintro e w' ⟨rfl, D, m, os, ⟨hP0, _, hP⟩, hSo, rfl⟩
  have hDs : D.size = d.length := by rw [hP0, hAs]
  rw [show d.length = A.size from hAs.symm, Array.extract_size, hAs] at hP
  rw [show D.extract 0 d.length = D by rw [← hDs]; exact Array.extract_size] at hP
  have hDl : (D.toList.map Subtype.val).length = d.length := by simp [hDs]
  have hDg : ∀ i (h : i < (D.toList.map Subtype.val).length), (D.toList.map Subtype.val)[i] = (D[i]!).1 := by
    intro i h
    rw [getElem!_pos D i (by rw [hDl] at h; omega)]
    simp
  refine ⟨rfl, D.toList.map Subtype.val, ?_, ?_, ?_, ?_⟩
  · have := hP.map Subtype.val
    refine this.trans (List.Perm.of_eq ?_)
    rw [hA]
    simp only []
    first | exact List.attachWith_map_subtype_val _ | exact List.attachWith_map_val _ | (simp; exact List.attach_map_subtype_val d)
  · rw [List.pairwise_iff_getElem]
    intro i j hi hj hij
    rw [hDg i hi, hDg j hj]
    have := hSo i j (Nat.zero_le _) hij (by rw [hDl] at hj; exact hj)
    unfold ltOf at this
    exact of_decide_eq_false this
  · refine ⟨_, sort_heapM _ w g o m D os hcur, by rw [hDl]; simpa [putCells] using hsz, fun i h => ?_⟩
    rw [hDg i h]
    have hi : i < d.length := by rw [hDl] at h; exact h
    have key : ∀ t, t < d.length * 5 → (putCells id o (flatK (fun x : {x // ok x} => encM x.1) 5 D) cur)[o + t]? = some ((encM (D[t / 5]!).1)[t % 5]!) := by
      intro t ht
      have hb : o + t < cur.size := by omega
      simp only [putCells, Array.getElem?_mapIdx, Array.getElem?_eq_getElem hb, Option.map_some]
      rw [if_pos ⟨by omega, by simp [hDs]; omega⟩, show o + t - o = t by omega, get_flatK _ _ _ _ (by rw [hDs]; exact ht)]
      rfl
    have k0 := key (i * 5) (by omega)
    have k1 := key (i * 5 + 1) (by omega)
    have k2 := key (i * 5 + 2) (by omega)
    have k3 := key (i * 5 + 3) (by omega)
    have k4 := key (i * 5 + 4) (by omega)
    rw [show i * 5 / 5 = i by omega, show i * 5 % 5 = 0 by omega] at k0
    rw [show (i * 5 + 1) / 5 = i by omega, show (i * 5 + 1) % 5 = 1 by omega] at k1
    rw [show (i * 5 + 2) / 5 = i by omega, show (i * 5 + 2) % 5 = 2 by omega] at k2
    rw [show (i * 5 + 3) / 5 = i by omega, show (i * 5 + 3) % 5 = 3 by omega] at k3
    rw [show (i * 5 + 4) / 5 = i by omega, show (i * 5 + 4) % 5 = 4 by omega] at k4
    exact ⟨k0, by rw [Nat.add_assoc]; exact k1, by rw [Nat.add_assoc]; exact k2, by rw [Nat.add_assoc]; exact k3, by rw [Nat.add_assoc]; exact k4⟩
  · refine ⟨sort_kpM _ _ _ _ _ _ _, fun cur2 h2 => ?_⟩
    rw [hcur] at h2
    injection h2 with h2
    injection h2 with h2 _ _
    subst h2
    refine ⟨_, sort_heapM _ w g o m D os hcur, by simp [putCells], fun i hi => ?_⟩
    simp only [putCells, Array.getElem?_mapIdx]
    have hn2 : ¬ (o ≤ i ∧ i < o + (flatK (fun x : {x // ok x} => encM x.1) 5 D).size) := by simp [hDs]; omega
    cases hcc : cur[i]? with
    | none => rfl
    | some c => rw [Option.map_some, if_neg hn2]

set_option maxHeartbeats 2000000 in
theorem outward1_c (x y : Me) (hu : x.1.2.1.oneCell' = true) (hv : y.1.2.1.oneCell' = true) (w : World) :
    Calls Tryz.prog 111 #[mv x, mv y] w fun e w' => e = .returned (.int .i64 (Tk.cf x.2 y.2)) ∧ Tk.Gw w w' := by
  obtain ⟨⟨xi, xu, xl⟩, a0, a1, a2⟩ := x
  obtain ⟨⟨yi, yu, yl⟩, b0, b1, b2⟩ := y
  dsimp only at hu hv
  have hcu : xu.cells = #[xu] := by first | exact Value.cells_of_oneCell' hu | (cases xu <;> simp_all [Value.oneCell', Value.cells])
  have hcv : yu.cells = #[yu] := by first | exact Value.cells_of_oneCell' hv | (cases yu <;> simp_all [Value.oneCell', Value.cells])
  show Calls Tryz.prog 111 #[.agg #[.int .i64 xi, xu, .int .i64 a0, .int .u64 a1, .int .u64 a2], .agg #[.int .i64 yi, yu, .int .i64 b0, .int .u64 b1, .int .u64 b2]] w fun e w' => e = .returned (.int .i64 (Tk.cor (Tk.cw a1 a2 b1 b2) (Tk.ci a0 b0))) ∧ Tk.Gw w w'
  go_enter Tryz.func111, Tryz.ntmps111
  go_wp2
  have C : Tk.Gw w ((w.alloc (.cells #[.int .i64 xi, xu, .int .i64 a0, .int .u64 a1, .int .u64 a2] 178)).alloc (.cells #[.int .i64 yi, yu, .int .i64 b0, .int .u64 b1, .int .u64 b2] 178)) := ((Tk.Gw.refl _).alloc _).alloc _
  go_region_held3 (fun w' => Tk.Gw w w' ∧ w'.cell? ⟨w.heap.size, 2, none⟩ = some (.int .i64 a0) ∧ w'.cell? ⟨w.heap.size, 3, none⟩ = some (.int .u64 a1) ∧ w'.cell? ⟨w.heap.size, 4, none⟩ = some (.int .u64 a2) ∧ w'.cell? ⟨w.heap.size + 1, 2, none⟩ = some (.int .i64 b0) ∧ w'.cell? ⟨w.heap.size + 1, 3, none⟩ = some (.int .u64 b1) ∧ w'.cell? ⟨w.heap.size + 1, 4, none⟩ = some (.int .u64 b2)) (first | (with_reducible exact Tk.six_call (by assumption) (by assumption)) | (with_reducible assumption) | (with_reducible exact Tk.six_alloc (by assumption)) | exact ⟨C.drew, by simp [go_sem], by simp [go_sem], by simp [go_sem], by simp [go_sem], by simp [go_sem], by simp [go_sem]⟩) (first | (go_at_call 43; refine (Tk.cmpw _ _ _ _ _).mono ?_; rintro e w' ⟨rfl, hg⟩) | (go_at_call 33; refine (Tk.compare_c _ _ _).mono ?_; rintro e w' ⟨rfl, rfl⟩) | (go_at_call 112; refine (Tk.or_new _ _ _).mono ?_; rintro e w' ⟨rfl, rfl⟩))
  all_goals
    go_wp2
    go_ret
    exact ⟨rfl, And.left (by assumption)⟩
end Go.Proofs.YtepjbdklljlecabGreat
