import Derived.Test.YtbnljabeccebiaaGreatKr12
import Derived.Test.YtbnljabeccebiaaGreatKr5
import Derived.Test.YtbnljabeccebiaaGreatKr7
import Derived.Test.YtbnljabeccebiaaGreatKr3
import Derived.Laws.AppendOwnNone
/- Which row comes first along an axis; does a row belong below a border. -/
namespace Go.Proofs.YtbnljabeccebiaaGreat
open Go.RowKit Go.Sort

theorem gw_gb {w w' : World} (h : Tk.Gw w w') : Gb w w' := h.gr
/-- Seven cells stay. -/
theorem seven_call {w0 W w' : World} {p0 p1 p2 p3 p4 p5 p6 : Addr} {v0 v1 v2 v3 v4 v5 v6 : Value} (g : Tk.Gw W w')
    (h : Tk.Gw w0 W ∧ W.cell? p0 = some v0 ∧ W.cell? p1 = some v1 ∧ W.cell? p2 = some v2 ∧ W.cell? p3 = some v3 ∧ W.cell? p4 = some v4 ∧ W.cell? p5 = some v5 ∧ W.cell? p6 = some v6) :
    Tk.Gw w0 w' ∧ w'.cell? p0 = some v0 ∧ w'.cell? p1 = some v1 ∧ w'.cell? p2 = some v2 ∧ w'.cell? p3 = some v3 ∧ w'.cell? p4 = some v4 ∧ w'.cell? p5 = some v5 ∧ w'.cell? p6 = some v6 := by
  obtain ⟨a, b0, b1, b2, b3, b4, b5, b6⟩ := h
  exact ⟨a.trans g, Tk.gr_keeps g.gr b0, Tk.gr_keeps g.gr b1, Tk.gr_keeps g.gr b2, Tk.gr_keeps g.gr b3, Tk.gr_keeps g.gr b4, Tk.gr_keeps g.gr b5, Tk.gr_keeps g.gr b6⟩
theorem seven_alloc {w0 W : World} {o : Obj} {p0 p1 p2 p3 p4 p5 p6 : Addr} {v0 v1 v2 v3 v4 v5 v6 : Value}
    (h : Tk.Gw w0 W ∧ W.cell? p0 = some v0 ∧ W.cell? p1 = some v1 ∧ W.cell? p2 = some v2 ∧ W.cell? p3 = some v3 ∧ W.cell? p4 = some v4 ∧ W.cell? p5 = some v5 ∧ W.cell? p6 = some v6) :
    Tk.Gw w0 (W.alloc o) ∧ (W.alloc o).cell? p0 = some v0 ∧ (W.alloc o).cell? p1 = some v1 ∧ (W.alloc o).cell? p2 = some v2 ∧ (W.alloc o).cell? p3 = some v3 ∧ (W.alloc o).cell? p4 = some v4 ∧ (W.alloc o).cell? p5 = some v5 ∧ (W.alloc o).cell? p6 = some v6 :=
  seven_call ((Tk.Gw.refl _).alloc _) h

theorem compare_g (a b : Int) (w : World) : Calls Tryz.prog 57 #[.int .i64 a, .int .i64 b] w fun e w' => e = .returned (.int .i64 (Tk.ci a b)) ∧ Tk.Gw w w' :=
  (Tk.compare_c a b w).mono fun _ _ ⟨h, e⟩ => ⟨h, by rw [e]; exact Tk.Gw.refl _⟩
/-- Along an axis, then by ids. -/
def alg (x : Int) (a : Int) (y : Int) (b : Int) : Int := Tk.cor (Tk.ci a b) (Tk.ci x y)
set_option maxHeartbeats 2000000 in
theorem along1_c {w : World} {x y : Int} {u v : Value} {l m : List Int} {ax cb co : Nat} (hu : RdI w u l) (hv : RdI w v m) (hl : ax < l.length) (hm : ax < m.length) (hc : w.cell? ⟨cb, co, none⟩ = some (.int .i64 (ax : Int))) :
    Calls Tryz.prog 136 #[.agg #[.int .i64 x, u], .agg #[.int .i64 y, v], .pointer (some ⟨cb, co, none⟩)] w fun e w' => e = .returned (.int .i64 (alg x l[ax]! y m[ax]!)) ∧ Tk.Gw w w' := by
  unfold alg
  obtain ⟨a, cap, rfl, h⟩ := hu
  obtain ⟨b, o, rfl, hA⟩ := h ax hl
  obtain ⟨a', cap', rfl, h'⟩ := hv
  obtain ⟨b', o', rfl, hB⟩ := h' ax hm
  generalize l[ax]! = f at *
  generalize m[ax]! = g at *
  generalize l.length = n at *
  generalize m.length = n' at *
  clear h h'
  go_enter Tryz.func136, Tryz.ntmps136
  go_wp2
  have C : Tk.Gw w ((w.alloc (.cells #[.int .i64 x, .slice (some ⟨b, o, none⟩) n cap] 43)).alloc (.cells #[.int .i64 y, .slice (some ⟨b', o', none⟩) n' cap'] 43)) := ((Tk.Gw.refl _).alloc _).alloc _
  go_region_held3 (fun w' => Tk.Gw w w' ∧ w'.cell? ⟨w.heap.size, 0, none⟩ = some (.int .i64 x) ∧ w'.cell? ⟨w.heap.size, 1, none⟩ = some (.slice (some ⟨b, o, none⟩) n cap) ∧ w'.cell? ⟨w.heap.size + 1, 0, none⟩ = some (.int .i64 y) ∧ w'.cell? ⟨w.heap.size + 1, 1, none⟩ = some (.slice (some ⟨b', o', none⟩) n' cap') ∧ w'.cell? ⟨cb, co, none⟩ = some (.int .i64 (ax : Int)) ∧ w'.cell? ⟨b, o + ax, none⟩ = some (.int .i64 f) ∧ w'.cell? ⟨b', o' + ax, none⟩ = some (.int .i64 g)) (first | (with_reducible exact seven_call (by assumption) (by assumption)) | (with_reducible assumption) | (with_reducible exact seven_alloc (by assumption)) | exact ⟨C.drew, by simp [go_sem], by simp [go_sem], by simp [go_sem], by simp [go_sem], Tk.gr_keeps C.drew.gr hc, Tk.gr_keeps C.drew.gr hA, Tk.gr_keeps C.drew.gr hB⟩) (first | (go_at_call 57; refine (compare_g _ _ _).mono ?_; rintro e w' ⟨rfl, hg⟩) | (go_at_call 103; refine (Tk.or_new _ _ _).mono ?_; rintro e w' ⟨rfl, rfl⟩))
  all_goals
    go_wp2
    go_ret
    exact ⟨rfl, And.left (by assumption)⟩
theorem alg_neg (x a y b : Int) : decide (alg x a y b < 0) = (decide (a < b) || (decide (a = b) && decide (x < y))) := by
  unfold alg Tk.cor Tk.ci
  by_cases h1 : a < b
  · simp [h1]
  · by_cases h2 : b < a
    · simp [h1, h2]; intro e; omega
    · have e : a = b := by omega
      subst e
      by_cases h3 : x < y
      · simp [h3]
      · by_cases h4 : y < x <;> simp [h3, h4]
set_option maxHeartbeats 2000000 in
theorem isAbove_c {w : World} {x at' id ax : Int} {u : Value} {l : List Int} (hu : RdI w u l) (h0 : 0 ≤ ax) (h1 : ax < (l.length : Int)) :
    Calls Tryz.prog 120 #[.agg #[.int .i64 ax, .int .i64 at', .int .i64 id], .agg #[.int .i64 x, u]] w fun e w' => e = .returned (.bool (isAb (ax, at', id) (x, l))) ∧ Tk.Gw w w' := by
  rw [show isAb (ax, at', id) (x, l) = decide (alg x l[ax.toNat]! id at' < 0) from (alg_neg _ _ _ _).symm]
  unfold alg
  obtain ⟨A, rfl⟩ : ∃ A : Nat, ax = A := ⟨ax.toNat, by omega⟩
  rw [Int.toNat_natCast]
  have hl : A < l.length := by omega
  obtain ⟨a, cap, rfl, h⟩ := hu
  obtain ⟨b, o, rfl, hA⟩ := h A hl
  generalize l[A]! = f at *
  generalize l.length = n at *
  clear h h0 h1
  go_enter Tryz.func120, Tryz.ntmps120
  go_wp2
  have C : Tk.Gw w ((w.alloc (.cells #[.int .i64 (A : Int), .int .i64 at', .int .i64 id] 115)).alloc (.cells #[.int .i64 x, .slice (some ⟨b, o, none⟩) n cap] 43)) := ((Tk.Gw.refl _).alloc _).alloc _
  go_region_held3 (fun w' => Tk.Gw w w' ∧ w'.cell? ⟨w.heap.size, 0, none⟩ = some (.int .i64 (A : Int)) ∧ w'.cell? ⟨w.heap.size, 1, none⟩ = some (.int .i64 at') ∧ w'.cell? ⟨w.heap.size, 2, none⟩ = some (.int .i64 id) ∧ w'.cell? ⟨w.heap.size + 1, 0, none⟩ = some (.int .i64 x) ∧ w'.cell? ⟨w.heap.size + 1, 1, none⟩ = some (.slice (some ⟨b, o, none⟩) n cap) ∧ w'.cell? ⟨b, o + A, none⟩ = some (.int .i64 f)) (first | (with_reducible exact Tk.six_call (by assumption) (by assumption)) | (with_reducible assumption) | (with_reducible exact Tk.six_alloc (by assumption)) | exact ⟨C.drew, by simp [go_sem], by simp [go_sem], by simp [go_sem], by simp [go_sem], by simp [go_sem], Tk.gr_keeps C.drew.gr hA⟩) (first | (go_at_call 57; refine (compare_g _ _ _).mono ?_; rintro e w' ⟨rfl, hg⟩) | (go_at_call 103; refine (Tk.or_new _ _ _).mono ?_; rintro e w' ⟨rfl, rfl⟩))
  all_goals
    go_wp2
    go_ret
    exact ⟨rfl, And.left (by assumption)⟩

/-- The order along an axis, as a function value. -/
theorem along_c (ax : Int) (w : World) : Calls Tryz.prog 97 #[.int .i64 ax] w fun e w' => e = .returned (.func (.func 136) #[] #[.pointer (some ⟨w.heap.size, 0, none⟩)]) ∧ w' = w.alloc (.cells #[.int .i64 ax] 3) := by
  go_enter Tryz.func97, Tryz.ntmps97
  go_wp2
  go_ret
  exact ⟨rfl, rfl⟩

/-- The axis along which a box is longest, the first of several; of the first n. -/
def wid (L H : List Int) : Nat → Nat
  | 0 => 0
  | n + 1 => if H[wid L H n]! - L[wid L H n]! < H[n]! - L[n]! then n else wid L H n
theorem wid_le (L H : List Int) : ∀ n, wid L H n ≤ n - 1
  | 0 => Nat.le_refl _
  | n + 1 => by
    have := wid_le L H n
    unfold wid
    split <;> omega
end Go.Proofs.YtbnljabeccebiaaGreat

/- slices.SortFunc at rows: in place, in a part of a block, by an order that may read the rows' vectors. -/
namespace Go.Proofs.YtbnljabeccebiaaGreat
open Go.Shelf Go.RowKit Go.Lib Go.Sort
shelf_lay_g SlLaysF0.n6 Slsf 6 at Tryz 55 as Tryz.laidSortR

/-- A row: its id, its vector's value, its vector. -/
abbrev Rt := Int × Value × List Int
abbrev encR (x : Rt) : List Value := [.int .i64 x.1, x.2.1]
abbrev rwR (x : Rt) : Rw := (x.1, x.2.2)
/-- These rows lie in block g from o on. -/
def RwAt (w : World) (g o : Nat) (d : List Rt) : Prop := ∃ cur, w.heap[g]? = some (.cells cur 43 (0, 0)) ∧ o + d.length * 2 ≤ cur.size ∧ ∀ i (h : i < d.length), cur[o + i * 2]? = some (.int .i64 d[i].1) ∧ cur[o + i * 2 + 1]? = some d[i].2.1
theorem cell_cur {w : World} {g i : Nat} {cur : Array Value} {t : TypeId} {s : Nat × Nat} {v : Value} (h : w.heap[g]? = some (.cells cur t s)) (hc : cur[i]? = some v) : w.cell? ⟨g, i, none⟩ = some v := by
  simp [World.cell?, h, hc]
/-- Nothing has turned but in block g, from o on, n rows. -/
structure Srt (w w' : World) (g o n : Nat) : Prop where
  kp : Tk.Kp (fun b => b = g) w w'
  blk : ∀ cur, w.heap[g]? = some (.cells cur 43 (0, 0)) → ∃ cur', w'.heap[g]? = some (.cells cur' 43 (0, 0)) ∧ cur'.size = cur.size ∧ ∀ i, (i < o ∨ o + n * 2 ≤ i) → cur'[i]? = cur[i]?
theorem sort_heap {α : Type} [Inhabited α] (enc : α → List Value) (w : World) (g o m : Nat) (d : Array α) (os : Array Obj) {cur : Array Value} (h : w.heap[g]? = some (.cells cur 43 (0, 0))) :
    (sortWorldK enc 2 w g o m d os).heap[g]? = some (.cells (putCells id o (flatK enc 2 d) cur) 43 (0, 0)) := by
  have hlt := (Array.getElem?_eq_some_iff.1 h).1
  unfold sortWorldK
  rw [heap_grow_old _ _ (by simp [putRowK, putRow, mapBlock]; exact hlt)]
  simp [putRowK, putRow, mapBlock, Array.getElem?_modify, h, onCells]
theorem sort_kp {α : Type} [Inhabited α] (enc : α → List Value) (w : World) (g o m : Nat) (d : Array α) (os : Array Obj) : Tk.Kp (fun b => b = g) w (sortWorldK enc 2 w g o m d os) := by
  unfold sortWorldK
  refine Tk.Kp.trans (b := putRowK enc 2 (Sort.ahead w m) g o d) ⟨rfl, rfl, rfl, by simp [putRowK, putRow, mapBlock], fun k _ hn => ?_⟩ (Tk.Kp.of_gr (Tk.gr_grow _ _))
  simp [putRowK, putRow, mapBlock, Array.getElem?_modify, Ne.symm hn]
theorem rdi_kp {S : Nat → Prop} {w w' : World} {u : Value} {l : List Int} (h : RdI w u l) (k : Tk.Kp S w w') (hn : ∀ b o n c, u = .slice (some ⟨b, o, none⟩) n c → ¬ S b) : RdI w' u l := by
  obtain ⟨a, cap, rfl, h⟩ := h
  refine ⟨a, cap, rfl, fun i hi => ?_⟩
  obtain ⟨b, o, rfl, hc⟩ := h i hi
  exact ⟨b, o, rfl, k.cell hc (hn _ _ _ _ rfl)⟩

theorem sortR {w : World} {g o cap fn : Nat} {d : List Rt} {cb : Array Value} {cf : Rt → Rt → Int} (ok : Rt → Prop) (hd : RwAt w g o d) (hne : d ≠ []) (hlen : d.length ≤ 4000) (hok : ∀ x ∈ d, ok x) (hone : ∀ x, ok x → x.2.1.oneCell' = true)
    (hO : SWO (fun x y : Rt => decide (cf x y < 0))) (eg : ∀ args w, (callFunc fn args).run Tryz.prog w = .ok (.enter fn args) w)
    (hc : ∀ W, Tk.Kp (fun b => b = g) w W → ∀ x y, ok x → ok y → Calls Tryz.prog fn (#[.agg #[.int .i64 x.1, x.2.1], .agg #[.int .i64 y.1, y.2.1]] ++ cb) W fun e w' => e = .returned (.int .i64 (cf x y)) ∧ Tk.Gw W w') :
    Calls Tryz.prog 55 #[.slice (some ⟨g, o, none⟩) d.length cap, .func (.func fn) #[] cb] w fun e w' => e = .returned (.tuple #[]) ∧ ∃ d', d'.Perm d ∧ (d'.Pairwise fun x y => ¬ cf y x < 0) ∧ RwAt w' g o d' ∧ Srt w w' g o d.length := by
  haveI : Inhabited {x // ok x} := ⟨⟨d.head hne, hok _ (List.head_mem hne)⟩⟩
  obtain ⟨cur, hcur, hsz, hcells⟩ := hd
  have hlt := (Array.getElem?_eq_some_iff.1 hcur).1
  obtain ⟨A, hA⟩ : ∃ A : Array {x // ok x}, A = (d.attachWith ok hok).toArray := ⟨_, rfl⟩
  have hAs : A.size = d.length := by rw [hA]; simp
  have hAg : ∀ i (h : i < d.length), (A[i]!).1 = d[i] := by
    intro i h
    rw [getElem!_pos A i (by omega)]
    subst hA
    simp
  have hH : HoldsK (fun x : {x // ok x} => encR x.1) 2 w g o A := by
    intro t ht
    have ht' : t < d.length * 2 := by simpa [hAs] using ht
    have hi : t / 2 < d.length := by omega
    have e : (flatK (fun x : {x // ok x} => encR x.1) 2 A)[t]! = (encR d[t / 2])[t % 2]! := by
      rw [get_flatK _ _ _ _ (by rw [hAs]; exact ht'), hAg _ hi]
    refine ⟨?_, by simp [World.frozen?, hcur]⟩
    rw [e]
    obtain ⟨c0, c1⟩ := hcells (t / 2) hi
    rcases Nat.mod_two_eq_zero_or_one t with h0 | h0
    · rw [h0]; exact cell_cur hcur (by rw [show o + t = o + t / 2 * 2 by omega]; exact c0)
    · rw [h0]; exact cell_cur hcur (by rw [show o + t = o + t / 2 * 2 + 1 by omega]; exact c1)
  have hS : SWO (ltOf fun x y : {x // ok x} => cf x.1 y.1) := ⟨fun x => hO.irrefl x.1, fun x y z => hO.trans x.1 y.1 z.1, fun x y z => hO.ntrans x.1 y.1 z.1⟩
  have hcmp : CmpLays Tryz.prog fn cb (fun x : {x // ok x} => encR x.1) 2 (fun x y => cf x.1 y.1) g o A.size w := by
    intro m os dk _ x y
    exact hc _ (sort_kp _ _ _ _ _ _ _) x.1 y.1 x.2 y.2
  have hs := AnyQ.slices_SortFunc Tryz.laidSortR 2 Tryz.isAgg43 Tryz.sizeOf43 (fun x : {x // ok x} => encR x.1) (fun _ => rfl) (fun x v hv => by
    simp only [encR, List.mem_cons, List.not_mem_nil, or_false] at hv
    rcases hv with rfl | rfl
    · rfl
    · exact hone x.1 x.2) (fun x y => cf x.1 y.1) hS fn cb g o cap A w eg hcmp hH hlt (by omega)
  rw [hAs] at hs
  change Calls Tryz.prog 55 _ _ _ at hs
  refine hs.mono ?_
  rintro e w' ⟨rfl, D, m, os, ⟨hP0, _, hP⟩, hSo, rfl⟩
  have hDs : D.size = d.length := by rw [hP0, hAs]
  rw [show d.length = A.size from hAs.symm, Array.extract_size, hAs] at hP
  rw [show D.extract 0 d.length = D by rw [← hDs]; exact Array.extract_size] at hP
  have hDl : (D.toList.map Subtype.val).length = d.length := by simp [hDs]
  have hDg : ∀ i (h : i < (D.toList.map Subtype.val).length), (D.toList.map Subtype.val)[i] = (D[i]!).1 := by
    intro i h
    rw [getElem!_pos D i (by rw [hDl] at h; omega)]
    simp
  refine ⟨rfl, D.toList.map Subtype.val, ?_, ?_, ?_, ?_⟩
  · have := hP.map Subtype.val
    refine this.trans (List.Perm.of_eq ?_)
    rw [hA]
    simp only []
    first | exact List.attachWith_map_subtype_val _ | exact List.attachWith_map_val _ | (simp; exact List.attach_map_subtype_val d)
  · rw [List.pairwise_iff_getElem]
    intro i j hi hj hij
    rw [hDg i hi, hDg j hj]
    have := hSo i j (Nat.zero_le _) hij (by rw [hDl] at hj; exact hj)
    unfold ltOf at this
    exact of_decide_eq_false this
  · refine ⟨_, sort_heap _ w g o m D os hcur, by rw [hDl]; simpa [putCells] using hsz, fun i h => ?_⟩
    rw [hDg i h]
    have hi : i < d.length := by rw [hDl] at h; exact h
    have key : ∀ t, t < d.length * 2 → (putCells id o (flatK (fun x : {x // ok x} => encR x.1) 2 D) cur)[o + t]? = some ((encR (D[t / 2]!).1)[t % 2]!) := by
      intro t ht
      have hb : o + t < cur.size := by omega
      simp only [putCells, Array.getElem?_mapIdx, Array.getElem?_eq_getElem hb, Option.map_some]
      rw [if_pos ⟨by omega, by simp [hDs]; omega⟩, show o + t - o = t by omega, get_flatK _ _ _ _ (by rw [hDs]; exact ht)]
      rfl
    have k0 := key (i * 2) (by omega)
    have k1 := key (i * 2 + 1) (by omega)
    rw [show i * 2 / 2 = i by omega, show i * 2 % 2 = 0 by omega] at k0
    rw [show (i * 2 + 1) / 2 = i by omega, show (i * 2 + 1) % 2 = 1 by omega] at k1
    exact ⟨k0, by rw [Nat.add_assoc]; exact k1⟩
  · refine ⟨sort_kp _ _ _ _ _ _ _, fun cur2 h2 => ?_⟩
    rw [hcur] at h2
    injection h2 with h2
    injection h2 with h2 _ _
    subst h2
    refine ⟨_, sort_heap _ w g o m D os hcur, by simp [putCells], fun i hi => ?_⟩
    simp only [putCells, Array.getElem?_mapIdx]
    have hn2 : ¬ (o ≤ i ∧ i < o + (flatK (fun x : {x // ok x} => encR x.1) 2 D).size) := by simp [hDs]; omega
    cases hcc : cur[i]? with
    | none => rfl
    | some c => rw [Option.map_some, if_neg hn2]
end Go.Proofs.YtbnljabeccebiaaGreat

/- Rows in a list of the call's own. -/
namespace Go.Proofs.YtbnljabeccebiaaGreat
open Go.RowKit Go.Sort Go.Maps

theorem Tryz.infoW : (Tryz.prog.info? 43).map (fun i => (i.zero, i.size, i.bytes)) = some (some (.agg #[.int .i64 0, .slice none 0 0]), 2, 32) := by kernel_rfl
theorem info_partsW : ∃ i0, Tryz.prog.info? 43 = some i0 ∧ i0.zero = some (.agg #[.int .i64 0, .slice none 0 0]) ∧ i0.size = 2 ∧ i0.bytes = 32 := by
  obtain ⟨i, hi, hzz⟩ := Option.map_eq_some_iff.1 Tryz.infoW
  simp only [Prod.mk.injEq] at hzz
  exact ⟨i, hi, hzz.1, hzz.2.1, hzz.2.2⟩
/-- The cells xs are these rows'; their vectors are read in w. -/
def CellsW (w : World) (xs : List Value) (rs : List Rw) : Prop := ∀ i, i < rs.length → xs[i * 2]? = some (.int .i64 rs[i]!.1) ∧ ∃ u, xs[i * 2 + 1]? = some u ∧ RdI w u rs[i]!.2
theorem CellsW.gb {w w' : World} {xs : List Value} {rs : List Rw} (h : CellsW w xs rs) (g : Gb w w') : CellsW w' xs rs := fun i hi => by
  obtain ⟨h1, u, h2, h3⟩ := h i hi
  exact ⟨h1, u, h2, h3.gb g⟩
/-- The call owns, in blocks from B on, a slice v of these rows, whose vectors are read in w. -/
def OwnW (w W : World) (B : Nat) (v : Value) (rs : List Rw) : Prop := ∃ xs, W.ownsRow B 43 2 v rs.length xs ∧ CellsW w xs rs
theorem OwnW.kept {w W W' : World} {B : Nat} {v : Value} {rs : List Rw} {row : Option Nat} (h : OwnW w W B v rs) (hg : W.grownBy W' row) (hne : v.ownBlock = none ∨ v.ownBlock ≠ row) : OwnW w W' B v rs := by
  obtain ⟨xs, h1, h2⟩ := h
  exact ⟨xs, h1.kept hg hne, h2⟩
theorem OwnW.gb {w W W' : World} {B : Nat} {v : Value} {rs : List Rw} (h : OwnW w W B v rs) (g : Gb W W') : OwnW w W' B v rs :=
  h.kept (row := none) ⟨g.os, g.tape, g.output, g.size, fun k hk _ => g.block k hk⟩ (by cases hv : v.ownBlock <;> simp)
theorem OwnW.rdw {w W : World} {B : Nat} {v : Value} {rs : List Rw} (h : OwnW w W B v rs) (g : Gb w W) : RdW W v rs := by
  obtain ⟨xs, h, hx⟩ := h
  rcases h.2 with ⟨rfl, h0⟩ | ⟨b, cap, cur, rfl, _⟩
  · have : rs = [] := List.eq_nil_of_length_eq_zero h0
    subst this
    exact ⟨none, 0, rfl, fun i hi => absurd hi (Nat.not_lt_zero _)⟩
  · refine ⟨_, cap, rfl, fun i hi => ?_⟩
    obtain ⟨h1, u, h2, h3⟩ := hx i hi
    have c1 := World.ownsRow.cells h (g := b) rfl (i * 2) _ h1
    have c2 := World.ownsRow.cells h (g := b) rfl (i * 2 + 1) _ h2
    rw [Addr.add_lit] at c1 c2
    exact ⟨b, 0, u, rfl, c1, by rw [Nat.add_assoc]; exact c2, h3.gb g⟩
theorem OwnW.form {w W : World} {B : Nat} {v : Value} {rs : List Rw} (h : OwnW w W B v rs) : ∃ a cap, v = .slice a rs.length cap := by
  obtain ⟨xs, h, _⟩ := h
  rcases h.2 with ⟨rfl, h0⟩ | ⟨b, cap, cur, rfl, _⟩
  · exact ⟨none, 0, by rw [h0]⟩
  · exact ⟨_, cap, rfl⟩
theorem two_cells (w : World) (x y : Value) (t : TypeId) : ∀ j u, [x, y][j]? = some u → (w.alloc (.cells #[x, y] t)).cell? ((⟨w.heap.size, 0, none⟩ : Addr).add j) = some u := by
  intro j u hj
  rw [Addr.add_lit]
  rcases j with _ | _ | j <;> simp at hj
  · subst hj; simp [go_sem]
  · subst hj; simp [go_sem]
end Go.Proofs.YtbnljabeccebiaaGreat
