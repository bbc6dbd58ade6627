import Derived.Test.YtepjbdklljlecaaGreatVb18
import Derived.Test.YtepjbdklljlecaaGreatVb8
import Derived.Test.YtepjbdklljlecaaGreatVb16
import Derived.Test.YtepjbdklljlecaaGreatVb17
import Derived.Deep.RegionHeld3
import Derived.Test.YtepjbdklljlecaaGreatVb23
import Derived.Test.YtepjbdklljlecaaGreatVb20
import Derived.BigQuiet
import Derived.Test.YtepjbdklljlecaaGreatVb19
import Derived.Test.YtepjbdklljlecaaGreatVbFar
import Derived.Deep.OwnRows
import Derived.Laws.CopyOwn
import Derived.Laws.OwnMore
/- slices.SortFunc at rows: in place, in a part of a block, by an order that may read the rows' vectors. -/
namespace Go.Proofs.YtepjbdklljlecaaGreat
open Go.Shelf Go.RowKit Go.Lib Go.Sort
shelf_lay_g SlLaysF0.n6 Slsf 6 at Tryz 56 as Tryz.laidSortR

/-- A row: its id, its vector's value, its vector. -/
abbrev Rt := Int × Value × List Int
abbrev encR (x : Rt) : List Value := [.int .i64 x.1, x.2.1]
abbrev rwR (x : Rt) : Rw := (x.1, x.2.2)
/-- These rows lie in block g from o on. -/
def RwAt (w : World) (g o : Nat) (d : List Rt) : Prop := ∃ cur, w.heap[g]? = some (.cells cur 43 (0, 0)) ∧ o + d.length * 2 ≤ cur.size ∧ ∀ i (h : i < d.length), cur[o + i * 2]? = some (.int .i64 d[i].1) ∧ cur[o + i * 2 + 1]? = some d[i].2.1
theorem cell_cur {w : World} {g i : Nat} {cur : Array Value} {t : TypeId} {s : Nat × Nat} {v : Value} (h : w.heap[g]? = some (.cells cur t s)) (hc : cur[i]? = some v) : w.cell? ⟨g, i, none⟩ = some v := by
  simp [World.cell?, h, hc]
theorem cur_cell {w : World} {g i : Nat} {cur : Array Value} {t : TypeId} {s : Nat × Nat} {v : Value} (h : w.heap[g]? = some (.cells cur t s)) (hc : w.cell? ⟨g, i, none⟩ = some v) : cur[i]? = some v := by
  simpa [World.cell?, h] using hc
/-- Nothing has turned but in block g, from o on, n rows. -/
structure Srt (w w' : World) (g o n : Nat) : Prop where
  kp : Tk.Kp (fun b => b = g) w w'
  blk : ∀ cur, w.heap[g]? = some (.cells cur 43 (0, 0)) → ∃ cur', w'.heap[g]? = some (.cells cur' 43 (0, 0)) ∧ cur'.size = cur.size ∧ ∀ i, (i < o ∨ o + n * 2 ≤ i) → cur'[i]? = cur[i]?
theorem sort_heap {α : Type} [Inhabited α] (enc : α → List Value) (w : World) (g o m : Nat) (d : Array α) (os : Array Obj) {cur : Array Value} (h : w.heap[g]? = some (.cells cur 43 (0, 0))) :
    (sortWorldK enc 2 w g o m d os).heap[g]? = some (.cells (putCells id o (flatK enc 2 d) cur) 43 (0, 0)) := by
  have hlt := (Array.getElem?_eq_some_iff.1 h).1
  unfold sortWorldK
  rw [heap_grow_old _ _ (by simp [putRowK, putRow, mapBlock]; exact hlt)]
  simp [putRowK, putRow, mapBlock, Array.getElem?_modify, h, onCells]
theorem sort_kp {α : Type} [Inhabited α] (enc : α → List Value) (w : World) (g o m : Nat) (d : Array α) (os : Array Obj) : Tk.Kp (fun b => b = g) w (sortWorldK enc 2 w g o m d os) := by
  unfold sortWorldK
  refine Tk.Kp.trans (b := putRowK enc 2 (Sort.ahead w m) g o d) ⟨rfl, rfl, rfl, by simp [putRowK, putRow, mapBlock], fun k _ hn => ?_⟩ (Tk.Kp.of_gr (Tk.gr_grow _ _))
  simp [putRowK, putRow, mapBlock, Array.getElem?_modify, Ne.symm hn]
theorem rdi_kp {S : Nat → Prop} {w w' : World} {u : Value} {l : List Int} (h : RdI w u l) (k : Tk.Kp S w w') (hn : ∀ b o n c, u = .slice (some ⟨b, o, none⟩) n c → ¬ S b) : RdI w' u l := by
  obtain ⟨a, cap, rfl, h⟩ := h
  refine ⟨a, cap, rfl, fun i hi => ?_⟩
  obtain ⟨b, o, rfl, hc⟩ := h i hi
  exact ⟨b, o, rfl, k.cell hc (hn _ _ _ _ rfl)⟩

theorem sortR {w : World} {g o cap fn : Nat} {d : List Rt} {cb : Array Value} {cf : Rt → Rt → Int} (ok : Rt → Prop) (hd : RwAt w g o d) (hne : d ≠ []) (hlen : d.length ≤ 4000) (hok : ∀ x ∈ d, ok x) (hone : ∀ x, ok x → x.2.1.oneCell' = true)
    (hO : SWO (fun x y : Rt => decide (cf x y < 0))) (eg : ∀ args w, (callFunc fn args).run Tryz.prog w = .ok (.enter fn args) w)
    (hc : ∀ W, Tk.Kp (fun b => b = g) w W → ∀ x y, ok x → ok y → Calls Tryz.prog fn (#[.agg #[.int .i64 x.1, x.2.1], .agg #[.int .i64 y.1, y.2.1]] ++ cb) W fun e w' => e = .returned (.int .i64 (cf x y)) ∧ Tk.Gw W w') :
    Calls Tryz.prog 56 #[.slice (some ⟨g, o, none⟩) d.length cap, .func (.func fn) #[] cb] w fun e w' => e = .returned (.tuple #[]) ∧ ∃ d', d'.Perm d ∧ (d'.Pairwise fun x y => ¬ cf y x < 0) ∧ RwAt w' g o d' ∧ Srt w w' g o d.length := by
  haveI : Inhabited {x // ok x} := ⟨⟨d.head hne, hok _ (List.head_mem hne)⟩⟩
  obtain ⟨cur, hcur, hsz, hcells⟩ := hd
  have hlt := (Array.getElem?_eq_some_iff.1 hcur).1
  obtain ⟨A, hA⟩ : ∃ A : Array {x // ok x}, A = (d.attachWith ok hok).toArray := ⟨_, rfl⟩
  have hAs : A.size = d.length := by rw [hA]; simp
  have hAg : ∀ i (h : i < d.length), (A[i]!).1 = d[i] := by
    intro i h
    rw [getElem!_pos A i (by omega)]
    subst hA
    simp
  have hH : HoldsK (fun x : {x // ok x} => encR x.1) 2 w g o A := by
    intro t ht
    have ht' : t < d.length * 2 := by simpa [hAs] using ht
    have hi : t / 2 < d.length := by omega
    have e : (flatK (fun x : {x // ok x} => encR x.1) 2 A)[t]! = (encR d[t / 2])[t % 2]! := by
      rw [get_flatK _ _ _ _ (by rw [hAs]; exact ht'), hAg _ hi]
    refine ⟨?_, by simp [World.frozen?, hcur]⟩
    rw [e]
    obtain ⟨c0, c1⟩ := hcells (t / 2) hi
    rcases Nat.mod_two_eq_zero_or_one t with h0 | h0
    · rw [h0]; exact cell_cur hcur (by rw [show o + t = o + t / 2 * 2 by omega]; exact c0)
    · rw [h0]; exact cell_cur hcur (by rw [show o + t = o + t / 2 * 2 + 1 by omega]; exact c1)
  have hS : SWO (ltOf fun x y : {x // ok x} => cf x.1 y.1) := ⟨fun x => hO.irrefl x.1, fun x y z => hO.trans x.1 y.1 z.1, fun x y z => hO.ntrans x.1 y.1 z.1⟩
  have hcmp : CmpLays Tryz.prog fn cb (fun x : {x // ok x} => encR x.1) 2 (fun x y => cf x.1 y.1) g o A.size w := by
    intro m os dk _ x y
    exact hc _ (sort_kp _ _ _ _ _ _ _) x.1 y.1 x.2 y.2
  have hs := AnyQ.slices_SortFunc Tryz.laidSortR 2 Tryz.isAgg43 Tryz.sizeOf43 (fun x : {x // ok x} => encR x.1) (fun _ => rfl) (fun x v hv => by
    simp only [encR, List.mem_cons, List.not_mem_nil, or_false] at hv
    rcases hv with rfl | rfl
    · rfl
    · exact hone x.1 x.2) (fun x y => cf x.1 y.1) hS fn cb g o cap A w eg hcmp hH hlt (by omega)
  rw [hAs] at hs
  change Calls Tryz.prog 56 _ _ _ at hs
  refine hs.mono ?_
  rintro e w' ⟨rfl, D, m, os, ⟨hP0, _, hP⟩, hSo, rfl⟩
  have hDs : D.size = d.length := by rw [hP0, hAs]
  rw [show d.length = A.size from hAs.symm, Array.extract_size, hAs] at hP
  rw [show D.extract 0 d.length = D by rw [← hDs]; exact Array.extract_size] at hP
  have hDl : (D.toList.map Subtype.val).length = d.length := by simp [hDs]
  have hDg : ∀ i (h : i < (D.toList.map Subtype.val).length), (D.toList.map Subtype.val)[i] = (D[i]!).1 := by
    intro i h
    rw [getElem!_pos D i (by rw [hDl] at h; omega)]
    simp
  refine ⟨rfl, D.toList.map Subtype.val, ?_, ?_, ?_, ?_⟩
  · have := hP.map Subtype.val
    refine this.trans (List.Perm.of_eq ?_)
    rw [hA]
    simp only []
    first | exact List.attachWith_map_subtype_val _ | exact List.attachWith_map_val _ | (simp; exact List.attach_map_subtype_val d)
  · rw [List.pairwise_iff_getElem]
    intro i j hi hj hij
    rw [hDg i hi, hDg j hj]
    have := hSo i j (Nat.zero_le _) hij (by rw [hDl] at hj; exact hj)
    unfold ltOf at this
    exact of_decide_eq_false this
  · refine ⟨_, sort_heap _ w g o m D os hcur, by rw [hDl]; simpa [putCells] using hsz, fun i h => ?_⟩
    rw [hDg i h]
    have hi : i < d.length := by rw [hDl] at h; exact h
    have key : ∀ t, t < d.length * 2 → (putCells id o (flatK (fun x : {x // ok x} => encR x.1) 2 D) cur)[o + t]? = some ((encR (D[t / 2]!).1)[t % 2]!) := by
      intro t ht
      have hb : o + t < cur.size := by omega
      simp only [putCells, Array.getElem?_mapIdx, Array.getElem?_eq_getElem hb, Option.map_some]
      rw [if_pos ⟨by omega, by simp [hDs]; omega⟩, show o + t - o = t by omega, get_flatK _ _ _ _ (by rw [hDs]; exact ht)]
      rfl
    have k0 := key (i * 2) (by omega)
    have k1 := key (i * 2 + 1) (by omega)
    rw [show i * 2 / 2 = i by omega, show i * 2 % 2 = 0 by omega] at k0
    rw [show (i * 2 + 1) / 2 = i by omega, show (i * 2 + 1) % 2 = 1 by omega] at k1
    exact ⟨k0, by rw [Nat.add_assoc]; exact k1⟩
  · refine ⟨sort_kp _ _ _ _ _ _ _, fun cur2 h2 => ?_⟩
    rw [hcur] at h2
    injection h2 with h2
    injection h2 with h2 _ _
    subst h2
    refine ⟨_, sort_heap _ w g o m D os hcur, by simp [putCells], fun i hi => ?_⟩
    simp only [putCells, Array.getElem?_mapIdx]
    have hn2 : ¬ (o ≤ i ∧ i < o + (flatK (fun x : {x // ok x} => encR x.1) 2 D).size) := by simp [hDs]; omega
    cases hcc : cur[i]? with
    | none => rfl
    | some c => rw [Option.map_some, if_neg hn2]
end Go.Proofs.YtepjbdklljlecaaGreat

/- Rows sorted along an axis, by ids; rows cloned. -/
namespace Go.Proofs.YtepjbdklljlecaaGreat
open Go.Shelf Go.RowKit Go.Lib Go.Sort
shelf_lay_g SlLaysE0.n41 Slgn 41 at Tryz 94 as Tryz.laidCloneR

theorem swoAl (ax : Nat) : SWO (fun x y : Rt => decide (alg x.1 x.2.2[ax]! y.1 y.2.2[ax]! < 0)) := by
  refine ⟨fun x => ?_, fun x y z => ?_, fun x y z => ?_⟩
  · simp only [alg_neg]; simp
  · simp only [alg_neg]
    generalize x.2.2[ax]! = a
    generalize y.2.2[ax]! = b
    generalize z.2.2[ax]! = c
    simp only [Bool.or_eq_true, Bool.and_eq_true, decide_eq_true_eq]
    omega
  · simp only [alg_neg]
    generalize x.2.2[ax]! = a
    generalize y.2.2[ax]! = b
    generalize z.2.2[ax]! = c
    simp only [Bool.or_eq_false_iff, Bool.and_eq_false_iff, decide_eq_false_iff_not]
    omega
theorem swoId : SWO (fun x y : Rt => decide (Tk.ci x.1 y.1 < 0)) := by
  have e : ∀ a b : Int, decide (Tk.ci a b < 0) = decide (a < b) := fun a b => by
    unfold Tk.ci
    split
    · rename_i h; simp [h]
    · rename_i h; split <;> simp [h]
  refine ⟨fun x => ?_, fun x y z => ?_, fun x y z => ?_⟩ <;> simp only [e, decide_eq_true_eq, decide_eq_false_iff_not] <;> omega

/-- A row whose vector is read apart from block g. -/
structure RtOk (w : World) (g n : Nat) (x : Rt) : Prop where
  rd : RdI w x.2.1 x.2.2
  len : x.2.2.length = n
  ne : ∀ b o n c, x.2.1 = .slice (some ⟨b, o, none⟩) n c → b ≠ g
theorem RtOk.one {w : World} {g n : Nat} {x : Rt} (h : RtOk w g n x) : x.2.1.oneCell' = true := by
  obtain ⟨a, c, e, _⟩ := h.rd
  rw [e]; rfl
theorem RtOk.kp {w w' : World} {g n : Nat} {x : Rt} (h : RtOk w g n x) (k : Tk.Kp (fun b => b = g) w w') : RtOk w' g n x :=
  ⟨rdi_kp h.rd k (fun b o n c e => h.ne b o n c e), h.len, h.ne⟩

set_option maxHeartbeats 1000000 in
theorem build1_c (x y : Int) (u v : Value) (hu : u.oneCell' = true) (hv : v.oneCell' = true) (w : World) :
    Calls Tryz.prog 57 #[.agg #[.int .i64 x, u], .agg #[.int .i64 y, v]] w fun e w' => e = .returned (.int .i64 (Tk.ci x y)) ∧ Tk.Gw w w' := by
  have cC := fun W => compare_g x y W
  have hcu : u.cells = #[u] := by first | exact Value.cells_of_oneCell' hu | (cases u <;> simp_all [Value.oneCell', Value.cells])
  have hcv : v.cells = #[v] := by first | exact Value.cells_of_oneCell' hv | (cases v <;> simp_all [Value.oneCell', Value.cells])
  go_enter Tryz.func57, Tryz.ntmps57
  go_wp2_with fail
  refine (cC _).mono ?_
  rintro e w' ⟨rfl, hg⟩
  go_wp2
  go_ret
  exact ⟨rfl, (((Tk.Gw.refl _).alloc _).alloc _).trans hg⟩
theorem find1_c (x y : Int) (u : Value) (hu : u.oneCell' = true) (w : World) :
    Calls Tryz.prog 83 #[.agg #[.int .i64 x, u], .int .i64 y] w fun e w' => e = .returned (.int .i64 (Tk.ci x y)) ∧ Tk.Gw w w' := by
  have cC := fun W => compare_g x y W
  have hcu : u.cells = #[u] := by first | exact Value.cells_of_oneCell' hu | (cases u <;> simp_all [Value.oneCell', Value.cells])
  go_enter Tryz.func83, Tryz.ntmps83
  go_wp2_with fail
  refine (cC _).mono ?_
  rintro e w' ⟨rfl, hg⟩
  go_wp2
  go_ret
  exact ⟨rfl, ((Tk.Gw.refl _).alloc _).trans hg⟩
theorem sortId_c {w : World} {g o cap n : Nat} {d : List Rt} (hd : RwAt w g o d) (hne : d ≠ []) (hlen : d.length ≤ 4000) (hok : ∀ x ∈ d, RtOk w g n x) :
    Calls Tryz.prog 56 #[.slice (some ⟨g, o, none⟩) d.length cap, .func (.func 57) #[] #[]] w fun e w' => e = .returned (.tuple #[]) ∧ ∃ d', d'.Perm d ∧ (d'.Pairwise fun x y => ¬ Tk.ci y.1 x.1 < 0) ∧ RwAt w' g o d' ∧ Srt w w' g o d.length :=
  sortR (cf := fun x y => Tk.ci x.1 y.1) (RtOk w g n) hd hne hlen hok (fun _ h => h.one) swoId (enters_of Tryz.func57 (by kernel_rfl) rfl)
    (fun W _ x y hx hy => build1_c _ _ _ _ hx.one hy.one W)
theorem sort_none (a : Option Addr) (cap : Nat) (fv : Value) (w : World) : Calls Tryz.prog 56 #[.slice a 0 cap, fv] w fun e w' => e = .returned (.tuple #[]) ∧ w' = w := by
  have hc := AnyF.slices_SortFunc_none Tryz.laidSortR a cap fv w
  exact hc

/-- The cells from o on of block g are these rows'. -/
def RwRd (w : World) (g o : Nat) (d : List Rt) : Prop := ∀ i (h : i < d.length), w.cell? ⟨g, o + i * 2, none⟩ = some (.int .i64 d[i].1) ∧ w.cell? ⟨g, o + i * 2 + 1, none⟩ = some d[i].2.1
theorem RwAt.rd {w : World} {g o : Nat} {d : List Rt} (h : RwAt w g o d) : RwRd w g o d := by
  obtain ⟨cur, h1, _, h3⟩ := h
  intro i hi
  exact ⟨cell_cur h1 (h3 i hi).1, cell_cur h1 (h3 i hi).2⟩
theorem flR_get (d : List Rt) (t : Nat) : (d.flatMap encR)[t]? = if h : t / 2 < d.length then (encR d[t / 2])[t % 2]? else none := by
  induction d generalizing t with
  | nil => simp
  | cons x r ih =>
    rw [List.flatMap_cons]
    by_cases h : t < 2
    · rw [List.getElem?_append_left (by simpa using h)]
      have h0 : t / 2 = 0 := by omega
      have h1 : t % 2 = t := by omega
      simp [h0, h1]
    · rw [List.getElem?_append_right (by simp; omega), show t - (encR x).length = t - 2 by rfl, ih]
      have h0 : t / 2 = (t - 2) / 2 + 1 := by omega
      have h1 : t % 2 = (t - 2) % 2 := by omega
      simp only [h0, h1, List.length_cons, Nat.add_lt_add_iff_right, List.getElem_cons_succ]
theorem flR_len (d : List Rt) : (d.flatMap encR).length = d.length * 2 := by
  induction d with
  | nil => rfl
  | cons x r ih => rw [List.flatMap_cons, List.length_append, ih, List.length_cons]; simp; omega
/-- What is owned, whole, as rows that lie in a block. -/
theorem rwAt_own {w : World} {B g n cap : Nat} {d : List Rt} (h : w.ownsRow B 43 2 (.slice (some ⟨g, 0, none⟩) n cap) d.length (d.flatMap encR)) : RwAt w g 0 d ∧ B ≤ g ∧ g < w.heap.size := by
  rcases h.2 with ⟨e, _⟩ | ⟨g', cap', cur, e, hB, hh, hle, _, hsz, htk⟩
  · cases e
  · cases e
    refine ⟨⟨cur, hh, by omega, fun i hi => ?_⟩, hB, (Array.getElem?_eq_some_iff.1 hh).1⟩
    have key : ∀ t, t < d.length * 2 → cur[t]? = (d.flatMap encR)[t]? := fun t ht => by
      rw [← htk, List.getElem?_take_of_lt ht, Array.getElem?_toList]
    rw [Nat.zero_add, key _ (by omega), key _ (by omega), flR_get, flR_get, show i * 2 / 2 = i by omega, show (i * 2 + 1) / 2 = i by omega, show i * 2 % 2 = 0 by omega, show (i * 2 + 1) % 2 = 1 by omega, dif_pos hi, dif_pos hi]
    exact ⟨rfl, rfl⟩
theorem cloneR_c {w : World} {g o cap : Nat} {d : List Rt} (hd : RwRd w g o d) (hlen : d.length ≤ 4000) (hone : ∀ x ∈ d, x.2.1.oneCell' = true) :
    Calls Tryz.prog 94 #[.slice (some ⟨g, o, none⟩) d.length cap] w fun e w' => ∃ g' cap', e = .returned (.slice (some ⟨g', 0, none⟩) d.length cap') ∧ w.heap.size ≤ g' ∧ g' < w'.heap.size ∧ RwAt w' g' 0 d ∧ Gb w w' ∧ w'.ownsRow w.heap.size 43 2 (.slice (some ⟨g', 0, none⟩) d.length cap') d.length (d.flatMap encR) := by
  obtain ⟨i0, hi0, hz0, hz1, hz2⟩ := info_partsW
  have hc := AnyE.slices_Clone Tryz.laidCloneR i0 (.agg #[.int .i64 0, .slice none 0 0]) 2 32 hi0 hz0 hz1 hz2 rfl (by omega) Tryz.sizeOf43 g o d.length cap (d.flatMap encR) w (flR_len d) (by simp only [maxLen]; omega) (by omega)
    (fun j u hu => by
      rw [flR_get] at hu
      split at hu
      · rename_i h
        obtain ⟨c0, c1⟩ := hd (j / 2) h
        rcases Nat.mod_two_eq_zero_or_one j with h0 | h0
        · rw [h0] at hu; cases hu; rw [show o + j = o + j / 2 * 2 by omega]; exact c0
        · rw [h0] at hu; cases hu; rw [show o + j = o + j / 2 * 2 + 1 by omega]; exact c1
      · cases hu)
    (fun u hu => by
      obtain ⟨x, hx, hu⟩ := List.mem_flatMap.1 hu
      simp only [encR, List.mem_cons, List.not_mem_nil, or_false] at hu
      rcases hu with rfl | rfl
      · rfl
      · exact hone x hx)
  change Calls Tryz.prog 94 _ _ _ at hc
  refine hc.mono ?_
  rintro e w' ⟨v', rfl, ho, hv, hb⟩
  rcases ho.2 with ⟨h1, _⟩ | ⟨g', cap', cur, rfl, _⟩
  · exact absurd h1 hv
  · obtain ⟨h1, h2, h3⟩ := rwAt_own ho
    exact ⟨g', cap', rfl, h2, h3, h1, hb, ho⟩
end Go.Proofs.YtepjbdklljlecaaGreat

/- A tree of parts in memory of its own. -/
namespace Go.Proofs.YtepjbdklljlecaaGreat
open Go.RowKit Go.Sort

theorem own_kpI {S : Nat → Prop} {w w' : World} {B : Nat} {v : Value} {l : List Int} (h : Own w B v l) (k : Tk.Kp S w w') (hn : ∀ g, v.ownBlock = some g → ¬ S g) : Own w' B v l := by
  refine ⟨h.1, ?_⟩
  rcases h.2 with h1 | ⟨g, cap, cur, e, hB, hh, r⟩
  · exact .inl h1
  · subst e
    exact .inr ⟨g, cap, cur, rfl, hB, by rw [k.block g (Array.getElem?_eq_some_iff.1 hh).1 (hn g rfl)]; exact hh, r⟩
theorem ownR_kp {S : Nat → Prop} {w w' : World} {B n : Nat} {v : Value} {xs : List Value} (h : w.ownsRow B 43 2 v n xs) (k : Tk.Kp S w w') (hn : ∀ g, v.ownBlock = some g → ¬ S g) : w'.ownsRow B 43 2 v n xs := by
  refine ⟨h.1, ?_⟩
  rcases h.2 with h1 | ⟨g, cap, cur, e, hB, hh, r⟩
  · exact .inl h1
  · subst e
    exact .inr ⟨g, cap, cur, rfl, hB, by rw [k.block g (Array.getElem?_eq_some_iff.1 hh).1 (hn g rfl)]; exact hh, r⟩
/-- What S tells is no block of numbers. -/
def NoInt (w : World) (S : Nat → Prop) : Prop := ∀ k, S k → ∀ cur s, w.heap[k]? ≠ some (.cells cur 3 s)
theorem own_noint {S : Nat → Prop} {w w' : World} {B : Nat} {v : Value} {l : List Int} (h : Own w B v l) (k : Tk.Kp S w w') (hS : NoInt w S) : Own w' B v l := by
  refine own_kpI h k (fun g hg hs => ?_)
  rcases h.2 with ⟨rfl, _⟩ | ⟨g', cap, cur, e, hB, hh, _⟩
  · cases hg
  · subst e
    cases hg
    exact hS _ hs _ _ hh

abbrev IqT : Nat → Prop := fun _ => True
/-- New blocks are among those that Iq tells. -/
def Up (Iq : Nat → Prop) (w : World) : Prop := ∀ k, w.heap.size ≤ k → Iq k
theorem upT (w : World) : Up IqT w := fun _ _ => trivial
theorem Up.le {Iq : Nat → Prop} {w w' : World} (h : Up Iq w) (s : w.heap.size ≤ w'.heap.size) : Up Iq w' := fun k hk => h k (Nat.le_trans s hk)
theorem Up.gb {Iq : Nat → Prop} {w w' : World} (h : Up Iq w) (g : Gb w w') : Up Iq w' := h.le g.size
/-- Numbers in a block that Iq tells. -/
structure OwnQ (Iq : Nat → Prop) (w : World) (v : Value) (l : List Int) : Prop where
  own : Own w 0 v l
  inn : ∀ g, v.ownBlock = some g → Iq g
theorem OwnQ.rd {Iq : Nat → Prop} {w : World} {v : Value} {l : List Int} (h : OwnQ Iq w v l) : RdI w v l := h.own.rd
theorem OwnQ.gb {Iq : Nat → Prop} {w w' : World} {v : Value} {l : List Int} (h : OwnQ Iq w v l) (g : Gb w w') : OwnQ Iq w' v l := ⟨h.own.gb g, h.inn⟩
theorem OwnQ.new {Iq : Nat → Prop} {w w' : World} {B : Nat} {v : Value} {l : List Int} (h : Own w' B v l) (up : Up Iq w) (hB : w.heap.size ≤ B) : OwnQ Iq w' v l := ⟨h.mono (Nat.zero_le _), fun g e => up g (Nat.le_trans hB (World.ownsRow.lt h g e).1)⟩
/-- What S tells is no block of numbers that Iq tells. -/
def NoI (Iq : Nat → Prop) (w : World) (S : Nat → Prop) : Prop := ∀ k, S k → Iq k → ∀ cur s, w.heap[k]? ≠ some (.cells cur 3 s)
theorem NoI.of {Iq : Nat → Prop} {w : World} {S : Nat → Prop} (h : NoInt w S) : NoI Iq w S := fun k hk _ => h k hk
theorem NoI.off {Iq : Nat → Prop} {w : World} {S : Nat → Prop} (h : ∀ k, S k → ¬ Iq k) : NoI Iq w S := fun k hk hi => absurd hi (h k hk)
theorem ownq_noi {Iq S : Nat → Prop} {w w' : World} {v : Value} {l : List Int} (h : OwnQ Iq w v l) (k : Tk.Kp S w w') (hS : NoI Iq w S) : OwnQ Iq w' v l := by
  refine ⟨own_kpI h.own k (fun g hg hs => ?_), h.inn⟩
  rcases h.own.2 with ⟨rfl, _⟩ | ⟨g', cap, cur, e, hB, hh, _⟩
  · cases hg
  · have hi := h.inn g hg
    subst e
    cases hg
    exact hS _ hs hi _ _ hh
theorem ownq_noint {Iq S : Nat → Prop} {w w' : World} {v : Value} {l : List Int} (h : OwnQ Iq w v l) (k : Tk.Kp S w w') (hS : NoInt w S) : OwnQ Iq w' v l := ownq_noi h k (NoI.of hS)
/-- Rows of the program's own, each with a vector of its own. -/
structure OwnRs (Iq : Nat → Prop) (w : World) (v : Value) (d : List Rt) : Prop where
  row : w.ownsRow 0 43 2 v d.length (d.flatMap encR)
  vec : ∀ x ∈ d, OwnQ Iq w x.2.1 x.2.2
  up : Up Iq w
theorem OwnRs.kq {Iq S : Nat → Prop} {w w' : World} {v : Value} {d : List Rt} (h : OwnRs Iq w v d) (k : Tk.Kp S w w') (hS : NoI Iq w S) (hn : ∀ g, v.ownBlock = some g → ¬ S g) : OwnRs Iq w' v d :=
  ⟨ownR_kp h.row k hn, fun x hx => ownq_noi (h.vec x hx) k hS, h.up.le k.size⟩
theorem OwnRs.kp {Iq : Nat → Prop} {S : Nat → Prop} {w w' : World} {v : Value} {d : List Rt} (h : OwnRs Iq w v d) (k : Tk.Kp S w w') (hS : NoInt w S) (hn : ∀ g, v.ownBlock = some g → ¬ S g) : OwnRs Iq w' v d :=
  h.kq k (NoI.of hS) hn
def kidV : Option Nat → Value
  | none => .pointer none
  | some b => .pointer (some ⟨b, 0, none⟩)
/-- A part in its block: a ball. -/
structure PcAt (Iq : Nat → Prop) (w : World) (b : Nat) (p : Pt) (vl vh vr : Value) : Prop where
  blk : w.heap[b]? = some (.cells #[.int .i64 3, vl, vh, .int .u64 (hi p.reg.R), .int .u64 (lo p.reg.R), .slice none 0 0, vr, .int .i64 p.cut.1, .int .u64 p.cut.2.1, .int .u64 p.cut.2.2, kidV (p.kids.map Prod.fst), kidV (p.kids.map Prod.snd)] 117 (0, 0))
  low : OwnQ Iq w vl p.reg.L
  high : OwnQ Iq w vh []
  ball : p.reg = ⟨3, p.reg.L, [], p.reg.R, []⟩ ∧ p.reg.R < 340282366920938463463374607431768211456
  up : Up Iq w
theorem PcAt.kq {Iq S : Nat → Prop} {w w' : World} {b : Nat} {p : Pt} {vl vh vr : Value} (h : PcAt Iq w b p vl vh vr) (k : Tk.Kp S w w') (hS : NoI Iq w S) (hn : ¬ S b) : PcAt Iq w' b p vl vh vr :=
  ⟨by rw [k.block b (Array.getElem?_eq_some_iff.1 h.blk).1 hn]; exact h.blk, ownq_noi h.low k hS, ownq_noi h.high k hS, h.ball, h.up.le k.size⟩
theorem PcAt.kp {Iq : Nat → Prop} {S : Nat → Prop} {w w' : World} {b : Nat} {p : Pt} {vl vh vr : Value} (h : PcAt Iq w b p vl vh vr) (k : Tk.Kp S w w') (hS : NoInt w S) (hn : ¬ S b) : PcAt Iq w' b p vl vh vr :=
  h.kq k (NoI.of hS) hn
/-- The part in block b, with all that lie below it, at most n deep, in the blocks F (where vectors are not told). -/
def TrO (Iq : Nat → Prop) (w : World) (T : Nat → Pt) : Nat → Nat → List Nat → Prop
  | 0, _, _ => False
  | n + 1, b, F => ∃ vl vh vr, PcAt Iq w b (T b) vl vh vr ∧ match (T b).kids with
    | none => ∃ d g, OwnRs Iq w vr d ∧ d.map rwR = (T b).rs ∧ vr.ownBlock = some g ∧ F = [b, g]
    | some (l, h) => vr = .slice none 0 0 ∧ ∃ F1 F2, TrO Iq w T n l F1 ∧ TrO Iq w T n h F2 ∧ F = b :: (F1 ++ F2)
theorem TrO.kq {Iq : Nat → Prop} {S : Nat → Prop} {w w' : World} {T : Nat → Pt} (k : Tk.Kp S w w') (hS : NoI Iq w S) : ∀ n b F, TrO Iq w T n b F → (∀ x ∈ F, ¬ S x) → TrO Iq w' T n b F
  | 0, _, _, h, _ => h
  | n + 1, b, F, h, hF => by
    obtain ⟨vl, vh, vr, hp, h⟩ := h
    refine ⟨vl, vh, vr, ?_⟩
    cases hk : (T b).kids with
    | none =>
      rw [hk] at h
      obtain ⟨d, g, h1, h2, h3, rfl⟩ := h
      exact ⟨hp.kq k hS (hF b (by simp)), d, g, h1.kq k hS (fun g' e => by rw [h3] at e; cases e; exact hF g (by simp)), h2, h3, rfl⟩
    | some lh =>
      obtain ⟨l, hh⟩ := lh
      rw [hk] at h
      obtain ⟨h0, F1, F2, h1, h2, rfl⟩ := h
      exact ⟨hp.kq k hS (hF b (by simp)), h0, F1, F2, TrO.kq k hS n l F1 h1 (fun x hx => hF x (by simp [hx])), TrO.kq k hS n hh F2 h2 (fun x hx => hF x (by simp [hx])), rfl⟩
theorem TrO.kp {Iq : Nat → Prop} {S : Nat → Prop} {w w' : World} {T : Nat → Pt} (k : Tk.Kp S w w') (hS : NoInt w S) : ∀ n b F, TrO Iq w T n b F → (∀ x ∈ F, ¬ S x) → TrO Iq w' T n b F :=
  TrO.kq k (NoI.of hS)
theorem TrO.up {Iq : Nat → Prop} {w : World} {T : Nat → Pt} : ∀ {n b : Nat} {F : List Nat}, TrO Iq w T n b F → Up Iq w
  | 0, _, _, h => h.elim
  | _ + 1, _, _, h => by
    obtain ⟨_, _, _, hp, _⟩ := h
    exact hp.up
theorem TrO.mem {Iq : Nat → Prop} {w : World} {T : Nat → Pt} : ∀ {n b : Nat} {F : List Nat}, TrO Iq w T n b F → b ∈ F ∧ ∀ x ∈ F, x < w.heap.size
  | 0, _, _, h => h.elim
  | n + 1, b, F, h => by
    obtain ⟨vl, vh, vr, hp, h⟩ := h
    have hb := (Array.getElem?_eq_some_iff.1 hp.blk).1
    cases hk : (T b).kids with
    | none =>
      rw [hk] at h
      obtain ⟨d, g, h1, h2, h3, rfl⟩ := h
      have := (h1.row.lt g h3).2
      exact ⟨by simp, fun x hx => by simp at hx; rcases hx with rfl | rfl <;> omega⟩
    | some lh =>
      obtain ⟨l, hh⟩ := lh
      rw [hk] at h
      obtain ⟨_, F1, F2, h1, h2, rfl⟩ := h
      have a1 := TrO.mem h1
      have a2 := TrO.mem h2
      refine ⟨by simp, fun x hx => ?_⟩
      simp at hx
      rcases hx with rfl | hx | hx
      · exact hb
      · exact a1.2 x hx
      · exact a2.2 x hx
/-- Only what T tells of the blocks F counts. -/
theorem TrO.congr {Iq : Nat → Prop} {w : World} {T T' : Nat → Pt} : ∀ n b F, TrO Iq w T n b F → (∀ x ∈ F, T' x = T x) → TrO Iq w T' n b F ∧ ∀ m, n ≤ m + 1 → ∀ d, rowsP T' m (T' b) = rowsP T m (T b) ∧ (OkP T' d m (T' b) ↔ OkP T d m (T b))
  | 0, _, _, h, _ => h.elim
  | n + 1, b, F, h, hF => by
    obtain ⟨vl, vh, vr, hp, h⟩ := h
    have eb : T' b = T b := hF b (by
      cases hk : (T b).kids with
      | none => rw [hk] at h; obtain ⟨d, g, _, _, _, rfl⟩ := h; simp
      | some lh => obtain ⟨l, hh⟩ := lh; rw [hk] at h; obtain ⟨_, F1, F2, _, _, rfl⟩ := h; simp)
    cases hk : (T b).kids with
    | none =>
      rw [hk] at h
      refine ⟨⟨vl, vh, vr, by rw [eb]; exact hp, by rw [eb, hk]; exact h⟩, fun m _ d => ?_⟩
      rw [eb]
      exact ⟨by rw [rowsP_leaf hk, rowsP_leaf hk], by rw [okP_leaf hk, okP_leaf hk]⟩
    | some lh =>
      obtain ⟨l, hh⟩ := lh
      rw [hk] at h
      obtain ⟨h0, F1, F2, h1, h2, rfl⟩ := h
      obtain ⟨a1, a2⟩ := TrO.congr n l F1 h1 (fun x hx => hF x (by simp [hx]))
      obtain ⟨b1, b2⟩ := TrO.congr n hh F2 h2 (fun x hx => hF x (by simp [hx]))
      refine ⟨⟨vl, vh, vr, by rw [eb]; exact hp, by rw [eb, hk]; exact ⟨h0, F1, F2, a1, b1, rfl⟩⟩, fun m hm d => ?_⟩
      rw [eb]
      cases m with
      | zero =>
        have : n = 0 := by omega
        subst this
        exact h1.elim
      | succ m =>
        obtain ⟨c1, c2⟩ := a2 m (by omega) d
        obtain ⟨d1, d2⟩ := b2 m (by omega) d
        refine ⟨by rw [rowsP_node hk, rowsP_node hk, c1, d1], ?_⟩
        rw [OkP, OkP, hk]
        dsimp only
        rw [c1, d1, c2, d2]

/-- What boxes that hold more rows say of fewer. -/
theorem BoxOk.sub {m : Nat} {p : Pt} {rs rs' : List Rw} (h : BoxOk m p rs) (hs : ∀ r ∈ rs', r ∈ rs) : BoxOk m p rs' := ⟨h.1, fun r hr => h.2 r (hs r hr)⟩
end Go.Proofs.YtepjbdklljlecaaGreat

/- (*vptree.part).hit: a row's hit for the ball's centre. -/
namespace Go.Proofs.YtepjbdklljlecaaGreat
open Go.RowKit Go.Sort Go.Maps

theorem vset_far {W : World} {p : Addr} {u : Value} {b o : Nat} {x : Value} (hp : b ≠ p.block) (h : W.cell? p = some u) : (W.setCell ⟨b, o, none⟩ x).cell? p = some u := (set_far2 hp hp ⟨h, h⟩).1
theorem vdist_ok {w : World} {u v : Value} {y c : List Int} {s : Int} (hu : RdI w u y) (hv : RdI w v c) (hy : chk y s = 0) (hc : chk c s = 0) :
    Calls Tryz.prog 106 #[u, v] w fun e w' => e = .returned (.tuple #[Wd (dst y c), .int .i64 0]) ∧ Gr w w' := by
  have h1 := chk_ok hy
  have e : distE y c = 0 := by unfold distE; rw [← h1.2.2.1, if_pos hy]; exact hc
  have e2 : distV y c = dst y c := by unfold distV; rw [if_pos e]
  have h := dist_c hu hv
  rw [e, e2] at h
  exact h
set_option maxHeartbeats 2000000 in
set_option maxRecDepth 100000 in
theorem hit_c {w : World} {pb : Nat} {cv u : Value} {C V : List Int} {d xi : Int} (hc : w.cell? ⟨pb, 1, none⟩ = some cv) (rc : RdI w cv C) (ru : RdI w u V) (kC : chk C d = 0) (kV : chk V d = 0) :
    Calls Tryz.prog 96 #[.pointer (some ⟨pb, 0, none⟩), .agg #[.int .i64 xi, u]] w fun e w' => e = .returned (Tk.hv (hitOf C (xi, V))) ∧ Gb w w' := by
  obtain ⟨W0, hW0⟩ : ∃ W0, W0 = (w.alloc (.cells #[.int .i64 xi, u] 43)).alloc (.cells #[.int .i64 0, .int .u64 0, .int .u64 0] 68) := ⟨_, rfl⟩
  have g0 : Gb w W0 := by rw [hW0]; exact gb_alloc (gb_alloc (Below.refl _ _) _) _
  have cd := fun W (g : Gb W0 W) => vdist_ok (rc.gb (gb_trans g0 g)) (ru.gb (gb_trans g0 g)) kC kV
  have HT : Hid (Tk.hv (hitOf C (xi, V)) = .agg #[.int .i64 xi, .int .u64 (hi (dst C V)), .int .u64 (lo (dst C V))]) := rfl
  have hc0 := gb_keeps g0 hc
  have PB : Hid (pb < W0.heap.size ∧ w.heap.size < W0.heap.size) := ⟨cell_lt hc0, by rw [hW0, World.size_alloc, World.size_alloc]; omega⟩
  obtain ⟨ca, cc, rfl, _⟩ := rc
  obtain ⟨ua, uc, rfl, _⟩ := ru
  have GD : Hid (Gb w W0.drew) := g0.drew
  have RS : Hid (W0.cell? ⟨w.heap.size, 0, none⟩ = some (.int .i64 xi) ∧ W0.cell? ⟨w.heap.size + 1, 0, none⟩ = some (.int .i64 0) ∧ W0.cell? ⟨w.heap.size + 1, 1, none⟩ = some (.int .u64 0) ∧ W0.cell? ⟨w.heap.size + 1, 2, none⟩ = some (.int .u64 0) ∧ W0.frozen? ⟨w.heap.size + 1, 0, none⟩ = false ∧ W0.frozen? ⟨w.heap.size + 1, 1, none⟩ = false ∧ W0.frozen? ⟨w.heap.size + 1, 2, none⟩ = false) := by
    unfold Hid
    rw [hW0]
    refine ⟨?_, ?_, ?_, ?_, ?_, ?_, ?_⟩ <;> simp [go_sem]
  have hu1 : W0.cell? ⟨w.heap.size, 1, none⟩ = some (.slice ua V.length uc) := by rw [hW0]; simp [go_sem]
  have FS : W0.drew.cell? ⟨pb, 1, none⟩ = some (.slice ca C.length cc) ∧ W0.drew.cell? ⟨w.heap.size, 1, none⟩ = some (.slice ua V.length uc) := ⟨hc0, hu1⟩
  generalize C.length = nc at *
  generalize V.length = nu at *
  generalize dst C V = ds at *
  clear hc hc0 hu1 g0 kC kV
  go_enter Tryz.func96, Tryz.ntmps96
  go_wp2_with fail
  rw [← hW0]
  clear hW0
  refine wp_region_held_drew (S := fun W => W.cell? ⟨pb, 1, none⟩ = some (.slice ca nc cc) ∧ W.cell? ⟨w.heap.size, 1, none⟩ = some (.slice ua nu uc)) (by kernel_rfl) (FS) (fun hHeld => ?_)
  refine wpAnyH_take (i := 0) (v := ?_) rfl (by kernel_rfl) (by kernel_rfl) (by kernel_rfl) (fun _ _ _ h => h) (Or.inl ⟨by rfl, ?_⟩) (by assumption) ?_
  rotate_left 1
  · (intro w hSw; (obtain ⟨s0, s1⟩ := hSw); go_simp; try with_reducible rfl)
  refine wpAnyH_take (i := 1) (v := ?_) rfl (by kernel_rfl) (by kernel_rfl) (by kernel_rfl) (fun _ _ _ h => h) (Or.inl ⟨by rfl, ?_⟩) (by assumption) ?_
  rotate_left 1
  · (intro w hSw; (obtain ⟨s0, s1⟩ := hSw); go_simp; try with_reducible rfl)
  refine wpAnyH_take (i := 2) (v := ?_) rfl (by kernel_rfl) (by kernel_rfl) (by kernel_rfl) (fun _ _ _ h => h) (Or.inl ⟨by rfl, ?_⟩) (by assumption) ?_
  rotate_left 1
  · (intro w hSw; (obtain ⟨s0, s1⟩ := hSw); go_simp; try with_reducible rfl)
  refine wpAnyH_take (i := 3) (v := ?_) rfl (by kernel_rfl) (by kernel_rfl) (by kernel_rfl) (fun _ _ _ h => h) (Or.inl ⟨by rfl, ?_⟩) (by assumption) ?_
  rotate_left 1
  · (intro w hSw; (obtain ⟨s0, s1⟩ := hSw); go_simp; try with_reducible rfl)
  refine wpAnyH_take (i := 4) (v := ?_) rfl (by kernel_rfl) (by kernel_rfl) (by kernel_rfl) (fun _ _ _ h => h) (Or.inl ⟨by rfl, ?_⟩) (by assumption) ?_
  rotate_left 1
  · (intro w hSw; (obtain ⟨s0, s1⟩ := hSw); go_simp; try with_reducible rfl)
  refine wpAnyH_take (i := 5) (v := ?_) rfl (by kernel_rfl) (by kernel_rfl) (by kernel_rfl) (fun _ _ _ h => h) (Or.inl ⟨by rfl, ?_⟩) (by assumption) ?_
  rotate_left 1
  · (intro w hSw; (obtain ⟨s0, s1⟩ := hSw); go_simp; try with_reducible rfl)
  refine wpAnyH_take (i := 6) (v := ?_) rfl (by kernel_rfl) (by kernel_rfl) (by kernel_rfl) (fun _ _ _ h => h) (Or.inl ⟨by rfl, ?_⟩) (by assumption) ?_
  rotate_left 1
  · (intro w hSw; (obtain ⟨s0, s1⟩ := hSw); go_simp; try with_reducible rfl)
  refine wpAnyH_ready (rs := [7, 11]) (by kernel_rfl) (by simp) ?_
  refine AllReadyH.cons rfl (fun K hK => ?_) (AllReadyH.cons rfl (fun K hK => ?_) AllReadyH.nil)
  · go_simp
    go_fit (cd W0.drew (Below.refl _ _).drew)
    rintro e w2 ⟨rfl, gk⟩
    refine hK.out _ _ (⟨gb_keeps gk.gb hHeld.1, gb_keeps gk.gb hHeld.2⟩) (fun hHeld => ?_)
    clear hK K
    refine wpAnyH_take (i := 8) (v := ?_) rfl (by kernel_rfl) (by kernel_rfl) (by kernel_rfl) (fun _ _ _ h => h) (Or.inl ⟨by rfl, ?_⟩) (by assumption) ?_
    rotate_left 1
    · (intro w hSw; (obtain ⟨s0, s1⟩ := hSw); go_simp; try with_reducible rfl)
    refine wpAnyH_take (i := 9) (v := ?_) rfl (by kernel_rfl) (by kernel_rfl) (by kernel_rfl) (fun _ _ _ h => h) (Or.inl ⟨by rfl, ?_⟩) (by assumption) ?_
    rotate_left 1
    · (intro w hSw; (obtain ⟨s0, s1⟩ := hSw); go_simp; try with_reducible rfl)
    refine wpAnyH_take (i := 10) (v := ?_) rfl (by kernel_rfl) (by kernel_rfl) (by kernel_rfl) (fun _ _ _ h => h) (Or.inl ⟨by rfl, ?_⟩) (by assumption) ?_
    rotate_left 1
    · (intro w hSw; (obtain ⟨s0, s1⟩ := hSw); go_simp; try with_reducible rfl)
    have HW := hHeld
    refine wpAnyH_ready (rs := [11]) (by kernel_rfl) (by simp) ?_
    refine AllReadyH.cons rfl (fun K hK => ?_) AllReadyH.nil
    go_simp
    refine hK.out _ _ (⟨alloc_keeps hHeld.1 _, alloc_keeps hHeld.2 _⟩) (fun hHeld => ?_)
    clear hK K
    refine wpAnyH_ready (rs := [12]) (by kernel_rfl) (by simp) ?_
    refine AllReadyH.cons rfl (fun K hK => ?_) AllReadyH.nil
    go_simp
    refine hK.out _ _ (⟨alloc_keeps HW.1 _, alloc_keeps HW.2 _⟩) (fun hHeld => ?_)
    clear hK K
    refine wpAnyH_take (i := 13) (v := ?_) rfl (by kernel_rfl) (by kernel_rfl) (by kernel_rfl) (fun _ _ _ h => h) (Or.inl ⟨by rfl, ?_⟩) (by assumption) ?_
    rotate_left 1
    · (intro w hSw; (obtain ⟨s0, s1⟩ := hSw); go_simp; try with_reducible rfl)
    refine wpAnyH_done (by kernel_rfl) ?_ _
    clear HW
    have gA : Gr W0.drew (w2.alloc (.cells #[.int .u64 (hi ds), .int .u64 (lo ds)] 66)) := gk.trans ((Gr.refl _).alloc _ _)
    obtain ⟨m0, m1, _, _⟩ : At2 (w2.alloc (.cells #[.int .u64 (hi ds), .int .u64 (lo ds)] 66)) w2.heap.size ds := At2.new w2 ds _
    have q0 := gA.keeps RS.out.1
    have q1 := gA.keeps RS.out.2.1
    have q2 := gA.keeps RS.out.2.2.1
    have q3 := gA.keeps RS.out.2.2.2.1
    have f1 := (gA.froz ⟨w.heap.size + 1, 0, none⟩).trans RS.out.2.2.2.2.1
    have f2 := (gA.froz ⟨w.heap.size + 1, 1, none⟩).trans RS.out.2.2.2.2.2.1
    have f3 := (gA.froz ⟨w.heap.size + 1, 2, none⟩).trans RS.out.2.2.2.2.2.2
    have GE : Hid (Gb w (w2.alloc (.cells #[.int .u64 (hi ds), .int .u64 (lo ds)] 66))) := gb_trans GD.out gA.gb
    clear hHeld gk gA FS
    go_wp2
    exact bodyPost_ret (v := .agg #[.int .i64 xi, .int .u64 (hi ds), .int .u64 (lo ds)]) (by simp [results, Tryz.results96, go_sem, q1, q2, q3]) rfl ⟨by rw [HT.out], by repeat (first | exact GE.out | refine gb_set ?_ (by simp) _)⟩
  · go_simp
    refine hK.out _ _ (⟨alloc_keeps hHeld.1 _, alloc_keeps hHeld.2 _⟩) (fun hHeld => ?_)
    clear hK K
    refine wpAnyH_ready (rs := [7]) (by kernel_rfl) (by simp) ?_
    refine AllReadyH.cons rfl (fun K hK => ?_) AllReadyH.nil
    go_simp
    go_fit (cd _ (gb_alloc (Below.refl _ _).drew _))
    rintro e w2 ⟨rfl, gk⟩
    refine hK.out _ _ (⟨gb_keeps gk.gb hHeld.1, gb_keeps gk.gb hHeld.2⟩) (fun hHeld => ?_)
    clear hK K
    refine wpAnyH_take (i := 8) (v := ?_) rfl (by kernel_rfl) (by kernel_rfl) (by kernel_rfl) (fun _ _ _ h => h) (Or.inl ⟨by rfl, ?_⟩) (by assumption) ?_
    rotate_left 1
    · (intro w hSw; (obtain ⟨s0, s1⟩ := hSw); go_simp; try with_reducible rfl)
    refine wpAnyH_take (i := 9) (v := ?_) rfl (by kernel_rfl) (by kernel_rfl) (by kernel_rfl) (fun _ _ _ h => h) (Or.inl ⟨by rfl, ?_⟩) (by assumption) ?_
    rotate_left 1
    · (intro w hSw; (obtain ⟨s0, s1⟩ := hSw); go_simp; try with_reducible rfl)
    refine wpAnyH_take (i := 10) (v := ?_) rfl (by kernel_rfl) (by kernel_rfl) (by kernel_rfl) (fun _ _ _ h => h) (Or.inl ⟨by rfl, ?_⟩) (by assumption) ?_
    rotate_left 1
    · (intro w hSw; (obtain ⟨s0, s1⟩ := hSw); go_simp; try with_reducible rfl)
    obtain ⟨n0, n1, n2, n3⟩ : At2 w2 W0.heap.size 0 := (At2.new W0.drew 0 _).gr gk
    refine wpAnyH_ready (rs := [12]) (by kernel_rfl) (by simp) ?_
    refine AllReadyH.cons rfl (fun K hK => ?_) AllReadyH.nil
    go_simp
    refine hK.out _ _ (⟨vset_far (Nat.ne_of_gt (id PB.out.1)) (vset_far (Nat.ne_of_gt (id PB.out.1)) hHeld.1), vset_far (Nat.ne_of_gt (id PB.out.2)) (vset_far (Nat.ne_of_gt (id PB.out.2)) hHeld.2)⟩) (fun hHeld => ?_)
    clear hK K
    refine wpAnyH_take (i := 13) (v := ?_) rfl (by kernel_rfl) (by kernel_rfl) (by kernel_rfl) (fun _ _ _ h => h) (Or.inl ⟨by rfl, ?_⟩) (by assumption) ?_
    rotate_left 1
    · (intro w hSw; (obtain ⟨s0, s1⟩ := hSw); go_simp; try with_reducible rfl)
    refine wpAnyH_done (by kernel_rfl) ?_ _
    have gA : Gr W0.drew ((w2.setCell ⟨W0.heap.size, 0, none⟩ (.int .u64 (hi ds))).setCell ⟨W0.heap.size, 1, none⟩ (.int .u64 (lo ds))) := ((((Gr.refl W0.drew).alloc _ _).trans gk).setCell (Nat.le_refl _) _).setCell (Nat.le_refl _) _
    obtain ⟨m0, m1, _, _⟩ : At2 ((w2.setCell ⟨W0.heap.size, 0, none⟩ (.int .u64 (hi ds))).setCell ⟨W0.heap.size, 1, none⟩ (.int .u64 (lo ds))) W0.heap.size ds := At2.set ((At2.new W0.drew 0 _).gr gk) ds
    have q0 := gA.keeps RS.out.1
    have q1 := gA.keeps RS.out.2.1
    have q2 := gA.keeps RS.out.2.2.1
    have q3 := gA.keeps RS.out.2.2.2.1
    have f1 := (gA.froz ⟨w.heap.size + 1, 0, none⟩).trans RS.out.2.2.2.2.1
    have f2 := (gA.froz ⟨w.heap.size + 1, 1, none⟩).trans RS.out.2.2.2.2.2.1
    have f3 := (gA.froz ⟨w.heap.size + 1, 2, none⟩).trans RS.out.2.2.2.2.2.2
    have GE : Hid (Gb w ((w2.setCell ⟨W0.heap.size, 0, none⟩ (.int .u64 (hi ds))).setCell ⟨W0.heap.size, 1, none⟩ (.int .u64 (lo ds)))) := gb_trans GD.out gA.gb
    clear hHeld gk gA FS
    go_wp2
    exact bodyPost_ret (v := .agg #[.int .i64 xi, .int .u64 (hi ds), .int .u64 (lo ds)]) (by simp [results, Tryz.results96, go_sem, q1, q2, q3]) rfl ⟨by rw [HT.out], by repeat (first | exact GE.out | refine gb_set ?_ (by simp) _)⟩
end Go.Proofs.YtepjbdklljlecaaGreat

/- The reference's Range. -/
namespace Go.Proofs.YtepjbdklljlecaaGreat
open Go.RowKit Go.Sort Go.Maps

end Go.Proofs.YtepjbdklljlecaaGreat

/- The reference's First and TopK. -/
namespace Go.Proofs.YtepjbdklljlecaaGreat
open Go.RowKit Go.Sort Go.Maps

end Go.Proofs.YtepjbdklljlecaaGreat

/- The reference's Sound: of an answer that is. -/
namespace Go.Proofs.YtepjbdklljlecaaGreat
open Go.RowKit Go.Sort Go.Maps

end Go.Proofs.YtepjbdklljlecaaGreat

/- theodolitekeep.Lend and Back; theodoliteref03.Dist. -/
namespace Go.Proofs.YtepjbdklljlecaaGreat
open Go.RowKit Go.Sort Go.Maps

/-- Numbers that were lent: block g, with the mark behind them. -/
def Lent (W : World) (B g : Nat) (l : List Int) : Prop := B ≤ g ∧ W.heap[g]? = some (.cells (l.map (Value.int .i64) ++ [Value.int .i64 (-77)]).toArray 3 (0, 0))
theorem Lent.gb {W W' : World} {B g : Nat} {l : List Int} (h : Lent W B g l) (k : Gb W W') : Lent W' B g l :=
  ⟨h.1, by rw [k.block g (Array.getElem?_eq_some_iff.1 h.2).1]; exact h.2⟩
theorem Lent.far {W W' : World} {B g g' : Nat} {l : List Int} (h : Lent W B g l) (k : W.grownBy W' (some g')) (hne : g ≠ g') : Lent W' B g l :=
  ⟨h.1, by rw [k.block g (Array.getElem?_eq_some_iff.1 h.2).1 (by simpa using hne)]; exact h.2⟩
theorem Lent.rd {W : World} {B g : Nat} {l : List Int} (h : Lent W B g l) : RdI W (.slice (some ⟨g, 0, none⟩) l.length (l.length + 1)) l := by
  refine ⟨_, _, rfl, fun i hi => ⟨g, 0, rfl, ?_⟩⟩
  simp only [World.cell?, h.2, Nat.zero_add]
  simp only [Option.isSome_none, Bool.false_eq_true, if_false, List.getElem?_toArray]
  rw [List.getElem?_append_left (by simpa using hi)]
  simp [hi]
theorem Lent.mark {W : World} {B g : Nat} {l : List Int} (h : Lent W B g l) : W.cell? ⟨g, l.length, none⟩ = some (.int .i64 (-77)) := by
  simp only [World.cell?, h.2]
  simp
theorem Lent.own {W : World} {B g : Nat} {l : List Int} (h : Lent W B g l) (hl : l.length ≤ 65536) : Own W B (.slice (some ⟨g, 0, none⟩) (l.length + 1) (l.length + 1)) (tab (fun i => if i < l.length then l[i]! else -77) (l.length + 1)) := by
  unfold Own
  rw [tab_len]
  refine ⟨by simp [tab], .inr ⟨g, _, _, rfl, h.1, h.2, Nat.le_refl _, by simp only [maxLen]; omega, by simp, ?_⟩⟩
  apply List.ext_getElem?
  intro t
  by_cases ht : t < l.length + 1
  · rw [Nat.mul_one, List.getElem?_take_of_lt ht]
    by_cases h2 : t < l.length
    · simp [tab, ht, h2]
    · have e : t = l.length := by omega
      subst e
      simp [tab]
  · rw [List.getElem?_eq_none (by simp; omega), List.getElem?_eq_none (by simp [tab]; omega)]

set_option maxHeartbeats 2000000 in
set_option maxRecDepth 100000 in
theorem lend_c {w : World} {u : Value} {l : List Int} (hu : RdI w u l) (hn : l.length ≤ 65536) :
    Calls Tryz.prog 31 #[u] w fun e w' => ∃ g, e = .returned (.slice (some ⟨g, 0, none⟩) l.length (l.length + 1)) ∧ Lent w' w.heap.size g l ∧ Gb w w' := by
  obtain ⟨a, cap, rfl, ha⟩ := hu
  obtain ⟨n, hN⟩ : ∃ n, n = l.length := ⟨_, rfl⟩
  have N : Hid (n = l.length) := hN
  obtain ⟨m, hM⟩ : ∃ m, m = n + 1 := ⟨_, rfl⟩
  have M : Hid (m = n + 1) := hM
  have hm : (n : Int) + 1 = (m : Int) := by omega
  have hnm : (n : Int) < (m : Int) := by omega
  have hnm2 : n ≤ m := by omega
  have hmb : m ≤ 65537 := by omega
  have hmk := run_make_row' (P := Tryz.prog) 41 3 (.int .i64 0) 8 Tryz.underlying41 Tryz.info3 rfl .i64 .i64 m (by omega) (by omega) w
  have hsz : (Tryz.prog.info? 3).map (·.size) = some 1 := by kernel_rfl
  have HR : Hid (∀ V : World, V.heap[w.heap.size]? = some (.cells (l.map (Value.int .i64) ++ [Value.int .i64 0]).toArray 3 (0, 0)) → Gb w V → V.cell? ⟨w.heap.size, n, none⟩ = some (.int .i64 0) ∧ V.frozen? ⟨w.heap.size, n, none⟩ = false ∧ Lent (V.setCell ⟨w.heap.size, n, none⟩ (.int .i64 (-77))) w.heap.size w.heap.size l ∧ Gb w (V.setCell ⟨w.heap.size, n, none⟩ (.int .i64 (-77)))) := by
    intro V hV hg
    refine ⟨?_, by simp [World.frozen?, hV], ⟨Nat.le_refl _, ?_⟩, gb_set hg (Nat.le_refl _) _⟩
    · rw [hN]; simp only [World.cell?, hV]; simp
    · rw [hN]
      simp only [World.setCell, Array.getElem?_modify, hV]
      simp
  have hmc : madeCells #[Value.int .i64 0] (0 + 1) = #[Value.int .i64 0] := by apply Array.ext'; rw [toList_madeCells_one]; rfl
  have G0 : Gb w (w.alloc (.cells (madeCells #[Value.int .i64 0] m) 3)) := gb_alloc (Below.refl _ _) _
  by_cases h0 : l.length = 0
  · have hl : l = [] := List.eq_nil_of_length_eq_zero h0
    have hnz : n = 0 := by omega
    have hVV := HR.out (w.alloc (.cells (madeCells #[Value.int .i64 0] m) 3)) (by rw [heap_alloc_new, hl, hM, hnz, hmc]; rfl) G0
    obtain ⟨c0, f0, L0, G1⟩ := hVV
    have F : Hid (Lent ((w.alloc (.cells (madeCells #[Value.int .i64 0] m) 3)).setCell ⟨w.heap.size, n, none⟩ (.int .i64 (-77))) w.heap.size w.heap.size l ∧ Gb w ((w.alloc (.cells (madeCells #[Value.int .i64 0] m) 3)).setCell ⟨w.heap.size, n, none⟩ (.int .i64 (-77)))) := ⟨L0, G1⟩
    rw [← hN, ← hM]
    have hmin : Nat.min n m = 0 := by rw [hnz]; exact Nat.zero_min _
    have hcp := run_copy_none (P := Tryz.prog) (w.alloc (.cells (madeCells #[Value.int .i64 0] m) 3)) 41 41 3 3 (some ⟨w.heap.size, 0, none⟩) a m m n cap Tryz.underlying41 hsz hmin
    clear HR L0 G1 G0 ha hN hM hn h0 hl hnz hmc hmin hsz
    generalize w.alloc (.cells (madeCells #[Value.int .i64 0] m) 3) = V at *
    go_enter Tryz.func31, Tryz.ntmps31
    go_wp2
    go_ret
    exact ⟨w.heap.size, rfl, F.out.1, F.out.2⟩
  · obtain ⟨b, o, ea, _⟩ := ha 0 (by omega)
    subst ea
    have hcs : (l.map (Value.int .i64)).length = Nat.min n m := by rw [List.length_map, ← hN]; exact (Nat.min_eq_left hnm2).symm
    have hsrc : ∀ j v, (l.map (Value.int .i64))[j]? = some v → (w.alloc (.cells (madeCells #[Value.int .i64 0] m) 3)).cell? ((⟨b, o, none⟩ : Addr).add j) = some v := by
      intro j v hj
      rw [List.getElem?_map] at hj
      obtain ⟨y, hy, rfl⟩ := Option.map_eq_some_iff.1 hj
      obtain ⟨hjl, hy⟩ := List.getElem?_eq_some_iff.1 hy
      obtain ⟨b', o', e, hc⟩ := ha j hjl
      cases e
      rw [Addr.add_lit]
      have := gb_keeps G0 hc
      rw [this, getElem!_pos l j hjl, hy]
    have hblk : (w.alloc (.cells (madeCells #[Value.int .i64 0] m) 3)).heap[w.heap.size]? = some (.cells (madeCells #[Value.int .i64 0] m) 3 (0, 0)) := heap_alloc_new _ _
    have hVV := HR.out ((w.alloc (.cells (madeCells #[Value.int .i64 0] m) 3)).setRow w.heap.size ((madeCells #[Value.int .i64 0] m).toList.take 0 ++ l.map (Value.int .i64) ++ (madeCells #[Value.int .i64 0] m).toList.drop (0 + (l.map (Value.int .i64)).length)).toArray) (by
      rw [setRow_heap _ _ _ _ _ _ hblk]
      congr 2
      rw [toList_madeCells_one, List.length_map, Nat.zero_add, ← hN, hM]
      simp) (below_setRow G0 (Nat.le_refl _) _)
    obtain ⟨c0, f0, L0, G1⟩ := hVV
    have hcp := run_copy_row (P := Tryz.prog) (w.alloc (.cells (madeCells #[Value.int .i64 0] m) 3)) 41 41 3 3 w.heap.size 0 m m ⟨b, o, none⟩ n cap _ 3 (l.map (Value.int .i64)) Tryz.underlying41 hsz hblk hcs hsrc (by rw [size_madeCells, List.length_map]; omega) (ints_oneCell .i64 l)
    generalize hV : (w.alloc (.cells (madeCells #[Value.int .i64 0] m) 3)).setRow w.heap.size ((madeCells #[Value.int .i64 0] m).toList.take 0 ++ l.map (Value.int .i64) ++ (madeCells #[Value.int .i64 0] m).toList.drop (0 + (l.map (Value.int .i64)).length)).toArray = V at *
    rw [List.length_map, ← hN] at hcp
    have F : Hid (Lent (V.setCell ⟨w.heap.size, n, none⟩ (.int .i64 (-77))) w.heap.size w.heap.size l ∧ Gb w (V.setCell ⟨w.heap.size, n, none⟩ (.int .i64 (-77)))) := ⟨L0, G1⟩
    rw [← hN, ← hM]
    clear HR L0 G1 G0 ha hN hM hn h0 hcs hsrc hblk hmc hV hsz
    go_enter Tryz.func31, Tryz.ntmps31
    go_wp2
    go_ret
    exact ⟨w.heap.size, rfl, F.out.1, F.out.2⟩
end Go.Proofs.YtepjbdklljlecaaGreat
