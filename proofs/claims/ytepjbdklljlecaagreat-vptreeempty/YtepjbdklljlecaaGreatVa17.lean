import Derived.Test.YtepjbdklljlecaaGreatVa15
import Derived.Lib.SliceRun
import Derived.Test.YtepjbdklljlecaaGreatVa16
import Derived.Test.YtepjbdklljlecaaGreatVa9
/- slices.DeleteFunc at rows, one of which has the id. -/
namespace Go.Proofs.YtepjbdklljlecaaGreat
open Go.RowKit Go.Sort

theorem RwAt.gb {w W : World} {g o : Nat} {d : List Rt} (h : RwAt w g o d) (k : Gb w W) : RwAt W g o d := h.gbv k
theorem RwAt.set {W : World} {g o i : Nat} {D : List Rt} (h : RwAt W g o D) (hi : i < D.length) (x : Rt) : RwAt ((W.setCell ⟨g, o + i * 2, none⟩ (.int .i64 x.1)).setCell ⟨g, o + i * 2 + 1, none⟩ x.2.1) g o (D.set i x) := by
  obtain ⟨cur, h1, h2, h3⟩ := h
  refine ⟨(cur.setIfInBounds (o + i * 2) (.int .i64 x.1)).setIfInBounds (o + i * 2 + 1) x.2.1, ?_, by simpa using h2, fun t ht => ?_⟩
  · simp [World.setCell, Array.getElem?_modify, h1]
  · rw [List.length_set] at ht
    rw [List.getElem_set]
    by_cases e : i = t
    · subst e
      rw [if_pos rfl]
      constructor
      · rw [Array.getElem?_setIfInBounds_ne (by omega), Array.getElem?_setIfInBounds_self_of_lt (by omega)]
      · rw [Array.getElem?_setIfInBounds_self_of_lt (by simp; omega)]
    · rw [if_neg e]
      obtain ⟨a, b⟩ := h3 t ht
      constructor
      · rw [Array.getElem?_setIfInBounds_ne (by omega), Array.getElem?_setIfInBounds_ne (by omega)]; exact a
      · rw [Array.getElem?_setIfInBounds_ne (by omega), Array.getElem?_setIfInBounds_ne (by omega)]; exact b
/-- The rows while those behind i0 move up: i have been laid. -/
def mixL (d : List Rt) (i0 i : Nat) : List Rt := (d.eraseIdx i0).take i ++ d.drop i
theorem mixL_len {d : List Rt} {i0 i : Nat} (h0 : i0 < d.length) (hi : i < d.length) : (mixL d i0 i).length = d.length := by
  unfold mixL
  rw [List.length_append, List.length_take, List.length_drop, List.length_eraseIdx_of_lt h0]
  omega
theorem mixL_start {d : List Rt} {i0 : Nat} (h0 : i0 < d.length) : mixL d i0 i0 = d := by
  unfold mixL
  rw [List.eraseIdx_eq_take_drop_succ, List.take_append_of_le_length (by rw [List.length_take]; omega), List.take_take, Nat.min_self, List.take_append_drop]
theorem clear_one {W : World} {g p c : Nat} {ty : TypeId} {cur : Array Value} (h : W.heap[g]? = some (.cells cur 43 (0, 0))) (hp : p + 1 < cur.size) :
    (Builtin.clear_ #[22] ty #[.slice (some ⟨g, p, none⟩) 1 c]).run Tryz.prog W = .ok (.tuple #[]) (W.setCells g p [.int .i64 0, .slice none 0 0]) := by
  have hc : ∀ j, j < 2 → (W.cell? ⟨g, p + j, none⟩).isSome = true := fun j hj => by
    rw [cell_cur h (Array.getElem?_eq_getElem (show p + j < cur.size by omega))]; rfl
  have hf : ∀ j, j < 2 → W.frozen? ⟨g, p + j, none⟩ = false := fun j _ => by simp [World.frozen?, h]
  have hst := run_storeCells_cells (P := Tryz.prog) g p [.int .i64 0, .slice none 0 0] 0 W (by simpa using hc) (by simpa using hf) (by intro v hv; simp only [List.mem_cons, List.not_mem_nil, or_false] at hv; rcases hv with rfl | rfl <;> rfl)
  simp only [Nat.add_zero] at hst
  have hzc : (Builtin.zeroCells (Value.agg #[.int .i64 0, .slice none 0 0]).cells 1).toList = [.int .i64 0, .slice none 0 0] := by first | kernel_rfl | decide | simp [Builtin.zeroCells, Value.cells]
  simp [Builtin.clear_, run_underlying Tryz.underlying22, hzc, hst]
theorem mixL_get {d : List Rt} {i0 i : Nat} (h0 : i0 < d.length) (hi : i + 1 < d.length) : (mixL d i0 i)[i + 1]'(by rw [mixL_len h0 (by omega)]; exact hi) = d[i + 1] := by
  unfold mixL
  rw [List.getElem_append_right (by rw [List.length_take, List.length_eraseIdx_of_lt h0]; omega), List.getElem_drop]
  congr 1
  rw [List.length_take, List.length_eraseIdx_of_lt h0]
  omega
theorem mixL_next {d : List Rt} {i0 i : Nat} (h0 : i0 < d.length) (hi0 : i0 ≤ i) (hi : i + 1 < d.length) : (mixL d i0 i).set i d[i + 1] = mixL d i0 (i + 1) := by
  have hl := mixL_len h0 (show i < d.length by omega)
  have hl2 := mixL_len h0 hi
  apply List.ext_getElem (by rw [List.length_set, hl, hl2])
  intro t h1 h2
  rw [List.length_set, hl] at h1
  have hel : (d.eraseIdx i0).length = d.length - 1 := List.length_eraseIdx_of_lt h0
  have key : ∀ (j : Nat) (hj : j < d.length) (ht : t < (mixL d i0 j).length), (mixL d i0 j)[t] = if h : t < j then (d.eraseIdx i0)[t]'(by omega) else d[t] := by
    intro j hj ht
    unfold mixL at ht ⊢
    by_cases c : t < j
    · rw [dif_pos c, List.getElem_append_left (by rw [List.length_take]; omega), List.getElem_take]
    · rw [dif_neg c, List.getElem_append_right (by rw [List.length_take]; omega), List.getElem_drop]
      congr 1
      rw [List.length_take]; omega
  rw [List.getElem_set, key (i + 1) hi h2]
  by_cases e : i = t
  · subst e
    rw [if_pos rfl, dif_pos (by omega), List.getElem_eraseIdx, dif_neg (by omega)]
  · rw [if_neg e, key i (by omega) (by rw [hl]; exact h1)]
    by_cases c : t < i
    · rw [dif_pos c, dif_pos (by omega)]
    · rw [dif_neg c, dif_neg (by omega)]

/-- What DeleteFunc tells where row i0 has the id. -/
def DelOut (w : World) (g n cap i0 : Nat) (d : List Rt) (e : Ending) (w' : World) : Prop := e = .returned (.slice (some ⟨g, 0, none⟩) (n - 1) cap) ∧ RwAt w' g 0 (d.eraseIdx i0) ∧ Tk.Kp (fun b => b = g) w w'
set_option maxHeartbeats 1000000 in
set_option maxRecDepth 100000 in
theorem delf_c {w : World} {g cap cb i0 : Nat} {d : List Rt} (hd : RwAt w g 0 d) (hone : ∀ x ∈ d, x.2.1.oneCell' = true) (hn : d.length ≤ 4000) (hcap : d.length ≤ cap) (hcb : cb ≠ g) (id : Int) (hc : w.cell? ⟨cb, 0, none⟩ = some (.int .i64 id)) (h0 : i0 < d.length) (hid : d[i0].1 = id) (hnd : (d.map (·.1)).Pairwise (· ≠ ·)) :
    Calls Tryz.prog 117 #[.slice (some ⟨g, 0, none⟩) d.length cap, .func (.func 118) #[] #[.pointer (some ⟨cb, 0, none⟩)]] w fun e w' => DelOut w g d.length cap i0 d e w' := by
  have cI := idx_c (cap := cap) hd.rd hone hn id hc
  rw [List.pairwise_iff_getElem] at hnd
  have ND : Hid (∀ t (h : t < d.length), t ≠ i0 → d[t].1 ≠ id) := fun t h hne e => by
    rcases Nat.lt_or_gt_of_ne hne with c | c
    · have := hnd t i0 (by simpa using h) (by simpa using h0) c; simp only [List.getElem_map] at this; omega
    · have := hnd i0 t (by simpa using h0) (by simpa using h) c; simp only [List.getElem_map] at this; omega
  have HD : Hid (RwAt w g 0 d ∧ (∀ x ∈ d, x.2.1.oneCell' = true) ∧ w.cell? ⟨cb, 0, none⟩ = some (.int .i64 id) ∧ i0 < d.length ∧ d.length ≤ cap ∧ cb ≠ g) := ⟨hd, hone, hc, h0, hcap, hcb⟩
  have IX : Hid (∀ e w', IxOut d id w e w' → e = .returned (.int .i64 (i0 : Int)) ∧ Tk.Gw w w') := fun e w' h => by
    rcases h.2 with ⟨_, h2⟩ | ⟨i, hi, h2, h3, _⟩
    · exact absurd hid (h2 i0 h0)
    · by_cases e0 : i = i0
      · subst e0; exact ⟨h2, h.1⟩
      · exact absurd h3 (ND.out i hi e0)
  obtain ⟨n, hN⟩ : ∃ n, n = d.length := ⟨_, rfl⟩
  have N : Hid (n = d.length) := hN
  rw [← hN] at hn cI h0 hcap ⊢
  clear hd hone hc hnd hid hN
  go_enter Tryz.func117, Tryz.ntmps117
  go_wp2_with fail
  go_fit cI
  intro e w1 hO
  obtain ⟨rfl, g1⟩ := IX.out _ _ hO
  have hneg : ((i0 : Int) == -1) = false := by rw [beq_eq_false_iff_ne]; omega
  have X0 : Hid (RwAt w1 g 0 (mixL d i0 i0) ∧ Tk.Kp (fun b => b = g) w w1) := ⟨by rw [mixL_start HD.out.2.2.2.1]; exact HD.out.1.gb g1.gr, Tk.Kp.of_gr g1.gr⟩
  clear cI hO IX g1
  go_wp2
  go_loopw [5, 6] (fun iv jv W => ∃ i j : Nat, iv = .int .i64 (i : Int) ∧ jv = .int .i64 (j : Int) ∧ j = i + 1 ∧ i0 ≤ i ∧ j ≤ n ∧ Hid (RwAt W g 0 (mixL d i0 i) ∧ Tk.Kp (fun b => b = g) w W)) (fun _ jv _ => n - (intOf jv).toNat)
  case atStart => exact ⟨i0, i0 + 1, rfl, by first | rfl | go_num, rfl, Nat.le_refl _, by omega, X0⟩
  case round =>
    clear X0
    obtain ⟨i, j, rfl, rfl, hji, hi0, hjn, X⟩ := hrel
    by_cases hlt : j < n
    · have hlti : (j : Int) < (n : Int) := by omega
      have hm : i + 1 < d.length := by have := N.out; omega
      have hml := mixL_len HD.out.2.2.2.1 (show i < d.length by omega)
      obtain ⟨k1, k2⟩ := X.out.1.rd (i + 1) (by rw [hml]; exact hm)
      rw [mixL_get HD.out.2.2.2.1 hm] at k1 k2
      have ho := HD.out.2.1 _ (List.getElem_mem hm)
      have hne := ND.out (i + 1) hm (by omega)
      obtain ⟨x, hx⟩ : ∃ x, x = d[i + 1] := ⟨_, rfl⟩
      rw [← hx] at k1 k2 ho hne
      rw [← hji, Nat.zero_add] at k1 k2
      have NX : Hid (∀ W, RwAt W g 0 (mixL d i0 i) → RwAt ((W.setCell ⟨g, i * 2, none⟩ (.int .i64 x.1)).setCell ⟨g, i * 2 + 1, none⟩ x.2.1) g 0 (mixL d i0 (i + 1))) := fun W h => by
        have := h.set (i := i) (by rw [hml]; omega) x
        rw [hx, mixL_next HD.out.2.2.2.1 hi0 hm] at this
        rw [Nat.zero_add] at this
        rw [hx]; exact this
      obtain ⟨xi, u, xl⟩ := x
      dsimp only at k1 k2 ho hne NX
      have hcu : u.cells = #[u] := by first | exact Value.cells_of_oneCell' ho | (cases u <;> simp_all [Value.oneCell', Value.cells])
      have hst := fun W (a : Addr) => run_store Tryz.prog W a u .plain ho
      have hb : (xi == id) = false := by rw [beq_eq_false_iff_ne]; exact hne
      have cF := rem11_c xi id u ho (w := wr.alloc (.cells #[.int .i64 xi, u] 43)) (cb := cb) (gb_keeps (gb_alloc (Below.refl _ _) _) (X.out.2.cell HD.out.2.2.1 HD.out.2.2.2.2.2))
      rw [hb] at cF
      have hgl := X.out.1.lt
      have ST : Hid (∀ W, Tk.Gw (wr.alloc (.cells #[.int .i64 xi, u] 43)) W → (∃ a b, W.cell? ⟨g, i * 2, none⟩ = some a ∧ W.cell? ⟨g, i * 2 + 1, none⟩ = some b) ∧ (W.frozen? ⟨g, i * 2, none⟩ = false ∧ W.frozen? ⟨g, i * 2 + 1, none⟩ = false) ∧ (W.cell? ⟨wr.heap.size, 0, none⟩ = some (.int .i64 xi) ∧ W.cell? ⟨wr.heap.size, 1, none⟩ = some u) ∧ RwAt W g 0 (mixL d i0 i) ∧ Tk.Kp (fun b => b = g) w W) := fun W hg => by
        have gW : Gb wr W := gb_trans (gb_alloc (Below.refl _ _) _) hg.gr
        have r := X.out.1.gb gW
        obtain ⟨q1, q2⟩ := r.rd i (by rw [hml]; omega)
        rw [Nat.zero_add] at q1 q2
        obtain ⟨cur, hcur, _⟩ := r
        exact ⟨⟨_, _, q1, q2⟩, ⟨by simp [World.frozen?, hcur], by simp [World.frozen?, hcur]⟩, ⟨gb_keeps hg.gr (by simp [go_sem]), gb_keeps hg.gr (by simp [go_sem])⟩, X.out.1.gb gW, X.out.2.trans (Tk.Kp.of_gr gW)⟩
      have hii : (i : Int) < (n : Int) := by omega
      have HJ : Hid (j = i + 1) := hji
      clear hx hm hml hne hb X hji
      go_wp2_with fail
      go_fit cF
      rintro e w' ⟨rfl, hg⟩
      obtain ⟨⟨qa, qb, q1, q2⟩, ⟨f1, f2⟩, ⟨y1, y2⟩, r', kp'⟩ := ST.out _ hg
      have XN : Hid (RwAt ((w'.setCell ⟨g, i * 2, none⟩ (.int .i64 xi)).setCell ⟨g, i * 2 + 1, none⟩ u) g 0 (mixL d i0 (i + 1)) ∧ Tk.Kp (fun b => b = g) w ((w'.setCell ⟨g, i * 2, none⟩ (.int .i64 xi)).setCell ⟨g, i * 2 + 1, none⟩ u)) := ⟨NX.out _ r', (kp'.setCell (.inl rfl) _).setCell (.inl rfl) _⟩
      clear cF hg ST NX r' kp' k1 k2
      go_wp2
      go_roundw
      case rel => exact ⟨i + 1, j + 1, by first | rfl | go_num, by first | rfl | go_num, by have := HJ.out; omega, by omega, hlt, XN⟩
      case measure => simp [intOf]; omega
    · have hlti : ¬ (j : Int) < (n : Int) := by omega
      have e : n = i + 1 := by omega
      have hml := mixL_len HD.out.2.2.2.1 (show i < d.length by have := N.out; omega)
      obtain ⟨cur, hcur, hsz, _⟩ := X.out.1
      rw [hml, ← N.out, Nat.zero_add] at hsz
      have hcl := fun (c : Nat) (ty : TypeId) => clear_one (c := c) (ty := ty) (p := i * 2) hcur (by omega)
      have FD : Hid (DelOut w g n cap i0 d (.returned (.slice (some ⟨g, 0, none⟩) i cap)) (wr.setCells g (i * 2) [.int .i64 0, .slice none 0 0])) := by
        refine ⟨by rw [e]; rfl, ?_, ?_⟩
        · have h1 := (X.out.1.set (i := i) (by rw [hml, ← N.out]; omega) ((0 : Int), Value.slice none 0 0, ([] : List Int))).take (n := i)
          rw [Nat.zero_add] at h1
          have h2 : ((mixL d i0 i).set i ((0 : Int), Value.slice none 0 0, ([] : List Int))).take i = d.eraseIdx i0 := by
            have hel : (d.eraseIdx i0).length = d.length - 1 := List.length_eraseIdx_of_lt HD.out.2.2.2.1
            rw [List.take_set_of_le (Nat.le_refl _)]
            unfold mixL
            rw [List.take_append_of_le_length (by rw [List.length_take, hel]; have := N.out; omega), List.take_take, Nat.min_self, List.take_of_length_le (by rw [hel]; have := N.out; omega)]
          rw [h2] at h1
          exact h1
        · exact (X.out.2.setCell (.inl rfl) _).setCell (.inl rfl) _
      have hcc : ¬ cap = i := by have := HD.out.2.2.2.2.1; have := N.out; omega
      have hic : (i : Int) ≤ (n : Int) := by omega
      have hicp : (i : Int) ≤ (cap : Int) := by have := HD.out.2.2.2.2.1; have := N.out; omega
      have hni : n - i = 1 := by omega
      clear X hcur hsz hml e hji
      go_wp2
      go_ret
      exact FD.out
end Go.Proofs.YtepjbdklljlecaaGreat

/- slices.Delete at rows: one of them. -/
namespace Go.Proofs.YtepjbdklljlecaaGreat
open Go.RowKit Go.Sort

theorem del_cells {xs ys : List Value} {a k N : Nat} {cur c1 c2 : Array Value} (ha : a + k ≤ xs.length) (hN : N = xs.length - k) (hx : ∀ t, t < xs.length → cur[t]? = xs[t]?)
    (h1 : ∀ t, c1[t]? = if a ≤ t ∧ t < a + (xs.drop (a + k)).length then (xs.drop (a + k))[t - a]? else cur[t]?)
    (h2 : ∀ t, c2[t]? = if N ≤ t ∧ t < N + ys.length then ys[t - N]? else c1[t]?) : c2.toList.take N = xs.take a ++ xs.drop (a + k) := by
  rw [List.length_drop] at h1
  apply List.ext_getElem?
  intro t
  have hl1 : (xs.take a).length = a := by rw [List.length_take]; omega
  by_cases ht : t < N
  · rw [List.getElem?_take_of_lt ht, Array.getElem?_toList, h2 t, if_neg (by omega), h1 t]
    by_cases c : t < a
    · rw [if_neg (by omega), hx t (by omega), List.getElem?_append_left (by omega), List.getElem?_take_of_lt c]
    · rw [if_pos (by omega), List.getElem?_append_right (by omega), hl1]
  · rw [List.getElem?_eq_none (by rw [List.length_take]; omega), List.getElem?_eq_none (by rw [List.length_append, hl1, List.length_drop]; omega)]
theorem setCells_nil (w : World) (g o : Nat) : w.setCells g o [] = w := rfl
set_option maxHeartbeats 4000000 in
set_option maxRecDepth 100000 in
theorem delX_c {w : World} {g n cap i : Nat} {xs : List Value} (h : w.ownsRow 0 43 2 (.slice (some ⟨g, 0, none⟩) n cap) n xs) (hi : i < n) (hn : n ≤ 4000) (h1c : ∀ v ∈ xs, v.oneCell' = true) :
    Calls Tryz.prog 84 #[.slice (some ⟨g, 0, none⟩) n cap, .int .i64 (i : Int), .int .i64 ((i + 1 : Nat) : Int)] w fun e w' => e = .returned (.slice (some ⟨g, 0, none⟩) (n - 1) cap) ∧ w'.ownsRow 0 43 2 (.slice (some ⟨g, 0, none⟩) (n - 1) cap) (n - 1) (xs.take (i * 2) ++ xs.drop ((i + 1) * 2)) ∧ Tk.Kp (fun b => b = g) w w' := by
  obtain ⟨hxl, h⟩ := h
  rcases h with ⟨e, _⟩ | ⟨g', cap', cur, e, _, hg, hle, hmx, hsz, htk⟩
  · cases e
  cases e
  obtain ⟨i0, hi0, _, hzs, _⟩ := info_insR
  have mixed : Tryz.prog.follows Departure.mixedOrders = true := by kernel_rfl
  have hmx2 : cap ≤ 9223372036854775807 := by unfold maxLen at hmx; omega
  have hcs : ∀ j v, xs[j]? = some v → w.cell? ⟨g, j, none⟩ = some v := fun j v hj => by
    have hjl := (List.getElem?_eq_some_iff.1 hj).1
    rw [← htk, List.getElem?_take_of_lt (by omega), Array.getElem?_toList] at hj
    simp [World.cell?, hg, hj]
  have hdl : (xs.drop ((i + 1) * 2)).length = (n - (i + 1)) * 2 := by rw [List.length_drop, hxl]; omega
  have hap : ∀ (ty : TypeId) (a : Addr) (c : Nat), (i + 1 < n → a = ⟨g, (i + 1) * 2, none⟩) → (Builtin.append_ #[22, 22] ty #[.slice (some ⟨g, 0, none⟩) i cap, .slice (some a) (n - (i + 1)) c]).run Tryz.prog w.drew = .ok (.slice (some ⟨g, 0, none⟩) (n - 1) cap) (w.drew.setCells g (i * 2) (xs.drop ((i + 1) * 2))) := fun ty a c ha => by
    have := run_append_room_cells (P := Tryz.prog) w.drew 22 ty 43 i0 Tryz.underlying22 hi0 g 0 i cap a (n - (i + 1)) c (xs.drop ((i + 1) * 2)) (by rw [hdl, hzs]) (fun j u hj => by
      have hlt := (List.getElem?_eq_some_iff.1 hj).1
      rw [hdl] at hlt
      rw [ha (by omega), Addr.add_lit]
      exact hcs _ u (by rwa [List.getElem?_drop] at hj)) (fun v hv => h1c v (List.mem_of_mem_drop hv)) (by omega)
      (fun j hj => by rw [hdl] at hj; rw [hzs]; exact some_setCells g _ _ hg (by omega)) (fun j hj => by simp [World.frozen?, show w.drew.heap[g]? = _ from hg])
    rw [hzs, show i + (n - (i + 1)) = n - 1 by omega, Nat.zero_add] at this
    exact this
  obtain ⟨c1, e1, s1, f1⟩ := setCells_heap g 43 (0, 0) (xs.drop ((i + 1) * 2)) (i * 2) w.drew cur hg (by rw [hdl]; omega)
  have hcl := fun (c : Nat) (ty : TypeId) => clear_one (c := c) (ty := ty) (p := (n - 1) * 2) e1 (by omega)
  have FD : Hid (w.drew.setCells g (i * 2) (xs.drop ((i + 1) * 2)) |>.setCells g ((n - 1) * 2) [.int .i64 0, .slice none 0 0] |>.ownsRow 0 43 2 (.slice (some ⟨g, 0, none⟩) (n - 1) cap) (n - 1) (xs.take (i * 2) ++ xs.drop ((i + 1) * 2))) := by
    obtain ⟨c2, e2, s2, f2⟩ := setCells_heap g 43 (0, 0) [.int .i64 0, .slice none 0 0] ((n - 1) * 2) _ c1 e1 (by simp; omega)
    refine ⟨by rw [List.length_append, hdl, List.length_take]; omega, .inr ⟨g, cap, c2, rfl, Nat.zero_le _, e2, by omega, hmx, by omega, ?_⟩⟩
    have ee : (i + 1) * 2 = i * 2 + 2 := by omega
    rw [ee] at f1 ⊢
    exact del_cells (by omega) (by omega) (fun t ht => by rw [← htk, List.getElem?_take_of_lt (by omega), Array.getElem?_toList]) f1 f2
  have FK : Hid (Tk.Kp (fun b => b = g) w ((w.drew.setCells g (i * 2) (xs.drop ((i + 1) * 2))).setCells g ((n - 1) * 2) [.int .i64 0, .slice none 0 0])) := by
    have k0 : Tk.Kp (fun b => b = g) w w.drew := ⟨rfl, rfl, rfl, Nat.le_refl _, fun _ _ _ => rfl⟩
    exact kp_setCells (S := fun b => b = g) (.inl rfl) _ _ _ (kp_setCells (S := fun b => b = g) (.inl rfl) _ _ _ k0)
  have hz2 : ¬ ((i : Int) = (i : Int) + 1) := by omega
  have hb1 : (i : Int) + 1 ≤ (n : Int) := by omega
  have hb5 : (i : Int) ≤ (i : Int) + 1 := by omega
  have hb6 : (0 : Int) ≤ (i : Int) + 1 := by omega
  have hb2 : (n : Int) ≤ (cap : Int) := by omega
  have hb3 : (i : Int) ≤ (cap : Int) := by omega
  have hb4 : (i : Int) ≤ (n : Int) := by omega
  have hcn : ¬ cap = n - 1 := by omega
  have hci : ¬ cap = i := by omega
  have hnn : n - (n - 1) = 1 := by omega
  have hn1 : 1 ≤ n := by omega
  have hni : ¬ n = i := by omega
  have hii : i ≤ i + 1 := by omega
  have hdr : n = i + 1 → xs.drop ((i + 1) * 2) = [] := fun e => List.drop_of_length_le (by omega)
  clear hg htk hxl hcs hdl hsz hi0 hzs e1 s1 f1 hmx h1c
  by_cases hcc : cap = i + 1
  · have hin : n = i + 1 := by omega
    have hap2 := fun ty c => hap ty ⟨g, 0, none⟩ c (fun e => by omega)
    clear hap
    subst hcc hin
    simp only [Nat.sub_self, Nat.add_sub_cancel, hdr rfl, setCells_nil] at hap2 hcl FD FK ⊢
    clear hdr
    go_enter Tryz.func84, Tryz.ntmps84
    go_wp2
    go_region_law_o (refine step_append_k rfl _ _ 22 22 rfl _ _ (by simp [Act.eval, Act.put]) (by simp [Act.eval, Act.put]) (hap2 _ _) ?_)
    go_wp2
    go_ret
    exact ⟨rfl, FD.out, FK.out⟩
  · have hap2 := fun ty c => hap ty ⟨g, (i + 1) * 2, none⟩ c (fun _ => rfl)
    clear hap
    go_enter Tryz.func84, Tryz.ntmps84
    go_wp2
    go_region_law_o (refine step_append_k rfl _ _ 22 22 rfl (.slice (some ⟨g, 0, none⟩) i cap) (.slice (some ⟨g, (i + 1) * 2, none⟩) (n - (i + 1)) (cap - (i + 1))) (by simp [Act.eval, Act.put]) (by simp [Act.eval, Act.put]) (hap2 22 (cap - (i + 1))) ?_)
    go_wp2
    go_ret
    exact ⟨rfl, FD.out, FK.out⟩
end Go.Proofs.YtepjbdklljlecaaGreat

/- Slices of hits that are read; the reference's Same. -/
namespace Go.Proofs.YtepjbdklljlecaaGreat.Tk
open Go.RowKit Go.Sort
attribute [local go_sem ↓] Go.wp_at_zero Go.wp_at_succ

/-- These hits lie in block b from o on. -/
def Lies (w : World) (b o : Nat) (l : List Ht) : Prop := ∀ i, i < l.length →
  w.cell? ⟨b, o + i * 3, none⟩ = some (.int .i64 l[i]!.id) ∧ w.cell? ⟨b, o + i * 3 + 1, none⟩ = some (.int .u64 l[i]!.hi) ∧ w.cell? ⟨b, o + i * 3 + 2, none⟩ = some (.int .u64 l[i]!.lo)
/-- The slice v reads as these hits. -/
def Rd (w : World) (v : Value) (l : List Ht) : Prop := (v = .slice none 0 0 ∧ l = []) ∨ (∃ a cap, v = .slice (some a) 0 cap ∧ l = []) ∨ ∃ b o cap, v = .slice (some ⟨b, o, none⟩) l.length cap ∧ Lies w b o l
theorem Lies.gr {w w' : World} {b o : Nat} {l : List Ht} (h : Lies w b o l) (g : Gr w w') : Lies w' b o l := fun i hi => by
  obtain ⟨h0, h1, h2⟩ := h i hi; exact ⟨gr_keeps g h0, gr_keeps g h1, gr_keeps g h2⟩
theorem Lies.kp {S : Nat → Prop} {w w' : World} {b o : Nat} {l : List Ht} (h : Lies w b o l) (g : Kp S w w') (hn : ¬ S b) : Lies w' b o l := fun i hi => by
  obtain ⟨h0, h1, h2⟩ := h i hi; exact ⟨g.cell h0 hn, g.cell h1 hn, g.cell h2 hn⟩
theorem Rd.gr {w w' : World} {v : Value} {l : List Ht} (h : Rd w v l) (g : Gr w w') : Rd w' v l := by
  rcases h with h | h | ⟨b, o, cap, e2, h⟩
  · exact .inl h
  · exact .inr (.inl h)
  · exact .inr (.inr ⟨b, o, cap, e2, h.gr g⟩)
theorem own_lies {w : World} {g n cap : Nat} {d : Array Ht} (h : Own w (.slice (some ⟨g, 0, none⟩) n cap) d) : Lies w g 0 d.toList := fun i hi => by
  have hi' : i < d.size := by simpa using hi
  have := own_cell h hi'
  rw [Nat.zero_add]
  have e : d.toList[i]! = d[i]! := by rw [getElem!_pos d.toList i hi, getElem!_pos d i hi']; simp
  rw [e]; exact this
theorem Rd.form {w : World} {v : Value} {l : List Ht} (h : Rd w v l) : ∃ a cap, v = .slice a l.length cap ∧ ∀ i, i < l.length → ∃ b o, a = some ⟨b, o, none⟩ ∧ Lies w b o l := by
  rcases h with ⟨rfl, rfl⟩ | ⟨a, cap, rfl, rfl⟩ | ⟨b, o, cap, rfl, h⟩
  · exact ⟨none, 0, rfl, fun i hi => absurd hi (Nat.not_lt_zero _)⟩
  · exact ⟨_, cap, rfl, fun i hi => absurd hi (Nat.not_lt_zero _)⟩
  · exact ⟨_, cap, rfl, fun _ _ => ⟨b, o, rfl, h⟩⟩

theorem hv_in (x y : Ht) (W : World) : (Op.equalIn 10000 68 (hv x) (hv y)).run Tryz.prog W = .ok (decide (x = y)) W := by
  have u3 := Tryz.underlying3
  have a3 := Tryz.isAgg3
  have z3 := Tryz.sizeOf3
  have u22 := Tryz.underlying23
  have a22 := Tryz.isAgg23
  have z22 := Tryz.sizeOf23
  have a24 := Tryz.isAgg66
  have z24 := Tryz.sizeOf66
  have hS : Tryz.prog.underlying 68 = some (.struct (Tryz.prog.fieldsOf 68)) := by kernel_rfl
  have hp : Tryz.prog.stoodInHeld 68 = false := by kernel_rfl
  have hS2 : Tryz.prog.underlying 66 = some (.struct (Tryz.prog.fieldsOf 66)) := by kernel_rfl
  have hp2 : Tryz.prog.stoodInHeld 66 = false := by kernel_rfl
  have h24 : ∀ (a b c d : Int) W, (Op.equalIn 9999 66 (.agg #[.int .u64 a, .int .u64 b]) (.agg #[.int .u64 c, .int .u64 d])).run Tryz.prog W = .ok (a == c && b == d) W := by
    intro a b c d W
    rw [show (9999 : Nat) = 9998 + 1 from rfl, run_equalIn_agg W 9998 66 _ _ hS2 hp2]
    simp only [Program.fieldsOf, Tryz.underlying66]
    go_simp
    by_cases h1 : a = c <;> by_cases h2 : b = d <;> simp [h1, h2]
  rw [show (10000 : Nat) = 9999 + 1 from rfl, run_equalIn_agg W 9999 68 _ _ hS hp]
  simp only [Program.fieldsOf, Tryz.underlying68]
  go_simp
  obtain ⟨a, b, c⟩ := x
  obtain ⟨a', b', c'⟩ := y
  by_cases h1 : a = a' <;> by_cases h2 : b = b' <;> by_cases h3 : c = c' <;> simp [h1, h2, h3]
theorem hv_ne (x y : Ht) (W : World) : (binOp .neq 68 (hv x) (hv y)).run Tryz.prog W = .ok (.bool (!decide (x = y))) W := by
  rw [run_neq_struct, hv_in]; rfl

set_option maxHeartbeats 2000000 in
set_option maxRecDepth 100000 in
theorem same_c {w : World} {u v : Value} {l m : List Ht} (hu : Rd w u l) (hv' : Rd w v m) (hlen : l.length ≤ 4000) :
    Calls Tryz.prog 22 #[u, v] w fun e w' => e = .returned (.bool (decide (l = m))) ∧ Gr w w' := by
  obtain ⟨a, ca, rfl, ha⟩ := hu.form
  obtain ⟨b, cb, rfl, hb⟩ := hv'.form
  clear hu hv'
  by_cases hlm : l.length = m.length
  · have A : Hid (∀ i, i < l.length → ∃ b o, a = some ⟨b, o, none⟩ ∧ Lies w b o l) := ha
    have B : Hid (∀ i, i < m.length → ∃ b' o, b = some ⟨b', o, none⟩ ∧ Lies w b' o m) := hb
    have L : Hid (l.length = m.length) := hlm
    rw [← hlm]
    obtain ⟨n, hN⟩ : ∃ n, n = l.length := ⟨_, rfl⟩
    have N : Hid (n = l.length) := hN
    rw [← hN] at hlen ⊢
    clear ha hb hlm hN
    go_enter Tryz.func22, Tryz.ntmps22
    go_wp2
    go_loopw [5] (fun iv w' => ∃ q : Nat, iv = .int .i64 (q : Int) ∧ q ≤ n ∧ Hid (l.take q = m.take q ∧ Gr w w')) (fun iv _ => n - (intOf iv).toNat)
    case atStart => exact ⟨0, rfl, Nat.zero_le _, ⟨by simp, Below.refl _ _⟩⟩
    case round =>
      obtain ⟨q, rfl, hq, X⟩ := hrel
      by_cases hqn : q < n
      · obtain ⟨b1, o1, ea, h1⟩ := A.out q (by have := N.out; omega)
        obtain ⟨b2, o2, eb, h2⟩ := B.out q (by have := L.out; have := N.out; omega)
        obtain ⟨x0, x1, x2⟩ := (h1.gr X.out.2) q (by have := N.out; omega)
        obtain ⟨y0, y1, y2⟩ := (h2.gr X.out.2) q (by have := L.out; have := N.out; omega)
        subst ea; subst eb
        have Q : Hid (q < l.length ∧ q < m.length) := ⟨by have := N.out; omega, by have := L.out; have := N.out; omega⟩
        obtain ⟨x, hx⟩ : ∃ x, x = l[q]! := ⟨_, rfl⟩
        obtain ⟨y, hy⟩ : ∃ y, y = m[q]! := ⟨_, rfl⟩
        have XY : Hid (x = l[q]! ∧ y = m[q]!) := ⟨hx, hy⟩
        rw [← hx] at x0 x1 x2
        rw [← hy] at y0 y1 y2
        clear hx hy h1 h2
        have hne := fun W => hv_ne x y W
        by_cases hxy : x = y
        · have E : Hid (x = y) := hxy
          rw [decide_eq_true hxy] at hne
          clear hxy
          go_wp2
          go_quiet (fail)
          go_wp2
          go_roundw
          case rel =>
            refine ⟨q + 1, by simp, hqn, ⟨?_, X.out.2.trans (below_drewN (Below.refl _ _) _)⟩⟩
            obtain ⟨e1, e2⟩ := XY.out
            have e3 := E.out
            rw [e1, e2, getElem!_pos l q Q.out.1, getElem!_pos m q Q.out.2] at e3
            rw [List.take_succ_eq_append_getElem Q.out.1, List.take_succ_eq_append_getElem Q.out.2, X.out.1, e3]
          case measure => simp [intOf]; omega
        · have E : Hid (l ≠ m) := by
            intro e
            obtain ⟨e1, e2⟩ := XY.out
            exact hxy (by rw [e1, e2, e])
          rw [decide_eq_false hxy] at hne
          have R : Hid (decide (l = m) = false) := decide_eq_false E.out
          clear hxy
          go_wp2
          go_quiet (fail)
          go_wp2
          go_ret
          exact ⟨by rw [R.out]; rfl, X.out.2.trans (below_drewN (Below.refl _ _) _)⟩
      · have R : Hid (decide (l = m) = true) := by
          have e := X.out.1
          have h1 := N.out
          have h2 := L.out
          rw [List.take_of_length_le (by omega), List.take_of_length_le (by omega)] at e
          exact decide_eq_true e
        go_wp2
        go_ret
        exact ⟨by rw [R.out]; rfl, X.out.2⟩
  · have R : Hid (decide (l = m) = false) := decide_eq_false (fun e => hlm (by rw [e]))
    have hne : ((l.length : Int) == (m.length : Int)) = false := by rw [beq_eq_false_iff_ne]; omega
    generalize l.length = n1 at *
    generalize m.length = n2 at *
    clear ha hb hlm
    go_enter Tryz.func22, Tryz.ntmps22
    go_wp2
    go_ret
    exact ⟨by rw [R.out]; rfl, Below.refl _ _⟩
end Go.Proofs.YtepjbdklljlecaaGreat.Tk
