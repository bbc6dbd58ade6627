import Derived.Test.YtbnljabeccebiaaGreatKr20
import Derived.Lib.SliceRun
import Derived.Test.YtbnljabeccebiaaGreatKr19
/- slices.DeleteFunc at rows, one of which has the id. -/
namespace Go.Proofs.YtbnljabeccebiaaGreat
open Go.RowKit Go.Sort

theorem RwAt.set {W : World} {g o i : Nat} {D : List Rt} (h : RwAt W g o D) (hi : i < D.length) (x : Rt) : RwAt ((W.setCell ⟨g, o + i * 2, none⟩ (.int .i64 x.1)).setCell ⟨g, o + i * 2 + 1, none⟩ x.2.1) g o (D.set i x) := by
  obtain ⟨cur, h1, h2, h3⟩ := h
  refine ⟨(cur.setIfInBounds (o + i * 2) (.int .i64 x.1)).setIfInBounds (o + i * 2 + 1) x.2.1, ?_, by simpa using h2, fun t ht => ?_⟩
  · simp [World.setCell, Array.getElem?_modify, h1]
  · rw [List.length_set] at ht
    rw [List.getElem_set]
    by_cases e : i = t
    · subst e
      rw [if_pos rfl]
      constructor
      · rw [Array.getElem?_setIfInBounds_ne (by omega), Array.getElem?_setIfInBounds_self_of_lt (by omega)]
      · rw [Array.getElem?_setIfInBounds_self_of_lt (by simp; omega)]
    · rw [if_neg e]
      obtain ⟨a, b⟩ := h3 t ht
      constructor
      · rw [Array.getElem?_setIfInBounds_ne (by omega), Array.getElem?_setIfInBounds_ne (by omega)]; exact a
      · rw [Array.getElem?_setIfInBounds_ne (by omega), Array.getElem?_setIfInBounds_ne (by omega)]; exact b
/-- The rows while those behind i0 move up: i have been laid. -/
def mixL (d : List Rt) (i0 i : Nat) : List Rt := (d.eraseIdx i0).take i ++ d.drop i
theorem mixL_len {d : List Rt} {i0 i : Nat} (h0 : i0 < d.length) (hi : i < d.length) : (mixL d i0 i).length = d.length := by
  unfold mixL
  rw [List.length_append, List.length_take, List.length_drop, List.length_eraseIdx_of_lt h0]
  omega
theorem mixL_start {d : List Rt} {i0 : Nat} (h0 : i0 < d.length) : mixL d i0 i0 = d := by
  unfold mixL
  rw [List.eraseIdx_eq_take_drop_succ, List.take_append_of_le_length (by rw [List.length_take]; omega), List.take_take, Nat.min_self, List.take_append_drop]
theorem clear_one {W : World} {g p c : Nat} {ty : TypeId} {cur : Array Value} (h : W.heap[g]? = some (.cells cur 43 (0, 0))) (hp : p + 1 < cur.size) :
    (Builtin.clear_ #[22] ty #[.slice (some ⟨g, p, none⟩) 1 c]).run Tryz.prog W = .ok (.tuple #[]) (W.setCells g p [.int .i64 0, .slice none 0 0]) := by
  have hc : ∀ j, j < 2 → (W.cell? ⟨g, p + j, none⟩).isSome = true := fun j hj => by
    rw [cell_cur h (Array.getElem?_eq_getElem (show p + j < cur.size by omega))]; rfl
  have hf : ∀ j, j < 2 → W.frozen? ⟨g, p + j, none⟩ = false := fun j _ => by simp [World.frozen?, h]
  have hst := run_storeCells_cells (P := Tryz.prog) g p [.int .i64 0, .slice none 0 0] 0 W (by simpa using hc) (by simpa using hf) (by intro v hv; simp only [List.mem_cons, List.not_mem_nil, or_false] at hv; rcases hv with rfl | rfl <;> rfl)
  simp only [Nat.add_zero] at hst
  have hzc : (Builtin.zeroCells (Value.agg #[.int .i64 0, .slice none 0 0]).cells 1).toList = [.int .i64 0, .slice none 0 0] := by first | kernel_rfl | decide | simp [Builtin.zeroCells, Value.cells]
  simp [Builtin.clear_, run_underlying Tryz.underlying22, hzc, hst]
theorem mixL_get {d : List Rt} {i0 i : Nat} (h0 : i0 < d.length) (hi : i + 1 < d.length) : (mixL d i0 i)[i + 1]'(by rw [mixL_len h0 (by omega)]; exact hi) = d[i + 1] := by
  unfold mixL
  rw [List.getElem_append_right (by rw [List.length_take, List.length_eraseIdx_of_lt h0]; omega), List.getElem_drop]
  congr 1
  rw [List.length_take, List.length_eraseIdx_of_lt h0]
  omega
theorem mixL_next {d : List Rt} {i0 i : Nat} (h0 : i0 < d.length) (hi0 : i0 ≤ i) (hi : i + 1 < d.length) : (mixL d i0 i).set i d[i + 1] = mixL d i0 (i + 1) := by
  have hl := mixL_len h0 (show i < d.length by omega)
  have hl2 := mixL_len h0 hi
  apply List.ext_getElem (by rw [List.length_set, hl, hl2])
  intro t h1 h2
  rw [List.length_set, hl] at h1
  have hel : (d.eraseIdx i0).length = d.length - 1 := List.length_eraseIdx_of_lt h0
  have key : ∀ (j : Nat) (hj : j < d.length) (ht : t < (mixL d i0 j).length), (mixL d i0 j)[t] = if h : t < j then (d.eraseIdx i0)[t]'(by omega) else d[t] := by
    intro j hj ht
    unfold mixL at ht ⊢
    by_cases c : t < j
    · rw [dif_pos c, List.getElem_append_left (by rw [List.length_take]; omega), List.getElem_take]
    · rw [dif_neg c, List.getElem_append_right (by rw [List.length_take]; omega), List.getElem_drop]
      congr 1
      rw [List.length_take]; omega
  rw [List.getElem_set, key (i + 1) hi h2]
  by_cases e : i = t
  · subst e
    rw [if_pos rfl, dif_pos (by omega), List.getElem_eraseIdx, dif_neg (by omega)]
  · rw [if_neg e, key i (by omega) (by rw [hl]; exact h1)]
    by_cases c : t < i
    · rw [dif_pos c, dif_pos (by omega)]
    · rw [dif_neg c, dif_neg (by omega)]

/-- What DeleteFunc tells where row i0 has the id. -/
def DelOut (w : World) (g n cap i0 : Nat) (d : List Rt) (e : Ending) (w' : World) : Prop := e = .returned (.slice (some ⟨g, 0, none⟩) (n - 1) cap) ∧ RwAt w' g 0 (d.eraseIdx i0) ∧ Tk.Kp (fun b => b = g) w w'
set_option maxHeartbeats 1000000 in
set_option maxRecDepth 100000 in
theorem delf_c {w : World} {g cap cb i0 : Nat} {d : List Rt} (hd : RwAt w g 0 d) (hone : ∀ x ∈ d, x.2.1.oneCell' = true) (hn : d.length ≤ 4000) (hcap : d.length ≤ cap) (hcb : cb ≠ g) (id : Int) (hc : w.cell? ⟨cb, 0, none⟩ = some (.int .i64 id)) (h0 : i0 < d.length) (hid : d[i0].1 = id) (hnd : (d.map (·.1)).Pairwise (· ≠ ·)) :
    Calls Tryz.prog 85 #[.slice (some ⟨g, 0, none⟩) d.length cap, .func (.func 86) #[] #[.pointer (some ⟨cb, 0, none⟩)]] w fun e w' => DelOut w g d.length cap i0 d e w' := by
  have cI := idx_c (cap := cap) hd.rd hone hn id hc
  rw [List.pairwise_iff_getElem] at hnd
  have ND : Hid (∀ t (h : t < d.length), t ≠ i0 → d[t].1 ≠ id) := fun t h hne e => by
    rcases Nat.lt_or_gt_of_ne hne with c | c
    · have := hnd t i0 (by simpa using h) (by simpa using h0) c; simp only [List.getElem_map] at this; omega
    · have := hnd i0 t (by simpa using h0) (by simpa using h) c; simp only [List.getElem_map] at this; omega
  have HD : Hid (RwAt w g 0 d ∧ (∀ x ∈ d, x.2.1.oneCell' = true) ∧ w.cell? ⟨cb, 0, none⟩ = some (.int .i64 id) ∧ i0 < d.length ∧ d.length ≤ cap ∧ cb ≠ g) := ⟨hd, hone, hc, h0, hcap, hcb⟩
  have IX : Hid (∀ e w', IxOut d id w e w' → e = .returned (.int .i64 (i0 : Int)) ∧ Tk.Gw w w') := fun e w' h => by
    rcases h.2 with ⟨_, h2⟩ | ⟨i, hi, h2, h3, _⟩
    · exact absurd hid (h2 i0 h0)
    · by_cases e0 : i = i0
      · subst e0; exact ⟨h2, h.1⟩
      · exact absurd h3 (ND.out i hi e0)
  obtain ⟨n, hN⟩ : ∃ n, n = d.length := ⟨_, rfl⟩
  have N : Hid (n = d.length) := hN
  rw [← hN] at hn cI h0 hcap ⊢
  clear hd hone hc hnd hid hN
  go_enter Tryz.func85, Tryz.ntmps85
  go_wp2_with fail
  go_fit cI
  intro e w1 hO
  obtain ⟨rfl, g1⟩ := IX.out _ _ hO
  have hneg : ((i0 : Int) == -1) = false := by rw [beq_eq_false_iff_ne]; omega
  have X0 : Hid (RwAt w1 g 0 (mixL d i0 i0) ∧ Tk.Kp (fun b => b = g) w w1) := ⟨by rw [mixL_start HD.out.2.2.2.1]; exact HD.out.1.gb g1.gr, Tk.Kp.of_gr g1.gr⟩
  clear cI hO IX g1
  go_wp2
  go_loopw [5, 6] (fun iv jv W => ∃ i j : Nat, iv = .int .i64 (i : Int) ∧ jv = .int .i64 (j : Int) ∧ j = i + 1 ∧ i0 ≤ i ∧ j ≤ n ∧ Hid (RwAt W g 0 (mixL d i0 i) ∧ Tk.Kp (fun b => b = g) w W)) (fun _ jv _ => n - (intOf jv).toNat)
  case atStart => exact ⟨i0, i0 + 1, rfl, by first | rfl | go_num, rfl, Nat.le_refl _, by omega, X0⟩
  case round =>
    clear X0
    obtain ⟨i, j, rfl, rfl, hji, hi0, hjn, X⟩ := hrel
    by_cases hlt : j < n
    · have hlti : (j : Int) < (n : Int) := by omega
      have hm : i + 1 < d.length := by have := N.out; omega
      have hml := mixL_len HD.out.2.2.2.1 (show i < d.length by omega)
      obtain ⟨k1, k2⟩ := X.out.1.rd (i + 1) (by rw [hml]; exact hm)
      rw [mixL_get HD.out.2.2.2.1 hm] at k1 k2
      have ho := HD.out.2.1 _ (List.getElem_mem hm)
      have hne := ND.out (i + 1) hm (by omega)
      obtain ⟨x, hx⟩ : ∃ x, x = d[i + 1] := ⟨_, rfl⟩
      rw [← hx] at k1 k2 ho hne
      rw [← hji, Nat.zero_add] at k1 k2
      have NX : Hid (∀ W, RwAt W g 0 (mixL d i0 i) → RwAt ((W.setCell ⟨g, i * 2, none⟩ (.int .i64 x.1)).setCell ⟨g, i * 2 + 1, none⟩ x.2.1) g 0 (mixL d i0 (i + 1))) := fun W h => by
        have := h.set (i := i) (by rw [hml]; omega) x
        rw [hx, mixL_next HD.out.2.2.2.1 hi0 hm] at this
        rw [Nat.zero_add] at this
        rw [hx]; exact this
      obtain ⟨xi, u, xl⟩ := x
      dsimp only at k1 k2 ho hne NX
      have hcu : u.cells = #[u] := by first | exact Value.cells_of_oneCell' ho | (cases u <;> simp_all [Value.oneCell', Value.cells])
      have hst := fun W (a : Addr) => run_store Tryz.prog W a u .plain ho
      have hb : (xi == id) = false := by rw [beq_eq_false_iff_ne]; exact hne
      have cF := rem11_c xi id u ho (w := wr.alloc (.cells #[.int .i64 xi, u] 43)) (cb := cb) (gb_keeps (gb_alloc (Below.refl _ _) _) (X.out.2.cell HD.out.2.2.1 HD.out.2.2.2.2.2))
      rw [hb] at cF
      have hgl := X.out.1.lt
      have ST : Hid (∀ W, Tk.Gw (wr.alloc (.cells #[.int .i64 xi, u] 43)) W → (∃ a b, W.cell? ⟨g, i * 2, none⟩ = some a ∧ W.cell? ⟨g, i * 2 + 1, none⟩ = some b) ∧ (W.frozen? ⟨g, i * 2, none⟩ = false ∧ W.frozen? ⟨g, i * 2 + 1, none⟩ = false) ∧ (W.cell? ⟨wr.heap.size, 0, none⟩ = some (.int .i64 xi) ∧ W.cell? ⟨wr.heap.size, 1, none⟩ = some u) ∧ RwAt W g 0 (mixL d i0 i) ∧ Tk.Kp (fun b => b = g) w W) := fun W hg => by
        have gW : Gb wr W := gb_trans (gb_alloc (Below.refl _ _) _) hg.gr
        have r := X.out.1.gb gW
        obtain ⟨q1, q2⟩ := r.rd i (by rw [hml]; omega)
        rw [Nat.zero_add] at q1 q2
        obtain ⟨cur, hcur, _⟩ := r
        exact ⟨⟨_, _, q1, q2⟩, ⟨by simp [World.frozen?, hcur], by simp [World.frozen?, hcur]⟩, ⟨gb_keeps hg.gr (by simp [go_sem]), gb_keeps hg.gr (by simp [go_sem])⟩, X.out.1.gb gW, X.out.2.trans (Tk.Kp.of_gr gW)⟩
      have hii : (i : Int) < (n : Int) := by omega
      have HJ : Hid (j = i + 1) := hji
      clear hx hm hml hne hb X hji
      go_wp2_with fail
      go_fit cF
      rintro e w' ⟨rfl, hg⟩
      obtain ⟨⟨qa, qb, q1, q2⟩, ⟨f1, f2⟩, ⟨y1, y2⟩, r', kp'⟩ := ST.out _ hg
      have XN : Hid (RwAt ((w'.setCell ⟨g, i * 2, none⟩ (.int .i64 xi)).setCell ⟨g, i * 2 + 1, none⟩ u) g 0 (mixL d i0 (i + 1)) ∧ Tk.Kp (fun b => b = g) w ((w'.setCell ⟨g, i * 2, none⟩ (.int .i64 xi)).setCell ⟨g, i * 2 + 1, none⟩ u)) := ⟨NX.out _ r', (kp'.setCell (.inl rfl) _).setCell (.inl rfl) _⟩
      clear cF hg ST NX r' kp' k1 k2
      go_wp2
      go_roundw
      case rel => exact ⟨i + 1, j + 1, by first | rfl | go_num, by first | rfl | go_num, by have := HJ.out; omega, by omega, hlt, XN⟩
      case measure => simp [intOf]; omega
    · have hlti : ¬ (j : Int) < (n : Int) := by omega
      have e : n = i + 1 := by omega
      have hml := mixL_len HD.out.2.2.2.1 (show i < d.length by have := N.out; omega)
      obtain ⟨cur, hcur, hsz, _⟩ := X.out.1
      rw [hml, ← N.out, Nat.zero_add] at hsz
      have hcl := fun (c : Nat) (ty : TypeId) => clear_one (c := c) (ty := ty) (p := i * 2) hcur (by omega)
      have FD : Hid (DelOut w g n cap i0 d (.returned (.slice (some ⟨g, 0, none⟩) i cap)) (wr.setCells g (i * 2) [.int .i64 0, .slice none 0 0])) := by
        refine ⟨by rw [e]; rfl, ?_, ?_⟩
        · have h1 := (X.out.1.set (i := i) (by rw [hml, ← N.out]; omega) ((0 : Int), Value.slice none 0 0, ([] : List Int))).take (n := i)
          rw [Nat.zero_add] at h1
          have h2 : ((mixL d i0 i).set i ((0 : Int), Value.slice none 0 0, ([] : List Int))).take i = d.eraseIdx i0 := by
            have hel : (d.eraseIdx i0).length = d.length - 1 := List.length_eraseIdx_of_lt HD.out.2.2.2.1
            rw [List.take_set_of_le (Nat.le_refl _)]
            unfold mixL
            rw [List.take_append_of_le_length (by rw [List.length_take, hel]; have := N.out; omega), List.take_take, Nat.min_self, List.take_of_length_le (by rw [hel]; have := N.out; omega)]
          rw [h2] at h1
          exact h1
        · exact (X.out.2.setCell (.inl rfl) _).setCell (.inl rfl) _
      have hcc : ¬ cap = i := by have := HD.out.2.2.2.2.1; have := N.out; omega
      have hic : (i : Int) ≤ (n : Int) := by omega
      have hicp : (i : Int) ≤ (cap : Int) := by have := HD.out.2.2.2.2.1; have := N.out; omega
      have hni : n - i = 1 := by omega
      clear X hcur hsz hml e hji
      go_wp2
      go_ret
      exact FD.out

theorem rem1_c {w : World} {g cap cb i0 : Nat} {d : List Rt} (hd : RwAt w g 0 d) (hone : ∀ x ∈ d, x.2.1.oneCell' = true) (hn : d.length ≤ 4000) (hcap : d.length ≤ cap) (hcb : cb ≠ g) (id : Int) (hc : w.cell? ⟨cb, 0, none⟩ = some (.int .i64 id)) (h0 : i0 < d.length) (hid : d[i0].1 = id) (hnd : (d.map (·.1)).Pairwise (· ≠ ·)) :
    Calls Tryz.prog 84 #[.slice (some ⟨g, 0, none⟩) d.length cap, .pointer (some ⟨cb, 0, none⟩)] w fun e w' => DelOut w g d.length cap i0 d e w' := by
  have cD := delf_c hd hone hn hcap hcb id hc h0 hid hnd
  generalize d.length = n at cD ⊢
  clear hd hone hn hcap hcb hc hid hnd h0
  go_enter Tryz.func84, Tryz.ntmps84
  go_wp2_with fail
  go_fit cD
  intro e w1 hO
  have hv := hO.1
  subst hv
  have H : Hid _ := hO
  clear hO cD
  go_wp2
  go_ret
  exact ⟨rfl, H.out.2⟩
end Go.Proofs.YtbnljabeccebiaaGreat

/- kdtree.part's remade: what it tells, and at parts that are not cut. -/
namespace Go.Proofs.YtbnljabeccebiaaGreat
open Go.RowKit Go.Sort

/-- What the closures have caught: the row (or its id alone), and its vector. -/
structure Cap (Iq : Nat → Prop) (ad : Bool) (W : World) (cb : Nat) (x : Rt) : Prop where
  id : W.cell? ⟨cb, 0, none⟩ = some (.int .i64 x.1)
  row : ad = true → W.cell? ⟨cb, 1, none⟩ = some x.2.1
  vec : OwnQ Iq W x.2.1 x.2.2
  up : Up Iq W
theorem Cap.kp {Iq : Nat → Prop} {ad : Bool} {S : Nat → Prop} {W W' : World} {cb : Nat} {x : Rt} (h : Cap Iq ad W cb x) (k : Tk.Kp S W W') (hS : NoInt W S) (hn : ¬ S cb) : Cap Iq ad W' cb x := ⟨k.cell h.id hn, fun e => k.cell (h.row e) hn, ownq_noint h.vec k hS, h.up.le k.size⟩
theorem noF (W : World) : NoInt W (fun _ => False) := fun _ h => h.elim
theorem kpF {W W' : World} (g : Gb W W') : Tk.Kp (fun _ => False) W W' := Tk.Kp.of_gr g
theorem Cap.gb {Iq : Nat → Prop} {ad : Bool} {W W' : World} {cb : Nat} {x : Rt} (h : Cap Iq ad W cb x) (g : Gb W W') : Cap Iq ad W' cb x := h.kp (kpF g) (noF _) (fun h => h)
theorem OwnRs.gb {Iq : Nat → Prop} {W W' : World} {v : Value} {d : List Rt} (h : OwnRs Iq W v d) (g : Gb W W') : OwnRs Iq W' v d := h.kp (kpF g) (noF _) (fun _ _ h => h)
theorem PcAt.gb {Iq : Nat → Prop} {W W' : World} {b : Nat} {p : Pt} {vl vh vr : Value} (h : PcAt Iq W b p vl vh vr) (g : Gb W W') : PcAt Iq W' b p vl vh vr := h.kp (kpF g) (noF _) (fun h => h)
theorem TrO.gb {Iq : Nat → Prop} {W W' : World} {T : Nat → Pt} {n b : Nat} {F : List Nat} (h : TrO Iq W T n b F) (g : Gb W W') : TrO Iq W' T n b F := TrO.kp (kpF g) (noF _) _ _ _ h (fun _ _ h => h)
theorem OwnRs.noint {Iq : Nat → Prop} {W : World} {v : Value} {d : List Rt} (h : OwnRs Iq W v d) : NoInt W (fun b => v.ownBlock = some b) := by
  intro k e cur s hc
  rcases h.row.2 with ⟨rfl, _⟩ | ⟨g, cap, cur', rfl, _, hh, _⟩
  · cases e
  · cases e
    rw [hh] at hc
    simp at hc
/-- What a change of rows tells. -/
def ChgO (Iq : Nat → Prop) (W : World) (v : Value) (R : List Rw) (e : Ending) (W' : World) : Prop := ∃ g cap d, e = .returned (.slice (some ⟨g, 0, none⟩) d.length cap) ∧ d.map rwR = R ∧ RwRd W' g 0 d ∧ (∀ y ∈ d, OwnQ Iq W' y.2.1 y.2.2) ∧ Tk.Kp (fun b => v.ownBlock = some b) W W'
def ChgC (Iq : Nat → Prop) (m : Nat) (ad : Bool) (fn cb : Nat) (x : Rt) : Prop := ∀ W v d, Cap Iq ad W cb x → v.ownBlock ≠ some cb → OwnRs Iq W v d → RowsOk (d.map rwR) (m : Int) → RowsOk (aft ad (rwR x) (d.map rwR)) (m : Int) → bef ad (rwR x) (d.map rwR) →
  Calls Tryz.prog fn #[v, .pointer (some ⟨cb, 0, none⟩)] W fun e W' => ChgO Iq W v (aft ad (rwR x) (d.map rwR)) e W'
/-- What remade tells: nothing of no rows; else a tree of them, in the blocks that there were, or new ones. -/
def RmOut (Iq : Nat → Prop) (w : World) (m : Nat) (F : List Nat) (R : List Rw) (e : Ending) (w' : World) : Prop :=
  Tk.Kp (fun k => k ∈ F) w w' ∧ (R = [] → e = .returned (.pointer none)) ∧
  (R ≠ [] → ∃ b T F' n, e = .returned (.pointer (some ⟨b, 0, none⟩)) ∧ TrO Iq w' T (n + 1) b F' ∧ OkP T m n (T b) ∧ (rowsP T n (T b)).Perm R ∧ F'.Nodup ∧ ∀ y ∈ F', y ∈ F ∨ w.heap.size ≤ y)
theorem rm_parts {Iq : Nat → Prop} {w W W' : World} {m : Nat} {F : List Nat} {d : List Rt} {e : Ending} (k : Tk.Kp (fun b => b ∈ F) w W) (h : PartOut Iq W m d e W') : RmOut Iq w m F (d.map rwR) e W' ∧ ∃ pv, e = .returned (.pointer pv) := by
  obtain ⟨h1, h2, h3⟩ := h
  by_cases hd : d = []
  · refine ⟨⟨k.trans (Tk.Kp.of_gr h1), fun _ => h2 hd, fun hne => absurd (by rw [hd]; rfl) hne⟩, _, h2 hd⟩
  · obtain ⟨b, T, F', e1, t, nd, l⟩ := h3 hd
    obtain ⟨t1, t2, t3⟩ := t d.length (Nat.le_refl _)
    refine ⟨⟨k.trans (Tk.Kp.of_gr h1), fun he => absurd (List.map_eq_nil_iff.1 he) hd, fun _ => ⟨b, T, F', d.length, e1, t1, t2, t3, nd, fun y hy => .inr ?_⟩⟩, _, e1⟩
    have := l y hy
    have := k.size
    omega

set_option maxHeartbeats 1000000 in
set_option maxRecDepth 100000 in
theorem rem_leaf {Iq : Nat → Prop} {m leaf : Nat} (hm : 1 ≤ m ∧ m ≤ 64) (hlf : 1 ≤ leaf ∧ leaf ≤ 64) {fn cb : Nat} {ad : Bool} {x : Rt} (hC : ChgC Iq m ad fn cb x) {w : World} {b n : Nat} {F : List Nat} {T : Nat → Pt} (ht : TrO Iq w T (n + 1) b F) (hk : (T b).kids = none) (hcb : cb ∉ F)
    (hc : Cap Iq ad w cb x) (hb : bef ad (rwR x) (T b).rs) (h1 : RowsOk (T b).rs (m : Int)) (h2 : RowsOk (aft ad (rwR x) (T b).rs) (m : Int)) (eg : ∀ args w, (callFunc fn args).run Tryz.prog w = .ok (.enter fn args) w) :
    Calls Tryz.prog 83 #[.pointer (some ⟨b, 0, none⟩), .agg #[.int .i64 x.1, x.2.1], .int .i64 (leaf : Int), .func (.func fn) #[] #[.pointer (some ⟨cb, 0, none⟩)]] w fun e w' => RmOut Iq w m F (aft ad (rwR x) (T b).rs) e w' := by
  obtain ⟨vl, vh, vr, hp, ht⟩ := ht
  rw [hk] at ht
  obtain ⟨d, g, hd, hdm, hvr, rfl⟩ := ht
  rw [← hdm] at hb h1 h2 ⊢
  obtain ⟨xi, u, xl⟩ := x
  obtain ⟨ua, uc, eu, _⟩ := hc.vec.rd
  dsimp only at eu
  subst eu
  have gA : Gb w (w.alloc (.cells #[.int .i64 xi, .slice ua xl.length uc] 43)) := gb_alloc (Below.refl _ _) _
  have cI := isCut_c (hp.gb gA)
  rw [hk] at cI
  have cX := hC _ vr d (hc.gb gA) (by rw [hvr]; intro e; injection e with e; exact hcb (by rw [e]; simp)) (hd.gb gA) h1 h2 hb
  have c6 := cell_cur (i := 6) (hp.gb gA).blk rfl
  have PX : Hid (∀ e W', ChgO Iq (w.alloc (.cells #[.int .i64 xi, .slice ua xl.length uc] 43)) vr (aft ad (xi, xl) (d.map rwR)) e W' → ∃ g' n' cap', e = .returned (.slice (some ⟨g', 0, none⟩) n' cap') ∧ Calls Tryz.prog 58 #[.slice (some ⟨g', 0, none⟩) n' cap', .int .i64 (leaf : Int)] W' fun e w' => RmOut Iq w m [b, g] (aft ad (xi, xl) (d.map rwR)) e w' ∧ ∃ pv, e = .returned (.pointer pv)) := by
    rintro e W' ⟨g', cap', d', rfl, hr, hR, hv, hK⟩
    refine ⟨g', d'.length, cap', rfl, ?_⟩
    rw [← hr]
    refine (partsOf_c hm ⟨hlf.1, by omega⟩ d' hR ⟨hv, by rw [hr]; exact h2, (hp.up.gb gA).le hK.size⟩).mono ?_
    intro e w' h
    refine rm_parts ((Tk.Kp.of_gr gA).trans ?_) h
    refine hK.mono ?_
    intro k _ e
    rw [hvr] at e
    injection e with e
    subst e
    simp
  obtain ⟨g0, cap0, evr⟩ : ∃ g0 cap0, vr = .slice (some ⟨g0, 0, none⟩) d.length cap0 := by
    rcases hd.row.2 with ⟨rfl, _⟩ | ⟨g', cap', cur, rfl, _⟩
    · cases hvr
    · exact ⟨_, _, rfl⟩
  subst evr
  try dsimp only at cX
  generalize aft ad (xi, xl) (d.map rwR) = R at *
  generalize d.length = nd at *
  generalize xl.length = nx at *
  clear hC hp hd hdm hb h1 h2 hc gA hk hvr hcb
  go_enter Tryz.func83, Tryz.ntmps83
  go_wp2_with fail
  go_fit cI
  rintro e w1 ⟨rfl, rfl⟩
  go_wp2_with fail
  go_fit cX
  intro e w2 hO
  obtain ⟨g', n', cap', rfl, cP⟩ := PX.out _ _ hO
  clear hO cX PX cI c6
  go_wp2_with fail
  go_fit cP
  rintro e w3 ⟨hO, pv, rfl⟩
  have H : Hid _ := hO
  clear hO cP
  go_wp2
  go_ret
  exact H.out
end Go.Proofs.YtbnljabeccebiaaGreat
