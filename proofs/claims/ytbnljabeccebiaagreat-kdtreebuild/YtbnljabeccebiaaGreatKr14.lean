import Derived.Test.YtbnljabeccebiaaGreatKr13
import Derived.Test.YtbnljabeccebiaaGreatKr11
import Derived.BigRegion
/- Rows sorted along an axis, by ids; rows cloned. -/
namespace Go.Proofs.YtbnljabeccebiaaGreat
open Go.Shelf Go.RowKit Go.Lib Go.Sort
shelf_lay_g SlLaysE0.n41 Slgn 41 at Tryz 95 as Tryz.laidCloneR

theorem swoAl (ax : Nat) : SWO (fun x y : Rt => decide (alg x.1 x.2.2[ax]! y.1 y.2.2[ax]! < 0)) := by
  refine ⟨fun x => ?_, fun x y z => ?_, fun x y z => ?_⟩
  · simp only [alg_neg]; simp
  · simp only [alg_neg]
    generalize x.2.2[ax]! = a
    generalize y.2.2[ax]! = b
    generalize z.2.2[ax]! = c
    simp only [Bool.or_eq_true, Bool.and_eq_true, decide_eq_true_eq]
    omega
  · simp only [alg_neg]
    generalize x.2.2[ax]! = a
    generalize y.2.2[ax]! = b
    generalize z.2.2[ax]! = c
    simp only [Bool.or_eq_false_iff, Bool.and_eq_false_iff, decide_eq_false_iff_not]
    omega
theorem swoId : SWO (fun x y : Rt => decide (Tk.ci x.1 y.1 < 0)) := by
  have e : ∀ a b : Int, decide (Tk.ci a b < 0) = decide (a < b) := fun a b => by
    unfold Tk.ci
    split
    · rename_i h; simp [h]
    · rename_i h; split <;> simp [h]
  refine ⟨fun x => ?_, fun x y z => ?_, fun x y z => ?_⟩ <;> simp only [e, decide_eq_true_eq, decide_eq_false_iff_not] <;> omega

/-- A row whose vector is read apart from block g. -/
structure RtOk (w : World) (g n : Nat) (x : Rt) : Prop where
  rd : RdI w x.2.1 x.2.2
  len : x.2.2.length = n
  ne : ∀ b o n c, x.2.1 = .slice (some ⟨b, o, none⟩) n c → b ≠ g
theorem RtOk.one {w : World} {g n : Nat} {x : Rt} (h : RtOk w g n x) : x.2.1.oneCell' = true := by
  obtain ⟨a, c, e, _⟩ := h.rd
  rw [e]; rfl
theorem RtOk.kp {w w' : World} {g n : Nat} {x : Rt} (h : RtOk w g n x) (k : Tk.Kp (fun b => b = g) w w') : RtOk w' g n x :=
  ⟨rdi_kp h.rd k (fun b o n c e => h.ne b o n c e), h.len, h.ne⟩

theorem sortAl_c {w : World} {g o cap cb ax n : Nat} {d : List Rt} (hd : RwAt w g o d) (hne : d ≠ []) (hlen : d.length ≤ 4000) (hok : ∀ x ∈ d, RtOk w g n x) (hax : ax < n) (hcb : w.cell? ⟨cb, 0, none⟩ = some (.int .i64 (ax : Int))) (hcg : cb ≠ g) :
    Calls Tryz.prog 55 #[.slice (some ⟨g, o, none⟩) d.length cap, .func (.func 136) #[] #[.pointer (some ⟨cb, 0, none⟩)]] w fun e w' => e = .returned (.tuple #[]) ∧ ∃ d', d'.Perm d ∧ (d'.Pairwise fun x y => ¬ alg y.1 y.2.2[ax]! x.1 x.2.2[ax]! < 0) ∧ RwAt w' g o d' ∧ Srt w w' g o d.length :=
  sortR (cf := fun x y => alg x.1 x.2.2[ax]! y.1 y.2.2[ax]!) (RtOk w g n) hd hne hlen hok (fun _ h => h.one) (swoAl ax) (enters_of Tryz.func136 (by kernel_rfl) rfl)
    (fun W k x y hx hy => along1_c (hx.kp k).rd (hy.kp k).rd (by rw [hx.len]; exact hax) (by rw [hy.len]; exact hax) (k.cell hcb hcg))

set_option maxHeartbeats 1000000 in
theorem build1_c (x y : Int) (u v : Value) (hu : u.oneCell' = true) (hv : v.oneCell' = true) (w : World) :
    Calls Tryz.prog 56 #[.agg #[.int .i64 x, u], .agg #[.int .i64 y, v]] w fun e w' => e = .returned (.int .i64 (Tk.ci x y)) ∧ Tk.Gw w w' := by
  have cC := fun W => compare_g x y W
  have hcu : u.cells = #[u] := by first | exact Value.cells_of_oneCell' hu | (cases u <;> simp_all [Value.oneCell', Value.cells])
  have hcv : v.cells = #[v] := by first | exact Value.cells_of_oneCell' hv | (cases v <;> simp_all [Value.oneCell', Value.cells])
  go_enter Tryz.func56, Tryz.ntmps56
  go_wp2_with fail
  refine (cC _).mono ?_
  rintro e w' ⟨rfl, hg⟩
  go_wp2
  go_ret
  exact ⟨rfl, (((Tk.Gw.refl _).alloc _).alloc _).trans hg⟩
theorem find1_c (x y : Int) (u : Value) (hu : u.oneCell' = true) (w : World) :
    Calls Tryz.prog 81 #[.agg #[.int .i64 x, u], .int .i64 y] w fun e w' => e = .returned (.int .i64 (Tk.ci x y)) ∧ Tk.Gw w w' := by
  have cC := fun W => compare_g x y W
  have hcu : u.cells = #[u] := by first | exact Value.cells_of_oneCell' hu | (cases u <;> simp_all [Value.oneCell', Value.cells])
  go_enter Tryz.func81, Tryz.ntmps81
  go_wp2_with fail
  refine (cC _).mono ?_
  rintro e w' ⟨rfl, hg⟩
  go_wp2
  go_ret
  exact ⟨rfl, ((Tk.Gw.refl _).alloc _).trans hg⟩
theorem sortId_c {w : World} {g o cap n : Nat} {d : List Rt} (hd : RwAt w g o d) (hne : d ≠ []) (hlen : d.length ≤ 4000) (hok : ∀ x ∈ d, RtOk w g n x) :
    Calls Tryz.prog 55 #[.slice (some ⟨g, o, none⟩) d.length cap, .func (.func 56) #[] #[]] w fun e w' => e = .returned (.tuple #[]) ∧ ∃ d', d'.Perm d ∧ (d'.Pairwise fun x y => ¬ Tk.ci y.1 x.1 < 0) ∧ RwAt w' g o d' ∧ Srt w w' g o d.length :=
  sortR (cf := fun x y => Tk.ci x.1 y.1) (RtOk w g n) hd hne hlen hok (fun _ h => h.one) swoId (enters_of Tryz.func56 (by kernel_rfl) rfl)
    (fun W _ x y hx hy => build1_c _ _ _ _ hx.one hy.one W)
theorem sort_none (a : Option Addr) (cap : Nat) (fv : Value) (w : World) : Calls Tryz.prog 55 #[.slice a 0 cap, fv] w fun e w' => e = .returned (.tuple #[]) ∧ w' = w := by
  have hc := AnyF.slices_SortFunc_none Tryz.laidSortR a cap fv w
  exact hc

/-- The cells from o on of block g are these rows'. -/
def RwRd (w : World) (g o : Nat) (d : List Rt) : Prop := ∀ i (h : i < d.length), w.cell? ⟨g, o + i * 2, none⟩ = some (.int .i64 d[i].1) ∧ w.cell? ⟨g, o + i * 2 + 1, none⟩ = some d[i].2.1
theorem RwAt.rd {w : World} {g o : Nat} {d : List Rt} (h : RwAt w g o d) : RwRd w g o d := by
  obtain ⟨cur, h1, _, h3⟩ := h
  intro i hi
  exact ⟨cell_cur h1 (h3 i hi).1, cell_cur h1 (h3 i hi).2⟩
theorem flR_get (d : List Rt) (t : Nat) : (d.flatMap encR)[t]? = if h : t / 2 < d.length then (encR d[t / 2])[t % 2]? else none := by
  induction d generalizing t with
  | nil => simp
  | cons x r ih =>
    rw [List.flatMap_cons]
    by_cases h : t < 2
    · rw [List.getElem?_append_left (by simpa using h)]
      have h0 : t / 2 = 0 := by omega
      have h1 : t % 2 = t := by omega
      simp [h0, h1]
    · rw [List.getElem?_append_right (by simp; omega), show t - (encR x).length = t - 2 by rfl, ih]
      have h0 : t / 2 = (t - 2) / 2 + 1 := by omega
      have h1 : t % 2 = (t - 2) % 2 := by omega
      simp only [h0, h1, List.length_cons, Nat.add_lt_add_iff_right, List.getElem_cons_succ]
theorem flR_len (d : List Rt) : (d.flatMap encR).length = d.length * 2 := by
  induction d with
  | nil => rfl
  | cons x r ih => rw [List.flatMap_cons, List.length_append, ih, List.length_cons]; simp; omega
/-- What is owned, whole, as rows that lie in a block. -/
theorem rwAt_own {w : World} {B g n cap : Nat} {d : List Rt} (h : w.ownsRow B 43 2 (.slice (some ⟨g, 0, none⟩) n cap) d.length (d.flatMap encR)) : RwAt w g 0 d ∧ B ≤ g ∧ g < w.heap.size := by
  rcases h.2 with ⟨e, _⟩ | ⟨g', cap', cur, e, hB, hh, hle, _, hsz, htk⟩
  · cases e
  · cases e
    refine ⟨⟨cur, hh, by omega, fun i hi => ?_⟩, hB, (Array.getElem?_eq_some_iff.1 hh).1⟩
    have key : ∀ t, t < d.length * 2 → cur[t]? = (d.flatMap encR)[t]? := fun t ht => by
      rw [← htk, List.getElem?_take_of_lt ht, Array.getElem?_toList]
    rw [Nat.zero_add, key _ (by omega), key _ (by omega), flR_get, flR_get, show i * 2 / 2 = i by omega, show (i * 2 + 1) / 2 = i by omega, show i * 2 % 2 = 0 by omega, show (i * 2 + 1) % 2 = 1 by omega, dif_pos hi, dif_pos hi]
    exact ⟨rfl, rfl⟩
theorem cloneR_c {w : World} {g o cap : Nat} {d : List Rt} (hd : RwRd w g o d) (hlen : d.length ≤ 4000) (hone : ∀ x ∈ d, x.2.1.oneCell' = true) :
    Calls Tryz.prog 95 #[.slice (some ⟨g, o, none⟩) d.length cap] w fun e w' => ∃ g' cap', e = .returned (.slice (some ⟨g', 0, none⟩) d.length cap') ∧ w.heap.size ≤ g' ∧ g' < w'.heap.size ∧ RwAt w' g' 0 d ∧ Gb w w' ∧ w'.ownsRow w.heap.size 43 2 (.slice (some ⟨g', 0, none⟩) d.length cap') d.length (d.flatMap encR) := by
  obtain ⟨i0, hi0, hz0, hz1, hz2⟩ := info_partsW
  have hc := AnyE.slices_Clone Tryz.laidCloneR i0 (.agg #[.int .i64 0, .slice none 0 0]) 2 32 hi0 hz0 hz1 hz2 rfl (by omega) Tryz.sizeOf43 g o d.length cap (d.flatMap encR) w (flR_len d) (by simp only [maxLen]; omega) (by omega)
    (fun j u hu => by
      rw [flR_get] at hu
      split at hu
      · rename_i h
        obtain ⟨c0, c1⟩ := hd (j / 2) h
        rcases Nat.mod_two_eq_zero_or_one j with h0 | h0
        · rw [h0] at hu; cases hu; rw [show o + j = o + j / 2 * 2 by omega]; exact c0
        · rw [h0] at hu; cases hu; rw [show o + j = o + j / 2 * 2 + 1 by omega]; exact c1
      · cases hu)
    (fun u hu => by
      obtain ⟨x, hx, hu⟩ := List.mem_flatMap.1 hu
      simp only [encR, List.mem_cons, List.not_mem_nil, or_false] at hu
      rcases hu with rfl | rfl
      · rfl
      · exact hone x hx)
  change Calls Tryz.prog 95 _ _ _ at hc
  refine hc.mono ?_
  rintro e w' ⟨v', rfl, ho, hv, hb⟩
  rcases ho.2 with ⟨h1, _⟩ | ⟨g', cap', cur, rfl, _⟩
  · exact absurd h1 hv
  · obtain ⟨h1, h2, h3⟩ := rwAt_own ho
    exact ⟨g', cap', rfl, h2, h3, h1, hb, ho⟩
end Go.Proofs.YtbnljabeccebiaaGreat

/- kdtree.widest. -/
namespace Go.Proofs.YtbnljabeccebiaaGreat
open Go.RowKit Go.Sort

theorem gw_drewN {a w : World} (h : Tk.Gw a w) (n : Nat) : Tk.Gw a (w.drewN n) := h.trans ⟨n, #[], by rw [grow_empty]⟩
theorem rdi_cell {w : World} {a : Option Addr} {n cap : Nat} {l : List Int} (h : RdI w (.slice a n cap) l) {i : Nat} (hi : i < l.length) : ∃ b o, a = some ⟨b, o, none⟩ ∧ w.cell? ⟨b, o + i, none⟩ = some (.int .i64 l[i]!) := by
  obtain ⟨a', c', e, h⟩ := h
  injection e with e1 _ _
  subst e1
  exact h i hi

set_option maxHeartbeats 2000000 in
set_option maxRecDepth 100000 in
theorem widest_c {w : World} {v : Value} {r : Reg} (h : RdR w v r) (hn : r.H.length = r.L.length) (hlen : r.L.length ≤ 4611686018427387904) (hL : ∀ i, i < r.L.length → -4611686018427387904 < r.L[i]! ∧ r.L[i]! < 4611686018427387904 ∧ -4611686018427387904 < r.H[i]! ∧ r.H[i]! < 4611686018427387904) :
    Calls Tryz.prog 96 #[v] w fun e w' => e = .returned (.int .i64 (wid r.L r.H r.L.length : Nat)) ∧ Tk.Gw w w' := by
  obtain ⟨vl, vh, vi, rfl, h1, h2, ai, ci, rfl, _⟩ := h
  have B : Hid (∀ i, i < r.L.length → -4611686018427387904 < r.L[i]! ∧ r.L[i]! < 4611686018427387904 ∧ -4611686018427387904 < r.H[i]! ∧ r.H[i]! < 4611686018427387904) := hL
  obtain ⟨S, L, H, R, I⟩ := r
  dsimp only at *
  have P1 : Hid (RdI w vl L) := h1
  have P2 : Hid (RdI w vh H) := h2
  obtain ⟨al, cl, rfl, _⟩ := h1
  obtain ⟨ah, ch, rfl, _⟩ := h2
  obtain ⟨n, hN⟩ : ∃ n, n = L.length := ⟨_, rfl⟩
  have N : Hid (n = L.length ∧ H.length = L.length) := ⟨hN, hn⟩
  rw [hn, ← hN] at P2
  rw [← hN] at P1 B hlen
  rw [hn, ← hN]
  clear hL hn hN
  generalize I.length = ni
  go_enter Tryz.func96, Tryz.ntmps96
  go_wp2
  go_loopw [3, 8] (fun av iv w' => ∃ q : Nat, iv = .int .i64 (q : Int) ∧ q ≤ n ∧ av = .int .i64 (wid L H q : Nat) ∧ Tk.Gw (w.alloc (.cells #[.int .i64 S, .slice al n cl, .slice ah n ch, .int .u64 (hi R), .int .u64 (lo R), .slice ai ni ci] 101)) w') (fun _ iv _ => n - (intOf iv).toNat)
  case atStart => exact ⟨0, rfl, Nat.zero_le _, rfl, Tk.Gw.refl _⟩
  case round =>
    obtain ⟨q, rfl, hq, rfl, X⟩ := hrel
    by_cases hqn : q < n
    · have hqi : (q : Int) < (n : Int) := by omega
      obtain ⟨a, ha⟩ : ∃ a, a = wid L H q := ⟨_, rfl⟩
      have han : a < n := by have := wid_le L H q; omega
      have E : Hid (wid L H (q + 1) = if H[a]! - L[a]! < H[q]! - L[q]! then q else a) := by rw [ha]; rfl
      have G : Gb w wr := gb_trans (gb_alloc (Below.refl _ _) _) (gw_gb X)
      obtain ⟨bl, ol, rfl, c1⟩ := rdi_cell P1.out (i := q) (by have := N.out; omega)
      obtain ⟨_, _, e1, c2⟩ := rdi_cell P1.out (i := a) (by have := N.out; omega)
      injection e1 with e1
      injection e1 with e1 e2
      subst e1 e2
      obtain ⟨bh, oh, rfl, c3⟩ := rdi_cell P2.out (i := q) (by have := N.out; omega)
      obtain ⟨_, _, e1, c4⟩ := rdi_cell P2.out (i := a) (by have := N.out; omega)
      injection e1 with e1
      injection e1 with e1 e2
      subst e1 e2
      have b1 := B.out q hqn
      have b2 := B.out a han
      have d1 := gb_keeps G c1
      have d2 := gb_keeps G c2
      have d3 := gb_keeps G c3
      have d4 := gb_keeps G c4
      have f1 := Tk.gr_keeps X.gr (p := ⟨w.heap.size, 1, none⟩) (v := .slice (some ⟨bl, ol, none⟩) n cl) (by simp [go_sem])
      have f2 := Tk.gr_keeps X.gr (p := ⟨w.heap.size, 2, none⟩) (v := .slice (some ⟨bh, oh, none⟩) n ch) (by simp [go_sem])
      rw [← ha]
      clear ha c1 c2 c3 c4 G P1 P2 B
      have K : Hid (Tk.Gw (w.alloc (.cells #[.int .i64 S, .slice (some ⟨bl, ol, none⟩) n cl, .slice (some ⟨bh, oh, none⟩) n ch, .int .u64 (hi R), .int .u64 (lo R), .slice ai ni ci] 101)) wr) := X
      clear X
      generalize L[q]! = lq at *
      generalize L[a]! = la at *
      generalize H[q]! = hq' at *
      generalize H[a]! = ha' at *
      have w1 : IntKind.i64.wrap (hq' - lq) = hq' - lq := by rw [IntKind.wrap_i64]; omega
      have w2 : IntKind.i64.wrap (ha' - la) = ha' - la := by rw [IntKind.wrap_i64]; omega
      have w3 : wrap64 (hq' - lq) = hq' - lq := by simp only [wrap64]; omega
      have w4 : wrap64 (ha' - la) = ha' - la := by simp only [wrap64]; omega
      by_cases hc : ha' - la < hq' - lq
      · have EE : Hid (wid L H (q + 1) = q) := by rw [if_pos hc] at E; exact E
        clear E
        go_wp2
        go_quiet (fail)
        go_wp2
        go_roundw
        case rel => exact ⟨q + 1, by first | rfl | go_num, hqn, by rw [EE.out], gw_drewN K.out _⟩
        case measure => simp [intOf]; omega
      · have EE : Hid (wid L H (q + 1) = a) := by rw [if_neg hc] at E; exact E
        clear E
        go_wp2
        go_quiet (fail)
        go_wp2
        go_roundw
        case rel => exact ⟨q + 1, by first | rfl | go_num, hqn, by rw [EE.out], gw_drewN K.out _⟩
        case measure => simp [intOf]; omega
    · have hqi : ¬ (q : Int) < (n : Int) := by omega
      have e : q = n := by omega
      subst e
      go_wp2
      go_ret
      exact ⟨rfl, ((Tk.Gw.refl _).alloc _).trans X⟩
end Go.Proofs.YtbnljabeccebiaaGreat

/- kdtree.boxOf. -/
namespace Go.Proofs.YtbnljabeccebiaaGreat
open Go.RowKit Go.Sort

/-- A box that came out, without ids. -/
def OutB (w : World) (L H : List Int) (e : Ending) (w' : World) : Prop := ∃ vl vh, e = .returned (.agg #[.int .i64 2, vl, vh, .int .u64 0, .int .u64 0, .slice none 0 0]) ∧ Gb w w' ∧ Own w' w.heap.size vl L ∧ Own w' w.heap.size vh H

def OutB' (w w' : World) (L H : List Int) (vl vh : Value) : Prop := Gb w w' ∧ Own w' w.heap.size vl L ∧ Own w' w.heap.size vh H
theorem OutB'.set {w W : World} {L H : List Int} {vl vh : Value} (h : OutB' w W L H vl vh) (h1 : vl.ownBlock ≠ some w.heap.size) (h2 : vh.ownBlock ≠ some w.heap.size) (i : Nat) (u : Value) : OutB' w (W.setCell ⟨w.heap.size, i, none⟩ u) L H vl vh :=
  ⟨gb_set h.1 (Nat.le_refl _) u, ownsRow_setCell_other h.2.1 h1 u, ownsRow_setCell_other h.2.2 h2 u⟩

set_option maxHeartbeats 1000000 in
set_option maxRecDepth 100000 in
theorem boxOf_c {w : World} {v : Value} {rs : List Rw} (h : RdW w v rs) {d : Nat} (hok : boxE rs (d : Int) = 0) (hd : rs[0]!.2.length = d) (hwf : ∀ i, i < rs.length → (Lit.int .i64 rs[i]!.1).wf = true) :
    Calls Tryz.prog 94 #[v] w fun e w' => OutB w (boxL rs d) (boxH rs d) e w' := by
  have hn : 0 < rs.length ∧ rs.length ≤ 512 := by
    unfold boxE at hok
    split at hok
    · split at hok
      · cases hok
      · unfold idsE at hok
        split at hok
        · omega
        · cases hok
    · cases hok
  have hr : boxR rs (d : Int) = ⟨2, boxL rs d, boxH rs d, 0, srt (idsOf rs)⟩ := by unfold boxR; rw [if_pos hok, Int.toNat_natCast]
  have cb := fun W (g : Gb w W) => box_c (h.gb g) (d : Int) (by omega) hwf
  simp only [hr, hok] at cb
  obtain ⟨a, cap, rfl, hA⟩ := h
  obtain ⟨b, o, u, rfl, k1, k2, k3⟩ := hA 0 hn.1
  obtain ⟨pu, cu, rfl, _⟩ := k3
  rw [hd] at k2
  generalize boxL rs d = L at *
  generalize boxH rs d = H at *
  generalize srt (idsOf rs) = I at *
  generalize rs[0]!.1 = id0 at *
  obtain ⟨n, hN⟩ : ∃ n, n = rs.length := ⟨_, rfl⟩
  simp only [← hN] at cb hn ⊢
  have CB := fun W => Hid.out (p := Gb w W → _) (cb W)
  clear hok hr hA hd hwf hN cb
  simp only [Nat.zero_mul, Nat.add_zero] at k1 k2
  have k3 : (w.alloc (.cells #[.int .i64 0, .slice none 0 0, .slice none 0 0, .int .u64 0, .int .u64 0, .slice none 0 0] 101)).cell? ⟨b, o + 1, none⟩ = some (.slice pu d cu) := gb_keeps (gb_alloc (Below.refl _ _) _) k2
  go_enter Tryz.func94, Tryz.ntmps94
  go_wp2_with fail
  go_fit (CB _ (gb_alloc (Below.refl _ _) _))
  rintro e w' ⟨vl, vh, vi, rfl, g1, o1, o2, o3, _⟩
  obtain ⟨al, cl, el, _⟩ := o1.rd
  obtain ⟨ah, ch, eh, _⟩ := o2.rd
  obtain ⟨ai, ci, ei, _⟩ := o3.rd
  subst el eh ei
  dsimp only at o1 o2 o3
  have hs := reg0 (gb_alloc g1 (.cells #[.int .i64 2, .slice al L.length cl, .slice ah H.length ch, .int .u64 0, .int .u64 0, .slice none 0 0] 101))
  dsimp only [rv]
  rw [show hi 0 = 0 from by decide, show lo 0 = 0 from by decide]
  have hw := g1.size
  rw [World.size_alloc] at hw
  have X : Hid (Gb (w.alloc (.cells #[.int .i64 0, .slice none 0 0, .slice none 0 0, .int .u64 0, .int .u64 0, .slice none 0 0] 101)) w' ∧ Own w' (w.heap.size + 1) (.slice al L.length cl) L ∧ Own w' (w.heap.size + 1) (.slice ah H.length ch) H) := ⟨g1, by rw [World.size_alloc] at o1; exact o1, by rw [World.size_alloc] at o2; exact o2⟩
  clear g1 o1 o2 o3 k1 k2 k3 CB
  generalize L.length = nl at *
  generalize H.length = nh at *
  generalize I.length = ni at *
  go_wp2
  obtain ⟨⟨q0, q1, q2, q3, q4, q5⟩, _⟩ := hs
  refine bodyPost_ret (v := .agg #[.int .i64 2, .slice al nl cl, .slice ah nh ch, .int .u64 0, .int .u64 0, .slice none 0 0]) (by simp [results, Tryz.results94, go_sem, q0, q1, q2, q3, q4, q5]) rfl ⟨_, _, rfl, ?_⟩
  have b0 : (Value.slice none 0 0).ownBlock ≠ some w.heap.size := by simp [Value.ownBlock]
  have b1 : (Value.slice al nl cl).ownBlock ≠ some w.heap.size := fun e => by have := (World.ownsRow.lt X.out.2.1 _ e).1; omega
  have b2 : (Value.slice ah nh ch).ownBlock ≠ some w.heap.size := fun e => by have := (World.ownsRow.lt X.out.2.2 _ e).1; omega
  have P : OutB' w (w'.alloc (.cells #[.int .i64 2, .slice al nl cl, .slice ah nh ch, .int .u64 0, .int .u64 0, .slice none 0 0] 101)) L H (.slice al nl cl) (.slice ah nh ch) :=
    ⟨gb_alloc (gb_trans (gb_alloc (Below.refl _ _) _) X.out.1) _, (X.out.2.1.mono (by omega)).gb (gb_alloc (Below.refl _ _) _), (X.out.2.2.mono (by omega)).gb (gb_alloc (Below.refl _ _) _)⟩
  exact (((((P.set b1 b2 _ _).set b1 b2 _ _).set b1 b2 _ _).set b1 b2 _ _).set b1 b2 _ _).set b1 b2 _ _
end Go.Proofs.YtbnljabeccebiaaGreat

/- kdtree.around. -/
namespace Go.Proofs.YtbnljabeccebiaaGreat
open Go.RowKit Go.Sort

theorem OutB'.setAt {w W : World} {L H : List Int} {vl vh : Value} {g : Nat} (h : OutB' w W L H vl vh) (hg : w.heap.size ≤ g) (h1 : vl.ownBlock ≠ some g) (h2 : vh.ownBlock ≠ some g) (i : Nat) (u : Value) : OutB' w (W.setCell ⟨g, i, none⟩ u) L H vl vh :=
  ⟨gb_set h.1 hg u, ownsRow_setCell_other h.2.1 h1 u, ownsRow_setCell_other h.2.2 h2 u⟩
theorem set2_other {W : World} {g1 g2 i j b : Nat} {x y : Value} (h1 : b ≠ g1) (h2 : b ≠ g2) : ((W.setCell ⟨g1, i, none⟩ x).setCell ⟨g2, j, none⟩ y).heap[b]? = W.heap[b]? := by
  simp [World.setCell, Array.getElem?_modify, Ne.symm h1, Ne.symm h2]
set_option maxHeartbeats 2000000 in
set_option maxRecDepth 100000 in
theorem around_c {w : World} {v1 v2 : Value} {a b : Reg} {m : Nat} (h1 : RdR w v1 a) (h2 : RdR w v2 b) (hm1 : 1 ≤ m) (hm : m ≤ 64) (ha : a.L.length = m ∧ a.H.length = m) (hb : b.L.length = m ∧ b.H.length = m) :
    Calls Tryz.prog 121 #[v1, v2] w fun e w' => OutB w (tab (fun t => min a.L[t]! b.L[t]!) m) (tab (fun t => max a.H[t]! b.H[t]!) m) e w' := by
  obtain ⟨vl, vh, vi, rfl, r1, r2, ai, ci, rfl, _⟩ := h1
  obtain ⟨ul, uh, ui, rfl, t1, t2, di, ei, rfl, _⟩ := h2
  obtain ⟨S, L, H, R, I⟩ := a
  obtain ⟨S', L', H', R', I'⟩ := b
  dsimp only at *
  obtain ⟨TL, hTL⟩ : ∃ x, x = tab (fun t => min L[t]! L'[t]!) m := ⟨_, rfl⟩
  obtain ⟨TH, hTH⟩ : ∃ x, x = tab (fun t => max H[t]! H'[t]!) m := ⟨_, rfl⟩
  have TT : Hid (TL = tab (fun t => min L[t]! L'[t]!) m ∧ TH = tab (fun t => max H[t]! H'[t]!) m) := ⟨hTL, hTH⟩
  rw [← hTL, ← hTH]
  clear hTL hTH
  have P1 : Hid (RdI w vl L ∧ RdI w vh H) := ⟨r1, r2⟩
  have P2 : Hid (RdI w ul L' ∧ RdI w uh H') := ⟨t1, t2⟩
  obtain ⟨al, cl, rfl, _⟩ := r1
  obtain ⟨ah, ch, rfl, _⟩ := r2
  obtain ⟨bl, dl, rfl, _⟩ := t1
  obtain ⟨bh, dh, rfl, _⟩ := t2
  rw [ha.1, ha.2] at P1
  rw [hb.1, hb.2] at P2
  rw [ha.1, ha.2, hb.1, hb.2]
  have NN : Hid (L.length = m ∧ H.length = m ∧ L'.length = m ∧ H'.length = m) := ⟨ha.1, ha.2, hb.1, hb.2⟩
  generalize I.length = ni
  generalize I'.length = ni'
  clear ha hb
  have G0 : Gb w (((w.alloc (.cells #[.int .i64 S, .slice al m cl, .slice ah m ch, .int .u64 (hi R), .int .u64 (lo R), .slice ai ni ci] 101)).alloc (.cells #[.int .i64 S', .slice bl m dl, .slice bh m dh, .int .u64 (hi R'), .int .u64 (lo R'), .slice di ni' ei] 101)).alloc z36) := gb_alloc (gb_alloc (gb_alloc (Below.refl _ _) _) _) _
  have CL := fun W' (g : Gb w W') => clone_c (P1.out.1.gb g) (by have := NN.out; omega) (by have := NN.out; omega)
  have CH := fun W' (g : Gb w W') => clone_c (P1.out.2.gb g) (by have := NN.out; omega) (by have := NN.out; omega)
  go_enter Tryz.func121, Tryz.ntmps121
  go_wp2_with fail
  go_region_held3 (fun w' => Gb w w' ∧ w'.cell? ⟨w.heap.size, 1, none⟩ = some (.slice al m cl) ∧ w'.cell? ⟨w.heap.size, 2, none⟩ = some (.slice ah m ch)) (first | (with_reducible assumption) | exact ⟨gb_trans (And.left (by assumption)) (by assumption), gb_keeps (by assumption) (And.left (And.right (by assumption))), gb_keeps (by assumption) (And.right (And.right (by assumption)))⟩ | exact ⟨G0.drew, by simp [go_sem], by simp [go_sem]⟩)
    (first
      | (go_at_call 50; refine (CL _ (And.left (by assumption))).mono ?_; rintro e w2 ⟨y1, rfl, ho1, k1⟩)
      | (go_at_call 50; refine (CH _ (And.left (by assumption))).mono ?_; rintro e w3 ⟨y2, rfl, ho2, k2⟩))
  obtain ⟨gl, c1, e1, bl1, bl2⟩ := own_form ho1 (by have := NN.out; omega)
  obtain ⟨gh, c2, e2, bh1, bh2⟩ := own_form ho2 (by have := NN.out; omega)
  rw [NN.out.1] at e1
  rw [NN.out.2.1] at e2
  subst e1 e2
  have BK : Hid (Gb (((w.alloc (.cells #[.int .i64 S, .slice al m cl, .slice ah m ch, .int .u64 (hi R), .int .u64 (lo R), .slice ai ni ci] 101)).alloc (.cells #[.int .i64 S', .slice bl m dl, .slice bh m dh, .int .u64 (hi R'), .int .u64 (lo R'), .slice di ni' ei] 101)).alloc z36) w3 ∧ Gb w w3) := by
    have g := gb_trans (Below.drew (Below.refl _ _)) (gb_trans k1 k2)
    exact ⟨g, gb_trans (gb_alloc (gb_alloc (gb_alloc (Below.refl _ _) _) _) _) g⟩
  have q1 := gb_keeps BK.out.1 (p := ⟨w.heap.size + 1, 1, none⟩) (v := .slice bl m dl) (by simp [go_sem])
  have q2 := gb_keeps BK.out.1 (p := ⟨w.heap.size + 1, 2, none⟩) (v := .slice bh m dh) (by simp [go_sem])
  have s2 := k1.size
  simp only [World.size_drew, World.size_alloc] at bl1 s2
  have ST : Hid (BxSt w w3 gl gh c1 c2 m (fun t => L[t]!) (fun t => H[t]!) ∧ w.heap.size + 2 < gl ∧ w.heap.size + 2 < gh ∧ (w3.cell? ⟨w.heap.size + 1, 1, none⟩ = some (.slice bl m dl) ∧ w3.cell? ⟨w.heap.size + 1, 2, none⟩ = some (.slice bh m dh)) ∧ ((w3.cell? ⟨w.heap.size + 1 + 1, 0, none⟩ = some (.int .i64 0) ∧ w3.cell? ⟨w.heap.size + 1 + 1, 1, none⟩ = some (.slice none 0 0) ∧ w3.cell? ⟨w.heap.size + 1 + 1, 2, none⟩ = some (.slice none 0 0) ∧ w3.cell? ⟨w.heap.size + 1 + 1, 3, none⟩ = some (.int .u64 0) ∧ w3.cell? ⟨w.heap.size + 1 + 1, 4, none⟩ = some (.int .u64 0) ∧ w3.cell? ⟨w.heap.size + 1 + 1, 5, none⟩ = some (.slice none 0 0)) ∧ ∀ i, i < 6 → w3.frozen? ⟨w.heap.size + 1 + 1, i, none⟩ = false)) := by
    have hT : L = tab (fun t => L[t]!) m := by rw [← NN.out.1]; exact tab_of _
    have hT2 : H = tab (fun t => H[t]!) m := by rw [← NN.out.2.1]; exact tab_of _
    have z0 := reg0 BK.out.1
    simp only [World.size_alloc] at z0
    refine ⟨⟨?_, ?_, by omega, by omega, by omega, BK.out.2⟩, by omega, by omega, ⟨q1, q2⟩, z0⟩
    · rw [← hT]; exact (ho1.gb k2).mono (by simp only [World.size_drew, World.size_alloc]; omega)
    · rw [← hT2]; exact ho2.mono (by omega)
  rename_i hHeld
  clear ho1 ho2 k1 k2 CL CH q1 q2 bl1 bl2 bh1 bh2 s2 BK G0 hHeld
  go_wp2
  go_loopw [16] (fun iv W => ∃ (i : Nat) (f h : Nat → Int), iv = .int .i64 (i : Int) ∧ i ≤ m ∧ Hid (BxSt w W gl gh c1 c2 m f h ∧ (∀ t, t < m → f t = (if t < i then min L[t]! L'[t]! else L[t]!) ∧ h t = (if t < i then max H[t]! H'[t]! else H[t]!)) ∧ ∀ (b : Nat), b < w3.heap.size → b ≠ gl → b ≠ gh → W.heap[b]? = w3.heap[b]?)) (fun iv _ => m - (intOf iv).toNat)
  case atStart => exact ⟨0, _, _, rfl, Nat.zero_le _, ST.out.1, fun t _ => ⟨by simp, by simp⟩, fun b _ _ _ => rfl⟩
  case round =>
    obtain ⟨i, f, h, rfl, hi', Z⟩ := hrel
    by_cases him : i < m
    · have hii : (i : Int) < (m : Int) := by omega
      obtain ⟨bx, ox, rfl, x0⟩ := rdi_cell P2.out.1 (i := i) (by have := NN.out; omega)
      obtain ⟨by', oy, rfl, y0⟩ := rdi_cell P2.out.2 (i := i) (by have := NN.out; omega)
      have x0 := gb_keeps Z.out.1.gb x0
      have y0 := gb_keeps Z.out.1.gb y0
      obtain ⟨l0, l1⟩ := Z.out.1.low.at him
      obtain ⟨m0, m1⟩ := Z.out.1.high.at him
      obtain ⟨q1, q2⟩ := ST.out.2.2.2.1
      have t1 := World.block_lt_of_cell? _ _ q1
      have r1 : wr.cell? ⟨w.heap.size + 1, 1, none⟩ = some (.slice (some ⟨bx, ox, none⟩) m dl) := (World.cell?_of_block (Z.out.2.2 _ t1 (by have := ST.out.2.1; dsimp only; omega) (by have := ST.out.2.2.1; dsimp only; omega))).trans q1
      have t2 := World.block_lt_of_cell? _ _ q2
      have r2 : wr.cell? ⟨w.heap.size + 1, 2, none⟩ = some (.slice (some ⟨by', oy, none⟩) m dh) := (World.cell?_of_block (Z.out.2.2 _ t2 (by have := ST.out.2.1; dsimp only; omega) (by have := ST.out.2.2.1; dsimp only; omega))).trans q2
      have ne' : gl ≠ gh := Z.out.1.ne
      have ne2 : gh ≠ gl := fun e => ne' e.symm
      have ZN : Hid (∀ x y : Int, x = min (f i) L'[i]! → y = max (h i) H'[i]! → ∀ t, t < m → (if t = i then x else f t) = (if t < i + 1 then min L[t]! L'[t]! else L[t]!) ∧ (if t = i then y else h t) = (if t < i + 1 then max H[t]! H'[t]! else H[t]!)) := by
        intro x y hx hy t ht
        obtain ⟨z1, z2⟩ := Z.out.2.1 t ht
        by_cases e : t = i
        · subst e
          rw [if_neg (by omega)] at z1 z2
          rw [if_pos rfl, if_pos (by omega), if_pos rfl, if_pos (by omega), hx, hy, z1, z2]; exact ⟨rfl, rfl⟩
        · rw [if_neg e, if_neg e, z1, z2]
          by_cases l : t < i
          · rw [if_pos l, if_pos (by omega), if_pos l, if_pos (by omega)]; exact ⟨rfl, rfl⟩
          · rw [if_neg l, if_neg (by omega), if_neg l, if_neg (by omega)]; exact ⟨rfl, rfl⟩
      have ZK : Hid (∀ (b : Nat), b < w3.heap.size → b ≠ gl → b ≠ gh → wr.heap[b]? = w3.heap[b]?) := Z.out.2.2
      have ZS := Z.out.1
      clear Z P1 P2 q1 q2 t1 t2 ST
      generalize L'[i]! = x at *
      generalize H'[i]! = y at *
      generalize f i = lo0 at *
      generalize h i = hi0 at *
      go_wp2
      go_region
      all_goals
        clear l0 l1 m0 m1 x0 y0 r1 r2
        go_wp2
        refine ⟨⟨i + 1, _, _, by go_num, him, BxSt.set ZS.drew him _ _, ZN.out _ _ rfl rfl, fun b hb h1 h2 => (set2_other h1 h2).trans (ZK.out b hb h1 h2)⟩, by simp [intOf]; omega⟩
    · have hii : ¬ (i : Int) < (m : Int) := by omega
      have YN : Hid (OutB' w wr TL TH (.slice (some ⟨gl, 0, none⟩) m c1) (.slice (some ⟨gh, 0, none⟩) m c2)) := by
        obtain ⟨z1, z2, _⟩ := Z.out
        have e1 : tab f m = tab (fun t => min L[t]! L'[t]!) m := tab_ext (fun t ht => by rw [(z2 t ht).1, if_pos (by omega)])
        have e2 : tab h m = tab (fun t => max H[t]! H'[t]!) m := tab_ext (fun t ht => by rw [(z2 t ht).2, if_pos (by omega)])
        rw [TT.out.1, TT.out.2]
        exact ⟨z1.gb, e1 ▸ z1.low, e2 ▸ z1.high⟩
      obtain ⟨_, n1, n2, _, ⟨q0, q1, q2, q3, q4, q5⟩, qf⟩ := ST.out
      have hbk : wr.heap[w.heap.size + 1 + 1]? = w3.heap[w.heap.size + 1 + 1]? := Z.out.2.2 _ (World.block_lt_of_cell? _ _ q0) (by omega) (by omega)
      have f0 := (World.frozen?_of_block (a := ⟨w.heap.size + 1 + 1, 0, none⟩) hbk).trans (qf 0 (by omega))
      have f1 := (World.frozen?_of_block (a := ⟨w.heap.size + 1 + 1, 1, none⟩) hbk).trans (qf 1 (by omega))
      have f2 := (World.frozen?_of_block (a := ⟨w.heap.size + 1 + 1, 2, none⟩) hbk).trans (qf 2 (by omega))
      have f3 := (World.frozen?_of_block (a := ⟨w.heap.size + 1 + 1, 3, none⟩) hbk).trans (qf 3 (by omega))
      have f4 := (World.frozen?_of_block (a := ⟨w.heap.size + 1 + 1, 4, none⟩) hbk).trans (qf 4 (by omega))
      have f5 := (World.frozen?_of_block (a := ⟨w.heap.size + 1 + 1, 5, none⟩) hbk).trans (qf 5 (by omega))
      have q0 := (World.cell?_of_block (a := ⟨w.heap.size + 1 + 1, 0, none⟩) hbk).trans q0
      have q1 := (World.cell?_of_block (a := ⟨w.heap.size + 1 + 1, 1, none⟩) hbk).trans q1
      have q2 := (World.cell?_of_block (a := ⟨w.heap.size + 1 + 1, 2, none⟩) hbk).trans q2
      have q3 := (World.cell?_of_block (a := ⟨w.heap.size + 1 + 1, 3, none⟩) hbk).trans q3
      have q4 := (World.cell?_of_block (a := ⟨w.heap.size + 1 + 1, 4, none⟩) hbk).trans q4
      have q5 := (World.cell?_of_block (a := ⟨w.heap.size + 1 + 1, 5, none⟩) hbk).trans q5
      have N2 : Hid (w.heap.size + 2 < gl ∧ w.heap.size + 2 < gh) := ⟨n1, n2⟩
      clear Z ST P1 P2 qf hbk n1 n2
      go_wp2
      refine bodyPost_ret (v := .agg #[.int .i64 2, .slice (some ⟨gl, 0, none⟩) m c1, .slice (some ⟨gh, 0, none⟩) m c2, .int .u64 0, .int .u64 0, .slice none 0 0]) (by simp [results, Tryz.results121, go_sem, q0, q1, q2, q3, q4, q5]) rfl ⟨_, _, rfl, ?_⟩
      have b1 : (Value.slice (some ⟨gl, 0, none⟩) m c1).ownBlock ≠ some (w.heap.size + 1 + 1) := by have := N2.out; simp [Value.ownBlock]; omega
      have b2 : (Value.slice (some ⟨gh, 0, none⟩) m c2).ownBlock ≠ some (w.heap.size + 1 + 1) := by have := N2.out; simp [Value.ownBlock]; omega
      have hle : w.heap.size ≤ w.heap.size + 1 + 1 := by omega
      exact (((((YN.out.setAt hle b1 b2 _ _).setAt hle b1 b2 _ _).setAt hle b1 b2 _ _).setAt hle b1 b2 _ _).setAt hle b1 b2 _ _).setAt hle b1 b2 _ _
end Go.Proofs.YtbnljabeccebiaaGreat
