/- Specs in memory of the call's own: make, copy, append. -/
import Derived.Test.YtgmjokmiifmckaaRoA
import Derived.Test.YtgmjokmiifmckaaRoQ
import Derived.Lib.Overlaps
import Derived.Laws.NewBlocks
import Derived.Laws.IdiomCopy
import Derived.Laws.CopyOwn
import Derived.Laws.AppendOwnNone
import Derived.Maps.AppendAt
import Derived.Deep.OwnRows
namespace Go.Proofs.Ytgmjokmiifmckaa
open Go.RowKit Go.Sort Go.Maps

/-- A spec's cells. -/
def encS (s : N4) : List Value := [.int .i64 s.1, .int .i64 s.2.1, .int .i64 s.2.2.1, .int .i64 s.2.2.2]
def flS (l : List N4) : List Value := l.flatMap encS
theorem flS_len (l : List N4) : (flS l).length = l.length * 4 := by
  induction l with
  | nil => rfl
  | cons a r ih => simp only [flS, List.flatMap_cons, List.length_append, List.length_cons] at *; rw [ih]; simp [encS]; omega
theorem flS_get (l : List N4) (i c : Nat) (hi : i < l.length) (hc : c < 4) : (flS l)[i * 4 + c]? = (encS l[i]!)[c]? := by
  induction l generalizing i with
  | nil => exact absurd hi (Nat.not_lt_zero _)
  | cons a r ih =>
    have e : flS (a :: r) = encS a ++ flS r := by simp [flS]
    rw [e]
    cases i with
    | zero =>
      rw [List.getElem?_append_left (by simp [encS]; omega)]
      simp
    | succ i =>
      rw [List.getElem?_append_right (by simp [encS]; omega)]
      have : (i + 1) * 4 + c - (encS a).length = i * 4 + c := by simp [encS]; omega
      rw [this, ih i (by simpa using hi)]
      simp
theorem flS_one (l : List N4) : ∀ u ∈ flS l, u.oneCell' = true := by
  intro u hu
  simp only [flS, List.mem_flatMap, encS, List.mem_cons, List.not_mem_nil, or_false] at hu
  obtain ⟨x, _, rfl | rfl | rfl | rfl⟩ := hu <;> rfl
theorem setCells_heapS (g : Nat) (e : TypeId) (s : Nat × Nat) : ∀ (vs : List Value) (o : Nat) (w : World) (cur : Array Value), w.heap[g]? = some (.cells cur e s) → o + vs.length ≤ cur.size →
    ∃ cur', (w.setCells g o vs).heap[g]? = some (.cells cur' e s) ∧ cur'.size = cur.size ∧ ∀ t, cur'[t]? = if o ≤ t ∧ t < o + vs.length then vs[t - o]? else cur[t]?
  | [], o, w, cur, h, _ => ⟨cur, h, rfl, fun t => by rw [if_neg]; simp⟩
  | v :: r, o, w, cur, h, hl => by
    rw [List.length_cons] at hl
    have h1 : (w.setCell ⟨g, o, none⟩ v).heap[g]? = some (.cells (cur.setIfInBounds o v) e s) := by simp [World.setCell, Array.getElem?_modify, h]
    obtain ⟨c2, e2, s2, f2⟩ := setCells_heapS g e s r (o + 1) (w.setCell ⟨g, o, none⟩ v) (cur.setIfInBounds o v) h1 (by simp; omega)
    refine ⟨c2, e2, by rw [s2]; simp, fun t => ?_⟩
    rw [f2 t, List.length_cons]
    by_cases h3 : o = t
    · subst h3
      rw [if_neg (by omega), if_pos (by omega), Array.getElem?_setIfInBounds_self_of_lt (by omega)]
      simp
    · by_cases h4 : o + 1 ≤ t ∧ t < o + 1 + r.length
      · rw [if_pos h4, if_pos (by omega), show t - o = (t - (o + 1)) + 1 by omega, List.getElem?_cons_succ]
      · rw [if_neg h4, if_neg (by omega), Array.getElem?_setIfInBounds_ne h3]
theorem gb_setCells {a : World} {g : Nat} (hg : a.heap.size ≤ g) : ∀ (vs : List Value) (o : Nat) (w : World), Gb a w → Gb a (w.setCells g o vs)
  | [], _, _, h => h
  | v :: r, o, _w, h => gb_setCells hg r (o + 1) _ (gb_set h hg v)
theorem Try.infoS : (Try.prog.info? 24).map (fun i => (i.zero, i.size, i.bytes)) = some (some (.agg #[.int .i64 0, .int .i64 0, .int .i64 0, .int .i64 0]), 4, 32) := by kernel_rfl
theorem some_cellS {w : World} {g o : Nat} {e : TypeId} {cur : Array Value} (h : w.heap[g]? = some (.cells cur e (0, 0))) (ho : o < cur.size) : (w.cell? ⟨g, o, none⟩).isSome = true := by
  simp [World.cell?, h, ho]
theorem froz_cellS {w : World} {g o : Nat} {e : TypeId} {cur : Array Value} (h : w.heap[g]? = some (.cells cur e (0, 0))) : w.frozen? ⟨g, o, none⟩ = false := by
  simp [World.frozen?, h]
/-- A block whose first cells are some specs' reads as these. -/
theorem rds_block {w : World} {g n cap : Nat} {cur : Array Value} {l : List N4} (h : w.heap[g]? = some (.cells cur 24 (0, 0))) (hn : n = l.length) (hc : ∀ t, t < l.length * 4 → cur[t]? = (flS l)[t]?) : RdS w (.slice (some ⟨g, 0, none⟩) n cap) l := by
  subst hn
  refine ⟨_, _, rfl, fun i hi => ⟨g, 0, rfl, ?_⟩⟩
  have hx : ∀ c, c < 4 → w.cell? ⟨g, 0 + i * 4 + c, none⟩ = (encS l[i]!)[c]? := fun c hc4 => by
    rw [← flS_get l i c hi hc4, ← hc _ (by omega)]
    simp [World.cell?, h]
  exact ⟨by simpa [encS] using hx 0 (by omega), by simpa [encS] using hx 1 (by omega), by simpa [encS] using hx 2 (by omega), by simpa [encS] using hx 3 (by omega)⟩
/-- Specs that are read, as one row of cells. -/
theorem RdS.src {w : World} {b o n cap : Nat} {l : List N4} (h : RdS w (.slice (some ⟨b, o, none⟩) n cap) l) : ∀ j v, (flS l)[j]? = some v → w.cell? ((⟨b, o, none⟩ : Addr).add j) = some v := by
  intro j v hj
  obtain ⟨a, cap', e, h⟩ := h
  have hl : j < l.length * 4 := by rw [← flS_len]; exact (List.getElem?_eq_some_iff.1 hj).1
  obtain ⟨b', o', e1, c0, c1, c2, c3⟩ := h (j / 4) (by omega)
  cases e
  cases e1
  have e4 : j / 4 * 4 + j % 4 = j := by omega
  have := flS_get l (j / 4) (j % 4) (by omega) (by omega)
  rw [e4, hj] at this
  rw [Addr.add_lit]
  have hm : j % 4 = 0 ∨ j % 4 = 1 ∨ j % 4 = 2 ∨ j % 4 = 3 := by omega
  rcases hm with hm | hm | hm | hm <;> rw [hm] at this <;> simp only [encS, List.getElem?_cons_zero, List.getElem?_cons_succ, Option.some.injEq] at this <;> subst this
  · rw [show o + j = o + j / 4 * 4 by omega]; exact c0
  · rw [show o + j = o + j / 4 * 4 + 1 by omega]; exact c1
  · rw [show o + j = o + j / 4 * 4 + 2 by omega]; exact c2
  · rw [show o + j = o + j / 4 * 4 + 3 by omega]; exact c3
abbrev mkS (n : Nat) (w : World) : World := w.alloc (.cells (madeCells #[.int .i64 0, .int .i64 0, .int .i64 0, .int .i64 0] (n * 4)) 24)
theorem run_make_S (n : Nat) (hn : n ≤ 65537) (w : World) : (Instr.makeSlice 30 (.int .i64 (n : Int)) (.int .i64 (n : Int))).run Try.prog w = .ok (.slice (some ⟨w.heap.size, 0, none⟩) n n) (mkS n w) := by
  obtain ⟨i, hi, hzz⟩ := Option.map_eq_some_iff.1 Try.infoS
  simp only [Prod.mk.injEq] at hzz
  obtain ⟨hz, hs, hb⟩ := hzz
  have hr := run_make (P := Try.prog) w 30 24 i _ Try.underlying30 hi hz .i64 .i64 n n (by omega) (Int.le_refl _) (by rw [hb]; omega) (by omega)
  simp only [Int.toNat_natCast, hs] at hr
  exact hr
/-- copy of specs into a row that was just made. -/
theorem copy_S {w : World} {a : Option Addr} {n cap : Nat} {l : List N4} (h : RdS w (.slice a n cap) l) (hn : n ≤ 65536) :
    ∃ W, (Builtin.copy_ #[30, 30] 3 #[.slice (some ⟨w.heap.size, 0, none⟩) n n, .slice a n cap]).run Try.prog (mkS n w) = .ok (goInt n) W ∧ RdS W (.slice (some ⟨w.heap.size, 0, none⟩) n n) l ∧ Gb w W := by
  have G0 : Gb w (mkS n w) := gb_alloc (Below.refl _ _) _
  have hnl : n = l.length := by obtain ⟨_, _, e, _⟩ := h; cases e; rfl
  obtain ⟨i, hi, hzz⟩ := Option.map_eq_some_iff.1 Try.infoS
  simp only [Prod.mk.injEq] at hzz
  obtain ⟨hz, hs, hb⟩ := hzz
  by_cases h0 : n = 0
  · refine ⟨mkS n w, ?_, ?_, G0⟩
    · subst h0
      have hl : ∀ (x : Addr), (loadCells x 0).run Try.prog (mkS 0 w) = .ok #[] (mkS 0 w) := fun x => by simpa using run_loadCells_list (P := Try.prog) (mkS 0 w) x [] (by simp)
      cases a <;> simp [Builtin.copy_, run_underlying Try.underlying30, Builtin.lenOf, Builtin.firstCells, sizeOf, typeInfo, hi, storeCells, hl]
    · obtain rfl : l = [] := List.eq_nil_of_length_eq_zero (by omega)
      exact ⟨_, _, by rw [h0]; rfl, fun i hi => absurd hi (Nat.not_lt_zero _)⟩
  · obtain ⟨_, _, e, hx⟩ := id h
    obtain ⟨b, o, ea, _⟩ := hx 0 (by omega)
    cases e
    subst ea
    have hblk : (mkS l.length w).heap[w.heap.size]? = some (.cells (madeCells #[.int .i64 0, .int .i64 0, .int .i64 0, .int .i64 0] (l.length * 4)) 24 (0, 0)) := heap_alloc_new _ _
    have hsz : (madeCells #[Value.int .i64 0, .int .i64 0, .int .i64 0, .int .i64 0] (l.length * 4)).size = l.length * 4 := size_madeCells _ _
    obtain ⟨cur', e1, e2, e3⟩ := setCells_heapS w.heap.size 24 (0, 0) (flS l) 0 (mkS l.length w) _ hblk (by rw [hsz, flS_len]; omega)
    refine ⟨(mkS l.length w).setCells w.heap.size 0 (flS l), ?_, rds_block e1 rfl (fun t ht => ?_), gb_setCells (Nat.le_refl _) _ _ _ G0⟩
    · have hl := run_firstCells_some (P := Try.prog) (mkS l.length w) i.size l.length ⟨b, o, none⟩ l.length cap (flS l) (by rw [flS_len, hs]) (fun j v hj => gb_keeps G0 (h.src j v hj))
      have hst := run_storeCells_cells (P := Try.prog) w.heap.size 0 (flS l) 0 (mkS l.length w) (fun j hj => by
        rw [flS_len] at hj
        exact some_cellS hblk (by rw [hsz]; omega)) (fun j _ => froz_cellS hblk) (flS_one l)
      simp only [Nat.add_zero] at hst
      simp [Builtin.copy_, run_underlying Try.underlying30, Builtin.lenOf, sizeOf, typeInfo, hi, hl, hst]
    · rw [e3 t, if_pos ⟨Nat.zero_le _, by rw [flS_len]; omega⟩]; rfl
set_option maxHeartbeats 4000000 in
/-- RouterChooses' call. -/
theorem chooses_law {w : World} {v : Value} {l : List N4} (h : RdS w v l) (rows dim k m : Int) :
    Calls Try.prog 4 #[v, .int .i64 rows, .int .i64 dim, .int .i64 k, .int .i64 m] w fun e w' => e = .returned (.bool true) ∧ Gb w w' := by
  obtain ⟨a, cap, rfl, ha⟩ := id h
  by_cases hbig : l.length ≤ 65536
  · obtain ⟨W, hcp, hR, hG⟩ := copy_S h hbig
    have hmk := run_make_S l.length (by omega) w
    have c1 := choose_c hR rows dim k m
    have c2 := fun W2 (g : Gb w W2) => rchoose_c (h.gb g) rows dim k m
    generalize choN l rows dim k m = x at *
    generalize choE l rows dim k m = y at *
    have A : Hid (∀ W2, Gb w W2 → Gb W W2 → ∀ i, i < l.length → ∃ b o kk nn pp cc, a = some ⟨b, o, none⟩ ∧ (W2.cell? ⟨b, o + i * 4, none⟩ = some (.int .i64 kk) ∧ W2.cell? ⟨b, o + i * 4 + 1, none⟩ = some (.int .i64 nn) ∧ W2.cell? ⟨b, o + i * 4 + 2, none⟩ = some (.int .i64 pp) ∧ W2.cell? ⟨b, o + i * 4 + 3, none⟩ = some (.int .i64 cc)) ∧
        W2.cell? ⟨w.heap.size, i * 4, none⟩ = some (.int .i64 kk) ∧ W2.cell? ⟨w.heap.size, i * 4 + 1, none⟩ = some (.int .i64 nn) ∧ W2.cell? ⟨w.heap.size, i * 4 + 2, none⟩ = some (.int .i64 pp) ∧ W2.cell? ⟨w.heap.size, i * 4 + 3, none⟩ = some (.int .i64 cc)) := by
      intro W2 g1 g2 i hi
      obtain ⟨a1, cap1, e1, h1⟩ := h.gb g1
      obtain ⟨a2, cap2, e2, h2⟩ := hR.gb g2
      cases e1
      cases e2
      obtain ⟨b, o, e3, q0, q1, q2, q3⟩ := h1 i hi
      obtain ⟨b', o', e4, r0, r1, r2, r3⟩ := h2 i hi
      cases e4
      simp only [Nat.zero_add] at r0 r1 r2 r3
      exact ⟨b, o, _, _, _, _, e3, ⟨q0, q1, q2, q3⟩, r0, r1, r2, r3⟩
    have G : Hid (Gb w W) := hG
    clear ha hR hG h
    generalize l.length = n at *
    go_enter Try.func4, Try.ntmps4
    go_wp2_with fail
    refine c1.mono ?_
    rintro e w1 ⟨rfl, g1⟩
    go_wp2_with fail
    refine (c2 _ (gb_trans G.out g1)).mono ?_
    rintro e w2 ⟨rfl, g2⟩
    have G2 : Hid (Gb w w2 ∧ Gb W w2) := ⟨gb_trans (gb_trans G.out g1) g2, gb_trans g1 g2⟩
    clear c1 c2 g1 g2 hcp hmk
    go_wp2
    go_loopw [16] (fun iv w' => ∃ q : Nat, iv = .int .i64 (q : Int) ∧ q ≤ n ∧ Hid (Gb w2 w')) (fun iv _ => n - (intOf iv).toNat)
    case atStart => exact ⟨0, rfl, Nat.zero_le _, Below.refl _ _⟩
    case round =>
      obtain ⟨q, rfl, hq, X⟩ := hrel
      by_cases hqn : q < n
      · obtain ⟨b, o, kk, nn, pp, cc, ea, ⟨q0, q1, q2, q3⟩, r0, r1, r2, r3⟩ := A.out wr (gb_trans G2.out.1 X.out) (gb_trans G2.out.2 X.out) q hqn
        subst ea
        go_wp2
        go_quiet (fail)
        go_wp2
        go_roundw
        case rel => exact ⟨q + 1, by first | rfl | simp, hqn, below_drewN X.out _⟩
        case measure => simp [intOf]; omega
      · go_wp2_with fail
        refine (awake_c _).mono ?_
        rintro e w3 ⟨rfl, g3⟩
        go_wp2
        go_ret
        exact ⟨rfl, gb_trans G2.out.1 (gb_trans X.out g3)⟩
  · have hb : 65536 < (l.length : Int) := by omega
    clear ha h hbig
    generalize l.length = n at *
    go_enter Try.func4, Try.ntmps4
    go_wp2
    go_ret
    exact ⟨rfl, Below.refl _ _⟩
end Go.Proofs.Ytgmjokmiifmckaa
