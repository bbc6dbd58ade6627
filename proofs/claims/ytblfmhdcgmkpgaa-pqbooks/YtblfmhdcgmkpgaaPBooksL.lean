/- PqBooks: the walk. -/
import Derived.Test.YtblfmhdcgmkpgaaPBks
import Derived.Test.YtblfmhdcgmkpgaaPRTr
import Derived.Test.YtblfmhdcgmkpgaaPOpen
import Derived.Test.YtblfmhdcgmkpgaaPSameV
namespace Go.Proofs.Ytblfmhdcgmkpgaa
open Go.RowKit Go.Maps Go.Sort

/-- Blocks of numbers of the first q copies. -/
def Sq (wb : World) (lo : Nat → Nat) (q b : Nat) : Prop := (lo 0 ≤ b ∧ b < lo q) ∧ ∃ cur, wb.heap[b]? = some (.cells cur 3 (0, 0))
/-- What the law's writing over the first q copies leaves. -/
structure Zs (wb W : World) (lo : Nat → Nat) (q : Nat) : Prop where
  kp : Kp (Sq wb lo q) wb W
  sh : ∀ (b : Nat) (cur : Array Value), wb.heap[b]? = some (.cells cur 3 (0, 0)) → ∃ cur' : Array Value, W.heap[b]? = some (.cells cur' 3 (0, 0)) ∧ cur'.size = cur.size
theorem Zs.refl (wb : World) (lo : Nat → Nat) : Zs wb wb lo 0 := ⟨Kp.refl _ _, fun _ cur h => ⟨cur, h, rfl⟩⟩
theorem Zs.gb {wb W W' : World} {lo : Nat → Nat} {q : Nat} (h : Zs wb W lo q) (g : Gb W W') : Zs wb W' lo q := by
  refine ⟨h.kp.trans (Kp.gb g), fun b cur hc => ?_⟩
  obtain ⟨cur', h1, h2⟩ := h.sh b cur hc
  exact ⟨cur', by rw [g.block b (Array.getElem?_eq_some_iff.1 h1).1]; exact h1, h2⟩
theorem Zs.up {wb W : World} {lo : Nat → Nat} {q : Nat} (h : Zs wb W lo q) (hl : lo q ≤ lo (q + 1)) : Zs wb W lo (q + 1) :=
  ⟨h.kp.mono (fun _ hb => ⟨⟨hb.1.1, Nat.lt_of_lt_of_le hb.1.2 hl⟩, hb.2⟩), h.sh⟩
theorem Zs.set {wb W : World} {lo : Nat → Nat} {q g : Nat} (h : Zs wb W lo q) (hg : Sq wb lo q g) : Zs wb (W.setCell ⟨g, 0, none⟩ (.int .i64 99)) lo q := by
  refine ⟨h.kp.set (p := ⟨g, 0, none⟩) (.inl hg) _, fun b cur hc => ?_⟩
  obtain ⟨cur', h1, h2⟩ := h.sh b cur hc
  by_cases e : g = b
  · subst e
    refine ⟨cur'.setIfInBounds 0 (.int .i64 99), ?_, by simpa using h2⟩
    simp [World.setCell, Array.getElem?_modify, h1]
  · exact ⟨cur', by rw [← h1]; simp [World.setCell, Array.getElem?_modify, e], h2⟩
/-- The rows that hold the copies stand as they did. -/
theorem Zs.row {wb W : World} {lo : Nat → Nat} {q B n : Nat} {t : TypeId} {v : Value} {xs : List Value} (h : Zs wb W lo q) (r : wb.ownsRow B t 1 v n xs) (ht : t ≠ 3) : W.ownsRow B t 1 v n xs := by
  refine ⟨r.1, ?_⟩
  rcases r.2 with ⟨rfl, h0⟩ | ⟨b, cap, cur, rfl, hb, hh, hr⟩
  · exact .inl ⟨rfl, h0⟩
  · refine .inr ⟨b, cap, cur, rfl, hb, ?_, hr⟩
    rw [h.kp.block b (Array.getElem?_eq_some_iff.1 hh).1 (fun hs => by
      obtain ⟨_, cur', hc⟩ := hs
      rw [hh] at hc
      simp at hc
      exact ht hc.2)]
    exact hh
theorem Zs.cpy {wb W : World} {lo : Nat → Nat} {q i s : Nat} {u : Value} {cs : Vs} (h : Zs wb W lo q) (c : Cpy wb (lo i) (lo (i + 1)) u cs s) (hl : lo q ≤ lo i) : Cpy W (lo i) (lo (i + 1)) u cs s :=
  c.kp h.kp (fun b hb cur hc => by
    obtain ⟨_, cur', hc'⟩ := hb
    rw [hc] at hc'
    simp at hc') (fun b hb _ => .inl (by have := hb.1.2; omega))
theorem Bok.lo {W : World} {B : Nat} {v : Value} {bs : List Vs} {s : Nat} {lo : Nat → Nat} (h : Bok W B v bs s lo) : ∀ q, q ≤ bs.length → lo 0 ≤ lo q
  | 0, _ => Nat.le_refl _
  | q + 1, hq => by
    have h1 := h.lo q (by omega)
    obtain ⟨_, _, _, h2⟩ := h
    have := (h2 q (by omega)).1
    omega
theorem arr_one {W : World} {g : Nat} {cur : Array Value} (h : W.heap[g]? = some (.cells cur 3 (0, 0))) (hs : 1 ≤ cur.size) : (∃ u, W.cell? ⟨g, 0, none⟩ = some u) ∧ W.frozen? ⟨g, 0, none⟩ = false := by
  refine ⟨⟨cur[0]'(by omega), ?_⟩, ?_⟩
  · simp [World.cell?, h]
  · simp [World.frozen?, h]

set_option maxHeartbeats 1000000 in
set_option maxRecDepth 100000 in
theorem booksl_no {w : World} {lv : Value} {l : Vs} (hl : RdVJ w lv l) (d m k r x : Int) (hz : pqE l d m k r ≠ 0) :
    Calls Try.prog 3 #[lv, .agg #[.int .i64 d, .int .i64 m, .int .i64 k, .int .i64 r, .int .u64 x]] w fun e w' => e = .returned (.bool true) ∧ Gb w w' := by
  have GH : Gb w (w.alloc (.cells #[.int .i64 d, .int .i64 m, .int .i64 k, .int .i64 r, .int .u64 x] 25)) := gb_alloc (Below.refl _ _) _
  have cb := big_c (hl.gb GH).rd
  have ct := lawtrain_no (hl.gb GH).rd d m k r x hz
  have HL : Hid (RdVJ w lv l) := hl
  have hz' : (pqE l d m k r == 0) = false := by rw [beq_eq_false_iff_ne]; exact hz
  have hzz : (pqE l d m k r != 0) = true := by rw [bne_iff_ne]; exact hz
  have G : Hid (Gb w (w.alloc (.cells #[.int .i64 d, .int .i64 m, .int .i64 k, .int .i64 r, .int .u64 x] 25))) := GH
  have CT : Hid (∀ W, Gb w W → Calls Try.prog 11 #[lv, .int .i64 d, .int .i64 m, .int .i64 k, .int .i64 r] W fun e w' => e = .returned (.int .i64 (pqE l d m k r)) ∧ W = w') := fun W g => rpcheck_c (HL.out.gb g).rd d m k r
  obtain ⟨al, cl, rfl, _⟩ := hl
  generalize pqE l d m k r = z at *
  generalize l.length = n at *
  have h0 : (w.alloc (.cells #[.int .i64 d, .int .i64 m, .int .i64 k, .int .i64 r, .int .u64 x] 25)).cell? ⟨w.heap.size, 0, none⟩ = some (.int .i64 d) := by simp [go_sem]
  have h1 : (w.alloc (.cells #[.int .i64 d, .int .i64 m, .int .i64 k, .int .i64 r, .int .u64 x] 25)).cell? ⟨w.heap.size, 1, none⟩ = some (.int .i64 m) := by simp [go_sem]
  have h2 : (w.alloc (.cells #[.int .i64 d, .int .i64 m, .int .i64 k, .int .i64 r, .int .u64 x] 25)).cell? ⟨w.heap.size, 2, none⟩ = some (.int .i64 k) := by simp [go_sem]
  have h3 : (w.alloc (.cells #[.int .i64 d, .int .i64 m, .int .i64 k, .int .i64 r, .int .u64 x] 25)).cell? ⟨w.heap.size, 3, none⟩ = some (.int .i64 r) := by simp [go_sem]
  clear GH
  go_enter Try.func3, Try.ntmps3
  go_wp2_with fail
  go_fit cb
  rintro e w1 ⟨⟨b, rfl⟩, e1⟩
  subst e1
  clear cb
  cases b with
  | true =>
    go_wp2
    go_ret
    exact ⟨rfl, G.out⟩
  | false =>
    go_wp2_with fail
    go_fit ct
    rintro e w2 ⟨rfl, g2⟩
    have G2 : Hid (Gb w w2) := gb_trans G.out g2
    have h0 := gb_keeps g2 h0
    have h1 := gb_keeps g2 h1
    have h2 := gb_keeps g2 h2
    have h3 := gb_keeps g2 h3
    have ce := CT.out w2 G2.out
    clear ct g2
    go_wp2_with fail
    go_fit ce
    rintro e w3 ⟨rfl, e3⟩
    subst e3
    clear ce h0 h1 h2 h3
    go_wp2_with (go_at_call 12; refine (awake_c _).mono ?_; rintro e w9 ⟨rfl, g9⟩)
    go_ret
    exact ⟨rfl, gb_trans G2.out g9⟩

set_option maxHeartbeats 4000000 in
set_option maxRecDepth 100000 in
theorem booksl_ok {w : World} {lv : Value} {l : Vs} (hl : RdVJ w lv l) {m s k r : Nat} (T : TrOk l m s k r) (x : Int) (hx : Rn.U x) :
    Calls Try.prog 3 #[lv, .agg #[.int .i64 ((m * s : Nat) : Int), .int .i64 (m : Int), .int .i64 (k : Int), .int .i64 (r : Int), .int .u64 x]] w fun e w' => e = .returned (.bool true) ∧ Gb w w' := by
  have BK : Hid (Bks (booksV l m k r x) m s k) := T.bks x
  have CT : Hid (∀ W, Gb w W → Calls Try.prog 11 #[lv, .int .i64 ((m * s : Nat) : Int), .int .i64 (m : Int), .int .i64 (k : Int), .int .i64 (r : Int)] W fun e w' => e = .returned (.int .i64 0) ∧ W = w') := fun W g => by
    have c := rpcheck_c (hl.gb g).rd ((m * s : Nat) : Int) (m : Int) (k : Int) (r : Int)
    rw [T.pqE] at c
    exact c
  have CR : Hid (∀ W, Gb w W → Calls Try.prog 13 #[lv, .int .i64 ((m * s : Nat) : Int), .int .i64 (m : Int), .int .i64 (k : Int), .int .i64 (r : Int), .int .u64 x] W fun e w' => ∃ p, e = .returned (.pointer (some ⟨p, 0, none⟩)) ∧ MCod w' p (m * s) m (booksV l m k r x) ∧ Gb W w') := fun W g => rtrainq_ok (hl.gb g) T x hx
  obtain ⟨D, hD⟩ : ∃ D, D = m * s := ⟨_, rfl⟩
  rw [← hD] at CT CR ⊢
  have GH : Gb w (w.alloc (.cells #[.int .i64 (D : Int), .int .i64 (m : Int), .int .i64 (k : Int), .int .i64 (r : Int), .int .u64 x] 25)) := gb_alloc (Below.refl _ _) _
  have cb := big_c (hl.gb GH).rd
  have ct := lawtrain_ok (hl.gb GH) T x hx
  rw [← hD] at ct
  have G : Hid (Gb w (w.alloc (.cells #[.int .i64 (D : Int), .int .i64 (m : Int), .int .i64 (k : Int), .int .i64 (r : Int), .int .u64 x] 25))) := GH
  obtain ⟨al, cl, rfl, _⟩ := hl
  generalize booksV l m k r x = bs at *
  generalize l.length = n at *
  have h0 : (w.alloc (.cells #[.int .i64 (D : Int), .int .i64 (m : Int), .int .i64 (k : Int), .int .i64 (r : Int), .int .u64 x] 25)).cell? ⟨w.heap.size, 0, none⟩ = some (.int .i64 (D : Int)) := by simp [go_sem]
  have h1 : (w.alloc (.cells #[.int .i64 (D : Int), .int .i64 (m : Int), .int .i64 (k : Int), .int .i64 (r : Int), .int .u64 x] 25)).cell? ⟨w.heap.size, 1, none⟩ = some (.int .i64 (m : Int)) := by simp [go_sem]
  have h2 : (w.alloc (.cells #[.int .i64 (D : Int), .int .i64 (m : Int), .int .i64 (k : Int), .int .i64 (r : Int), .int .u64 x] 25)).cell? ⟨w.heap.size, 2, none⟩ = some (.int .i64 (k : Int)) := by simp [go_sem]
  have h3 : (w.alloc (.cells #[.int .i64 (D : Int), .int .i64 (m : Int), .int .i64 (k : Int), .int .i64 (r : Int), .int .u64 x] 25)).cell? ⟨w.heap.size, 3, none⟩ = some (.int .i64 (r : Int)) := by simp [go_sem]
  have h4 : (w.alloc (.cells #[.int .i64 (D : Int), .int .i64 (m : Int), .int .i64 (k : Int), .int .i64 (r : Int), .int .u64 x] 25)).cell? ⟨w.heap.size, 4, none⟩ = some (.int .u64 x) := by simp [go_sem]
  have hm8 : m ≤ 8 := BK.out.m8
  have hk16 : k ≤ 16 := BK.out.k16
  have hs1 : 1 ≤ s := BK.out.s1
  clear GH T hx hD
  go_enter Try.func3, Try.ntmps3
  go_wp2_with fail
  go_fit cb
  rintro e w1 ⟨⟨b, rfl⟩, e1⟩
  subst e1
  clear cb
  cases b with
  | true =>
    go_wp2
    go_ret
    exact ⟨rfl, G.out⟩
  | false =>
    go_wp2_with fail
    go_fit ct
    rintro e w2 ⟨p, rfl, c2, g2⟩
    have G2 : Hid (Gb w w2) := gb_trans G.out g2
    have C2 : Hid (CodAt w2 p D bs) := c2
    have h0 := gb_keeps g2 h0
    have h1 := gb_keeps g2 h1
    have h2 := gb_keeps g2 h2
    have h3 := gb_keeps g2 h3
    have h4 := gb_keeps g2 h4
    have ce := CT.out w2 G2.out
    clear ct g2 c2
    go_wp2_with fail
    go_fit ce
    rintro e w3 ⟨rfl, e3⟩
    subst e3
    have cr := CR.out w2 G2.out
    clear ce
    go_wp2_with fail
    go_fit cr
    rintro e w3 ⟨mp, rfl, m3, g3⟩
    have M3 : Hid (MCod w3 mp D m bs) := m3
    have G3 : Hid (Gb w w3 ∧ Gb w2 w3) := ⟨gb_trans G2.out g3, g3⟩
    clear cr m3 g3 h0 h1 h2 h3 h4
    go_wp2
    go_loopw [9] (fun iv W => ∃ c : Nat, iv = .int .i64 (c : Int) ∧ c ≤ 2 ∧ Hid (Gb w3 W)) (fun iv _ => 2 - (intOf iv).toNat)
    case atStart => exact ⟨0, rfl, by omega, Below.refl _ _⟩
    case round =>
      obtain ⟨c, rfl, hc2, XC⟩ := hrel
      by_cases hcn : c < 2
      · have hci : (c : Int) < 2 := by omega
        have ck := books_ok (C2.out.gb (gb_trans G3.out.2 XC.out)) BK.out
        obtain ⟨wa, hwa⟩ : ∃ wa, wa = wr := ⟨_, rfl⟩
        subst hwa
        go_wp2_with fail
        go_fit ck
        rintro e wb ⟨bv, rfl, ⟨lo, hB⟩, gb⟩
        have BB : Hid (Bok wb wa.heap.size bv bs s lo ∧ Gb wa wb) := ⟨hB, gb⟩
        obtain ⟨xs, hrow, hlo0, hcp⟩ := hB
        rw [BK.out.len] at hrow
        have HROW : Hid (wb.ownsRow wa.heap.size 22 1 bv m xs) := hrow
        have HCP : Hid (wa.heap.size ≤ lo 0 ∧ ∀ i, i < m → lo i ≤ lo (i + 1) ∧ ∃ u, xs[i]? = some u ∧ Cpy wb (lo i) (lo (i + 1)) u bs[i]! s) := ⟨hlo0, fun i hi => hcp i (by rw [BK.out.len]; exact hi)⟩
        obtain ⟨ob, oc, eb⟩ : ∃ g c, bv = .slice (some ⟨g, 0, none⟩) m c := by
          have hm1 := BK.out.m1
          rcases hrow.2 with ⟨rfl, h0⟩ | ⟨g, c, cur, e, _⟩
          · omega
          · exact ⟨g, c, e⟩
        subst eb
        obtain ⟨_, _, mbv, m2, mrb⟩ := M3.out.gb XC.out
        have MR : Hid (RdB wa mbv bs) := mrb
        obtain ⟨mba, mc, em, hmA⟩ := mrb
        subst em
        obtain ⟨mb, mo, _, ema, _⟩ := hmA 0 (by rw [BK.out.len]; exact BK.out.m1)
        subst ema
        rw [BK.out.len] at m2 MR
        have M2 : Hid (wa.cell? ⟨mp, 2, none⟩ = some (.slice (some ⟨mb, mo, none⟩) m mc)) := m2
        have m2 := gb_keeps gb m2
        clear ck hrow hlo0 hcp gb hmA
        go_wp2
        clear m2
        go_loopw [11] (fun iv W => ∃ q : Nat, iv = .int .i64 (q : Int) ∧ q ≤ m ∧ Hid (Zs wb W lo q)) (fun iv _ => m - (intOf iv).toNat)
        case atStart => exact ⟨0, rfl, Nat.zero_le _, Zs.refl _ _⟩
        case round =>
          obtain ⟨q, rfl, hq, X⟩ := hrel
          have GA : Hid (∀ W q, Zs wb W lo q → Gb wa W) := fun W q h => h.kp.below BB.out.2 (fun b hb => Nat.le_trans HCP.out.1 hb.1.1)
          by_cases hqn : q < m
          · have hqi : (q : Int) < (m : Int) := by omega
            obtain ⟨hl1, u, eu, cu⟩ := HCP.out.2 q hqn
            have BQ := BK.out.bk q hqn
            have CQ : Hid (Cpy wb (lo q) (lo (q + 1)) u bs[q]! s ∧ lo q ≤ lo (q + 1) ∧ lo 0 ≤ lo q) := ⟨cu, hl1, BB.out.1.lo q (by rw [BK.out.len]; exact hq)⟩
            have RA : Hid (RdV wr u bs[q]!) := (X.out.cpy cu (Nat.le_refl _)).rd BQ.2
            obtain ⟨ua, uc, eua, _⟩ := RA.out
            rw [BQ.1] at eua
            subst eua
            have r0 := World.ownsRow.cells (X.out.row HROW.out (by decide)) (g := ob) rfl q _ eu
            rw [Addr.add_lit, Nat.zero_add] at r0
            obtain ⟨b', o', um, em, k1, k2⟩ := rdb_at MR.out (i := q) (by rw [BK.out.len]; exact hqn)
            injection em with em1
            injection em1 with em2 em3
            subst em2 em3
            have gA := GA.out wr q X.out
            have RM : Hid (RdV wr um bs[q]!) := k2.gb gA
            obtain ⟨ma, mk, emu, _⟩ := k2
            rw [BQ.1] at emu
            subst emu
            have FS : wr.drew.cell? ⟨ob, q, none⟩ = some (.slice ua k uc) ∧ wr.drew.cell? ⟨mp, 2, none⟩ = some (.slice (some ⟨mb, mo, none⟩) m mc) ∧ wr.drew.cell? ⟨mb, mo + q, none⟩ = some (.slice ma k mk) := ⟨r0, gb_keeps gA M2.out, gb_keeps gA k1⟩
            have cs := fun W (g : Gb wr.drew W) => rsameV_c (RA.out.gb (gb_trans (Below.refl _ _).drew g)) (RM.out.gb (gb_trans (Below.refl _ _).drew g)) (by omega) (fun i hi => (BQ.2.get hi).2.1)
            have EU : Hid (xs[q]? = some (.slice ua k uc)) := eu
            have ZN : Hid (∀ w5, Gb wr.drew w5 → Zs wb w5 lo (q + 1)) := fun w5 g => (X.out.gb (gb_trans (Below.refl _ _).drew g)).up hl1
            have BL : Hid (bs[q]!.length = k) := BQ.1
            generalize bs[q]! = bq at *
            clear r0 k1 gA cu eu hl1 BQ X RA RM
            go_wp2_with fail
            refine wp_region_held_drew (S := fun W => W.cell? ⟨ob, q, none⟩ = some (.slice ua k uc) ∧ W.cell? ⟨mp, 2, none⟩ = some (.slice (some ⟨mb, mo, none⟩) m mc) ∧ W.cell? ⟨mb, mo + q, none⟩ = some (.slice ma k mk)) (by kernel_rfl) (FS) (fun hHeld => ?_)
            refine wpAnyH_take (i := 0) (v := ?_) rfl (by kernel_rfl) (by kernel_rfl) (by kernel_rfl) (fun _ _ _ h => h) (Or.inl ⟨by rfl, ?_⟩) (by assumption) ?_
            rotate_left 1
            · (intro w hSw; (obtain ⟨s0, s1, s2⟩ := hSw); go_simp; try with_reducible rfl)
            try simp only [Act.put, List.getElem_toArray, List.getElem_cons_zero, List.setIfInBounds_toArray, List.set_cons_zero, List.set_cons_succ]
            refine wpAnyH_take (i := 1) (v := ?_) rfl (by kernel_rfl) (by kernel_rfl) (by kernel_rfl) (fun _ _ _ h => h) (Or.inl ⟨by rfl, ?_⟩) (by assumption) ?_
            rotate_left 1
            · (intro w hSw; (obtain ⟨s0, s1, s2⟩ := hSw); go_simp; try with_reducible rfl)
            try simp only [Act.put, List.getElem_toArray, List.getElem_cons_zero, List.getElem_cons_succ, List.setIfInBounds_toArray, List.set_cons_zero, List.set_cons_succ]
            refine wpAnyH_take (i := 2) (v := ?_) rfl (by kernel_rfl) (by kernel_rfl) (by kernel_rfl) (fun _ _ _ h => h) (Or.inl ⟨by rfl, ?_⟩) (by assumption) ?_
            rotate_left 1
            · (intro w hSw; (obtain ⟨s0, s1, s2⟩ := hSw); go_simp; try with_reducible rfl)
            try simp only [Act.put, List.getElem_toArray, List.getElem_cons_zero, List.getElem_cons_succ, List.setIfInBounds_toArray, List.set_cons_zero, List.set_cons_succ]
            refine wpAnyH_take (i := 3) (v := ?_) rfl (by kernel_rfl) (by kernel_rfl) (by kernel_rfl) (fun _ _ _ h => h) (Or.inl ⟨by rfl, ?_⟩) (by assumption) ?_
            rotate_left 1
            · (intro w hSw; (obtain ⟨s0, s1, s2⟩ := hSw); go_simp; try with_reducible rfl)
            try simp only [Act.put, List.getElem_toArray, List.getElem_cons_zero, List.getElem_cons_succ, List.setIfInBounds_toArray, List.set_cons_zero, List.set_cons_succ]
            refine wpAnyH_take (i := 4) (v := ?_) rfl (by kernel_rfl) (by kernel_rfl) (by kernel_rfl) (fun _ _ _ h => h) (Or.inl ⟨by rfl, ?_⟩) (by assumption) ?_
            rotate_left 1
            · (intro w hSw; (obtain ⟨s0, s1, s2⟩ := hSw); go_simp; try with_reducible rfl)
            try simp only [Act.put, List.getElem_toArray, List.getElem_cons_zero, List.getElem_cons_succ, List.setIfInBounds_toArray, List.set_cons_zero, List.set_cons_succ]
            refine wpAnyH_take (i := 5) (v := ?_) rfl (by kernel_rfl) (by kernel_rfl) (by kernel_rfl) (fun _ _ _ h => h) (Or.inl ⟨by rfl, ?_⟩) (by assumption) ?_
            rotate_left 1
            · (intro w hSw; (obtain ⟨s0, s1, s2⟩ := hSw); go_simp; try with_reducible rfl)
            try simp only [Act.put, List.getElem_toArray, List.getElem_cons_zero, List.getElem_cons_succ, List.setIfInBounds_toArray, List.set_cons_zero, List.set_cons_succ]
            refine wpAnyH_take (i := 6) (v := ?_) rfl (by kernel_rfl) (by kernel_rfl) (by kernel_rfl) (fun _ _ _ h => h) (Or.inl ⟨by rfl, ?_⟩) (by assumption) ?_
            rotate_left 1
            · (intro w hSw; (obtain ⟨s0, s1, s2⟩ := hSw); go_simp; try with_reducible rfl)
            try simp only [Act.put, List.getElem_toArray, List.getElem_cons_zero, List.getElem_cons_succ, List.setIfInBounds_toArray, List.set_cons_zero, List.set_cons_succ]
            refine wpAnyH_take (i := 7) (v := ?_) rfl (by kernel_rfl) (by kernel_rfl) (by kernel_rfl) (fun _ _ _ h => h) (Or.inl ⟨by rfl, ?_⟩) (by assumption) ?_
            rotate_left 1
            · (intro w hSw; (obtain ⟨s0, s1, s2⟩ := hSw); go_simp; try with_reducible rfl)
            try simp only [Act.put, List.getElem_toArray, List.getElem_cons_zero, List.getElem_cons_succ, List.setIfInBounds_toArray, List.set_cons_zero, List.set_cons_succ]
            refine wpAnyH_take (i := 8) (v := ?_) rfl (by kernel_rfl) (by kernel_rfl) (by kernel_rfl) (fun _ _ _ h => h) (Or.inl ⟨by rfl, ?_⟩) (by assumption) ?_
            rotate_left 1
            · (intro w hSw; (obtain ⟨s0, s1, s2⟩ := hSw); go_simp; try with_reducible rfl)
            try simp only [Act.put, List.getElem_toArray, List.getElem_cons_zero, List.getElem_cons_succ, List.setIfInBounds_toArray, List.set_cons_zero, List.set_cons_succ]
            refine wpAnyH_take (i := 9) (v := ?_) rfl (by kernel_rfl) (by kernel_rfl) (by kernel_rfl) (fun _ _ _ h => h) (Or.inl ⟨by rfl, ?_⟩) (by assumption) ?_
            rotate_left 1
            · (intro w hSw; (obtain ⟨s0, s1, s2⟩ := hSw); go_simp; try with_reducible rfl)
            try simp only [Act.put, List.getElem_toArray, List.getElem_cons_zero, List.getElem_cons_succ, List.setIfInBounds_toArray, List.set_cons_zero, List.set_cons_succ]
            refine wpAnyH_take (i := 10) (v := ?_) rfl (by kernel_rfl) (by kernel_rfl) (by kernel_rfl) (fun _ _ _ h => h) (Or.inl ⟨by rfl, ?_⟩) (by assumption) ?_
            rotate_left 1
            · (intro w hSw; (obtain ⟨s0, s1, s2⟩ := hSw); go_simp; try with_reducible rfl)
            try simp only [Act.put, List.getElem_toArray, List.getElem_cons_zero, List.getElem_cons_succ, List.setIfInBounds_toArray, List.set_cons_zero, List.set_cons_succ]
            refine wpAnyH_ready (rs := [11]) (by kernel_rfl) (by simp) ?_
            refine AllReadyH.cons rfl (fun K hK => ?_) AllReadyH.nil
            go_simp
            go_fit (cs _ (Below.refl _ _))
            rintro e w5 ⟨rfl, g5⟩
            refine hK.out _ _ (⟨gb_keeps g5 hHeld.1, gb_keeps g5 hHeld.2.1, gb_keeps g5 hHeld.2.2⟩) (fun hHeld => ?_)
            clear hK K
            try simp only [Act.put, List.getElem_toArray, List.getElem_cons_zero, List.getElem_cons_succ, List.setIfInBounds_toArray, List.set_cons_zero, List.set_cons_succ]
            refine wpAnyH_take (i := 12) (v := ?_) rfl (by kernel_rfl) (by kernel_rfl) (by kernel_rfl) (fun _ _ _ h => h) (Or.inl ⟨by rfl, ?_⟩) (by assumption) ?_
            rotate_left 1
            · (intro w hSw; (obtain ⟨s0, s1, s2⟩ := hSw); go_simp; try with_reducible rfl)
            try simp only [Act.put, List.getElem_toArray, List.getElem_cons_zero, List.getElem_cons_succ, List.setIfInBounds_toArray, List.set_cons_zero, List.set_cons_succ]
            refine wpAnyH_done (by kernel_rfl) ?_ _
            have Z5 : Hid (Zs wb w5 lo (q + 1)) := ZN.out w5 g5
            clear hHeld g5 cs FS ZN
            go_wp2
            go_loopw [12] (fun iv W => ∃ j : Nat, iv = .int .i64 (j : Int) ∧ j ≤ k ∧ Hid (Zs wb W lo (q + 1))) (fun iv _ => k - (intOf iv).toNat)
            case atStart => exact ⟨0, rfl, Nat.zero_le _, Z5⟩
            case round =>
              clear Z5
              obtain ⟨j, rfl, hj, Y⟩ := hrel
              have r0 := World.ownsRow.cells (Y.out.row HROW.out (by decide)) (g := ob) rfl q _ EU.out
              rw [Addr.add_lit, Nat.zero_add] at r0
              by_cases hjk : j < k
              · have hji : (j : Int) < (k : Int) := by omega
                obtain ⟨ys, hrow2, hcs⟩ := CQ.out.1
                obtain ⟨g, cg, e1, e2, e3, e4⟩ := hcs j (by have := BL.out; omega)
                have hrow3 := Y.out.row hrow2 (by decide)
                obtain ⟨ub, eub⟩ : ∃ ub, ua = some ⟨ub, 0, none⟩ := by
                  rcases hrow3.2 with ⟨e, h0⟩ | ⟨g', cap', cur', e, _⟩
                  · have := BL.out; omega
                  · injection e with e'; exact ⟨g', e'⟩
                subst eub
                have r1 := World.ownsRow.cells hrow3 (g := ub) rfl j _ e1
                rw [Addr.add_lit, Nat.zero_add] at r1
                obtain ⟨cur, hc, hcap, hsc, _⟩ := e2
                obtain ⟨cur', hc', hsz⟩ := Y.out.sh g cur hc
                obtain ⟨⟨u0, c0⟩, f0⟩ := arr_one hc' (by omega)
                have YN : Hid (Zs wb (wr.setCell ⟨g, 0, none⟩ (.int .i64 99)) lo (q + 1)) := Y.out.set ⟨⟨by have := CQ.out.2.2; omega, e4⟩, cur, hc⟩
                have hsi : (0 : Int) < (s : Int) := by omega
                clear hrow2 hcs hrow3 hc hcap hsc hc' hsz Y e1 e3 e4
                go_wp2
                go_roundw
                case rel => exact ⟨j + 1, by first | rfl | go_num | simp, hjk, YN⟩
                case measure => simp [intOf]; omega
              · have hji : ¬ (j : Int) < (k : Int) := by omega
                go_wp2
                go_roundw
                case rel => exact ⟨q + 1, by first | rfl | go_num | simp, hqn, Y⟩
                case measure => simp [intOf]; omega
          · have hqi : ¬ (q : Int) < (m : Int) := by omega
            have XE : Hid (Gb w3 wr) := gb_trans XC.out (GA.out wr q X.out)
            clear X
            go_wp2
            go_roundw
            case rel => exact ⟨c + 1, by first | rfl | go_num | simp, by omega, XE⟩
            case measure => simp [intOf]; omega
      · have hci : ¬ (c : Int) < 2 := by omega
        have GE : Hid (Gb w wr) := gb_trans G3.out.1 XC.out
        clear XC
        go_wp2_with (go_at_call 12; refine (awake_c _).mono ?_; rintro e w9 ⟨rfl, g9⟩)
        go_ret
        exact ⟨rfl, gb_trans GE.out g9⟩
theorem booksl_law {w : World} {lv : Value} {l : Vs} (hl : RdVJ w lv l) (d m k r x : Int) (hx : Rn.U x) :
    Calls Try.prog 3 #[lv, .agg #[.int .i64 d, .int .i64 m, .int .i64 k, .int .i64 r, .int .u64 x]] w fun e w' => e = .returned (.bool true) ∧ Gb w w' := by
  by_cases hz : pqE l d m k r = 0
  · obtain ⟨M, S, K, R, rfl, rfl, rfl, rfl, T⟩ := TrOk.of hz
    exact booksl_ok hl T x hx
  · exact booksl_no hl d m k r x hz
end Go.Proofs.Ytblfmhdcgmkpgaa
