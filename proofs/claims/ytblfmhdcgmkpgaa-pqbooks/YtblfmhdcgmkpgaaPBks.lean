/- (*pq.Coder).Books: books in memory of their own. -/
import Derived.Test.YtblfmhdcgmkpgaaPEnc
namespace Go.Proofs.Ytblfmhdcgmkpgaa
open Go.RowKit Go.Maps Go.Sort

/-- A copy of vectors of s coordinates, in blocks from L on below H. -/
def Cpy (W : World) (L H : Nat) (u : Value) (cs : Vs) (s : Nat) : Prop := ∃ ys, W.ownsRow L 40 1 u cs.length ys ∧ ∀ j, j < cs.length → ∃ g c, ys[j]? = some (.slice (some ⟨g, 0, none⟩) s c) ∧ Rn.Arr W g s c (fun t => cs[j]![t]!) ∧ L ≤ g ∧ g < H
theorem Cpy.kp {W W' : World} {L H : Nat} {u : Value} {cs : Vs} {s : Nat} {S : Nat → Prop} (h : Cpy W L H u cs s) (g : Kp S W W') (h1 : ∀ b, S b → ∀ cur, W.heap[b]? ≠ some (.cells cur 40 (0, 0))) (h2 : ∀ b, S b → (∃ cur, W.heap[b]? = some (.cells cur 3 (0, 0))) → b < L ∨ H ≤ b) : Cpy W' L H u cs s := by
  obtain ⟨ys, r, h⟩ := h
  refine ⟨ys, ?_, fun j hj => ?_⟩
  · have hl := r.1
    refine ⟨hl, ?_⟩
    rcases r.2 with ⟨rfl, h0⟩ | ⟨b, cap, cur, rfl, hb, hh, hr⟩
    · exact .inl ⟨rfl, h0⟩
    · exact .inr ⟨b, cap, cur, rfl, hb, by rw [g.block b (Array.getElem?_eq_some_iff.1 hh).1 (fun hs => h1 b hs cur hh)]; exact hh, hr⟩
  · obtain ⟨b, c, e1, e2, e3, e4⟩ := h j hj
    refine ⟨b, c, e1, arr_kp e2 g (fun hs => ?_), e3, e4⟩
    obtain ⟨cur, hc, _⟩ := e2
    rcases h2 b hs ⟨cur, hc⟩ with h' | h' <;> omega
theorem Cpy.gb {W W' : World} {L H : Nat} {u : Value} {cs : Vs} {s : Nat} (h : Cpy W L H u cs s) (g : Gb W W') : Cpy W' L H u cs s := h.kp (S := fun _ => False) (Kp.gb g) (fun _ h => h.elim) (fun _ h => h.elim)
theorem Cpy.up {W : World} {L H H' : Nat} {u : Value} {cs : Vs} {s : Nat} (h : Cpy W L H u cs s) (hh : H ≤ H') : Cpy W L H' u cs s := by
  obtain ⟨ys, r, h⟩ := h
  refine ⟨ys, r, fun j hj => ?_⟩
  obtain ⟨b, c, e1, e2, e3, e4⟩ := h j hj
  exact ⟨b, c, e1, e2, e3, by omega⟩
theorem Cpy.rd {W : World} {L H : Nat} {u : Value} {cs : Vs} {s : Nat} (h : Cpy W L H u cs s) (hs : VsOk cs (s : Int)) : RdV W u cs := by
  obtain ⟨ys, r, h⟩ := h
  have r0 := r
  rcases r.2 with ⟨rfl, h0⟩ | ⟨b, cap, cur, rfl, hb, hh, hr⟩
  · exact ⟨none, 0, by rw [h0], fun i hi => by omega⟩
  · refine ⟨_, cap, rfl, fun j hj => ?_⟩
    obtain ⟨g, c, e1, e2, _⟩ := h j hj
    have c1 := World.ownsRow.cells r0 (g := b) rfl j _ e1
    rw [Addr.add_lit] at c1
    have := hs.get hj
    exact ⟨b, 0, _, rfl, c1, arr_rd e2 (by omega) (fun t _ => rfl)⟩
/-- Copies of books, one behind the other. -/
def Bok (W : World) (B : Nat) (v : Value) (bs : List Vs) (s : Nat) (lo : Nat → Nat) : Prop := ∃ xs, W.ownsRow B 22 1 v bs.length xs ∧ B ≤ lo 0 ∧ ∀ i, i < bs.length → lo i ≤ lo (i + 1) ∧ ∃ u, xs[i]? = some u ∧ Cpy W (lo i) (lo (i + 1)) u bs[i]! s
theorem Bok.gb {W W' : World} {B : Nat} {v : Value} {bs : List Vs} {s : Nat} {lo : Nat → Nat} (h : Bok W B v bs s lo) (g : Gb W W') : Bok W' B v bs s lo := by
  obtain ⟨xs, r, h0, h⟩ := h
  refine ⟨xs, r.kept (row := none) ⟨g.os, g.tape, g.output, g.size, fun k hk _ => g.block k hk⟩ (by cases hv : v.ownBlock <;> simp), h0, fun i hi => ?_⟩
  obtain ⟨h1, u, e, c⟩ := h i hi
  exact ⟨h1, u, e, c.gb g⟩

set_option maxHeartbeats 4000000 in
set_option maxRecDepth 100000 in
theorem books_ok {w : World} {p d : Nat} {bs : List Vs} {m s k : Nat} (hc : CodAt w p d bs) (hb : Bks bs m s k) :
    Calls Try.prog 14 #[.pointer (some ⟨p, 0, none⟩)] w fun e w' => ∃ v, e = .returned v ∧ (∃ lo, Bok w' w.heap.size v bs s lo) ∧ Gb w w' := by
  obtain ⟨_, bv, y1, rb⟩ := hc
  have BK : Hid (Bks bs m s k) := hb
  have RB : Hid (RdB w bv bs) := rb
  obtain ⟨ba, bc, rfl, _⟩ := rb
  have hm := hb.len
  rw [hm] at y1 RB
  have hm8 := hb.m8
  have hm1 := hb.m1
  obtain ⟨i0, hi0, hz0, hz1, hz2⟩ := info_partsB
  have II : Hid (Try.prog.info? 22 = some i0 ∧ i0.zero = some (.slice none 0 0) ∧ i0.size = 1 ∧ i0.bytes = 24) := ⟨hi0, hz0, hz1, hz2⟩
  obtain ⟨j0, hj0, hy0, hy1, hy2⟩ := info_parts' Try.infoV
  have JJ : Hid (Try.prog.info? 40 = some j0 ∧ j0.zero = some (.slice none 0 0) ∧ j0.size = 1 ∧ j0.bytes = 24) := ⟨hj0, hy0, hy1, hy2⟩
  obtain ⟨w1, hmk, ho, hg⟩ := run_make_own (P := Try.prog) w w.heap.size 35 22 i0 (.slice none 0 0) 1 Try.underlying35 hi0 hz0 hz1 .i64 .i64 m (by rw [hz2]; omega) (by simp only [maxLen]; omega) (Nat.le_refl _)
  have G1 : Gb w w1 := below_grown (Below.refl _ _) hg (fun k e => by cases e) (Nat.le_refl _)
  have O : Hid (Gb w w1 ∧ ∃ lo, Bok w1 w.heap.size (.slice (some ⟨w.heap.size, 0, none⟩) 0 m) (bs.take 0) s lo ∧ lo 0 = w1.heap.size) := ⟨G1, fun _ => w1.heap.size, ⟨[], ho, G1.size, fun i hi => absurd hi (Nat.not_lt_zero _)⟩, rfl⟩
  have z1 := gb_keeps G1 y1
  have Y1 : Hid (w.cell? ⟨p, 1, none⟩ = some (.slice ba m bc)) := y1
  clear hj0 hy0 hy1 hy2 hi0 hz0 hz1 hz2 ho hg G1 hb hm
  go_enter Try.func14, Try.ntmps14
  go_wp2
  clear hmk y1 z1
  go_loopw [3, 22] (fun cv iv W => ∃ q : Nat, iv = .int .i64 (q : Int) ∧ q ≤ m ∧ Hid (Gb w W ∧ ∃ lo, Bok W w.heap.size cv (bs.take q) s lo ∧ lo q = W.heap.size)) (fun _ iv _ => m - (intOf iv).toNat)
  case atStart => exact ⟨0, rfl, Nat.zero_le _, O⟩
  case round =>
    clear O
    obtain ⟨q, rfl, hq, X⟩ := hrel
    by_cases hqn : q < m
    · have hqi : (q : Int) < (m : Int) := by omega
      have hql : q < bs.length := by rw [BK.out.len]; exact hqn
      obtain ⟨b, o, ur, ea, k1, k2⟩ := rdb_at RB.out hql
      subst ea
      have kx := gb_keeps X.out.1 k1
      have BQ : Hid (bs[q]!.length = k ∧ VsOk bs[q]! (s : Int)) := BK.out.bk q hqn
      have hk16 := BK.out.k16
      have R2 : Hid (RdV w ur bs[q]!) := k2
      have CT : Hid (bs.take (q + 1) = bs.take q ++ [bs[q]!] ∧ (bs.take q).length = q) := ⟨by rw [List.take_succ_eq_append_getElem hql, getElem!_pos bs q hql], by rw [List.length_take]; omega⟩
      obtain ⟨pu, cu, eu, _⟩ := k2
      subst eu
      rw [BQ.out.1] at kx R2
      generalize bs[q]! = bq at *
      obtain ⟨wq, hwq⟩ : ∃ wq, wq = wr := ⟨_, rfl⟩
      subst hwq
      obtain ⟨w1, hmk, ho, hg⟩ := run_make_own (P := Try.prog) wq wq.heap.size 22 40 j0 (.slice none 0 0) 1 Try.underlying22 JJ.out.1 JJ.out.2.1 JJ.out.2.2.1 .i64 .i64 k (by rw [JJ.out.2.2.2]; omega) (by simp only [maxLen]; omega) (Nat.le_refl _)
      have G1 : Gb wq w1 := below_grown (Below.refl _ _) hg (fun k e => by cases e) (Nat.le_refl _)
      have O1 : Hid (Gb wq w1 ∧ Cpy w1 wq.heap.size w1.heap.size (.slice (some ⟨wq.heap.size, 0, none⟩) 0 k) (bq.take 0) s) := ⟨G1, [], ho, fun i hi => absurd hi (Nat.not_lt_zero _)⟩
      clear ho hg G1 k1
      go_wp2
      clear hmk kx
      go_loopw [6, 31] (fun cv iv W => ∃ j : Nat, iv = .int .i64 (j : Int) ∧ j ≤ k ∧ Hid (Gb wq W ∧ Cpy W wq.heap.size W.heap.size cv (bq.take j) s)) (fun _ iv _ => k - (intOf iv).toNat)
      case atStart => exact ⟨0, rfl, Nat.zero_le _, O1⟩
      case round =>
        clear O1
        obtain ⟨j, rfl, hj, Y⟩ := hrel
        by_cases hjk : j < k
        · have hji : (j : Int) < (k : Int) := by omega
          have hjl : j < bq.length := by have := BQ.out.1; omega
          obtain ⟨b2, o2, u2, ea, k1, k2⟩ := cen_at R2.out hjl
          subst ea
          have kx := gb_keeps (gb_trans X.out.1 Y.out.1) k1
          have VL := BQ.out.2.get hjl
          have cC := clone_c (k2.gb (gb_trans X.out.1 Y.out.1)) (by omega) VL.1
          have CJ : Hid (bq.take (j + 1) = bq.take j ++ [bq[j]!] ∧ (bq.take j).length = j ∧ bq[j]!.length = s ∧ 1 ≤ s) := ⟨by rw [List.take_succ_eq_append_getElem hjl, getElem!_pos bq j hjl], by rw [List.length_take]; omega, by omega, by omega⟩
          obtain ⟨pv, cv, ev, _⟩ := k2
          subst ev
          generalize bq[j]! = V at *
          rw [CJ.out.2.2.1] at kx cC
          clear k1 VL
          go_wp2_with fail
          go_fit cC
          rintro e w3 ⟨v3, rfl, o3, g3⟩
          have O3 : Hid (Own w3 wr.heap.size v3 V ∧ Gb wr w3) := ⟨o3, g3⟩
          obtain ⟨g, cap, e3, hgB, hA⟩ := own_arr o3 (by have := CJ.out; omega)
          subst e3
          rw [CJ.out.2.2.1] at hA
          have HA : Hid (wr.heap.size ≤ g ∧ Rn.Arr w3 g s cap (fun t => V[t]!)) := ⟨hgB, hA⟩
          obtain ⟨ys, hown, hcells⟩ := Y.out.2.gb g3
          rw [CJ.out.2.1] at hown
          rw [CJ.out.2.2.1]
          have HC : Hid (∀ i, i < (bq.take j).length → ∃ g c, ys[i]? = some (.slice (some ⟨g, 0, none⟩) s c) ∧ Rn.Arr w3 g s c (fun t => (bq.take j)[i]![t]!) ∧ wq.heap.size ≤ g ∧ g < wr.heap.size) := hcells
          have GY : Hid (Gb wq w3 ∧ Gb wq wr) := ⟨gb_trans Y.out.1 g3, Y.out.1⟩
          have hs3 := GY.out.1.size
          clear cC o3 g3 hgB hA hcells Y kx
          go_wp2_with (first
            | (at_builtin; refine wpList_append_own_at _ rfl _ _ 22 rfl wq.heap.size 40 j0 (.slice none 0 0) 1 24 Try.underlying22 JJ.out.1 JJ.out.2.1 JJ.out.2.2.1 JJ.out.2.2.2 rfl (by decide) u6 j ys rfl (hown.alloc _) ⟨w3.heap.size, 0, none⟩ 1 1 [.slice (some ⟨g, 0, none⟩) s cap] rfl rfl (cell_one_new _ _ _) (by simp [Value.oneCell']) (by simp only [maxLen]; omega) (by omega) (by simp; omega) ?_; intro v5 w5 hown5 hgrow5 hnil5 hloc5)
            | go_in)
          have XN : Hid (Gb wq w5 ∧ Cpy w5 wq.heap.size w5.heap.size v5 (bq.take (j + 1)) s) := by
            have G5 : Gb wq w5 := below_grown (gb_alloc GY.out.1 _) hgrow5 (fun j e => (hown.lt j e).1) (gb_alloc GY.out.1 _).size
            have kp : ∀ {g1 c1 : Nat} {f1 : Nat → Int}, Rn.Arr w3 g1 s c1 f1 → Rn.Arr w5 g1 s c1 f1 := fun {g1 c1 f1} a => by
              have a2 : Rn.Arr (w3.alloc (.cells #[.slice (some ⟨g, 0, none⟩) s cap] 40)) g1 s c1 f1 := arr_kp (S := fun _ => False) a (Kp.gb (gb_alloc (Below.refl _ _) _)) id
              exact a2.kept hgrow5 (fun e => by
                obtain ⟨cur, hc, _⟩ := a2
                exact row_type hown _ cur e.symm hc)
            have hsz := hgrow5.size
            rw [World.size_alloc] at hsz
            refine ⟨G5, ys ++ [.slice (some ⟨g, 0, none⟩) s cap], ?_, fun i hi => ?_⟩
            · rw [CJ.out.1, List.length_append, CJ.out.2.1]; exact hown5
            · rw [CJ.out.1] at hi ⊢
              rw [List.length_append] at hi
              have hyl := hown.1
              by_cases e : i < (bq.take j).length
              · obtain ⟨g', c', e1, e2, e3, e4⟩ := HC.out i e
                have h1 := GY.out.1.size
                have h2 : wr.heap.size ≤ w3.heap.size := O3.out.2.size
                refine ⟨g', c', by rw [List.getElem?_append_left (by have := CJ.out.2.1; omega)]; exact e1, ?_, e3, by omega⟩
                rw [getElem!_pos (bq.take j ++ [V]) i (by rw [List.length_append]; exact hi), List.getElem_append_left e, ← getElem!_pos (bq.take j) i e]
                exact kp e2
              · have e' : i = (bq.take j).length := by simp only [List.length_cons, List.length_nil] at hi; omega
                have h0 := CJ.out.2.1
                have hlt := HA.out.2.lt
                have hh := GY.out.2.size
                have hh2 := HA.out.1
                refine ⟨g, cap, by rw [List.getElem?_append_right (by omega), show i - ys.length = 0 by omega]; rfl, ?_, by omega, by omega⟩
                have e2 : (bq.take j ++ [V])[i]! = V := by rw [e', getElem!_pos _ _ (by simp)]; simp
                rw [e2]
                exact kp HA.out.2
          clear hown hown5 hgrow5 hnil5 hloc5
          go_roundw
          case rel => exact ⟨j + 1, by first | rfl | go_num | simp, hjk, XN⟩
          case measure => simp [intOf]; omega
        · have hji : ¬ (j : Int) < (k : Int) := by omega
          have YE : Hid (Gb wq wr ∧ Cpy wr wq.heap.size wr.heap.size u6 bq s) := by
            have h := Y.out
            rw [List.take_of_length_le (by have := BQ.out.1; omega)] at h
            exact h
          obtain ⟨lo, hB, hlo⟩ := X.out.2
          have LO : Hid (lo q = wq.heap.size) := hlo
          obtain ⟨xs, hown, h0, hcells⟩ := hB.gb YE.out.1
          rw [CT.out.2] at hown
          have HC : Hid (w.heap.size ≤ lo 0 ∧ ∀ i, i < (bs.take q).length → lo i ≤ lo (i + 1) ∧ ∃ u, xs[i]? = some u ∧ Cpy wr (lo i) (lo (i + 1)) u (bs.take q)[i]! s) := ⟨h0, hcells⟩
          obtain ⟨a6, c6, e6⟩ : ∃ a c, u6 = .slice a k c := by
            obtain ⟨ys, r, _⟩ := YE.out.2
            rcases r.2 with ⟨rfl, h0⟩ | ⟨b, cap, cur, rfl, _⟩
            · exact ⟨none, 0, by rw [← h0, BQ.out.1]⟩
            · exact ⟨_, _, by rw [BQ.out.1]⟩
          subst e6
          have GY : Hid (Gb w wr) := gb_trans X.out.1 YE.out.1
          have hsz := GY.out.size
          clear Y hB hlo h0 hcells X
          go_wp2_with (first
            | (at_builtin; refine wpList_append_own_at _ rfl _ _ 35 rfl w.heap.size 22 i0 (.slice none 0 0) 1 24 Try.underlying35 II.out.1 II.out.2.1 II.out.2.2.1 II.out.2.2.2 rfl (by decide) u3 q xs rfl (hown.alloc _) ⟨wr.heap.size, 0, none⟩ 1 1 [.slice a6 k c6] rfl rfl (cell_one_new _ _ _) (by simp [Value.oneCell']) (by simp only [maxLen]; omega) (by omega) (by simp; omega) ?_; intro v5 w5 hown5 hgrow5 hnil5 hloc5)
            | go_in)
          have XN : Hid (Gb w w5 ∧ ∃ lo, Bok w5 w.heap.size v5 (bs.take (q + 1)) s lo ∧ lo (q + 1) = w5.heap.size) := by
            have G5 : Gb w w5 := below_grown (gb_alloc GY.out _) hgrow5 (fun j e => (hown.lt j e).1) (gb_alloc GY.out _).size
            have hA : Gb wr (wr.alloc (.cells #[.slice a6 k c6] 22)) := gb_alloc (Below.refl _ _) _
            have kpA : Kp (fun b => Value.ownBlock u3 = some b) (wr.alloc (.cells #[.slice a6 k c6] 22)) w5 := ⟨hgrow5.os, hgrow5.tape, hgrow5.output, hgrow5.size, fun b hb hn => hgrow5.block b hb (fun e => hn e.symm)⟩
            have ty : ∀ b, Value.ownBlock u3 = some b → ∃ cur, (wr.alloc (.cells #[.slice a6 k c6] 22)).heap[b]? = some (.cells cur 22 (0, 0)) := fun b e => by
              rcases (hown.alloc (.cells #[.slice a6 k c6] 22)).2 with ⟨rfl, _⟩ | ⟨g', cap', cur', rfl, _, hh', _⟩
              · cases e
              · cases e; exact ⟨_, hh'⟩
            have kc : ∀ {L H : Nat} {u : Value} {cs : Vs}, Cpy wr L H u cs s → Cpy w5 L H u cs s := fun c => (c.gb hA).kp kpA (fun b hb cur hc => by
              obtain ⟨cur', hc'⟩ := ty b hb
              rw [hc] at hc'
              simp at hc') (fun b hb ⟨cur, hc⟩ => by
              obtain ⟨cur', hc'⟩ := ty b hb
              rw [hc] at hc'
              simp at hc')
            have hsz5 := hgrow5.size
            rw [World.size_alloc] at hsz5
            have hq0 := YE.out.1.size
            refine ⟨G5, fun i => if i ≤ q then lo i else w5.heap.size, ⟨xs ++ [.slice a6 k c6], ?_, ?_, fun i hi => ?_⟩, if_neg (by omega)⟩
            · rw [CT.out.1, List.length_append, CT.out.2]; exact hown5
            · show w.heap.size ≤ if 0 ≤ q then lo 0 else w5.heap.size
              rw [if_pos (Nat.zero_le _)]; exact HC.out.1
            · show (if i ≤ q then lo i else w5.heap.size) ≤ (if i + 1 ≤ q then lo (i + 1) else w5.heap.size) ∧ ∃ u, (xs ++ [.slice a6 k c6])[i]? = some u ∧ Cpy w5 (if i ≤ q then lo i else w5.heap.size) (if i + 1 ≤ q then lo (i + 1) else w5.heap.size) u (bs.take (q + 1))[i]! s
              rw [CT.out.1] at hi ⊢
              rw [List.length_append, CT.out.2] at hi
              simp only [List.length_cons, List.length_nil] at hi
              have hxl := hown.1
              by_cases e : i < q
              · obtain ⟨h1, u, e1, e2⟩ := HC.out.2 i (by rw [CT.out.2]; exact e)
                rw [if_pos (by omega), if_pos (by omega)]
                refine ⟨h1, u, by rw [List.getElem?_append_left (by omega)]; exact e1, ?_⟩
                have ei : i < (bs.take q).length := by rw [CT.out.2]; exact e
                rw [getElem!_pos (bs.take q ++ [bq]) i (by rw [List.length_append]; omega), List.getElem_append_left ei, ← getElem!_pos (bs.take q) i ei]
                exact kc e2
              · have e' : i = q := by omega
                subst e'
                rw [if_pos (Nat.le_refl _), if_neg (by omega), LO.out]
                refine ⟨by omega, _, by rw [List.getElem?_append_right (by omega), show i - xs.length = 0 by omega]; rfl, ?_⟩
                have e2 : (bs.take i ++ [bq])[i]! = bq := by
                  have hl := CT.out.2
                  rw [getElem!_pos _ _ (by rw [List.length_append, hl]; simp), List.getElem_append_right (by omega)]
                  simp [hl]
                rw [e2]
                exact (kc YE.out.2).up (by omega)
          clear hown hown5 hgrow5 hnil5 hloc5
          go_roundw
          case rel => exact ⟨q + 1, by first | rfl | go_num | simp, hqn, XN⟩
          case measure => simp [intOf]; omega
    · have hqi : ¬ (q : Int) < (m : Int) := by omega
      have E : Hid ((∃ lo, Bok wr w.heap.size u3 bs s lo) ∧ Gb w wr) := by
        have h := X.out
        rw [List.take_of_length_le (by rw [BK.out.len]; omega)] at h
        obtain ⟨g, lo, hb, _⟩ := h
        exact ⟨⟨lo, hb⟩, g⟩
      clear X
      go_wp2
      go_ret
      exact ⟨_, rfl, E.out.1, E.out.2⟩
end Go.Proofs.Ytblfmhdcgmkpgaa
