/- Centres in memory of the call's own; kmeans.drawn. -/
import Derived.Test.YtblfmhdcgmkpgaaKBel
namespace Go.Proofs.Ytblfmhdcgmkpgaa
open Go.RowKit Go.Maps

theorem own_arr {w : World} {B : Nat} {v : Value} {l : List Int} (h : Own w B v l) (h0 : 1 ≤ l.length) : ∃ g cap, v = .slice (some ⟨g, 0, none⟩) l.length cap ∧ B ≤ g ∧ Rn.Arr w g l.length cap (fun t => l[t]!) := by
  rcases h.2 with ⟨rfl, h1⟩ | ⟨g, cap, cur, rfl, h1, h2, h3, h4, h5, h6⟩
  · omega
  · refine ⟨g, cap, rfl, h1, cur, h2, by omega, h3, fun i hi => ?_⟩
    rw [Nat.mul_one] at h6
    have h7 : (cur.toList.take l.length)[i]? = some (.int .i64 l[i]!) := by
      rw [h6, List.getElem?_map, List.getElem?_eq_getElem hi, getElem!_pos l i hi]; rfl
    rw [List.getElem?_take_of_lt hi] at h7
    rwa [Array.getElem?_toList] at h7

/-- k centres of dimension d, coordinate t of centre i being f i t: in blocks from B on, all apart. -/
structure Cen (B : Nat) (W : World) (cb : Nat) (gs cp : Nat → Nat) (k d : Nat) (f : Nat → Nat → Int) : Prop where
  row : W.rowIs cb 40 k (fun i => .slice (some ⟨gs i, 0, none⟩) d (cp i))
  arr : ∀ i, i < k → Rn.Arr W (gs i) d (cp i) (f i)
  base : ∀ i, i < k → B ≤ gs i
  hB : B ≤ cb
  ne : ∀ i, i < k → gs i ≠ cb
  inj : ∀ i j, i < k → j < k → gs i = gs j → i = j
/-- The coordinates of centres. -/
def cenF (cs : Vs) : Nat → Nat → Int := fun i t => cs[i]![t]!
theorem Cen.rd {B : Nat} {W : World} {cb : Nat} {gs cp : Nat → Nat} {k d : Nat} {cs : Vs} (h : Cen B W cb gs cp k d (cenF cs)) (hk : cs.length = k) (hd : ∀ i, i < k → cs[i]!.length = d) : RdV W (.slice (some ⟨cb, 0, none⟩) k k) cs := by
  refine ⟨some ⟨cb, 0, none⟩, k, by rw [hk], fun i hi => ?_⟩
  rw [hk] at hi
  refine ⟨cb, 0, _, rfl, by rw [Nat.zero_add]; exact h.row.cell hi, ?_⟩
  exact arr_rd (h.arr i hi) (hd i hi) (fun t _ => rfl)
theorem Cen.kp {B : Nat} {W W' : World} {cb : Nat} {gs cp : Nat → Nat} {k d : Nat} {f : Nat → Nat → Int} {S : Nat → Prop} (h : Cen B W cb gs cp k d f) (g : Kp S W W') (h1 : ¬ S cb) (h2 : ∀ i, i < k → ¬ S (gs i)) : Cen B W' cb gs cp k d f :=
  ⟨h.row.of_block (g.block _ h.row.lt h1), fun i hi => arr_kp (h.arr i hi) g (h2 i hi), h.base, h.hB, h.ne, h.inj⟩
theorem Cen.gb {B : Nat} {W W' : World} {cb : Nat} {gs cp : Nat → Nat} {k d : Nat} {f : Nat → Nat → Int} (h : Cen B W cb gs cp k d f) (g : Gb W W') : Cen B W' cb gs cp k d f :=
  h.kp (S := fun _ => False) (Kp.gb g) id (fun _ _ => id)

/-- Behind q rounds of drawn. -/
structure Dr (w W : World) (cb ob : Nat) (gs cp : Nat → Nat) (k d n q : Nat) (p : Nat → Int) (f : Nat → Nat → Int) : Prop where
  row : W.rowIs cb 40 k (fun i => if i < q then .slice (some ⟨gs i, 0, none⟩) d (cp i) else .slice none 0 0)
  arr : ∀ i, i < q → Rn.Arr W (gs i) d (cp i) (f i)
  base : ∀ i, i < q → w.heap.size ≤ gs i
  hB : w.heap.size ≤ cb
  ne : ∀ i, i < q → gs i ≠ cb
  inj : ∀ i j, i < q → j < q → gs i = gs j → i = j
  ord : Rn.Arr W ob n n p
  neo : ob ≠ cb
  gb : Gb w W
theorem Dr.next {w W W2 : World} {cb ob : Nat} {gs cp : Nat → Nat} {k d n q : Nat} {p : Nat → Int} {f : Nat → Nat → Int} {g cap : Nat} {x : List Int} (h : Dr w W cb ob gs cp k d n q p f) (hq : q < k) (gb2 : Gb W W2)
    (hg : W.heap.size ≤ g) (hA : Rn.Arr W2 g d cap (fun t => x[t]!)) (hf : ∀ t, f q t = x[t]!) :
    Dr w (W2.setCell ⟨cb, q, none⟩ (.slice (some ⟨g, 0, none⟩) d cap)) cb ob (fun i => if i = q then g else gs i) (fun i => if i = q then cap else cp i) k d n (q + 1) p f := by
  have hcb := h.row.lt
  have keep : ∀ {b n' c' : Nat} {f' : Nat → Int}, Rn.Arr W2 b n' c' f' → b ≠ cb → Rn.Arr (W2.setCell ⟨cb, q, none⟩ (.slice (some ⟨g, 0, none⟩) d cap)) b n' c' f' := fun ha hn => ha.other (Ne.symm hn) _
  have old : ∀ {b n' c' : Nat} {f' : Nat → Int}, Rn.Arr W b n' c' f' → Rn.Arr W2 b n' c' f' := fun ha => arr_kp (S := fun _ => False) ha (Kp.gb gb2) id
  have hlt : ∀ i, i < q → gs i < W.heap.size := fun i hi => (h.arr i hi).lt
  have hs := h.gb.size
  refine ⟨((h.row.of_block (gb2.block _ hcb)).set q _).congr (fun i hi => ?_), fun i hi => ?_, fun i hi => ?_, h.hB, fun i hi => ?_, fun i j hi hj e => ?_, keep (old h.ord) h.neo, h.neo, gb_set (gb_trans h.gb gb2) h.hB _⟩
  · by_cases e : i = q
    · subst e; simp
    · simp only [if_neg e]
      by_cases e2 : i < q
      · rw [if_pos e2, if_pos (by omega)]
      · rw [if_neg e2, if_neg (by omega)]
  · by_cases e : i = q
    · subst e
      simp only [if_true]
      exact keep (hA.congr (fun t _ => (hf t).symm)) (by omega)
    · simp only [if_neg e]
      exact keep (old (h.arr i (by omega))) (h.ne i (by omega))
  · by_cases e : i = q
    · simp only [if_pos e]; omega
    · simp only [if_neg e]; exact h.base i (by omega)
  · by_cases e : i = q
    · simp only [if_pos e]; omega
    · simp only [if_neg e]; exact h.ne i (by omega)
  · by_cases e1 : i = q
    · by_cases e2 : j = q
      · omega
      · simp only [if_pos e1, if_neg e2] at e
        have := hlt j (by omega); omega
    · by_cases e2 : j = q
      · simp only [if_neg e1, if_pos e2] at e
        have := hlt i (by omega); omega
      · simp only [if_neg e1, if_neg e2] at e
        exact h.inj i j (by omega) (by omega) e

set_option maxHeartbeats 4000000 in
set_option maxRecDepth 100000 in
theorem drawn_c {w : World} {lv : Value} {l : Vs} {d : Nat} (hl : RdV w lv l) (hlo : VsOk l (d : Int)) (k : Nat) (hk1 : 1 ≤ k) (hk : k ≤ l.length) (hn : l.length ≤ 512) (x : Int) (hx : Rn.U x) :
    Calls Try.prog 70 #[lv, .int .i64 (k : Int), .int .u64 x] w fun e w' => ∃ cb gs cp, e = .returned (.slice (some ⟨cb, 0, none⟩) k k) ∧ Cen w.heap.size w' cb gs cp k d (cenF (drawnV l k x)) ∧ Gb w w' := by
  have L : Hid (RdV w lv l) := hl
  have K : Hid (VsOk l (d : Int)) := hlo
  have PE : Hid (Rn.Per l.length (Rn.pS x l.length (l.length - 1))) := Rn.per_pS x l.length (l.length - 1) (Nat.le_refl _)
  have DG : Hid (∀ i, i < k → (drawnV l k x)[i]! = l[(Rn.pS x l.length (l.length - 1) i).toNat]!) := fun i hi => drawnV_get l x hi
  obtain ⟨al, cl, rfl, _⟩ := hl
  obtain ⟨n, hN⟩ : ∃ n, n = l.length := ⟨_, rfl⟩
  have N : Hid (n = l.length) := hN
  rw [← hN] at L hk hn PE DG ⊢
  clear hlo hN
  have bB : Boxed (w.alloc (.cells #[.int .u64 x] 115)) w.heap.size 115 (.int .u64 x) := Boxed.new w _ _
  have cP := Rn.perm_ok w.heap.size n x _ bB hx (by omega)
  rw [World.size_alloc] at cP
  go_enter Try.func70, Try.ntmps70
  go_wp2_with fail
  refine (Rn.new_c x w).mono ?_
  rintro e w1 ⟨rfl, rfl⟩
  go_wp2_with fail
  refine cP.mono ?_
  rintro e w2 ⟨rfl, hA, _, g2⟩
  clear cP bB
  have G2 : Gb w w2 := below_grown (gb_alloc (Below.refl _ _) _) g2 (fun b e => by cases e; exact Nat.le_refl _) (by rw [World.size_alloc]; omega)
  have hmk := run_make_row' (P := Try.prog) 22 40 (.slice none 0 0) 24 Try.underlying22 Try.infoV rfl .i64 .i64 k (by omega) (by omega) w2
  have hlt := hA.lt
  have D0 : Dr w (w2.alloc (.cells (madeCells #[Value.slice none 0 0] k) 40)) w2.heap.size (w.heap.size + 1) (fun _ => 0) (fun _ => 0) k d n 0 (Rn.pS x n (n - 1)) (cenF (drawnV l k x)) :=
    ⟨(World.rowIs_made w2 _ k _).congr (fun i _ => by simp), fun i hi => absurd hi (Nat.not_lt_zero _), fun i hi => absurd hi (Nat.not_lt_zero _), G2.size, fun i hi => absurd hi (Nat.not_lt_zero _), fun i j hi => absurd hi (Nat.not_lt_zero _), hA.alloc _, by omega, gb_alloc G2 _⟩
  generalize w2.alloc (.cells (madeCells #[Value.slice none 0 0] k) 40) = W0 at *
  generalize w2.heap.size = cb at *
  generalize w.heap.size + 1 = ob at *
  clear hA g2 G2 hlt
  go_wp2
  clear hmk
  go_loopw [22] (fun iv W => ∃ (q : Nat) (gs cp : Nat → Nat), iv = .int .i64 (q : Int) ∧ q ≤ k ∧ Hid (Dr w W cb ob gs cp k d n q (Rn.pS x n (n - 1)) (cenF (drawnV l k x)))) (fun iv _ => k - (intOf iv).toNat)
  case atStart => exact ⟨0, _, _, rfl, Nat.zero_le _, D0⟩
  case round =>
    clear D0
    obtain ⟨q, gs, cp, rfl, hq, X⟩ := hrel
    by_cases hqn : q < k
    · have hqi : (q : Int) < (k : Int) := by omega
      have hqn' : (q : Int) < (n : Int) := by omega
      have hp := PE.out.1 q (by omega)
      have c1 := X.out.ord.cell (i := q) (by omega)
      obtain ⟨j, hj⟩ : ∃ j : Nat, Rn.pS x n (n - 1) q = (j : Int) := ⟨(Rn.pS x n (n - 1) q).toNat, by omega⟩
      have DQ := DG.out q hqn
      rw [hj] at hp c1 DQ
      rw [Int.toNat_natCast] at DQ
      have hjl : j < l.length := by have := N.out; omega
      have hji : (j : Int) < (n : Int) := hp.2
      obtain ⟨b1, o1, u1, ea, k1, k2⟩ := cen_at L.out hjl
      subst ea
      have g1 := X.out.gb
      have x0 := gb_keeps g1 k1
      have hd := K.out.get hjl
      have cC := clone_c (k2.gb g1) (by omega) hd.1
      have r0 := X.out.row.cell hqn
      have r1 := X.out.row.frozen q
      simp only [Nat.lt_irrefl, if_false] at r0
      obtain ⟨pu, cu, rfl, _⟩ := k2
      have FQ : Hid (∀ t, cenF (drawnV l k x) q t = l[j]![t]!) := fun t => by unfold cenF; rw [DQ]
      have hdl : d = l[j]!.length := by omega
      generalize l[j]! = y at *
      have HY : Hid (d = y.length ∧ 1 ≤ y.length) := ⟨hdl, hd.1⟩
      rw [← hdl] at x0 cC
      clear k1 hj DQ hd hdl hp
      go_wp2_with fail
      refine cC.mono ?_
      rintro e w4 ⟨v', rfl, ho, g4⟩
      obtain ⟨g, cap, ev, hg, hA4⟩ := own_arr ho HY.out.2
      rw [← HY.out.1] at ev hA4
      subst ev
      have X2 := X.out.next hqn g4 hg hA4 FQ.out
      have r2 := gb_keeps g4 r0
      have r3 : w4.frozen? ⟨cb, q, none⟩ = false := (World.frozen?_of_block (g4.block cb X.out.row.lt)).trans r1
      clear cC ho X g4 hg hA4 r0 r1 g1 x0 c1
      go_wp2
      go_roundw
      case rel => exact ⟨q + 1, _, _, by go_num, hqn, X2⟩
      case measure => simp [intOf]; omega
    · have hqi : ¬ (q : Int) < (k : Int) := by omega
      have hqk : q = k := by omega
      subst hqk
      have X' := X.out
      clear X
      go_wp2
      go_ret
      exact ⟨cb, rfl, ⟨gs, cp, ⟨X'.row.congr (fun i hi => by rw [if_pos hi]), X'.arr, X'.base, X'.hB, X'.ne, X'.inj⟩⟩, X'.gb⟩
end Go.Proofs.Ytblfmhdcgmkpgaa
