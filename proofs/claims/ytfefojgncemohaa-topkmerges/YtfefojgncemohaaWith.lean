/- The reference's With: a sorted list with one more. -/
import Derived.Test.YtfefojgncemohaaMerge
namespace Go.Proofs.Ytfefojgncemohaa
open Go.RowKit Go.Sort
attribute [local go_sem ↓] Go.wp_at_zero Go.wp_at_succ

theorem ins_at (x : Ht) : ∀ (l : List Ht) (q : Nat), (∀ i, i < q → hlt x l[i]! = false) → q ≤ l.length → (q < l.length → hlt x l[q]! = true) → ins x l = l.take q ++ x :: l.drop q
  | [], q, _, hq, _ => by
    obtain rfl : q = 0 := by simpa using hq
    rfl
  | y :: r, 0, _, _, h => by
    have := h (by simp)
    simp only [List.getElem!_cons_zero] at this
    unfold ins
    rw [if_pos this]; rfl
  | y :: r, q + 1, h1, h2, h3 => by
    have h0 := h1 0 (by omega)
    simp only [List.getElem!_cons_zero] at h0
    unfold ins
    rw [if_neg (by rw [h0]; simp), ins_at x r q (fun i hi => by have := h1 (i + 1) (by omega); simpa using this) (by simpa using h2) (fun hq => by have := h3 (by simpa using hq); simpa using this)]
    rfl
/-- Ahead of k stand those that x is not less than. -/
def Ahead (x : Ht) (l : List Ht) (q : Nat) : Prop := ∀ i, i < q → hlt x l[i]! = false

theorem box_on {w W : World} {x : Ht} (g : Gr (w.alloc (.cells #[.int .i64 x.id, .int .u64 x.hi, .int .u64 x.lo] 26)) W) :
    W.cell? ⟨w.heap.size, 0, none⟩ = some (.int .i64 x.id) ∧ W.cell? ⟨w.heap.size, 1, none⟩ = some (.int .u64 x.hi) ∧ W.cell? ⟨w.heap.size, 2, none⟩ = some (.int .u64 x.lo) :=
  ⟨gr_keeps g (by simp [go_sem]), gr_keeps g (by simp [go_sem]), gr_keeps g (by simp [go_sem])⟩
theorem own_zero {w : World} {b : Nat} {v : Value} {n : Nat} {xs : List Value} (h : w.ownsRow b 26 3 v n xs) : w.ownsRow 0 26 3 v n xs := by
  refine ⟨h.1, ?_⟩
  rcases h.2 with h1 | ⟨g, cap, cur, h1, _, h2⟩
  · exact .inl h1
  · exact .inr ⟨g, cap, cur, h1, Nat.zero_le _, h2⟩
theorem lies_take {w : World} {b o : Nat} {l : List Ht} (h : Lies w b o l) (q : Nat) : Lies w b o (l.take q) := fun i hi => by
  have hi' : i < l.length := by rw [List.length_take] at hi; omega
  have e : (l.take q)[i]! = l[i]! := by rw [getElem!_pos _ i hi, getElem!_pos l i hi']; simp
  rw [e]; exact h i hi'
theorem lies_drop {w : World} {b : Nat} {l : List Ht} (h : Lies w b 0 l) (q : Nat) : Lies w b (q * 3) (l.drop q) := fun i hi => by
  have hi' : q + i < l.length := by rw [List.length_drop] at hi; omega
  have e : (l.drop q)[i]! = l[q + i]! := by rw [getElem!_pos _ i hi, getElem!_pos l (q + i) hi']; simp
  rw [e]
  have := h (q + i) hi'
  rw [show 0 + (q + i) * 3 = q * 3 + i * 3 by omega] at this
  exact this
theorem news_new (w : World) (x : Ht) : ∀ j u, (enc x)[j]? = some u → (w.alloc (.cells #[.int .i64 x.id, .int .u64 x.hi, .int .u64 x.lo] 26)).cell? ((⟨w.heap.size, 0, none⟩ : Addr).add j) = some u := by
  intro j u hu
  rw [Addr.add_lit]
  rcases j with _ | _ | _ | j <;> simp [enc] at hu <;> subst hu <;> simp [go_sem]
theorem with_gr {w W w1 w2 : World} {o : Obj} {v1 : Value} {n : Nat} {xs : List Value} (G : Gr w W) (h1 : W.grownBy w1 (Value.ownBlock (.slice none 0 0))) (ho : w1.ownsRow w.heap.size 26 3 v1 n xs) (h2 : (w1.alloc o).grownBy w2 v1.ownBlock) : Gr w w2 := by
  have g1 : Gr w w1 := G.grown h1 G.size (fun k e => by cases e)
  refine (gr_alloc g1 o).grown h2 (gr_alloc g1 o).size (fun k e => (ho.lt k e).1)

theorem with_fin {w w2 w3 : World} {v2 v3 : Value} {n m q : Nat} {xs : List Value} {x : Ht} {d : Array Ht} (G : Gr w w2) (h3 : w3.ownsRow w.heap.size 26 3 v3 (n + m) ([] ++ fl (d.toList.take q) ++ enc x ++ fl (d.toList.drop q)))
    (h2 : w2.ownsRow w.heap.size 26 3 v2 n xs) (hg : w2.grownBy w3 v2.ownBlock) (hi : ins x d.toList = d.toList.take q ++ x :: d.toList.drop q) (hs : n + m = d.toList.length + 1) : Out w w3 v3 (ins x d.toList) := by
  refine ⟨?_, G.grown hg G.size (fun k e => (h2.lt k e).1), fun g e => (h3.lt g e).1⟩
  have e : fl (ins x d.toList) = [] ++ fl (d.toList.take q) ++ enc x ++ fl (d.toList.drop q) := by
    rw [hi, fl_app, show x :: d.toList.drop q = [x] ++ d.toList.drop q from rfl, fl_app, fl_one]; simp
  unfold Own
  rw [show (ins x d.toList).toArray.toList = ins x d.toList from rfl, e, show (ins x d.toList).toArray.size = n + m by rw [List.size_toArray, ins_len, hs]]
  exact own_zero h3

set_option maxHeartbeats 4000000 in
set_option maxRecDepth 100000 in
theorem with_c {w : World} {v : Value} {d : Array Ht} (h : Own w v d) (hn : d.size ≤ 3999) (x : Ht) :
    Calls Try.prog 14 #[v, hv x] w fun e w' => ∃ v', e = .returned v' ∧ Out w w' v' (ins x d.toList) := by
  obtain ⟨i0, z0, hi0, hz0, hz1, hz2, hz3⟩ := info26
  have Z : Hid (Try.prog.info? 26 = some i0 ∧ i0.zero = some z0 ∧ i0.size = 3 ∧ i0.bytes = 24 ∧ z0.cells.size = 3) := ⟨hi0, hz0, hz1, hz2, hz3⟩
  have G0 : Gr w (w.alloc (.cells #[.int .i64 x.id, .int .u64 x.hi, .int .u64 x.lo] 26)) := by go_grown
  clear hi0 hz0 hz1 hz2 hz3
  rcases h.2 with ⟨rfl, h0⟩ | ⟨g, cap, cur, rfl, _, _, hnc, _⟩
  · have D : Hid (d = #[]) := Array.eq_empty_of_size_eq_zero h0
    clear h h0 hn
    go_enter Try.func14, Try.ntmps14
    go_wp2
    refine wp_loop_rounds 1 ?_
    rw [rounds_succ]
    go_wp2
    first | (go_region; skip) | fail
    go_wp2_with (first
      | (at_builtin; refine wpList_append_own _ rfl _ _ 30 rfl w.heap.size 26 i0 z0 3 24 Try.underlying30 Z.out.1 Z.out.2.1 Z.out.2.2.1 Z.out.2.2.2.1 Z.out.2.2.2.2 (by omega) (.slice none 0 0) 0 [] rfl (World.ownsRow_nil _ _ _ _) ⟨w.heap.size + 1, 0, none⟩ 1 1 (enc x) rfl rfl (by intro j u hu; rw [Addr.add_lit]; rcases j with _ | _ | _ | j <;> simp [enc] at hu <;> subst hu <;> simp [go_sem]) (enc_one x) (by simp only [maxLen]; omega) (by omega) (by simp <;> omega) ?_; intro v1 w1 ho1 hg1 _)
      | (at_builtin; refine wpList_append_own_none rfl _ _ 30 rfl w.heap.size 26 i0 3 Try.underlying30 Z.out.1 v1 _ _ rfl ho1 rfl ?_))
    go_ret
    refine ⟨v1, rfl, ?_, ?_, fun k e => (ho1.lt k e).1⟩
    · rw [D.out]
      exact own_zero ho1
    · exact Below.grown (a := w) (by go_grown) hg1 (by simp <;> omega) (fun k e => by cases e)
  · have LL : Hid (Lies w g 0 d.toList) := own_lies h
    have CC : Hid (d.size ≤ cap) := hnc
    obtain ⟨n, hN⟩ : ∃ n, n = d.size := ⟨_, rfl⟩
    have N : Hid (n = d.size) := hN
    rw [← hN] at hn ⊢
    replace CC : Hid (n ≤ cap) := by unfold Hid; rw [hN]; exact hnc
    clear h hN hnc
    go_enter Try.func14, Try.ntmps14
    go_wp2
    go_loopw [5] (fun iv w' => ∃ q : Nat, iv = .int .i64 (q : Int) ∧ q ≤ n ∧ Hid (Ahead x d.toList q ∧ Gr (w.alloc (.cells #[.int .i64 x.id, .int .u64 x.hi, .int .u64 x.lo] 26)) w')) (fun iv _ => n - (intOf iv).toNat)
    case atStart => exact ⟨0, rfl, Nat.zero_le _, ⟨fun i hi => absurd hi (Nat.not_lt_zero _), Below.refl _ _⟩⟩
    case round =>
      obtain ⟨q, rfl, hq, X⟩ := hrel
      by_cases hqn : q < n
      · have hqi : (q : Int) < (n : Int) := by omega
        have hqd : decide ((q : Int) < (n : Int)) = true := decide_eq_true hqi
        obtain ⟨y0, y1, y2⟩ := (LL.out.gr (gr_trans G0 X.out.2)) q (by have := N.out; simp; omega)
        obtain ⟨b0, b1, b2⟩ := box_on X.out.2
        rw [Nat.zero_add] at y0 y1 y2
        obtain ⟨y, hy⟩ : ∃ y, y = d.toList[q]! := ⟨_, rfl⟩
        rw [← hy] at y0 y1 y2
        have Y : Hid (y = d.toList[q]!) := hy
        clear hy
        have C : Gw wr wr := Gw.refl _
        obtain ⟨t, ht⟩ : ∃ t, t = hlt x y := ⟨_, rfl⟩
        have T : Hid (t = hlt x y) := ht
        have hl := fun W => rless_c x y W
        rw [← ht] at hl
        clear ht
        cases t with
        | false =>
          go_wp2
          go_region_held3 (fun w' => Gw wr w' ∧ w'.cell? ⟨w.heap.size, 0, none⟩ = some (.int .i64 x.id) ∧ w'.cell? ⟨w.heap.size, 1, none⟩ = some (.int .u64 x.hi) ∧ w'.cell? ⟨w.heap.size, 2, none⟩ = some (.int .u64 x.lo) ∧ w'.cell? ⟨g, q * 3, none⟩ = some (.int .i64 y.id) ∧ w'.cell? ⟨g, q * 3 + 1, none⟩ = some (.int .u64 y.hi) ∧ w'.cell? ⟨g, q * 3 + 2, none⟩ = some (.int .u64 y.lo)) (first | (with_reducible exact six_call (by assumption) (by assumption)) | (with_reducible assumption) | exact ⟨C.drew, b0, b1, b2, y0, y1, y2⟩) (first | (go_at_call 9; refine (hl _).mono ?_; rintro e w1 ⟨rfl, hg⟩))
          have GX : Hid (Gr (w.alloc (.cells #[.int .i64 x.id, .int .u64 x.hi, .int .u64 x.lo] 26)) w1) := gr_trans X.out.2 (Gw.gr (And.left (by assumption)))
          clear hl
          go_wp2
          go_roundw
          case rel =>
            refine ⟨q + 1, by simp, hqn, ⟨?_, GX.out⟩⟩
            intro i hi
            by_cases e : i = q
            · rw [e, ← Y.out]; exact T.out.symm
            · exact X.out.1 i (by omega)
          case measure => simp [intOf]; omega
        | true =>
          go_wp2
          go_region_held3 (fun w' => Gw wr w' ∧ w'.cell? ⟨w.heap.size, 0, none⟩ = some (.int .i64 x.id) ∧ w'.cell? ⟨w.heap.size, 1, none⟩ = some (.int .u64 x.hi) ∧ w'.cell? ⟨w.heap.size, 2, none⟩ = some (.int .u64 x.lo) ∧ w'.cell? ⟨g, q * 3, none⟩ = some (.int .i64 y.id) ∧ w'.cell? ⟨g, q * 3 + 1, none⟩ = some (.int .u64 y.hi) ∧ w'.cell? ⟨g, q * 3 + 2, none⟩ = some (.int .u64 y.lo)) (first | (with_reducible exact six_call (by assumption) (by assumption)) | (with_reducible assumption) | exact ⟨C.drew, b0, b1, b2, y0, y1, y2⟩) (first | (go_at_call 9; refine (hl _).mono ?_; rintro e w0 ⟨rfl, hg⟩))
          have GX : Gr (w.alloc (.cells #[.int .i64 x.id, .int .u64 x.hi, .int .u64 x.lo] 26)) w0 := gr_trans X.out.2 (Gw.gr (And.left (by assumption)))
          have IA : Hid (ins x d.toList = d.toList.take q ++ x :: d.toList.drop q) := ins_at x _ q X.out.1 (by have := N.out; simp; omega) (fun _ => by rw [← Y.out]; exact T.out.symm)
          clear hl b0 b1 b2 y0 y1 y2 C hqi hqd hg
          have GW : Hid (Gr (w.alloc (.cells #[.int .i64 x.id, .int .u64 x.hi, .int .u64 x.lo] 26)) w0) := GX
          obtain ⟨b0, b1, b2⟩ := box_on GW.out
          have hqc : q ≤ cap := by have := CC.out; omega
          have hq0 : (0 : Int) ≤ (q : Int) := by omega
          have hq1 : (q : Int) ≤ (cap : Int) := by omega
          have hq2 : (q : Int) ≤ (n : Int) := by omega
          have hq3 : (n : Int) ≤ (cap : Int) := by have := CC.out; omega
          clear GX
          go_wp2_with (first
            | (at_builtin; refine wpList_append_own _ rfl _ _ 30 rfl w.heap.size 26 i0 z0 3 24 Try.underlying30 Z.out.1 Z.out.2.1 Z.out.2.2.1 Z.out.2.2.2.1 Z.out.2.2.2.2 (by omega) (.slice none 0 0) 0 [] rfl (World.ownsRow_nil _ _ _ _) ⟨g, 0, none⟩ q cap (fl (d.toList.take q)) rfl (by rw [fl_len, List.length_take]; have := N.out; simp; omega) (lies_news (lies_take (LL.out.gr (gr_trans G0 GW.out)) q)) (fl_one_cell _) (by simp only [maxLen]; omega) (by omega) (gr_trans G0 GW.out).size ?_; intro v1 w1 ho1 hg1 _; have a0 := hg1.cell b0 (by simp [Value.ownBlock]); have a1 := hg1.cell b1 (by simp [Value.ownBlock]); have a2 := hg1.cell b2 (by simp [Value.ownBlock]))
            | (at_builtin; refine wpList_append_own _ rfl _ _ 30 rfl w.heap.size 26 i0 z0 3 24 Try.underlying30 Z.out.1 Z.out.2.1 Z.out.2.2.1 Z.out.2.2.2.1 Z.out.2.2.2.2 (by omega) v1 (0 + q) ([] ++ fl (d.toList.take q)) rfl (ho1.alloc _) ⟨w1.heap.size, 0, none⟩ 1 1 (enc x) rfl rfl (news_new w1 x) (enc_one x) (by simp only [maxLen]; omega) (by omega) (by have h1 := (gr_trans G0 GW.out).size; have h2 := hg1.size; simp <;> omega) ?_; intro v2 w2 ho2 hg2 _)
            | (at_builtin; refine wpList_append_own _ rfl _ _ 30 rfl w.heap.size 26 i0 z0 3 24 Try.underlying30 Z.out.1 Z.out.2.1 Z.out.2.2.1 Z.out.2.2.2.1 Z.out.2.2.2.2 (by omega) v2 (0 + q + 1) ([] ++ fl (d.toList.take q) ++ enc x) rfl ho2 ⟨g, q * 3, none⟩ (n - q) (cap - q) (fl (d.toList.drop q)) rfl (by rw [fl_len, List.length_drop]; have := N.out; simp; omega) (lies_news (lies_drop (LL.out.gr (with_gr (gr_trans G0 GW.out) hg1 ho1 hg2)) q)) (fl_one_cell _) (by simp only [maxLen]; omega) (by omega) (with_gr (gr_trans G0 GW.out) hg1 ho1 hg2).size ?_; intro v3 w3 ho3 hg3 _))
          go_ret
          exact ⟨v3, rfl, with_fin (with_gr (gr_trans G0 GW.out) hg1 ho1 hg2) ho3 ho2 hg3 IA.out (by have := N.out; simp; omega)⟩
      · have hqi : ¬ (q : Int) < (n : Int) := by omega
        have hqd : decide ((q : Int) < (n : Int)) = false := decide_eq_false hqi
        have IA : Hid (ins x d.toList = d.toList.take q ++ x :: d.toList.drop q) := ins_at x _ q X.out.1 (by have := N.out; simp; omega) (fun h => by have := N.out; simp at h; omega)
        have HQ : Hid (¬ q < n) := hqn
        clear hqn
        go_wp2
        have GX : Gr (w.alloc (.cells #[.int .i64 x.id, .int .u64 x.hi, .int .u64 x.lo] 26)) wr.drew := X.out.2.drew
        first | (go_region_with (fail)) | fail
        all_goals
          generalize wr.drew = w0 at *
          clear hqi hqd
          by_cases hcap : q < cap
          · have hcap' : (q : Int) < (cap : Int) := by omega
            have GW : Hid (Gr (w.alloc (.cells #[.int .i64 x.id, .int .u64 x.hi, .int .u64 x.lo] 26)) w0) := GX
            obtain ⟨b0, b1, b2⟩ := box_on GW.out
            have hqc : q ≤ cap := by have := CC.out; omega
            have hq0 : (0 : Int) ≤ (q : Int) := by omega
            have hq1 : (q : Int) ≤ (cap : Int) := by omega
            have hq2 : (q : Int) ≤ (n : Int) := by omega
            have hq3 : (n : Int) ≤ (cap : Int) := by have := CC.out; omega
            clear GX
            go_wp2_with (first
              | (at_builtin; refine wpList_append_own _ rfl _ _ 30 rfl w.heap.size 26 i0 z0 3 24 Try.underlying30 Z.out.1 Z.out.2.1 Z.out.2.2.1 Z.out.2.2.2.1 Z.out.2.2.2.2 (by omega) (.slice none 0 0) 0 [] rfl (World.ownsRow_nil _ _ _ _) ⟨g, 0, none⟩ q cap (fl (d.toList.take q)) rfl (by rw [fl_len, List.length_take]; have := N.out; simp; omega) (lies_news (lies_take (LL.out.gr (gr_trans G0 GW.out)) q)) (fl_one_cell _) (by simp only [maxLen]; omega) (by omega) (gr_trans G0 GW.out).size ?_; intro v1 w1 ho1 hg1 _; have a0 := hg1.cell b0 (by simp [Value.ownBlock]); have a1 := hg1.cell b1 (by simp [Value.ownBlock]); have a2 := hg1.cell b2 (by simp [Value.ownBlock]))
              | (at_builtin; refine wpList_append_own _ rfl _ _ 30 rfl w.heap.size 26 i0 z0 3 24 Try.underlying30 Z.out.1 Z.out.2.1 Z.out.2.2.1 Z.out.2.2.2.1 Z.out.2.2.2.2 (by omega) v1 (0 + q) ([] ++ fl (d.toList.take q)) rfl (ho1.alloc _) ⟨w1.heap.size, 0, none⟩ 1 1 (enc x) rfl rfl (news_new w1 x) (enc_one x) (by simp only [maxLen]; omega) (by omega) (by have h1 := (gr_trans G0 GW.out).size; have h2 := hg1.size; simp <;> omega) ?_; intro v2 w2 ho2 hg2 _)
              | (at_builtin; refine wpList_append_own _ rfl _ _ 30 rfl w.heap.size 26 i0 z0 3 24 Try.underlying30 Z.out.1 Z.out.2.1 Z.out.2.2.1 Z.out.2.2.2.1 Z.out.2.2.2.2 (by omega) v2 (0 + q + 1) ([] ++ fl (d.toList.take q) ++ enc x) rfl ho2 ⟨g, q * 3, none⟩ (n - q) (cap - q) (fl (d.toList.drop q)) rfl (by rw [fl_len, List.length_drop]; have := N.out; simp; omega) (lies_news (lies_drop (LL.out.gr (with_gr (gr_trans G0 GW.out) hg1 ho1 hg2)) q)) (fl_one_cell _) (by simp only [maxLen]; omega) (by omega) (with_gr (gr_trans G0 GW.out) hg1 ho1 hg2).size ?_; intro v3 w3 ho3 hg3 _))
            go_ret
            exact ⟨v3, rfl, with_fin (with_gr (gr_trans G0 GW.out) hg1 ho1 hg2) ho3 ho2 hg3 IA.out (by have := N.out; simp; omega)⟩
          · have hce : q = cap := by have := CC.out; have := HQ.out; omega
            have DR : Hid (fl (d.toList.drop q) = []) := by
              have := N.out; have := HQ.out
              unfold Hid
              rw [List.drop_of_length_le (by simp; omega)]; rfl
            have hne' : q = n := by have := HQ.out; omega
            subst hce
            subst hne'
            clear hcap
            have GW : Hid (Gr (w.alloc (.cells #[.int .i64 x.id, .int .u64 x.hi, .int .u64 x.lo] 26)) w0) := GX
            obtain ⟨b0, b1, b2⟩ := box_on GW.out
            have hqc : q ≤ q := by have := CC.out; omega
            have hq0 : (0 : Int) ≤ (q : Int) := by omega
            have hq1 : (q : Int) ≤ (q : Int) := by omega
            have hq2 : (q : Int) ≤ (q : Int) := by omega
            have hq3 : (q : Int) ≤ (q : Int) := by have := CC.out; omega
            clear GX
            go_wp2_with (first
              | (at_builtin; refine wpList_append_own _ rfl _ _ 30 rfl w.heap.size 26 i0 z0 3 24 Try.underlying30 Z.out.1 Z.out.2.1 Z.out.2.2.1 Z.out.2.2.2.1 Z.out.2.2.2.2 (by omega) (.slice none 0 0) 0 [] rfl (World.ownsRow_nil _ _ _ _) ⟨g, 0, none⟩ q q (fl (d.toList.take q)) rfl (by rw [fl_len, List.length_take]; have := N.out; simp; omega) (lies_news (lies_take (LL.out.gr (gr_trans G0 GW.out)) q)) (fl_one_cell _) (by simp only [maxLen]; omega) (by omega) (gr_trans G0 GW.out).size ?_; intro v1 w1 ho1 hg1 _; have a0 := hg1.cell b0 (by simp [Value.ownBlock]); have a1 := hg1.cell b1 (by simp [Value.ownBlock]); have a2 := hg1.cell b2 (by simp [Value.ownBlock]))
              | (at_builtin; refine wpList_append_own _ rfl _ _ 30 rfl w.heap.size 26 i0 z0 3 24 Try.underlying30 Z.out.1 Z.out.2.1 Z.out.2.2.1 Z.out.2.2.2.1 Z.out.2.2.2.2 (by omega) v1 (0 + q) ([] ++ fl (d.toList.take q)) rfl (ho1.alloc _) ⟨w1.heap.size, 0, none⟩ 1 1 (enc x) rfl rfl (news_new w1 x) (enc_one x) (by simp only [maxLen]; omega) (by omega) (by have h1 := (gr_trans G0 GW.out).size; have h2 := hg1.size; simp <;> omega) ?_; intro v2 w2 ho2 hg2 _)
              | (at_builtin; refine wpList_append_own _ rfl _ _ 30 rfl w.heap.size 26 i0 z0 3 24 Try.underlying30 Z.out.1 Z.out.2.1 Z.out.2.2.1 Z.out.2.2.2.1 Z.out.2.2.2.2 (by omega) v2 (0 + q + 1) ([] ++ fl (d.toList.take q) ++ enc x) rfl ho2 _ 0 _ [] rfl (by simp) (by simp) (by simp) (by simp only [maxLen]; omega) (by omega) (with_gr (gr_trans G0 GW.out) hg1 ho1 hg2).size ?_; intro v3 w3 ho3 hg3 _))
            go_ret
            exact ⟨v3, rfl, with_fin (with_gr (gr_trans G0 GW.out) hg1 ho1 hg2) (by rw [DR.out]; exact ho3) ho2 hg3 IA.out (by have := N.out; have := N.out; simp; omega)⟩
end Go.Proofs.Ytfefojgncemohaa
