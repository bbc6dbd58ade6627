/- TopkOffers: the walk. -/
import Derived.Test.YtfefojgncemohaaFirst
import Derived.Test.YtfefojgncemohaaSpoil
import Derived.Test.YtfefojgncemohaaAwake
import Derived.Test.YtfefojgncemohaaLess
import Derived.Test.YtfefojgncemohaaSkip
import Derived.Test.YtfefojgncemohaaQuiet
import Derived.Shelf.SlSortCmp.QuietGrown
namespace Go.Proofs.Ytfefojgncemohaa
open Go.RowKit Go.Sort
attribute [local go_sem ↓] Go.wp_at_zero Go.wp_at_succ

set_option maxHeartbeats 2000000 in
theorem offers_long (k : Int) (a : Option Addr) (n cap : Nat) (hn : 3000 < n) (w : World) :
    Calls Try.prog 4 #[.int .i64 k, .slice a n cap] w fun e w' => e = .returned (.bool true) ∧ Gr w w' := by
  have hni : (3000 : Int) < (n : Int) := by omega
  go_enter Try.func4, Try.ntmps4
  go_wp2_with fail
  refine (awake_any _).mono ?_
  rintro e w1 ⟨rfl, g1⟩
  go_wp2
  go_ret
  exact ⟨rfl, g1⟩
set_option maxHeartbeats 2000000 in
theorem offers_bad1 (k : Int) (hk : k < 1) (a : Option Addr) (n cap : Nat) (hn : n ≤ 3000) (w : World) :
    Calls Try.prog 4 #[.int .i64 k, .slice a n cap] w fun e w' => e = .returned (.bool true) ∧ Gr w w' := by
  have hni : (n : Int) ≤ 3000 := by omega
  have hne := new_bad k (.inl hk) w
  go_enter Try.func4, Try.ntmps4
  go_wp2_with fail
  refine hne.mono ?_
  rintro e w1 ⟨rfl, e1⟩
  subst e1
  go_wp2_with fail
  refine (awake_any _).mono ?_
  rintro e w1 ⟨rfl, g1⟩
  go_wp2
  go_ret
  exact ⟨rfl, g1⟩
set_option maxHeartbeats 2000000 in
theorem offers_bad2 (k : Int) (hk : 64 < k) (a : Option Addr) (n cap : Nat) (hn : n ≤ 3000) (w : World) :
    Calls Try.prog 4 #[.int .i64 k, .slice a n cap] w fun e w' => e = .returned (.bool true) ∧ Gr w w' := by
  have hni : (n : Int) ≤ 3000 := by omega
  have hk1 : ¬ k < 1 := by omega
  have hne := new_bad k (.inr hk) w
  go_enter Try.func4, Try.ntmps4
  go_wp2_with fail
  refine hne.mono ?_
  rintro e w1 ⟨rfl, e1⟩
  subst e1
  go_wp2_with fail
  refine (awake_any _).mono ?_
  rintro e w1 ⟨rfl, g1⟩
  go_wp2
  go_ret
  exact ⟨rfl, g1⟩

/-- The law's own list of the first k, apart from the heap. -/
structure Wt (w W : World) (hb : Nat) (v vv : Value) (m : List Ht) : Prop where
  own : Own W vv m.toArray
  old : ∀ g, vv.ownBlock = some g → w.heap.size ≤ g
  hb : vv.ownBlock ≠ some hb
  ne : ∀ g, vv.ownBlock = some g → v.ownBlock ≠ some g
theorem Wt.on {w W W' : World} {hb : Nat} {v vv : Value} {m : List Ht} (h : Wt w W hb v vv m) (g : Gr W W') : Wt w W' hb v vv m := ⟨own_gr h.own g, h.old, h.hb, h.ne⟩

theorem offered_both {w W W' : World} {hb k : Nat} {v vv : Value} {m mm : List Ht} {x : Ht} (h : St w W hb k v m) (t : Wt w W hb v vv mm) (o : Offered W W' hb k v m x) :
    ∃ v', St w W' hb k v' (keep k m x) ∧ Wt w W' hb v' vv mm := by
  obtain ⟨v', h1, h2, h3⟩ := o
  refine ⟨v', ⟨h1, h.gr.trans (h2.gr h.gr.size ?_), h.hb, ?_⟩, ⟨own_kp t.own h2 ?_, t.old, t.hb, ?_⟩⟩
  · rintro i (e | e)
    · rw [e]; exact h.hb
    · exact h.own i e.symm
  · intro g hg
    rcases h3 with h3 | h3
    · exact h.own g (by rw [← h3]; exact hg)
    · exact Nat.le_trans h.gr.size (h3 g hg)
  · rintro g hg (e | e)
    · exact t.hb (by rw [hg, e])
    · exact t.ne g hg e.symm
  · intro g hg hv
    rcases h3 with h3 | h3
    · exact t.ne g hg (by rw [← h3]; exact hv)
    · have := h3 g hv; have := own_lt t.own hg; omega
theorem St.kp {S : Nat → Prop} {w W W' : World} {hb k : Nat} {v : Value} {m : List Ht} (h : St w W hb k v m) (K : Kp S W W') (h1 : ¬ S hb) (h2 : ∀ g, v.ownBlock = some g → ¬ S g) (h3 : ∀ i, S i → w.heap.size ≤ i) : St w W' hb k v m :=
  ⟨h.has.kp K h1 h2, h.gr.trans (K.gr h.gr.size h3), h.hb, h.own⟩
theorem firsts_ins {k : Nat} {m : List Ht} (x : Ht) (h : Srtd m) : firsts k (ins x m) = keep k m x := by
  unfold firsts keep; rw [srt_of_srtd (ins_srtd x m h)]
theorem six_gr {w0 W w' : World} {p0 p1 p2 p3 p4 p5 : Addr} {v0 v1 v2 v3 v4 v5 : Value} (g : Gr W w')
    (h : Gr w0 W ∧ W.cell? p0 = some v0 ∧ W.cell? p1 = some v1 ∧ W.cell? p2 = some v2 ∧ W.cell? p3 = some v3 ∧ W.cell? p4 = some v4 ∧ W.cell? p5 = some v5) :
    Gr w0 w' ∧ w'.cell? p0 = some v0 ∧ w'.cell? p1 = some v1 ∧ w'.cell? p2 = some v2 ∧ w'.cell? p3 = some v3 ∧ w'.cell? p4 = some v4 ∧ w'.cell? p5 = some v5 := by
  obtain ⟨a, b0, b1, b2, b3, b4, b5⟩ := h
  exact ⟨gr_trans a g, gr_keeps g b0, gr_keeps g b1, gr_keeps g b2, gr_keeps g b3, gr_keeps g b4, gr_keeps g b5⟩
theorem St.srtd {w W : World} {hb k : Nat} {v : Value} {m : List Ht} (h : St w W hb k v m) : Srtd m := by obtain ⟨d, _, _, _, hs, _⟩ := h.has; exact hs
theorem St.len {w W : World} {hb k : Nat} {v : Value} {m : List Ht} (h : St w W hb k v m) : m.length ≤ k ∧ 1 ≤ k ∧ k ≤ 64 := by obtain ⟨d, _, _, _, _, h1, h2, h3⟩ := h.has; exact ⟨h1, h2, h3⟩
theorem keep_pos {k : Nat} (m : List Ht) (x : Ht) (h : 1 ≤ k) : 0 < (keep k m x).length := by
  unfold keep; rw [List.length_take, ins_len]; omega
/-- A list of one's own behind With and First. -/
theorem wt_new {w W W2 W3 : World} {hb k : Nat} {v v2 v3 : Value} {l m : List Ht} (h : St w W hb k v m) (o2 : Out W W2 v2 l) (o3 : Out W2 W3 v3 m) : Wt w W3 hb v v3 m := by
  have hz := h.gr.size
  have h2 := o2.2.1.size
  refine ⟨o3.1, fun g hg => by have := o3.2.2 g hg; omega, fun e => ?_, fun g hg e => ?_⟩
  · have := o3.2.2 hb e; have := h.has.lt; omega
  · have := o3.2.2 g hg; have := h.has.own_lt e; omega

set_option maxHeartbeats 8000000 in
set_option maxRecDepth 100000 in
theorem offers_ok (k : Nat) (k1 : 1 ≤ k) (k2 : k ≤ 64) {w : World} {v : Value} {L : List Ht} (hr : Rd w v L) (hn : L.length ≤ 3000) :
    Calls Try.prog 4 #[.int .i64 (k : Int), v] w fun e w' => e = .returned (.bool true) ∧ Gr w w' := by
  obtain ⟨a, cap, rfl, ha⟩ := hr.form
  have A : Hid (∀ i, i < L.length → ∃ b o, a = some ⟨b, o, none⟩ ∧ Lies w b o L) := ha
  obtain ⟨n, hN⟩ : ∃ n, n = L.length := ⟨_, rfl⟩
  have N : Hid (n = L.length) := hN
  rw [← hN] at hn ⊢
  have S0 : Hid (St w (w.alloc (.cells #[.int .i64 (k : Int), .slice none 0 0] 55)) w.heap.size k (.slice none 0 0) []) := st_new k k1 k2 w w (Below.refl _ _)
  have hnew := new_ok (k : Int) (by omega) (by omega) w
  have hni : (n : Int) ≤ 3000 := by omega
  have hki : ¬ (k : Int) < 1 := by omega
  have hki2 : ¬ 64 < (k : Int) := by omega
  clear hr ha hN
  go_enter Try.func4, Try.ntmps4
  go_wp2_with fail
  refine hnew.mono ?_
  rintro e w1 ⟨rfl, e1⟩
  subst e1
  clear hnew
  generalize w.alloc (.cells #[.int .i64 (k : Int), .slice none 0 0] 55) = w1 at *
  go_wp2
  clear hni hki hki2
  go_loopw [7, 8] (fun vv iv w' => ∃ (r : Nat) (v : Value), iv = .int .i64 (r : Int) ∧ r ≤ n ∧ Hid (St w w' w.heap.size k v (firsts k (L.take r)) ∧ Wt w w' w.heap.size v vv (firsts k (L.take r)))) (fun _ iv _ => n - (intOf iv).toNat)
  case atStart =>
    refine ⟨0, .slice none 0 0, rfl, Nat.zero_le _, ?_, ?_⟩
    · rw [List.take_zero, firsts_nil]; exact S0.out
    · rw [List.take_zero, firsts_nil]; exact ⟨own_nil _, by simp [Value.ownBlock], by simp [Value.ownBlock], by simp [Value.ownBlock]⟩
  case round =>
    obtain ⟨r, v, rfl, hr, X⟩ := hrel
    obtain ⟨m, hm⟩ : ∃ m, m = firsts k (L.take r) := ⟨_, rfl⟩
    have M : Hid (m = firsts k (L.take r)) := hm
    rw [← hm] at X
    clear hm
    by_cases hrn : r < n
    · have hri : (r : Int) < (n : Int) := by omega
      obtain ⟨b, o, ea, hl⟩ := A.out r (by have := N.out; omega)
      subst ea
      have LX : Hid (r < L.length ∧ Lies w b o L) := ⟨by have := N.out; omega, hl⟩
      obtain ⟨x0, x1, x2⟩ := (LX.out.2.gr X.out.1.gr) r LX.out.1
      obtain ⟨x, hx⟩ : ∃ x, x = L[r]! := ⟨_, rfl⟩
      have XX : Hid (x = L[r]!) := hx
      rw [← hx] at x0 x1 x2
      clear hx hl
      obtain ⟨aw, cw', hu⟩ := own_len X.out.2.own
      obtain ⟨q, hq⟩ : ∃ q, q = m.length := ⟨_, rfl⟩
      have Q : Hid (q = m.length) := hq
      rw [List.size_toArray, ← hq] at hu
      subst hu
      have hqk : q ≤ k := by rw [hq]; exact X.out.1.len.1
      clear hq
      by_cases hlt' : q < k
      · have KP : Hid (kept k m x = true) := by unfold Hid kept; rw [decide_eq_true (by rw [← Q.out]; exact hlt')]; rfl
        have hqd : decide ((q : Int) < (k : Int)) = true := decide_eq_true (by omega)
        have HL : Hid (q < k) := hlt'
        clear hqk hlt'
        go_wp2
        refine wp_region_quiet_lit (by kernel_rfl) (by kernel_rfl) ?_
        iterate 5 (quiet_step (fail))
        iterate 10 (refine quiet_skipw (by have h := HL.out; simp [Region.wanted, yielded]; omega) ?_; go_simp)
        repeat (quiet_step (fail))
        refine wpQuiet_nil ?_
        intro nq
        have W0 : Hid (St w (wr.drewN nq) w.heap.size k v m ∧ Wt w (wr.drewN nq) w.heap.size v (.slice aw q cw') m) := ⟨X.out.1.on (below_drewN (Below.refl _ _) _), X.out.2.on (below_drewN (Below.refl _ _) _)⟩
        clear hqd x0 x1 x2
        generalize wr.drewN nq = w0 at *
        obtain ⟨x0, x1, x2⟩ := (LX.out.2.gr W0.out.1.gr) r LX.out.1
        rw [← XX.out] at x0 x1 x2
        have hof := offer_has W0.out.1.has x
        rw [KP.out] at hof
        go_wp2_with fail
        refine hof.mono ?_
        rintro e w2 ⟨rfl, oo⟩
        obtain ⟨v', ss, tt⟩ := offered_both W0.out.1 W0.out.2 oo
        have W2 : Hid (St w w2 w.heap.size k v' (keep k m x) ∧ Wt w w2 w.heap.size v' (.slice aw q cw') m) := ⟨ss, tt⟩
        clear hof oo ss tt x0 x1 x2
        obtain ⟨x0, x1, x2⟩ := (LX.out.2.gr W2.out.1.gr) r LX.out.1
        rw [← XX.out] at x0 x1 x2
        go_wp2_with fail
        refine (with_c W2.out.2.own (by rw [List.size_toArray, ← Q.out]; omega) x).mono ?_
        rintro e w3 ⟨v3, rfl, o3⟩
        have O3 : Hid (Out w2 w3 v3 (ins x m)) := o3
        clear o3 x0 x1 x2
        go_wp2_with fail
        refine (first_c O3.out.1 (by rw [List.size_toArray, ins_len, ← Q.out]; omega) k k2).mono ?_
        rintro e w4 ⟨v4, rfl, o4⟩
        have W4 : Hid (St w w4 w.heap.size k v' (keep k m x) ∧ Wt w w4 w.heap.size v' v4 (keep k m x)) := by
          have o5 : Out w3 w4 v4 (keep k m x) := by
            have h := o4
            rw [show firsts k ((ins x m).toArray.toList) = keep k m x from firsts_ins x W0.out.1.srtd] at h
            exact h
          exact ⟨(W2.out.1.on O3.out.2.1).on o5.2.1, wt_new (W2.out.1) O3.out o5⟩
        clear o4 O3
        obtain ⟨a4, c4, hu4⟩ := own_len W4.out.2.own
        obtain ⟨P, hp⟩ : ∃ P, P = (keep k m x).length := ⟨_, rfl⟩
        obtain ⟨p, hpp⟩ : ∃ p, p + 1 = P := ⟨P - 1, by have := keep_pos m x k1; omega⟩
        have PL : Hid (P = (keep k m x).length ∧ p + 1 = P ∧ p < 64) := ⟨hp, hpp, by have := W4.out.1.len; omega⟩
        rw [List.size_toArray, ← hp] at hu4
        subst hu4
        obtain ⟨m', hm'⟩ : ∃ m', m' = keep k m x := ⟨_, rfl⟩
        have M' : Hid (m' = keep k m x) := hm'
        rw [← hm'] at W4 PL
        clear hp hpp hm' W0 W2
        obtain ⟨y, hy⟩ : ∃ y, y = m'[p]! := ⟨_, rfl⟩
        have hwo := worst_has W4.out.1.has (by have := PL.out; omega)
        rw [show m'.length - 1 = p by have := PL.out; omega, ← hy] at hwo
        have YY : Hid (y = m'[p]!) := hy
        clear hy
        go_wp2_with fail
        refine hwo.mono ?_
        rintro e w5 ⟨rfl, g5⟩
        have W5lt : Hid (w.heap.size < w5.heap.size) := Nat.lt_of_lt_of_le W4.out.1.has.lt g5.size
        have W5o : Hid (∀ g, v'.ownBlock = some g → g < w5.heap.size) := fun g hg => Nat.lt_of_lt_of_le (W4.out.1.has.own_lt hg) g5.size
        have W5w : Hid (∀ g, ((.slice a4 P c4) : Value).ownBlock = some g → g < w5.heap.size) := fun g hg => Nat.lt_of_lt_of_le (own_lt W4.out.2.own hg) g5.size
        have W5 : Hid (St w (w5.alloc (hc y)) w.heap.size k v' m' ∧ Wt w (w5.alloc (hc y)) w.heap.size v' (.slice a4 P c4) m') := ⟨W4.out.1.on (gr_alloc g5 _), W4.out.2.on (gr_alloc g5 _)⟩
        have AY : Hid (At (w5.alloc (hc y)) w5.heap.size y) := at_new w5 y
        clear hwo g5
        go_wp2_with fail
        refine (list_has W5.out.1.has).mono ?_
        rintro e w6 ⟨v6, rfl, o6⟩
        have O6 : Hid (Out (w5.alloc (hc y)) w6 v6 m') := o6
        have W6 : Hid (St w w6 w.heap.size k v' m' ∧ Wt w w6 w.heap.size v' (.slice a4 P c4) m') := ⟨W5.out.1.on o6.2.1, W5.out.2.on o6.2.1⟩
        obtain ⟨c0, c1, c2⟩ := AY.out.gr o6.2.1
        clear o6 W4
        obtain ⟨gw, cw2, ew, hgw, hlw⟩ := own_lies' W6.out.2.own (i := p) (by rw [List.size_toArray]; have := PL.out; omega)
        simp at ew
        obtain ⟨ea4, hPm, ec4⟩ := ew
        subst ea4
        clear ec4 hPm
        obtain ⟨d0, d1, d2⟩ := hlw p (by have := PL.out; simp; omega)
        rw [Nat.zero_add, show (m'.toArray.toList)[p]! = y from YY.out.symm] at d0 d1 d2
        clear hgw hlw
        have he := fun W => hv_ne y y W
        rw [decide_eq_true rfl] at he
        have hp0 : (P : Int) - 1 = (p : Int) := by have := PL.out; omega
        have hp6 : IntKind.i64.wrap (p : Int) = (p : Int) := by rw [IntKind.wrap_i64]; have := PL.out; omega
        have hP : (P : Int) ≤ 64 := by have := PL.out; omega
        have hP1 : (1 : Int) ≤ (P : Int) := by have := PL.out; omega
        have hp1 : (p : Int) < (P : Int) := by have := PL.out; omega
        have hp2 : (0 : Int) ≤ (p : Int) := by omega
        have hl17 := fun n => Calls.quiet_of_same (w := w6) (n := n) (len_has (W6.out.1.has.gr (below_drewN (Below.refl _ _) n)))
        have hl18 := fun n => Calls.quiet_of (w := w6) (n := n) (full_q (W6.out.1.has.gr (below_drewN (Below.refl _ _) n)))
        have hl19 := fun n => Calls.quiet_of (w := w6) (n := n) (same_q ((own_rd O6.out.1).gr (below_drewN (Below.refl _ _) n)) ((own_rd W6.out.2.own).gr (below_drewN (Below.refl _ _) n)) (by have := PL.out; simp; omega))
        rw [show m'.length = P from PL.out.1.symm] at hl17 hl18
        simp only [decide_eq_true] at hl19
        go_wp2
        go_quiet (first | (go_at_call 17; exact hl17 _) | (go_at_call 18; exact hl18 _) | (go_at_call 19; exact hl19 _))
        clear hl17 hl18 hl19 he hp0 hp6 hP hP1 hp1 hp2 c0 c1 c2 d0 d1 d2
        have W7 : Hid (St w (w6.drewN nq) w.heap.size k v' m' ∧ Wt w (w6.drewN nq) w.heap.size v' (.slice (some ⟨gw, 0, none⟩) P c4) m' ∧ Own (w6.drewN nq) v6 m'.toArray) := ⟨W6.out.1.on (below_drewN (Below.refl _ _) _), W6.out.2.on (below_drewN (Below.refl _ _) _), own_gr O6.out.1 (below_drewN (Below.refl _ _) _)⟩
        generalize w6.drewN nq = w7 at *
        go_wp2_with fail
        refine (spoil_out W7.out.2.2).mono ?_
        rintro e w8 ⟨rfl, k8⟩
        have K8 : Hid (Kp (fun b => some b = v6.ownBlock) w7 w8) := k8
        clear k8
        go_wp2
        go_roundw
        case rel =>
          have hz5 := O6.out.2.1.size
          have hfr : ∀ g, v6.ownBlock = some g → w5.heap.size ≤ g := fun g hg => by have := O6.out.2.2 g hg; simp at this; omega
          have hb5 : w.heap.size < w5.heap.size := by have := W5.out.1.has.lt; simp at this; have := W5lt.out; omega
          refine ⟨r + 1, v', by simp, hrn, ?_⟩
          have e1 : firsts k (L.take (r + 1)) = m' := by
            rw [List.take_succ_eq_append_getElem LX.out.1, firsts_snoc, ← getElem!_pos L r LX.out.1, ← XX.out, ← M.out, ← M'.out]
          rw [e1]
          refine ⟨W7.out.1.kp K8.out ?_ ?_ ?_, ⟨own_kp W7.out.2.1.own K8.out ?_, W7.out.2.1.old, W7.out.2.1.hb, W7.out.2.1.ne⟩⟩
          · intro e; have := hfr _ e.symm; omega
          · intro g hg e; have := hfr _ e.symm; have := W5o.out g hg; omega
          · intro i e; have := hfr _ e.symm; omega
          · intro g hg e; have := hfr _ e.symm; have := W5w.out g hg; omega
        case measure => simp [intOf]; omega
      · obtain ⟨tz', htz⟩ : ∃ t, hlt x m[k - 1]! = t := ⟨_, rfl⟩
        cases tz' with
        | true =>
          have TZ : Hid (hlt x m[k - 1]! = true) := htz
          clear htz
          have hqe : k = q := by omega
          subst hqe
          obtain ⟨e0, he0⟩ : ∃ e0, e0 + 1 = k := ⟨k - 1, by omega⟩
          have EM : Hid (e0 + 1 = k ∧ e0 < m.length ∧ m.length = k ∧ k ≤ 64) := ⟨he0, by have := Q.out; omega, by have := Q.out; omega, by omega⟩
          obtain ⟨gw0, cw3, ew, hgw, hlw⟩ := own_lies' X.out.2.own (i := e0) (by rw [List.size_toArray]; exact EM.out.2.1)
          simp at ew
          obtain ⟨ea, hqm, ec⟩ := ew
          subst ea
          clear ec hqm
          obtain ⟨z, hz⟩ : ∃ z, z = m[e0]! := ⟨_, rfl⟩
          obtain ⟨d0, d1, d2⟩ := hlw e0 (by simpa using EM.out.2.1)
          rw [Nat.zero_add, show (m.toArray.toList)[e0]! = z from hz.symm] at d0 d1 d2
          have ZM : Hid (z = m[k - 1]!) := by unfold Hid; rw [hz, show k - 1 = e0 by omega]
          clear hlw hz
          have KP : Hid (kept k m x = true) := by
            unfold Hid kept
            rw [decide_eq_false (by have := EM.out; omega), TZ.out]; rfl
          have hw1 : (k : Int) - 1 = (e0 : Int) := by omega
          have hw2 : IntKind.i64.wrap (e0 : Int) = (e0 : Int) := by rw [IntKind.wrap_i64]; omega
          have hw3 : (0 : Int) ≤ (e0 : Int) := by omega
          have hw4 : (e0 : Int) < (k : Int) := by omega
          have hl9 := fun n os => rless_c x z (grow (wr.drewN n) os)
          rw [show hlt x z = true by rw [ZM.out]; exact TZ.out] at hl9
          have hbx : b < wr.heap.size := World.block_lt_of_cell? _ _ x0
          replace x0 := fun n os => cell_grown (n := n) (os := os) (a := ⟨b, o + r * 3, none⟩) hbx x0
          replace x1 := fun n os => cell_grown (n := n) (os := os) (a := ⟨b, o + r * 3 + 1, none⟩) hbx x1
          replace x2 := fun n os => cell_grown (n := n) (os := os) (a := ⟨b, o + r * 3 + 2, none⟩) hbx x2
          replace d0 := fun n os => cell_grown (n := n) (os := os) (a := ⟨gw0, e0 * 3, none⟩) hgw d0
          replace d1 := fun n os => cell_grown (n := n) (os := os) (a := ⟨gw0, e0 * 3 + 1, none⟩) hgw d1
          replace d2 := fun n os => cell_grown (n := n) (os := os) (a := ⟨gw0, e0 * 3 + 2, none⟩) hgw d2
          have mixed : Try.prog.follows .mixedOrders = true := by kernel_rfl
          clear hgw hbx he0 hqk hlt'
          go_wp2
          go_quiet_grown (first | (go_at_call 9; refine Calls.grown_of (hl9 _ _)))
          have gg : Gr wr (grow (wr.drewN nq) osq) := Gw.gr ⟨nq, osq, rfl⟩
          have W0 : Hid (St w (grow (wr.drewN nq) osq) w.heap.size k v m ∧ Wt w (grow (wr.drewN nq) osq) w.heap.size v (.slice (some ⟨gw0, 0, none⟩) k cw') m) := ⟨X.out.1.on gg, X.out.2.on gg⟩
          clear x0 x1 x2 d0 d1 d2 hl9 hw1 hw2 hw3 hw4 gg
          generalize grow (wr.drewN nq) osq = w0 at *
          obtain ⟨x0, x1, x2⟩ := (LX.out.2.gr W0.out.1.gr) r LX.out.1
          rw [← XX.out] at x0 x1 x2
          have hof := offer_has W0.out.1.has x
          rw [KP.out] at hof
          go_wp2_with fail
          refine hof.mono ?_
          rintro e w2 ⟨rfl, oo⟩
          obtain ⟨v', ss, tt⟩ := offered_both W0.out.1 W0.out.2 oo
          have W2 : Hid (St w w2 w.heap.size k v' (keep k m x) ∧ Wt w w2 w.heap.size v' (.slice (some ⟨gw0, 0, none⟩) k cw') m) := ⟨ss, tt⟩
          clear hof oo ss tt x0 x1 x2
          obtain ⟨x0, x1, x2⟩ := (LX.out.2.gr W2.out.1.gr) r LX.out.1
          rw [← XX.out] at x0 x1 x2
          go_wp2_with fail
          refine (with_c W2.out.2.own (by rw [List.size_toArray, ← Q.out]; omega) x).mono ?_
          rintro e w3 ⟨v3, rfl, o3⟩
          have O3 : Hid (Out w2 w3 v3 (ins x m)) := o3
          clear o3 x0 x1 x2
          go_wp2_with fail
          refine (first_c O3.out.1 (by rw [List.size_toArray, ins_len, ← Q.out]; omega) k k2).mono ?_
          rintro e w4 ⟨v4, rfl, o4⟩
          have W4 : Hid (St w w4 w.heap.size k v' (keep k m x) ∧ Wt w w4 w.heap.size v' v4 (keep k m x)) := by
            have o5 : Out w3 w4 v4 (keep k m x) := by
              have h := o4
              rw [show firsts k ((ins x m).toArray.toList) = keep k m x from firsts_ins x W0.out.1.srtd] at h
              exact h
            exact ⟨(W2.out.1.on O3.out.2.1).on o5.2.1, wt_new (W2.out.1) O3.out o5⟩
          clear o4 O3
          obtain ⟨a4, c4, hu4⟩ := own_len W4.out.2.own
          obtain ⟨P, hp⟩ : ∃ P, P = (keep k m x).length := ⟨_, rfl⟩
          obtain ⟨p, hpp⟩ : ∃ p, p + 1 = P := ⟨P - 1, by have := keep_pos m x k1; omega⟩
          have PL : Hid (P = (keep k m x).length ∧ p + 1 = P ∧ p < 64) := ⟨hp, hpp, by have := W4.out.1.len; omega⟩
          rw [List.size_toArray, ← hp] at hu4
          subst hu4
          obtain ⟨m', hm'⟩ : ∃ m', m' = keep k m x := ⟨_, rfl⟩
          have M' : Hid (m' = keep k m x) := hm'
          rw [← hm'] at W4 PL
          clear hp hpp hm' W0 W2
          obtain ⟨y, hy⟩ : ∃ y, y = m'[p]! := ⟨_, rfl⟩
          have hwo := worst_has W4.out.1.has (by have := PL.out; omega)
          rw [show m'.length - 1 = p by have := PL.out; omega, ← hy] at hwo
          have YY : Hid (y = m'[p]!) := hy
          clear hy
          go_wp2_with fail
          refine hwo.mono ?_
          rintro e w5 ⟨rfl, g5⟩
          have W5lt : Hid (w.heap.size < w5.heap.size) := Nat.lt_of_lt_of_le W4.out.1.has.lt g5.size
          have W5o : Hid (∀ g, v'.ownBlock = some g → g < w5.heap.size) := fun g hg => Nat.lt_of_lt_of_le (W4.out.1.has.own_lt hg) g5.size
          have W5w : Hid (∀ g, ((.slice a4 P c4) : Value).ownBlock = some g → g < w5.heap.size) := fun g hg => Nat.lt_of_lt_of_le (own_lt W4.out.2.own hg) g5.size
          have W5 : Hid (St w (w5.alloc (hc y)) w.heap.size k v' m' ∧ Wt w (w5.alloc (hc y)) w.heap.size v' (.slice a4 P c4) m') := ⟨W4.out.1.on (gr_alloc g5 _), W4.out.2.on (gr_alloc g5 _)⟩
          have AY : Hid (At (w5.alloc (hc y)) w5.heap.size y) := at_new w5 y
          clear hwo g5
          go_wp2_with fail
          refine (list_has W5.out.1.has).mono ?_
          rintro e w6 ⟨v6, rfl, o6⟩
          have O6 : Hid (Out (w5.alloc (hc y)) w6 v6 m') := o6
          have W6 : Hid (St w w6 w.heap.size k v' m' ∧ Wt w w6 w.heap.size v' (.slice a4 P c4) m') := ⟨W5.out.1.on o6.2.1, W5.out.2.on o6.2.1⟩
          obtain ⟨c0, c1, c2⟩ := AY.out.gr o6.2.1
          clear o6 W4
          obtain ⟨gw, cw2, ew, hgw, hlw⟩ := own_lies' W6.out.2.own (i := p) (by rw [List.size_toArray]; have := PL.out; omega)
          simp at ew
          obtain ⟨ea4, hPm, ec4⟩ := ew
          subst ea4
          clear ec4 hPm
          obtain ⟨d0, d1, d2⟩ := hlw p (by have := PL.out; simp; omega)
          rw [Nat.zero_add, show (m'.toArray.toList)[p]! = y from YY.out.symm] at d0 d1 d2
          clear hgw hlw
          have he := fun W => hv_ne y y W
          rw [decide_eq_true rfl] at he
          have hp0 : (P : Int) - 1 = (p : Int) := by have := PL.out; omega
          have hp6 : IntKind.i64.wrap (p : Int) = (p : Int) := by rw [IntKind.wrap_i64]; have := PL.out; omega
          have hP : (P : Int) ≤ 64 := by have := PL.out; omega
          have hP1 : (1 : Int) ≤ (P : Int) := by have := PL.out; omega
          have hp1 : (p : Int) < (P : Int) := by have := PL.out; omega
          have hp2 : (0 : Int) ≤ (p : Int) := by omega
          have hl17 := fun n => Calls.quiet_of_same (w := w6) (n := n) (len_has (W6.out.1.has.gr (below_drewN (Below.refl _ _) n)))
          have hl18 := fun n => Calls.quiet_of (w := w6) (n := n) (full_q (W6.out.1.has.gr (below_drewN (Below.refl _ _) n)))
          have hl19 := fun n => Calls.quiet_of (w := w6) (n := n) (same_q ((own_rd O6.out.1).gr (below_drewN (Below.refl _ _) n)) ((own_rd W6.out.2.own).gr (below_drewN (Below.refl _ _) n)) (by have := PL.out; simp; omega))
          rw [show m'.length = P from PL.out.1.symm] at hl17 hl18
          simp only [decide_eq_true] at hl19
          go_wp2
          go_quiet (first | (go_at_call 17; exact hl17 _) | (go_at_call 18; exact hl18 _) | (go_at_call 19; exact hl19 _))
          clear hl17 hl18 hl19 he hp0 hp6 hP hP1 hp1 hp2 c0 c1 c2 d0 d1 d2
          have W7 : Hid (St w (w6.drewN nq) w.heap.size k v' m' ∧ Wt w (w6.drewN nq) w.heap.size v' (.slice (some ⟨gw, 0, none⟩) P c4) m' ∧ Own (w6.drewN nq) v6 m'.toArray) := ⟨W6.out.1.on (below_drewN (Below.refl _ _) _), W6.out.2.on (below_drewN (Below.refl _ _) _), own_gr O6.out.1 (below_drewN (Below.refl _ _) _)⟩
          generalize w6.drewN nq = w7 at *
          go_wp2_with fail
          refine (spoil_out W7.out.2.2).mono ?_
          rintro e w8 ⟨rfl, k8⟩
          have K8 : Hid (Kp (fun b => some b = v6.ownBlock) w7 w8) := k8
          clear k8
          go_wp2
          go_roundw
          case rel =>
            have hz5 := O6.out.2.1.size
            have hfr : ∀ g, v6.ownBlock = some g → w5.heap.size ≤ g := fun g hg => by have := O6.out.2.2 g hg; simp at this; omega
            have hb5 : w.heap.size < w5.heap.size := by have := W5.out.1.has.lt; simp at this; have := W5lt.out; omega
            refine ⟨r + 1, v', by simp, hrn, ?_⟩
            have e1 : firsts k (L.take (r + 1)) = m' := by
              rw [List.take_succ_eq_append_getElem LX.out.1, firsts_snoc, ← getElem!_pos L r LX.out.1, ← XX.out, ← M.out, ← M'.out]
            rw [e1]
            refine ⟨W7.out.1.kp K8.out ?_ ?_ ?_, ⟨own_kp W7.out.2.1.own K8.out ?_, W7.out.2.1.old, W7.out.2.1.hb, W7.out.2.1.ne⟩⟩
            · intro e; have := hfr _ e.symm; omega
            · intro g hg e; have := hfr _ e.symm; have := W5o.out g hg; omega
            · intro i e; have := hfr _ e.symm; omega
            · intro g hg e; have := hfr _ e.symm; have := W5w.out g hg; omega
          case measure => simp [intOf]; omega
        | false =>
          have TZ : Hid (hlt x m[k - 1]! = false) := htz
          clear htz
          have KM : Hid (keep k m x = m) := keep_no X.out.1.srtd (by have := Q.out; omega) TZ.out
          have hqe : k = q := by omega
          subst hqe
          obtain ⟨e0, he0⟩ : ∃ e0, e0 + 1 = k := ⟨k - 1, by omega⟩
          have EM : Hid (e0 + 1 = k ∧ e0 < m.length ∧ m.length = k ∧ k ≤ 64) := ⟨he0, by have := Q.out; omega, by have := Q.out; omega, by omega⟩
          obtain ⟨gw0, cw3, ew, hgw, hlw⟩ := own_lies' X.out.2.own (i := e0) (by rw [List.size_toArray]; exact EM.out.2.1)
          simp at ew
          obtain ⟨ea, hqm, ec⟩ := ew
          subst ea
          clear ec hqm
          obtain ⟨z, hz⟩ : ∃ z, z = m[e0]! := ⟨_, rfl⟩
          obtain ⟨d0, d1, d2⟩ := hlw e0 (by simpa using EM.out.2.1)
          rw [Nat.zero_add, show (m.toArray.toList)[e0]! = z from hz.symm] at d0 d1 d2
          have ZM : Hid (z = m[k - 1]!) := by unfold Hid; rw [hz, show k - 1 = e0 by omega]
          clear hlw hz
          have KP : Hid (kept k m x = false) := by
            unfold Hid kept
            rw [decide_eq_false (by have := EM.out; omega), TZ.out]; rfl
          have hw1 : (k : Int) - 1 = (e0 : Int) := by omega
          have hw2 : IntKind.i64.wrap (e0 : Int) = (e0 : Int) := by rw [IntKind.wrap_i64]; omega
          have hw3 : (0 : Int) ≤ (e0 : Int) := by omega
          have hw4 : (e0 : Int) < (k : Int) := by omega
          have hl9 := fun n os => rless_c x z (grow (wr.drewN n) os)
          rw [show hlt x z = false by rw [ZM.out]; exact TZ.out] at hl9
          have hbx : b < wr.heap.size := World.block_lt_of_cell? _ _ x0
          replace x0 := fun n os => cell_grown (n := n) (os := os) (a := ⟨b, o + r * 3, none⟩) hbx x0
          replace x1 := fun n os => cell_grown (n := n) (os := os) (a := ⟨b, o + r * 3 + 1, none⟩) hbx x1
          replace x2 := fun n os => cell_grown (n := n) (os := os) (a := ⟨b, o + r * 3 + 2, none⟩) hbx x2
          replace d0 := fun n os => cell_grown (n := n) (os := os) (a := ⟨gw0, e0 * 3, none⟩) hgw d0
          replace d1 := fun n os => cell_grown (n := n) (os := os) (a := ⟨gw0, e0 * 3 + 1, none⟩) hgw d1
          replace d2 := fun n os => cell_grown (n := n) (os := os) (a := ⟨gw0, e0 * 3 + 2, none⟩) hgw d2
          have mixed : Try.prog.follows .mixedOrders = true := by kernel_rfl
          clear hgw hbx he0 hqk hlt'
          go_wp2
          go_quiet_grown (first | (go_at_call 9; refine Calls.grown_of (hl9 _ _)))
          have gg : Gr wr (grow (wr.drewN nq) osq) := Gw.gr ⟨nq, osq, rfl⟩
          have W0 : Hid (St w (grow (wr.drewN nq) osq) w.heap.size k v m ∧ Wt w (grow (wr.drewN nq) osq) w.heap.size v (.slice (some ⟨gw0, 0, none⟩) k cw') m) := ⟨X.out.1.on gg, X.out.2.on gg⟩
          clear x0 x1 x2 d0 d1 d2 hl9 hw1 hw2 hw3 hw4 gg
          generalize grow (wr.drewN nq) osq = w0 at *
          obtain ⟨x0, x1, x2⟩ := (LX.out.2.gr W0.out.1.gr) r LX.out.1
          rw [← XX.out] at x0 x1 x2
          have hof := offer_has W0.out.1.has x
          rw [KP.out] at hof
          go_wp2_with fail
          refine hof.mono ?_
          rintro e w2 ⟨rfl, oo⟩
          obtain ⟨v', ss, tt⟩ := offered_both W0.out.1 W0.out.2 oo
          have W2 : Hid (St w w2 w.heap.size k v' (keep k m x) ∧ Wt w w2 w.heap.size v' (.slice (some ⟨gw0, 0, none⟩) k cw') m) := ⟨ss, tt⟩
          clear hof oo ss tt x0 x1 x2
          have W4 : Hid (St w w2 w.heap.size k v' (keep k m x) ∧ Wt w w2 w.heap.size v' (.slice (some ⟨gw0, 0, none⟩) k cw') (keep k m x)) := ⟨W2.out.1, by have h := W2.out.2; rw [show m = keep k m x from KM.out.symm] at h; exact h⟩
          obtain ⟨a4, c4, hu4⟩ := own_len W4.out.2.own
          obtain ⟨P, hp⟩ : ∃ P, P = (keep k m x).length := ⟨_, rfl⟩
          obtain ⟨p, hpp⟩ : ∃ p, p + 1 = P := ⟨P - 1, by have := keep_pos m x k1; omega⟩
          have PL : Hid (P = (keep k m x).length ∧ p + 1 = P ∧ p < 64) := ⟨hp, hpp, by have := W4.out.1.len; omega⟩
          rw [List.size_toArray, ← hp] at hu4
          simp at hu4
          obtain ⟨ha4, hP4, hc4⟩ := hu4
          subst ha4
          subst hc4
          subst hP4
          obtain ⟨m', hm'⟩ : ∃ m', m' = keep k m x := ⟨_, rfl⟩
          have M' : Hid (m' = keep k m x) := hm'
          rw [← hm'] at W4 PL
          clear hp hpp hm' W0 W2
          obtain ⟨y, hy⟩ : ∃ y, y = m'[p]! := ⟨_, rfl⟩
          have hwo := worst_has W4.out.1.has (by have := PL.out; omega)
          rw [show m'.length - 1 = p by have := PL.out; omega, ← hy] at hwo
          have YY : Hid (y = m'[p]!) := hy
          clear hy
          go_wp2_with fail
          refine hwo.mono ?_
          rintro e w5 ⟨rfl, g5⟩
          have W5lt : Hid (w.heap.size < w5.heap.size) := Nat.lt_of_lt_of_le W4.out.1.has.lt g5.size
          have W5o : Hid (∀ g, v'.ownBlock = some g → g < w5.heap.size) := fun g hg => Nat.lt_of_lt_of_le (W4.out.1.has.own_lt hg) g5.size
          have W5w : Hid (∀ g, ((.slice (some ⟨gw0, 0, none⟩) k cw') : Value).ownBlock = some g → g < w5.heap.size) := fun g hg => Nat.lt_of_lt_of_le (own_lt W4.out.2.own hg) g5.size
          have W5 : Hid (St w (w5.alloc (hc y)) w.heap.size k v' m' ∧ Wt w (w5.alloc (hc y)) w.heap.size v' (.slice (some ⟨gw0, 0, none⟩) k cw') m') := ⟨W4.out.1.on (gr_alloc g5 _), W4.out.2.on (gr_alloc g5 _)⟩
          have AY : Hid (At (w5.alloc (hc y)) w5.heap.size y) := at_new w5 y
          clear hwo g5
          go_wp2_with fail
          refine (list_has W5.out.1.has).mono ?_
          rintro e w6 ⟨v6, rfl, o6⟩
          have O6 : Hid (Out (w5.alloc (hc y)) w6 v6 m') := o6
          have W6 : Hid (St w w6 w.heap.size k v' m' ∧ Wt w w6 w.heap.size v' (.slice (some ⟨gw0, 0, none⟩) k cw') m') := ⟨W5.out.1.on o6.2.1, W5.out.2.on o6.2.1⟩
          obtain ⟨c0, c1, c2⟩ := AY.out.gr o6.2.1
          clear o6 W4
          obtain ⟨gw, cw2, ew, hgw, hlw⟩ := own_lies' W6.out.2.own (i := p) (by rw [List.size_toArray]; have := PL.out; omega)
          simp at ew
          obtain ⟨ea4, hPm, ec4⟩ := ew
          subst ea4
          clear ec4 hPm
          obtain ⟨d0, d1, d2⟩ := hlw p (by have := PL.out; simp; omega)
          rw [Nat.zero_add, show (m'.toArray.toList)[p]! = y from YY.out.symm] at d0 d1 d2
          clear hgw hlw
          have he := fun W => hv_ne y y W
          rw [decide_eq_true rfl] at he
          have hp0 : (k : Int) - 1 = (p : Int) := by have := PL.out; omega
          have hp6 : IntKind.i64.wrap (p : Int) = (p : Int) := by rw [IntKind.wrap_i64]; have := PL.out; omega
          have hP : (k : Int) ≤ 64 := by have := PL.out; omega
          have hP1 : (1 : Int) ≤ (k : Int) := by have := PL.out; omega
          have hp1 : (p : Int) < (k : Int) := by have := PL.out; omega
          have hp2 : (0 : Int) ≤ (p : Int) := by omega
          have hl17 := fun n => Calls.quiet_of_same (w := w6) (n := n) (len_has (W6.out.1.has.gr (below_drewN (Below.refl _ _) n)))
          have hl18 := fun n => Calls.quiet_of (w := w6) (n := n) (full_q (W6.out.1.has.gr (below_drewN (Below.refl _ _) n)))
          have hl19 := fun n => Calls.quiet_of (w := w6) (n := n) (same_q ((own_rd O6.out.1).gr (below_drewN (Below.refl _ _) n)) ((own_rd W6.out.2.own).gr (below_drewN (Below.refl _ _) n)) (by have := PL.out; simp; omega))
          rw [show m'.length = k from PL.out.1.symm] at hl17 hl18
          simp only [decide_eq_true] at hl19
          go_wp2
          go_quiet (first | (go_at_call 17; exact hl17 _) | (go_at_call 18; exact hl18 _) | (go_at_call 19; exact hl19 _))
          clear hl17 hl18 hl19 he hp0 hp6 hP hP1 hp1 hp2 c0 c1 c2 d0 d1 d2
          have W7 : Hid (St w (w6.drewN nq) w.heap.size k v' m' ∧ Wt w (w6.drewN nq) w.heap.size v' (.slice (some ⟨gw0, 0, none⟩) k cw') m' ∧ Own (w6.drewN nq) v6 m'.toArray) := ⟨W6.out.1.on (below_drewN (Below.refl _ _) _), W6.out.2.on (below_drewN (Below.refl _ _) _), own_gr O6.out.1 (below_drewN (Below.refl _ _) _)⟩
          generalize w6.drewN nq = w7 at *
          go_wp2_with fail
          refine (spoil_out W7.out.2.2).mono ?_
          rintro e w8 ⟨rfl, k8⟩
          have K8 : Hid (Kp (fun b => some b = v6.ownBlock) w7 w8) := k8
          clear k8
          go_wp2
          go_roundw
          case rel =>
            have hz5 := O6.out.2.1.size
            have hfr : ∀ g, v6.ownBlock = some g → w5.heap.size ≤ g := fun g hg => by have := O6.out.2.2 g hg; simp at this; omega
            have hb5 : w.heap.size < w5.heap.size := by have := W5.out.1.has.lt; simp at this; have := W5lt.out; omega
            refine ⟨r + 1, v', by simp, hrn, ?_⟩
            have e1 : firsts k (L.take (r + 1)) = m' := by
              rw [List.take_succ_eq_append_getElem LX.out.1, firsts_snoc, ← getElem!_pos L r LX.out.1, ← XX.out, ← M.out, ← M'.out]
            rw [e1]
            refine ⟨W7.out.1.kp K8.out ?_ ?_ ?_, ⟨own_kp W7.out.2.1.own K8.out ?_, W7.out.2.1.old, W7.out.2.1.hb, W7.out.2.1.ne⟩⟩
            · intro e; have := hfr _ e.symm; omega
            · intro g hg e; have := hfr _ e.symm; have := W5o.out g hg; omega
            · intro i e; have := hfr _ e.symm; omega
            · intro g hg e; have := hfr _ e.symm; have := W5w.out g hg; omega
          case measure => simp [intOf]; omega
    · have hri : ¬ (r : Int) < (n : Int) := by omega
      have hrn' : r = n := by omega
      obtain ⟨aw, cw', hu⟩ := own_len X.out.2.own
      obtain ⟨q, hq⟩ : ∃ q, q = m.length := ⟨_, rfl⟩
      have Q : Hid (q = m.length ∧ m.length = min k n) := ⟨hq, by rw [M.out, firsts_len, List.length_take]; have := N.out; omega⟩
      rw [List.size_toArray, ← hq] at hu
      subst hu
      have hle := fun W (g : Gr wr W) => len_has (X.out.1.has.gr g)
      rw [show m.length = q from hq.symm] at hle
      clear hq hrn hrn'
      by_cases h0 : n = 0
      · have hl0 : Hid (m.length = 0) := by unfold Hid; have := Q.out; omega
        subst h0
        go_wp2_with fail
        refine (worst_has_none X.out.1.has hl0.out).mono ?_
        rintro e w2 ⟨rfl, g2⟩
        go_wp2_with fail
        refine (awake_any _).mono ?_
        rintro e w3 ⟨rfl, g3⟩
        have G3 : Gr wr w3 := gr_trans (gr_alloc g2 _) g3
        go_wp2_with fail
        refine (hle w3 G3).mono ?_
        rintro e w4 ⟨rfl, e4⟩
        subst e4
        clear hle
        go_wp2
        go_ret
        exact ⟨rfl, gr_trans X.out.1.gr G3⟩
      · have hl0 : Hid (0 < m.length) := by unfold Hid; have := Q.out; omega
        have hn1 : 0 < n := by omega
        have hn2 : (0 : Int) < (n : Int) := by omega
        clear h0
        have hwo := worst_has X.out.1.has hl0.out
        generalize m[m.length - 1]! = y at hwo
        go_wp2_with fail
        refine hwo.mono ?_
        rintro e w2 ⟨rfl, g2⟩
        clear hwo
        go_wp2_with fail
        refine (awake_any _).mono ?_
        rintro e w3 ⟨rfl, g3⟩
        have G3 : Gr wr w3 := gr_trans (gr_alloc g2 _) g3
        go_wp2_with fail
        refine (hle w3 G3).mono ?_
        rintro e w4 ⟨rfl, e4⟩
        subst e4
        clear hle
        go_wp2
        go_ret
        exact ⟨rfl, gr_trans X.out.1.gr G3⟩
end Go.Proofs.Ytfefojgncemohaa
