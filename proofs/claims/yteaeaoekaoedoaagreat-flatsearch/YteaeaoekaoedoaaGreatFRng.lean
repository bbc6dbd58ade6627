/- flat.Range. -/
import Derived.Test.YteaeaoekaoedoaaGreatM28
namespace Go.Proofs.YteaeaoekaoedoaaGreat
open Go.RowKit Go.Shelf Go.Sort Go.Lib
attribute [local go_sem] Oper.semAt_some

/-- Here a walk stands still. -/
def Stop (p : Prop) : Prop := p
theorem stop_at {p : Prop} (h : Stop p) : p := h

/-- Is a hit no farther than a radius? -/
def inRad (rh rl : Int) (x : Tk.Ht) : Bool := decide (Tk.cw x.2.1 x.2.2 rh rl ≤ 0)
def nearL (rh rl : Int) (q : List Int) (rs : List Rw) : List Tk.Ht := (hitsOf q rs).filter (inRad rh rl)
theorem nearL_snoc (rh rl : Int) (q : List Int) {rs : List Rw} {i : Nat} (h : i < rs.length) : nearL rh rl q (rs.take (i + 1)) = nearL rh rl q (rs.take i) ++ if inRad rh rl (hitOf q rs[i]!) = true then [hitOf q rs[i]!] else [] := by
  unfold nearL
  rw [hitsOf_snoc q h, List.filter_append]
  congr 1
  split
  · rename_i e; simp only [List.filter_cons, e, if_true, List.filter_nil]
  · rename_i e; simp only [List.filter_cons, e, List.filter_nil]; rfl
theorem nearL_len (rh rl : Int) (q : List Int) (rs : List Rw) : (nearL rh rl q rs).length ≤ rs.length := by
  unfold nearL; exact Nat.le_trans (List.length_filter_le _ _) (by rw [hitsOf_len]; exact Nat.le_refl _)

def RadBox (W : World) (p : Nat) (rh rl : Int) : Prop := W.heap[p]? = some (.cells #[.int .u64 rh, .int .u64 rl] 39 (0, 0))
theorem RadBox.cells {W : World} {p : Nat} {rh rl : Int} (h : RadBox W p rh rl) : W.cell? ⟨p, 0, none⟩ = some (.int .u64 rh) ∧ W.cell? ⟨p, 1, none⟩ = some (.int .u64 rl) := by
  have e : W.heap[p]? = _ := h
  refine ⟨?_, ?_⟩ <;> simp [World.cell?, e]
theorem RadBox.gb {W W' : World} {p : Nat} {rh rl : Int} (h : RadBox W p rh rl) (g : Gb W W') : RadBox W' p rh rl := gb_same g h
theorem ownFrom_rad {B p : Nat} {rh rl : Int} : OwnFrom B (fun (_ : Nat) W => RadBox W p rh rl) := fun j W W' row h hg hr => by
  have e : W.heap[p]? = _ := h
  refine (hg.block p (Array.getElem?_eq_some_iff.1 e).1 ?_).trans e
  intro e2
  obtain ⟨_, o, ho, hc⟩ := hr p e2.symm
  rw [e] at ho; injection ho with ho; subst ho; cases hc
theorem ownFrom_own {B : Nat} {v : Value} {d : Nat → Array Tk.Ht} : OwnFrom B (fun (j : Nat) W => Tk.Own W v (d j)) := fun j W W' row h hg hr => by
  refine Tk.own_kp h (Tk.Kp.grown hg) fun g hg' e => ?_
  rcases h.2 with ⟨rfl, _⟩ | ⟨g', cap', cur, rfl, _, hh, _⟩
  · cases hg'
  · simp only [Value.ownBlock, Option.some.injEq] at hg'
    subst hg'
    obtain ⟨_, o, ho, hc⟩ := hr _ e.symm
    rw [hh] at ho; injection ho with ho; subst ho; cases hc
theorem Boxed.gb {W W' : World} {B : Nat} {t : TypeId} {v : Value} (h : Boxed W B t v) (g : Gb W W') : Boxed W' B t v := gb_same g h
theorem own_type {W : World} {v : Value} {d : Array Tk.Ht} (h : Tk.Own W v d) {g : Nat} (hg : v.ownBlock = some g) : ∃ cs, W.heap[g]? = some (.cells cs 57 (0, 0)) := by
  rcases h.2 with ⟨rfl, _⟩ | ⟨g', cap', cur, rfl, _, hh, _⟩
  · cases hg
  · simp only [Value.ownBlock, Option.some.injEq] at hg
    exact ⟨cur, by rw [← hg]; exact hh⟩
theorem box_ne_own {W : World} {v : Value} {d : Array Tk.Ht} (h : Tk.Own W v d) {B : Nat} {cs : Array Value} {t : TypeId} (b : W.heap[B]? = some (.cells cs t (0, 0))) (h1 : t ≠ 57) : some B ≠ v.ownBlock := by
  intro e
  obtain ⟨cs', e3⟩ := own_type h e.symm
  rw [b] at e3; simp at e3; exact h1 e3.2

theorem own_slice {W : World} {v : Value} {d : Array Tk.Ht} (h : Tk.Own W v d) : ∃ a n c, v = .slice a n c := by
  rcases h.2 with ⟨rfl, _⟩ | ⟨g', cap', cur, rfl, _⟩
  · exact ⟨_, _, _, rfl⟩
  · exact ⟨_, _, _, rfl⟩
/-- Behind j rounds. -/
def RngAt (w0 : World) (Bn Bd Br Bq : Nat) (v u : Value) (rs : List Rw) (q : List Int) (rh rl : Int) (j : Nat) (W : World) : Prop :=
  ∃ vn, Boxed W Bn 29 vn ∧ Tk.Own W vn (nearL rh rl q (rs.take j)).toArray ∧ (∀ g, vn.ownBlock = some g → w0.heap.size ≤ g) ∧ Below w0.heap.size w0 W ∧ RadBox W Bd rh rl ∧ Boxed W Br 22 v ∧ Boxed W Bq 23 u
theorem ownFrom_rng {w0 : World} {B Bn Bd Br Bq : Nat} {v u : Value} {rs : List Rw} {q : List Int} {rh rl : Int} (hB : w0.heap.size ≤ B) : OwnFrom B (RngAt w0 Bn Bd Br Bq v u rs q rh rl) :=
  ownFrom_ex fun _ => ownFrom_box.and (ownFrom_own.and ((ownFrom_pure B _).and ((ownFrom_below (Nat.le_refl _) hB).and (ownFrom_rad.and (ownFrom_box.and ownFrom_box)))))

set_option maxRecDepth 100000 in
set_option maxHeartbeats 4000000 in
theorem rng_ok {w : World} {v u : Value} {rs : List Rw} {q : List Int} (rh rl : Int) (hv : RdW w v rs) (hu : RdI w u q) (hwf : Wf rs) (hask : askE rs q = 0) :
    Calls Tryz.prog 18 #[v, u, .agg #[.int .u64 rh, .int .u64 rl]] w fun e w' => ∃ v', e = .returned (.tuple #[v', .int .i64 0]) ∧ OutH w w' v' (Tk.srt (nearL rh rl q rs)) := by
  have hlen : rs.length ≤ 512 := (askE_zero.1 hask).2.few
  have G0 : Gb w (w.alloc (.cells #[.int .u64 rh, .int .u64 rl] 39)) := gb_alloc (Below.refl _ _) _
  have ca := ask_c (hv.gb G0) (hu.gb G0) hwf
  rw [hask] at ca
  have V : Hid (RdW w v rs) := hv
  have U : Hid (RdI w u q) := hu
  obtain ⟨av, cv, rfl, _⟩ := hv
  obtain ⟨au, cu, rfl, _⟩ := hu
  obtain ⟨m, hm⟩ : ∃ m, m = q.length := ⟨_, rfl⟩
  obtain ⟨n, hn⟩ : ∃ n, n = rs.length := ⟨_, rfl⟩
  have NH : Hid (n = rs.length) := hn
  rw [← hm] at U ca
  rw [← hn] at V ca hlen
  rw [← hm, ← hn]
  clear hm hn hwf
  have hits := fun W => hits_c av au n m cv cu W
  refine (callsIn_wide (n := 4)).1 ?_
  refine callsIn_of_wp_marks Tryz.func18 rfl trivial ?_ rfl
  simp only [Tryz.ntmps18, List.size_toArray, List.length_cons, List.length_nil, Nat.reduceAdd, Nat.reduceSub, Array.replicate_succ, Array.replicate_zero, List.push_toArray, List.append_toArray, List.nil_append, List.cons_append]
  gi_wp2_with first | (refine ⟨trivial, ?_⟩; gi_at_call 38; refine (callsIn_wide.2 ca).mono ?_; rintro e wa ⟨rfl, ga⟩) | (refine ⟨trivial, ?_⟩; gi_at_call 39; refine (callsIn_wide.2 (hits _)).mono ?_; rintro e w1 ⟨rfl, hw1⟩)
  clear ca hits
  have gw : Gb w wa := gb_trans G0 ga
  have D0 : RadBox wa w.heap.size rh rl := gb_same ga (World.alloc_heap_new w _)
  have N0 : RngAt w wa.heap.size w.heap.size (wa.heap.size + 1) (wa.heap.size + 1 + 1) (.slice av n cv) (.slice au m cu) rs q rh rl 0 w1 := by
    rw [← hw1]
    have b1 := ((Boxed.new wa 29 (.slice none 0 0)).alloc (.cells #[.slice av n cv] 22)).alloc (.cells #[.slice au m cu] 23)
    have b2 := (Boxed.new (wa.alloc (.cells #[.slice none 0 0] 29)) 22 (.slice av n cv)).alloc (.cells #[.slice au m cu] 23)
    have b3 := Boxed.new ((wa.alloc (.cells #[.slice none 0 0] 29)).alloc (.cells #[.slice av n cv] 22)) 23 (.slice au m cu)
    simp only [World.size_alloc] at b2 b3
    have g3 := gb_alloc (gb_alloc (gb_alloc (Below.refl wa.heap.size wa) (.cells #[.slice none 0 0] 29)) (.cells #[.slice av n cv] 22)) (.cells #[.slice au m cu] 23)
    exact ⟨.slice none 0 0, b1, Tk.own_nil _, fun g e => by simp [Value.ownBlock] at e, gb_trans gw g3, D0.gb g3, b2, b3⟩
  have s1 : wa.heap.size + 3 = w1.heap.size := by rw [← hw1]; simp
  have s0 := gw.size
  clear hw1 D0 ga G0
  have hrd : ∀ j W, RngAt w wa.heap.size w.heap.size (wa.heap.size + 1) (wa.heap.size + 1 + 1) (.slice av n cv) (.slice au m cu) rs q rh rl j W → HitsAt W (wa.heap.size + 1) (wa.heap.size + 1 + 1) (.slice av n cv) (.slice au m cu) rs q := fun j W h => by
    obtain ⟨vn, h1, h2, h3, h4, h5, h6, h7⟩ := h
    exact ⟨h6, h7, V.out.gb h4, U.out.gb h4⟩
  refine range_c (gf := 59) (lb := #[.pointer (some ⟨wa.heap.size + 1, 0, none⟩), .pointer (some ⟨wa.heap.size + 1 + 1, 0, none⟩)]) rfl (enters_of Tryz.func59 (by kernel_rfl) rfl) rfl
    n (fun j => Tk.hv (hitOf q rs[j]!)) (RngAt w wa.heap.size w.heap.size (wa.heap.size + 1) (wa.heap.size + 1 + 1) (.slice av n cv) (.slice au m cu) rs q rh rl)
    (fun j p W => RngAt w wa.heap.size w.heap.size (wa.heap.size + 1) (wa.heap.size + 1 + 1) (.slice av n cv) (.slice au m cu) rs q rh rl j W ∧ HitBox W p (hitOf q rs[j]!))
    (fun j => hitObj (hitOf q rs[j]!))
    (ownFrom_rng (by omega)) (fun p => (ownFrom_rng (by omega)).and ownFrom_hitBox) N0
    (fun j W _ h => ⟨ownFrom_rng (B := w.heap.size) (Nat.le_refl _) j W _ none h (grown_of_gb (gb_alloc (Below.refl _ _) _)) (fun r e => by cases e), hitBox_new W _⟩)
    (by have := hits1_gives 3 (by decide) (wa.heap.size + 1) (wa.heap.size + 1 + 1) (.slice av n cv) (.slice au m cu) rs q hask _ hrd
        rwa [← NH.out] at this)
    (fun j p => { tmps := #[.slice av n cv, .slice au m cu, .agg #[.int .u64 rh, .int .u64 rl], undef, undef, .pointer (some ⟨w.heap.size, 0, none⟩), .slice none 0 0, .int .i64 0, .int .i64 0, .pointer (some ⟨wa.heap.size, 0, none⟩), .pointer (some ⟨p, 0, none⟩),
      .slice av n cv, .slice au m cu, .int .i64 0, .int .i64 0, .bool false, undef, .slice av n cv, .slice au m cu,
      .func (.func 59) #[] #[.pointer (some ⟨wa.heap.size + 1, 0, none⟩), .pointer (some ⟨wa.heap.size + 1 + 1, 0, none⟩)], Tk.hv (hitOf q rs[j]!), undef, undef, undef, undef, undef, undef, undef, undef, undef, undef, undef, undef], defers := [] }) ?assign ?body ?done
  case assign =>
    intro l j W K hK
    generalize rs[j]! = r at *
    gi_wp2
    exact hK
  case body =>
    clear N0
    rintro l j p W hj ⟨⟨vn, h1, h2, h3, h4, h5, h6, h7⟩, hp⟩
    have hjr : j < rs.length := by have := NH.out; omega
    have hm := nearL_snoc rh rl q hjr
    have hll : (nearL rh rl q (rs.take j)).length ≤ 512 := by have := nearL_len rh rl q (rs.take j); rw [List.length_take] at this; have := NH.out; omega
    have IN : RngAt w wa.heap.size w.heap.size (wa.heap.size + 1) (wa.heap.size + 1 + 1) (.slice av n cv) (.slice au m cu) rs q rh rl j W := ⟨vn, h1, h2, h3, h4, h5, h6, h7⟩
    have IH : Hid (RngAt w wa.heap.size w.heap.size (wa.heap.size + 1) (wa.heap.size + 1 + 1) (.slice av n cv) (.slice au m cu) rs q rh rl j W) := IN
    clear IN
    generalize hitOf q rs[j]! = x at *
    obtain ⟨x0, x1, x2⟩ := x
    obtain ⟨y0, y1, y2⟩ := hp.cells
    obtain ⟨d0, d1⟩ := h5.cells
    have cc := Tk.cmpw x1 x2 rh rl W
    have hin : inRad rh rl (x0, x1, x2) = decide (Tk.cw x1 x2 rh rl ≤ 0) := rfl
    rw [hin] at hm
    generalize hz : Tk.cw x1 x2 rh rl = z at *
    clear hz hin
    by_cases hc : z ≤ 0
    · rw [decide_eq_true hc, if_pos rfl] at hm
      have cN := h1.cell
      have fN := h1.frozen
      have MH : Hid (nearL rh rl q (rs.take (j + 1)) = nearL rh rl q (rs.take j) ++ [(x0, x1, x2)]) := hm
      clear hm
      generalize nearL rh rl q (rs.take j) = L at *
      obtain ⟨i0, z0, hi0, hz0, hz1, hz2, hz3⟩ := Tk.info57
      gi_wp2_with first | (refine ⟨trivial, ?_⟩; gi_at_call 40; refine (CallsIn.inRound l (callsIn_wide.2 cc)).mono ?_; rintro e w5 ⟨rfl, g5⟩; have g5' := g5.gr; have e0 := Tk.gr_keeps g5' y0; have e1 := Tk.gr_keeps g5' y1; have e2 := Tk.gr_keeps g5' y2; have cN5 := Tk.gr_keeps g5' cN) | (gi_at_builtin; refine stop_at ?_)
      unfold Stop
      refine wpListIn_append_own_at _ rfl _ _ 29 rfl 0 57 i0 z0 3 24 Tryz.underlying29 hi0 hz0 hz1 hz2 hz3 (by decide) vn L.length (Tk.fl L) rfl (by have := World.ownsRow.alloc (Tk.own_gr h2 g5') (.cells #[.int .i64 x0, .int .u64 x1, .int .u64 x2] 57); simpa [Tk.Own] using this) ⟨w5.heap.size, 0, none⟩ 1 1 (Tk.enc (x0, x1, x2)) rfl rfl (by intro j u hu; rw [Addr.add_lit]; rcases j with _ | _ | _ | j <;> simp [Tk.enc] at hu <;> subst hu <;> simp [go_sem]) (Tk.enc_one _) (by simp only [maxLen]; omega) (by omega) (Nat.zero_le _) ?_
      intro v' w3 hown' hg3 hnil hat
      have hne : some wa.heap.size ≠ vn.ownBlock := box_ne_own h2 h1 (by decide)
      have cN3 := hg3.cell (a := ⟨wa.heap.size, 0, none⟩) (v := vn) (Tk.alloc_keeps cN5 _) hne
      have bN3 : Boxed w3 wa.heap.size 29 vn := ((Boxed.gb h1 g5').alloc _).kept hg3 hne
      have fN3 := bN3.frozen
      have A5 : Gb W (w5.alloc (.cells #[.int .i64 x0, .int .u64 x1, .int .u64 x2] 57)) := gb_alloc g5' _
      have K3 : Tk.Kp (fun b => some b = vn.ownBlock) W w3 := (Tk.Kp.of_gr A5).trans (Tk.Kp.grown hg3)
      have hK : ∀ b, some b = vn.ownBlock → ∃ o : Obj, W.heap[b]? = some o ∧ o.isCells = true := fun b e => by
        obtain ⟨cs, e2⟩ := own_type h2 e.symm; exact ⟨_, e2, rfl⟩
      have O3 : Tk.Own w3 v' (L ++ [(x0, x1, x2)]).toArray := by
        unfold Tk.Own
        simpa [Tk.fl_app, Tk.fl_one] using hown'
      obtain ⟨a3, n3, c3, rfl⟩ := own_slice O3
      clear hown' hnil
      gi_wp2
      have hown3 : some wa.heap.size ≠ (Value.slice a3 n3 c3).ownBlock := box_ne_own O3 bN3 (by decide)
      refine ⟨(keeps_of_kp K3 hK).trans (KeepsOthers.setCell _ _ _), _, bN3.set _, ?_, ?_, ?_, ?_, ?_, ?_⟩
      · rw [MH.out]
        refine Tk.own_kp O3 (Tk.Kp.setCell (S := fun b => b = wa.heap.size) (Tk.Kp.refl _ w3) (.inl rfl) _) fun g hg e => hown3 (by rw [hg, e])
      · intro g e
        rcases hat with e2 | e2
        · exact h3 g (by rw [← e2]; exact e)
        · rw [e2] at e
          simp only [Option.some.injEq] at e
          have := h4.size; have := g5'.size; rw [World.size_alloc] at e; omega
      · exact (h4.trans (K3.gr h4.size (fun b e => h3 b e.symm))).setCell (by dsimp only; omega) _
      · have hb : some w.heap.size ≠ vn.ownBlock := box_ne_own h2 h5 (by decide)
        have r3 : RadBox w3 w.heap.size rh rl := (K3.block _ (Array.getElem?_eq_some_iff.1 h5).1 hb).trans h5
        exact (Below.heap_setCell _ _ _ _ (by dsimp only; intro e; rw [← e] at bN3; have := (show w3.heap[w.heap.size]? = _ from r3).symm.trans bN3; simp at this)).trans r3
      · exact (Boxed.kp h6 K3 (box_ne_own h2 h6 (by decide))).other (by omega) _
      · exact (Boxed.kp h7 K3 (box_ne_own h2 h7 (by decide))).other (by omega) _
    · rw [decide_eq_false hc, if_neg (by decide), List.append_nil] at hm
      gi_wp2_with (refine ⟨trivial, ?_⟩; gi_at_call 40; refine (CallsIn.inRound l (callsIn_wide.2 cc)).mono ?_; rintro e w5 ⟨rfl, g5⟩)
      have g5' := g5.gr
      refine ⟨keeps_of_kp (S := fun _ => False) (Tk.Kp.of_gr g5') (fun b h => h.elim), vn, Boxed.gb h1 g5', ?_, h3, gb_trans' h4 g5' h4.size, h5.gb g5', Boxed.gb h6 g5', Boxed.gb h7 g5'⟩
      rw [hm]
      exact Tk.own_gr h2 g5'
  case done =>
    clear N0
    rintro D W hD ⟨vn, h1, h2, h3, h4, h5, h6, h7⟩ hK
    have cN := h1.cell
    rw [List.take_of_length_le (by have := NH.out; omega)] at h2
    have hs := fsort_c h2 (by have := nearL_len rh rl q rs; have := NH.out; simp; omega)
    gi_wp2_with (refine ⟨trivial, ?_⟩; gi_at_call 41; refine (callsIn_wide.2 hs).mono ?_; rintro e w5 ⟨rfl, o1, o2⟩; have cN5 := o2.cell cN (box_ne_own h2 h1 (by decide)))
    have hK' : w5.heap[D]? = some (.deferred (some [])) := (o2.block D (Array.getElem?_eq_some_iff.1 hK).1 (fun e => by
      obtain ⟨cs, e2⟩ := own_type h2 e.symm
      rw [hK] at e2; cases e2)).trans hK
    refine ⟨by simp, .inl ⟨_, _, rfl, run_takeDeferred hK', ?_⟩⟩
    exact ⟨.tuple #[vn, .int .i64 0], by simp [results, Tryz.results18, go_sem], vn, rfl, own_putObj o1 hK' rfl _, below_putObj (h4.trans (o2.gr h4.size (fun b e => h3 b e.symm))) (by omega) _, h3⟩
end Go.Proofs.YteaeaoekaoedoaaGreat
