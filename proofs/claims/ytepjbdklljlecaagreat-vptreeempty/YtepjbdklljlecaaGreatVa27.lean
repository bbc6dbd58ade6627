import Derived.Test.YtepjbdklljlecaaGreatVa26
import Derived.Test.YtepjbdklljlecaaGreatVa17
import Derived.Test.YtepjbdklljlecaaGreatVa10
import Derived.BigQuiet
import Derived.Test.YtepjbdklljlecaaGreatVa12
/- The law's examples: what they lean on. -/
namespace Go.Proofs.YtepjbdklljlecaaGreat
open Go.RowKit Go.Sort

theorem gw_drewN {a w : World} (h : Tk.Gw a w) (n : Nat) : Tk.Gw a (w.drewN n) := h.trans ⟨n, #[], by rw [grow_empty]⟩

theorem firsts_more {k : Nat} {A : List Tk.Ht} (hk : (Tk.firsts k A).length = k) : ∀ (B : List Tk.Ht), (∀ x ∈ B, Tk.hlt x (Tk.firsts k A)[k - 1]! = false) → Tk.firsts k (A ++ B) = Tk.firsts k A := by
  intro B
  induction B generalizing A with
  | nil => intro _; rw [List.append_nil]
  | cons x r ih =>
    intro h
    have e : Tk.firsts k (A ++ [x]) = Tk.firsts k A := by
      rw [Tk.firsts_snoc]
      exact Tk.keep_no (Tk.firsts_srtd k A) hk (h x List.mem_cons_self)
    rw [show A ++ x :: r = (A ++ [x]) ++ r by simp, ih (by rw [e]; exact hk) (by rw [e]; exact fun y hy => h y (List.mem_cons_of_mem _ hy)), e]
/-- A search that has stopped, and may look at all, has the first k. -/
theorem search_whole {T : Nat → Pt} {m N : Nat} {q : List Int} {k b : Nat} {rs : List Rw} {R : Sr} (hq : chk q (m : Int) = 0) (hI : InvS T m N q b rs R) (hs : stepS T q k R = none) (hb : rs.length ≤ b ∨ R.opn = [] ∨ ((Tk.firsts k (hitsOf q R.seen)).length = k ∧ ∀ p ∈ R.opn, dN (Tk.firsts k (hitsOf q R.seen))[k - 1]! < bnd q p)) : Tk.firsts k (hitsOf q R.seen) = Tk.firsts k (hitsOf q rs) := by
  have hp : (hitsOf q (R.seen ++ R.opn.flatMap (rowsP T N))).Perm (hitsOf q rs) := hI.rows.map _
  rw [← Tk.firsts_perm k hp]
  have nil : R.opn = [] → Tk.firsts k (hitsOf q R.seen) = Tk.firsts k (hitsOf q (R.seen ++ R.opn.flatMap (rowsP T N))) := fun e => by rw [e]; simp
  have far : ((Tk.firsts k (hitsOf q R.seen)).length = k ∧ ∀ p ∈ R.opn, dN (Tk.firsts k (hitsOf q R.seen))[k - 1]! < bnd q p) → Tk.firsts k (hitsOf q R.seen) = Tk.firsts k (hitsOf q (R.seen ++ R.opn.flatMap (rowsP T N))) := fun ⟨h1, h2⟩ => by
    rw [show hitsOf q (R.seen ++ R.opn.flatMap (rowsP T N)) = hitsOf q R.seen ++ hitsOf q (R.opn.flatMap (rowsP T N)) from List.map_append]
    symm
    by_cases k0 : k = 0
    · subst k0; simp [Tk.firsts]
    refine firsts_more h1 _ (fun x hx => ?_)
    obtain ⟨r, hr, rfl⟩ := List.mem_map.1 hx
    obtain ⟨p, hpo, hrp⟩ := List.mem_flatMap.1 hr
    have hbx := okP_box (hI.ok p hpo)
    obtain ⟨b1, _, _⟩ := box_ckB hbx hq
    obtain ⟨r1, r2⟩ := hbx.2 r hrp
    have hl1 := (chk_ok hq).2.2.1
    have hl2 := (chk_ok r1).2.2.1
    have el : (r.2.length : Int) = (q.length : Int) := by omega
    have b2 : ckB (pr p) r.2 = 0 := by
      unfold ckB at b1 ⊢
      rw [el]
      have h3 := hbx.1
      rw [hl1] at h3
      rw [if_pos h3]
      rw [hl1] at r1
      rw [← el] at r1 ⊢
      exact r1
    have h4 := bound_le b2 b1 r2
    have h5 : bnd q p ≤ dst q r.2 := by rw [dst_comm (by omega)]; exact h4
    have h6 := h2 p hpo
    rw [← dN_hit] at h5
    have hm := hit_form (q := q) (l := R.seen) (k := k) (x := (Tk.firsts k (hitsOf q R.seen))[k - 1]!) (by
      have : k - 1 < (Tk.firsts k (hitsOf q R.seen)).length := by rw [h1]; omega
      generalize Tk.firsts k (hitsOf q R.seen) = X at this ⊢
      rw [getElem!_pos X (k - 1) this]; exact List.getElem_mem _)
    generalize (Tk.firsts k (hitsOf q R.seen))[k - 1]! = y at hm h6 ⊢
    rw [Tk.hlt_f]
    rw [dN_hit] at h5
    generalize dN y = d at hm h6
    have e1 : y.hi = hi d := hm.1
    have e2 : y.lo = lo d := hm.2
    rw [e1, e2]
    show ¬ (hi (dst q r.2) < hi d ∨ hi (dst q r.2) = hi d ∧ (lo (dst q r.2) < lo d ∨ lo (dst q r.2) = lo d ∧ _))
    generalize dst q r.2 = x2 at h5 ⊢
    generalize bnd q p = x3 at h5 h6
    unfold hi lo
    omega
  rcases hb with hb | hb | hb
  · rcases step_none hI hs with h | h | h
    · exact nil h
    · exact far h
    · refine nil ?_
      have h1 := hI.rows.length_eq
      have h2 := hI.bud
      rw [List.length_append] at h1
      cases ho : R.opn with
      | nil => rfl
      | cons p r =>
        have h3 := List.length_pos_iff.2 (okP_ne N p (hI.ok p (by rw [ho]; exact List.mem_cons_self)))
        rw [ho, List.flatMap_cons, List.length_append] at h1
        omega
  · exact nil hb
  · exact far hb
/-- The examples' rows. -/
def K4 : List Rw := [(1, [0, 0]), (2, [3, 4]), (3, [0, 1]), (4, [30, 40])]
theorem krdi2 {W : World} {b : Nat} {x y : Int} (h : W.heap[b]? = some (.cells #[.int .i64 x, .int .i64 y] 3 (0, 0))) : RdI W (.slice (some ⟨b, 0, none⟩) 2 2) [x, y] := by
  refine ⟨_, _, rfl, fun i hi => ⟨b, 0, rfl, ?_⟩⟩
  rcases i with _ | _ | i
  · simp [World.cell?, h]
  · simp [World.cell?, h]
  · simp only [List.length_cons, List.length_nil] at hi; omega
set_option maxHeartbeats 1000000 in
theorem krows_c (w : World) : Calls Tryz.prog 34 #[] w fun e w' => ∃ b, e = .returned (.slice (some ⟨b, 0, none⟩) 4 4) ∧ RdW w' (.slice (some ⟨b, 0, none⟩) 4 4) K4 ∧ Gb w w' := by
  go_enter Tryz.func34, Tryz.ntmps34
  go_wp2
  go_ret
  refine ⟨_, rfl, ?_, by go_grown⟩
  refine ⟨_, _, rfl, fun i hi => ?_⟩
  have hi' : i < 4 := hi
  have r0 : RdI (((((w.alloc (.cells #[.int .i64 0, .int .i64 0] 3)).alloc (.cells #[.int .i64 3, .int .i64 4] 3)).alloc (.cells #[.int .i64 0, .int .i64 1] 3)).alloc (.cells #[.int .i64 30, .int .i64 40] 3)).alloc (.cells #[.int .i64 1, .slice (some ⟨w.heap.size, 0, none⟩) 2 2, .int .i64 2, .slice (some ⟨w.heap.size + 1, 0, none⟩) 2 2, .int .i64 3, .slice (some ⟨w.heap.size + 1 + 1, 0, none⟩) 2 2, .int .i64 4, .slice (some ⟨w.heap.size + 1 + 1 + 1, 0, none⟩) 2 2] 43)) _ [0, 0] := (krdi2 (World.alloc_heap_new w (.cells #[.int .i64 0, .int .i64 0] 3))).gb (gb_alloc (gb_alloc (gb_alloc (gb_alloc (Below.refl _ _) _) _) _) _)
  have r1 : RdI (((((w.alloc (.cells #[.int .i64 0, .int .i64 0] 3)).alloc (.cells #[.int .i64 3, .int .i64 4] 3)).alloc (.cells #[.int .i64 0, .int .i64 1] 3)).alloc (.cells #[.int .i64 30, .int .i64 40] 3)).alloc (.cells #[.int .i64 1, .slice (some ⟨w.heap.size, 0, none⟩) 2 2, .int .i64 2, .slice (some ⟨w.heap.size + 1, 0, none⟩) 2 2, .int .i64 3, .slice (some ⟨w.heap.size + 1 + 1, 0, none⟩) 2 2, .int .i64 4, .slice (some ⟨w.heap.size + 1 + 1 + 1, 0, none⟩) 2 2] 43)) _ [3, 4] := (krdi2 (World.alloc_heap_new (w.alloc (.cells #[.int .i64 0, .int .i64 0] 3)) (.cells #[.int .i64 3, .int .i64 4] 3))).gb (gb_alloc (gb_alloc (gb_alloc (Below.refl _ _) _) _) _)
  have r2 : RdI (((((w.alloc (.cells #[.int .i64 0, .int .i64 0] 3)).alloc (.cells #[.int .i64 3, .int .i64 4] 3)).alloc (.cells #[.int .i64 0, .int .i64 1] 3)).alloc (.cells #[.int .i64 30, .int .i64 40] 3)).alloc (.cells #[.int .i64 1, .slice (some ⟨w.heap.size, 0, none⟩) 2 2, .int .i64 2, .slice (some ⟨w.heap.size + 1, 0, none⟩) 2 2, .int .i64 3, .slice (some ⟨w.heap.size + 1 + 1, 0, none⟩) 2 2, .int .i64 4, .slice (some ⟨w.heap.size + 1 + 1 + 1, 0, none⟩) 2 2] 43)) _ [0, 1] := (krdi2 (World.alloc_heap_new ((w.alloc (.cells #[.int .i64 0, .int .i64 0] 3)).alloc (.cells #[.int .i64 3, .int .i64 4] 3)) (.cells #[.int .i64 0, .int .i64 1] 3))).gb (gb_alloc (gb_alloc (Below.refl _ _) _) _)
  have r3 : RdI (((((w.alloc (.cells #[.int .i64 0, .int .i64 0] 3)).alloc (.cells #[.int .i64 3, .int .i64 4] 3)).alloc (.cells #[.int .i64 0, .int .i64 1] 3)).alloc (.cells #[.int .i64 30, .int .i64 40] 3)).alloc (.cells #[.int .i64 1, .slice (some ⟨w.heap.size, 0, none⟩) 2 2, .int .i64 2, .slice (some ⟨w.heap.size + 1, 0, none⟩) 2 2, .int .i64 3, .slice (some ⟨w.heap.size + 1 + 1, 0, none⟩) 2 2, .int .i64 4, .slice (some ⟨w.heap.size + 1 + 1 + 1, 0, none⟩) 2 2] 43)) _ [30, 40] := (krdi2 (World.alloc_heap_new (((w.alloc (.cells #[.int .i64 0, .int .i64 0] 3)).alloc (.cells #[.int .i64 3, .int .i64 4] 3)).alloc (.cells #[.int .i64 0, .int .i64 1] 3)) (.cells #[.int .i64 30, .int .i64 40] 3))).gb (gb_alloc (Below.refl _ _) _)
  simp only [World.size_alloc] at r1 r2 r3
  rcases i with _ | _ | _ | _ | i
  · exact ⟨_, _, _, rfl, by simp [go_sem, K4], by simp [go_sem], r0⟩
  · exact ⟨_, _, _, rfl, by simp [go_sem, K4], by simp [go_sem], r1⟩
  · exact ⟨_, _, _, rfl, by simp [go_sem, K4], by simp [go_sem], r2⟩
  · exact ⟨_, _, _, rfl, by simp [go_sem, K4], by simp [go_sem], r3⟩
  · omega

theorem kbuild_ok {Iq : Nat → Prop} {w : World} {v : Value} {rs : List Rw} (up : Up Iq w) (h : RdW w v rs) (hwf : Wf rs) {m leaf : Nat} (hz : flatE rs (m : Int) = 0) (hl : 1 ≤ leaf ∧ leaf ≤ 64) (B S : Int) (us : Rn.U S) :
    Calls Tryz.prog 12 #[v, .int .i64 (m : Int), .agg #[.int .i64 (leaf : Int), .int .i64 B, .int .u64 S]] w fun e w' => TreeOut Iq w m leaf rs e w' := by
  have g1 : Gb w (w.alloc (.cells #[.int .i64 (leaf : Int), .int .i64 B, .int .u64 S] 25)) := gb_alloc (Below.refl _ _) _
  have cB := build_ok (up.gb g1) (h.gb g1) hwf us hz hl
  have FX : Hid (∀ e w', TreeOut Iq (w.alloc (.cells #[.int .i64 (leaf : Int), .int .i64 B, .int .u64 S] 25)) m leaf rs e w' → ∃ tb, e = .returned (.tuple #[.pointer (some ⟨tb, 0, none⟩), .int .i64 0]) ∧ TreeOut Iq w m leaf rs e w') := by
    rintro e w' ⟨tb, rs', F, rfl, h1, h2, h3, h4⟩
    refine ⟨tb, rfl, tb, rs', F, rfl, h1, h2, gb_trans g1 h3, fun x hx => ?_⟩
    have := h4 x hx
    have := g1.size
    omega
  obtain ⟨a, c, e, _⟩ := h
  subst e
  generalize rs.length = n at *
  clear g1 hz hl hwf us
  go_enter Tryz.func12, Tryz.ntmps12
  go_wp2_with fail
  go_fit cB
  intro e w1 hO
  obtain ⟨tb, rfl, hT⟩ := FX.out _ _ hO
  have HT : Hid _ := hT
  clear cB hO FX hT
  go_wp2
  refine bodyPost_ret (v := .tuple #[.pointer (some ⟨tb, 0, none⟩), .int .i64 0]) (by simp [results, Tryz.results12, go_sem]) rfl ?_
  exact HT.out
end Go.Proofs.YtepjbdklljlecaaGreat

/- The law's example. -/
namespace Go.Proofs.YtepjbdklljlecaaGreat
open Go.RowKit Go.Sort

theorem ris_perm {a b : List Rw} (ha : Ris a) (hb : Ris b) (p : a.Perm b) : a = b :=
  p.eq_of_pairwise (fun _ _ _ _ h1 h2 => by omega) ha hb
theorem khits4 : hitsOf [0, 0] K4 = [(1, 0, 0), (2, 0, 25), (3, 0, 1), (4, 0, 2500)] := by decide
theorem ksrt4 : Tk.srt (hitsOf [0, 0] K4) = [(1, 0, 0), (3, 0, 1), (2, 0, 25), (4, 0, 2500)] := by
  rw [khits4]
  exact Tk.srt_of_perm (by unfold Tk.Srtd; decide) (by decide)
theorem kfirst2 : Tk.firsts 2 (hitsOf [0, 0] K4) = [(1, 0, 0), (3, 0, 1)] := by unfold Tk.firsts; rw [ksrt4]; rfl
theorem kwf4 : Wf K4 := ⟨by decide, by decide⟩
theorem kfl4 : flatE K4 ((2 : Nat) : Int) = 0 := by decide
theorem krs4 : Ris K4 := by unfold Ris; decide
theorem kput1 : putE 2 K4 (3, [9, 9]) = 0 ∧ putRw K4 (3, [9, 9]) = [(1, [0, 0]), (2, [3, 4]), (3, [9, 9]), (4, [30, 40])] := by decide
def K3 : List Rw := [(1, [0, 0]), (2, [3, 4]), (3, [9, 9]), (4, [30, 40])]
theorem kput0 (rs : List Rw) : putE 2 rs (0, [1, 1]) = 50 := by unfold putE; rw [if_neg (by decide)]
theorem TreeAt.ris {Iq : Nat → Prop} {w : World} {tb m leaf : Nat} {rs : List Rw} {F : List Nat} (h : TreeAt Iq w tb m leaf rs F) : Ris rs := by
  obtain ⟨g, cap, sb, d, rt, F1, _, _, _, hr, _⟩ := h
  exact hr
theorem kown_sl {w : World} {v : Value} {l : List Tk.Ht} (h : Tk.Own w v l.toArray) (h0 : 0 < l.length) : ∃ g cap, v = .slice (some ⟨g, 0, none⟩) l.length cap ∧ l.length ≤ cap ∧ Tk.Lies w g 0 l := by
  obtain ⟨g, cap, cur, e, hh, hc, _⟩ := Tk.own_form h (by simpa using h0)
  subst e
  exact ⟨g, cap, by simp, by simpa using hc, by simpa using Tk.own_lies h⟩
/-- The search of the example. -/
theorem ksearch4 {Iq : Nat → Prop} {w : World} {tb : Nat} {F : List Nat} (h : TreeAt Iq w tb 2 1 K4 F) {u : Value} {W : World} (g : Gb w W) (hu : RdI W u [0, 0]) :
    Calls Tryz.prog 19 #[.pointer (some ⟨tb, 0, none⟩), u, .int .i64 2, .int .i64 4] W fun e W' => ∃ gh ch a2 n2 c2 a3 n3 c3, e = .returned (.tuple #[.agg #[.slice (some ⟨gh, 0, none⟩) 2 ch, .slice a2 n2 c2, .slice a3 n3 c3], .int .i64 0]) ∧ W.heap.size ≤ gh ∧ gh < W'.heap.size ∧ Tk.Lies W' gh 0 [(1, 0, 0), (3, 0, 1)] ∧ Gb W W' := by
  obtain ⟨T, N, R, hI, hs, c⟩ := kd_search h (q := [0, 0]) (by decide) (k := 2) (b := 4) (by decide) (by decide)
  refine (c W u g hu).mono ?_
  rintro e W' ⟨vh, vs, vr, rfl, hA⟩
  rw [search_whole (by decide) hI hs (.inl (by decide)), kfirst2] at hA
  obtain ⟨a1, n1, c1, a2, n2, c2, a3, n3, c3, rfl, rfl, rfl⟩ := hA.forms
  obtain ⟨gh, ch, e, _, hl⟩ := kown_sl hA.hits (by decide)
  cases e
  obtain ⟨_, _, _, _, hh, _⟩ := Tk.own_form hA.hits (by decide)
  have lt : gh < W'.heap.size := by
    have := hl 0 (by decide)
    exact World.block_lt_of_cell? W' _ this.1
  exact ⟨gh, _, a2, n2, c2, a3, n3, c3, rfl, hA.hB gh rfl, lt, hl, hA.gb⟩

/-- The example's tree, and its answer. -/
def Aw (Iq : Nat → Prop) (w : World) (tb bx gh ch : Nat) (rs : List Rw) (W : World) : Prop := ∃ F, TreeAt Iq W tb 2 1 rs F ∧ (∀ x ∈ F, w.heap.size ≤ x ∧ x ≠ bx ∧ x ≠ gh) ∧ bx < W.heap.size ∧ gh < W.heap.size ∧ Tk.Lies W gh 0 [(1, 0, 0), (3, 0, 1)] ∧ W.cell? ⟨bx, 0, none⟩ = some (.slice (some ⟨gh, 0, none⟩) 2 ch) ∧ Gb w W
theorem lies_kp {S : Nat → Prop} {W W' : World} {g : Nat} {l : List Tk.Ht} (h : Tk.Lies W g 0 l) (k : Tk.Kp S W W') (hn : ¬ S g) : Tk.Lies W' g 0 l := fun i hi =>
  ⟨k.cell (h i hi).1 hn, k.cell (h i hi).2.1 hn, k.cell (h i hi).2.2 hn⟩
theorem aw_out {Iq : Nat → Prop} {w W W' : World} {tb bx gh ch : Nat} {rs' : List Rw} {F : List Nat} (hF : ∀ x ∈ F, w.heap.size ≤ x ∧ x ≠ bx ∧ x ≠ gh) (hb : bx < W.heap.size) (hg : gh < W.heap.size) (hl : Tk.Lies W gh 0 [(1, 0, 0), (3, 0, 1)]) (hc : W.cell? ⟨bx, 0, none⟩ = some (.slice (some ⟨gh, 0, none⟩) 2 ch)) (g : Gb w W) (h : TOut Iq W tb 2 1 F rs' W') : Aw Iq w tb bx gh ch rs' W' := by
  obtain ⟨F', t, l, k⟩ := h
  have s := k.size
  have s0 := g.size
  refine ⟨F', t, fun x hx => ?_, by omega, by omega, lies_kp hl k (fun h => (hF gh h).2.2 rfl), k.cell hc (fun h => (hF bx h).2.1 rfl), g.trans (k.gr s0 fun x hx => (hF x hx).1)⟩
  rcases l x hx with h | h
  · exact hF x h
  · exact ⟨by omega, by omega, by omega⟩
theorem aw_put {Iq : Nat → Prop} {w W : World} {tb bx gh ch : Nat} {rs : List Rw} (h : Aw Iq w tb bx gh ch rs W) (id x y : Int) {z : Int} (hz : putE 2 rs (id, [x, y]) = z) {n : Bool} (hn : (decide (z = 0) && !hasId rs id) = n) :
    Calls Tryz.prog 24 #[.pointer (some ⟨tb, 0, none⟩), .agg #[.int .i64 id, .slice (some ⟨W.heap.size, 0, none⟩) 2 2]] (W.alloc (.cells #[.int .i64 x, .int .i64 y] 3)) fun e w' => e = .returned (.tuple #[.bool n, .int .i64 z]) ∧ Aw Iq w tb bx gh ch (if z = 0 then putRw rs (id, [x, y]) else rs) w' := by
  obtain ⟨F, t, hF, hb, hg, hl, hc, g⟩ := h
  have ga : Gb W (W.alloc (.cells #[.int .i64 x, .int .i64 y] 3)) := gb_alloc (Below.refl _ _) _
  have s := ga.size
  refine (put_c (xi := id) (t.gb ga) (krdi2 (World.alloc_heap_new W (.cells #[.int .i64 x, .int .i64 y] 3))) ?_).mono ?_
  · intro b o n c e hb
    cases e
    have := t.mem.2 _ hb
    omega
  · rintro e w' ⟨rfl, hO⟩
    rw [hz] at hO ⊢
    rw [hn]
    exact ⟨rfl, aw_out hF (by omega) (by omega) (lies_kp (S := fun _ => False) hl (Tk.Kp.of_gr ga) (fun h => h)) (gb_keeps ga hc) (gb_trans g ga) hO⟩
theorem aw_del {Iq : Nat → Prop} {w W : World} {tb bx gh ch : Nat} {rs : List Rw} (h : Aw Iq w tb bx gh ch rs W) (id : Int) {n : Bool} (hn : hasId rs id = n) :
    Calls Tryz.prog 26 #[.pointer (some ⟨tb, 0, none⟩), .int .i64 id] W fun e w' => e = .returned (.tuple #[.bool n, .int .i64 0]) ∧ Aw Iq w tb bx gh ch (delRw rs id) w' := by
  obtain ⟨F, t, hF, hb, hg, hl, hc, g⟩ := h
  refine (delete_c t id).mono ?_
  rintro e w' ⟨rfl, hO⟩
  rw [hn]
  exact ⟨rfl, aw_out hF hb hg hl hc g hO⟩
theorem aw_len {Iq : Nat → Prop} {w W : World} {tb bx gh ch : Nat} {rs : List Rw} (h : Aw Iq w tb bx gh ch rs W) {n : Int} (hn : (rs.length : Int) = n) :
    Calls Tryz.prog 23 #[.pointer (some ⟨tb, 0, none⟩)] W fun e w' => e = .returned (.int .i64 n) ∧ w' = W := by
  obtain ⟨F, t, _⟩ := h
  rw [← hn]
  exact len_c t

set_option maxRecDepth 100000 in
set_option maxHeartbeats 4000000 in
theorem kawake_c (w : World) : Calls Tryz.prog 14 #[] w fun e w' => e = .returned (.bool true) ∧ Gb w w' := by
  go_enter Tryz.func14, Tryz.ntmps14
  go_wp2_with fail
  refine (krows_c w).mono ?_
  rintro e w1 ⟨b1, rfl, r1, g1⟩
  have c : Calls Tryz.prog 12 #[.slice (some ⟨b1, 0, none⟩) 4 4, .int .i64 2, .agg #[.int .i64 1, .int .i64 0, .int .u64 7]] w1 fun e w' => TreeOut IqT w1 2 1 K4 e w' := kbuild_ok (upT _) r1 kwf4 (m := 2) (leaf := 1) kfl4 (by decide) 0 7 (by decide)
  go_wp2_with fail
  refine c.mono ?_
  rintro e w2 ⟨tb, rs, F, rfl, t2, p2, g2, f2⟩
  obtain rfl := ris_perm t2.ris krs4 p2
  have G2 : Gb w w2 := gb_trans g1 g2
  have s1 := g1.size
  have f2' : ∀ x ∈ F, w.heap.size ≤ x := fun x hx => by have := f2 x hx; omega
  clear c g1 g2 r1 f2 p2
  have c := len_c t2
  go_wp2_with fail
  refine c.mono ?_
  rintro e w3 ⟨rfl, rfl⟩
  clear c
  have ga : Gb w3 (w3.alloc (.cells #[.int .i64 0, .int .i64 0] 3)) := gb_alloc (Below.refl _ _) _
  have c := ksearch4 t2 ga (krdi2 (World.alloc_heap_new w3 (.cells #[.int .i64 0, .int .i64 0] 3)))
  go_wp2_with fail
  refine c.mono ?_
  rintro e w4 ⟨gh, ch, a2, n2, c2, a3, n3, c3, rfl, q1, q2, ql, q3⟩
  clear c
  have s3 := ga.size
  have s4 := q3.size
  have A4 : Aw IqT w tb w4.heap.size gh ch K4 (w4.alloc (.cells #[.slice (some ⟨gh, 0, none⟩) 2 ch, .slice a2 n2 c2, .slice a3 n3 c3] 51)) := by
    have ga4 : Gb w4 (w4.alloc (.cells #[.slice (some ⟨gh, 0, none⟩) 2 ch, .slice a2 n2 c2, .slice a3 n3 c3] 51)) := gb_alloc (Below.refl _ _) _
    have m2 := t2.mem.2
    have s5 := ga4.size
    refine ⟨F, ((t2.gb ga).gb q3).gb ga4, fun x hx => ⟨f2' x hx, ?_, ?_⟩, ?_, by omega, lies_kp (S := fun _ => False) ql (Tk.Kp.of_gr ga4) (fun h => h), ?_, gb_trans G2 (gb_trans ga (gb_trans q3 ga4))⟩
    · have := m2 x hx; omega
    · have := m2 x hx; rw [World.size_alloc] at q1; omega
    · rw [World.size_alloc]; omega
    · simp [go_sem]
  have c := aw_put A4 3 9 9 kput1.1 (n := false) (by decide)
  rw [if_pos rfl, kput1.2, World.size_alloc] at c
  clear A4 ql q3 ga t2 G2 f2' q1 s1 s3 s4 q2
  go_wp2_with fail
  refine c.mono ?_
  rintro e w6 ⟨rfl, A6⟩
  clear c
  have c := aw_del A6 1 (n := true) (by decide)
  clear A6
  go_wp2_with fail
  refine c.mono ?_
  rintro e w7 ⟨rfl, A7⟩
  clear c
  have c := aw_put A7 0 1 1 (kput0 _) (n := false) (by decide)
  rw [if_neg (by decide)] at c
  clear A7
  go_wp2_with fail
  refine c.mono ?_
  rintro e w8 ⟨rfl, A8⟩
  clear c
  have c := aw_len A8 (n := 3) (by decide)
  obtain ⟨F8, _, _, _, _, l8, c8, g8⟩ := A8
  go_wp2_with fail
  refine c.mono ?_
  rintro e w9 ⟨rfl, rfl⟩
  clear c
  have l0 := l8 0 (by decide)
  have l1 := l8 1 (by decide)
  clear l8
  simp only [Tk.Ht.id, Tk.Ht.hi, Tk.Ht.lo] at l0 l1
  go_wp2
  refine bodyPost_ret (v := .bool true) (by simp [results, Tryz.results14, go_sem]) rfl ⟨rfl, ?_⟩
  exact g8
end Go.Proofs.YtepjbdklljlecaaGreat

/- The law's calls, read; its big. -/
namespace Go.Proofs.YtepjbdklljlecaaGreat
open Go.RowKit Go.Sort

/-- A call: its kind, id, k and budget, its row, its vector. -/
abbrev Opv : Type := (Int × Int × Int × Int) × Rw × List Int
/-- A slice reads as these calls. -/
def RdO (w : World) (u : Value) (ops : List Opv) : Prop := ∃ a cap, u = .slice a ops.length cap ∧ ∀ i, i < ops.length → ∃ b o rv qv, a = some ⟨b, o, none⟩ ∧
  (w.cell? ⟨b, o + i * 7, none⟩ = some (.int .i64 ops[i]!.1.1) ∧ w.cell? ⟨b, o + i * 7 + 1, none⟩ = some (.int .i64 ops[i]!.1.2.1) ∧ w.cell? ⟨b, o + i * 7 + 2, none⟩ = some (.int .i64 ops[i]!.1.2.2.1) ∧
  w.cell? ⟨b, o + i * 7 + 3, none⟩ = some (.int .i64 ops[i]!.1.2.2.2) ∧ w.cell? ⟨b, o + i * 7 + 4, none⟩ = some (.int .i64 ops[i]!.2.1.1) ∧ w.cell? ⟨b, o + i * 7 + 5, none⟩ = some rv ∧ w.cell? ⟨b, o + i * 7 + 6, none⟩ = some qv) ∧
  RdI w rv ops[i]!.2.1.2 ∧ RdI w qv ops[i]!.2.2
theorem RdO.gb {w w' : World} {v : Value} {l : List Opv} (h : RdO w v l) (g : Gb w w') : RdO w' v l := by
  obtain ⟨a, cap, e, h⟩ := h
  refine ⟨a, cap, e, fun i hi' => ?_⟩
  obtain ⟨b, o, rv, qv, e0, ⟨c0, c1, c2, c3, c4, c5, c6⟩, r1, r2⟩ := h i hi'
  exact ⟨b, o, rv, qv, e0, ⟨gb_keeps g c0, gb_keeps g c1, gb_keeps g c2, gb_keeps g c3, gb_keeps g c4, gb_keeps g c5, gb_keeps g c6⟩, r1.gb g, r2.gb g⟩
theorem rdw_nil (w : World) : RdW w (.slice none 0 0) [] := ⟨none, 0, rfl, fun _i hi => absurd hi (Nat.not_lt_zero _)⟩
theorem rdo_nil (w : World) : RdO w (.slice none 0 0) [] := ⟨none, 0, rfl, fun _i hi => absurd hi (Nat.not_lt_zero _)⟩
/-- What big tells: one or the other. -/
def BigO (w : World) (e : Ending) (w' : World) : Prop := ∃ b, e = .returned (.bool b) ∧ Gb w w'
set_option maxHeartbeats 2000000 in
set_option maxRecDepth 100000 in
theorem kbig_c {w : World} {v u : Value} {rs : List Rw} {ops : List Opv} (hv : RdW w v rs) (hlen : rs.length ≤ 9223372036854775807) (hu : RdO w u ops) :
    Calls Tryz.prog 9 #[v, u] w fun e w' => BigO w e w' := by
  have c := vects_c hv 32768 hlen
  obtain ⟨av, cv, rfl, _⟩ := hv
  have O : Hid (RdO w u ops) := hu
  obtain ⟨au, cu, rfl, _⟩ := hu
  obtain ⟨n, hN⟩ : ∃ n, n = ops.length := ⟨_, rfl⟩
  have N : Hid (n = ops.length) := hN
  rw [← hN] at O ⊢
  clear hN
  generalize rs.length = m at *
  go_enter Tryz.func9, Tryz.ntmps9
  by_cases h1 : 2000 < (n : Int)
  · go_wp2
    go_ret
    exact ⟨_, rfl, Below.refl _ _⟩
  by_cases h2 : 2000 < (m : Int)
  · go_wp2
    go_ret
    exact ⟨_, rfl, Below.refl _ _⟩
  go_wp2_with fail
  refine c.mono ?_
  rintro e w' ⟨⟨z, rfl⟩, e2⟩
  subst e2
  clear c
  by_cases h3 : 32768 < z
  · go_wp2
    go_ret
    exact ⟨_, rfl, Below.refl _ _⟩
  go_wp2
  go_loopw [5, 6] (fun zv iv w' => ∃ (q : Nat) (z : Int), zv = .int .i64 z ∧ iv = .int .i64 (q : Int) ∧ q ≤ n ∧ Hid (Gb w w')) (fun _ iv _ => n - (intOf iv).toNat)
  case atStart => exact ⟨0, 0, rfl, rfl, Nat.zero_le _, Below.refl _ _⟩
  case round =>
    obtain ⟨q, z, rfl, rfl, hq, G⟩ := hrel
    by_cases hqn : q < n
    · have hqi : (q : Int) < (n : Int) := by omega
      by_cases hz : z ≤ 32768
      · rename_i w'
        obtain ⟨a, cap, ea, hO⟩ := (RdO.gb O.out G.out)
        obtain ⟨b, o, rv, qv, e0, ⟨c0, c1, c2, c3, c4, c5, c6⟩, ⟨a1, k1, e1, _⟩, ⟨a2, k2, e2, _⟩⟩ := hO q (by have := N.out; omega)
        injection ea with ea1 ea2 ea3
        subst ea1 ea3 e0 e1 e2
        generalize ops[q]!.2.1.2.length = x1 at *
        generalize ops[q]!.2.2.length = x2 at *
        clear ea2 hO c0 c1 c2 c3 c4
        go_wp2
        go_quiet (fail)
        go_wp2
        go_roundw
        case rel => exact ⟨q + 1, _, rfl, by simp, hqn, gb_trans G.out (gw_drewN (Tk.Gw.refl _) _).gr⟩
        case measure => simp [intOf]; omega
      · go_wp2
        go_ret
        exact ⟨_, rfl, G.out⟩
    · have hqi : ¬ (q : Int) < (n : Int) := by omega
      go_wp2
      go_ret
      exact ⟨_, rfl, G.out⟩
end Go.Proofs.YtepjbdklljlecaaGreat

/- A script of calls, a way of building, that came in. -/
namespace Go.Proofs.YtepjbdklljlecaaGreat
open Go.ChangeShapes Go.WideShapes Go.ChangeAt Go.RowKit Go.Joins Go.Deep

theorem Tryz.cellsHow : Tryz.prog.cellsOf 25 = 3 := by kernel_rfl
set_option maxRecDepth 100000 in
/-- A way of building that came in. -/
theorem open_how {H : Type} {enc : TypeId × Value → H} {W : World} {b0 : Nat} {r : Reach} {v : Value} {d : DataW H} {p : List MemPlace}
    (hv' : Value.okWide Tryz.prog W r b0 25 v) (h : DataW.Trod enc Tryz.prog W 0 (fun _ => true) true 25 v d p) :
    ∃ A B S : Int, v = .agg #[.int .i64 A, .int .i64 B, .int .u64 S] ∧ Rn.U S := by
  obtain ⟨cs, rfl, hsz⟩ := okWide_struct Tryz.underlying25 hv'
  obtain ⟨fuel, hf⟩ := h
  obtain ⟨l⟩ := cs
  simp only [Value.cells] at hf
  obtain ⟨xs, n, _, _, hl, hlen, hf⟩ := DataW.trod_struct Tryz.underlying25 hf
  rw [Tryz.cellsHow] at hl
  match xs, hlen, l, hl with
  | [y0, y1, y2], _, [c0, c1, c2], _ =>
    obtain ⟨a0, e0, _⟩ := DataW.trod_int Tryz.underlying3 (by simpa using hf 0 _ rfl)
    obtain ⟨a1, e1, _⟩ := DataW.trod_int Tryz.underlying3 (by simpa using hf 1 _ rfl)
    obtain ⟨a2, e2, _, w2⟩ := DataW.trod_int Tryz.underlying23 (by simpa using hf 2 _ rfl)
    simp [Tryz.cells3, Tryz.cells23] at e0 e1 e2
    subst e0 e1 e2
    exact ⟨a0, a1, a2, rfl, word_of_wf w2⟩
theorem trod_struct6 {H : Type} {enc : TypeId × Value → H} {w : World} {base : Nat} {spare : Nat → Bool} {held : Bool} {t : TypeId} {f0 f1 f2 f3 f4 f5 : Field} {fuel : Nat} {cs : List Value} {x : DataW H × List MemPlace} (ht : Tryz.prog.underlying t = some (.struct #[f0, f1, f2, f3, f4, f5])) (h : DataW.trod enc Tryz.prog w base spare held fuel t cs = some x) :
    ∃ y0 y1 y2 y3 y4 y5 n, cs.length = Tryz.prog.cellsOf t ∧ DataW.trod enc Tryz.prog w base spare held n f0.type ((cs.drop f0.offset).take (Tryz.prog.cellsOf f0.type)) = some y0 ∧
      DataW.trod enc Tryz.prog w base spare held n f1.type ((cs.drop f1.offset).take (Tryz.prog.cellsOf f1.type)) = some y1 ∧ DataW.trod enc Tryz.prog w base spare held n f2.type ((cs.drop f2.offset).take (Tryz.prog.cellsOf f2.type)) = some y2 ∧
      DataW.trod enc Tryz.prog w base spare held n f3.type ((cs.drop f3.offset).take (Tryz.prog.cellsOf f3.type)) = some y3 ∧ DataW.trod enc Tryz.prog w base spare held n f4.type ((cs.drop f4.offset).take (Tryz.prog.cellsOf f4.type)) = some y4 ∧
      DataW.trod enc Tryz.prog w base spare held n f5.type ((cs.drop f5.offset).take (Tryz.prog.cellsOf f5.type)) = some y5 := by
  obtain ⟨xs, n, _, rfl, hl, hlen, hf⟩ := DataW.trod_struct ht h
  match xs, hlen with
  | [y0, y1, y2, y3, y4, y5], _ => exact ⟨y0, y1, y2, y3, y4, y5, n, hl, by simpa using hf 0 f0 rfl, by simpa using hf 1 f1 rfl, by simpa using hf 2 f2 rfl, by simpa using hf 3 f3 rfl, by simpa using hf 4 f4 rfl, by simpa using hf 5 f5 rfl⟩
theorem Tryz.cellsOp : Tryz.prog.cellsOf 45 = 7 := by kernel_rfl
set_option maxRecDepth 100000 in
/-- A script that came in. -/
theorem open_ops {H : Type} {enc : TypeId × Value → H} {W : World} {b0 : Nat} {r : Reach} {v : Value} {d : DataW H} {p : List MemPlace}
    (hv' : Value.okWide Tryz.prog W r b0 39 v) (h : DataW.Trod enc Tryz.prog W 0 (fun _ => true) true 39 v d p) :
    ∃ ops : List Opv, RdO W v ops ∧ ops.length ≤ maxLen := by
  obtain ⟨a0, len, cap, rfl⟩ := okWide_slice Tryz.underlying39 hv'
  obtain ⟨fuel, hf⟩ := h
  rcases open_slice Tryz.underlying39 (by simpa [Value.cells] using hf) with ⟨e, _⟩ | ⟨a, len, cap, m, n, D, Pl, e, _, hlc, hcm, hm, _, hx⟩
  · cases e
    exact ⟨[], rdo_nil W, Nat.zero_le _⟩
  · cases e
    rw [if_pos rfl] at hm
    subst hm
    have hy : ∀ i, i < len → ∃ y : Opv, ∃ rv qv, (W.cell? (a.add (i * 7)) = some (.int .i64 y.1.1) ∧ W.cell? ((a.add (i * 7)).add 1) = some (.int .i64 y.1.2.1) ∧ W.cell? ((a.add (i * 7)).add 2) = some (.int .i64 y.1.2.2.1) ∧ W.cell? ((a.add (i * 7)).add 3) = some (.int .i64 y.1.2.2.2) ∧ W.cell? ((a.add (i * 7)).add 4) = some (.int .i64 y.2.1.1) ∧ W.cell? ((a.add (i * 7)).add 5) = some rv ∧ W.cell? ((a.add (i * 7)).add 6) = some qv) ∧ RdI W rv y.2.1.2 ∧ RdI W qv y.2.2 := by
      intro i hi
      obtain ⟨cs, hc, ht⟩ := hx i (by omega)
      obtain ⟨y0, y1, y2, y3, y4, y5, k, hl, k0, k1, k2, k3, k4, k5⟩ := trod_struct6 Tryz.underlying45 ht
      rw [Tryz.cellsOp] at hl hc
      match cs, hl with
      | [c0, c1, c2, c3, c4, c5, c6], _ =>
        obtain ⟨z0, z1, m, _, hl1, j0, j1⟩ := trod_struct2 Tryz.underlying43 k4
        obtain ⟨a0, e0, _⟩ := DataW.trod_int Tryz.underlying3 k0
        obtain ⟨a1, e1, _⟩ := DataW.trod_int Tryz.underlying3 k1
        obtain ⟨a2, e2, _⟩ := DataW.trod_int Tryz.underlying3 k2
        obtain ⟨a3, e3, _⟩ := DataW.trod_int Tryz.underlying3 k3
        obtain ⟨a4, e4, _⟩ := DataW.trod_int Tryz.underlying3 j0
        obtain ⟨rv, rl, e5, hr, _⟩ := trod22 j1
        obtain ⟨qv, ql, e6, hq, _⟩ := trod22 k5
        simp [Tryz.cells3, Tryz.cells41, Tryz.cells43] at e0 e1 e2 e3 e4 e5 e6
        subst e0 e1 e2 e3 e4 e5 e6
        obtain ⟨_, _, hcc⟩ := World.cells?_some hc
        have q0 := hcc 0 (by omega)
        have q1 := hcc 1 (by omega)
        have q2 := hcc 2 (by omega)
        have q3 := hcc 3 (by omega)
        have q4 := hcc 4 (by omega)
        have q5 := hcc 5 (by omega)
        have q6 := hcc 6 (by omega)
        exact ⟨((a0, a1, a2, a3), (a4, rl), ql), _, _, ⟨by simpa [Addr.add] using q0, by simpa using q1, by simpa using q2, by simpa using q3, by simpa using q4, by simpa using q5, by simpa using q6⟩, hr, hq⟩
    obtain ⟨Y, hY⟩ := choose_lt (α := Opv) (p := fun i y => ∃ rv qv, (W.cell? (a.add (i * 7)) = some (.int .i64 y.1.1) ∧ W.cell? ((a.add (i * 7)).add 1) = some (.int .i64 y.1.2.1) ∧ W.cell? ((a.add (i * 7)).add 2) = some (.int .i64 y.1.2.2.1) ∧ W.cell? ((a.add (i * 7)).add 3) = some (.int .i64 y.1.2.2.2) ∧ W.cell? ((a.add (i * 7)).add 4) = some (.int .i64 y.2.1.1) ∧ W.cell? ((a.add (i * 7)).add 5) = some rv ∧ W.cell? ((a.add (i * 7)).add 6) = some qv) ∧ RdI W rv y.2.1.2 ∧ RdI W qv y.2.2) hy
    have hg : ∀ i, i < len → ((List.range len).map Y)[i]! = Y i := by
      intro i hi
      rw [getElem!_pos _ i (by simpa using hi)]; simp
    refine ⟨(List.range len).map Y, ⟨some a, m, by simp, fun i hi => ?_⟩, by simp; omega⟩
    have hi' : i < len := by simpa using hi
    obtain ⟨_, _, ⟨q0, _⟩, _⟩ := hY 0 (by omega)
    have ha : a = ⟨a.block, a.off, none⟩ := spot_none (by simpa [Addr.add] using q0)
    obtain ⟨rv, qv, ⟨c0, c1, c2, c3, c4, c5, c6⟩, h1, h2⟩ := hY i hi'
    rw [hg i hi']
    rw [ha, Addr.add_lit] at c0
    rw [ha, Addr.add_lit, Addr.add_lit] at c1 c2 c3 c4 c5 c6
    exact ⟨a.block, a.off, rv, qv, by rw [← ha], ⟨c0, c1, c2, c3, c4, c5, c6⟩, h1, h2⟩
end Go.Proofs.YtepjbdklljlecaaGreat

/- A search that is refused; a tree that is not built. -/
namespace Go.Proofs.YtepjbdklljlecaaGreat
open Go.RowKit Go.Sort

/-- What Search answers. -/
def srchE (m : Nat) (q : List Int) (k b : Int) : Int := if chk q (m : Int) = 0 then (if (1 ≤ k ∧ k ≤ 64) ∧ 0 ≤ b ∧ b ≤ 1000000 then 0 else 1) else chk q (m : Int)
theorem srchE_zero {m : Nat} {q : List Int} {k b : Int} : srchE m q k b = 0 ↔ chk q (m : Int) = 0 ∧ (1 ≤ k ∧ k ≤ 64) ∧ 0 ≤ b ∧ b ≤ 1000000 := by
  unfold srchE
  by_cases h : chk q (m : Int) = 0
  · rw [if_pos h]
    split
    · rename_i h1; exact ⟨fun _ => ⟨h, h1⟩, fun _ => rfl⟩
    · rename_i h1; exact ⟨fun e => absurd e (by decide), fun e => absurd e.2 h1⟩
  · rw [if_neg h]
    exact ⟨fun e => absurd e h, fun e => absurd e.1 h⟩
theorem knew_bad (k : Int) (hk : k < 1 ∨ 64 < k) (w : World) : Calls Tryz.prog 40 #[.int .i64 k] w fun e w' => e = .returned (.tuple #[.pointer none, .int .i64 1]) ∧ w' = w := by
  rcases hk with h | h
  · exact Tk.new_lo k h w
  · exact Tk.new_hi k h w
set_option maxHeartbeats 1000000 in
theorem ksearch_no {Iq : Nat → Prop} {w : World} {tb m leaf : Nat} {rs : List Rw} {F : List Nat} (h : TreeAt Iq w tb m leaf rs F) {u : Value} {q : List Int} (hu : RdI w u q) (k b : Int) (hz : srchE m q k b ≠ 0) :
    Calls Tryz.prog 19 #[.pointer (some ⟨tb, 0, none⟩), u, .int .i64 k, .int .i64 b] w fun e w' => e = .returned (.tuple #[.agg #[.slice none 0 0, .slice none 0 0, .slice none 0 0], .int .i64 (srchE m q k b)]) ∧ Gb w w' := by
  obtain ⟨_, _, _, c0, _⟩ := h.cells
  have g1 : Gb w (w.alloc (.cells #[.slice none 0 0, .slice none 0 0, .slice none 0 0] 51)) := gb_alloc (Below.refl _ _) _
  have G : Hid (Gb w (w.alloc (.cells #[.slice none 0 0, .slice none 0 0, .slice none 0 0] 51))) := g1
  have e0 := gb_keeps g1 c0
  obtain ⟨x, hx⟩ : ∃ x, x = chk q (m : Int) := ⟨_, rfl⟩
  have cK := check_v (hu.gb g1) (m : Int) x hx.symm
  have hE : srchE m q k b = if x = 0 then (if (1 ≤ k ∧ k ≤ 64) ∧ 0 ≤ b ∧ b ≤ 1000000 then 0 else 1) else x := by rw [hx]; rfl
  rw [hE] at hz ⊢
  obtain ⟨ua, uc, eu, _⟩ := hu.rd0
  subst eu
  generalize q.length = nq at *
  clear hE hx hu h c0 g1
  by_cases h1 : x = 0
  · subst h1
    rw [if_pos rfl] at hz ⊢
    by_cases h2 : 1 ≤ k ∧ k ≤ 64
    · by_cases h3 : 0 ≤ b ∧ b ≤ 1000000
      · rw [if_pos ⟨h2, h3⟩] at hz; exact absurd rfl hz
      · rw [if_neg (fun h => h3 h.2)]
        have cN := Tk.new_ok k h2.1 h2.2 (w.alloc (.cells #[.slice none 0 0, .slice none 0 0, .slice none 0 0] 51))
        clear hz h2
        by_cases h4 : b < 0
        · go_enter Tryz.func19, Tryz.ntmps19
          go_wp2_with fail
          go_fit cK
          rintro e w1 ⟨rfl, rfl⟩
          clear cK
          go_wp2_with fail
          go_fit cN
          rintro e w2 ⟨rfl, rfl⟩
          clear cN h3
          go_wp2
          refine bodyPost_ret (v := .tuple #[.agg #[.slice none 0 0, .slice none 0 0, .slice none 0 0], .int .i64 1]) (by simp [results, Tryz.results19, go_sem]) rfl ⟨rfl, ?_⟩
          go_grown
        · have h5 : (1000000 : Int) < b := by omega
          clear h3
          go_enter Tryz.func19, Tryz.ntmps19
          go_wp2_with fail
          go_fit cK
          rintro e w1 ⟨rfl, rfl⟩
          clear cK
          go_wp2_with fail
          go_fit cN
          rintro e w2 ⟨rfl, rfl⟩
          clear cN
          go_wp2
          refine bodyPost_ret (v := .tuple #[.agg #[.slice none 0 0, .slice none 0 0, .slice none 0 0], .int .i64 1]) (by simp [results, Tryz.results19, go_sem]) rfl ⟨rfl, ?_⟩
          go_grown
    · rw [if_neg (fun h => h2 h.1)]
      have cN := knew_bad k (by omega) (w.alloc (.cells #[.slice none 0 0, .slice none 0 0, .slice none 0 0] 51))
      clear hz h2
      go_enter Tryz.func19, Tryz.ntmps19
      go_wp2_with fail
      go_fit cK
      rintro e w1 ⟨rfl, rfl⟩
      clear cK
      go_wp2_with fail
      go_fit cN
      rintro e w2 ⟨rfl, rfl⟩
      clear cN
      go_wp2
      refine bodyPost_ret (v := .tuple #[.agg #[.slice none 0 0, .slice none 0 0, .slice none 0 0], .int .i64 1]) (by simp [results, Tryz.results19, go_sem]) rfl ⟨rfl, ?_⟩
      exact G.out
  · have h2 : (x == 0) = false := by rw [beq_eq_false_iff_ne]; exact h1
    rw [if_neg h1] at hz ⊢
    go_enter Tryz.func19, Tryz.ntmps19
    go_wp2_with fail
    go_fit cK
    rintro e w1 ⟨rfl, rfl⟩
    clear cK
    go_wp2
    refine bodyPost_ret (v := .tuple #[.agg #[.slice none 0 0, .slice none 0 0, .slice none 0 0], .int .i64 x]) (by simp [results, Tryz.results19, go_sem]) rfl ⟨rfl, ?_⟩
    exact G.out

/-- What building answers. -/
def bldE (rs : List Rw) (d leaf : Int) : Int := if flatE rs d = 0 then (if 1 ≤ leaf ∧ leaf ≤ 64 then 0 else 1) else flatE rs d
theorem kbuild_no {w : World} {v : Value} {rs : List Rw} (h : RdW w v rs) (hwf : Wf rs) (d leaf B S : Int) (hz : bldE rs d leaf ≠ 0) :
    Calls Tryz.prog 12 #[v, .int .i64 d, .agg #[.int .i64 leaf, .int .i64 B, .int .u64 S]] w fun e w' => e = .returned (.tuple #[.pointer none, .int .i64 (bldE rs d leaf)]) ∧ Gb w w' := by
  have g1 : Gb w (w.alloc (.cells #[.int .i64 leaf, .int .i64 B, .int .u64 S] 25)) := gb_alloc (Below.refl _ _) _
  have cB : Calls Tryz.prog 32 #[v, .int .i64 d, .int .i64 leaf, .int .u64 S] (w.alloc (.cells #[.int .i64 leaf, .int .i64 B, .int .u64 S] 25)) fun e w' => e = .returned (.tuple #[.pointer none, .int .i64 (bldE rs d leaf)]) ∧ Gb w w' := by
    by_cases h1 : flatE rs d = 0
    · by_cases h2 : 1 ≤ leaf ∧ leaf ≤ 64
      · unfold bldE at hz; rw [if_pos h1, if_pos h2] at hz; exact absurd rfl hz
      · have e : bldE rs d leaf = 1 := by unfold bldE; rw [if_pos h1, if_neg h2]
        rw [e]
        exact (build_leaf (h.gb g1) hwf d leaf S h1 (by omega)).mono fun e w' ⟨h3, h4⟩ => ⟨h3, gb_trans g1 h4⟩
    · have e : bldE rs d leaf = flatE rs d := by unfold bldE; rw [if_neg h1]
      rw [e]
      exact (build_no (h.gb g1) hwf d leaf S h1).mono fun e w' ⟨h3, h4⟩ => ⟨h3, gb_trans g1 h4⟩
  obtain ⟨a, c, e, _⟩ := h
  subst e
  generalize rs.length = n at *
  generalize bldE rs d leaf = z at *
  clear g1 hwf
  go_enter Tryz.func12, Tryz.ntmps12
  go_wp2_with fail
  go_fit cB
  rintro e w1 ⟨rfl, hG⟩
  have HG : Hid _ := hG
  clear cB hG
  go_wp2
  refine bodyPost_ret (v := .tuple #[.pointer none, .int .i64 z]) (by simp [results, Tryz.results12, go_sem]) rfl ⟨rfl, ?_⟩
  exact HG.out
end Go.Proofs.YtepjbdklljlecaaGreat
