/- RouterCheapest's call. -/
import Derived.Test.YtgmjokmiifmckaaRoM
namespace Go.Proofs.Ytgmjokmiifmckaa
open Go.RowKit Go.Sort Go.Maps

theorem info_S : ∃ i0, Try.prog.info? 24 = some i0 ∧ i0.zero = some (.agg #[.int .i64 0, .int .i64 0, .int .i64 0, .int .i64 0]) ∧ i0.size = 4 ∧ i0.bytes = 32 := by
  obtain ⟨i, hi, hzz⟩ := Option.map_eq_some_iff.1 Try.infoS
  simp only [Prod.mk.injEq] at hzz
  exact ⟨i, hi, hzz.1, hzz.2.1, hzz.2.2⟩
theorem flS_app (l m : List N4) : flS (l ++ m) = flS l ++ flS m := by simp [flS]
/-- append of specs to a row of the call's own. -/
theorem app_S {w W : World} {v : Value} {l l2 : List N4} (h : W.ownsRow w.heap.size 24 4 v l.length (flS l)) (g : Gb w W) (a : Addr) (c : Nat) (hs : ∀ j u, (flS l2)[j]? = some u → W.cell? (a.add j) = some u) (hn : l.length + l2.length ≤ 1000) (h0 : l2.length ≠ 0) :
    ∃ b' c' W', (Builtin.append_ #[30, 30] 30 #[v, .slice (some a) l2.length c]).run Try.prog W = .ok (.slice (some ⟨b', 0, none⟩) (l.length + l2.length) c') W' ∧ W'.ownsRow w.heap.size 24 4 (.slice (some ⟨b', 0, none⟩) (l.length + l2.length) c') (l ++ l2).length (flS (l ++ l2)) ∧ Gb w W' := by
  obtain ⟨i0, hi, hz0, hz1, hz2⟩ := info_S
  obtain ⟨v', W', hr, hown, hgrow, hnn, _⟩ := run_append_own_at (P := Try.prog) W w.heap.size 30 30 24 i0 _ 4 32 Try.underlying30 hi hz0 hz1 hz2 rfl (by decide)
    v l.length (flS l) h a l2.length c (flS l2) (flS_len l2) hs (flS_one l2) (by simp only [maxLen]; omega) (by omega) g.size
  have hown' := hown
  rcases hown.2 with ⟨e, _⟩ | ⟨g', c', cur, e, _⟩
  · exact absurd (hnn.1 e).2 h0
  · subst e
    refine ⟨g', c', W', hr, by rw [List.length_append, flS_app]; exact hown', ?_⟩
    exact g.grown hgrow g.size (fun k e => (h.lt k e).1)
theorem rds_own {W : World} {B b c n : Nat} {l : List N4} (h : W.ownsRow B 24 4 (.slice (some ⟨b, 0, none⟩) n c) l.length (flS l)) (hn : n = l.length) : RdS W (.slice (some ⟨b, 0, none⟩) n c) l := by
  subst hn
  refine ⟨_, _, rfl, fun i hi => ⟨b, 0, rfl, ?_⟩⟩
  have hx : ∀ k, k < 4 → W.cell? ⟨b, 0 + i * 4 + k, none⟩ = (encS l[i]!)[k]? := fun k hk => by
    rw [← flS_get l i k hi hk]
    have hlt : i * 4 + k < (flS l).length := by rw [flS_len]; omega
    have := h.cells (g := b) rfl (i * 4 + k) _ (List.getElem?_eq_getElem hlt)
    rw [Addr.add_lit] at this
    rw [List.getElem?_eq_getElem hlt, ← this]
    simp []
  exact ⟨by simpa [encS] using hx 0 (by omega), by simpa [encS] using hx 1 (by omega), by simpa [encS] using hx 2 (by omega), by simpa [encS] using hx 3 (by omega)⟩
theorem rds_one {W : World} {b k : Nat} {l : List N4} (h : RdS W (.slice (some ⟨b, 0, none⟩) l.length k) l) : ∀ j u, (flS l)[j]? = some u → W.cell? ((⟨b, 0, none⟩ : Addr).add j) = some u := h.src
/-- RouterCheapest's call, of a choice that was not made. -/
theorem cheapest_no {w : World} {v : Value} {l : List N4} (h : RdS w v l) (k n p c rows dim : Int) (hb : l.length ≤ 65536) (h0 : ¬ choE l rows dim 1 2 = 0) :
    Calls Try.prog 6 #[v, Sp k n p c, .int .i64 rows, .int .i64 dim] w fun e w' => e = .returned (.bool true) ∧ Gb w w' := by
  have c1 := fun W (g : Gb w W) => choose_c (h.gb g) rows dim 1 2
  obtain ⟨a, cap, rfl, _⟩ := h
  have G0 : ∀ o, Gb w (w.alloc o) := fun o => gb_alloc (Below.refl _ _) _
  generalize choN l rows dim 1 2 = x at *
  generalize choE l rows dim 1 2 = y at *
  generalize l.length = N at *
  go_enter Try.func6, Try.ntmps6
  go_wp2_with fail
  refine (c1 _ (G0 _)).mono ?_
  rintro e w1 ⟨rfl, g1⟩
  have g1' := gb_trans (G0 _) g1
  clear c1 g1 G0
  go_wp2_with fail
  refine (awake_c _).mono ?_
  rintro e w2 ⟨rfl, g2⟩
  go_wp2
  go_ret
  exact ⟨rfl, gb_trans g1' g2⟩
theorem box_S (w : World) (x y z u : Int) {W2 : World} (g : Gb (w.alloc (.cells #[.int .i64 x, .int .i64 y, .int .i64 z, .int .i64 u] 24)) W2) :
    W2.cell? ⟨w.heap.size, 0, none⟩ = some (.int .i64 x) ∧ W2.cell? ⟨w.heap.size, 1, none⟩ = some (.int .i64 y) ∧ W2.cell? ⟨w.heap.size, 2, none⟩ = some (.int .i64 z) ∧ W2.cell? ⟨w.heap.size, 3, none⟩ = some (.int .i64 u) := by
  have hb : (w.alloc (.cells #[.int .i64 x, .int .i64 y, .int .i64 z, .int .i64 u] 24)).heap[w.heap.size]? = some (.cells #[.int .i64 x, .int .i64 y, .int .i64 z, .int .i64 u] 24 (0, 0)) := heap_alloc_new _ _
  refine ⟨gb_keeps g ?_, gb_keeps g ?_, gb_keeps g ?_, gb_keeps g ?_⟩ <;> (simp only [World.cell?, hb]; rfl)
theorem list_runS {ops : Array Oper} {rest : List Oper} {o : Oper} {a : Act} {w w' : World} {Q : Exit → Act → World → Prop} {v1 v2 v' : Value} (hgd : o.guard = none) (s x : Operand) (t : TypeId)
    (ho : o.op = .call { callee := .builtin .append, args := #[s, x], argTypes := #[t, t] }) (hs : a.eval s = v1) (hx : a.eval x = v2) (hr : (Builtin.append_ #[t, t] o.type #[v1, v2]).run Try.prog w = .ok v' w') (h : wpList Try.prog ops Q rest (a.put o.dst v') w') :
    wpList Try.prog ops Q (o :: rest) a w := by
  refine wpList_plain hgd fun K hK => ?_
  unfold Oper.wp execOp
  simp only [ho, resolve, invoke, builtin, Sem.run_bind, Sem.run_pure, Result.andThen_ok, List.map_toArray, List.map_cons, List.map_nil, hs, hx, hr]
  exact hK _ _ h
theorem own_gbS {W W' : World} {B : Nat} {e : TypeId} {n m : Nat} {v : Value} {xs : List Value} (h : W.ownsRow B e m v n xs) (g : Gb W W') : W'.ownsRow B e m v n xs := by
  refine ⟨h.1, ?_⟩
  rcases h.2 with ⟨a, b⟩ | ⟨k, cap, cur, e1, e2, e3, e4⟩
  · exact .inl ⟨a, b⟩
  · exact .inr ⟨k, cap, cur, e1, e2, (g.block k (Array.getElem?_eq_some_iff.1 e3).1).trans e3, e4⟩
/-- Both appends: the specs, then one more. -/
theorem both_S {w W : World} {b o cap : Nat} {l : List N4} {k n p c : Int} (h : RdS W (.slice (some ⟨b, o, none⟩) l.length cap) l) (g : Gb w W) (hl : l.length ≤ 16) (h1 : 1 ≤ l.length) :
    ∃ b1 c1 W1 b2 c2 W2, (Builtin.append_ #[30, 30] 30 #[.slice none 0 0, .slice (some ⟨b, o, none⟩) l.length cap]).run Try.prog W = .ok (.slice (some ⟨b1, 0, none⟩) l.length c1) W1 ∧ Gb w W1 ∧ Gb W W1 ∧
      (Builtin.append_ #[30, 30] 30 #[.slice (some ⟨b1, 0, none⟩) l.length c1, .slice (some ⟨W1.heap.size, 0, none⟩) 1 1]).run Try.prog (W1.alloc (.cells #[.int .i64 k, .int .i64 n, .int .i64 p, .int .i64 c] 24)) = .ok (.slice (some ⟨b2, 0, none⟩) (l.length + 1) c2) W2 ∧ Gb w W2 ∧ Gb W W2 ∧
      RdS W2 (.slice (some ⟨b2, 0, none⟩) (l.length + 1) c2) (l ++ [(k, n, p, c)]) := by
  obtain ⟨b1, c1, W1, r1, o1, g1⟩ := app_S (w := W) (l := []) (l2 := l) (World.ownsRow_nil W _ _ _) (Below.refl _ _) ⟨b, o, none⟩ cap h.src (by simp; omega) (by omega)
  simp only [List.length_nil, Nat.zero_add, List.nil_append] at r1 o1
  have gx : Gb W1 (W1.alloc (.cells #[.int .i64 k, .int .i64 n, .int .i64 p, .int .i64 c] 24)) := gb_alloc (Below.refl _ _) _
  obtain ⟨x0, x1, x2, x3⟩ := box_S W1 k n p c (Below.refl _ _)
  obtain ⟨b2, c2, W2, r2, o2, g2⟩ := app_S (w := W) (l := l) (l2 := [(k, n, p, c)]) (own_gbS o1 gx) (gb_trans g1 gx) ⟨W1.heap.size, 0, none⟩ 1 (fun j u hj => by
    rw [Addr.add_lit]
    match j, hj with
    | 0, hj => simp [flS, encS] at hj; subst hj; exact x0
    | 1, hj => simp [flS, encS] at hj; subst hj; exact x1
    | 2, hj => simp [flS, encS] at hj; subst hj; exact x2
    | 3, hj => simp [flS, encS] at hj; subst hj; exact x3
    | j + 4, hj => simp [flS, encS] at hj) (by simp; omega) (by simp)
  exact ⟨b1, c1, W1, b2, c2, W2, r1, gb_trans g g1, g1, r2, gb_trans g g2, g2, rds_own o2 (by simp)⟩
set_option maxHeartbeats 8000000 in
set_option maxRecDepth 100000 in
/-- RouterCheapest's call, of a choice that was made. -/
theorem cheapest_yes {w : World} {v : Value} {l : List N4} (h : RdS w v l) (k n p c rows dim : Int) (hb : l.length ≤ 65536) (h0 : choE l rows dim 1 2 = 0) :
    Calls Try.prog 6 #[v, Sp k n p c, .int .i64 rows, .int .i64 dim] w fun e w' => e = .returned (.bool true) ∧ Gb w w' := by
  have c1 := fun W (g : Gb w W) => choose_c (h.gb g) rows dim 1 2
  obtain ⟨A, hA, h16, hN, hce, hle, hlt, hch⟩ := cheapest h0
  obtain ⟨a, cap, rfl, ha⟩ := id h
  have hrows : 0 ≤ rows ∧ rows ≤ 512 := by
    have e := hce 0 (by omega)
    unfold ceN cstE at e
    split at e
    · split at e
      · cases e
      · omega
    · contradiction
  -- what lies at a place, in a later world
  have C : Hid (∀ W2, Gb w W2 → ∀ i, i < l.length → ∃ b o kk nn pp cc, a = some ⟨b, o, none⟩ ∧ (W2.cell? ⟨b, o + i * 4, none⟩ = some (.int .i64 kk) ∧ W2.cell? ⟨b, o + i * 4 + 1, none⟩ = some (.int .i64 nn) ∧ W2.cell? ⟨b, o + i * 4 + 2, none⟩ = some (.int .i64 pp) ∧ W2.cell? ⟨b, o + i * 4 + 3, none⟩ = some (.int .i64 cc)) ∧
      cstE kk nn pp cc rows dim = 0 ∧ cstN kk nn pp cc rows dim = fN rows dim 2 l[i]! ∧ (rows < 512 → cstE kk nn pp cc (rows + 1) dim = 0 ∧ fN rows dim 2 l[i]! ≤ cstN kk nn pp cc (rows + 1) dim)) := by
    intro W2 g2 i hi
    obtain ⟨a1, cap1, e1, h1⟩ := h.gb g2
    cases e1
    obtain ⟨b, o, e3, q0, q1, q2, q3⟩ := h1 i hi
    refine ⟨b, o, _, _, _, _, e3, ⟨q0, q1, q2, q3⟩, hce i hi, (fN_two rows dim l[i]!).symm, fun hr => ?_⟩
    have := cost_mono (hce i hi) hr
    rw [fN_two]
    exact this
  have h' : Hid (RdS w (.slice a l.length cap) l) := h
  have hch' := hch
  have hx : ∀ i, i < l.length → fN rows dim 2 l[A]! ≤ fN rows dim 2 l[i]! ∧ (i < A → fN rows dim 2 l[A]! < fN rows dim 2 l[i]!) := fun i hi => ⟨hle i hi, hlt i⟩
  have hx' : Hid (∀ i, i < l.length → fN rows dim 2 l[A]! ≤ fN rows dim 2 l[i]! ∧ (i < A → fN rows dim 2 l[A]! < fN rows dim 2 l[i]!)) := hx
  have hch2 : Hid (chGo (fN rows dim 2) l l.length = ((A : Int), fN rows dim 2 l[A]!)) := hch
  have hA' : Hid (A < l.length) := hA
  have h16' : Hid (l.length ≤ 16) := h16
  rw [h0, hN] at c1
  have G0 : ∀ o, Gb w (w.alloc o) := fun o => gb_alloc (Below.refl _ _) _
  have hlen : Hid (∃ N, l.length = N) := ⟨_, rfl⟩
  clear h ha hce hle hlt hch hch' hx hN h0
  obtain ⟨N, hN⟩ := hlen.out
  clear hlen
  rw [hN] at c1 hb hA h16
  have hN' : Hid (l.length = N) := hN
  rw [hN]
  clear hN
  go_enter Try.func6, Try.ntmps6
  go_wp2_with fail
  refine (c1 _ (G0 _)).mono ?_
  rintro e w1 ⟨rfl, g1⟩
  have gm := fun (x y z u : Int) (W2 : World) (g : Gb (w.alloc (.cells #[.int .i64 x, .int .i64 y, .int .i64 z, .int .i64 u] 24)) W2) => box_S w x y z u g
  have M : Hid (∀ W2, Gb w1 W2 → W2.cell? ⟨w.heap.size, 0, none⟩ = some (.int .i64 k) ∧ W2.cell? ⟨w.heap.size, 1, none⟩ = some (.int .i64 n) ∧ W2.cell? ⟨w.heap.size, 2, none⟩ = some (.int .i64 p) ∧ W2.cell? ⟨w.heap.size, 3, none⟩ = some (.int .i64 c)) := fun W2 g => gm k n p c W2 (gb_trans g1 g)
  have g1' := gb_trans (G0 _) g1
  have G1 : Hid (Gb w w1) := g1'
  clear c1 g1 G0 gm g1'
  obtain ⟨b, o, k1, n1, p1, q1, ea, ⟨d0, d1, d2, d3⟩, e0, eN, _⟩ := C.out w1 G1.out A hA'.out
  subst ea
  have c2 := cost_c k1 n1 p1 q1 rows dim w1
  rw [e0, eN] at c2
  generalize hL : fN rows dim 2 l[A]! = L at *
  have HL : Hid (fN rows dim 2 l[A]! = L) := hL
  clear hL e0 eN
  go_wp2_with fail
  refine c2.mono ?_
  rintro e w2 ⟨rfl, g2⟩
  have G2 : Hid (Gb w w2 ∧ Gb w1 w2) := ⟨gb_trans G1.out g2, g2⟩
  clear d0 d1 d2 d3 c2 g2
  have hr2 : Hid (0 ≤ rows ∧ rows ≤ 512) := hrows
  clear hrows hA h16 hb
  go_wp2
  go_loopw [13] (fun iv w' => ∃ q : Nat, iv = .int .i64 (q : Int) ∧ q ≤ N ∧ Hid (Gb w2 w')) (fun iv _ => N - (intOf iv).toNat)
  case atStart => exact ⟨0, rfl, Nat.zero_le _, Below.refl _ _⟩
  case round =>
    obtain ⟨q, rfl, hq, X⟩ := hrel
    by_cases hqn : q < N
    · obtain ⟨u1, u2⟩ := hx'.out q (by rw [hN'.out]; exact hqn)
      obtain ⟨b2, o2, k2, n2, p2, q2, ea2, ⟨d0, d1, d2, d3⟩, e0, eN, eM⟩ := C.out wr (gb_trans G2.out.1 X.out) q (by rw [hN'.out]; exact hqn)
      cases ea2
      have D : Hid (∀ W2, Gb wr W2 → W2.cell? ⟨b, o + q * 4, none⟩ = some (.int .i64 k2) ∧ W2.cell? ⟨b, o + q * 4 + 1, none⟩ = some (.int .i64 n2) ∧ W2.cell? ⟨b, o + q * 4 + 2, none⟩ = some (.int .i64 p2) ∧ W2.cell? ⟨b, o + q * 4 + 3, none⟩ = some (.int .i64 q2)) := fun W2 g => ⟨gb_keeps g d0, gb_keeps g d1, gb_keeps g d2, gb_keeps g d3⟩
      have c3 := cost_c k2 n2 p2 q2 rows dim wr
      have c4 := fun W => cost_c k2 n2 p2 q2 (rows + 1) dim W
      rw [e0, eN] at c3
      generalize fN rows dim 2 l[q]! = nq at *
      clear e0 eN
      go_wp2_with fail
      refine c3.mono ?_
      rintro e w3 ⟨rfl, g3⟩
      have g3' := gb_trans X.out g3
      have X3 : Hid (Gb w2 w3) := g3'
      obtain ⟨d0', d1', d2', d3'⟩ := D.out w3 g3
      clear d0 d1 d2 d3 c3 g3 g3' X D
      have U : Hid (L ≤ nq ∧ (q < A → L < nq)) := ⟨u1, u2⟩
      have EM : Hid (rows < 512 → cstE k2 n2 p2 q2 (rows + 1) dim = 0 ∧ nq ≤ cstN k2 n2 p2 q2 (rows + 1) dim) := eM
      have C4 : Hid (∀ W, Calls Try.prog 7 #[Sp k2 n2 p2 q2, .int .i64 (rows + 1), .int .i64 dim] W fun e w' => e = .returned (.tuple #[.int .i64 (cstN k2 n2 p2 q2 (rows + 1) dim), .int .i64 (cstE k2 n2 p2 q2 (rows + 1) dim)]) ∧ Gb W w') := c4
      clear u1 u2 eM c4
      go_wp2_with fail
      all_goals first
        | (exfalso; have := U.out; omega)
        | (exfalso; rename_i hz; rw [beq_iff_eq] at hz; have := U.out; omega)
        | exact ⟨⟨q + 1, by first | rfl | simp, hqn, X3⟩, by simp [intOf]; omega⟩
        | skip
      all_goals
        rename_i hr
        have hw : wrap64 (rows + 1) = rows + 1 := by have := hr2.out; unfold wrap64; omega
        rw [hw]
        refine (C4.out w3).mono ?_
        obtain ⟨e5, e6⟩ := EM.out (by omega)
        rw [e5]
        generalize cstN k2 n2 p2 q2 (rows + 1) dim = m at *
        rintro e w4 ⟨rfl, g4⟩
        have X4 : Hid (Gb w2 w4) := gb_trans X3.out g4
        have E6 : Hid (nq ≤ m) := e6
        clear e5 e6 g4 EM C4 hw
        go_wp2_with fail
        all_goals first
          | (exfalso; have := E6.out; omega)
          | exact ⟨⟨q + 1, by first | rfl | simp, hqn, X4⟩, by simp [intOf]; omega⟩
    · have hwr := gb_trans G2.out.1 X.out
      obtain ⟨b1, c1, W1, b2, c2, W2, ap1, ga1, gb1, ap2, ga2, gb2, rd2⟩ := both_S (k := k) (n := n) (p := p) (c := c) (h'.out.gb hwr) hwr h16'.out (by have := hA'.out; omega)
      rw [hN'.out] at ap1 ap2 rd2
      obtain ⟨m0, m1, m2, m3⟩ := M.out W1 (gb_trans (gb_trans G2.out.2 X.out) gb1)
      obtain ⟨p0, p1, p2, p3⟩ := M.out W2 (gb_trans (gb_trans G2.out.2 X.out) gb2)
      have cc := choose_c rd2 rows dim 1 2
      have Y2 : Hid (Gb w W2) := ga2
      have YM : Hid (Gb w1 W2) := gb_trans (gb_trans G2.out.2 X.out) gb2
      by_cases hn0 : choE (l ++ [(k, n, p, c)]) rows dim 1 2 = 0
      · obtain ⟨hc1, hc2⟩ := cheapest_app hn0 hA'.out (by rw [HL.out]; exact hch2.out)
        rw [HL.out, fN_two] at hc2
        have hc1' : cstE k n p c rows dim = 0 := hc1
        have c5 := fun W => cost_c k n p c rows dim W
        rw [hc1'] at c5
        rw [hn0] at cc
        generalize choN (l ++ [(k, n, p, c)]) rows dim 1 2 = K at *
        generalize cstN k n p c rows dim = V at *
        have HC : Hid ((K = (A : Int) ∧ L ≤ V) ∨ (K = (N : Int) ∧ V < L)) := by rw [← hN'.out]; exact hc2
        have LT : Hid (A < N) := by rw [← hN'.out]; exact hA'.out
        clear ga1 gb1 ga2 gb2 rd2 hn0 hc1 hc2 hc1'
        go_wp2_with first
          | (at_builtin; refine list_runS (v1 := .slice none 0 0) (v2 := .slice (some ⟨b, o, none⟩) N cap) rfl _ _ _ rfl (by go_simp) (by go_simp) ap1 ?_)
          | (at_builtin; refine list_runS (v1 := .slice (some ⟨b1, 0, none⟩) N c1) (v2 := .slice (some ⟨W1.heap.size, 0, none⟩) 1 1) rfl _ _ _ rfl (by go_simp) (by go_simp) ap2 ?_)
        refine cc.mono ?_
        rintro e w5 ⟨rfl, g5⟩
        obtain ⟨s0, s1, s2, s3⟩ := M.out w5 (gb_trans YM.out g5)
        clear ap1 ap2 m0 m1 m2 m3 p0 p1 p2 p3 cc
        go_wp2_with fail
        refine (c5 _).mono ?_
        rintro e w6 ⟨rfl, g6⟩
        have Y6 : Hid (Gb w w6) := gb_trans (gb_trans Y2.out g5) g6
        clear c5 s0 s1 s2 s3 g5 g6
        go_wp2_with fail
        refine (awake_c _).mono ?_
        rintro e w7 ⟨rfl, g7⟩
        have Y7 : Hid (Gb w w7) := gb_trans Y6.out g7
        clear g7
        go_wp2_with fail
        all_goals first
          | (exfalso; have h1 := HC.out; have h2 := LT.out; omega)
          | (go_ret; exact ⟨rfl, Y7.out⟩)
          | (have hv : V < L := by (have h1 := HC.out; have h2 := LT.out; omega)
             go_ret
             exact ⟨by simp [hv], Y7.out⟩)
      · generalize choN (l ++ [(k, n, p, c)]) rows dim 1 2 = K at *
        generalize choE (l ++ [(k, n, p, c)]) rows dim 1 2 = E at *
        clear p0 p1 p2 p3 ga1 gb1 ga2 gb2 rd2
        go_wp2_with first
          | (at_builtin; refine list_runS (v1 := .slice none 0 0) (v2 := .slice (some ⟨b, o, none⟩) N cap) rfl _ _ _ rfl (by go_simp) (by go_simp) ap1 ?_)
          | (at_builtin; refine list_runS (v1 := .slice (some ⟨b1, 0, none⟩) N c1) (v2 := .slice (some ⟨W1.heap.size, 0, none⟩) 1 1) rfl _ _ _ rfl (by go_simp) (by go_simp) ap2 ?_)
        refine cc.mono ?_
        rintro e w5 ⟨rfl, g5⟩
        clear ap1 ap2 m0 m1 m2 m3 cc
        go_wp2_with fail
        refine (awake_c _).mono ?_
        rintro e w6 ⟨rfl, g6⟩
        go_wp2
        go_ret
        exact ⟨rfl, gb_trans (gb_trans Y2.out g5) g6⟩
theorem cheapest_law {w : World} {v : Value} {l : List N4} (h : RdS w v l) (k n p c rows dim : Int) :
    Calls Try.prog 6 #[v, Sp k n p c, .int .i64 rows, .int .i64 dim] w fun e w' => e = .returned (.bool true) ∧ Gb w w' := by
  by_cases hb : l.length ≤ 65536
  · by_cases h0 : choE l rows dim 1 2 = 0
    · exact cheapest_yes h k n p c rows dim hb h0
    · exact cheapest_no h k n p c rows dim hb h0
  · obtain ⟨a, cap, rfl, _⟩ := h
    have hb' : 65536 < (l.length : Int) := by omega
    have G0 : ∀ o, Gb w (w.alloc o) := fun o => gb_alloc (Below.refl _ _) _
    clear hb
    generalize l.length = N at *
    go_enter Try.func6, Try.ntmps6
    go_wp2
    go_ret
    exact ⟨rfl, G0 _⟩
end Go.Proofs.Ytgmjokmiifmckaa
