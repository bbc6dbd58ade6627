/- Rows that are read; vec.idsOf. -/
import Derived.Test.YtmlincnmhjkjgaaCyOwnI
namespace Go.Proofs.Ytmlincnmhjkjgaa
open Go.RowKit Go.Sort Go.Maps

/-- A row: its id, its coordinates. -/
abbrev Rw : Type := Int × List Int
/-- The slice v reads as these rows. -/
def RdW (w : World) (v : Value) (rs : List Rw) : Prop := ∃ a cap, v = .slice a rs.length cap ∧ ∀ i, i < rs.length → ∃ b o u, a = some ⟨b, o, none⟩ ∧ w.cell? ⟨b, o + i * 2, none⟩ = some (.int .i64 rs[i]!.1) ∧ w.cell? ⟨b, o + i * 2 + 1, none⟩ = some u ∧ RdI w u rs[i]!.2
theorem RdW.gb {w w' : World} {v : Value} {rs : List Rw} (h : RdW w v rs) (g : Gb w w') : RdW w' v rs := by
  obtain ⟨a, cap, e, h⟩ := h
  refine ⟨a, cap, e, fun i hi => ?_⟩
  obtain ⟨b, o, u, e1, e2, e3, e4⟩ := h i hi
  exact ⟨b, o, u, e1, gb_keeps g e2, gb_keeps g e3, e4.gb g⟩
def idsOf (rs : List Rw) : List Int := rs.map (·.1)
/-- The error of row number i, if those ahead of it are right. -/
def rowE (rs : List Rw) (d : Int) (i : Nat) : Int := if ((idsOf rs).take i).contains rs[i]!.1 = false ∧ okId rs[i]!.1 = true then chk rs[i]!.2 d else 50
/-- The first error of the first q rows. -/
def rowsTo (rs : List Rw) (d : Int) : Nat → Int
  | 0 => 0
  | q + 1 => if rowsTo rs d q = 0 then rowE rs d q else rowsTo rs d q
def idsE (rs : List Rw) (d : Int) : Int := if rs.length ≤ 512 then rowsTo rs d rs.length else 2
theorem rowsTo_stay {rs : List Rw} {d : Int} {p q : Nat} (hpq : p ≤ q) (h : rowsTo rs d p ≠ 0) : rowsTo rs d q = rowsTo rs d p := by
  induction q with
  | zero => have : p = 0 := by omega
            subst this; rfl
  | succ q ih =>
    by_cases e : p = q + 1
    · subst e; rfl
    · have h1 := ih (by omega)
      rw [rowsTo, h1, if_neg h]
theorem rowsTo_err {rs : List Rw} {d : Int} {q : Nat} (hq : q < rs.length) (h0 : rowsTo rs d q = 0) (h : rowE rs d q ≠ 0) (hn : rs.length ≤ 512) : idsE rs d = rowE rs d q := by
  have h1 : rowsTo rs d (q + 1) = rowE rs d q := by rw [rowsTo, if_pos h0]
  rw [idsE, if_pos hn, rowsTo_stay (p := q + 1) (by omega) (by rw [h1]; exact h), h1]
theorem rowsTo_next {rs : List Rw} {d : Int} {q : Nat} (h0 : rowsTo rs d q = 0) (h : rowE rs d q = 0) : rowsTo rs d (q + 1) = 0 := by rw [rowsTo, if_pos h0, h]
theorem ids_take {rs : List Rw} {q : Nat} (hq : q < rs.length) : (idsOf rs).take (q + 1) = (idsOf rs).take q ++ [rs[q]!.1] := by
  unfold idsOf
  rw [List.take_succ_eq_append_getElem (by simpa using hq), getElem!_pos rs q hq]; simp

theorem law3 : Keyed Try.prog 3 := int_keyed Try.underlying3
theorem zero86 (w : World) : (zeroValue 79).run Try.prog w = .ok (.agg #[]) w := by kernel_rfl
theorem Try.info3 : (Try.prog.info? 3).map (fun i => (i.zero, i.size, i.bytes)) = some (some (.int .i64 0), 1, 8) := by kernel_rfl
theorem make85 (n : Int) (w : World) : (Instr.makeMap 78 (some (.int .i64 n))).run Try.prog w = .ok (.map (some w.heap.size)) (w.alloc (.map #[] 0)) := by
  have hu := run_underlying Try.underlying78 w
  simp [Instr.makeMap, hu, go_sem]
/-- The set of some ids. -/
def setI (l : List Int) : DataW Unit := setOf (.agg []) (l.map (Lit.int .i64))
theorem any_int (x : Int) : ∀ l : List Int, l.any ((fun y : Lit => y.sameKey (.int .i64 x)) ∘ Lit.int .i64) = l.contains x
  | [] => rfl
  | a :: r => by
    rw [List.any_cons, List.contains_cons, any_int x r]
    congr 1
    show decide (IntKind.i64 = IntKind.i64 ∧ a = x) = (x == a)
    by_cases e : a = x
    · subst e; simp
    · have e' : ¬ x = a := fun h => e h.symm
      simp [e, e']
theorem has_setI (l : List Int) (x : Int) : Maps.has (setI l) (.int .i64 x) = l.contains x := by
  unfold setI
  rw [has_setOf _ _ _ (fun y hy => by obtain ⟨_, _, rfl⟩ := List.mem_map.1 hy; trivial), List.any_map]
  exact any_int x _
theorem setI_snoc (l : List Int) (x : Int) : setI (l ++ [x]) = (setI l).put (.int .i64 x) (.agg []) := by
  unfold setI
  rw [List.map_append, List.map_singleton, setOf_snoc]

/-- Behind some rounds: the set, in block M, and the list of the ids so far. -/
structure IdSt (w W : World) (M : Nat) (v : Value) (l : List Int) : Prop where
  map : W.ownsMap Try.prog 3 (unitElem (H := Unit)) M l.length (setI l)
  row : Own W w.heap.size v l
  ne : v.ownBlock ≠ some M
  gb : Gb w W
  hM : w.heap.size ≤ M
theorem IdSt.alloc {w W : World} {M : Nat} {v : Value} {l : List Int} (h : IdSt w W M v l) (o : Obj) : IdSt w (W.alloc o) M v l :=
  ⟨h.map.alloc o, World.ownsRow.alloc h.row o, h.ne, gb_alloc h.gb o, h.hM⟩
theorem IdSt.next {w W W1 W2 : World} {M : Nat} {v v' : Value} {l : List Int} {x : Int} {o : Obj} (h : IdSt w W M v l) (hm : W1.ownsMap Try.prog 3 (unitElem (H := Unit)) M (l.length + 1) ((setI l).put (.int .i64 x) (.agg []))) (hg : W.grownBy W1 (some M))
    (hr : W2.ownsRow w.heap.size 3 1 v' (l.length + 1) (l.map (Value.int .i64) ++ [.int .i64 x])) (hg2 : (W1.alloc o).grownBy W2 v.ownBlock) (hloc : v'.ownBlock = v.ownBlock ∨ v'.ownBlock = some (W1.alloc o).heap.size) : IdSt w W2 M v' (l ++ [x]) := by
  have s1 := hg.size
  have s0 := h.gb.size
  refine ⟨?_, ?_, ?_, ?_, h.hM⟩
  · rw [setI_snoc, List.length_append]
    exact (hm.alloc o).kept hg2 (fun e => h.ne e.symm)
  · unfold Own
    rw [List.length_append, List.map_append]
    exact hr
  · rcases hloc with e | e
    · rw [e]; exact h.ne
    · rw [e]
      intro e2
      have := hm.lt
      have e3 : (W1.alloc o).heap.size = M := by injection e2
      rw [World.size_alloc] at e3
      omega
  · have b1 : Below w.heap.size w W1 := below_grown h.gb hg (fun k e => by cases e; exact h.hM) s0
    exact below_grown (b1.alloc (by omega) o) hg2 (fun k e => (World.ownsRow.lt h.row k e).1) (by rw [World.size_alloc]; omega)

theorem grown_cell {W W' : World} {row : Option Nat} {p : Addr} {v : Value} (g : W.grownBy W' row) (hc : W.cell? p = some v) (hn : some p.block ≠ row) : W'.cell? p = some v :=
  (World.cell?_of_block (g.block p.block (World.block_lt_of_cell? W p hc) hn)).trans hc

set_option maxHeartbeats 4000000 in
set_option maxRecDepth 100000 in
theorem idsOf_c {w : World} {v : Value} {rs : List Rw} (h : RdW w v rs) (d : Int) (hlen : rs.length ≤ 4611686018427387904) (hwf : ∀ i, i < rs.length → (Lit.int .i64 rs[i]!.1).wf = true) :
    Calls Try.prog 42 #[v, .int .i64 d] w fun e w' => ∃ v', e = .returned (.tuple #[v', .int .i64 (idsE rs d)]) ∧ Gb w w' ∧ (idsE rs d = 0 → Own w' w.heap.size v' (srt (idsOf rs))) ∧ (idsE rs d ≠ 0 → v' = .slice none 0 0) := by
  obtain ⟨a, cap, rfl, ha⟩ := h
  have A : Hid (∀ i, i < rs.length → ∃ b o u, a = some ⟨b, o, none⟩ ∧ w.cell? ⟨b, o + i * 2, none⟩ = some (.int .i64 rs[i]!.1) ∧ w.cell? ⟨b, o + i * 2 + 1, none⟩ = some u ∧ RdI w u rs[i]!.2) := ha
  have F : Hid (∀ i, i < rs.length → (Lit.int .i64 rs[i]!.1).wf = true) := hwf
  obtain ⟨n, hN⟩ : ∃ n, n = rs.length := ⟨_, rfl⟩
  have N : Hid (n = rs.length) := hN
  rw [← hN] at hlen ⊢
  clear ha hwf
  by_cases hn : n ≤ 512
  · have E : Hid (idsE rs d = rowsTo rs d rs.length) := by unfold Hid idsE; rw [if_pos (by omega)]
    clear hN
    obtain ⟨i0, hi, hz0, hz1, hz2⟩ := info_parts Try.info3
    have II : Hid (Try.prog.info? 3 = some i0 ∧ i0.zero = some (.int .i64 0) ∧ i0.size = 1 ∧ i0.bytes = 8) := ⟨hi, hz0, hz1, hz2⟩
    obtain ⟨w1, hmk, ho, hg⟩ := run_make_own (P := Try.prog) w w.heap.size 23 3 i0 (.int .i64 0) 1 Try.underlying23 hi hz0 hz1 .i64 .i64 n (by rw [hz2]; omega) (by simp only [maxLen]; omega) (Nat.le_refl _)
    have O : Hid (IdSt w (w1.alloc (.map #[] 0)) w1.heap.size (.slice (some ⟨w.heap.size, 0, none⟩) 0 n) []) := by
      have hlt := ho.lt w.heap.size rfl
      refine ⟨World.ownsMap_made _ _ _ _, World.ownsRow.alloc ho _, ?_, ?_, Nat.le_of_lt hlt.2⟩
      · intro e
        have : w.heap.size = w1.heap.size := by simpa [Value.ownBlock] using e
        omega
      · exact gb_alloc (below_grown (Below.refl _ _) hg (fun k e => by cases e) (Nat.le_refl _)) _
    have hmm := make85 (n : Int)
    clear hi hz0 hz1 hz2 ho hg
    go_enter Try.func42, Try.ntmps42
    go_wp2
    clear hmk hmm
    generalize w1.heap.size = M at *
    go_loopw [6, 24] (fun vv iv w' => ∃ q : Nat, iv = .int .i64 (q : Int) ∧ q ≤ n ∧ Hid (rowsTo rs d q = 0) ∧ Hid (IdSt w w' M vv ((idsOf rs).take q))) (fun _ iv _ => n - (intOf iv).toNat)
    case atStart => exact ⟨0, rfl, Nat.zero_le _, rfl, O.out⟩
    case round =>
      clear O
      obtain ⟨q, rfl, hq, X, Y⟩ := hrel
      by_cases hqn : q < n
      · have hqi : (q : Int) < (n : Int) := by omega
        have hql : q < rs.length := by have := N.out; omega
        obtain ⟨b, o, u, ea, h1, h2, h3⟩ := A.out q hql
        have hkey : keyOf Try.prog 3 (.int .i64 rs[q]!.1) = some (.int .i64 rs[q]!.1) := keyOf_int_mk Try.underlying3 (F.out q hql)
        have EE : Hid (rowE rs d q = if ((idsOf rs).take q).contains rs[q]!.1 = false ∧ okId rs[q]!.1 = true then chk rs[q]!.2 d else 50) := rfl
        have NX : Hid ((idsOf rs).take (q + 1) = (idsOf rs).take q ++ [rs[q]!.1]) := ids_take hql
        have LL : Hid (((idsOf rs).take q).length = q) := by unfold Hid idsOf; rw [List.length_take]; simp; omega
        have QQ : Hid (q < rs.length ∧ rs.length ≤ 512) := ⟨hql, by have := N.out; omega⟩
        have hx0 := gb_keeps Y.out.gb h1
        have hx1 := gb_keeps Y.out.gb h2
        have h3 := h3.gb Y.out.gb
        have hhas := has_setI ((idsOf rs).take q) rs[q]!.1
        have hE : Hid (rowE rs d q ≠ 0 → idsE rs d = rowE rs d q) := fun h => rowsTo_err QQ.out.1 X.out h QQ.out.2
        have hNext : Hid (rowE rs d q = 0 → rowsTo rs d (q + 1) = 0) := fun h => rowsTo_next X.out h
        generalize rs[q]!.1 = x at *
        generalize rs[q]!.2 = V at *
        generalize rowE rs d q = re at *
        clear h1 h2
        subst ea
        have hown := fun o => Y.out.map.alloc o
        generalize hD : setI ((idsOf rs).take q) = D at *
        generalize hL : (idsOf rs).take q = L at *
        have HD : Hid (setI L = D ∧ L = (idsOf rs).take q) := ⟨hD, hL.symm⟩
        clear hD hL hql
        cases hcon : L.contains x with
        | true =>
          rw [hcon] at hhas
          have R : Hid (idsE rs d = 50) := by
            have h1 := EE.out
            rw [if_neg (by rw [hcon]; simp)] at h1
            have := hE.out (by omega)
            unfold Hid; omega
          obtain ⟨pv, cv, rfl, _⟩ := h3
          generalize V.length = nv at *
          clear EE hE hNext NX LL hcon HD X
          go_wp2_with (first
            | (at_lookup; refine wpList_lookup_own_unit _ rfl _ _ 78 rfl 3 79 law3 Try.underlying78 (zero86 _) M L.length _ rfl (hown _) _ _ rfl hkey ?_)
            | go_in)
          exact bodyPost_ret (v := .tuple #[.slice none 0 0, .int .i64 50]) (by simp [results, Try.results42, go_sem]) rfl ⟨.slice none 0 0, by rw [R.out], gb_alloc (gb_alloc Y.out.gb _) _, fun h => absurd (R.out.symm.trans h) (by decide), fun _ => rfl⟩
        | false =>
          rw [hcon] at hhas
          cases hok : okId x with
          | false =>
            have c61 := fun W => isId_v x false hok W
            have R : Hid (idsE rs d = 50) := by
              have h1 := EE.out
              rw [if_neg (by rw [hok]; simp)] at h1
              have := hE.out (by omega)
              unfold Hid; omega
            obtain ⟨pv, cv, rfl, _⟩ := h3
            generalize V.length = nv at *
            clear EE hE hNext NX LL hcon HD X hok
            go_wp2_with (first
              | (at_lookup; refine wpList_lookup_own_unit _ rfl _ _ 78 rfl 3 79 law3 Try.underlying78 (zero86 _) M L.length _ rfl (hown _) _ _ rfl hkey ?_)
              | (go_at_call 44; refine (c61 _).mono ?_; rintro e w' ⟨rfl, e2⟩; subst e2)
              | go_in)
            exact bodyPost_ret (v := .tuple #[.slice none 0 0, .int .i64 50]) (by simp [results, Try.results42, go_sem]) rfl ⟨.slice none 0 0, by rw [R.out], gb_alloc (gb_alloc Y.out.gb _) _, fun h => absurd (R.out.symm.trans h) (by decide), fun _ => rfl⟩
          | true =>
            have c61 := fun W => isId_v x true hok W
            have EE2 : Hid (re = chk V d) := by
              have h1 := EE.out
              rw [if_pos ⟨hcon, hok⟩] at h1
              exact h1
            clear EE hok hcon
            by_cases hv : chk V d = 0
            · have c11 := fun W' (g : Gb wr W') => check_v (h3.gb g) d 0 hv
              have R : Hid (rowsTo rs d (q + 1) = 0) := hNext.out (by rw [EE2.out, hv])
              obtain ⟨pv, cv, rfl, _⟩ := h3
              generalize V.length = nv at *
              clear hE hNext EE2 hv
              have II' := II.out
              have hrow := Y.out.row
              have hq512 : L.length ≤ 512 := by have := LL.out; omega
              have hw0 := Y.out.gb.size
              have MW : Hid (some wr.heap.size ≠ some M) := by have := Y.out.map.lt; unfold Hid; intro e; injection e; omega
              have T0 : Hid (((wr.alloc (.cells #[.int .i64 x, .slice pv nv cv] 50)).alloc (.cells #[] 79)).cell? ⟨wr.heap.size, 0, none⟩ = some (.int .i64 x)) := by unfold Hid; simp [go_sem]
              go_wp2_with (first
                | (at_lookup; refine wpList_lookup_own_unit _ rfl _ _ 78 rfl 3 79 law3 Try.underlying78 (zero86 _) M L.length _ rfl (hown _) _ _ rfl hkey ?_)
                | (go_at_call 44; refine (c61 _).mono ?_; rintro e w' ⟨rfl, e2⟩; subst e2)
                | (go_at_call 28; refine (c11 _ (gb_alloc (gb_alloc (Below.refl _ _) _) _)).mono ?_; rintro e w' ⟨rfl, e2⟩; subst e2)
                | (at_mapUpdate; refine wpList_mapUpdate_own _ rfl _ _ _ 78 rfl 3 79 law3 Try.underlying78 (unitElem (H := Unit)) M L.length _ rfl ((hown _).alloc _) (by unfold maxLen; omega) _ _ _ rfl rfl hkey _ [] unitElem_mk ?_; intro w1 hown1 hgrow1; have t0 := grown_cell hgrow1 T0.out MW.out)
                | (at_builtin; refine wpList_append_own_at _ rfl _ _ 23 rfl w.heap.size 3 i0 (.int .i64 0) 1 8 Try.underlying23 II'.1 II'.2.1 II'.2.2.1 II'.2.2.2 rfl (by decide) _ _ _ rfl (World.ownsRow.alloc (World.ownsRow.kept (World.ownsRow.alloc (World.ownsRow.alloc hrow _) _) hgrow1 (Or.inr Y.out.ne)) _) ⟨w1.heap.size, 0, none⟩ 1 1 [.int .i64 x] rfl rfl (cell_one_new _ _ _) (ints_oneCell .i64 [x]) (by unfold maxLen; omega) (by omega) (by have := hgrow1.size; simp at this ⊢; omega) ?_; intro v' w2 hown' hgrow2 hnil2 hloc)
                | go_in)
              have YN := ((Y.out.alloc (.cells #[.int .i64 x, .slice pv nv cv] 50)).alloc (.cells #[] 79)).next (HD.out.1 ▸ hown1) hgrow1 hown' hgrow2 hloc
              rw [← NX.out] at YN
              clear hown1 hgrow1 hown' hgrow2 hloc hnil2 hown hrow t0
              go_roundw
              case rel => exact ⟨q + 1, by go_num, hqn, R, YN⟩
              case measure => simp [intOf]; omega
            · have c11 := fun W' (g : Gb wr W') => check_v (h3.gb g) d _ rfl
              have hv' : (chk V d == 0) = false := by rw [beq_eq_false_iff_ne]; exact hv
              have R : Hid (idsE rs d = chk V d ∧ chk V d ≠ 0) := by
                have := hE.out (by rw [EE2.out]; exact hv)
                exact ⟨by rw [this, EE2.out], hv⟩
              obtain ⟨pv, cv, rfl, _⟩ := h3
              generalize V.length = nv at *
              clear hE hNext EE2 hv NX LL HD X
              generalize chk V d = ce at *
              go_wp2_with (first
                | (at_lookup; refine wpList_lookup_own_unit _ rfl _ _ 78 rfl 3 79 law3 Try.underlying78 (zero86 _) M L.length _ rfl (hown _) _ _ rfl hkey ?_)
                | (go_at_call 44; refine (c61 _).mono ?_; rintro e w' ⟨rfl, e2⟩; subst e2)
                | (go_at_call 28; refine (c11 _ (gb_alloc (gb_alloc (Below.refl _ _) _) _)).mono ?_; rintro e w' ⟨rfl, e2⟩; subst e2)
                | go_in)
              exact bodyPost_ret (v := .tuple #[.slice none 0 0, .int .i64 ce]) (by simp [results, Try.results42, go_sem]) rfl ⟨.slice none 0 0, by rw [R.out.1], gb_alloc (gb_alloc Y.out.gb _) _, fun h => absurd (R.out.1.symm.trans h) R.out.2, fun _ => rfl⟩
      · have hqi : ¬ (q : Int) < (n : Int) := by omega
        have hL : (idsOf rs).take q = idsOf rs := List.take_of_length_le (by unfold idsOf; rw [List.length_map]; have := N.out; omega)
        have Y' := Y.out
        rw [hL] at Y'
        have R : Hid (idsE rs d = 0) := by
          have h1 := X.out
          rw [show q = rs.length by have := N.out; omega] at h1
          rw [← E.out] at h1; exact h1
        have c67 := sort_c Y'.row (by unfold idsOf; rw [List.length_map]; have := N.out; omega) Y'.gb.size
        have Y2 : Hid (Gb w wr) := Y'.gb
        clear X Y Y' hL
        go_wp2_with fail
        refine c67.mono ?_
        rintro e w2 ⟨rfl, ho, hb⟩
        go_wp2
        refine bodyPost_ret (v := .tuple #[u6, .int .i64 0]) (by simp [results, Try.results42, go_sem]) rfl ⟨u6, by rw [R.out], Y2.out.trans hb, fun _ => ho, fun h => absurd R.out h⟩
  · have hn' : (n : Int) > 512 := by omega
    have E : Hid (idsE rs d = 2) := by unfold Hid idsE; rw [if_neg (by omega)]
    clear hN
    go_enter Try.func42, Try.ntmps42
    go_wp2
    exact bodyPost_ret (v := .tuple #[.slice none 0 0, .int .i64 2]) (by simp [results, Try.results42, go_sem]) rfl ⟨.slice none 0 0, by rw [E.out], Below.refl _ _, fun h => absurd (E.out.symm.trans h) (by decide), fun _ => rfl⟩
end Go.Proofs.Ytmlincnmhjkjgaa
