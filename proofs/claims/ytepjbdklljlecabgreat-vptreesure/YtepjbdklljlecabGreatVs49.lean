import Derived.Test.YtepjbdklljlecabGreatVs46
import Derived.Test.YtepjbdklljlecabGreatVs48
import Derived.BigQuiet
/- The law's calls, read; its big. -/
namespace Go.Proofs.YtepjbdklljlecabGreat
open Go.RowKit Go.Sort

/-- A call: its kind, id, k and budget, its row, its vector. -/
abbrev Opv : Type := (Int × Int × Int × Int) × Rw × List Int
/-- A slice reads as these calls. -/
def RdO (w : World) (u : Value) (ops : List Opv) : Prop := ∃ a cap, u = .slice a ops.length cap ∧ ∀ i, i < ops.length → ∃ b o rv qv, a = some ⟨b, o, none⟩ ∧
  (w.cell? ⟨b, o + i * 7, none⟩ = some (.int .i64 ops[i]!.1.1) ∧ w.cell? ⟨b, o + i * 7 + 1, none⟩ = some (.int .i64 ops[i]!.1.2.1) ∧ w.cell? ⟨b, o + i * 7 + 2, none⟩ = some (.int .i64 ops[i]!.1.2.2.1) ∧
  w.cell? ⟨b, o + i * 7 + 3, none⟩ = some (.int .i64 ops[i]!.1.2.2.2) ∧ w.cell? ⟨b, o + i * 7 + 4, none⟩ = some (.int .i64 ops[i]!.2.1.1) ∧ w.cell? ⟨b, o + i * 7 + 5, none⟩ = some rv ∧ w.cell? ⟨b, o + i * 7 + 6, none⟩ = some qv) ∧
  RdI w rv ops[i]!.2.1.2 ∧ RdI w qv ops[i]!.2.2
theorem RdO.gb {w w' : World} {v : Value} {l : List Opv} (h : RdO w v l) (g : Gb w w') : RdO w' v l := by
  obtain ⟨a, cap, e, h⟩ := h
  refine ⟨a, cap, e, fun i hi' => ?_⟩
  obtain ⟨b, o, rv, qv, e0, ⟨c0, c1, c2, c3, c4, c5, c6⟩, r1, r2⟩ := h i hi'
  exact ⟨b, o, rv, qv, e0, ⟨gb_keeps g c0, gb_keeps g c1, gb_keeps g c2, gb_keeps g c3, gb_keeps g c4, gb_keeps g c5, gb_keeps g c6⟩, r1.gb g, r2.gb g⟩
theorem rdo_nil (w : World) : RdO w (.slice none 0 0) [] := ⟨none, 0, rfl, fun _i hi => absurd hi (Nat.not_lt_zero _)⟩
/-- What big tells: one or the other. -/
def BigO (w : World) (e : Ending) (w' : World) : Prop := ∃ b, e = .returned (.bool b) ∧ Gb w w'
set_option maxHeartbeats 2000000 in
set_option maxRecDepth 100000 in
theorem kbig_c {w : World} {v u : Value} {rs : List Rw} {ops : List Opv} (hv : RdW w v rs) (hlen : rs.length ≤ 9223372036854775807) (hu : RdO w u ops) :
    Calls Tryz.prog 4 #[v, u] w fun e w' => BigO w e w' := by
  have c := vects_c hv 32768 hlen
  obtain ⟨av, cv, rfl, _⟩ := hv
  have O : Hid (RdO w u ops) := hu
  obtain ⟨au, cu, rfl, _⟩ := hu
  obtain ⟨n, hN⟩ : ∃ n, n = ops.length := ⟨_, rfl⟩
  have N : Hid (n = ops.length) := hN
  rw [← hN] at O ⊢
  clear hN
  generalize rs.length = m at *
  go_enter Tryz.func4, Tryz.ntmps4
  by_cases h1 : 2000 < (n : Int)
  · go_wp2
    go_ret
    exact ⟨_, rfl, Below.refl _ _⟩
  by_cases h2 : 2000 < (m : Int)
  · go_wp2
    go_ret
    exact ⟨_, rfl, Below.refl _ _⟩
  go_wp2_with fail
  refine c.mono ?_
  rintro e w' ⟨⟨z, rfl⟩, e2⟩
  subst e2
  clear c
  by_cases h3 : 32768 < z
  · go_wp2
    go_ret
    exact ⟨_, rfl, Below.refl _ _⟩
  go_wp2
  go_loopw [5, 6] (fun zv iv w' => ∃ (q : Nat) (z : Int), zv = .int .i64 z ∧ iv = .int .i64 (q : Int) ∧ q ≤ n ∧ Hid (Gb w w')) (fun _ iv _ => n - (intOf iv).toNat)
  case atStart => exact ⟨0, 0, rfl, rfl, Nat.zero_le _, Below.refl _ _⟩
  case round =>
    obtain ⟨q, z, rfl, rfl, hq, G⟩ := hrel
    by_cases hqn : q < n
    · have hqi : (q : Int) < (n : Int) := by omega
      by_cases hz : z ≤ 32768
      · rename_i w'
        obtain ⟨a, cap, ea, hO⟩ := (RdO.gb O.out G.out)
        obtain ⟨b, o, rv, qv, e0, ⟨c0, c1, c2, c3, c4, c5, c6⟩, ⟨a1, k1, e1, _⟩, ⟨a2, k2, e2, _⟩⟩ := hO q (by have := N.out; omega)
        injection ea with ea1 ea2 ea3
        subst ea1 ea3 e0 e1 e2
        generalize ops[q]!.2.1.2.length = x1 at *
        generalize ops[q]!.2.2.length = x2 at *
        clear ea2 hO c0 c1 c2 c3 c4
        go_wp2
        go_quiet (fail)
        go_wp2
        go_roundw
        case rel => exact ⟨q + 1, _, rfl, by simp, hqn, gb_trans G.out (gw_drewN (Tk.Gw.refl _) _).gr⟩
        case measure => simp [intOf]; omega
      · go_wp2
        go_ret
        exact ⟨_, rfl, G.out⟩
    · have hqi : ¬ (q : Int) < (n : Int) := by omega
      go_wp2
      go_ret
      exact ⟨_, rfl, G.out⟩
end Go.Proofs.YtepjbdklljlecabGreat

/- A search that is refused; a tree that is not built. -/
namespace Go.Proofs.YtepjbdklljlecabGreat
open Go.RowKit Go.Sort

/-- What Search answers. -/
def srchE (m : Nat) (q : List Int) (k b : Int) : Int := if chk q (m : Int) = 0 then (if (1 ≤ k ∧ k ≤ 64) ∧ 0 ≤ b ∧ b ≤ 1000000 then 0 else 1) else chk q (m : Int)
theorem srchE_zero {m : Nat} {q : List Int} {k b : Int} : srchE m q k b = 0 ↔ chk q (m : Int) = 0 ∧ (1 ≤ k ∧ k ≤ 64) ∧ 0 ≤ b ∧ b ≤ 1000000 := by
  unfold srchE
  by_cases h : chk q (m : Int) = 0
  · rw [if_pos h]
    split
    · rename_i h1; exact ⟨fun _ => ⟨h, h1⟩, fun _ => rfl⟩
    · rename_i h1; exact ⟨fun e => absurd e (by decide), fun e => absurd e.2 h1⟩
  · rw [if_neg h]
    exact ⟨fun e => absurd e h, fun e => absurd e.1 h⟩
theorem knew_bad (k : Int) (hk : k < 1 ∨ 64 < k) (w : World) : Calls Tryz.prog 20 #[.int .i64 k] w fun e w' => e = .returned (.tuple #[.pointer none, .int .i64 1]) ∧ w' = w := by
  rcases hk with h | h
  · exact Tk.new_lo k h w
  · exact Tk.new_hi k h w
set_option maxHeartbeats 1000000 in
theorem ksearch_no {Iq : Nat → Prop} {w : World} {tb m leaf : Nat} {rs : List Rw} {F : List Nat} (h : TreeAt Iq w tb m leaf rs F) {u : Value} {q : List Int} (hu : RdI w u q) (k b : Int) (hz : srchE m q k b ≠ 0) :
    Calls Tryz.prog 8 #[.pointer (some ⟨tb, 0, none⟩), u, .int .i64 k, .int .i64 b] w fun e w' => e = .returned (.tuple #[.agg #[.slice none 0 0, .slice none 0 0, .slice none 0 0], .int .i64 (srchE m q k b)]) ∧ Gb w w' := by
  obtain ⟨_, _, _, c0, _⟩ := h.cells
  have g1 : Gb w (w.alloc (.cells #[.slice none 0 0, .slice none 0 0, .slice none 0 0] 38)) := gb_alloc (Below.refl _ _) _
  have G : Hid (Gb w (w.alloc (.cells #[.slice none 0 0, .slice none 0 0, .slice none 0 0] 38))) := g1
  have e0 := gb_keeps g1 c0
  obtain ⟨x, hx⟩ : ∃ x, x = chk q (m : Int) := ⟨_, rfl⟩
  have cK := check_v (hu.gb g1) (m : Int) x hx.symm
  have hE : srchE m q k b = if x = 0 then (if (1 ≤ k ∧ k ≤ 64) ∧ 0 ≤ b ∧ b ≤ 1000000 then 0 else 1) else x := by rw [hx]; rfl
  rw [hE] at hz ⊢
  obtain ⟨ua, uc, eu, _⟩ := hu.rd0
  subst eu
  generalize q.length = nq at *
  clear hE hx hu h c0 g1
  by_cases h1 : x = 0
  · subst h1
    rw [if_pos rfl] at hz ⊢
    by_cases h2 : 1 ≤ k ∧ k ≤ 64
    · by_cases h3 : 0 ≤ b ∧ b ≤ 1000000
      · rw [if_pos ⟨h2, h3⟩] at hz; exact absurd rfl hz
      · rw [if_neg (fun h => h3 h.2)]
        have cN := Tk.new_ok k h2.1 h2.2 (w.alloc (.cells #[.slice none 0 0, .slice none 0 0, .slice none 0 0] 38))
        clear hz h2
        by_cases h4 : b < 0
        · go_enter Tryz.func8, Tryz.ntmps8
          go_wp2_with fail
          go_fit cK
          rintro e w1 ⟨rfl, rfl⟩
          clear cK
          go_wp2_with fail
          go_fit cN
          rintro e w2 ⟨rfl, rfl⟩
          clear cN h3
          go_wp2
          refine bodyPost_ret (v := .tuple #[.agg #[.slice none 0 0, .slice none 0 0, .slice none 0 0], .int .i64 1]) (by simp [results, Tryz.results8, go_sem]) rfl ⟨rfl, ?_⟩
          go_grown
        · have h5 : (1000000 : Int) < b := by omega
          clear h3
          go_enter Tryz.func8, Tryz.ntmps8
          go_wp2_with fail
          go_fit cK
          rintro e w1 ⟨rfl, rfl⟩
          clear cK
          go_wp2_with fail
          go_fit cN
          rintro e w2 ⟨rfl, rfl⟩
          clear cN
          go_wp2
          refine bodyPost_ret (v := .tuple #[.agg #[.slice none 0 0, .slice none 0 0, .slice none 0 0], .int .i64 1]) (by simp [results, Tryz.results8, go_sem]) rfl ⟨rfl, ?_⟩
          go_grown
    · rw [if_neg (fun h => h2 h.1)]
      have cN := knew_bad k (by omega) (w.alloc (.cells #[.slice none 0 0, .slice none 0 0, .slice none 0 0] 38))
      clear hz h2
      go_enter Tryz.func8, Tryz.ntmps8
      go_wp2_with fail
      go_fit cK
      rintro e w1 ⟨rfl, rfl⟩
      clear cK
      go_wp2_with fail
      go_fit cN
      rintro e w2 ⟨rfl, rfl⟩
      clear cN
      go_wp2
      refine bodyPost_ret (v := .tuple #[.agg #[.slice none 0 0, .slice none 0 0, .slice none 0 0], .int .i64 1]) (by simp [results, Tryz.results8, go_sem]) rfl ⟨rfl, ?_⟩
      exact G.out
  · have h2 : (x == 0) = false := by rw [beq_eq_false_iff_ne]; exact h1
    rw [if_neg h1] at hz ⊢
    go_enter Tryz.func8, Tryz.ntmps8
    go_wp2_with fail
    go_fit cK
    rintro e w1 ⟨rfl, rfl⟩
    clear cK
    go_wp2
    refine bodyPost_ret (v := .tuple #[.agg #[.slice none 0 0, .slice none 0 0, .slice none 0 0], .int .i64 x]) (by simp [results, Tryz.results8, go_sem]) rfl ⟨rfl, ?_⟩
    exact G.out

/-- What building answers. -/
def bldE (rs : List Rw) (d leaf : Int) : Int := if flatE rs d = 0 then (if 1 ≤ leaf ∧ leaf ≤ 64 then 0 else 1) else flatE rs d
theorem kbuild_no {w : World} {v : Value} {rs : List Rw} (h : RdW w v rs) (hwf : Wf rs) (d leaf B S : Int) (hz : bldE rs d leaf ≠ 0) :
    Calls Tryz.prog 5 #[v, .int .i64 d, .agg #[.int .i64 leaf, .int .i64 B, .int .u64 S]] w fun e w' => e = .returned (.tuple #[.pointer none, .int .i64 (bldE rs d leaf)]) ∧ Gb w w' := by
  have g1 : Gb w (w.alloc (.cells #[.int .i64 leaf, .int .i64 B, .int .u64 S] 25)) := gb_alloc (Below.refl _ _) _
  have cB : Calls Tryz.prog 14 #[v, .int .i64 d, .int .i64 leaf, .int .u64 S] (w.alloc (.cells #[.int .i64 leaf, .int .i64 B, .int .u64 S] 25)) fun e w' => e = .returned (.tuple #[.pointer none, .int .i64 (bldE rs d leaf)]) ∧ Gb w w' := by
    by_cases h1 : flatE rs d = 0
    · by_cases h2 : 1 ≤ leaf ∧ leaf ≤ 64
      · unfold bldE at hz; rw [if_pos h1, if_pos h2] at hz; exact absurd rfl hz
      · have e : bldE rs d leaf = 1 := by unfold bldE; rw [if_pos h1, if_neg h2]
        rw [e]
        exact (build_leaf (h.gb g1) hwf d leaf S h1 (by omega)).mono fun e w' ⟨h3, h4⟩ => ⟨h3, gb_trans g1 h4⟩
    · have e : bldE rs d leaf = flatE rs d := by unfold bldE; rw [if_neg h1]
      rw [e]
      exact (build_no (h.gb g1) hwf d leaf S h1).mono fun e w' ⟨h3, h4⟩ => ⟨h3, gb_trans g1 h4⟩
  obtain ⟨a, c, e, _⟩ := h
  subst e
  generalize rs.length = n at *
  generalize bldE rs d leaf = z at *
  clear g1 hwf
  go_enter Tryz.func5, Tryz.ntmps5
  go_wp2_with fail
  go_fit cB
  rintro e w1 ⟨rfl, hG⟩
  have HG : Hid _ := hG
  clear cB hG
  go_wp2
  refine bodyPost_ret (v := .tuple #[.pointer none, .int .i64 z]) (by simp [results, Tryz.results5, go_sem]) rfl ⟨rfl, ?_⟩
  exact HG.out
end Go.Proofs.YtepjbdklljlecabGreat

/- The law's tree: it lies in blocks that are younger than what was handed in. -/
namespace Go.Proofs.YtepjbdklljlecabGreat
open Go.RowKit Go.Sort

theorem put_old {Iq : Nat → Prop} {w0 W : World} {tb m leaf : Nat} {rs : List Rw} {F : List Nat} {xi : Int} {u : Value} {xl : List Int} (h : TreeAt Iq W tb m leaf rs F) (g : Gb w0 W) (hu : RdI w0 u xl) (hF : ∀ x ∈ F, w0.heap.size ≤ x) :
    Calls Tryz.prog 17 #[.pointer (some ⟨tb, 0, none⟩), .agg #[.int .i64 xi, u]] W fun e w' => e = .returned (.tuple #[.bool (decide (putE m rs (xi, xl) = 0) && !hasId rs xi), .int .i64 (putE m rs (xi, xl))]) ∧ TOut Iq W tb m leaf F (if putE m rs (xi, xl) = 0 then putRw rs (xi, xl) else rs) w' := by
  by_cases hx : xl = []
  · subst hx
    have hm := h.rok.2
    have h2 : chk [] (m : Int) ≠ 0 := fun e => by
      have := (chk_ok e).2.2.1
      simp at this
      omega
    have fin : ∀ e0 : Int, putE m rs (xi, []) = e0 → e0 ≠ 0 → (Calls Tryz.prog 17 #[.pointer (some ⟨tb, 0, none⟩), .agg #[.int .i64 xi, u]] W fun e w' => e = .returned (.tuple #[.bool false, .int .i64 e0]) ∧ Gb W w') → Calls Tryz.prog 17 #[.pointer (some ⟨tb, 0, none⟩), .agg #[.int .i64 xi, u]] W fun e w' => e = .returned (.tuple #[.bool (decide (putE m rs (xi, []) = 0) && !hasId rs xi), .int .i64 (putE m rs (xi, []))]) ∧ TOut Iq W tb m leaf F (if putE m rs (xi, []) = 0 then putRw rs (xi, []) else rs) w' := by
      intro e0 he h0 c
      refine c.mono ?_
      rintro e w' ⟨rfl, g⟩
      rw [he, if_neg h0, decide_eq_false h0]
      exact ⟨rfl, F, h.gb g, fun y hy => .inl hy, Tk.Kp.of_gr g⟩
    by_cases h1 : okId xi = true
    · exact fin _ (by unfold putE; rw [if_pos h1, if_neg h2]) h2 (put_chk h (hu.gb g) h1 rfl h2)
    · exact fin 50 (by unfold putE; rw [if_neg h1]) (by decide) (put_id h (hu.gb g) (Bool.eq_false_iff.2 h1))
  · refine put_c h (hu.gb g) ?_
    intro b o n c e hb
    obtain ⟨a, c', e', hc⟩ := hu
    rw [e'] at e
    cases e
    obtain ⟨b', o', e2, hcell⟩ := hc 0 (List.length_pos_iff.2 hx)
    cases e2
    have h1 := World.block_lt_of_cell? w0 _ hcell
    have h2 := hF _ hb
    exact absurd h1 (Nat.not_lt.2 h2)

/-- The law's tree. -/
def TrW (Iq : Nat → Prop) (w0 : World) (tb m leaf : Nat) (rs : List Rw) (W : World) : Prop := ∃ F, TreeAt Iq W tb m leaf rs F ∧ (∀ x ∈ F, w0.heap.size ≤ x) ∧ Gb w0 W
theorem TrW.gb {Iq : Nat → Prop} {w0 W W' : World} {tb m leaf : Nat} {rs : List Rw} (h : TrW Iq w0 tb m leaf rs W) (g : Gb W W') : TrW Iq w0 tb m leaf rs W' := by
  obtain ⟨F, t, hF, g0⟩ := h
  exact ⟨F, t.gb g, hF, gb_trans g0 g⟩
theorem TrW.old {Iq : Nat → Prop} {w0 W : World} {tb m leaf : Nat} {rs : List Rw} (h : TrW Iq w0 tb m leaf rs W) : Gb w0 W := by
  obtain ⟨_, _, _, g⟩ := h
  exact g
theorem TrW.out {Iq : Nat → Prop} {w0 W W' : World} {tb m leaf : Nat} {rs' : List Rw} {F : List Nat} (hF : ∀ x ∈ F, w0.heap.size ≤ x) (g : Gb w0 W) (h : TOut Iq W tb m leaf F rs' W') : TrW Iq w0 tb m leaf rs' W' := by
  obtain ⟨F', t, l, k⟩ := h
  have s := g.size
  refine ⟨F', t, fun x hx => ?_, g.trans (k.gr s hF)⟩
  rcases l x hx with h | h
  · exact hF x h
  · omega
theorem trw_put {Iq : Nat → Prop} {w0 W : World} {tb m leaf : Nat} {rs : List Rw} {u : Value} {xl : List Int} (h : TrW Iq w0 tb m leaf rs W) (xi : Int) (hu : RdI w0 u xl) :
    Calls Tryz.prog 17 #[.pointer (some ⟨tb, 0, none⟩), .agg #[.int .i64 xi, u]] W fun e w' => e = .returned (.tuple #[.bool (decide (putE m rs (xi, xl) = 0) && !hasId rs xi), .int .i64 (putE m rs (xi, xl))]) ∧ TrW Iq w0 tb m leaf (if putE m rs (xi, xl) = 0 then putRw rs (xi, xl) else rs) w' := by
  obtain ⟨F, t, hF, g⟩ := h
  exact (put_old t g hu hF).mono fun e w' ⟨h1, h2⟩ => ⟨h1, TrW.out hF g h2⟩
theorem trw_del {Iq : Nat → Prop} {w0 W : World} {tb m leaf : Nat} {rs : List Rw} (h : TrW Iq w0 tb m leaf rs W) (id : Int) :
    Calls Tryz.prog 18 #[.pointer (some ⟨tb, 0, none⟩), .int .i64 id] W fun e w' => e = .returned (.tuple #[.bool (hasId rs id), .int .i64 0]) ∧ TrW Iq w0 tb m leaf (delRw rs id) w' := by
  obtain ⟨F, t, hF, g⟩ := h
  exact (delete_c t id).mono fun e w' ⟨h1, h2⟩ => ⟨h1, TrW.out hF g h2⟩
theorem trw_rows {Iq : Nat → Prop} {w0 W : World} {tb m leaf : Nat} {rs : List Rw} (h : TrW Iq w0 tb m leaf rs W) :
    Calls Tryz.prog 11 #[.pointer (some ⟨tb, 0, none⟩)] W fun e w' => ∃ v', e = .returned v' ∧ OwnC w' W.heap.size v' rs ∧ Gb W w' := by
  obtain ⟨F, t, _⟩ := h
  exact rows_c t
/-- A built tree is the law's. -/
theorem trw_of {Iq : Nat → Prop} {w W : World} {m leaf : Nat} {rs : List Rw} {e : Ending} (h : TreeOut Iq w m leaf rs e W) : ∃ tb rs', e = .returned (.tuple #[.pointer (some ⟨tb, 0, none⟩), .int .i64 0]) ∧ TrW Iq w tb m leaf rs' W ∧ rs'.Perm rs ∧ Ris rs' := by
  obtain ⟨tb, rs', F, e1, t, p, g, hF⟩ := h
  exact ⟨tb, rs', e1, ⟨F, t, hF, g⟩, p, t.ris⟩
end Go.Proofs.YtepjbdklljlecabGreat

/- law08's plays. -/
namespace Go.Proofs.YtepjbdklljlecabGreat
open Go.RowKit Go.Sort

/-- What a call leaves of the rows. -/
def playRw (m : Nat) (rs : List Rw) (o : Opv) : List Rw := if o.1.1 = 1 then (if putE m rs o.2.1 = 0 then putRw rs o.2.1 else rs) else if o.1.1 = 2 then delRw rs o.1.2.1 else rs
set_option maxRecDepth 100000 in
set_option maxHeartbeats 2000000 in
theorem plays_c {Iq : Nat → Prop} {w0 W : World} {tb m leaf : Nat} {rs : List Rw} {u : Value} {ops : List Opv} (h : TrW Iq w0 tb m leaf rs W) (hu : RdO w0 u ops) (hn : ops.length ≤ 9223372036854775807) :
    Calls Tryz.prog 7 #[.pointer (some ⟨tb, 0, none⟩), u] W fun e W' => e = .returned (.tuple #[]) ∧ TrW Iq w0 tb m leaf (ops.foldl (playRw m) rs) W' := by
  have TT : Hid (TrW Iq w0 tb m leaf rs W) := h
  have O : Hid (RdO w0 u ops) := hu
  obtain ⟨au, cu, rfl, _⟩ := hu
  obtain ⟨n, hN⟩ : ∃ n, n = ops.length := ⟨_, rfl⟩
  have N : Hid (n = ops.length) := hN
  rw [← hN] at O hn ⊢
  clear hN h
  go_enter Tryz.func7, Tryz.ntmps7
  go_wp2
  go_loopw [4] (fun iv W' => ∃ i : Nat, iv = .int .i64 (i : Int) ∧ i ≤ n ∧ Hid (TrW Iq w0 tb m leaf ((ops.take i).foldl (playRw m) rs) W')) (fun iv _ => n - (intOf iv).toNat)
  case atStart => exact ⟨0, rfl, Nat.zero_le _, TT⟩
  case round =>
    clear TT
    obtain ⟨i, rfl, hi, TI⟩ := hrel
    by_cases hin : i < n
    · have hii : (i : Int) < (n : Int) := by omega
      have hil : i < ops.length := by rw [← N.out]; exact hin
      obtain ⟨a, cap, ea, hO⟩ := O.out
      obtain ⟨b, o, rv, qv, e0, ⟨c0, c1, _, _, c4, c5, _⟩, hr, _⟩ := hO i hil
      injection ea with ea1 ea2 ea3
      subst ea1 ea3 e0
      have go := TI.out.old
      have d0 := gb_keeps go c0
      have d1 := gb_keeps go c1
      have d4 := gb_keeps go c4
      have d5 := gb_keeps go c5
      have st : (ops.take (i + 1)).foldl (playRw m) rs = playRw m ((ops.take i).foldl (playRw m) rs) ops[i]! := by
        rw [List.take_succ_eq_append_getElem hil, List.foldl_append, getElem!_pos ops i hil]; rfl
      have cP := trw_put TI.out ops[i]!.2.1.1 hr
      have cD := trw_del TI.out ops[i]!.1.2.1
      have NX : Hid (∀ W', TrW Iq w0 tb m leaf (playRw m ((ops.take i).foldl (playRw m) rs) ops[i]!) W' → TrW Iq w0 tb m leaf ((ops.take (i + 1)).foldl (playRw m) rs) W') := by
        intro W' h
        rw [st]; exact h
      generalize (ops.take i).foldl (playRw m) rs = rsi at *
      generalize ops[i]! = op at *
      obtain ⟨⟨kd, id, kk, bg⟩, ⟨xi, xl⟩, ql⟩ := op
      dsimp only at d0 d1 d4 d5 cP cD hr
      obtain ⟨ar, cr, er, _⟩ := hr.rd0
      subst er
      clear ea2 hO c0 c1 c4 c5 st hil go hr
      by_cases h1 : kd = 1
      · subst h1
        have NZ : Hid (∀ W', TrW Iq w0 tb m leaf (if putE m rsi (xi, xl) = 0 then putRw rsi (xi, xl) else rsi) W' → TrW Iq w0 tb m leaf ((ops.take (i + 1)).foldl (playRw m) rs) W') := fun W' h => NX.out W' (by unfold playRw; exact h)
        generalize putE m rsi (xi, xl) = z at *
        clear cD NX TI
        go_wp2_with fail
        refine cP.mono ?_
        rintro e w4 ⟨rfl, T4⟩
        have TN : Hid (TrW Iq w0 tb m leaf ((ops.take (i + 1)).foldl (playRw m) rs) w4) := NZ.out _ T4
        clear cP T4 NZ d0 d1 d4 d5
        go_wp2
        go_roundw
        case rel => exact ⟨i + 1, by first | rfl | go_num, hin, TN⟩
        case measure => simp [intOf]; omega
      · by_cases h2 : kd = 2
        · subst h2
          have NZ : Hid (∀ W', TrW Iq w0 tb m leaf (delRw rsi id) W' → TrW Iq w0 tb m leaf ((ops.take (i + 1)).foldl (playRw m) rs) W') := fun W' h => NX.out W' (by unfold playRw; exact h)
          clear cP NX TI
          go_wp2_with fail
          refine cD.mono ?_
          rintro e w4 ⟨rfl, T4⟩
          have TN : Hid (TrW Iq w0 tb m leaf ((ops.take (i + 1)).foldl (playRw m) rs) w4) := NZ.out _ T4
          clear cD T4 NZ d0 d1 d4 d5
          go_wp2
          go_roundw
          case rel => exact ⟨i + 1, by first | rfl | go_num, hin, TN⟩
          case measure => simp [intOf]; omega
        · have TN : Hid (TrW Iq w0 tb m leaf ((ops.take (i + 1)).foldl (playRw m) rs) wr) := NX.out _ (by
            unfold playRw
            dsimp only
            rw [if_neg h1, if_neg h2]
            exact TI.out)
          have h1b : (kd == 1) = false := by rw [beq_eq_false_iff_ne]; exact h1
          have h2b : (kd == 2) = false := by rw [beq_eq_false_iff_ne]; exact h2
          clear cP cD NX TI
          go_wp2
          go_roundw
          case rel => exact ⟨i + 1, by first | rfl | go_num, hin, TN⟩
          case measure => simp [intOf]; omega
    · have hii : ¬ (i : Int) < (n : Int) := by omega
      have TN : Hid (TrW Iq w0 tb m leaf (ops.foldl (playRw m) rs) wr) := by
        have h := TI.out
        have e : i = n := by omega
        rw [e, N.out, List.take_length] at h
        exact h
      clear TI
      go_wp2
      refine bodyPost_end (v := .tuple #[]) (by simp [results, Tryz.results7, go_sem]) rfl ⟨rfl, ?_⟩
      exact TN.out
end Go.Proofs.YtepjbdklljlecabGreat
