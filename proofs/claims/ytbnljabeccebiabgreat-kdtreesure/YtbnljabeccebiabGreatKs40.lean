import Derived.Test.YtbnljabeccebiabGreatKs17
import Derived.Test.YtbnljabeccebiabGreatKs39
/- Slices of hits that are read; the reference's Same. -/
namespace Go.Proofs.YtbnljabeccebiabGreat.Tk
open Go.RowKit Go.Sort
attribute [local go_sem ↓] Go.wp_at_zero Go.wp_at_succ

/-- These hits lie in block b from o on. -/
def Lies (w : World) (b o : Nat) (l : List Ht) : Prop := ∀ i, i < l.length →
  w.cell? ⟨b, o + i * 3, none⟩ = some (.int .i64 l[i]!.id) ∧ w.cell? ⟨b, o + i * 3 + 1, none⟩ = some (.int .u64 l[i]!.hi) ∧ w.cell? ⟨b, o + i * 3 + 2, none⟩ = some (.int .u64 l[i]!.lo)
/-- The slice v reads as these hits. -/
def Rd (w : World) (v : Value) (l : List Ht) : Prop := (v = .slice none 0 0 ∧ l = []) ∨ (∃ a cap, v = .slice (some a) 0 cap ∧ l = []) ∨ ∃ b o cap, v = .slice (some ⟨b, o, none⟩) l.length cap ∧ Lies w b o l
theorem Lies.gr {w w' : World} {b o : Nat} {l : List Ht} (h : Lies w b o l) (g : Gr w w') : Lies w' b o l := fun i hi => by
  obtain ⟨h0, h1, h2⟩ := h i hi; exact ⟨gr_keeps g h0, gr_keeps g h1, gr_keeps g h2⟩
theorem Lies.kp {S : Nat → Prop} {w w' : World} {b o : Nat} {l : List Ht} (h : Lies w b o l) (g : Kp S w w') (hn : ¬ S b) : Lies w' b o l := fun i hi => by
  obtain ⟨h0, h1, h2⟩ := h i hi; exact ⟨g.cell h0 hn, g.cell h1 hn, g.cell h2 hn⟩
theorem Rd.gr {w w' : World} {v : Value} {l : List Ht} (h : Rd w v l) (g : Gr w w') : Rd w' v l := by
  rcases h with h | h | ⟨b, o, cap, e2, h⟩
  · exact .inl h
  · exact .inr (.inl h)
  · exact .inr (.inr ⟨b, o, cap, e2, h.gr g⟩)
theorem own_lies {w : World} {g n cap : Nat} {d : Array Ht} (h : Own w (.slice (some ⟨g, 0, none⟩) n cap) d) : Lies w g 0 d.toList := fun i hi => by
  have hi' : i < d.size := by simpa using hi
  have := own_cell h hi'
  rw [Nat.zero_add]
  have e : d.toList[i]! = d[i]! := by rw [getElem!_pos d.toList i hi, getElem!_pos d i hi']; simp
  rw [e]; exact this
theorem own_rd {w : World} {v : Value} {d : Array Ht} (h : Own w v d) : Rd w v d.toList := by
  rcases h.2 with ⟨rfl, h0⟩ | ⟨g, cap, cur, rfl, r⟩
  · exact .inl ⟨rfl, by rw [Array.eq_empty_of_size_eq_zero h0]⟩
  · exact .inr (.inr ⟨g, 0, cap, by simp, own_lies h⟩)
theorem Rd.form {w : World} {v : Value} {l : List Ht} (h : Rd w v l) : ∃ a cap, v = .slice a l.length cap ∧ ∀ i, i < l.length → ∃ b o, a = some ⟨b, o, none⟩ ∧ Lies w b o l := by
  rcases h with ⟨rfl, rfl⟩ | ⟨a, cap, rfl, rfl⟩ | ⟨b, o, cap, rfl, h⟩
  · exact ⟨none, 0, rfl, fun i hi => absurd hi (Nat.not_lt_zero _)⟩
  · exact ⟨_, cap, rfl, fun i hi => absurd hi (Nat.not_lt_zero _)⟩
  · exact ⟨_, cap, rfl, fun _ _ => ⟨b, o, rfl, h⟩⟩

theorem hv_in (x y : Ht) (W : World) : (Op.equalIn 10000 60 (hv x) (hv y)).run Tryz.prog W = .ok (decide (x = y)) W := by
  have u3 := Tryz.underlying3
  have a3 := Tryz.isAgg3
  have z3 := Tryz.sizeOf3
  have u22 := Tryz.underlying23
  have a22 := Tryz.isAgg23
  have z22 := Tryz.sizeOf23
  have a24 := Tryz.isAgg58
  have z24 := Tryz.sizeOf58
  have hS : Tryz.prog.underlying 60 = some (.struct (Tryz.prog.fieldsOf 60)) := by kernel_rfl
  have hp : Tryz.prog.stoodInHeld 60 = false := by kernel_rfl
  have hS2 : Tryz.prog.underlying 58 = some (.struct (Tryz.prog.fieldsOf 58)) := by kernel_rfl
  have hp2 : Tryz.prog.stoodInHeld 58 = false := by kernel_rfl
  have h24 : ∀ (a b c d : Int) W, (Op.equalIn 9999 58 (.agg #[.int .u64 a, .int .u64 b]) (.agg #[.int .u64 c, .int .u64 d])).run Tryz.prog W = .ok (a == c && b == d) W := by
    intro a b c d W
    rw [show (9999 : Nat) = 9998 + 1 from rfl, run_equalIn_agg W 9998 58 _ _ hS2 hp2]
    simp only [Program.fieldsOf, Tryz.underlying58]
    go_simp
    by_cases h1 : a = c <;> by_cases h2 : b = d <;> simp [h1, h2]
  rw [show (10000 : Nat) = 9999 + 1 from rfl, run_equalIn_agg W 9999 60 _ _ hS hp]
  simp only [Program.fieldsOf, Tryz.underlying60]
  go_simp
  obtain ⟨a, b, c⟩ := x
  obtain ⟨a', b', c'⟩ := y
  by_cases h1 : a = a' <;> by_cases h2 : b = b' <;> by_cases h3 : c = c' <;> simp [h1, h2, h3]
theorem hv_eq (x y : Ht) (W : World) : (binOp .eql 60 (hv x) (hv y)).run Tryz.prog W = .ok (.bool (decide (x = y))) W := by
  rw [run_eql_struct, hv_in]; rfl
theorem hv_ne (x y : Ht) (W : World) : (binOp .neq 60 (hv x) (hv y)).run Tryz.prog W = .ok (.bool (!decide (x = y))) W := by
  rw [run_neq_struct, hv_in]; rfl

set_option maxHeartbeats 2000000 in
set_option maxRecDepth 100000 in
theorem same_c {w : World} {u v : Value} {l m : List Ht} (hu : Rd w u l) (hv' : Rd w v m) (hlen : l.length ≤ 4000) :
    Calls Tryz.prog 12 #[u, v] w fun e w' => e = .returned (.bool (decide (l = m))) ∧ Gr w w' := by
  obtain ⟨a, ca, rfl, ha⟩ := hu.form
  obtain ⟨b, cb, rfl, hb⟩ := hv'.form
  clear hu hv'
  by_cases hlm : l.length = m.length
  · have A : Hid (∀ i, i < l.length → ∃ b o, a = some ⟨b, o, none⟩ ∧ Lies w b o l) := ha
    have B : Hid (∀ i, i < m.length → ∃ b' o, b = some ⟨b', o, none⟩ ∧ Lies w b' o m) := hb
    have L : Hid (l.length = m.length) := hlm
    rw [← hlm]
    obtain ⟨n, hN⟩ : ∃ n, n = l.length := ⟨_, rfl⟩
    have N : Hid (n = l.length) := hN
    rw [← hN] at hlen ⊢
    clear ha hb hlm hN
    go_enter Tryz.func12, Tryz.ntmps12
    go_wp2
    go_loopw [5] (fun iv w' => ∃ q : Nat, iv = .int .i64 (q : Int) ∧ q ≤ n ∧ Hid (l.take q = m.take q ∧ Gr w w')) (fun iv _ => n - (intOf iv).toNat)
    case atStart => exact ⟨0, rfl, Nat.zero_le _, ⟨by simp, Below.refl _ _⟩⟩
    case round =>
      obtain ⟨q, rfl, hq, X⟩ := hrel
      by_cases hqn : q < n
      · obtain ⟨b1, o1, ea, h1⟩ := A.out q (by have := N.out; omega)
        obtain ⟨b2, o2, eb, h2⟩ := B.out q (by have := L.out; have := N.out; omega)
        obtain ⟨x0, x1, x2⟩ := (h1.gr X.out.2) q (by have := N.out; omega)
        obtain ⟨y0, y1, y2⟩ := (h2.gr X.out.2) q (by have := L.out; have := N.out; omega)
        subst ea; subst eb
        have Q : Hid (q < l.length ∧ q < m.length) := ⟨by have := N.out; omega, by have := L.out; have := N.out; omega⟩
        obtain ⟨x, hx⟩ : ∃ x, x = l[q]! := ⟨_, rfl⟩
        obtain ⟨y, hy⟩ : ∃ y, y = m[q]! := ⟨_, rfl⟩
        have XY : Hid (x = l[q]! ∧ y = m[q]!) := ⟨hx, hy⟩
        rw [← hx] at x0 x1 x2
        rw [← hy] at y0 y1 y2
        clear hx hy h1 h2
        have hne := fun W => hv_ne x y W
        by_cases hxy : x = y
        · have E : Hid (x = y) := hxy
          rw [decide_eq_true hxy] at hne
          clear hxy
          go_wp2
          go_quiet (fail)
          go_wp2
          go_roundw
          case rel =>
            refine ⟨q + 1, by simp, hqn, ⟨?_, X.out.2.trans (below_drewN (Below.refl _ _) _)⟩⟩
            obtain ⟨e1, e2⟩ := XY.out
            have e3 := E.out
            rw [e1, e2, getElem!_pos l q Q.out.1, getElem!_pos m q Q.out.2] at e3
            rw [List.take_succ_eq_append_getElem Q.out.1, List.take_succ_eq_append_getElem Q.out.2, X.out.1, e3]
          case measure => simp [intOf]; omega
        · have E : Hid (l ≠ m) := by
            intro e
            obtain ⟨e1, e2⟩ := XY.out
            exact hxy (by rw [e1, e2, e])
          rw [decide_eq_false hxy] at hne
          have R : Hid (decide (l = m) = false) := decide_eq_false E.out
          clear hxy
          go_wp2
          go_quiet (fail)
          go_wp2
          go_ret
          exact ⟨by rw [R.out]; rfl, X.out.2.trans (below_drewN (Below.refl _ _) _)⟩
      · have R : Hid (decide (l = m) = true) := by
          have e := X.out.1
          have h1 := N.out
          have h2 := L.out
          rw [List.take_of_length_le (by omega), List.take_of_length_le (by omega)] at e
          exact decide_eq_true e
        go_wp2
        go_ret
        exact ⟨by rw [R.out]; rfl, X.out.2⟩
  · have R : Hid (decide (l = m) = false) := decide_eq_false (fun e => hlm (by rw [e]))
    have hne : ((l.length : Int) == (m.length : Int)) = false := by rw [beq_eq_false_iff_ne]; omega
    generalize l.length = n1 at *
    generalize m.length = n2 at *
    clear ha hb hlm
    go_enter Tryz.func12, Tryz.ntmps12
    go_wp2
    go_ret
    exact ⟨by rw [R.out]; rfl, Below.refl _ _⟩
end Go.Proofs.YtbnljabeccebiabGreat.Tk

/- The law's example. -/
namespace Go.Proofs.YtbnljabeccebiabGreat
open Go.RowKit Go.Sort

theorem ris_perm {a b : List Rw} (ha : Ris a) (hb : Ris b) (p : a.Perm b) : a = b :=
  p.eq_of_pairwise (fun _ _ _ _ h1 h2 => by omega) ha hb
theorem khits4 : hitsOf [0, 0] K4 = [(1, 0, 0), (2, 0, 25), (3, 0, 1), (4, 0, 2500)] := by decide
theorem ksrt4 : Tk.srt (hitsOf [0, 0] K4) = [(1, 0, 0), (3, 0, 1), (2, 0, 25), (4, 0, 2500)] := by
  rw [khits4]
  exact Tk.srt_of_perm (by unfold Tk.Srtd; decide) (by decide)
theorem kfirst2 : Tk.firsts 2 (hitsOf [0, 0] K4) = [(1, 0, 0), (3, 0, 1)] := by unfold Tk.firsts; rw [ksrt4]; rfl
theorem kwf4 : Wf K4 := ⟨by decide, by decide⟩
theorem kfl4 : flatE K4 ((2 : Nat) : Int) = 0 := by decide
theorem krs4 : Ris K4 := by unfold Ris; decide
theorem kput1 : putE 2 K4 (3, [9, 9]) = 0 ∧ putRw K4 (3, [9, 9]) = [(1, [0, 0]), (2, [3, 4]), (3, [9, 9]), (4, [30, 40])] := by decide
def K3 : List Rw := [(1, [0, 0]), (2, [3, 4]), (3, [9, 9]), (4, [30, 40])]
theorem kdel1 : delRw K3 1 = [(2, [3, 4]), (3, [9, 9]), (4, [30, 40])] := by decide
theorem kput0 (rs : List Rw) : putE 2 rs (0, [1, 1]) = 50 := by unfold putE; rw [if_neg (by decide)]
theorem TreeAt.ris {Iq : Nat → Prop} {w : World} {tb m leaf : Nat} {rs : List Rw} {F : List Nat} (h : TreeAt Iq w tb m leaf rs F) : Ris rs := by
  obtain ⟨g, cap, d, rt, F1, _, _, _, hr, _⟩ := h
  exact hr
theorem kown_sl {w : World} {v : Value} {l : List Tk.Ht} (h : Tk.Own w v l.toArray) (h0 : 0 < l.length) : ∃ g cap, v = .slice (some ⟨g, 0, none⟩) l.length cap ∧ l.length ≤ cap ∧ Tk.Lies w g 0 l := by
  obtain ⟨g, cap, cur, e, hh, hc, _⟩ := Tk.own_form h (by simpa using h0)
  subst e
  exact ⟨g, cap, by simp, by simpa using hc, by simpa using Tk.own_lies h⟩
/-- The search of the example. -/
theorem ksearch4 {Iq : Nat → Prop} {w : World} {tb : Nat} {F : List Nat} (h : TreeAt Iq w tb 2 1 K4 F) {u : Value} {W : World} (g : Gb w W) (hu : RdI W u [0, 0]) :
    Calls Tryz.prog 8 #[.pointer (some ⟨tb, 0, none⟩), u, .int .i64 2, .int .i64 4] W fun e W' => ∃ gh ch a2 n2 c2 a3 n3 c3, e = .returned (.tuple #[.agg #[.slice (some ⟨gh, 0, none⟩) 2 ch, .slice a2 n2 c2, .slice a3 n3 c3], .int .i64 0]) ∧ W.heap.size ≤ gh ∧ gh < W'.heap.size ∧ Tk.Lies W' gh 0 [(1, 0, 0), (3, 0, 1)] ∧ Gb W W' := by
  obtain ⟨T, N, R, hI, hs, c⟩ := kd_search h (q := [0, 0]) (by decide) (k := 2) (b := 4) (by decide) (by decide)
  refine (c W u g hu).mono ?_
  rintro e W' ⟨vh, vs, vr, rfl, hA⟩
  rw [search_whole (by decide) hI hs (.inl (by decide)), kfirst2] at hA
  obtain ⟨a1, n1, c1, a2, n2, c2, a3, n3, c3, rfl, rfl, rfl⟩ := hA.forms
  obtain ⟨gh, ch, e, _, hl⟩ := kown_sl hA.hits (by decide)
  cases e
  obtain ⟨_, _, _, _, hh, _⟩ := Tk.own_form hA.hits (by decide)
  have lt : gh < W'.heap.size := by
    have := hl 0 (by decide)
    exact World.block_lt_of_cell? W' _ this.1
  exact ⟨gh, _, a2, n2, c2, a3, n3, c3, rfl, hA.hB gh rfl, lt, hl, hA.gb⟩

/-- The example's tree, and its answer. -/
def Aw (Iq : Nat → Prop) (w : World) (tb bx gh ch : Nat) (rs : List Rw) (W : World) : Prop := ∃ F, TreeAt Iq W tb 2 1 rs F ∧ (∀ x ∈ F, w.heap.size ≤ x ∧ x ≠ bx ∧ x ≠ gh) ∧ bx < W.heap.size ∧ gh < W.heap.size ∧ Tk.Lies W gh 0 [(1, 0, 0), (3, 0, 1)] ∧ W.cell? ⟨bx, 0, none⟩ = some (.slice (some ⟨gh, 0, none⟩) 2 ch) ∧ Gb w W
theorem lies_kp {S : Nat → Prop} {W W' : World} {g : Nat} {l : List Tk.Ht} (h : Tk.Lies W g 0 l) (k : Tk.Kp S W W') (hn : ¬ S g) : Tk.Lies W' g 0 l := fun i hi =>
  ⟨k.cell (h i hi).1 hn, k.cell (h i hi).2.1 hn, k.cell (h i hi).2.2 hn⟩
theorem aw_out {Iq : Nat → Prop} {w W W' : World} {tb bx gh ch : Nat} {rs' : List Rw} {F : List Nat} (hF : ∀ x ∈ F, w.heap.size ≤ x ∧ x ≠ bx ∧ x ≠ gh) (hb : bx < W.heap.size) (hg : gh < W.heap.size) (hl : Tk.Lies W gh 0 [(1, 0, 0), (3, 0, 1)]) (hc : W.cell? ⟨bx, 0, none⟩ = some (.slice (some ⟨gh, 0, none⟩) 2 ch)) (g : Gb w W) (h : TOut Iq W tb 2 1 F rs' W') : Aw Iq w tb bx gh ch rs' W' := by
  obtain ⟨F', t, l, k⟩ := h
  have s := k.size
  have s0 := g.size
  refine ⟨F', t, fun x hx => ?_, by omega, by omega, lies_kp hl k (fun h => (hF gh h).2.2 rfl), k.cell hc (fun h => (hF bx h).2.1 rfl), g.trans (k.gr s0 fun x hx => (hF x hx).1)⟩
  rcases l x hx with h | h
  · exact hF x h
  · exact ⟨by omega, by omega, by omega⟩
theorem aw_put {Iq : Nat → Prop} {w W : World} {tb bx gh ch : Nat} {rs : List Rw} (h : Aw Iq w tb bx gh ch rs W) (id x y : Int) {z : Int} (hz : putE 2 rs (id, [x, y]) = z) {n : Bool} (hn : (decide (z = 0) && !hasId rs id) = n) :
    Calls Tryz.prog 17 #[.pointer (some ⟨tb, 0, none⟩), .agg #[.int .i64 id, .slice (some ⟨W.heap.size, 0, none⟩) 2 2]] (W.alloc (.cells #[.int .i64 x, .int .i64 y] 3)) fun e w' => e = .returned (.tuple #[.bool n, .int .i64 z]) ∧ Aw Iq w tb bx gh ch (if z = 0 then putRw rs (id, [x, y]) else rs) w' := by
  obtain ⟨F, t, hF, hb, hg, hl, hc, g⟩ := h
  have ga : Gb W (W.alloc (.cells #[.int .i64 x, .int .i64 y] 3)) := gb_alloc (Below.refl _ _) _
  have s := ga.size
  refine (put_c (xi := id) (t.gb ga) (krdi2 (World.alloc_heap_new W (.cells #[.int .i64 x, .int .i64 y] 3))) ?_).mono ?_
  · intro b o n c e hb
    cases e
    have := t.mem.2 _ hb
    omega
  · rintro e w' ⟨rfl, hO⟩
    rw [hz] at hO ⊢
    rw [hn]
    exact ⟨rfl, aw_out hF (by omega) (by omega) (lies_kp (S := fun _ => False) hl (Tk.Kp.of_gr ga) (fun h => h)) (gb_keeps ga hc) (gb_trans g ga) hO⟩
theorem aw_del {Iq : Nat → Prop} {w W : World} {tb bx gh ch : Nat} {rs : List Rw} (h : Aw Iq w tb bx gh ch rs W) (id : Int) {n : Bool} (hn : hasId rs id = n) :
    Calls Tryz.prog 18 #[.pointer (some ⟨tb, 0, none⟩), .int .i64 id] W fun e w' => e = .returned (.tuple #[.bool n, .int .i64 0]) ∧ Aw Iq w tb bx gh ch (delRw rs id) w' := by
  obtain ⟨F, t, hF, hb, hg, hl, hc, g⟩ := h
  refine (delete_c t id).mono ?_
  rintro e w' ⟨rfl, hO⟩
  rw [hn]
  exact ⟨rfl, aw_out hF hb hg hl hc g hO⟩
theorem aw_len {Iq : Nat → Prop} {w W : World} {tb bx gh ch : Nat} {rs : List Rw} (h : Aw Iq w tb bx gh ch rs W) {n : Int} (hn : (rs.length : Int) = n) :
    Calls Tryz.prog 16 #[.pointer (some ⟨tb, 0, none⟩)] W fun e w' => e = .returned (.int .i64 n) ∧ w' = W := by
  obtain ⟨F, t, _⟩ := h
  rw [← hn]
  exact len_c t

set_option maxRecDepth 100000 in
set_option maxHeartbeats 4000000 in
theorem kawake_c (w : World) : Calls Tryz.prog 6 #[] w fun e w' => e = .returned (.bool true) ∧ Gb w w' := by
  go_enter Tryz.func6, Tryz.ntmps6
  go_wp2_with fail
  refine (krows_c w).mono ?_
  rintro e w1 ⟨b1, rfl, r1, g1⟩
  have c : Calls Tryz.prog 5 #[.slice (some ⟨b1, 0, none⟩) 4 4, .int .i64 2, .agg #[.int .i64 1, .int .i64 0, .int .u64 0]] w1 fun e w' => TreeOut IqT w1 2 1 K4 e w' := kbuild_ok (upT _) r1 kwf4 (m := 2) (leaf := 1) kfl4 (by decide) 0 0
  go_wp2_with fail
  refine c.mono ?_
  rintro e w2 ⟨tb, rs, F, rfl, t2, p2, g2, f2⟩
  obtain rfl := ris_perm t2.ris krs4 p2
  have G2 : Gb w w2 := gb_trans g1 g2
  have s1 := g1.size
  have f2' : ∀ x ∈ F, w.heap.size ≤ x := fun x hx => by have := f2 x hx; omega
  clear c g1 g2 r1 f2 p2
  have c := len_c t2
  go_wp2_with fail
  refine c.mono ?_
  rintro e w3 ⟨rfl, rfl⟩
  clear c
  have ga : Gb w3 (w3.alloc (.cells #[.int .i64 0, .int .i64 0] 3)) := gb_alloc (Below.refl _ _) _
  have c := ksearch4 t2 ga (krdi2 (World.alloc_heap_new w3 (.cells #[.int .i64 0, .int .i64 0] 3)))
  go_wp2_with fail
  refine c.mono ?_
  rintro e w4 ⟨gh, ch, a2, n2, c2, a3, n3, c3, rfl, q1, q2, ql, q3⟩
  clear c
  have s3 := ga.size
  have s4 := q3.size
  have A4 : Aw IqT w tb w4.heap.size gh ch K4 (w4.alloc (.cells #[.slice (some ⟨gh, 0, none⟩) 2 ch, .slice a2 n2 c2, .slice a3 n3 c3] 38)) := by
    have ga4 : Gb w4 (w4.alloc (.cells #[.slice (some ⟨gh, 0, none⟩) 2 ch, .slice a2 n2 c2, .slice a3 n3 c3] 38)) := gb_alloc (Below.refl _ _) _
    have m2 := t2.mem.2
    have s5 := ga4.size
    refine ⟨F, ((t2.gb ga).gb q3).gb ga4, fun x hx => ⟨f2' x hx, ?_, ?_⟩, ?_, by omega, lies_kp (S := fun _ => False) ql (Tk.Kp.of_gr ga4) (fun h => h), ?_, gb_trans G2 (gb_trans ga (gb_trans q3 ga4))⟩
    · have := m2 x hx; omega
    · have := m2 x hx; rw [World.size_alloc] at q1; omega
    · rw [World.size_alloc]; omega
    · simp [go_sem]
  have c := aw_put A4 3 9 9 kput1.1 (n := false) (by decide)
  rw [if_pos rfl, kput1.2, World.size_alloc] at c
  clear A4 ql q3 ga t2 G2 f2' q1 s1 s3 s4 q2
  go_wp2_with fail
  refine c.mono ?_
  rintro e w6 ⟨rfl, A6⟩
  clear c
  have c := aw_del A6 1 (n := true) (by decide)
  clear A6
  go_wp2_with fail
  refine c.mono ?_
  rintro e w7 ⟨rfl, A7⟩
  clear c
  have c := aw_put A7 0 1 1 (kput0 _) (n := false) (by decide)
  rw [if_neg (by decide)] at c
  clear A7
  go_wp2_with fail
  refine c.mono ?_
  rintro e w8 ⟨rfl, A8⟩
  clear c
  have c := aw_len A8 (n := 3) (by decide)
  obtain ⟨F8, _, _, _, _, l8, c8, g8⟩ := A8
  go_wp2_with fail
  refine c.mono ?_
  rintro e w9 ⟨rfl, rfl⟩
  clear c
  have l0 := l8 0 (by decide)
  have l1 := l8 1 (by decide)
  clear l8
  simp only [Tk.Ht.id, Tk.Ht.hi, Tk.Ht.lo] at l0 l1
  go_wp2
  refine bodyPost_ret (v := .bool true) (by simp [results, Tryz.results6, go_sem]) rfl ⟨rfl, ?_⟩
  exact g8
end Go.Proofs.YtbnljabeccebiabGreat
