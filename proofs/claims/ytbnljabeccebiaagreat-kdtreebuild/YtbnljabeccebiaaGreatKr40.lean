import Derived.Test.YtbnljabeccebiaaGreatKr18
import Derived.Test.YtbnljabeccebiaaGreatKr39
import Derived.Test.YtbnljabeccebiaaGreatKr3
import Derived.BigQuiet
import Derived.Test.YtbnljabeccebiaaGreatKr4
import Derived.Test.YtbnljabeccebiaaGreatKr1
import Derived.Deep.RegionHeld3
import Derived.Test.YtbnljabeccebiaaGreatKr8
/- Slices of hits that are read; the reference's Same. -/
namespace Go.Proofs.YtbnljabeccebiaaGreat.Tk
open Go.RowKit Go.Sort
attribute [local go_sem ↓] Go.wp_at_zero Go.wp_at_succ

/-- These hits lie in block b from o on. -/
def Lies (w : World) (b o : Nat) (l : List Ht) : Prop := ∀ i, i < l.length →
  w.cell? ⟨b, o + i * 3, none⟩ = some (.int .i64 l[i]!.id) ∧ w.cell? ⟨b, o + i * 3 + 1, none⟩ = some (.int .u64 l[i]!.hi) ∧ w.cell? ⟨b, o + i * 3 + 2, none⟩ = some (.int .u64 l[i]!.lo)
/-- The slice v reads as these hits. -/
def Rd (w : World) (v : Value) (l : List Ht) : Prop := (v = .slice none 0 0 ∧ l = []) ∨ (∃ a cap, v = .slice (some a) 0 cap ∧ l = []) ∨ ∃ b o cap, v = .slice (some ⟨b, o, none⟩) l.length cap ∧ Lies w b o l
theorem Lies.gr {w w' : World} {b o : Nat} {l : List Ht} (h : Lies w b o l) (g : Gr w w') : Lies w' b o l := fun i hi => by
  obtain ⟨h0, h1, h2⟩ := h i hi; exact ⟨gr_keeps g h0, gr_keeps g h1, gr_keeps g h2⟩
theorem Lies.kp {S : Nat → Prop} {w w' : World} {b o : Nat} {l : List Ht} (h : Lies w b o l) (g : Kp S w w') (hn : ¬ S b) : Lies w' b o l := fun i hi => by
  obtain ⟨h0, h1, h2⟩ := h i hi; exact ⟨g.cell h0 hn, g.cell h1 hn, g.cell h2 hn⟩
theorem Rd.gr {w w' : World} {v : Value} {l : List Ht} (h : Rd w v l) (g : Gr w w') : Rd w' v l := by
  rcases h with h | h | ⟨b, o, cap, e2, h⟩
  · exact .inl h
  · exact .inr (.inl h)
  · exact .inr (.inr ⟨b, o, cap, e2, h.gr g⟩)
theorem own_lies {w : World} {g n cap : Nat} {d : Array Ht} (h : Own w (.slice (some ⟨g, 0, none⟩) n cap) d) : Lies w g 0 d.toList := fun i hi => by
  have hi' : i < d.size := by simpa using hi
  have := own_cell h hi'
  rw [Nat.zero_add]
  have e : d.toList[i]! = d[i]! := by rw [getElem!_pos d.toList i hi, getElem!_pos d i hi']; simp
  rw [e]; exact this
theorem Rd.form {w : World} {v : Value} {l : List Ht} (h : Rd w v l) : ∃ a cap, v = .slice a l.length cap ∧ ∀ i, i < l.length → ∃ b o, a = some ⟨b, o, none⟩ ∧ Lies w b o l := by
  rcases h with ⟨rfl, rfl⟩ | ⟨a, cap, rfl, rfl⟩ | ⟨b, o, cap, rfl, h⟩
  · exact ⟨none, 0, rfl, fun i hi => absurd hi (Nat.not_lt_zero _)⟩
  · exact ⟨_, cap, rfl, fun i hi => absurd hi (Nat.not_lt_zero _)⟩
  · exact ⟨_, cap, rfl, fun _ _ => ⟨b, o, rfl, h⟩⟩

end Go.Proofs.YtbnljabeccebiaaGreat.Tk

/- The law's example. -/
namespace Go.Proofs.YtbnljabeccebiaaGreat
open Go.RowKit Go.Sort

theorem ris_perm {a b : List Rw} (ha : Ris a) (hb : Ris b) (p : a.Perm b) : a = b :=
  p.eq_of_pairwise (fun _ _ _ _ h1 h2 => by omega) ha hb
theorem khits4 : hitsOf [0, 0] K4 = [(1, 0, 0), (2, 0, 25), (3, 0, 1), (4, 0, 2500)] := by decide
theorem ksrt4 : Tk.srt (hitsOf [0, 0] K4) = [(1, 0, 0), (3, 0, 1), (2, 0, 25), (4, 0, 2500)] := by
  rw [khits4]
  exact Tk.srt_of_perm (by unfold Tk.Srtd; decide) (by decide)
theorem kfirst2 : Tk.firsts 2 (hitsOf [0, 0] K4) = [(1, 0, 0), (3, 0, 1)] := by unfold Tk.firsts; rw [ksrt4]; rfl
theorem kwf4 : Wf K4 := ⟨by decide, by decide⟩
theorem kfl4 : flatE K4 ((2 : Nat) : Int) = 0 := by decide
theorem krs4 : Ris K4 := by unfold Ris; decide
theorem kput1 : putE 2 K4 (3, [9, 9]) = 0 ∧ putRw K4 (3, [9, 9]) = [(1, [0, 0]), (2, [3, 4]), (3, [9, 9]), (4, [30, 40])] := by decide
theorem kput0 (rs : List Rw) : putE 2 rs (0, [1, 1]) = 50 := by unfold putE; rw [if_neg (by decide)]
theorem TreeAt.ris {Iq : Nat → Prop} {w : World} {tb m leaf : Nat} {rs : List Rw} {F : List Nat} (h : TreeAt Iq w tb m leaf rs F) : Ris rs := by
  obtain ⟨g, cap, d, rt, F1, _, _, _, hr, _⟩ := h
  exact hr
theorem kown_sl {w : World} {v : Value} {l : List Tk.Ht} (h : Tk.Own w v l.toArray) (h0 : 0 < l.length) : ∃ g cap, v = .slice (some ⟨g, 0, none⟩) l.length cap ∧ l.length ≤ cap ∧ Tk.Lies w g 0 l := by
  obtain ⟨g, cap, cur, e, hh, hc, _⟩ := Tk.own_form h (by simpa using h0)
  subst e
  exact ⟨g, cap, by simp, by simpa using hc, by simpa using Tk.own_lies h⟩
/-- The search of the example. -/
theorem ksearch4 {Iq : Nat → Prop} {w : World} {tb : Nat} {F : List Nat} (h : TreeAt Iq w tb 2 1 K4 F) {u : Value} {W : World} (g : Gb w W) (hu : RdI W u [0, 0]) :
    Calls Tryz.prog 19 #[.pointer (some ⟨tb, 0, none⟩), u, .int .i64 2, .int .i64 4] W fun e W' => ∃ gh ch a2 n2 c2 a3 n3 c3, e = .returned (.tuple #[.agg #[.slice (some ⟨gh, 0, none⟩) 2 ch, .slice a2 n2 c2, .slice a3 n3 c3], .int .i64 0]) ∧ W.heap.size ≤ gh ∧ gh < W'.heap.size ∧ Tk.Lies W' gh 0 [(1, 0, 0), (3, 0, 1)] ∧ Gb W W' := by
  obtain ⟨T, N, R, hI, hs, c⟩ := kd_search h (q := [0, 0]) (by decide) (k := 2) (b := 4) (by decide) (by decide)
  refine (c W u g hu).mono ?_
  rintro e W' ⟨vh, vs, vr, rfl, hA⟩
  rw [search_whole (by decide) hI hs (.inl (by decide)), kfirst2] at hA
  obtain ⟨a1, n1, c1, a2, n2, c2, a3, n3, c3, rfl, rfl, rfl⟩ := hA.forms
  obtain ⟨gh, ch, e, _, hl⟩ := kown_sl hA.hits (by decide)
  cases e
  obtain ⟨_, _, _, _, hh, _⟩ := Tk.own_form hA.hits (by decide)
  have lt : gh < W'.heap.size := by
    have := hl 0 (by decide)
    exact World.block_lt_of_cell? W' _ this.1
  exact ⟨gh, _, a2, n2, c2, a3, n3, c3, rfl, hA.hB gh rfl, lt, hl, hA.gb⟩

/-- The example's tree, and its answer. -/
def Aw (Iq : Nat → Prop) (w : World) (tb bx gh ch : Nat) (rs : List Rw) (W : World) : Prop := ∃ F, TreeAt Iq W tb 2 1 rs F ∧ (∀ x ∈ F, w.heap.size ≤ x ∧ x ≠ bx ∧ x ≠ gh) ∧ bx < W.heap.size ∧ gh < W.heap.size ∧ Tk.Lies W gh 0 [(1, 0, 0), (3, 0, 1)] ∧ W.cell? ⟨bx, 0, none⟩ = some (.slice (some ⟨gh, 0, none⟩) 2 ch) ∧ Gb w W
theorem lies_kp {S : Nat → Prop} {W W' : World} {g : Nat} {l : List Tk.Ht} (h : Tk.Lies W g 0 l) (k : Tk.Kp S W W') (hn : ¬ S g) : Tk.Lies W' g 0 l := fun i hi =>
  ⟨k.cell (h i hi).1 hn, k.cell (h i hi).2.1 hn, k.cell (h i hi).2.2 hn⟩
theorem aw_out {Iq : Nat → Prop} {w W W' : World} {tb bx gh ch : Nat} {rs' : List Rw} {F : List Nat} (hF : ∀ x ∈ F, w.heap.size ≤ x ∧ x ≠ bx ∧ x ≠ gh) (hb : bx < W.heap.size) (hg : gh < W.heap.size) (hl : Tk.Lies W gh 0 [(1, 0, 0), (3, 0, 1)]) (hc : W.cell? ⟨bx, 0, none⟩ = some (.slice (some ⟨gh, 0, none⟩) 2 ch)) (g : Gb w W) (h : TOut Iq W tb 2 1 F rs' W') : Aw Iq w tb bx gh ch rs' W' := by
  obtain ⟨F', t, l, k⟩ := h
  have s := k.size
  have s0 := g.size
  refine ⟨F', t, fun x hx => ?_, by omega, by omega, lies_kp hl k (fun h => (hF gh h).2.2 rfl), k.cell hc (fun h => (hF bx h).2.1 rfl), g.trans (k.gr s0 fun x hx => (hF x hx).1)⟩
  rcases l x hx with h | h
  · exact hF x h
  · exact ⟨by omega, by omega, by omega⟩
theorem aw_put {Iq : Nat → Prop} {w W : World} {tb bx gh ch : Nat} {rs : List Rw} (h : Aw Iq w tb bx gh ch rs W) (id x y : Int) {z : Int} (hz : putE 2 rs (id, [x, y]) = z) {n : Bool} (hn : (decide (z = 0) && !hasId rs id) = n) :
    Calls Tryz.prog 24 #[.pointer (some ⟨tb, 0, none⟩), .agg #[.int .i64 id, .slice (some ⟨W.heap.size, 0, none⟩) 2 2]] (W.alloc (.cells #[.int .i64 x, .int .i64 y] 3)) fun e w' => e = .returned (.tuple #[.bool n, .int .i64 z]) ∧ Aw Iq w tb bx gh ch (if z = 0 then putRw rs (id, [x, y]) else rs) w' := by
  obtain ⟨F, t, hF, hb, hg, hl, hc, g⟩ := h
  have ga : Gb W (W.alloc (.cells #[.int .i64 x, .int .i64 y] 3)) := gb_alloc (Below.refl _ _) _
  have s := ga.size
  refine (put_c (xi := id) (t.gb ga) (krdi2 (World.alloc_heap_new W (.cells #[.int .i64 x, .int .i64 y] 3))) ?_).mono ?_
  · intro b o n c e hb
    cases e
    have := t.mem.2 _ hb
    omega
  · rintro e w' ⟨rfl, hO⟩
    rw [hz] at hO ⊢
    rw [hn]
    exact ⟨rfl, aw_out hF (by omega) (by omega) (lies_kp (S := fun _ => False) hl (Tk.Kp.of_gr ga) (fun h => h)) (gb_keeps ga hc) (gb_trans g ga) hO⟩
theorem aw_del {Iq : Nat → Prop} {w W : World} {tb bx gh ch : Nat} {rs : List Rw} (h : Aw Iq w tb bx gh ch rs W) (id : Int) {n : Bool} (hn : hasId rs id = n) :
    Calls Tryz.prog 26 #[.pointer (some ⟨tb, 0, none⟩), .int .i64 id] W fun e w' => e = .returned (.tuple #[.bool n, .int .i64 0]) ∧ Aw Iq w tb bx gh ch (delRw rs id) w' := by
  obtain ⟨F, t, hF, hb, hg, hl, hc, g⟩ := h
  refine (delete_c t id).mono ?_
  rintro e w' ⟨rfl, hO⟩
  rw [hn]
  exact ⟨rfl, aw_out hF hb hg hl hc g hO⟩
theorem aw_len {Iq : Nat → Prop} {w W : World} {tb bx gh ch : Nat} {rs : List Rw} (h : Aw Iq w tb bx gh ch rs W) {n : Int} (hn : (rs.length : Int) = n) :
    Calls Tryz.prog 23 #[.pointer (some ⟨tb, 0, none⟩)] W fun e w' => e = .returned (.int .i64 n) ∧ w' = W := by
  obtain ⟨F, t, _⟩ := h
  rw [← hn]
  exact len_c t

set_option maxRecDepth 100000 in
set_option maxHeartbeats 4000000 in
theorem kawake_c (w : World) : Calls Tryz.prog 14 #[] w fun e w' => e = .returned (.bool true) ∧ Gb w w' := by
  go_enter Tryz.func14, Tryz.ntmps14
  go_wp2_with fail
  refine (krows_c w).mono ?_
  rintro e w1 ⟨b1, rfl, r1, g1⟩
  have c : Calls Tryz.prog 12 #[.slice (some ⟨b1, 0, none⟩) 4 4, .int .i64 2, .agg #[.int .i64 1, .int .i64 0, .int .u64 0]] w1 fun e w' => TreeOut IqT w1 2 1 K4 e w' := kbuild_ok (upT _) r1 kwf4 (m := 2) (leaf := 1) kfl4 (by decide) 0 0
  go_wp2_with fail
  refine c.mono ?_
  rintro e w2 ⟨tb, rs, F, rfl, t2, p2, g2, f2⟩
  obtain rfl := ris_perm t2.ris krs4 p2
  have G2 : Gb w w2 := gb_trans g1 g2
  have s1 := g1.size
  have f2' : ∀ x ∈ F, w.heap.size ≤ x := fun x hx => by have := f2 x hx; omega
  clear c g1 g2 r1 f2 p2
  have c := len_c t2
  go_wp2_with fail
  refine c.mono ?_
  rintro e w3 ⟨rfl, rfl⟩
  clear c
  have ga : Gb w3 (w3.alloc (.cells #[.int .i64 0, .int .i64 0] 3)) := gb_alloc (Below.refl _ _) _
  have c := ksearch4 t2 ga (krdi2 (World.alloc_heap_new w3 (.cells #[.int .i64 0, .int .i64 0] 3)))
  go_wp2_with fail
  refine c.mono ?_
  rintro e w4 ⟨gh, ch, a2, n2, c2, a3, n3, c3, rfl, q1, q2, ql, q3⟩
  clear c
  have s3 := ga.size
  have s4 := q3.size
  have A4 : Aw IqT w tb w4.heap.size gh ch K4 (w4.alloc (.cells #[.slice (some ⟨gh, 0, none⟩) 2 ch, .slice a2 n2 c2, .slice a3 n3 c3] 51)) := by
    have ga4 : Gb w4 (w4.alloc (.cells #[.slice (some ⟨gh, 0, none⟩) 2 ch, .slice a2 n2 c2, .slice a3 n3 c3] 51)) := gb_alloc (Below.refl _ _) _
    have m2 := t2.mem.2
    have s5 := ga4.size
    refine ⟨F, ((t2.gb ga).gb q3).gb ga4, fun x hx => ⟨f2' x hx, ?_, ?_⟩, ?_, by omega, lies_kp (S := fun _ => False) ql (Tk.Kp.of_gr ga4) (fun h => h), ?_, gb_trans G2 (gb_trans ga (gb_trans q3 ga4))⟩
    · have := m2 x hx; omega
    · have := m2 x hx; rw [World.size_alloc] at q1; omega
    · rw [World.size_alloc]; omega
    · simp [go_sem]
  have c := aw_put A4 3 9 9 kput1.1 (n := false) (by decide)
  rw [if_pos rfl, kput1.2, World.size_alloc] at c
  clear A4 ql q3 ga t2 G2 f2' q1 s1 s3 s4 q2
  go_wp2_with fail
  refine c.mono ?_
  rintro e w6 ⟨rfl, A6⟩
  clear c
  have c := aw_del A6 1 (n := true) (by decide)
  clear A6
  go_wp2_with fail
  refine c.mono ?_
  rintro e w7 ⟨rfl, A7⟩
  clear c
  have c := aw_put A7 0 1 1 (kput0 _) (n := false) (by decide)
  rw [if_neg (by decide)] at c
  clear A7
  go_wp2_with fail
  refine c.mono ?_
  rintro e w8 ⟨rfl, A8⟩
  clear c
  have c := aw_len A8 (n := 3) (by decide)
  obtain ⟨F8, _, _, _, _, l8, c8, g8⟩ := A8
  go_wp2_with fail
  refine c.mono ?_
  rintro e w9 ⟨rfl, rfl⟩
  clear c
  have l0 := l8 0 (by decide)
  have l1 := l8 1 (by decide)
  clear l8
  simp only [Tk.Ht.id, Tk.Ht.hi, Tk.Ht.lo] at l0 l1
  go_wp2
  refine bodyPost_ret (v := .bool true) (by simp [results, Tryz.results14, go_sem]) rfl ⟨rfl, ?_⟩
  exact g8
end Go.Proofs.YtbnljabeccebiaaGreat

/- theodolitekeep.Vectors: it tells some number. -/
namespace Go.Proofs.YtbnljabeccebiaaGreat
open Go.RowKit Go.Sort
end Go.Proofs.YtbnljabeccebiaaGreat

/- The law's calls, read; its big. -/
namespace Go.Proofs.YtbnljabeccebiaaGreat
open Go.RowKit Go.Sort

/-- A call: its kind, id, k and budget, its row, its vector. -/
abbrev Opv : Type := (Int × Int × Int × Int) × Rw × List Int
/-- A slice reads as these calls. -/
def RdO (w : World) (u : Value) (ops : List Opv) : Prop := ∃ a cap, u = .slice a ops.length cap ∧ ∀ i, i < ops.length → ∃ b o rv qv, a = some ⟨b, o, none⟩ ∧
  (w.cell? ⟨b, o + i * 7, none⟩ = some (.int .i64 ops[i]!.1.1) ∧ w.cell? ⟨b, o + i * 7 + 1, none⟩ = some (.int .i64 ops[i]!.1.2.1) ∧ w.cell? ⟨b, o + i * 7 + 2, none⟩ = some (.int .i64 ops[i]!.1.2.2.1) ∧
  w.cell? ⟨b, o + i * 7 + 3, none⟩ = some (.int .i64 ops[i]!.1.2.2.2) ∧ w.cell? ⟨b, o + i * 7 + 4, none⟩ = some (.int .i64 ops[i]!.2.1.1) ∧ w.cell? ⟨b, o + i * 7 + 5, none⟩ = some rv ∧ w.cell? ⟨b, o + i * 7 + 6, none⟩ = some qv) ∧
  RdI w rv ops[i]!.2.1.2 ∧ RdI w qv ops[i]!.2.2
theorem RdO.gb {w w' : World} {v : Value} {l : List Opv} (h : RdO w v l) (g : Gb w w') : RdO w' v l := by
  obtain ⟨a, cap, e, h⟩ := h
  refine ⟨a, cap, e, fun i hi' => ?_⟩
  obtain ⟨b, o, rv, qv, e0, ⟨c0, c1, c2, c3, c4, c5, c6⟩, r1, r2⟩ := h i hi'
  exact ⟨b, o, rv, qv, e0, ⟨gb_keeps g c0, gb_keeps g c1, gb_keeps g c2, gb_keeps g c3, gb_keeps g c4, gb_keeps g c5, gb_keeps g c6⟩, r1.gb g, r2.gb g⟩
theorem rdo_nil (w : World) : RdO w (.slice none 0 0) [] := ⟨none, 0, rfl, fun _i hi => absurd hi (Nat.not_lt_zero _)⟩
end Go.Proofs.YtbnljabeccebiaaGreat

/- A script of calls, a way of building, that came in. -/
namespace Go.Proofs.YtbnljabeccebiaaGreat
open Go.ChangeShapes Go.WideShapes Go.ChangeAt Go.RowKit Go.Joins Go.Deep

theorem Tryz.cellsHow : Tryz.prog.cellsOf 25 = 3 := by kernel_rfl
set_option maxRecDepth 100000 in
/-- A way of building that came in. -/
theorem open_how {H : Type} {enc : TypeId × Value → H} {W : World} {b0 : Nat} {r : Reach} {v : Value} {d : DataW H} {p : List MemPlace}
    (hv' : Value.okWide Tryz.prog W r b0 25 v) (h : DataW.Trod enc Tryz.prog W 0 (fun _ => true) true 25 v d p) :
    ∃ A B S : Int, v = .agg #[.int .i64 A, .int .i64 B, .int .u64 S] := by
  obtain ⟨cs, rfl, hsz⟩ := okWide_struct Tryz.underlying25 hv'
  obtain ⟨fuel, hf⟩ := h
  obtain ⟨l⟩ := cs
  simp only [Value.cells] at hf
  obtain ⟨xs, n, _, _, hl, hlen, hf⟩ := DataW.trod_struct Tryz.underlying25 hf
  rw [Tryz.cellsHow] at hl
  match xs, hlen, l, hl with
  | [y0, y1, y2], _, [c0, c1, c2], _ =>
    obtain ⟨a0, e0, _⟩ := DataW.trod_int Tryz.underlying3 (by simpa using hf 0 _ rfl)
    obtain ⟨a1, e1, _⟩ := DataW.trod_int Tryz.underlying3 (by simpa using hf 1 _ rfl)
    obtain ⟨a2, e2, _⟩ := DataW.trod_int Tryz.underlying23 (by simpa using hf 2 _ rfl)
    simp [Tryz.cells3, Tryz.cells23] at e0 e1 e2
    subst e0 e1 e2
    exact ⟨a0, a1, a2, rfl⟩
end Go.Proofs.YtbnljabeccebiaaGreat

/- theodoliteref03: Check, Square, Sum, Far, Dist, as contracts. -/
namespace Go.Proofs.YtbnljabeccebiaaGreat
open Go.RowKit

set_option maxHeartbeats 1000000 in
theorem rcheck_no {w : World} {v : Value} {l : List Int} (h : RdI w v l) (d : Int) (hn : ¬ (1 ≤ d ∧ d ≤ 64 ∧ (l.length : Int) = d)) :
    Calls Tryz.prog 60 #[v, .int .i64 d] w fun e w' => e = .returned (.int .i64 30) ∧ w = w' := by
  obtain ⟨a, cap, rfl, ha⟩ := h
  clear ha
  generalize l.length = n at *
  by_cases h1 : d < 1
  · clear hn
    go_enter Tryz.func60, Tryz.ntmps60
    go_wp2
    go_ret
    exact ⟨rfl, rfl⟩
  by_cases h2 : d > 64
  · clear hn
    go_enter Tryz.func60, Tryz.ntmps60
    go_wp2
    go_ret
    exact ⟨rfl, rfl⟩
  · have h3 : ((n : Int) == d) = false := by rw [beq_eq_false_iff_ne]; omega
    have h4 : ¬ (n : Int) = d := by omega
    clear hn
    go_enter Tryz.func60, Tryz.ntmps60
    go_wp2
    go_ret
    exact ⟨rfl, rfl⟩

set_option maxHeartbeats 2000000 in
set_option maxRecDepth 100000 in
theorem rcheck_in {w : World} {v : Value} {l : List Int} (h : RdI w v l) (hn : 1 ≤ l.length ∧ l.length ≤ 64) :
    Calls Tryz.prog 60 #[v, .int .i64 (l.length : Int)] w fun e w' => e = .returned (.int .i64 (vErr l)) ∧ w = w' := by
  obtain ⟨a, cap, rfl, ha⟩ := h
  have A : Hid (∀ i, i < l.length → ∃ b o, a = some ⟨b, o, none⟩ ∧ w.cell? ⟨b, o + i, none⟩ = some (.int .i64 l[i]!)) := ha
  obtain ⟨n, hN⟩ : ∃ n, n = l.length := ⟨_, rfl⟩
  have N : Hid (n = l.length) := hN
  rw [← hN] at hn ⊢
  obtain ⟨hn1, hn2⟩ := hn
  have hn3 : ¬ (n : Int) < 1 := by omega
  have hn4 : ¬ (n : Int) > 64 := by omega
  clear ha hN
  go_enter Tryz.func60, Tryz.ntmps60
  go_wp2
  go_loopw [5] (fun iv w' => ∃ q : Nat, iv = .int .i64 (q : Int) ∧ q ≤ n ∧ w = w' ∧ Hid (allR (l.take q) = true)) (fun iv _ => n - (intOf iv).toNat)
  case atStart => exact ⟨0, rfl, Nat.zero_le _, rfl, by simp [Hid, allR]⟩
  case round =>
    obtain ⟨q, rfl, hq, rfl, X⟩ := hrel
    by_cases hqn : q < n
    · have hqi : (q : Int) < (n : Int) := by omega
      obtain ⟨b, o, ea, hc⟩ := A.out q (by have := N.out; omega)
      subst ea
      obtain ⟨x, hx⟩ : ∃ x, x = l[q]! := ⟨_, rfl⟩
      rw [← hx] at hc
      have XX : Hid (x = l[q]! ∧ q < l.length) := ⟨hx, by have := N.out; omega⟩
      clear hx
      by_cases h1 : x < -2147483647
      · have R : Hid (vErr l = 31) := by unfold Hid vErr; rw [allR_no XX.out.2 (by rw [← XX.out.1, ← Bool.not_eq_true, inR_iff]; omega)]; rfl
        go_wp2
        go_ret
        exact ⟨by rw [R.out]; rfl, by first | rfl | trivial⟩
      by_cases h2 : x > 2147483647
      · have R : Hid (vErr l = 31) := by unfold Hid vErr; rw [allR_no XX.out.2 (by rw [← XX.out.1, ← Bool.not_eq_true, inR_iff]; omega)]; rfl
        go_wp2
        go_ret
        exact ⟨by rw [R.out]; rfl, by first | rfl | trivial⟩
      · have R : Hid (allR (l.take (q + 1)) = true) := allR_take XX.out.2 X.out (by rw [← XX.out.1, inR_iff]; omega)
        go_wp2
        go_roundw
        case rel => exact ⟨q + 1, by simp, hqn, by first | rfl | trivial, R⟩
        case measure => simp [intOf]; omega
    · have hqi : ¬ (q : Int) < (n : Int) := by omega
      have R : Hid (vErr l = 0) := by
        have := X.out
        rw [List.take_of_length_le (by have := N.out; omega)] at this
        unfold Hid vErr; rw [this]; rfl
      go_wp2
      go_ret
      exact ⟨by rw [R.out]; rfl, by first | rfl | trivial⟩
theorem rcheck_c {w : World} {v : Value} {l : List Int} (h : RdI w v l) (d : Int) :
    Calls Tryz.prog 60 #[v, .int .i64 d] w fun e w' => e = .returned (.int .i64 (chk l d)) ∧ w = w' := by
  unfold chk
  by_cases hn : 1 ≤ d ∧ d ≤ 64 ∧ (l.length : Int) = d
  · rw [if_pos hn]
    obtain ⟨h1, h2, rfl⟩ := hn
    exact rcheck_in h (by omega)
  · rw [if_neg hn]
    exact rcheck_no h d hn
theorem rcheck_v {w : World} {v : Value} {l : List Int} (h : RdI w v l) (d r : Int) (hr : chk l d = r) :
    Calls Tryz.prog 60 #[v, .int .i64 d] w fun e w' => e = .returned (.int .i64 r) ∧ w = w' := by
  subst hr; exact rcheck_c h d

end Go.Proofs.YtbnljabeccebiaaGreat

/- The reference's Id, ids and form. -/
namespace Go.Proofs.YtbnljabeccebiaaGreat
open Go.RowKit

theorem rid_c (x : Int) (w : World) : Calls Tryz.prog 59 #[.int .i64 x] w fun e w' => e = .returned (.bool (okId x)) ∧ w = w' := by
  by_cases h : 1 ≤ x
  · by_cases h2 : x ≤ 1000000000
    · have E : Hid (okId x = true) := (okId_iff x).2 ⟨h, h2⟩
      go_enter Tryz.func59, Tryz.ntmps59
      go_wp2
      go_ret
      exact ⟨by rw [E.out]; rfl, rfl⟩
    · have E : Hid (okId x = false) := by unfold Hid; rw [← Bool.not_eq_true, okId_iff]; omega
      go_enter Tryz.func59, Tryz.ntmps59
      go_wp2
      go_ret
      exact ⟨by rw [E.out]; rfl, rfl⟩
  · have E : Hid (okId x = false) := by unfold Hid; rw [← Bool.not_eq_true, okId_iff]; omega
    go_enter Tryz.func59, Tryz.ntmps59
    go_wp2
    go_ret
    exact ⟨by rw [E.out]; rfl, rfl⟩
theorem rid_v (x : Int) (b : Bool) (h : okId x = b) (w : World) : Calls Tryz.prog 59 #[.int .i64 x] w fun e w' => e = .returned (.bool b) ∧ w = w' := by
  subst h; exact rid_c x w

end Go.Proofs.YtbnljabeccebiaaGreat

/- The reference's find. -/
namespace Go.Proofs.YtbnljabeccebiaaGreat
open Go.RowKit Go.Sort

end Go.Proofs.YtbnljabeccebiaaGreat
