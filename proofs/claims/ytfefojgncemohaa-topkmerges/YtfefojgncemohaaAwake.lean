/- The document's examples: awake is true. -/
import Derived.Test.YtfefojgncemohaaMerge
namespace Go.Proofs.Ytfefojgncemohaa
open Go.RowKit Go.Sort
attribute [local go_sem ↓] Go.wp_at_zero Go.wp_at_succ

/-- A heap of the call's own: w the world as the call began. -/
structure St (w W : World) (hb k : Nat) (v : Value) (m : List Ht) : Prop where
  has : Has W hb k v m
  gr : Gr w W
  hb : w.heap.size ≤ hb
  own : ∀ g, v.ownBlock = some g → w.heap.size ≤ g
theorem St.on {w W W' : World} {hb k : Nat} {v : Value} {m : List Ht} (h : St w W hb k v m) (g : Gr W W') : St w W' hb k v m := ⟨h.has.gr g, gr_trans h.gr g, h.hb, h.own⟩
theorem St.offered {w W W' : World} {hb k : Nat} {v : Value} {m : List Ht} {x : Ht} (h : St w W hb k v m) (o : Offered W W' hb k v m x) : ∃ v', St w W' hb k v' (keep k m x) := by
  obtain ⟨v', h1, h2, h3⟩ := o
  refine ⟨v', h1, h.gr.trans (h2.gr h.gr.size ?_), h.hb, ?_⟩
  · rintro i (e | e)
    · rw [e]; exact h.hb
    · exact h.own i e.symm
  · intro g hg
    rcases h3 with h3 | h3
    · exact h.own g (by rw [← h3]; exact hg)
    · exact Nat.le_trans h.gr.size (h3 g hg)
theorem st_new (k : Nat) (h1 : 1 ≤ k) (h2 : k ≤ 64) (w W : World) (g : Gr w W) : St w (W.alloc (.cells #[.int .i64 (k : Int), .slice none 0 0] 55)) W.heap.size k (.slice none 0 0) [] :=
  ⟨new_has k h1 h2 W, gr_alloc g _, g.size, by simp [Value.ownBlock]⟩
theorem st_offer {w W : World} {hb k : Nat} {v : Value} {m : List Ht} (h : St w W hb k v m) (x : Ht) (b : Bool) (m' : List Ht) (e1 : kept k m x = b) (e2 : keep k m x = m') :
    Calls Try.prog 12 #[.pointer (some ⟨hb, 0, none⟩), hv x] W fun e W' => e = .returned (.bool b) ∧ ∃ v', St w W' hb k v' m' := by
  subst e1; subst e2
  refine (offer_has h.has x).mono ?_
  rintro e W' ⟨rfl, o⟩
  exact ⟨rfl, h.offered o⟩

theorem rd_two (W : World) (x y : Ht) : Rd (W.alloc (.cells #[.int .i64 x.id, .int .u64 x.hi, .int .u64 x.lo, .int .i64 y.id, .int .u64 y.hi, .int .u64 y.lo] 26)) (.slice (some ⟨W.heap.size, 0, none⟩) 2 2) [x, y] := by
  refine .inr (.inr ⟨W.heap.size, 0, 2, rfl, fun i hi => ?_⟩)
  have : i = 0 ∨ i = 1 := by simp at hi; omega
  rcases this with rfl | rfl <;> simp [go_sem]
theorem rd_three (W : World) (x y z : Ht) : Rd (W.alloc (.cells #[.int .i64 x.id, .int .u64 x.hi, .int .u64 x.lo, .int .i64 y.id, .int .u64 y.hi, .int .u64 y.lo, .int .i64 z.id, .int .u64 z.hi, .int .u64 z.lo] 26)) (.slice (some ⟨W.heap.size, 0, none⟩) 3 3) [x, y, z] := by
  refine .inr (.inr ⟨W.heap.size, 0, 3, rfl, fun i hi => ?_⟩)
  have : i = 0 ∨ i = 1 ∨ i = 2 := by simp at hi; omega
  rcases this with rfl | rfl | rfl <;> simp [go_sem]
theorem rdl_three (W : World) (t : TypeId) (u0 u1 u2 : Value) (l0 l1 l2 : List Ht) (h0 : Rd W u0 l0) (h1 : Rd W u1 l1) (h2 : Rd W u2 l2) : RdL (W.alloc (.cells #[u0, u1, u2] t)) (.slice (some ⟨W.heap.size, 0, none⟩) 3 3) [l0, l1, l2] := by
  have g : Gr W (W.alloc (.cells #[u0, u1, u2] t)) := by go_grown
  refine ⟨_, 3, rfl, fun i hi => ?_⟩
  have : i = 0 ∨ i = 1 ∨ i = 2 := by simp at hi; omega
  rcases this with rfl | rfl | rfl
  · exact ⟨W.heap.size, 0, u0, rfl, by simp [go_sem], h0.gr g⟩
  · exact ⟨W.heap.size, 0, u1, rfl, by simp [go_sem], h1.gr g⟩
  · exact ⟨W.heap.size, 0, u2, rfl, by simp [go_sem], h2.gr g⟩
theorem aw_firsts : firsts 3 [⟨5, 0, 1⟩, ⟨4, 0, 9⟩, ⟨6, 0, 1⟩, ⟨5, 0, 1⟩] = [⟨5, 0, 1⟩, ⟨5, 0, 1⟩, ⟨6, 0, 1⟩] := by
  have h : firsts 3 (((([] ++ [⟨5, 0, 1⟩]) ++ [⟨4, 0, 9⟩]) ++ [⟨6, 0, 1⟩]) ++ [⟨5, 0, 1⟩]) = [⟨5, 0, 1⟩, ⟨5, 0, 1⟩, ⟨6, 0, 1⟩] := by
    rw [firsts_snoc, firsts_snoc, firsts_snoc, firsts_snoc, firsts_nil]
    decide
  exact h
theorem aw_k1 : kept 2 [] ⟨1, 0, 9⟩ = true ∧ keep 2 [] ⟨1, 0, 9⟩ = [⟨1, 0, 9⟩] := by decide
theorem aw_k2 : kept 2 [⟨1, 0, 9⟩] ⟨2, 0, 4⟩ = true ∧ keep 2 [⟨1, 0, 9⟩] ⟨2, 0, 4⟩ = [⟨2, 0, 4⟩, ⟨1, 0, 9⟩] := by decide
theorem aw_k3 : kept 2 [⟨2, 0, 4⟩, ⟨1, 0, 9⟩] ⟨3, 0, 9⟩ = false ∧ keep 2 [⟨2, 0, 4⟩, ⟨1, 0, 9⟩] ⟨3, 0, 9⟩ = [⟨2, 0, 4⟩, ⟨1, 0, 9⟩] := by decide
theorem aw_k4 : kept 2 [⟨2, 0, 4⟩, ⟨1, 0, 9⟩] ⟨3, 0, 4⟩ = true ∧ keep 2 [⟨2, 0, 4⟩, ⟨1, 0, 9⟩] ⟨3, 0, 4⟩ = [⟨2, 0, 4⟩, ⟨3, 0, 4⟩] := by decide
theorem aw_worst {w W : World} {hb : Nat} {v : Value} (h : St w W hb 2 v [⟨2, 0, 4⟩, ⟨3, 0, 4⟩]) : Calls Try.prog 15 #[.pointer (some ⟨hb, 0, none⟩)] W fun e W' => e = .returned (.tuple #[.agg #[.int .i64 3, .int .u64 0, .int .u64 4], .bool true]) ∧ Gr W W' := worst_has h.has (by simp)
theorem aw_merge {W : World} {v : Value} (h : RdL W v [[⟨5, 0, 1⟩, ⟨4, 0, 9⟩], [], [⟨6, 0, 1⟩, ⟨5, 0, 1⟩]]) : Calls Try.prog 23 #[.int .i64 3, v] W fun e W' => ∃ v', e = .returned (.tuple #[v', .int .i64 0]) ∧ Out W W' v' [⟨5, 0, 1⟩, ⟨5, 0, 1⟩, ⟨6, 0, 1⟩] := by
  have := merge_c 3 (by omega) (by omega) h (by simp) (by simp [tot])
  rw [show ([[⟨5, 0, 1⟩, ⟨4, 0, 9⟩], [], [⟨6, 0, 1⟩, ⟨5, 0, 1⟩]] : List (List Ht)).flatten = [⟨5, 0, 1⟩, ⟨4, 0, 9⟩, ⟨6, 0, 1⟩, ⟨5, 0, 1⟩] from rfl, aw_firsts] at this
  exact this

/-- The variable that holds the worst one, behind calls. -/
def Vr (a b : World) : Prop := Gr a b ∧ b.cell? ⟨a.heap.size, 0, none⟩ = some (.int .i64 3) ∧ b.cell? ⟨a.heap.size, 1, none⟩ = some (.int .u64 0) ∧ b.cell? ⟨a.heap.size, 2, none⟩ = some (.int .u64 4)
theorem Vr.start {a b : World} (g : Gr (a.alloc (.cells #[.int .i64 3, .int .u64 0, .int .u64 4] 26)) b) : Vr a b :=
  ⟨gr_trans (gr_alloc (Below.refl _ _) _) g, gr_keeps g (by simp [go_sem]), gr_keeps g (by simp [go_sem]), gr_keeps g (by simp [go_sem])⟩
theorem Vr.on {a b c : World} (h : Vr a b) (g : Gr b c) : Vr a c := ⟨gr_trans h.1 g, gr_keeps g h.2.1, gr_keeps g h.2.2.1, gr_keeps g h.2.2.2⟩
theorem three_call {w0 W w' : World} {p0 p1 p2 : Addr} {v0 v1 v2 : Value} (g : Gr W w')
    (h : Gr w0 W ∧ W.cell? p0 = some v0 ∧ W.cell? p1 = some v1 ∧ W.cell? p2 = some v2) : Gr w0 w' ∧ w'.cell? p0 = some v0 ∧ w'.cell? p1 = some v1 ∧ w'.cell? p2 = some v2 :=
  ⟨gr_trans h.1 g, gr_keeps g h.2.1, gr_keeps g h.2.2.1, gr_keeps g h.2.2.2⟩
theorem three_alloc {w0 W : World} {o : Obj} {p0 p1 p2 : Addr} {v0 v1 v2 : Value}
    (h : Gr w0 W ∧ W.cell? p0 = some v0 ∧ W.cell? p1 = some v1 ∧ W.cell? p2 = some v2) : Gr w0 (W.alloc o) ∧ (W.alloc o).cell? p0 = some v0 ∧ (W.alloc o).cell? p1 = some v1 ∧ (W.alloc o).cell? p2 = some v2 :=
  three_call (gr_alloc (Below.refl _ _) _) h
theorem aw_same2 {w16 W : World} {vl : Value} (h : Rd w16 vl [⟨2, 0, 4⟩, ⟨3, 0, 4⟩]) (g : Gr w16 (W.alloc (.cells #[.int .i64 2, .int .u64 0, .int .u64 4, .int .i64 3, .int .u64 0, .int .u64 4] 26))) :
    Calls Try.prog 19 #[vl, .slice (some ⟨W.heap.size, 0, none⟩) 2 2] (W.alloc (.cells #[.int .i64 2, .int .u64 0, .int .u64 4, .int .i64 3, .int .u64 0, .int .u64 4] 26)) fun e w' => e = .returned (.bool true) ∧ Gr (W.alloc (.cells #[.int .i64 2, .int .u64 0, .int .u64 4, .int .i64 3, .int .u64 0, .int .u64 4] 26)) w' := by
  have := same_c (h.gr g) (rd_two W ⟨2, 0, 4⟩ ⟨3, 0, 4⟩) (by simp)
  rw [decide_eq_true rfl] at this
  exact this
theorem aw_same3 {w16 W : World} {vl : Value} (h : Rd w16 vl [⟨5, 0, 1⟩, ⟨5, 0, 1⟩, ⟨6, 0, 1⟩]) (g : Gr w16 (W.alloc (.cells #[.int .i64 5, .int .u64 0, .int .u64 1, .int .i64 5, .int .u64 0, .int .u64 1, .int .i64 6, .int .u64 0, .int .u64 1] 26))) :
    Calls Try.prog 19 #[vl, .slice (some ⟨W.heap.size, 0, none⟩) 3 3] (W.alloc (.cells #[.int .i64 5, .int .u64 0, .int .u64 1, .int .i64 5, .int .u64 0, .int .u64 1, .int .i64 6, .int .u64 0, .int .u64 1] 26)) fun e w' => e = .returned (.bool true) ∧ Gr (W.alloc (.cells #[.int .i64 5, .int .u64 0, .int .u64 1, .int .i64 5, .int .u64 0, .int .u64 1, .int .i64 6, .int .u64 0, .int .u64 1] 26)) w' := by
  have := same_c (h.gr g) (rd_three W ⟨5, 0, 1⟩ ⟨5, 0, 1⟩ ⟨6, 0, 1⟩) (by simp)
  rw [decide_eq_true rfl] at this
  exact this
theorem aw_less (W : World) : Calls Try.prog 8 #[.agg #[.int .i64 1, .int .u64 0, .int .u64 5], .agg #[.int .i64 2, .int .u64 0, .int .u64 5]] W fun e w' => e = .returned (.bool true) ∧ Gr W w' :=
  (less_c ⟨1, 0, 5⟩ ⟨2, 0, 5⟩ W).mono fun _ _ ⟨h1, h2⟩ => ⟨h1, h2.gr⟩

set_option maxHeartbeats 4000000 in
set_option maxRecDepth 100000 in
theorem awake_any (w : World) : Calls Try.prog 10 #[] w fun e w' => e = .returned (.bool true) ∧ Gr w w' := by
  go_enter Try.func10, Try.ntmps10
  go_wp2_with fail
  refine (new_ok 2 (by omega) (by omega) w).mono ?_
  rintro e w1 ⟨rfl, e1⟩
  subst e1
  have S0 : Hid (St w (w.alloc (.cells #[.int .i64 2, .slice none 0 0] 55)) w.heap.size 2 (.slice none 0 0) []) := st_new 2 (by omega) (by omega) w w (Below.refl _ _)
  generalize w.alloc (.cells #[.int .i64 2, .slice none 0 0] 55) = w1 at *
  go_wp2_with fail
  refine (new_lo 0 (by omega) w1).mono ?_
  rintro e w2 ⟨rfl, e1⟩
  subst e1
  go_wp2_with fail
  refine (hit_c 1 9 _).mono ?_
  rintro e w2 ⟨rfl, g1⟩
  have S1 : Hid (St w w2 w.heap.size 2 (.slice none 0 0) []) := S0.out.on g1
  clear g1 S0
  go_wp2_with fail
  refine (st_offer S1.out ⟨1, 0, 9⟩ _ _ aw_k1.1 aw_k1.2).mono ?_
  rintro e w3 ⟨rfl, v1, s2⟩
  have S2 : Hid (St w w3 w.heap.size 2 v1 [⟨1, 0, 9⟩]) := s2
  clear s2 S1
  go_wp2_with fail
  refine (hit_c 2 4 _).mono ?_
  rintro e w4 ⟨rfl, g1⟩
  have S3 : Hid (St w w4 w.heap.size 2 v1 [⟨1, 0, 9⟩]) := S2.out.on g1
  clear g1 S2
  go_wp2_with fail
  refine (st_offer S3.out ⟨2, 0, 4⟩ _ _ aw_k2.1 aw_k2.2).mono ?_
  rintro e w5 ⟨rfl, v2, s2⟩
  have S4 : Hid (St w w5 w.heap.size 2 v2 [⟨2, 0, 4⟩, ⟨1, 0, 9⟩]) := s2
  clear s2 S3
  go_wp2_with fail
  refine (hit_c 3 9 _).mono ?_
  rintro e w6 ⟨rfl, g1⟩
  have S5 : Hid (St w w6 w.heap.size 2 v2 [⟨2, 0, 4⟩, ⟨1, 0, 9⟩]) := S4.out.on g1
  clear g1 S4
  go_wp2_with fail
  refine (st_offer S5.out ⟨3, 0, 9⟩ _ _ aw_k3.1 aw_k3.2).mono ?_
  rintro e w7 ⟨rfl, v3, s2⟩
  have S6 : Hid (St w w7 w.heap.size 2 v3 [⟨2, 0, 4⟩, ⟨1, 0, 9⟩]) := s2
  clear s2 S5
  go_wp2_with fail
  refine (hit_c 3 4 _).mono ?_
  rintro e w8 ⟨rfl, g1⟩
  have S7 : Hid (St w w8 w.heap.size 2 v3 [⟨2, 0, 4⟩, ⟨1, 0, 9⟩]) := S6.out.on g1
  clear g1 S6
  go_wp2_with fail
  refine (st_offer S7.out ⟨3, 0, 4⟩ _ _ aw_k4.1 aw_k4.2).mono ?_
  rintro e w9 ⟨rfl, v4, s2⟩
  have S8 : Hid (St w w9 w.heap.size 2 v4 [⟨2, 0, 4⟩, ⟨3, 0, 4⟩]) := s2
  clear s2 S7
  go_wp2_with fail
  refine (aw_worst S8.out).mono ?_
  rintro e w10 ⟨rfl, g1⟩
  have S9 : Hid (St w w10 w.heap.size 2 v4 [⟨2, 0, 4⟩, ⟨3, 0, 4⟩]) := S8.out.on g1
  clear g1 S8
  have G10 : Hid (Gr w w10) := S9.out.gr
  go_wp2_with fail
  have S10 := S9.out.on (W' := w10.alloc (.cells #[.int .i64 3, .int .u64 0, .int .u64 4] 26)) (by go_grown)
  refine (list_has S10.has).mono ?_
  rintro e w11 ⟨vl, rfl, ol⟩
  have V : Hid (Vr w10 w11) := Vr.start ol.2.1
  have RL : Hid (Rd w11 vl [⟨2, 0, 4⟩, ⟨3, 0, 4⟩]) := own_rd ol.1
  clear ol S9 S10
  go_wp2_with fail
  refine (hit_c 5 1 _).mono ?_
  rintro e w12 ⟨rfl, g1⟩
  go_wp2_with fail
  refine (hit_c 4 9 _).mono ?_
  rintro e w13 ⟨rfl, g2⟩
  have R1 : Hid (Rd (w13.alloc (.cells #[.int .i64 5, .int .u64 0, .int .u64 1, .int .i64 4, .int .u64 0, .int .u64 9] 26)) (.slice (some ⟨w13.heap.size, 0, none⟩) 2 2) [⟨5, 0, 1⟩, ⟨4, 0, 9⟩]) := rd_two w13 ⟨5, 0, 1⟩ ⟨4, 0, 9⟩
  have G11 : Hid (Gr w11 (w13.alloc (.cells #[.int .i64 5, .int .u64 0, .int .u64 1, .int .i64 4, .int .u64 0, .int .u64 9] 26))) := gr_alloc (gr_trans g1 g2) _
  clear g1 g2
  go_wp2_with fail
  refine (hit_c 6 1 _).mono ?_
  rintro e w14 ⟨rfl, g1⟩
  go_wp2_with fail
  refine (hit_c 5 1 _).mono ?_
  rintro e w15 ⟨rfl, g2⟩
  have R2 : Hid (Rd (w15.alloc (.cells #[.int .i64 6, .int .u64 0, .int .u64 1, .int .i64 5, .int .u64 0, .int .u64 1] 26)) (.slice (some ⟨w15.heap.size, 0, none⟩) 2 2) [⟨6, 0, 1⟩, ⟨5, 0, 1⟩]) := rd_two w15 ⟨6, 0, 1⟩ ⟨5, 0, 1⟩
  have G15 := gr_alloc (gr_trans g1 g2) (.cells #[.int .i64 6, .int .u64 0, .int .u64 1, .int .i64 5, .int .u64 0, .int .u64 1] 26)
  have R3 : Hid (RdL ((w15.alloc (.cells #[.int .i64 6, .int .u64 0, .int .u64 1, .int .i64 5, .int .u64 0, .int .u64 1] 26)).alloc (.cells #[.slice (some ⟨w13.heap.size, 0, none⟩) 2 2, .slice none 0 0, .slice (some ⟨w15.heap.size, 0, none⟩) 2 2] 30)) (.slice (some ⟨w15.heap.size + 1, 0, none⟩) 3 3) [[⟨5, 0, 1⟩, ⟨4, 0, 9⟩], [], [⟨6, 0, 1⟩, ⟨5, 0, 1⟩]]) := by
    have := rdl_three (w15.alloc (.cells #[.int .i64 6, .int .u64 0, .int .u64 1, .int .i64 5, .int .u64 0, .int .u64 1] 26)) 30 _ _ _ _ _ _ (R1.out.gr G15) (.inl ⟨rfl, rfl⟩) R2.out
    rw [World.size_alloc] at this
    exact this
  have G16 : Hid (Gr w11 ((w15.alloc (.cells #[.int .i64 6, .int .u64 0, .int .u64 1, .int .i64 5, .int .u64 0, .int .u64 1] 26)).alloc (.cells #[.slice (some ⟨w13.heap.size, 0, none⟩) 2 2, .slice none 0 0, .slice (some ⟨w15.heap.size, 0, none⟩) 2 2] 30))) := gr_alloc (gr_trans G11.out G15) _
  clear g1 g2 G15 G11 R1 R2
  go_wp2_with fail
  refine (aw_merge R3.out).mono ?_
  rintro e w16 ⟨vm, rfl, om⟩
  have RM : Hid (Rd w16 vm [⟨5, 0, 1⟩, ⟨5, 0, 1⟩, ⟨6, 0, 1⟩]) := own_rd om.1
  have G17 := gr_trans G16.out om.2.1
  have RL2 : Hid (Rd w16 vl [⟨2, 0, 4⟩, ⟨3, 0, 4⟩]) := RL.out.gr G17
  have V2 := V.out.on G17
  obtain ⟨c0, c1, c2⟩ := V2.2
  have GG : Hid (Gr w w16) := gr_trans G10.out V2.1
  clear om R3 G16 G17 V V2 RL G10
  have ha := hv_eq ⟨3, 0, 4⟩ ⟨3, 0, 4⟩
  rw [decide_eq_true rfl] at ha
  have d0 : w16.drew.cell? ⟨w10.heap.size, 0, none⟩ = some (.int .i64 3) := c0
  have d1 : w16.drew.cell? ⟨w10.heap.size, 1, none⟩ = some (.int .u64 0) := c1
  have d2 : w16.drew.cell? ⟨w10.heap.size, 2, none⟩ = some (.int .u64 4) := c2
  have d3 : Gr w16 w16.drew := (Below.refl _ _).drew
  go_wp2_with fail
  go_region_held3 (fun w' => Gr w16 w' ∧ w'.cell? ⟨w10.heap.size, 0, none⟩ = some (.int .i64 3) ∧ w'.cell? ⟨w10.heap.size, 1, none⟩ = some (.int .u64 0) ∧ w'.cell? ⟨w10.heap.size, 2, none⟩ = some (.int .u64 4)) (first | (with_reducible exact three_call (by assumption) (by assumption)) | (with_reducible assumption) | (with_reducible exact three_alloc (by assumption)) | (with_reducible exact ⟨d3, d0, d1, d2⟩))
    (first
      | (go_at_call 22; refine (hit_c _ _ _).mono ?_; rintro e u1 ⟨rfl, k1⟩)
      | (go_at_call 19; with_reducible refine (aw_same2 RL2.out (And.left (by assumption))).mono ?_; rintro e u1 ⟨rfl, k1⟩)
      | (go_at_call 19; with_reducible refine (aw_same3 RM.out (And.left (by assumption))).mono ?_; rintro e u1 ⟨rfl, k1⟩)
      | (go_at_call 8; refine (aw_less _).mono ?_; rintro e u1 ⟨rfl, k1⟩))
  all_goals
    go_wp2
    go_ret
    exact ⟨rfl, gr_trans GG.out (And.left (by assumption))⟩
end Go.Proofs.Ytfefojgncemohaa
