/- flat.Search. -/
import Derived.Test.YteaeaoekaoedoaaGreatFIds
namespace Go.Proofs.YteaeaoekaoedoaaGreat
open Go.RowKit Go.Sort

theorem rdw_take {w : World} {a : Option Addr} {n cap c : Nat} {rs : List Rw} (h : RdW w (.slice a n cap) rs) (hc : c ≤ n) : RdW w (.slice a c cap) (rs.take c) := by
  obtain ⟨a', cap', e, h⟩ := h
  injection e with e1 e2 e3
  subst e1; subst e3
  have hl : (rs.take c).length = c := by rw [List.length_take]; omega
  refine ⟨a, cap, by rw [hl], fun i hi => ?_⟩
  rw [hl] at hi
  obtain ⟨b, o, u, r⟩ := h i (by omega)
  refine ⟨b, o, u, ?_⟩
  rw [getElem!_pos (rs.take c) i (by omega), List.getElem_take, ← getElem!_pos rs i (by omega)]
  exact r
theorem rdw_drop {w : World} {a : Option Addr} {n cap c : Nat} {rs : List Rw} (h : RdW w (.slice a n cap) rs) (hn : n ≤ cap) (hc : c ≤ n) : RdW w (.slice (if cap = c then a else Option.map (fun x => x.add (c * 2)) a) (n - c) (cap - c)) (rs.drop c) := by
  obtain ⟨a', cap', e, h⟩ := h
  injection e with e1 e2 e3
  subst e1; subst e3
  refine ⟨_, _, by rw [List.length_drop, e2], fun i hi => ?_⟩
  rw [List.length_drop] at hi
  obtain ⟨b, o, u, e4, e5, e6, e7⟩ := h (c + i) (by omega)
  subst e4
  rw [if_neg (by omega)]
  refine ⟨b, o + c * 2, u, by simp [Addr.add], ?_⟩
  rw [getElem!_pos (rs.drop c) i (by rw [List.length_drop]; omega), List.getElem_drop, ← getElem!_pos rs (c + i) (by omega)]
  rw [show o + c * 2 + i * 2 = o + (c + i) * 2 by omega]
  exact ⟨e5, e6, e7⟩
theorem grown_setCell (w : World) (p : Addr) (u : Value) : w.grownBy (w.setCell p u) (some p.block) :=
  ⟨rfl, rfl, rfl, by simp [World.setCell], fun k _ hn => Below.heap_setCell _ _ _ _ (by rintro rfl; exact hn rfl)⟩

def searchE (rs : List Rw) (q : List Int) (k b : Int) : Int := if topE rs q k = 0 then (if 0 ≤ b ∧ b ≤ 1000000 then 0 else 1) else topE rs q k
theorem searchE_zero {rs : List Rw} {q : List Int} {k b : Int} : searchE rs q k b = 0 ↔ topE rs q k = 0 ∧ 0 ≤ b ∧ b ≤ 1000000 := by
  unfold searchE
  split
  · rename_i h
    split
    · rename_i h1; simp [h, h1]
    · rename_i h1; simp [h]; omega
  · rename_i h; exact ⟨fun e => absurd e h, fun e => absurd e.1 h⟩

/-- Rows that were not looked at, in memory from B on. -/
def RestAt (w : World) (B : Nat) (v : Value) (rs : List Rw) : Prop := (rs = [] ∧ v = .slice none 0 0) ∨ rs ≠ [] ∧ ∃ vi g, v = .slice (some ⟨g, 0, none⟩) 1 1 ∧ B ≤ g ∧
  w.heap[g]? = some (.cells #[.int .i64 1, .slice none 0 0, .slice none 0 0, .int .u64 0, .int .u64 0, vi] 63 (0, 0)) ∧ Own w B vi (srt (idsOf rs))
theorem RestAt.grown {w w' : World} {B : Nat} {v : Value} {rs : List Rw} {b : Nat} (h : RestAt w B v rs) (g : w.grownBy w' (some b)) (hb : b < B) : RestAt w' B v rs := by
  rcases h with h | ⟨h0, vi, x, h1, h2, h3, h4⟩
  · exact .inl h
  · refine .inr ⟨h0, vi, x, h1, h2, (g.block x (Array.getElem?_eq_some_iff.1 h3).1 (by simp; omega)).trans h3, h4.kept g (.inr fun e => ?_)⟩
    have := (World.ownsRow.lt h4 b e).1
    omega
/-- An answer: hits, ids that were seen, the rest; each in memory of its own. -/
def AnsB (w w' : World) (B1 B2 : Nat) (vh vs vr : Value) (rs : List Rw) (q : List Int) (k c : Nat) : Prop := w.heap.size ≤ B1 ∧ B1 ≤ B2 ∧ B2 ≤ w'.heap.size ∧ Gb w w' ∧ Tk.Own w' vh (Tk.firsts k (hitsOf q (rs.take c))).toArray ∧
  (∀ g, vh.ownBlock = some g → w.heap.size ≤ g ∧ g < B1) ∧ Own w' B1 vs (srt (idsOf (rs.take c))) ∧ (∀ g, vs.ownBlock = some g → g < B2) ∧ RestAt w' B2 vr (rs.drop c)
def AnsAt (w w' : World) (vh vs vr : Value) (rs : List Rw) (q : List Int) (k c : Nat) : Prop := ∃ B1 B2, AnsB w w' B1 B2 vh vs vr rs q k c
theorem AnsB.set {w w' : World} {B1 B2 : Nat} {vh vs vr : Value} {rs : List Rw} {q : List Int} {k c : Nat} (h : AnsB w w' B1 B2 vh vs vr rs q k c) (hne : vh.ownBlock ≠ some w.heap.size) (h1 : vs.ownBlock ≠ some w.heap.size) (h2 : w.heap.size < B2) (o : Nat) (u : Value) :
    AnsB w (w'.setCell ⟨w.heap.size, o, none⟩ u) B1 B2 vh vs vr rs q k c := by
  obtain ⟨b1, b2, b3, g, t, b4, b5, b6, b7⟩ := h
  have gs := grown_setCell w' ⟨w.heap.size, o, none⟩ u
  refine ⟨b1, b2, by have := gs.size; omega, gb_set g (Nat.le_refl _) u, ?_, b4, b5.kept gs (.inr h1), b6, b7.grown gs h2⟩
  exact Tk.own_kp t (Tk.Kp.grown gs) fun x hx e => hne (by rw [hx, e])

set_option maxRecDepth 100000 in
set_option maxHeartbeats 4000000 in
theorem search_ok {w : World} {a : Option Addr} {n cap : Nat} {u : Value} {rs : List Rw} {q : List Int} (hv : RdW w (.slice a n cap) rs) (hn : n ≤ cap) (hu : RdI w u q) (hwf : Wf rs) (k : Int) (hz : topE rs q k = 0) (b : Nat) (hb : b ≤ 1000000) :
    Calls Tryz.prog 20 #[.slice a n cap, u, .int .i64 k, .int .i64 (b : Int)] w fun e w' => ∃ vh vs vr, e = .returned (.tuple #[.agg #[vh, vs, vr], .int .i64 0]) ∧ AnsAt w w' vh vs vr rs q k.toNat (min b n) := by
  have hask := (topE_zero.1 hz).1
  have hlen : rs.length ≤ 512 := (askE_zero.1 hask).2.few
  have hnr : n = rs.length := by obtain ⟨_, _, e, _⟩ := hv; injection e
  have G0 : Gb w (w.alloc (.cells #[.slice none 0 0, .slice none 0 0, .slice none 0 0] 44)) := gb_alloc (Below.refl _ _) _
  have cb := begin_c (hv.gb G0) (hu.gb G0) hwf k
  have V : Hid (RdW w (.slice a n cap) rs) := hv
  have U : Hid (RdI w u q) := hu
  have ZH : Hid (topE rs q k = 0) := hz
  rw [hz] at cb
  obtain ⟨au, cu, rfl, _⟩ := hu
  obtain ⟨c, hc⟩ : ∃ c, c = min b n := ⟨_, rfl⟩
  have hcn : c ≤ n := by omega
  have hcb : (min (b : Int) (n : Int)) = (c : Int) := by omega
  have hcc : c ≤ cap := by omega
  have hask' : askE (rs.take c) q = 0 := by rw [askE_zero] at hask ⊢; exact ⟨hask.1, hask.2.sub (List.take_sublist _ _)⟩
  have L1 : (rs.take c).length ≤ 512 := by rw [List.length_take]; omega
  have L2 : (rs.drop c).length ≤ 512 := by rw [List.length_drop]; omega
  have V1 : Hid (RdW w (.slice a c cap) (rs.take c)) := rdw_take hv hcn
  have V2 : Hid (RdW w (.slice (if cap = c then a else Option.map (fun x => x.add (c * 2)) a) (n - c) (cap - c)) (rs.drop c)) := rdw_drop hv hn hcn
  have hn64 : n ≤ 512 := by omega
  have hn64' : (n : Int) ≤ 512 := by omega
  rw [← hc]
  clear hv hwf hz hc hnr hlen hask
  generalize hA : (if cap = c then a else Option.map (fun x => x.add (c * 2)) a) = a2 at *
  have hA' : ∀ (x y : Nat), Value.slice (if cap = c then a else Option.map (fun x => x.add (c * 2)) a) x y = Value.slice a2 x y := fun x y => by rw [hA]
  obtain ⟨m, hm⟩ : ∃ m, m = q.length := ⟨_, rfl⟩
  rw [← hm] at cb U ⊢
  clear hm
  go_enter Tryz.func20, Tryz.ntmps20
  go_wp2_with fail
  refine cb.mono ?_
  rintro e w1 ⟨p, rfl, g1, _, hp⟩
  obtain ⟨hb, rfl, hhb, hH⟩ := hp ZH.out
  clear cb hp
  rw [World.size_alloc] at hhb
  have gw1 := gb_trans G0 g1
  have s1 : w.heap.size + 1 ≤ w1.heap.size := by have := g1.size; rwa [World.size_alloc] at this
  have hcell : ∀ i, i < 3 → w1.cell? ⟨w.heap.size, i, none⟩ = some (.slice none 0 0) := fun i hi => gb_keeps g1 (by rcases i with _ | _ | _ | i <;> first | omega | simp [go_sem])
  have hblk : w1.heap[w.heap.size]? = some (.cells #[.slice none 0 0, .slice none 0 0, .slice none 0 0] 44 (0, 0)) := gb_same g1 (World.alloc_heap_new w _)
  go_wp2_with fail
  refine wp_region_held_drew (S := fun _ => True) (by kernel_rfl) trivial (fun hHeld => ?_)
  refine wpAnyH_take (i := 0) (v := ?_) rfl (by kernel_rfl) (by kernel_rfl) (by kernel_rfl) (fun _ _ _ h => h) (Or.inl ⟨by rfl, ?_⟩) (by assumption) ?_
  rotate_left 1
  · (intro w hSw; (try dsimp only at hSw); go_simp; try with_reducible rfl)
  try simp only [Act.put, List.setIfInBounds_toArray]
  refine wpAnyH_take (i := 1) (v := ?_) rfl (by kernel_rfl) (by kernel_rfl) (by kernel_rfl) (fun _ _ _ h => h) (Or.inl ⟨by rfl, ?_⟩) (by assumption) ?_
  rotate_left 1
  · (intro w hSw; (try dsimp only at hSw); go_simp; try with_reducible rfl)
  try simp only [Act.put]
  refine wpAnyH_take (i := 2) (v := ?_) rfl (by kernel_rfl) (by kernel_rfl) (by kernel_rfl) (fun _ _ _ h => h) (Or.inl ⟨by rfl, ?_⟩) (by assumption) ?_
  rotate_left 1
  · (intro w hSw; (try dsimp only at hSw); go_simp; try with_reducible rfl)
  try simp only [Act.put]
  refine wpAnyH_take (i := 3) (v := ?_) rfl (by kernel_rfl) (by kernel_rfl) (by kernel_rfl) (fun _ _ _ h => h) (Or.inl ⟨by rfl, ?_⟩) (by assumption) ?_
  rotate_left 1
  · (intro w hSw; (try dsimp only at hSw); go_simp; try with_reducible rfl)
  try simp only [Act.put]
  refine wpAnyH_take (i := 4) (v := ?_) rfl (by kernel_rfl) (by kernel_rfl) (by kernel_rfl) (fun _ _ _ h => h) (Or.inl ⟨by rfl, ?_⟩) (by assumption) ?_
  rotate_left 1
  · (intro w hSw; (try dsimp only at hSw); go_simp; try with_reducible rfl)
  try simp only [Act.put]
  refine wpAnyH_take (i := 6) (v := ?_) rfl (by kernel_rfl) (by kernel_rfl) (by kernel_rfl) (fun _ _ _ h => h) (Or.inl ⟨by rfl, ?_⟩) (by assumption) ?_
  rotate_left 1
  · (intro w hSw; (try dsimp only at hSw); go_simp; try with_reducible rfl)
  try simp only [Act.put]
  refine wpAnyH_take (i := 7) (v := ?_) rfl (by kernel_rfl) (by kernel_rfl) (by kernel_rfl) (fun _ _ _ h => h) (Or.inl ⟨by rfl, ?_⟩) (by assumption) ?_
  rotate_left 1
  · (intro w hSw; (try dsimp only at hSw); go_simp; try with_reducible rfl)
  try simp only [Act.put]
  refine wpAnyH_take (i := 8) (v := ?_) rfl (by kernel_rfl) (by kernel_rfl) (by kernel_rfl) (fun _ _ _ h => h) (Or.inl ⟨by rfl, ?_⟩) (by assumption) ?_
  rotate_left 1
  · (intro w hSw; (try dsimp only at hSw); go_simp; try with_reducible rfl)
  try simp only [Act.put]
  refine wpAnyH_take (i := 10) (v := ?_) rfl (by kernel_rfl) (by kernel_rfl) (by kernel_rfl) (fun _ _ _ h => h) (Or.inl ⟨by rfl, ?_⟩) (by assumption) ?_
  rotate_left 1
  · (intro w hSw; (try dsimp only at hSw); go_simp; try with_reducible rfl)
  try simp only [Act.put]
  refine wpAnyH_take (i := 11) (v := ?_) rfl (by kernel_rfl) (by kernel_rfl) (by kernel_rfl) (fun _ _ _ h => h) (Or.inl ⟨by rfl, ?_⟩) (by assumption) ?_
  rotate_left 1
  · (intro w hSw; (try dsimp only at hSw); go_simp; try with_reducible rfl)
  try simp only [Act.put]
  refine wpAnyH_take (i := 12) (v := ?_) rfl (by kernel_rfl) (by kernel_rfl) (by kernel_rfl) (fun _ _ _ h => h) (Or.inl ⟨by rfl, ?_⟩) (by assumption) ?_
  rotate_left 1
  · (intro w hSw; (try dsimp only at hSw); go_simp; try with_reducible rfl)
  try simp only [Act.put]
  have gd : Gb w1 w1.drew := ⟨rfl, rfl, rfl, Nat.le_refl _, fun _ _ => rfl⟩
  have cn := nearest_c (hH.gr gd) (w0 := w.alloc (.cells #[.slice none 0 0, .slice none 0 0, .slice none 0 0] 44)) (by rw [World.size_alloc]; exact hhb) (V1.out.gb G0) (U.out.gb G0) (gb_trans g1 gd) hask'
  refine wpAnyH_ready (rs := [5]) (by kernel_rfl) (by simp) ?_
  refine AllReadyH.cons rfl (fun K hK => ?_) AllReadyH.nil
  go_simp
  go_at_call 31
  refine cn.mono ?_
  rintro e w2 ⟨vh, rfl, o1, g2, b1⟩
  clear cn
  refine hK.out _ _ trivial (fun hHeld => ?_)
  clear hK K
  try simp only [Act.put, List.setIfInBounds_toArray, List.set_cons_zero, List.set_cons_succ]
  have gw2 : Gb w w2 := gb_trans G0 g2
  have cr := rising_c (V1.out.gb gw2) L1
  refine wpAnyH_ready (rs := [9]) (by kernel_rfl) (by simp) ?_
  refine AllReadyH.cons rfl (fun K hK => ?_) AllReadyH.nil
  go_simp
  go_at_call 44
  refine cr.mono ?_
  rintro e w3 ⟨vs, rfl, o2, g3⟩
  clear cr
  refine hK.out _ _ trivial (fun hHeld => ?_)
  clear hK K
  try simp only [Act.put, List.setIfInBounds_toArray, List.set_cons_zero, List.set_cons_succ]
  have gw3 : Gb w w3 := gb_trans gw2 g3
  have cs := somewhere_c (V2.out.gb gw3) L2
  refine wpAnyH_ready (rs := [13]) (by kernel_rfl) (by simp) ?_
  refine AllReadyH.cons rfl (fun K hK => ?_) AllReadyH.nil
  go_simp
  go_at_call 45
  refine cs.mono ?_
  rintro e w4 ⟨vr, rfl, g4, o3⟩
  clear cs
  refine hK.out _ _ trivial (fun hHeld => ?_)
  clear hK K
  try simp only [Act.put, List.setIfInBounds_toArray, List.set_cons_zero, List.set_cons_succ]
  have bA : w4.heap[w.heap.size]? = some (.cells #[.slice none 0 0, .slice none 0 0, .slice none 0 0] 44 (0, 0)) := gb_same g4 (gb_same g3 (gb_same g2 (World.alloc_heap_new w _)))
  have q0 : w4.cell? ⟨w.heap.size, 0, none⟩ = some (.slice none 0 0) := by simp [World.cell?, bA]
  have q1 : w4.cell? ⟨w.heap.size, 1, none⟩ = some (.slice none 0 0) := by simp [World.cell?, bA]
  have q2 : w4.cell? ⟨w.heap.size, 2, none⟩ = some (.slice none 0 0) := by simp [World.cell?, bA]
  have f0 : w4.frozen? ⟨w.heap.size, 0, none⟩ = false := by simp [World.frozen?, bA]
  have f1 : w4.frozen? ⟨w.heap.size, 1, none⟩ = false := by simp [World.frozen?, bA]
  have f2 : w4.frozen? ⟨w.heap.size, 2, none⟩ = false := by simp [World.frozen?, bA]
  have e1 : ∃ x y z, vh = Value.slice x y z := own_slice o1
  have e2 : ∃ x y z, vs = Value.slice x y z := by obtain ⟨x, z, e, _⟩ := o2.rd; exact ⟨_, _, _, e⟩
  have e3 : ∃ x y z, vr = Value.slice x y z := by
    rcases o3 with ⟨_, e⟩ | ⟨_, vi, g, e, _⟩
    · exact ⟨_, _, _, e⟩
    · exact ⟨_, _, _, e⟩
  have s2 := g2.size
  rw [World.size_alloc] at s2 b1 g2
  have FIN : Hid (AnsB w w4 w2.heap.size w3.heap.size vh vs vr rs q k.toNat c ∧ vh.ownBlock ≠ some w.heap.size ∧ vs.ownBlock ≠ some w.heap.size ∧ w.heap.size < w3.heap.size) := by
    have hb1 : ∀ g, vh.ownBlock = some g → w.heap.size ≤ g ∧ g < w2.heap.size := fun g e => ⟨by have := b1 g e; omega, Tk.own_lt o1 e⟩
    have hb2 : ∀ g, vs.ownBlock = some g → g < w3.heap.size := fun g e => (World.ownsRow.lt o2 g e).2
    have s3 := g3.size
    have s4 := g4.size
    refine ⟨⟨gw2.size, s3, s4, gb_trans gw3 g4, Tk.own_gr (Tk.own_gr o1 g3) g4, hb1, o2.gb g4, hb2, o3⟩, fun e => ?_, fun e => ?_, by omega⟩
    · have := b1 _ e; omega
    · have := (World.ownsRow.lt o2 _ e).1; omega
  clear o1 o2 o3 b1 bA g2 g3 g4 V V1 V2
  obtain ⟨x1, y1, z1, rfl⟩ := e1
  obtain ⟨x2, y2, z2, rfl⟩ := e2
  obtain ⟨x3, y3, z3, rfl⟩ := e3
  refine wpAnyH_ready (rs := [14]) (by kernel_rfl) (by simp) ?_
  refine AllReadyH.cons rfl (fun K hK => ?_) AllReadyH.nil
  go_simp
  refine hK.out _ _ trivial (fun hHeld => ?_)
  clear hK K
  try simp only [Act.put, List.setIfInBounds_toArray, List.set_cons_zero, List.set_cons_succ]
  refine wpAnyH_ready (rs := [15]) (by kernel_rfl) (by simp) ?_
  refine AllReadyH.cons rfl (fun K hK => ?_) AllReadyH.nil
  go_simp
  refine hK.out _ _ trivial (fun hHeld => ?_)
  clear hK K
  try simp only [Act.put, List.setIfInBounds_toArray, List.set_cons_zero, List.set_cons_succ]
  refine wpAnyH_ready (rs := [16]) (by kernel_rfl) (by simp) ?_
  refine AllReadyH.cons rfl (fun K hK => ?_) AllReadyH.nil
  go_simp
  refine hK.out _ _ trivial (fun hHeld => ?_)
  clear hK K
  try simp only [Act.put, List.setIfInBounds_toArray, List.set_cons_zero, List.set_cons_succ]
  refine wpAnyH_done (by kernel_rfl) ?_ _
  go_wp2
  refine bodyPost_ret (v := .tuple #[.agg #[.slice x1 y1 z1, .slice x2 y2 z2, .slice x3 y3 z3], .int .i64 0]) (by simp [results, Tryz.results20, go_sem, q0, q1, q2]) rfl ⟨_, _, _, rfl, w2.heap.size, w3.heap.size, ?_⟩
  obtain ⟨p0, p1, p2, p3⟩ := FIN.out
  exact ((p0.set p1 p2 p3 0 _).set p1 p2 p3 1 _).set p1 p2 p3 2 _

set_option maxHeartbeats 1000000 in
theorem search_no {w : World} {v u : Value} {rs : List Rw} {q : List Int} (hv : RdW w v rs) (hu : RdI w u q) (hwf : Wf rs) (k b : Int) (hz : searchE rs q k b ≠ 0) :
    Calls Tryz.prog 20 #[v, u, .int .i64 k, .int .i64 b] w fun e w' => e = .returned (.tuple #[.agg #[.slice none 0 0, .slice none 0 0, .slice none 0 0], .int .i64 (searchE rs q k b)]) ∧ Gb w w' := by
  have G0 : Gb w (w.alloc (.cells #[.slice none 0 0, .slice none 0 0, .slice none 0 0] 44)) := gb_alloc (Below.refl _ _) _
  have cb := begin_c (hv.gb G0) (hu.gb G0) hwf k
  have E : searchE rs q k b = if topE rs q k = 0 then (if 0 ≤ b ∧ b ≤ 1000000 then 0 else 1) else topE rs q k := rfl
  obtain ⟨a, cap, rfl, _⟩ := hv
  obtain ⟨au, cu, rfl, _⟩ := hu
  have fz : ∀ _ : Nat, (w.alloc (.cells #[.slice none 0 0, .slice none 0 0, .slice none 0 0] 44)).heap[w.heap.size]? = some (.cells #[.slice none 0 0, .slice none 0 0, .slice none 0 0] 44 (0, 0)) := fun _ => World.alloc_heap_new w _
  generalize rs.length = n at *
  generalize q.length = m at *
  by_cases hx : topE rs q k = 0
  · rw [if_pos hx] at E
    have hk : ¬ (0 ≤ b ∧ b ≤ 1000000) := fun h => hz (by rw [E, if_pos h])
    rw [if_neg hk] at E
    rw [E]
    rw [hx] at cb
    clear E hz
    have hb' : b < 0 ∨ 1000000 < b := by omega
    clear hk
    go_enter Tryz.func20, Tryz.ntmps20
    go_wp2_with fail
    refine cb.mono ?_
    rintro e w1 ⟨p, rfl, g1, _⟩
    clear cb
    have bA := gb_same g1 (fz 0)
    have q0 : w1.cell? ⟨w.heap.size, 0, none⟩ = some (.slice none 0 0) := by simp [World.cell?, bA]
    have q1 : w1.cell? ⟨w.heap.size, 1, none⟩ = some (.slice none 0 0) := by simp [World.cell?, bA]
    have q2 : w1.cell? ⟨w.heap.size, 2, none⟩ = some (.slice none 0 0) := by simp [World.cell?, bA]
    have f0 : w1.frozen? ⟨w.heap.size, 0, none⟩ = false := by simp [World.frozen?, bA]
    have f1 : w1.frozen? ⟨w.heap.size, 1, none⟩ = false := by simp [World.frozen?, bA]
    have f2 : w1.frozen? ⟨w.heap.size, 2, none⟩ = false := by simp [World.frozen?, bA]
    rcases hb' with h | h
    · go_wp2
      refine bodyPost_ret (v := .tuple #[.agg #[.slice none 0 0, .slice none 0 0, .slice none 0 0], .int .i64 1]) (by simp [results, Tryz.results20, go_sem, q0, q1, q2]) rfl ⟨rfl, ?_⟩
      exact gb_set (gb_set (gb_set (gb_trans G0 g1) (Nat.le_refl _) _) (Nat.le_refl _) _) (Nat.le_refl _) _
    · have h' : ¬ b < 0 := by omega
      go_wp2
      refine bodyPost_ret (v := .tuple #[.agg #[.slice none 0 0, .slice none 0 0, .slice none 0 0], .int .i64 1]) (by simp [results, Tryz.results20, go_sem, q0, q1, q2]) rfl ⟨rfl, ?_⟩
      exact gb_set (gb_set (gb_set (gb_trans G0 g1) (Nat.le_refl _) _) (Nat.le_refl _) _) (Nat.le_refl _) _
  · rw [if_neg hx] at E
    rw [E]
    clear E hz
    have hx' : (topE rs q k == 0) = false := by rw [beq_eq_false_iff_ne]; exact hx
    generalize topE rs q k = z at *
    go_enter Tryz.func20, Tryz.ntmps20
    go_wp2_with fail
    refine cb.mono ?_
    rintro e w1 ⟨p, rfl, g1, _⟩
    clear cb
    have bA := gb_same g1 (fz 0)
    have q0 : w1.cell? ⟨w.heap.size, 0, none⟩ = some (.slice none 0 0) := by simp [World.cell?, bA]
    have q1 : w1.cell? ⟨w.heap.size, 1, none⟩ = some (.slice none 0 0) := by simp [World.cell?, bA]
    have q2 : w1.cell? ⟨w.heap.size, 2, none⟩ = some (.slice none 0 0) := by simp [World.cell?, bA]
    have f0 : w1.frozen? ⟨w.heap.size, 0, none⟩ = false := by simp [World.frozen?, bA]
    have f1 : w1.frozen? ⟨w.heap.size, 1, none⟩ = false := by simp [World.frozen?, bA]
    have f2 : w1.frozen? ⟨w.heap.size, 2, none⟩ = false := by simp [World.frozen?, bA]
    go_wp2
    refine bodyPost_ret (v := .tuple #[.agg #[.slice none 0 0, .slice none 0 0, .slice none 0 0], .int .i64 z]) (by simp [results, Tryz.results20, go_sem, q0, q1, q2]) rfl ⟨rfl, ?_⟩
    exact gb_set (gb_set (gb_set (gb_trans G0 g1) (Nat.le_refl _) _) (Nat.le_refl _) _) (Nat.le_refl _) _
end Go.Proofs.YteaeaoekaoedoaaGreat
