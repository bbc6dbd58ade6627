/- (*vptree.search).isBeyond. -/
import Derived.Test.YtepjbdklljlecabGreatVsKqAt
namespace Go.Proofs.YtepjbdklljlecabGreat
open Go.RowKit Go.Sort

set_option maxHeartbeats 1000000 in
set_option maxRecDepth 100000 in
theorem full_has {w : World} {hb k : Nat} {v : Value} {m : List Tk.Ht} (h : Tk.Has w hb k v m) : Calls Tryz.prog 83 #[.pointer (some ⟨hb, 0, none⟩)] w fun e w' => e = .returned (.bool (decide (m.length = k))) ∧ Tk.Gw w w' := by
  obtain ⟨d, hp, _, pm, _⟩ := h
  have hd : d.size = m.length := by have := pm.length_eq; simpa using this
  have c0 := hp.cell0
  have c1 := hp.cell1
  obtain ⟨a, cap, e⟩ := hp.form
  rw [hd] at e
  subst e
  have G : Hid (Tk.Gw w w.drew) := (Tk.Gw.refl w).drew
  have hb2 : ((m.length : Int) == (k : Int)) = decide (m.length = k) := by
    by_cases e : m.length = k
    · rw [decide_eq_true e, e]; simp
    · rw [decide_eq_false e, beq_eq_false_iff_ne]; omega
  generalize m.length = n at *
  generalize decide (n = k) = r at *
  clear hp pm hd
  go_enter Tryz.func83, Tryz.ntmps83
  go_wp2
  go_region
  all_goals
    go_wp2
    go_ret
    exact ⟨by simp [], G.out⟩
theorem hit_form {q : List Int} {l : List Rw} {k : Nat} {x : Tk.Ht} (h : x ∈ Tk.firsts k (hitsOf q l)) : x.2.1 = hi (dN x) ∧ x.2.2 = lo (dN x) := by
  have h1 : x ∈ hitsOf q l := by
    unfold Tk.firsts at h
    exact (Tk.srt_perm _).mem_iff.1 (List.mem_of_mem_take h)
  obtain ⟨r, _, rfl⟩ := List.mem_map.1 h1
  rw [dN_hit]
  exact ⟨rfl, rfl⟩
set_option maxHeartbeats 1000000 in
set_option maxRecDepth 100000 in
theorem isBeyond_c {w0 W : World} {T : Nat → Pt} {N sb hb k : Nat} {vq : Value} {q : List Int} {bud : Nat} {seen : List Rw} {O M : List (Nat × Pt)} {vs vo vh : Value} (h : SAt w0 W T N sb hb k vq q bud seen O M vs vo vh) (pb : Nat) (p : Pt) :
    Calls Tryz.prog 45 #[.pointer (some ⟨sb, 0, none⟩), .agg #[.pointer (some ⟨pb, 0, none⟩), .int .u64 (hi (bnd q p)), .int .u64 (lo (bnd q p))]] W fun e W' => e = .returned (.bool (beyond q k seen p)) ∧ Gb W W' := by
  have gA : Gb W (W.alloc (.cells #[.pointer (some ⟨pb, 0, none⟩), .int .u64 (hi (bnd q p)), .int .u64 (lo (bnd q p))] 104)) := gb_alloc (Below.refl _ _) _
  have hA := h.grow gA
  obtain ⟨_, c1, _⟩ := hA.cells
  obtain ⟨m, hm⟩ : ∃ m, m = Tk.firsts k (hitsOf q seen) := ⟨_, rfl⟩
  have hform : ∀ x ∈ m, x.2.1 = hi (dN x) ∧ x.2.2 = lo (dN x) := fun x hx => by rw [hm] at hx; exact hit_form hx
  have hk1 : 1 ≤ k := by obtain ⟨d, _, _, _, _, _, hk, _⟩ := h.has; exact hk
  have WR : Hid (∃ x : Tk.Ht, (Calls Tryz.prog 82 #[.pointer (some ⟨hb, 0, none⟩)] (W.alloc (.cells #[.pointer (some ⟨pb, 0, none⟩), .int .u64 (hi (bnd q p)), .int .u64 (lo (bnd q p))] 104)) fun e w' => (∃ b, e = .returned (.tuple #[.agg #[.int .i64 x.1, .int .u64 x.2.1, .int .u64 x.2.2], .bool b])) ∧ Gb (W.alloc (.cells #[.pointer (some ⟨pb, 0, none⟩), .int .u64 (hi (bnd q p)), .int .u64 (lo (bnd q p))] 104)) w') ∧
      (m.length = k → x.2.1 = hi (dN m[k - 1]!) ∧ x.2.2 = lo (dN m[k - 1]!))) := by
    have hh := hA.has
    rw [← hm] at hh
    by_cases h0 : 0 < m.length
    · refine ⟨m[m.length - 1]!, (Tk.worst_has hh h0).mono fun e w' he => ⟨⟨true, he.1⟩, he.2⟩, fun e => ?_⟩
      rw [e]
      exact hform _ (by rw [getElem!_pos m (k - 1) (by omega)]; exact List.getElem_mem _)
    · exact ⟨⟨0, 0, 0⟩, (Tk.worst_has_none hh (by omega)).mono fun e w' he => ⟨⟨false, he.1⟩, he.2⟩, fun e => by omega⟩
  have hbe : beyond q k seen p = (decide (m.length = k) && decide (dN m[k - 1]! < bnd q p)) := by unfold beyond; rw [← hm]
  rw [hbe]
  obtain ⟨x, cW, hx⟩ := WR.out
  have cFl : Hid (∀ W', Gb (W.alloc (.cells #[.pointer (some ⟨pb, 0, none⟩), .int .u64 (hi (bnd q p)), .int .u64 (lo (bnd q p))] 104)) W' → (Calls Tryz.prog 83 #[.pointer (some ⟨hb, 0, none⟩)] W' fun e w' => e = .returned (.bool (decide (m.length = k))) ∧ Tk.Gw W' w') ∧ W'.cell? ⟨sb, 1, none⟩ = some (.pointer (some ⟨hb, 0, none⟩)) ∧ W'.cell? ⟨W.heap.size, 1, none⟩ = some (.int .u64 (hi (bnd q p))) ∧ W'.cell? ⟨W.heap.size, 2, none⟩ = some (.int .u64 (lo (bnd q p)))) := fun W' g => by
    have := full_has (hA.grow g).has
    rw [← hm] at this
    exact ⟨this, gb_keeps g c1, gb_keeps g (by simp [go_sem]), gb_keeps g (by simp [go_sem])⟩
  have CW : Hid (m.length = k → ∀ w, Calls Tryz.prog 43 #[.agg #[.int .u64 (hi (bnd q p)), .int .u64 (lo (bnd q p))], .agg #[.int .u64 x.2.1, .int .u64 x.2.2]] w fun e w' => (∃ z : Int, e = .returned (.int .i64 z) ∧ decide (0 < z) = decide (dN m[k - 1]! < bnd q p)) ∧ Tk.Gw w w') := fun e w => by
    refine (Tk.cmpw _ _ _ _ w).mono ?_
    rintro e' w' ⟨rfl, g⟩
    refine ⟨⟨_, rfl, ?_⟩, g⟩
    rw [(hx e).1, (hx e).2, cw_hl]
    by_cases a : bnd q p = dN m[k - 1]!
    · rw [if_pos a, decide_eq_false (by decide), decide_eq_false (by omega)]
    · rw [if_neg a]
      by_cases b : bnd q p < dN m[k - 1]!
      · rw [if_pos b, decide_eq_false (by decide), decide_eq_false (by omega)]
      · rw [if_neg b, decide_eq_true (by decide), decide_eq_true (by omega)]
  have GA : Hid (Gb W (W.alloc (.cells #[.pointer (some ⟨pb, 0, none⟩), .int .u64 (hi (bnd q p)), .int .u64 (lo (bnd q p))] 104))) := gA
  obtain ⟨xi, xh, xl⟩ := x
  dsimp only at cW CW
  generalize decide (dN m[k - 1]! < bnd q p) = r at *
  generalize hi (bnd q p) = bh at *
  generalize lo (bnd q p) = bl at *
  clear h hA hform hk1 WR hbe gA hx hm
  go_enter Tryz.func45, Tryz.ntmps45
  go_wp2_with fail
  go_fit cW
  rintro e w1 ⟨⟨b, rfl⟩, g1⟩
  have g2 : Gb (W.alloc (.cells #[.pointer (some ⟨pb, 0, none⟩), .int .u64 bh, .int .u64 bl] 104)) (w1.alloc (.cells #[.int .i64 xi, .int .u64 xh, .int .u64 xl] 60)) := gb_alloc g1 _
  obtain ⟨cF, d1, d2, d3⟩ := cFl.out _ g2
  have G2 : Hid (Gb W (w1.alloc (.cells #[.int .i64 xi, .int .u64 xh, .int .u64 xl] 60))) := gb_trans GA.out g2
  have C3 : Hid (∀ w3, Tk.Gw (w1.alloc (.cells #[.int .i64 xi, .int .u64 xh, .int .u64 xl] 60)) w3 → w3.cell? ⟨W.heap.size, 1, none⟩ = some (.int .u64 bh) ∧ w3.cell? ⟨W.heap.size, 2, none⟩ = some (.int .u64 bl) ∧ w3.cell? ⟨w1.heap.size, 1, none⟩ = some (.int .u64 xh) ∧ w3.cell? ⟨w1.heap.size, 2, none⟩ = some (.int .u64 xl)) := fun w3 g => ⟨gb_keeps g.gr d2, gb_keeps g.gr d3, gb_keeps g.gr (by simp [go_sem]), gb_keeps g.gr (by simp [go_sem])⟩
  clear cW g1 g2 GA cFl d2 d3 c1
  go_wp2_with fail
  go_fit cF
  rintro e w3 ⟨rfl, g3⟩
  obtain ⟨e0, e1, e2, e3⟩ := C3.out _ g3
  have G3 : Hid (Gb W w3) := gb_trans G2.out g3.gr
  clear cF C3 g3 G2 d1
  by_cases hk : m.length = k
  · rw [decide_eq_true hk]
    have cC := CW.out hk
    have HK : Hid (decide (m.length = k) = true) := decide_eq_true hk
    clear CW hk
    go_wp2_with fail
    go_fit (cC w3)
    rintro e w4 ⟨⟨z, rfl, hz⟩, g4⟩
    have G4 : Hid (Gb W w4) := gb_trans G3.out g4.gr
    have HZ : Hid (decide (0 < z) = r) := hz
    clear cC g4 G3 hz
    go_wp2
    go_ret
    exact ⟨by rw [← HZ.out, HK.out]; simp, G4.out⟩
  · rw [decide_eq_false hk]
    have HK : Hid (decide (m.length = k) = false) := decide_eq_false hk
    clear CW hk
    go_wp2
    go_ret
    exact ⟨by rw [HK.out]; simp, G3.out⟩
end Go.Proofs.YtepjbdklljlecabGreat
