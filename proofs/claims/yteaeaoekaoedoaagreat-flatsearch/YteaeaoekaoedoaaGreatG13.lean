import Derived.Test.YteaeaoekaoedoaaGreatTkRow
/- The four methods that container/heap calls. -/
namespace Go.Proofs.YteaeaoekaoedoaaGreat.Tk
open Go.RowKit Go.Sort
attribute [local go_sem ↓] Go.wp_at_zero Go.wp_at_succ

theorem len72 (a : Option Addr) (n cap : Nat) (w : World) : Calls Tryz.prog 152 #[.slice a n cap] w fun e w' => e = .returned (.int .i64 (n : Nat)) ∧ w' = w := by
  go_enter Tryz.func152, Tryz.ntmps152
  go_wp2
  go_ret
  exact ⟨rfl, rfl⟩

set_option maxHeartbeats 2000000 in
theorem less73_c (g n cap i j : Nat) (hi : i < n) (hj : j < n) (x y : Ht) (w : World)
    (hx : w.cell? ⟨g, i * 3, none⟩ = some (.int .i64 x.id) ∧ w.cell? ⟨g, i * 3 + 1, none⟩ = some (.int .u64 x.hi) ∧ w.cell? ⟨g, i * 3 + 2, none⟩ = some (.int .u64 x.lo))
    (hy : w.cell? ⟨g, j * 3, none⟩ = some (.int .i64 y.id) ∧ w.cell? ⟨g, j * 3 + 1, none⟩ = some (.int .u64 y.hi) ∧ w.cell? ⟨g, j * 3 + 2, none⟩ = some (.int .u64 y.lo)) :
    Calls Tryz.prog 153 #[.slice (some ⟨g, 0, none⟩) n cap, .int .i64 i, .int .i64 j] w fun e w' => e = .returned (.bool (hlt y x)) ∧ Gw w w' := by
  obtain ⟨x0, x1, x2⟩ := hx
  obtain ⟨y0, y1, y2⟩ := hy
  have i0 : (0 : Int) ≤ (i : Int) := by omega
  have i1 : (i : Int) < (n : Int) := by omega
  have j0 : (0 : Int) ≤ (j : Int) := by omega
  have j1 : (j : Int) < (n : Int) := by omega
  have C : Gw w w := Gw.refl _
  go_enter Tryz.func153, Tryz.ntmps153
  go_wp2
  go_region_held3 (fun w' => Gw w w' ∧ w'.cell? ⟨g, i * 3, none⟩ = some (.int .i64 x.id) ∧ w'.cell? ⟨g, i * 3 + 1, none⟩ = some (.int .u64 x.hi) ∧ w'.cell? ⟨g, i * 3 + 2, none⟩ = some (.int .u64 x.lo) ∧ w'.cell? ⟨g, j * 3, none⟩ = some (.int .i64 y.id) ∧ w'.cell? ⟨g, j * 3 + 1, none⟩ = some (.int .u64 y.hi) ∧ w'.cell? ⟨g, j * 3 + 2, none⟩ = some (.int .u64 y.lo)) (first | (with_reducible exact six_call (by assumption) (by assumption)) | (with_reducible assumption) | exact ⟨C.drew, x0, x1, x2, y0, y1, y2⟩) (first | (go_at_call 63; refine (less_c y x _).mono ?_; rintro e w' ⟨rfl, hg⟩))
  all_goals
    go_wp2
    go_ret
    exact ⟨rfl, And.left (by assumption)⟩
theorem less73 {w : World} {g cap : Nat} {d : Array Ht} (h : Own w (.slice (some ⟨g, 0, none⟩) d.size cap) d) {i j : Nat} (hi : i < d.size) (hj : j < d.size) :
    Calls Tryz.prog 153 #[.slice (some ⟨g, 0, none⟩) d.size cap, .int .i64 i, .int .i64 j] w fun e w' => e = .returned (.bool (hlt d[j]! d[i]!)) ∧ Gw w w' :=
  less73_c g d.size cap i j hi hj _ _ w (own_cell h hi) (own_cell h hj)

theorem set_drew (w : World) (a : Addr) (v : Value) : (w.setCell a v).drew = w.drew.setCell a v := rfl
theorem drew_one (w : World) : w.drew = w.drewN 1 := rfl
set_option maxHeartbeats 2000000 in
theorem swap74_c (g n cap i j : Nat) (hi : i < n) (hj : j < n) (hne : i ≠ j) (x y : Ht) (w : World) (hf : ∀ o, w.frozen? ⟨g, o, none⟩ = false)
    (hx : w.cell? ⟨g, i * 3, none⟩ = some (.int .i64 x.id) ∧ w.cell? ⟨g, i * 3 + 1, none⟩ = some (.int .u64 x.hi) ∧ w.cell? ⟨g, i * 3 + 2, none⟩ = some (.int .u64 x.lo))
    (hy : w.cell? ⟨g, j * 3, none⟩ = some (.int .i64 y.id) ∧ w.cell? ⟨g, j * 3 + 1, none⟩ = some (.int .u64 y.hi) ∧ w.cell? ⟨g, j * 3 + 2, none⟩ = some (.int .u64 y.lo)) :
    Calls Tryz.prog 154 #[.slice (some ⟨g, 0, none⟩) n cap, .int .i64 i, .int .i64 j] w fun e w' => e = .returned (.tuple #[]) ∧ ∃ q, w' = ((w.drewN q).setCells g (i * 3) (enc y)).setCells g (j * 3) (enc x) := by
  obtain ⟨x0, x1, x2⟩ := hx
  obtain ⟨y0, y1, y2⟩ := hy
  have i0 : (0 : Int) ≤ (i : Int) := by omega
  have i1 : (i : Int) < (n : Int) := by omega
  have j0 : (0 : Int) ≤ (j : Int) := by omega
  have j1 : (j : Int) < (n : Int) := by omega
  have f0 := hf (i * 3); have f1 := hf (i * 3 + 1); have f2 := hf (i * 3 + 2)
  have k0 := hf (j * 3); have k1 := hf (j * 3 + 1); have k2 := hf (j * 3 + 2)
  clear hf
  go_enter Tryz.func154, Tryz.ntmps154
  go_wp2
  go_region
  go_end0
  refine ⟨rfl, 1, ?_⟩
  rw [← drew_one]
  simp only [enc, World.setCells, set_drew, Nat.add_assoc]
theorem swap74 {w : World} {g cap : Nat} {d : Array Ht} (h : Own w (.slice (some ⟨g, 0, none⟩) d.size cap) d) {i j : Nat} (hi : i < d.size) (hj : j < d.size) (hne : i ≠ j) :
    Calls Tryz.prog 154 #[.slice (some ⟨g, 0, none⟩) d.size cap, .int .i64 i, .int .i64 j] w fun e w' => e = .returned (.tuple #[]) ∧ Own w' (.slice (some ⟨g, 0, none⟩) d.size cap) (swp d i j) ∧ Kp (fun k => k = g) w w' := by
  refine (swap74_c g d.size cap i j hi hj hne d[i]! d[j]! w (own_froz h) (own_cell h hi) (own_cell h hj)).mono ?_
  rintro e w' ⟨rfl, q, rfl⟩
  have hw := swap_worldK enc 3 enc_len w 0 q g 0 d i j hi hj
  rw [Nat.zero_add, Nat.zero_add, Nat.zero_add, ahead_zero, putRowK_self enc 3 w g 0 d (own_holds h)] at hw
  rw [hw]
  exact ⟨rfl, own_put h q _ (size_swp d i j), Kp.put w _⟩

theorem info57 : ∃ i z, Tryz.prog.info? 57 = some i ∧ i.zero = some z ∧ i.size = 3 ∧ i.bytes = 24 ∧ z.cells.size = 3 := by
  obtain ⟨i, hi⟩ := Option.isSome_iff_exists.1 (show (Tryz.prog.info? 57).isSome = true by kernel_rfl)
  refine ⟨i, .agg #[.int .i64 0, .int .u64 0, .int .u64 0], hi, ?_, ?_, ?_, rfl⟩
  · have h : (Tryz.prog.info? 57).map (·.zero) = some (some (.agg #[.int .i64 0, .int .u64 0, .int .u64 0])) := by kernel_rfl
    rw [hi] at h; simpa using h
  · have h : (Tryz.prog.info? 57).map (·.size) = some 3 := by kernel_rfl
    rw [hi] at h; simpa using h
  · have h : (Tryz.prog.info? 57).map (·.bytes) = some 24 := by kernel_rfl
    rw [hi] at h; simpa using h

end Go.Proofs.YteaeaoekaoedoaaGreat.Tk

/- The heap in memory; what its method Push does. -/
namespace Go.Proofs.YteaeaoekaoedoaaGreat.Tk
open Go.RowKit Go.Sort
attribute [local go_sem ↓] Go.wp_at_zero Go.wp_at_succ

/-- The heap in memory: its size, its hits. -/
structure Hp (w : World) (hb : Nat) (k : Int) (v : Value) (d : Array Ht) : Prop where
  blk : w.heap[hb]? = some (.cells #[.int .i64 k, v] 113 (0, 0))
  own : Own w v d
  ne : v.ownBlock ≠ some hb
theorem Hp.cell0 {w : World} {hb : Nat} {k : Int} {v : Value} {d : Array Ht} (h : Hp w hb k v d) : w.cell? ⟨hb, 0, none⟩ = some (.int .i64 k) := by simp [World.cell?, h.blk]
theorem Hp.cell1 {w : World} {hb : Nat} {k : Int} {v : Value} {d : Array Ht} (h : Hp w hb k v d) : w.cell? ⟨hb, 1, none⟩ = some v := by simp [World.cell?, h.blk]
theorem Hp.froz {w : World} {hb : Nat} {k : Int} {v : Value} {d : Array Ht} (h : Hp w hb k v d) (o : Nat) : w.frozen? ⟨hb, o, none⟩ = false := by simp [World.frozen?, h.blk]
theorem Hp.lt {w : World} {hb : Nat} {k : Int} {v : Value} {d : Array Ht} (h : Hp w hb k v d) : hb < w.heap.size := (Array.getElem?_eq_some_iff.1 h.blk).1
theorem Hp.gr {w w' : World} {hb : Nat} {k : Int} {v : Value} {d : Array Ht} (h : Hp w hb k v d) (g : Gr w w') : Hp w' hb k v d := ⟨by rw [g.block hb h.lt]; exact h.blk, own_gr h.own g, h.ne⟩

theorem lt2 {w : World} {b : Nat} {A B : Obj} (h : b < w.heap.size) : b < ((w.alloc A).drew.alloc B).heap.size := by simp; omega
theorem froz2 {w : World} {b o : Nat} {A B : Obj} (h : w.frozen? ⟨b, o, none⟩ = false) (hb : b < w.heap.size) : ((w.alloc A).drew.alloc B).frozen? ⟨b, o, none⟩ = false := by
  rw [World.frozen?_of_block (w := w) (a := ⟨b, o, none⟩)]
  · exact h
  · show (((w.alloc A).drew).alloc B).heap[b]? = _
    rw [Below.heap_alloc _ _ _ (by simp; omega)]
    exact Below.heap_alloc _ _ _ hb
theorem push_fin {w w1 : World} {A B : Obj} {hb : Nat} {k : Int} {v : Value} {d : Array Ht} {x : Ht} {g cap : Nat} (h : Hp w hb k v d)
    (hown : w1.ownsRow 0 57 3 (.slice (some ⟨g, 0, none⟩) (d.size + 1) cap) (d.size + 1) (fl d.toList ++ enc x)) (hg : ((w.alloc A).drew.alloc B).grownBy w1 v.ownBlock) (hat : v.ownBlock = some g ∨ g = w.heap.size + 2) :
    Hp (w1.setCell ⟨hb, 1, none⟩ (.slice (some ⟨g, 0, none⟩) (d.size + 1) cap)) hb k (.slice (some ⟨g, 0, none⟩) (d.size + 1) cap) (d.push x) ∧ Kp (fun b => b = hb ∨ some b = v.ownBlock) w (w1.setCell ⟨hb, 1, none⟩ (.slice (some ⟨g, 0, none⟩) (d.size + 1) cap)) ∧ (v.ownBlock = some g ∨ w.heap.size ≤ g) := by
  have hlt := h.lt
  have hgn : g ≠ hb := by
    rcases hat with e | e
    · intro e2; exact h.ne (by rw [e, e2])
    · omega
  have hw1 : w1.heap[hb]? = some (.cells #[.int .i64 k, v] 113 (0, 0)) := by
    rw [hg.block hb (lt2 hlt) (Ne.symm h.ne)]
    show (((w.alloc A).drew).alloc B).heap[hb]? = _
    rw [Below.heap_alloc _ _ _ (by simp; omega)]
    exact (Below.heap_alloc _ _ _ hlt).trans h.blk
  have K0 : Kp (fun b => b = hb ∨ some b = v.ownBlock) w w1 := by
    refine Kp.trans (b := (w.alloc A).drew.alloc B) (Kp.of_gr ?_) ((Kp.grown hg).mono fun _ _ hs => .inr hs)
    exact Below.alloc (Below.drew (Below.alloc (Below.refl _ _) (Nat.le_refl _) _)) (by simp) _
  refine ⟨⟨?_, ?_, ?_⟩, K0.setCell (.inl (.inl rfl)) _, ?_⟩
  · simp [World.setCell, Array.getElem?_modify, hw1]
  · have : Own w1 (.slice (some ⟨g, 0, none⟩) (d.size + 1) cap) (d.push x) := by
      unfold Own
      rw [Array.size_push, Array.toList_push, fl_app, fl_one]
      exact hown
    exact own_kept this (Below.heap_setCell _ _ _ _ hgn)
  · simp [Value.ownBlock, hgn]
  · rcases hat with e | e
    · exact .inl e
    · exact .inr (by omega)
set_option maxHeartbeats 2000000 in
theorem push75 {w : World} {hb : Nat} {k : Int} {v : Value} {d : Array Ht} (h : Hp w hb k v d) (hn : d.size ≤ 4000) (x : Ht) :
    Calls Tryz.prog 155 #[.pointer (some ⟨hb, 1, none⟩), .iface 57 (hv x)] w fun e w' => e = .returned (.tuple #[]) ∧
      ∃ g cap, Hp w' hb k (.slice (some ⟨g, 0, none⟩) (d.size + 1) cap) (d.push x) ∧ Kp (fun b => b = hb ∨ some b = v.ownBlock) w w' ∧ (v.ownBlock = some g ∨ w.heap.size ≤ g) := by
  have hta : ∀ w, (Instr.typeAssert (.iface 57 (hv x)) 20 57 true).run Tryz.prog w = .ok (.tuple #[hv x, .bool true]) w := fun w => by kernel_rfl
  obtain ⟨i0, z0, hi0, hz0, hz1, hz2, hz3⟩ := info57
  have h1 : d.size + 1 ≤ maxLen := by simp only [maxLen]; omega
  have c1 : (w.alloc (.cells #[.int .i64 x.id, .int .u64 x.hi, .int .u64 x.lo] 57)).cell? ⟨hb, 1, none⟩ = some v := alloc_keeps h.cell1 _
  have c2 := alloc_keeps c1 (.cells #[.int .i64 x.id, .int .u64 x.hi, .int .u64 x.lo] 57)
  have H : Hid (Hp w hb k v d) := h
  clear h
  go_enter Tryz.func155, Tryz.ntmps155
  go_wp2
  go_region_law (refine step_append_lies _ rfl (.tmp 15) (.tmp 17) 111 rfl 0 57 i0 z0 3 24 Tryz.underlying111 hi0 hz0 hz1 hz2 hz3 (by omega) v d.size (fl d.toList) (by simp [Act.eval]) (by first | exact (H.out.own.alloc _).alloc _ | exact (World.ownsRow.alloc (w := World.drew _) (H.out.own.alloc _) _)) ⟨w.heap.size + 1, 0, none⟩ 1 1 (enc x) (by simp [Act.eval]) rfl (by intro j u hu; rw [Addr.add_lit]; rcases j with _ | _ | _ | j <;> simp [enc] at hu <;> subst hu <;> simp [go_sem]) (enc_one x) (by omega) h1 (by omega) (Nat.zero_le _) (w.heap.size + 2) (by simp) ?_; intro g cap w1 hown hgrow hat hlt; have cc := hgrow.cell (a := ⟨hb, 1, none⟩) (v := v) (alloc_keeps (alloc_keeps H.out.cell1 _) _) (Ne.symm H.out.ne); have ff := (hgrow.frozen_far ⟨hb, 1, none⟩ (lt2 H.out.lt) (Ne.symm H.out.ne)).trans (froz2 (H.out.froz 1) H.out.lt))
  all_goals
    go_end0
    exact ⟨rfl, g, cap, push_fin H.out hown hgrow hat⟩
end Go.Proofs.YteaeaoekaoedoaaGreat.Tk

/- Which function a method of container/heap's interface is, at the program's own heap. -/
namespace Go.Proofs.YteaeaoekaoedoaaGreat.Tk
open Go.RowKit Go.Sort

theorem load53 (hb : Nat) (v : Value) (W : World) (hc : W.cell? ⟨hb, 1, none⟩ = some v) : (loadVar 111 ⟨hb, 1, none⟩).run Tryz.prog W = .ok v W := by
  simp [loadVar, go_sem, hc]
theorem wrapchk (a : Addr) (nm : String) (W : World) : (Builtin.ssaWrapNilChk_ #[115] 115 #[.pointer (some a), strVal "", strVal nm]).run Tryz.prog W = .ok (.pointer (some a)) W := rfl
theorem recv_any (nm : String) (hb : Nat) (v : Value) (W : World) (hc : W.cell? ⟨hb, 1, none⟩ = some v) :
    (receiverAt 115 (.val (.pointer (some ⟨hb, 1, none⟩))) false (some nm)).run Tryz.prog W = .ok v W := by
  have hl := load53 hb v W hc
  have hu := run_underlying Tryz.underlying115 W
  have hw := wrapchk ⟨hb, 1, none⟩ nm W
  unfold receiverAt
  simp only [Sem.run_bind, hu, Result.andThen_ok, Place.get, Sem.run_pure, hw, asAddr, hl]
theorem inv_any (name : String) (f : Nat) (hm : (Tryz.prog.info? 115).map (fun i => (i.methods.find? (·.name == name)).map fun m => (m.path, m.func)) = some (some (#[], some (f, false))))
    (hb : Nat) (v : Value) (W : World) (hc : W.cell? ⟨hb, 1, none⟩ = some v) :
    (method 290 115 (.pointer (some ⟨hb, 1, none⟩)) name).run Tryz.prog W = .ok (f, v) W := by
  obtain ⟨i, hi⟩ := Option.isSome_iff_exists.1 (show (Tryz.prog.info? 115).isSome = true by kernel_rfl)
  rw [hi] at hm
  simp only [Option.map_some, Option.some.injEq] at hm
  cases hf : i.methods.find? (·.name == name) with
  | none => rw [hf] at hm; cases hm
  | some m =>
    rw [hf] at hm
    simp only [Option.map_some, Option.some.injEq, Prod.mk.injEq] at hm
    obtain ⟨h1, h2⟩ := hm
    have hr := fun nm => recv_any nm hb v W hc
    have ht : (typeInfo 115).run Tryz.prog W = .ok i W := by simp [typeInfo, hi]
    rw [method]
    simp only [Sem.run_bind, ht, Result.andThen_ok, hf, h1, h2, follow, Sem.run_pure]
    simp [hr]
theorem inv_less (hb : Nat) (v : Value) (W : World) (hc : W.cell? ⟨hb, 1, none⟩ = some v) :
    (method 290 115 (.pointer (some ⟨hb, 1, none⟩)) "Less").run Tryz.prog W = .ok (153, v) W := inv_any "Less" 153 (by kernel_rfl) hb v W hc
theorem inv_swap (hb : Nat) (v : Value) (W : World) (hc : W.cell? ⟨hb, 1, none⟩ = some v) :
    (method 290 115 (.pointer (some ⟨hb, 1, none⟩)) "Swap").run Tryz.prog W = .ok (154, v) W := inv_any "Swap" 154 (by kernel_rfl) hb v W hc
theorem inv_len (hb : Nat) (v : Value) (W : World) (hc : W.cell? ⟨hb, 1, none⟩ = some v) :
    (method 290 115 (.pointer (some ⟨hb, 1, none⟩)) "Len").run Tryz.prog W = .ok (152, v) W := inv_any "Len" 152 (by kernel_rfl) hb v W hc
theorem inv_push (hb : Nat) (W : World) :
    (method 290 115 (.pointer (some ⟨hb, 1, none⟩)) "Push").run Tryz.prog W = .ok (155, .pointer (some ⟨hb, 1, none⟩)) W := by kernel_rfl
end Go.Proofs.YteaeaoekaoedoaaGreat.Tk
