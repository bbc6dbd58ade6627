import Derived.Test.YteaeaoekaoedoaaGreatTkMeth
/- The heap in memory; what its method Push does. -/
namespace Go.Proofs.YteaeaoekaoedoaaGreat.Tk
open Go.RowKit Go.Sort
attribute [local go_sem ↓] Go.wp_at_zero Go.wp_at_succ

/-- The heap in memory: its size, its hits. -/
structure Hp (w : World) (hb : Nat) (k : Int) (v : Value) (d : Array Ht) : Prop where
  blk : w.heap[hb]? = some (.cells #[.int .i64 k, v] 113 (0, 0))
  own : Own w v d
  ne : v.ownBlock ≠ some hb
theorem Hp.cell0 {w : World} {hb : Nat} {k : Int} {v : Value} {d : Array Ht} (h : Hp w hb k v d) : w.cell? ⟨hb, 0, none⟩ = some (.int .i64 k) := by simp [World.cell?, h.blk]
theorem Hp.cell1 {w : World} {hb : Nat} {k : Int} {v : Value} {d : Array Ht} (h : Hp w hb k v d) : w.cell? ⟨hb, 1, none⟩ = some v := by simp [World.cell?, h.blk]
theorem Hp.froz {w : World} {hb : Nat} {k : Int} {v : Value} {d : Array Ht} (h : Hp w hb k v d) (o : Nat) : w.frozen? ⟨hb, o, none⟩ = false := by simp [World.frozen?, h.blk]
theorem Hp.lt {w : World} {hb : Nat} {k : Int} {v : Value} {d : Array Ht} (h : Hp w hb k v d) : hb < w.heap.size := (Array.getElem?_eq_some_iff.1 h.blk).1
theorem Hp.gr {w w' : World} {hb : Nat} {k : Int} {v : Value} {d : Array Ht} (h : Hp w hb k v d) (g : Gr w w') : Hp w' hb k v d := ⟨by rw [g.block hb h.lt]; exact h.blk, own_gr h.own g, h.ne⟩

theorem lt2 {w : World} {b : Nat} {A B : Obj} (h : b < w.heap.size) : b < ((w.alloc A).drew.alloc B).heap.size := by simp; omega
theorem froz2 {w : World} {b o : Nat} {A B : Obj} (h : w.frozen? ⟨b, o, none⟩ = false) (hb : b < w.heap.size) : ((w.alloc A).drew.alloc B).frozen? ⟨b, o, none⟩ = false := by
  rw [World.frozen?_of_block (w := w) (a := ⟨b, o, none⟩)]
  · exact h
  · show (((w.alloc A).drew).alloc B).heap[b]? = _
    rw [Below.heap_alloc _ _ _ (by simp; omega)]
    exact Below.heap_alloc _ _ _ hb
theorem push_fin {w w1 : World} {A B : Obj} {hb : Nat} {k : Int} {v : Value} {d : Array Ht} {x : Ht} {g cap : Nat} (h : Hp w hb k v d)
    (hown : w1.ownsRow 0 57 3 (.slice (some ⟨g, 0, none⟩) (d.size + 1) cap) (d.size + 1) (fl d.toList ++ enc x)) (hg : ((w.alloc A).drew.alloc B).grownBy w1 v.ownBlock) (hat : v.ownBlock = some g ∨ g = w.heap.size + 2) :
    Hp (w1.setCell ⟨hb, 1, none⟩ (.slice (some ⟨g, 0, none⟩) (d.size + 1) cap)) hb k (.slice (some ⟨g, 0, none⟩) (d.size + 1) cap) (d.push x) ∧ Kp (fun b => b = hb ∨ some b = v.ownBlock) w (w1.setCell ⟨hb, 1, none⟩ (.slice (some ⟨g, 0, none⟩) (d.size + 1) cap)) ∧ (v.ownBlock = some g ∨ w.heap.size ≤ g) := by
  have hlt := h.lt
  have hgn : g ≠ hb := by
    rcases hat with e | e
    · intro e2; exact h.ne (by rw [e, e2])
    · omega
  have hw1 : w1.heap[hb]? = some (.cells #[.int .i64 k, v] 113 (0, 0)) := by
    rw [hg.block hb (lt2 hlt) (Ne.symm h.ne)]
    show (((w.alloc A).drew).alloc B).heap[hb]? = _
    rw [Below.heap_alloc _ _ _ (by simp; omega)]
    exact (Below.heap_alloc _ _ _ hlt).trans h.blk
  have K0 : Kp (fun b => b = hb ∨ some b = v.ownBlock) w w1 := by
    refine Kp.trans (b := (w.alloc A).drew.alloc B) (Kp.of_gr ?_) ((Kp.grown hg).mono fun _ _ hs => .inr hs)
    exact Below.alloc (Below.drew (Below.alloc (Below.refl _ _) (Nat.le_refl _) _)) (by simp) _
  refine ⟨⟨?_, ?_, ?_⟩, K0.setCell (.inl (.inl rfl)) _, ?_⟩
  · simp [World.setCell, Array.getElem?_modify, hw1]
  · have : Own w1 (.slice (some ⟨g, 0, none⟩) (d.size + 1) cap) (d.push x) := by
      unfold Own
      rw [Array.size_push, Array.toList_push, fl_app, fl_one]
      exact hown
    exact own_kept this (Below.heap_setCell _ _ _ _ hgn)
  · simp [Value.ownBlock, hgn]
  · rcases hat with e | e
    · exact .inl e
    · exact .inr (by omega)
set_option maxHeartbeats 2000000 in
theorem push75 {w : World} {hb : Nat} {k : Int} {v : Value} {d : Array Ht} (h : Hp w hb k v d) (hn : d.size ≤ 4000) (x : Ht) :
    Calls Tryz.prog 155 #[.pointer (some ⟨hb, 1, none⟩), .iface 57 (hv x)] w fun e w' => e = .returned (.tuple #[]) ∧
      ∃ g cap, Hp w' hb k (.slice (some ⟨g, 0, none⟩) (d.size + 1) cap) (d.push x) ∧ Kp (fun b => b = hb ∨ some b = v.ownBlock) w w' ∧ (v.ownBlock = some g ∨ w.heap.size ≤ g) := by
  have hta : ∀ w, (Instr.typeAssert (.iface 57 (hv x)) 20 57 true).run Tryz.prog w = .ok (.tuple #[hv x, .bool true]) w := fun w => by kernel_rfl
  obtain ⟨i0, z0, hi0, hz0, hz1, hz2, hz3⟩ := info57
  have h1 : d.size + 1 ≤ maxLen := by simp only [maxLen]; omega
  have c1 : (w.alloc (.cells #[.int .i64 x.id, .int .u64 x.hi, .int .u64 x.lo] 57)).cell? ⟨hb, 1, none⟩ = some v := alloc_keeps h.cell1 _
  have c2 := alloc_keeps c1 (.cells #[.int .i64 x.id, .int .u64 x.hi, .int .u64 x.lo] 57)
  have H : Hid (Hp w hb k v d) := h
  clear h
  go_enter Tryz.func155, Tryz.ntmps155
  go_wp2
  go_region_law (refine step_append_lies _ rfl (.tmp 15) (.tmp 17) 111 rfl 0 57 i0 z0 3 24 Tryz.underlying111 hi0 hz0 hz1 hz2 hz3 (by omega) v d.size (fl d.toList) (by simp [Act.eval]) (by first | exact (H.out.own.alloc _).alloc _ | exact (World.ownsRow.alloc (w := World.drew _) (H.out.own.alloc _) _)) ⟨w.heap.size + 1, 0, none⟩ 1 1 (enc x) (by simp [Act.eval]) rfl (by intro j u hu; rw [Addr.add_lit]; rcases j with _ | _ | _ | j <;> simp [enc] at hu <;> subst hu <;> simp [go_sem]) (enc_one x) (by omega) h1 (by omega) (Nat.zero_le _) (w.heap.size + 2) (by simp) ?_; intro g cap w1 hown hgrow hat hlt; have cc := hgrow.cell (a := ⟨hb, 1, none⟩) (v := v) (alloc_keeps (alloc_keeps H.out.cell1 _) _) (Ne.symm H.out.ne); have ff := (hgrow.frozen_far ⟨hb, 1, none⟩ (lt2 H.out.lt) (Ne.symm H.out.ne)).trans (froz2 (H.out.froz 1) H.out.lt))
  all_goals
    go_end0
    exact ⟨rfl, g, cap, push_fin H.out hown hgrow hat⟩
end Go.Proofs.YteaeaoekaoedoaaGreat.Tk

/- Which function a method of container/heap's interface is, at the program's own heap. -/
namespace Go.Proofs.YteaeaoekaoedoaaGreat.Tk
open Go.RowKit Go.Sort

theorem load53 (hb : Nat) (v : Value) (W : World) (hc : W.cell? ⟨hb, 1, none⟩ = some v) : (loadVar 111 ⟨hb, 1, none⟩).run Tryz.prog W = .ok v W := by
  simp [loadVar, go_sem, hc]
theorem wrapchk (a : Addr) (nm : String) (W : World) : (Builtin.ssaWrapNilChk_ #[115] 115 #[.pointer (some a), strVal "", strVal nm]).run Tryz.prog W = .ok (.pointer (some a)) W := rfl
theorem recv_any (nm : String) (hb : Nat) (v : Value) (W : World) (hc : W.cell? ⟨hb, 1, none⟩ = some v) :
    (receiverAt 115 (.val (.pointer (some ⟨hb, 1, none⟩))) false (some nm)).run Tryz.prog W = .ok v W := by
  have hl := load53 hb v W hc
  have hu := run_underlying Tryz.underlying115 W
  have hw := wrapchk ⟨hb, 1, none⟩ nm W
  unfold receiverAt
  simp only [Sem.run_bind, hu, Result.andThen_ok, Place.get, Sem.run_pure, hw, asAddr, hl]
theorem inv_any (name : String) (f : Nat) (hm : (Tryz.prog.info? 115).map (fun i => (i.methods.find? (·.name == name)).map fun m => (m.path, m.func)) = some (some (#[], some (f, false))))
    (hb : Nat) (v : Value) (W : World) (hc : W.cell? ⟨hb, 1, none⟩ = some v) :
    (method 290 115 (.pointer (some ⟨hb, 1, none⟩)) name).run Tryz.prog W = .ok (f, v) W := by
  obtain ⟨i, hi⟩ := Option.isSome_iff_exists.1 (show (Tryz.prog.info? 115).isSome = true by kernel_rfl)
  rw [hi] at hm
  simp only [Option.map_some, Option.some.injEq] at hm
  cases hf : i.methods.find? (·.name == name) with
  | none => rw [hf] at hm; cases hm
  | some m =>
    rw [hf] at hm
    simp only [Option.map_some, Option.some.injEq, Prod.mk.injEq] at hm
    obtain ⟨h1, h2⟩ := hm
    have hr := fun nm => recv_any nm hb v W hc
    have ht : (typeInfo 115).run Tryz.prog W = .ok i W := by simp [typeInfo, hi]
    rw [method]
    simp only [Sem.run_bind, ht, Result.andThen_ok, hf, h1, h2, follow, Sem.run_pure]
    simp [hr]
theorem inv_less (hb : Nat) (v : Value) (W : World) (hc : W.cell? ⟨hb, 1, none⟩ = some v) :
    (method 290 115 (.pointer (some ⟨hb, 1, none⟩)) "Less").run Tryz.prog W = .ok (153, v) W := inv_any "Less" 153 (by kernel_rfl) hb v W hc
theorem inv_swap (hb : Nat) (v : Value) (W : World) (hc : W.cell? ⟨hb, 1, none⟩ = some v) :
    (method 290 115 (.pointer (some ⟨hb, 1, none⟩)) "Swap").run Tryz.prog W = .ok (154, v) W := inv_any "Swap" 154 (by kernel_rfl) hb v W hc
theorem inv_len (hb : Nat) (v : Value) (W : World) (hc : W.cell? ⟨hb, 1, none⟩ = some v) :
    (method 290 115 (.pointer (some ⟨hb, 1, none⟩)) "Len").run Tryz.prog W = .ok (152, v) W := inv_any "Len" 152 (by kernel_rfl) hb v W hc
theorem inv_push (hb : Nat) (W : World) :
    (method 290 115 (.pointer (some ⟨hb, 1, none⟩)) "Push").run Tryz.prog W = .ok (155, .pointer (some ⟨hb, 1, none⟩)) W := by kernel_rfl
end Go.Proofs.YteaeaoekaoedoaaGreat.Tk
