import Derived.Test.YtbnljabeccebiaaGreatKr5
/- The four methods that container/heap calls. -/
namespace Go.Proofs.YtbnljabeccebiaaGreat.Tk
open Go.RowKit Go.Sort
attribute [local go_sem ↓] Go.wp_at_zero Go.wp_at_succ

theorem len72 (a : Option Addr) (n cap : Nat) (w : World) : Calls Tryz.prog 231 #[.slice a n cap] w fun e w' => e = .returned (.int .i64 (n : Nat)) ∧ w' = w := by
  go_enter Tryz.func231, Tryz.ntmps231
  go_wp2
  go_ret
  exact ⟨rfl, rfl⟩

set_option maxHeartbeats 2000000 in
theorem less73_c (g n cap i j : Nat) (hi : i < n) (hj : j < n) (x y : Ht) (w : World)
    (hx : w.cell? ⟨g, i * 3, none⟩ = some (.int .i64 x.id) ∧ w.cell? ⟨g, i * 3 + 1, none⟩ = some (.int .u64 x.hi) ∧ w.cell? ⟨g, i * 3 + 2, none⟩ = some (.int .u64 x.lo))
    (hy : w.cell? ⟨g, j * 3, none⟩ = some (.int .i64 y.id) ∧ w.cell? ⟨g, j * 3 + 1, none⟩ = some (.int .u64 y.hi) ∧ w.cell? ⟨g, j * 3 + 2, none⟩ = some (.int .u64 y.lo)) :
    Calls Tryz.prog 232 #[.slice (some ⟨g, 0, none⟩) n cap, .int .i64 i, .int .i64 j] w fun e w' => e = .returned (.bool (hlt y x)) ∧ Gw w w' := by
  obtain ⟨x0, x1, x2⟩ := hx
  obtain ⟨y0, y1, y2⟩ := hy
  have i0 : (0 : Int) ≤ (i : Int) := by omega
  have i1 : (i : Int) < (n : Int) := by omega
  have j0 : (0 : Int) ≤ (j : Int) := by omega
  have j1 : (j : Int) < (n : Int) := by omega
  have C : Gw w w := Gw.refl _
  go_enter Tryz.func232, Tryz.ntmps232
  go_wp2
  go_region_held3 (fun w' => Gw w w' ∧ w'.cell? ⟨g, i * 3, none⟩ = some (.int .i64 x.id) ∧ w'.cell? ⟨g, i * 3 + 1, none⟩ = some (.int .u64 x.hi) ∧ w'.cell? ⟨g, i * 3 + 2, none⟩ = some (.int .u64 x.lo) ∧ w'.cell? ⟨g, j * 3, none⟩ = some (.int .i64 y.id) ∧ w'.cell? ⟨g, j * 3 + 1, none⟩ = some (.int .u64 y.hi) ∧ w'.cell? ⟨g, j * 3 + 2, none⟩ = some (.int .u64 y.lo)) (first | (with_reducible exact six_call (by assumption) (by assumption)) | (with_reducible assumption) | exact ⟨C.drew, x0, x1, x2, y0, y1, y2⟩) (first | (go_at_call 118; refine (less_c y x _).mono ?_; rintro e w' ⟨rfl, hg⟩))
  all_goals
    go_wp2
    go_ret
    exact ⟨rfl, And.left (by assumption)⟩
theorem less73 {w : World} {g cap : Nat} {d : Array Ht} (h : Own w (.slice (some ⟨g, 0, none⟩) d.size cap) d) {i j : Nat} (hi : i < d.size) (hj : j < d.size) :
    Calls Tryz.prog 232 #[.slice (some ⟨g, 0, none⟩) d.size cap, .int .i64 i, .int .i64 j] w fun e w' => e = .returned (.bool (hlt d[j]! d[i]!)) ∧ Gw w w' :=
  less73_c g d.size cap i j hi hj _ _ w (own_cell h hi) (own_cell h hj)

theorem set_drew (w : World) (a : Addr) (v : Value) : (w.setCell a v).drew = w.drew.setCell a v := rfl
theorem drew_one (w : World) : w.drew = w.drewN 1 := rfl
set_option maxHeartbeats 2000000 in
theorem swap74_c (g n cap i j : Nat) (hi : i < n) (hj : j < n) (hne : i ≠ j) (x y : Ht) (w : World) (hf : ∀ o, w.frozen? ⟨g, o, none⟩ = false)
    (hx : w.cell? ⟨g, i * 3, none⟩ = some (.int .i64 x.id) ∧ w.cell? ⟨g, i * 3 + 1, none⟩ = some (.int .u64 x.hi) ∧ w.cell? ⟨g, i * 3 + 2, none⟩ = some (.int .u64 x.lo))
    (hy : w.cell? ⟨g, j * 3, none⟩ = some (.int .i64 y.id) ∧ w.cell? ⟨g, j * 3 + 1, none⟩ = some (.int .u64 y.hi) ∧ w.cell? ⟨g, j * 3 + 2, none⟩ = some (.int .u64 y.lo)) :
    Calls Tryz.prog 233 #[.slice (some ⟨g, 0, none⟩) n cap, .int .i64 i, .int .i64 j] w fun e w' => e = .returned (.tuple #[]) ∧ ∃ q, w' = ((w.drewN q).setCells g (i * 3) (enc y)).setCells g (j * 3) (enc x) := by
  obtain ⟨x0, x1, x2⟩ := hx
  obtain ⟨y0, y1, y2⟩ := hy
  have i0 : (0 : Int) ≤ (i : Int) := by omega
  have i1 : (i : Int) < (n : Int) := by omega
  have j0 : (0 : Int) ≤ (j : Int) := by omega
  have j1 : (j : Int) < (n : Int) := by omega
  have f0 := hf (i * 3); have f1 := hf (i * 3 + 1); have f2 := hf (i * 3 + 2)
  have k0 := hf (j * 3); have k1 := hf (j * 3 + 1); have k2 := hf (j * 3 + 2)
  clear hf
  go_enter Tryz.func233, Tryz.ntmps233
  go_wp2
  go_region
  go_end0
  refine ⟨rfl, 1, ?_⟩
  rw [← drew_one]
  simp only [enc, World.setCells, set_drew, Nat.add_assoc]
theorem swap74 {w : World} {g cap : Nat} {d : Array Ht} (h : Own w (.slice (some ⟨g, 0, none⟩) d.size cap) d) {i j : Nat} (hi : i < d.size) (hj : j < d.size) (hne : i ≠ j) :
    Calls Tryz.prog 233 #[.slice (some ⟨g, 0, none⟩) d.size cap, .int .i64 i, .int .i64 j] w fun e w' => e = .returned (.tuple #[]) ∧ Own w' (.slice (some ⟨g, 0, none⟩) d.size cap) (swp d i j) ∧ Kp (fun k => k = g) w w' := by
  refine (swap74_c g d.size cap i j hi hj hne d[i]! d[j]! w (own_froz h) (own_cell h hi) (own_cell h hj)).mono ?_
  rintro e w' ⟨rfl, q, rfl⟩
  have hw := swap_worldK enc 3 enc_len w 0 q g 0 d i j hi hj
  rw [Nat.zero_add, Nat.zero_add, Nat.zero_add, ahead_zero, putRowK_self enc 3 w g 0 d (own_holds h)] at hw
  rw [hw]
  exact ⟨rfl, own_put h q _ (size_swp d i j), Kp.put w _⟩

theorem info68 : ∃ i z, Tryz.prog.info? 68 = some i ∧ i.zero = some z ∧ i.size = 3 ∧ i.bytes = 24 ∧ z.cells.size = 3 := by
  obtain ⟨i, hi⟩ := Option.isSome_iff_exists.1 (show (Tryz.prog.info? 68).isSome = true by kernel_rfl)
  refine ⟨i, .agg #[.int .i64 0, .int .u64 0, .int .u64 0], hi, ?_, ?_, ?_, rfl⟩
  · have h : (Tryz.prog.info? 68).map (·.zero) = some (some (.agg #[.int .i64 0, .int .u64 0, .int .u64 0])) := by kernel_rfl
    rw [hi] at h; simpa using h
  · have h : (Tryz.prog.info? 68).map (·.size) = some 3 := by kernel_rfl
    rw [hi] at h; simpa using h
  · have h : (Tryz.prog.info? 68).map (·.bytes) = some 24 := by kernel_rfl
    rw [hi] at h; simpa using h

end Go.Proofs.YtbnljabeccebiaaGreat.Tk

/- The heap in memory; what its method Push does. -/
namespace Go.Proofs.YtbnljabeccebiaaGreat.Tk
open Go.RowKit Go.Sort
attribute [local go_sem ↓] Go.wp_at_zero Go.wp_at_succ

/-- The heap in memory: its size, its hits. -/
structure Hp (w : World) (hb : Nat) (k : Int) (v : Value) (d : Array Ht) : Prop where
  blk : w.heap[hb]? = some (.cells #[.int .i64 k, v] 111 (0, 0))
  own : Own w v d
  ne : v.ownBlock ≠ some hb
theorem Hp.cell0 {w : World} {hb : Nat} {k : Int} {v : Value} {d : Array Ht} (h : Hp w hb k v d) : w.cell? ⟨hb, 0, none⟩ = some (.int .i64 k) := by simp [World.cell?, h.blk]
theorem Hp.cell1 {w : World} {hb : Nat} {k : Int} {v : Value} {d : Array Ht} (h : Hp w hb k v d) : w.cell? ⟨hb, 1, none⟩ = some v := by simp [World.cell?, h.blk]
theorem Hp.froz {w : World} {hb : Nat} {k : Int} {v : Value} {d : Array Ht} (h : Hp w hb k v d) (o : Nat) : w.frozen? ⟨hb, o, none⟩ = false := by simp [World.frozen?, h.blk]
theorem Hp.lt {w : World} {hb : Nat} {k : Int} {v : Value} {d : Array Ht} (h : Hp w hb k v d) : hb < w.heap.size := (Array.getElem?_eq_some_iff.1 h.blk).1
theorem Hp.gr {w w' : World} {hb : Nat} {k : Int} {v : Value} {d : Array Ht} (h : Hp w hb k v d) (g : Gr w w') : Hp w' hb k v d := ⟨by rw [g.block hb h.lt]; exact h.blk, own_gr h.own g, h.ne⟩

theorem lt2 {w : World} {b : Nat} {A B : Obj} (h : b < w.heap.size) : b < ((w.alloc A).drew.alloc B).heap.size := by simp; omega
theorem froz2 {w : World} {b o : Nat} {A B : Obj} (h : w.frozen? ⟨b, o, none⟩ = false) (hb : b < w.heap.size) : ((w.alloc A).drew.alloc B).frozen? ⟨b, o, none⟩ = false := by
  rw [World.frozen?_of_block (w := w) (a := ⟨b, o, none⟩)]
  · exact h
  · show (((w.alloc A).drew).alloc B).heap[b]? = _
    rw [Below.heap_alloc _ _ _ (by simp; omega)]
    exact Below.heap_alloc _ _ _ hb
theorem push_fin {w w1 : World} {A B : Obj} {hb : Nat} {k : Int} {v : Value} {d : Array Ht} {x : Ht} {g cap : Nat} (h : Hp w hb k v d)
    (hown : w1.ownsRow 0 68 3 (.slice (some ⟨g, 0, none⟩) (d.size + 1) cap) (d.size + 1) (fl d.toList ++ enc x)) (hg : ((w.alloc A).drew.alloc B).grownBy w1 v.ownBlock) (hat : v.ownBlock = some g ∨ g = w.heap.size + 2) :
    Hp (w1.setCell ⟨hb, 1, none⟩ (.slice (some ⟨g, 0, none⟩) (d.size + 1) cap)) hb k (.slice (some ⟨g, 0, none⟩) (d.size + 1) cap) (d.push x) ∧ Kp (fun b => b = hb ∨ some b = v.ownBlock) w (w1.setCell ⟨hb, 1, none⟩ (.slice (some ⟨g, 0, none⟩) (d.size + 1) cap)) ∧ (v.ownBlock = some g ∨ w.heap.size ≤ g) := by
  have hlt := h.lt
  have hgn : g ≠ hb := by
    rcases hat with e | e
    · intro e2; exact h.ne (by rw [e, e2])
    · omega
  have hw1 : w1.heap[hb]? = some (.cells #[.int .i64 k, v] 111 (0, 0)) := by
    rw [hg.block hb (lt2 hlt) (Ne.symm h.ne)]
    show (((w.alloc A).drew).alloc B).heap[hb]? = _
    rw [Below.heap_alloc _ _ _ (by simp; omega)]
    exact (Below.heap_alloc _ _ _ hlt).trans h.blk
  have K0 : Kp (fun b => b = hb ∨ some b = v.ownBlock) w w1 := by
    refine Kp.trans (b := (w.alloc A).drew.alloc B) (Kp.of_gr ?_) ((Kp.grown hg).mono fun _ _ hs => .inr hs)
    exact Below.alloc (Below.drew (Below.alloc (Below.refl _ _) (Nat.le_refl _) _)) (by simp) _
  refine ⟨⟨?_, ?_, ?_⟩, K0.setCell (.inl (.inl rfl)) _, ?_⟩
  · simp [World.setCell, Array.getElem?_modify, hw1]
  · have : Own w1 (.slice (some ⟨g, 0, none⟩) (d.size + 1) cap) (d.push x) := by
      unfold Own
      rw [Array.size_push, Array.toList_push, fl_app, fl_one]
      exact hown
    exact own_kept this (Below.heap_setCell _ _ _ _ hgn)
  · simp [Value.ownBlock, hgn]
  · rcases hat with e | e
    · exact .inl e
    · exact .inr (by omega)
set_option maxHeartbeats 2000000 in
theorem push75 {w : World} {hb : Nat} {k : Int} {v : Value} {d : Array Ht} (h : Hp w hb k v d) (hn : d.size ≤ 4000) (x : Ht) :
    Calls Tryz.prog 234 #[.pointer (some ⟨hb, 1, none⟩), .iface 68 (hv x)] w fun e w' => e = .returned (.tuple #[]) ∧
      ∃ g cap, Hp w' hb k (.slice (some ⟨g, 0, none⟩) (d.size + 1) cap) (d.push x) ∧ Kp (fun b => b = hb ∨ some b = v.ownBlock) w w' ∧ (v.ownBlock = some g ∨ w.heap.size ≤ g) := by
  have hta : ∀ w, (Instr.typeAssert (.iface 68 (hv x)) 20 68 true).run Tryz.prog w = .ok (.tuple #[hv x, .bool true]) w := fun w => by kernel_rfl
  obtain ⟨i0, z0, hi0, hz0, hz1, hz2, hz3⟩ := info68
  have h1 : d.size + 1 ≤ maxLen := by simp only [maxLen]; omega
  have c1 : (w.alloc (.cells #[.int .i64 x.id, .int .u64 x.hi, .int .u64 x.lo] 68)).cell? ⟨hb, 1, none⟩ = some v := alloc_keeps h.cell1 _
  have c2 := alloc_keeps c1 (.cells #[.int .i64 x.id, .int .u64 x.hi, .int .u64 x.lo] 68)
  have H : Hid (Hp w hb k v d) := h
  clear h
  go_enter Tryz.func234, Tryz.ntmps234
  go_wp2
  go_region_law (refine step_append_lies _ rfl (.tmp 15) (.tmp 17) 109 rfl 0 68 i0 z0 3 24 Tryz.underlying109 hi0 hz0 hz1 hz2 hz3 (by omega) v d.size (fl d.toList) (by simp [Act.eval]) (by first | exact (H.out.own.alloc _).alloc _ | exact (World.ownsRow.alloc (w := World.drew _) (H.out.own.alloc _) _)) ⟨w.heap.size + 1, 0, none⟩ 1 1 (enc x) (by simp [Act.eval]) rfl (by intro j u hu; rw [Addr.add_lit]; rcases j with _ | _ | _ | j <;> simp [enc] at hu <;> subst hu <;> simp [go_sem]) (enc_one x) (by omega) h1 (by omega) (Nat.zero_le _) (w.heap.size + 2) (by simp) ?_; intro g cap w1 hown hgrow hat hlt; have cc := hgrow.cell (a := ⟨hb, 1, none⟩) (v := v) (alloc_keeps (alloc_keeps H.out.cell1 _) _) (Ne.symm H.out.ne); have ff := (hgrow.frozen_far ⟨hb, 1, none⟩ (lt2 H.out.lt) (Ne.symm H.out.ne)).trans (froz2 (H.out.froz 1) H.out.lt))
  all_goals
    go_end0
    exact ⟨rfl, g, cap, push_fin H.out hown hgrow hat⟩
end Go.Proofs.YtbnljabeccebiaaGreat.Tk

/- Which function a method of container/heap's interface is, at the program's own heap. -/
namespace Go.Proofs.YtbnljabeccebiaaGreat.Tk
open Go.RowKit Go.Sort

theorem load53 (hb : Nat) (v : Value) (W : World) (hc : W.cell? ⟨hb, 1, none⟩ = some v) : (loadVar 109 ⟨hb, 1, none⟩).run Tryz.prog W = .ok v W := by
  simp [loadVar, go_sem, hc]
theorem wrapchk (a : Addr) (nm : String) (W : World) : (Builtin.ssaWrapNilChk_ #[167] 167 #[.pointer (some a), strVal "", strVal nm]).run Tryz.prog W = .ok (.pointer (some a)) W := rfl
theorem recv_any (nm : String) (hb : Nat) (v : Value) (W : World) (hc : W.cell? ⟨hb, 1, none⟩ = some v) :
    (receiverAt 167 (.val (.pointer (some ⟨hb, 1, none⟩))) false (some nm)).run Tryz.prog W = .ok v W := by
  have hl := load53 hb v W hc
  have hu := run_underlying Tryz.underlying167 W
  have hw := wrapchk ⟨hb, 1, none⟩ nm W
  unfold receiverAt
  simp only [Sem.run_bind, hu, Result.andThen_ok, Place.get, Sem.run_pure, hw, asAddr, hl]
theorem inv_any (name : String) (f : Nat) (hm : (Tryz.prog.info? 167).map (fun i => (i.methods.find? (·.name == name)).map fun m => (m.path, m.func)) = some (some (#[], some (f, false))))
    (hb : Nat) (v : Value) (W : World) (hc : W.cell? ⟨hb, 1, none⟩ = some v) :
    (method 366 167 (.pointer (some ⟨hb, 1, none⟩)) name).run Tryz.prog W = .ok (f, v) W := by
  obtain ⟨i, hi⟩ := Option.isSome_iff_exists.1 (show (Tryz.prog.info? 167).isSome = true by kernel_rfl)
  rw [hi] at hm
  simp only [Option.map_some, Option.some.injEq] at hm
  cases hf : i.methods.find? (·.name == name) with
  | none => rw [hf] at hm; cases hm
  | some m =>
    rw [hf] at hm
    simp only [Option.map_some, Option.some.injEq, Prod.mk.injEq] at hm
    obtain ⟨h1, h2⟩ := hm
    have hr := fun nm => recv_any nm hb v W hc
    have ht : (typeInfo 167).run Tryz.prog W = .ok i W := by simp [typeInfo, hi]
    rw [method]
    simp only [Sem.run_bind, ht, Result.andThen_ok, hf, h1, h2, follow, Sem.run_pure]
    simp [hr]
theorem inv_less (hb : Nat) (v : Value) (W : World) (hc : W.cell? ⟨hb, 1, none⟩ = some v) :
    (method 366 167 (.pointer (some ⟨hb, 1, none⟩)) "Less").run Tryz.prog W = .ok (232, v) W := inv_any "Less" 232 (by kernel_rfl) hb v W hc
theorem inv_swap (hb : Nat) (v : Value) (W : World) (hc : W.cell? ⟨hb, 1, none⟩ = some v) :
    (method 366 167 (.pointer (some ⟨hb, 1, none⟩)) "Swap").run Tryz.prog W = .ok (233, v) W := inv_any "Swap" 233 (by kernel_rfl) hb v W hc
theorem inv_len (hb : Nat) (v : Value) (W : World) (hc : W.cell? ⟨hb, 1, none⟩ = some v) :
    (method 366 167 (.pointer (some ⟨hb, 1, none⟩)) "Len").run Tryz.prog W = .ok (231, v) W := inv_any "Len" 231 (by kernel_rfl) hb v W hc
theorem inv_push (hb : Nat) (W : World) :
    (method 366 167 (.pointer (some ⟨hb, 1, none⟩)) "Push").run Tryz.prog W = .ok (234, .pointer (some ⟨hb, 1, none⟩)) W := by kernel_rfl
end Go.Proofs.YtbnljabeccebiaaGreat.Tk

/- Heaps as plain arrays: the worst stands in front. -/
namespace Go.Proofs.YtbnljabeccebiaaGreat.Tk
open Go.RowKit Go.Sort

/-- No hit is behind the one above it. -/
def MaxH (d : Array Ht) : Prop := ∀ i, 0 < i → i < d.size → hlt d[(i - 1) / 2]! d[i]! = false
/-- .. but perhaps at j, towards the front. -/
def UpInv (d : Array Ht) (j : Nat) : Prop :=
  (∀ i, 0 < i → i < d.size → i ≠ j → hlt d[(i - 1) / 2]! d[i]! = false) ∧ ∀ c, 0 < c → c < d.size → (c - 1) / 2 = j → 0 < j → hlt d[(j - 1) / 2]! d[c]! = false
/-- .. but perhaps at i, towards the end. -/
def DownInv (d : Array Ht) (i : Nat) : Prop :=
  (∀ c, 0 < c → c < d.size → (c - 1) / 2 ≠ i → hlt d[(c - 1) / 2]! d[c]! = false) ∧ ∀ c, 0 < c → c < d.size → (c - 1) / 2 = i → 0 < i → hlt d[(i - 1) / 2]! d[c]! = false

theorem swp_perm (d : Array Ht) (i j : Nat) (hi : i < d.size) (hj : j < d.size) : (swp d i j).toList.Perm d.toList := by
  have h := (swp_permIn d 0 d.size i j (Nat.zero_le _) hi (Nat.zero_le _) hj (Nat.le_refl _)).2.2
  rw [show (swp d i j).extract 0 d.size = swp d i j by rw [← size_swp d i j, Array.extract_size], Array.extract_size] at h
  exact h

theorem maxh_root {d : Array Ht} (h : MaxH d) : ∀ i, i < d.size → hlt d[0]! d[i]! = false := by
  intro i
  induction i using Nat.strongRecOn with
  | _ i ih =>
    intro hi
    by_cases h0 : i = 0
    · subst h0; exact hlt_irrefl _
    · exact hlt_ntrans (ih ((i - 1) / 2) (by omega) (by omega)) (h i (by omega) hi)

theorem up_zero {d : Array Ht} (h : UpInv d 0) : MaxH d := fun i h0 h1 => h.1 i h0 h1 (by omega)
theorem up_stop {d : Array Ht} {j : Nat} (h : UpInv d j) (hn : 0 < j → hlt d[(j - 1) / 2]! d[j]! = false) : MaxH d := by
  intro i h0 h1
  by_cases e : i = j
  · subst e; exact hn h0
  · exact h.1 i h0 h1 e
theorem up_step {d : Array Ht} {j : Nat} (h : UpInv d j) (h0 : 0 < j) (hj : j < d.size) (hl : hlt d[(j - 1) / 2]! d[j]! = true) : UpInv (swp d ((j - 1) / 2) j) ((j - 1) / 2) := by
  have hi : (j - 1) / 2 < d.size := by omega
  have g := swp_get d hi hj
  constructor
  · intro c c0 c1 c2
    rw [size_swp] at c1
    rw [g, g]
    by_cases e1 : c = j
    · subst e1
      rw [if_neg (by omega), if_pos rfl, if_pos rfl]
      exact hlt_asymm hl
    · rw [if_neg e1, if_neg c2]
      by_cases e2 : (c - 1) / 2 = j
      · rw [if_pos e2]
        exact h.2 c c0 c1 e2 h0
      · rw [if_neg e2]
        by_cases e3 : (c - 1) / 2 = (j - 1) / 2
        · rw [if_pos e3]
          have := h.1 c c0 c1 e1
          rw [e3] at this
          exact hlt_ntrans (hlt_asymm hl) this
        · rw [if_neg e3]
          exact h.1 c c0 c1 e1
  · intro c c0 c1 c2 c3
    rw [size_swp] at c1
    rw [g, g, if_neg (by omega), if_neg (by omega)]
    by_cases e1 : c = j
    · subst e1
      rw [if_pos rfl]
      exact h.1 _ c3 hi (by omega)
    · rw [if_neg e1, if_neg (by omega)]
      have a := h.1 c c0 c1 e1
      rw [c2] at a
      exact hlt_ntrans (h.1 _ c3 hi (by omega)) a
theorem up_push {d : Array Ht} (h : MaxH d) (x : Ht) : UpInv (d.push x) d.size := by
  constructor
  · intro i h0 h1 h2
    rw [Array.size_push] at h1
    have := h i h0 (by omega)
    rw [getElem!_pos d _ (show (i - 1) / 2 < d.size by omega), getElem!_pos d _ (show i < d.size by omega)] at this
    rw [getElem!_pos (d.push x) _ (show (i - 1) / 2 < (d.push x).size by rw [Array.size_push]; omega), getElem!_pos (d.push x) _ (show i < (d.push x).size by rw [Array.size_push]; omega), Array.getElem_push_lt (by omega), Array.getElem_push_lt (by omega)]
    exact this
  · intro c h0 h1 h2 _
    rw [Array.size_push] at h1; omega

theorem down_stop0 {d : Array Ht} {i : Nat} (h : DownInv d i) (hn : d.size ≤ 2 * i + 1) : MaxH d := fun c c0 c1 => h.1 c c0 c1 (by omega)
/-- j is a child of i that no other child of i is ahead of. -/
def Child (d : Array Ht) (i j : Nat) : Prop := 0 < j ∧ j < d.size ∧ (j - 1) / 2 = i ∧ ∀ c, 0 < c → c < d.size → (c - 1) / 2 = i → hlt d[j]! d[c]! = false
theorem down_stop1 {d : Array Ht} {i j : Nat} (h : DownInv d i) (hc : Child d i j) (hn : hlt d[i]! d[j]! = false) : MaxH d := by
  intro c c0 c1
  by_cases e : (c - 1) / 2 = i
  · rw [e]; exact hlt_ntrans hn (hc.2.2.2 c c0 c1 e)
  · exact h.1 c c0 c1 e
theorem down_step {d : Array Ht} {i j : Nat} (h : DownInv d i) (hc : Child d i j) (hl : hlt d[i]! d[j]! = true) : DownInv (swp d i j) j := by
  obtain ⟨j0, j1, j2, j3⟩ := hc
  have hi : i < d.size := by omega
  have g := swp_get d hi j1
  constructor
  · intro c c0 c1 c2
    rw [size_swp] at c1
    rw [g, g, if_neg c2]
    by_cases e1 : (c - 1) / 2 = i
    · rw [if_pos e1]
      by_cases e2 : c = j
      · rw [if_pos e2]; exact hlt_asymm hl
      · rw [if_neg e2, if_neg (by omega)]
        exact j3 c c0 c1 e1
    · rw [if_neg e1]
      by_cases e2 : c = j
      · subst e2; omega
      · rw [if_neg e2]
        by_cases e3 : c = i
        · subst e3
          rw [if_pos rfl]
          exact h.2 j j0 j1 j2 c0
        · rw [if_neg e3]; exact h.1 c c0 c1 e1
  · intro c c0 c1 c2 _
    rw [size_swp] at c1
    rw [g, g, if_neg (by omega), if_pos j2, if_neg (by omega), if_neg (by omega)]
    have := h.1 c c0 c1 (by omega)
    rw [c2] at this
    exact this
theorem child_one {d : Array Ht} {i : Nat} (h1 : 2 * i + 1 < d.size) (h2 : d.size ≤ 2 * i + 2) : Child d i (2 * i + 1) :=
  ⟨by omega, h1, by omega, fun c _ c1 c2 => by obtain rfl : c = 2 * i + 1 := by omega
                                               exact hlt_irrefl _⟩
theorem child_l {d : Array Ht} {i : Nat} (h2 : 2 * i + 2 < d.size) (hl : hlt d[2 * i + 1]! d[2 * i + 2]! = false) : Child d i (2 * i + 1) :=
  ⟨by omega, by omega, by omega, fun c _ c1 c2 => by
    have : c = 2 * i + 1 ∨ c = 2 * i + 2 := by omega
    rcases this with rfl | rfl
    · exact hlt_irrefl _
    · exact hl⟩
theorem child_r {d : Array Ht} {i : Nat} (h2 : 2 * i + 2 < d.size) (hl : hlt d[2 * i + 1]! d[2 * i + 2]! = true) : Child d i (2 * i + 2) :=
  ⟨by omega, by omega, by omega, fun c _ c1 c2 => by
    have : c = 2 * i + 1 ∨ c = 2 * i + 2 := by omega
    rcases this with rfl | rfl
    · exact hlt_asymm hl
    · exact hlt_irrefl _⟩
theorem down_set {d : Array Ht} (h : MaxH d) (x : Ht) : DownInv (d.setIfInBounds 0 x) 0 := by
  constructor
  · intro c c0 c1 c2
    rw [Array.size_setIfInBounds] at c1
    rw [getElem!_set_other d 0 _ x c2, getElem!_set_other d 0 _ x (by omega)]
    exact h c c0 c1
  · intro c _ _ _ h0; exact absurd h0 (Nat.lt_irrefl _)
end Go.Proofs.YtbnljabeccebiaaGreat.Tk

/- container/heap's up. -/
namespace Go.Proofs.YtbnljabeccebiaaGreat.Tk
open Go.RowKit Go.Sort
attribute [local go_sem ↓] Go.wp_at_zero Go.wp_at_succ

theorem Hp.kp {S : Nat → Prop} {w w' : World} {hb : Nat} {k : Int} {v : Value} {d : Array Ht} (h : Hp w hb k v d) (K : Kp S w w') (h1 : ¬ S hb) (h2 : ∀ g, v.ownBlock = some g → ¬ S g) : Hp w' hb k v d :=
  ⟨by rw [K.block hb h.lt h1]; exact h.blk, own_kp h.own K h2, h.ne⟩
theorem less73n {w : World} {g n cap : Nat} {d : Array Ht} (h : Own w (.slice (some ⟨g, 0, none⟩) n cap) d) (hs : d.size = n) {i j : Nat} (hi : i < n) (hj : j < n) :
    Calls Tryz.prog 232 #[.slice (some ⟨g, 0, none⟩) n cap, .int .i64 i, .int .i64 j] w fun e w' => e = .returned (.bool (hlt d[j]! d[i]!)) ∧ Gw w w' := by
  subst hs; exact less73 h hi hj
/-- The heap behind Swap. -/
theorem swap74n {w : World} {hb g n cap : Nat} {k : Int} {d : Array Ht} (h : Hp w hb k (.slice (some ⟨g, 0, none⟩) n cap) d) (hs : d.size = n) {i j : Nat} (hi : i < n) (hj : j < n) (hne : i ≠ j) :
    Calls Tryz.prog 233 #[.slice (some ⟨g, 0, none⟩) n cap, .int .i64 i, .int .i64 j] w fun e w' => e = .returned (.tuple #[]) ∧ Hp w' hb k (.slice (some ⟨g, 0, none⟩) n cap) (swp d i j) ∧ Kp (fun k => k = g) w w' := by
  subst hs
  refine (swap74 h.own hi hj hne).mono ?_
  rintro e w' ⟨rfl, ho, hk⟩
  refine ⟨rfl, ⟨?_, ho, h.ne⟩, hk⟩
  rw [hk.block hb h.lt (by have := h.ne; simp [Value.ownBlock] at this; omega)]
  exact h.blk

/-- What up and down leave: the same hits, a heap. -/
def Fixed (w w' : World) (hb g n cap : Nat) (k : Int) (d : Array Ht) : Prop :=
  ∃ d', d'.toList.Perm d.toList ∧ MaxH d' ∧ Hp w' hb k (.slice (some ⟨g, 0, none⟩) n cap) d' ∧ Kp (fun b => b = g) w w'

set_option maxHeartbeats 2000000 in
set_option maxRecDepth 100000 in
theorem up_c {w : World} {hb g n cap : Nat} {k : Int} {d : Array Ht} (h : Hp w hb k (.slice (some ⟨g, 0, none⟩) n cap) d) (hs : d.size = n) (hn : n ≤ 4000) (j : Nat) (hj : j < n) (hu : UpInv d j) :
    Calls Tryz.prog 164 #[.iface 167 (.pointer (some ⟨hb, 1, none⟩)), .int .i64 j] w fun e w' => e = .returned (.tuple #[]) ∧ Fixed w w' hb g n cap k d := by
  have H : Hid (Hp w hb k (.slice (some ⟨g, 0, none⟩) n cap) d ∧ UpInv d j ∧ d.size = n) := ⟨h, hu, hs⟩
  clear h hu hs
  go_enter Tryz.func164, Tryz.ntmps164
  go_wp2
  go_loopw [1] (fun iv w' => ∃ (q : Nat) (d' : Array Ht), iv = .int .i64 (q : Int) ∧ q < n ∧ Hid (d'.toList.Perm d.toList ∧ UpInv d' q ∧ Hp w' hb k (.slice (some ⟨g, 0, none⟩) n cap) d' ∧ Kp (fun b => b = g) w w')) (fun iv _ => (intOf iv).toNat)
  case atStart => exact ⟨j, d, rfl, hj, List.Perm.refl _, H.out.2.1, H.out.1, Kp.refl _ _⟩
  case round =>
    clear hj
    obtain ⟨q, d', rfl, hq, X⟩ := hrel
    have hcell : wr.cell? ⟨hb, 1, none⟩ = some (.slice (some ⟨g, 0, none⟩) n cap) := X.out.2.2.1.cell1
    have hs' : Hid (d'.size = n) := by have := X.out.1.length_eq; have := H.out.2.2; simp at *; unfold Hid; omega
    by_cases h0 : q = 0
    · subst h0
      go_wp2
      go_end0
      exact ⟨rfl, d', X.out.1, up_zero X.out.2.1, X.out.2.2.1, X.out.2.2.2⟩
    · have hq0 : (0 : Int) ≤ (q : Int) - 1 := by omega
      obtain ⟨p, hp⟩ : ∃ p : Nat, p = (q - 1) / 2 := ⟨_, rfl⟩
      have hp1 : ((q : Int) - 1) / 2 = (p : Int) := by omega
      have hpq : p ≠ q := by omega
      have hpn : p < n := by omega
      have P : Hid (p = (q - 1) / 2) := hp
      clear hp
      have hm := inv_less hb _ wr hcell
      have hl := less73n X.out.2.2.1.own hs'.out hq hpn
      obtain ⟨t, ht⟩ : ∃ t, t = hlt d'[p]! d'[q]! := ⟨_, rfl⟩
      rw [← ht] at hl
      have T : Hid (t = hlt d'[p]! d'[q]!) := ht
      clear ht
      cases t with
      | false =>
        go_wp2_with fail
        refine hl.mono ?_
        rintro e w1 ⟨rfl, g1⟩
        go_wp2
        go_end0
        have p1 := P.out
        refine ⟨rfl, d', X.out.1, up_stop X.out.2.1 (fun _ => by rw [← p1]; exact T.out.symm), X.out.2.2.1.gr g1.gr, X.out.2.2.2.trans (Kp.of_gr g1.gr)⟩
      | true =>
        go_wp2_with fail
        refine hl.mono ?_
        rintro e w1 ⟨rfl, g1⟩
        have H1 := X.out.2.2.1.gr g1.gr
        have hm1 := inv_swap hb _ w1 H1.cell1
        have hsw := swap74n H1 hs'.out hpn hq hpq
        have XX : Hid (Hp w1 hb k (.slice (some ⟨g, 0, none⟩) n cap) d') := H1
        clear H1 hm hl
        go_wp2_with fail
        refine hsw.mono ?_
        rintro e w2 ⟨rfl, h2, k2⟩
        have h2' : Hid (Hp w2 hb k (.slice (some ⟨g, 0, none⟩) n cap) (swp d' p q)) := h2
        clear h2 hsw hm1
        go_wp2
        go_roundw
        case rel =>
          have p1 := P.out
          have sz := hs'.out
          subst p1
          refine ⟨_, swp d' ((q - 1) / 2) q, rfl, hpn, ?_, ?_, h2'.out, (X.out.2.2.2.trans (Kp.of_gr g1.gr)).trans k2⟩
          · exact (swp_perm d' _ _ (by omega) (by omega)).trans X.out.1
          · exact up_step X.out.2.1 (by omega) (by omega) T.out.symm
        case measure => have := P.out; simp [intOf]; omega
end Go.Proofs.YtbnljabeccebiaaGreat.Tk
