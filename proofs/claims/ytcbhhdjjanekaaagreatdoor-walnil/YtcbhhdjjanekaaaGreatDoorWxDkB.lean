/- disk, plainly: names, changes of names, files; a map of names in memory. -/
import Derived.Test.YtcbhhdjjanekaaaGreatDoorWxDkA
import Derived.Test.YtcbhhdjjanekaaaGreatDoorWxCoT
import Derived.Test.YtcbhhdjjanekaaaGreatDoorWxMs
namespace Go.Proofs.YtcbhhdjjanekaaaGreatDoor
open Go.RowKit Go.Lib Go.Maps

abbrev By := List UInt8
abbrev Nms := List (By × Int)
/-- Names without one; with one; the number under a name. -/
def del (l : Nms) (x : By) : Nms := l.filter fun p => decide (p.1 ≠ x)
def ins (l : Nms) (x : By) (n : Int) : Nms := (x, n) :: del l x
def kys (l : Nms) : List By := l.map Prod.fst
def num (l : Nms) (x : By) : Int := match l.find? fun p => decide (p.1 = x) with | some p => p.2 | none => 0
theorem kys_del (l : Nms) (x : By) : kys (del l x) = (kys l).filter fun y => decide (y ≠ x) := by
  unfold kys del; rw [List.filter_map]; rfl
theorem mem_del {l : Nms} {x : By} {p : By × Int} : p ∈ del l x ↔ p ∈ l ∧ p.1 ≠ x := by simp [del]
theorem mem_kys_del {l : Nms} {x y : By} : y ∈ kys (del l x) ↔ y ∈ kys l ∧ y ≠ x := by rw [kys_del]; simp
theorem mem_kys_ins {l : Nms} {x y : By} {n : Int} : y ∈ kys (ins l x n) ↔ y = x ∨ y ∈ kys l := by
  have e : kys (ins l x n) = x :: kys (del l x) := rfl
  rw [e, List.mem_cons, mem_kys_del]
  by_cases h : y = x <;> simp [h]
theorem nodup_del {l : Nms} (h : (kys l).Nodup) (x : By) : (kys (del l x)).Nodup := by rw [kys_del]; exact h.sublist List.filter_sublist
theorem nodup_ins {l : Nms} (h : (kys l).Nodup) (x : By) (n : Int) : (kys (ins l x n)).Nodup :=
  List.nodup_cons.2 ⟨fun h' => (mem_kys_del.1 h').2 rfl, nodup_del h x⟩
theorem num_mem {l : Nms} (h : (kys l).Nodup) {p : By × Int} (hp : p ∈ l) : num l p.1 = p.2 := by
  induction l with
  | nil => simp at hp
  | cons a r ih =>
    have hn := List.nodup_cons.1 h
    rcases List.mem_cons.1 hp with rfl | hp
    · simp [num]
    · have : a.1 ≠ p.1 := fun e => hn.1 (by rw [e]; exact List.mem_map_of_mem hp)
      have := ih hn.2 hp
      unfold num at this ⊢
      rw [List.find?_cons, decide_eq_false ‹a.1 ≠ p.1›]
      exact this
theorem mem_num {l : Nms} {x : By} (hx : x ∈ kys l) : (x, num l x) ∈ l := by
  induction l with
  | nil => simp [kys] at hx
  | cons a r ih =>
    by_cases e : a.1 = x
    · subst e; simp [num]
    · have hx' : x ∈ kys r := by
        rcases List.mem_cons.1 hx with h | h
        · exact absurd h.symm e
        · exact h
      have : num (a :: r) x = num r x := by unfold num; rw [List.find?_cons, decide_eq_false e]
      rw [this]
      exact List.mem_cons_of_mem _ (ih hx')
theorem num_none {l : Nms} {x : By} (hx : x ∉ kys l) : num l x = 0 := by
  unfold num
  have : l.find? (fun p => decide (p.1 = x)) = none := by
    rw [List.find?_eq_none]
    intro p hp
    simp only [decide_eq_true_eq]
    exact fun e => hx (by rw [← e]; exact List.mem_map_of_mem hp)
  rw [this]
theorem num_del {l : Nms} (h : (kys l).Nodup) {x y : By} (hy : y ≠ x) : num (del l x) y = num l y := by
  by_cases hm : y ∈ kys l
  · have := num_mem (nodup_del h x) (p := (y, num l y)) (mem_del.2 ⟨mem_num hm, hy⟩)
    exact this
  · rw [num_none hm, num_none (fun h' => hm (mem_kys_del.1 h').1)]
theorem num_ins {l : Nms} (h : (kys l).Nodup) (x y : By) (n : Int) : num (ins l x n) y = if y = x then n else num l y := by
  by_cases e : y = x
  · subst e; rw [if_pos rfl]; simp [num, ins]
  · rw [if_neg e, ← num_del h e]
    unfold num ins
    rw [List.find?_cons, decide_eq_false (fun h => e h.symm)]
theorem kys_length (l : Nms) : (kys l).length = l.length := List.length_map _
theorem del_length (l : Nms) (x : By) : (del l x).length ≤ l.length := List.length_filter_le _ _
theorem ins_length (l : Nms) (x : By) (n : Int) : (ins l x n).length ≤ l.length + 1 := Nat.succ_le_succ (del_length l x)

/-- Block b is a map of these names. -/
def NmAt (w : World) (b : Nat) (l : Nms) : Prop := MapS Tryz.prog 9 w b (kys l) fun x => .int .i64 (num l x)
theorem NmAt.nodup {w : World} {b : Nat} {l : Nms} (h : NmAt w b l) : (kys l).Nodup := by obtain ⟨D, _, h, _⟩ := h; exact h
theorem NmAt.kwf {w : World} {b : Nat} {l : Nms} (h : NmAt w b l) : ∀ x ∈ kys l, KWfS x := by obtain ⟨D, _, _, h, _⟩ := h; exact h
theorem NmAt.same {w w' : World} {b : Nat} {l : Nms} (h : NmAt w b l) (hb : w'.heap[b]? = w.heap[b]?) : NmAt w' b l := MapS.same h hb
theorem NmAt.lt {w : World} {b : Nat} {l : Nms} (h : NmAt w b l) : b < w.heap.size := MapS.lt h
theorem NmAt.made (w : World) : NmAt (w.alloc (.map #[] 0)) w.heap.size [] := MapS.new _ _
theorem zero3 (w : World) : (zeroValue 3).run Tryz.prog w = .ok (.int .i64 0) w := by kernel_rfl
theorem NmAt.look_ok {w : World} {b : Nat} {l : Nms} (h : NmAt w b l) {x : By} (hx : KWfS x) :
    (Instr.lookup 64 (.map (some b)) (.string (sb x)) true).run Tryz.prog w = .ok (.tuple #[.int .i64 (num l x), .bool (decide (x ∈ kys l))]) w := by
  rw [MapS.look_ok h Tryz.underlying9 Tryz.underlying64 (zero3 w) hx]
  by_cases hm : x ∈ kys l
  · rw [if_pos hm]
  · rw [if_neg hm, num_none hm]
theorem NmAt.look {w : World} {b : Nat} {l : Nms} (h : NmAt w b l) {x : By} (hx : KWfS x) :
    (Instr.lookup 64 (.map (some b)) (.string (sb x)) false).run Tryz.prog w = .ok (.int .i64 (num l x)) w := by
  rw [MapS.look h Tryz.underlying9 Tryz.underlying64 (zero3 w) hx]
  by_cases hm : x ∈ kys l
  · rw [if_pos hm]
  · rw [if_neg hm, num_none hm]
theorem NmAt.len {w : World} {b : Nat} {l : Nms} (h : NmAt w b l) (ty : TypeId) : (Builtin.len_ #[64] ty #[.map (some b)]).run Tryz.prog w = .ok (.int .i64 (l.length : Int)) w := by
  rw [MapS.len h Tryz.underlying64, kys_length]
theorem NmAt.put {w : World} {b : Nat} {l : Nms} (h : NmAt w b l) (hn : l.length < 1000000) {x : By} (hx : KWfS x) (n : Int) :
    ∃ w', (Instr.mapUpdate 64 (.map (some b)) (.string (sb x)) (.int .i64 n)).run Tryz.prog w = .ok () w' ∧ NmAt w' b (ins l x n) ∧ w.mapTurned w' b := by
  obtain ⟨w', hr, hm, ht⟩ := MapS.put h Tryz.underlying9 Tryz.underlying64 (by rw [kys_length]; exact hn) hx (.int .i64 n)
  refine ⟨w', hr, ?_, ht⟩
  have hnd := h.nodup
  have hp : (kys (ins l x n)).Perm (putKS (kys l) x) := by
    have hk : (putKS (kys l) x).Nodup := by obtain ⟨D, _, h', _⟩ := hm; exact h'
    have hi := nodup_ins hnd x n
    have hm : ∀ y, y ∈ kys (ins l x n) ↔ y ∈ putKS (kys l) x := fun y => mem_kys_ins.trans mem_putKS.symm
    generalize kys (ins l x n) = A at *
    exact (List.perm_ext_iff_of_nodup hi hk).2 hm
  refine (MapS.perm hm hp).ext fun y _ => ?_
  rw [num_ins hnd]
  unfold putFS
  by_cases e : y = x
  · rw [if_pos e, if_pos e]
  · rw [if_neg e, if_neg e]
theorem NmAt.delete {w : World} {b : Nat} {l : Nms} (h : NmAt w b l) {x : By} (hx : KWfS x) (ty : TypeId) :
    ∃ w', (Builtin.delete_ #[64, 9] ty #[.map (some b), .string (sb x)]).run Tryz.prog w = .ok (.tuple #[]) w' ∧ NmAt w' b (del l x) ∧ w.mapTurned w' b := by
  obtain ⟨w', hr, hm, ht⟩ := MapS.del h Tryz.underlying9 Tryz.underlying64 hx ty
  refine ⟨w', hr, ?_, ht⟩
  have hnd := h.nodup
  have e : kys (del l x) = (kys l).erase x := by
    rw [kys_del, hnd.erase_eq_filter]
    exact List.filter_congr fun y _ => by by_cases h : y = x <;> simp [h]
  unfold NmAt
  rw [e]
  refine hm.ext fun y hy => ?_
  rw [num_del hnd (fun h' => by subst h'; exact hnd.not_mem_erase hy)]

/-- Only blocks of F have turned, among the old ones. -/
structure Kf (F : Nat → Prop) (w w' : World) : Prop where
  os : w'.os = w.os
  tape : w'.tape = w.tape
  output : w'.output = w.output
  size : w.heap.size ≤ w'.heap.size
  block : ∀ k, k < w.heap.size → ¬ F k → w'.heap[k]? = w.heap[k]?
variable {F G : Nat → Prop} {a w w' : World}
theorem Kf.refl (F : Nat → Prop) (w : World) : Kf F w w := ⟨rfl, rfl, rfl, Nat.le_refl _, fun _ _ _ => rfl⟩
theorem Kf.then (h : Kf F a w) (k : Kf G w w') (hG : ∀ k, k < a.heap.size → G k → F k) : Kf F a w' :=
  ⟨k.os.trans h.os, k.tape.trans h.tape, k.output.trans h.output, Nat.le_trans h.size k.size, fun i hi hF => (k.block i (Nat.lt_of_lt_of_le hi h.size) (fun g => hF (hG i hi g))).trans (h.block i hi hF)⟩
theorem Kf.trans (h : Kf F a w) (k : Kf F w w') : Kf F a w' := h.then k fun _ _ h => h
theorem Kf.gb (h : Gb w w') (F : Nat → Prop) : Kf F w w' := ⟨h.os, h.tape, h.output, h.size, fun k hk _ => h.block k hk⟩
theorem Kf.grown {row : Option Nat} (h : w.grownBy w' row) (hr : ∀ k, row = some k → F k) : Kf F w w' := ⟨h.os, h.tape, h.output, h.size, fun k hk hF => h.block k hk fun e => hF (hr k e.symm)⟩
theorem Kf.turned {b : Nat} (h : w.mapTurned w' b) (hb : F b) : Kf F w w' := Kf.grown h.grown fun k e => by cases e; exact hb
theorem Kf.alloc (h : Kf F a w) (o : Obj) : Kf F a (w.alloc o) := h.then (Kf.gb (gb_alloc (Below.refl _ _) o) fun _ => False) fun _ _ h => h.elim
theorem Kf.set (h : Kf F a w) {p : Addr} (hp : p.block < a.heap.size → F p.block) (u : Value) : Kf F a (w.setCell p u) :=
  ⟨h.os, h.tape, h.output, by rw [World.size_setCell]; exact h.size, fun k hk hF => by
    rw [Below.heap_setCell _ _ _ _ (fun e => hF (by subst e; exact hp hk))]; exact h.block k hk hF⟩
theorem Kf.toGb (h : Kf F w w') (hF : ∀ k, F k → w.heap.size ≤ k) : Gb w w' := ⟨h.os, h.tape, h.output, h.size, fun k hk => h.block k hk fun f => by have := hF k f; omega⟩
/-- The blocks of F, and what has come since. -/
def Nw (F : Nat → Prop) (w w' : World) : Nat → Prop := fun k => F k ∨ w.heap.size ≤ k ∧ k < w'.heap.size
theorem row_same {base : Nat} {e : TypeId} {m n : Nat} {v : Value} {xs : List Value} (h : w.ownsRow base e m v n xs) (hk : ∀ k, v.ownBlock = some k → w'.heap[k]? = w.heap[k]?) : w'.ownsRow base e m v n xs := by
  refine ⟨h.1, ?_⟩
  rcases h.2 with h1 | ⟨g, cap, cur, rfl, h1, h2, r⟩
  · exact .inl h1
  · exact .inr ⟨g, cap, cur, rfl, h1, (hk g rfl).trans h2, r⟩
end Go.Proofs.YtcbhhdjjanekaaaGreatDoor
