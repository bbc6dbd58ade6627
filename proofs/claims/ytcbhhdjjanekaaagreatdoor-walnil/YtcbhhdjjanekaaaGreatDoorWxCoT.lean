/- The closures of taker. -/
import Derived.Test.YtcbhhdjjanekaaaGreatDoorWx5
import Derived.Laws.CopyOwn
import Derived.Laws.OwnMore
import Derived.Deep.OwnRows
namespace Go.Proofs.YtcbhhdjjanekaaaGreatDoor
open Go.RowKit Go.Lib

/-- The first n bytes, noughts for those that are missing. -/
def tk (n : Nat) (l : List UInt8) : List UInt8 := l.take n ++ List.replicate (n - l.length) 0
theorem tk_length (n : Nat) (l : List UInt8) : (tk n l).length = n := by simp [tk]; omega
theorem made5 (n : Nat) : (madeCells #[Value.int .u8 0] n).toList = List.replicate n (bv 0) := by rw [toList_madeCells_one]; rfl
theorem copy_in {w : World} {a : Option Addr} {cap : Nat} {l : List UInt8} (h : RdB w (.slice a l.length cap) l) (n : Nat) (hn : n ≤ 4611686018427387904) (ty : TypeId) :
    ∃ V : World, (Builtin.copy_ #[59, 59] ty #[.slice (some ⟨w.heap.size, 0, none⟩) n n, .slice a l.length cap]).run Tryz.prog (w.alloc (.cells (madeCells #[Value.int .u8 0] n) 5)) = .ok (goInt (Nat.min l.length n)) V ∧
      V.heap[w.heap.size]? = some (.cells ((tk n l).map bv).toArray 5 (0, 0)) ∧ Gb w V ∧ V.heap.size = w.heap.size + 1 := by
  have hsz : (Tryz.prog.info? 5).map (·.size) = some 1 := by kernel_rfl
  have G0 : Gb w (w.alloc (.cells (madeCells #[Value.int .u8 0] n) 5)) := gb_alloc (Below.refl _ _) _
  have hblk : (w.alloc (.cells (madeCells #[Value.int .u8 0] n) 5)).heap[w.heap.size]? = some (.cells (madeCells #[Value.int .u8 0] n) 5 (0, 0)) := heap_alloc_new _ _
  by_cases h0 : Nat.min l.length n = 0
  · refine ⟨_, by rw [h0]; exact run_copy_none (P := Tryz.prog) _ 59 59 ty 5 _ a n n l.length cap Tryz.underlying59 hsz h0, ?_, G0, by simp⟩
    rw [hblk]
    suffices e : madeCells #[Value.int .u8 0] n = ((tk n l).map bv).toArray by rw [e]
    apply Array.ext'
    rw [made5]
    have : l.take n = [] := by
      rcases Nat.min_eq_zero_iff.1 h0 with e | e
      · rw [List.eq_nil_of_length_eq_zero e]; simp
      · rw [e]; simp
    unfold tk
    rw [this]
    simp
    rcases Nat.min_eq_zero_iff.1 h0 with e | e <;> omega
  · obtain ⟨a', cap', e, hcap, ha⟩ := h
    cases e
    have hm0 : 0 < Nat.min l.length n := Nat.pos_of_ne_zero h0
    obtain ⟨b, o, ea, _⟩ := ha 0 (Nat.lt_of_lt_of_le hm0 (Nat.min_le_left _ _))
    subst ea
    have hcs : ((l.take n).map bv).length = Nat.min l.length n := by rw [List.length_map, List.length_take, Nat.min_comm]
    have hsrc : ∀ j v, ((l.take n).map bv)[j]? = some v → (w.alloc (.cells (madeCells #[Value.int .u8 0] n) 5)).cell? ((⟨b, o, none⟩ : Addr).add j) = some v := by
      intro j v hj
      rw [List.getElem?_map] at hj
      obtain ⟨y, hy, rfl⟩ := Option.map_eq_some_iff.1 hj
      obtain ⟨hjl, hy⟩ := List.getElem?_eq_some_iff.1 hy
      have hjl' : j < l.length := by rw [List.length_take] at hjl; omega
      obtain ⟨b', o', e, hc⟩ := ha j hjl'
      cases e
      rw [Addr.add_lit]
      have := gb_keeps G0 hc
      rw [this, getElem!_pos l j hjl', ← hy, List.getElem_take]; rfl
    have hcp := run_copy_row (P := Tryz.prog) (w.alloc (.cells (madeCells #[Value.int .u8 0] n) 5)) 59 59 ty 5 w.heap.size 0 n n ⟨b, o, none⟩ l.length cap _ 5 ((l.take n).map bv) Tryz.underlying59 hsz hblk hcs hsrc (by rw [size_madeCells, List.length_map, List.length_take]; omega) (by intro v hv; obtain ⟨x, _, rfl⟩ := List.mem_map.1 hv; simp [bv, Value.oneCell'])
    rw [hcs] at hcp
    refine ⟨_, hcp, ?_, below_setRow G0 (Nat.le_refl _) _, by simp [World.setRow]⟩
    rw [setRow_heap _ _ _ _ _ _ hblk]
    suffices e : (madeCells #[Value.int .u8 0] n).toList.take 0 ++ (l.take n).map bv ++ (madeCells #[Value.int .u8 0] n).toList.drop (0 + Nat.min l.length n) = (tk n l).map bv by rw [e]
    rw [made5]
    unfold tk
    rw [List.take_zero, List.nil_append, Nat.zero_add, List.drop_replicate, List.map_append, List.map_replicate]
    have e2 : n - Nat.min l.length n = n - l.length := by show n - min l.length n = _; omega
    rw [e2]
/-- What a taker has in memory: bytes that lay there in w0, of which these are left, and whether there were too few. -/
structure TkAt (w0 : World) (bt bs : Nat) (l : List UInt8) (sh : Bool) (w : World) : Prop where
  gb : Gb w0 w
  tl : w0.heap.size ≤ bt
  sl : w0.heap.size ≤ bs
  txt : ∃ v, w.heap[bt]? = some (.cells #[v] 59 (0, 0)) ∧ RdB w0 v l
  sht : w.heap[bs]? = some (.cells #[.bool sh] 4 (0, 0))
theorem TkAt.ne {w0 : World} {bt bs : Nat} {l : List UInt8} {sh : Bool} {w : World} (h : TkAt w0 bt bs l sh w) : bt ≠ bs := by
  intro e; subst e
  obtain ⟨v, h1, _⟩ := h.txt
  have := h1.symm.trans h.sht
  simp at this
theorem TkAt.later {w0 : World} {bt bs : Nat} {l : List UInt8} {sh : Bool} {w w' : World} (h : TkAt w0 bt bs l sh w) (b : Gb w w') : TkAt w0 bt bs l sh w' := by
  obtain ⟨v, h1, h2⟩ := h.txt
  exact ⟨gb_trans h.gb b, h.tl, h.sl, ⟨v, (b.block bt (Array.getElem?_eq_some_iff.1 h1).1).trans h1, h2⟩, (b.block bs (Array.getElem?_eq_some_iff.1 h.sht).1).trans h.sht⟩
/-- Nothing but these two blocks, and what is new, has turned. -/
structure Kp2 (bt bc : Nat) (w w' : World) : Prop where
  os : w'.os = w.os
  tape : w'.tape = w.tape
  out : w'.output = w.output
  size : w.heap.size ≤ w'.heap.size
  blk : ∀ k, k < w.heap.size → k ≠ bt → k ≠ bc → w'.heap[k]? = w.heap[k]?
theorem Kp2.refl (bt bc : Nat) (w : World) : Kp2 bt bc w w := ⟨rfl, rfl, rfl, Nat.le_refl _, fun _ _ _ _ => rfl⟩
theorem Kp2.trans {bt bc : Nat} {a b c : World} (h : Kp2 bt bc a b) (k : Kp2 bt bc b c) : Kp2 bt bc a c :=
  ⟨k.os.trans h.os, k.tape.trans h.tape, k.out.trans h.out, Nat.le_trans h.size k.size, fun i hi h1 h2 => (k.blk i (Nat.lt_of_lt_of_le hi h.size) h1 h2).trans (h.blk i hi h1 h2)⟩
theorem Kp2.of {bt bc : Nat} {a b : World} (h : Gb a b) : Kp2 bt bc a b := ⟨h.os, h.tape, h.output, h.size, fun i hi _ _ => h.block i hi⟩
theorem Kp2.setCell {bt bc : Nat} {a w : World} (h : Kp2 bt bc a w) (p : Addr) (hp : p.block = bt ∨ p.block = bc ∨ a.heap.size ≤ p.block) (v : Value) : Kp2 bt bc a (w.setCell p v) := by
  refine ⟨h.os, h.tape, h.out, by simpa [World.setCell] using h.size, fun i hi h1 h2 => ?_⟩
  rw [Below.heap_setCell _ _ _ _ (fun e => by omega)]
  exact h.blk i hi h1 h2
theorem Kp2.below {bt bc B : Nat} {a w : World} (h : Kp2 bt bc a w) (h1 : B ≤ bt) (h2 : B ≤ bc) (hB : B ≤ a.heap.size) : Below B a w :=
  ⟨h.os, h.tape, h.out, h.size, fun i hi => h.blk i (by omega) (by omega) (by omega)⟩
theorem TkAt.cells {w0 : World} {bt bs : Nat} {l : List UInt8} {sh : Bool} {w : World} (h : TkAt w0 bt bs l sh w) : w.cell? ⟨bs, 0, none⟩ = some (.bool sh) ∧ w.frozen? ⟨bs, 0, none⟩ = false ∧ bt < w.heap.size ∧ bs < w.heap.size ∧ ∃ v, w.cell? ⟨bt, 0, none⟩ = some v ∧ w.frozen? ⟨bt, 0, none⟩ = false ∧ RdB w0 v l := by
  obtain ⟨v, h1, h2⟩ := h.txt
  exact ⟨by simp [World.cell?, h.sht], by simp [World.frozen?, h.sht], (Array.getElem?_eq_some_iff.1 h1).1, (Array.getElem?_eq_some_iff.1 h.sht).1, v, by simp [World.cell?, h1], by simp [World.frozen?, h1], h2⟩
set_option maxHeartbeats 1000000 in
theorem left_c {w0 : World} {bt bs : Nat} {l : List UInt8} {sh : Bool} {w : World} (h : TkAt w0 bt bs l sh w) :
    Calls Tryz.prog 126 #[.pointer (some ⟨bs, 0, none⟩), .pointer (some ⟨bt, 0, none⟩)] w fun e w' => e = .returned (.int .i64 (if sh = true then -1 else (l.length : Int))) ∧ w = w' := by
  obtain ⟨c1, f1, _, _, v, c2, f2, a, cap, rfl, _⟩ := h.cells
  generalize l.length = n at *
  cases sh
  · go_enter Tryz.func126, Tryz.ntmps126
    go_wp2
    go_ret
    exact ⟨rfl, rfl⟩
  · go_enter Tryz.func126, Tryz.ntmps126
    go_wp2
    go_ret
    exact ⟨rfl, rfl⟩
theorem heap_set0 {W : World} {g o : Nat} {x : Value} {cur : Array Value} {t : TypeId} {f : Nat × Nat} (h : W.heap[g]? = some (.cells cur t f)) : (W.setCell ⟨g, o, none⟩ x).heap[g]? = some (.cells (cur.setIfInBounds o x) t f) := by
  simp only [World.setCell, Array.getElem?_modify]; rw [h]; simp
theorem rdb_drop {w0 : World} {a : Option Addr} {cap : Nat} {l : List UInt8} (h : ∀ i, i < l.length → ∃ b o, a = some ⟨b, o, none⟩ ∧ w0.cell? ⟨b, o + i, none⟩ = some (.int .u8 (l[i]!.toNat : Int))) {g : Nat} (hg : g ≤ l.length) (hc : l.length ≤ cap) : RdB w0 (.slice (Option.map (fun x => x.add g) a) (l.length - g) (cap - g)) (l.drop g) := by
  refine ⟨_, cap - g, by rw [List.length_drop], by rw [List.length_drop]; omega, fun i hi => ?_⟩
  rw [List.length_drop] at hi
  obtain ⟨b, o, rfl, hcell⟩ := h (g + i) (by omega)
  refine ⟨b, o + g, by rw [Option.map_some, Addr.add_lit], ?_⟩
  rw [Nat.add_assoc, hcell, getElem!_pos l (g + i) (by omega), getElem!_pos (l.drop g) i (by rw [List.length_drop]; omega), List.getElem_drop]
theorem take_fin {w0 w V : World} {bt bs : Nat} {l : List UInt8} {sh : Bool} {n : Nat} (h : TkAt w0 bt bs l sh V) (hV : V.heap[w.heap.size]? = some (.cells ((tk n l).map bv).toArray 5 (0, 0))) (gV : Gb w V) (hn : n ≤ maxLen) (lt1 : bt < w.heap.size) (lt2 : bs < w.heap.size) {x : Value} (hx : RdB w0 x (l.drop n)) (s' : Bool) :
    OwnB ((V.setCell ⟨bt, 0, none⟩ x).setCell ⟨bs, 0, none⟩ (.bool s')) w.heap.size (.slice (some ⟨w.heap.size, 0, none⟩) n n) (tk n l) ∧ TkAt w0 bt bs (l.drop n) s' ((V.setCell ⟨bt, 0, none⟩ x).setCell ⟨bs, 0, none⟩ (.bool s')) ∧ Kp2 bt bs w ((V.setCell ⟨bt, 0, none⟩ x).setCell ⟨bs, 0, none⟩ (.bool s')) := by
  have hne := h.ne
  obtain ⟨v, h1, h2⟩ := h.txt
  have e1 : ((V.setCell ⟨bt, 0, none⟩ x).setCell ⟨bs, 0, none⟩ (.bool s')).heap[bt]? = some (.cells #[x] 59 (0, 0)) := by
    rw [Below.heap_setCell _ _ _ _ hne]; simpa using heap_set0 (x := x) (o := 0) h1
  have e2 : ((V.setCell ⟨bt, 0, none⟩ x).setCell ⟨bs, 0, none⟩ (.bool s')).heap[bs]? = some (.cells #[.bool s'] 4 (0, 0)) := by
    have := (Below.heap_setCell V ⟨bt, 0, none⟩ x bs (Ne.symm hne)).trans h.sht
    simpa using heap_set0 (x := .bool s') (o := 0) this
  have e3 : ((V.setCell ⟨bt, 0, none⟩ x).setCell ⟨bs, 0, none⟩ (.bool s')).heap[w.heap.size]? = some (.cells ((tk n l).map bv).toArray 5 (0, 0)) := by
    rw [Below.heap_setCell _ _ _ _ (by show w.heap.size ≠ bs; omega), Below.heap_setCell _ _ _ _ (by show w.heap.size ≠ bt; omega), hV]
  refine ⟨⟨by simp, .inr ⟨_, n, _, by rw [tk_length], Nat.le_refl _, e3, by rw [tk_length]; exact Nat.le_refl _, hn, by simp [tk_length], by rw [List.take_of_length_le (by simp)]⟩⟩, ⟨gb_set (gb_set h.gb h.tl x) h.sl _, h.tl, h.sl, ⟨x, e1, hx⟩, e2⟩, ((Kp2.of gV).setCell ⟨bt, 0, none⟩ (.inl rfl) _).setCell ⟨bs, 0, none⟩ (.inr (.inl rfl)) _⟩
set_option maxHeartbeats 1000000 in
set_option maxRecDepth 100000 in
theorem take_c {w0 : World} {bt bs : Nat} {l : List UInt8} {sh : Bool} {w : World} (h : TkAt w0 bt bs l sh w) (n : Nat) (hn : n ≤ 1073741824) (_hl : l.length ≤ 4611686018427387904) :
    Calls Tryz.prog 125 #[.int .i64 (n : Int), .pointer (some ⟨bt, 0, none⟩), .pointer (some ⟨bs, 0, none⟩)] w fun e w' => ∃ v', e = .returned v' ∧ OwnB w' w.heap.size v' (tk n l) ∧ TkAt w0 bt bs (l.drop n) (sh || decide (l.length < n)) w' ∧ Kp2 bt bs w w' := by
  obtain ⟨c1, f1, lt1, lt2, v, c2, f2, hv⟩ := h.cells
  have hv' := hv.gb h.gb
  obtain ⟨a, cap, rfl, hcap, hcl⟩ := hv
  have hmk := run_make_row' (P := Tryz.prog) 59 5 (.int .u8 0) 1 Tryz.underlying59 Tryz.infoB rfl .i64 .i64 n (by omega) (by omega) w
  obtain ⟨V, hcp, hV, gV, sV⟩ := copy_in hv' n (by omega) 3
  have hne := h.ne
  have hne' := Ne.symm h.ne
  have k1 := gb_keeps gV c1
  have k2 := gb_keeps gV c2
  have e1 : V.frozen? ⟨bs, 0, none⟩ = false := by rw [← f1]; simp only [World.frozen?, gV.block bs lt2]
  have e2 : V.frozen? ⟨bt, 0, none⟩ = false := by rw [← f2]; simp only [World.frozen?, gV.block bt lt1]
  have hgt : ∃ gt : Nat, gt = Nat.min l.length n := ⟨_, rfl⟩
  obtain ⟨gt, hgt⟩ := hgt
  have GT : Hid (gt = Nat.min l.length n) := hgt
  rw [← hgt] at hcp
  have g1 : gt ≤ l.length := by rw [hgt]; exact Nat.min_le_left _ _
  have g2 : gt ≤ n := by rw [hgt]; exact Nat.min_le_right _ _
  have HT : Hid (TkAt w0 bt bs l sh V) := h.later gV
  have CL : Hid (∀ i, i < l.length → ∃ b o, a = some ⟨b, o, none⟩ ∧ w0.cell? ⟨b, o + i, none⟩ = some (.int .u8 (l[i]!.toNat : Int))) := hcl
  have VV : Hid (V.heap[w.heap.size]? = some (.cells ((tk n l).map bv).toArray 5 (0, 0)) ∧ Gb w V ∧ V.heap.size = w.heap.size + 1) := ⟨hV, gV, sV⟩
  have DR : Hid (l.drop gt = l.drop n) := by
    unfold Hid; rw [hgt]; show l.drop (min l.length n) = _
    by_cases hh : n ≤ l.length
    · rw [Nat.min_eq_right hh]
    · rw [Nat.min_eq_left (by omega), List.drop_of_length_le (by omega), List.drop_of_length_le (by omega)]
  have SH : Hid (decide (l.length < n) = decide ((gt : Int) < (n : Int))) := by
    unfold Hid; rw [hgt]; show _ = decide (((min l.length n : Nat) : Int) < _); apply decide_eq_decide.2; omega
  obtain ⟨ln, hln⟩ : ∃ ln, ln = l.length := ⟨_, rfl⟩
  have LN : Hid (ln = l.length) := hln
  rw [← hln] at hcp g1 hcap
  rw [← hln] at k2 c2
  have LT : Hid (bt < w.heap.size ∧ bs < w.heap.size) := ⟨lt1, lt2⟩
  clear hgt hv' h hcl hV gV sV hln
  have FIN : Hid (∀ (x : Value) (s' : Bool), RdB w0 x (l.drop n) → s' = (sh || decide (l.length < n)) → OwnB ((V.setCell ⟨bt, 0, none⟩ x).setCell ⟨bs, 0, none⟩ (.bool s')) w.heap.size (.slice (some ⟨w.heap.size, 0, none⟩) n n) (tk n l) ∧ TkAt w0 bt bs (l.drop n) (sh || decide (l.length < n)) ((V.setCell ⟨bt, 0, none⟩ x).setCell ⟨bs, 0, none⟩ (.bool s')) ∧ Kp2 bt bs w ((V.setCell ⟨bt, 0, none⟩ x).setCell ⟨bs, 0, none⟩ (.bool s'))) := by
    intro x s' hx hs; subst hs; exact take_fin HT.out VV.out.1 VV.out.2.1 (by unfold maxLen; omega) LT.out.1 LT.out.2 hx _
  have DD : Hid (RdB w0 (.slice (Option.map (fun x => x.add gt) a) (ln - gt) (cap - gt)) (l.drop n)) := by
    unfold Hid; rw [← DR.out, LN.out]
    exact rdb_drop CL.out (by have := LN.out; omega) (by have := LN.out; omega)
  by_cases hcg : cap = gt
  · subst hcg
    have hlg : ln = cap := by omega
    have R : Hid (RdB w0 (.slice a 0 0) (l.drop n)) := by
      unfold Hid; rw [← DR.out, List.drop_of_length_le (by have := LN.out; omega)]
      exact ⟨_, _, rfl, Nat.le_refl _, fun i hi => absurd hi (Nat.not_lt_zero _)⟩
    clear hlg
    cases sh
    · go_enter Tryz.func125, Tryz.ntmps125
      go_wp2
      go_ret
      exact ⟨_, rfl, FIN.out _ _ R.out (by rw [SH.out]; simp)⟩
    · go_enter Tryz.func125, Tryz.ntmps125
      go_wp2
      go_ret
      exact ⟨_, rfl, FIN.out _ _ R.out (by simp)⟩
  · cases sh
    · go_enter Tryz.func125, Tryz.ntmps125
      go_wp2
      go_ret
      exact ⟨_, rfl, FIN.out _ _ DD.out (by rw [SH.out]; simp)⟩
    · go_enter Tryz.func125, Tryz.ntmps125
      go_wp2
      go_ret
      exact ⟨_, rfl, FIN.out _ _ DD.out (by simp)⟩
end Go.Proofs.YtcbhhdjjanekaaaGreatDoor
