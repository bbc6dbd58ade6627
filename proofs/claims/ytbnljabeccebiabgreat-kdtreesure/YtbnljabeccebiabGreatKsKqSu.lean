/- A search's state, as it turns. -/
import Derived.Test.YtbnljabeccebiabGreatKs28
import Derived.Test.YtbnljabeccebiabGreatKs29
namespace Go.Proofs.YtbnljabeccebiabGreat
open Go.RowKit Go.Sort

theorem tne {W : World} {a b : Nat} {c c' : Array Value} {t t' : TypeId} {s s' : Nat × Nat} (h1 : W.heap[a]? = some (.cells c t s)) (h2 : W.heap[b]? = some (.cells c' t' s')) (hne : t ≠ t') : a ≠ b := by
  intro e
  subst e
  rw [h1] at h2
  injection h2 with h2
  injection h2 with _ h2 _
  exact hne h2
/-- Block b holds cells of the type t. -/
def Ty (W : World) (b : Nat) (t : TypeId) : Prop := ∃ c s, W.heap[b]? = some (.cells c t s)
theorem Ty.ne {W : World} {a b : Nat} {t t' : TypeId} (h1 : Ty W a t) (h2 : Ty W b t') (hne : t ≠ t') : a ≠ b := by
  obtain ⟨_, _, h1⟩ := h1
  obtain ⟨_, _, h2⟩ := h2
  exact tne h1 h2 hne
theorem Ty.gb {W W' : World} {b : Nat} {t : TypeId} (h : Ty W b t) (g : Gb W W') : Ty W' b t := by
  obtain ⟨c, s, h⟩ := h
  exact ⟨c, s, by rw [g.block b (Array.getElem?_eq_some_iff.1 h).1]; exact h⟩
theorem own_ty {W : World} {B n k : Nat} {t : TypeId} {v : Value} {xs : List Value} (h : W.ownsRow B t k v n xs) {g : Nat} (hg : v.ownBlock = some g) : Ty W g t := by
  rcases h.2 with ⟨rfl, _⟩ | ⟨g', cap, cur, rfl, _, hh, _⟩
  · cases hg
  · cases hg; exact ⟨cur, (0, 0), hh⟩
section
variable {w0 W : World} {T : Nat → Pt} {N sb hb k : Nat} {vq : Value} {q : List Int} {bud : Nat} {seen : List Rw} {O : List Nat} {M : List (Nat × Pt)} {vs vm vo vh : Value}
theorem SAt.tsb (h : SAt w0 W T N sb hb k vq q bud seen O M vs vm vo vh) : Ty W sb 71 := ⟨_, _, h.blk⟩
theorem SAt.thb (h : SAt w0 W T N sb hb k vq q bud seen O M vs vm vo vh) : Ty W hb 94 := by
  obtain ⟨c, e⟩ := Has.cells h.has
  exact ⟨c, _, e⟩
theorem SAt.tvh (h : SAt w0 W T N sb hb k vq q bud seen O M vs vm vo vh) {g : Nat} (hg : vh.ownBlock = some g) : Ty W g 60 := by
  obtain ⟨c, e⟩ := Has.own h.has hg
  exact ⟨c, _, e⟩
theorem SAt.tvs (h : SAt w0 W T N sb hb k vq q bud seen O M vs vm vo vh) {g : Nat} (hg : vs.ownBlock = some g) : Ty W g 3 := own_ty h.sn hg
theorem SAt.tvo (h : SAt w0 W T N sb hb k vq q bud seen O M vs vm vo vh) {g : Nat} (hg : vo.ownBlock = some g) : Ty W g 3 := own_ty h.op hg
theorem SAt.tvm (h : SAt w0 W T N sb hb k vq q bud seen O M vs vm vo vh) {g : Nat} (hg : vm.ownBlock = some g) : Ty W g 102 := own_ty h.mt hg
theorem SAt.tp (h : SAt w0 W T N sb hb k vq q bud seen O M vs vm vo vh) {x : Nat × Pt} (hx : x ∈ M) : Ty W x.1 100 := by
  obtain ⟨_, _, _, e, _⟩ := h.prt x hx
  exact ⟨_, _, e⟩
theorem MP.ty {w0 W : World} {T : Nat → Pt} {N pb : Nat} {p : Pt} (h : MP w0 W T N pb p) : Ty W pb 100 := by
  obtain ⟨_, _, _, e, _⟩ := h
  exact ⟨_, _, e⟩
theorem own_kpR {S : Nat → Prop} {w w' : World} {B n k : Nat} {t : TypeId} {v : Value} {xs : List Value} (h : w.ownsRow B t k v n xs) (kp : Tk.Kp S w w') (hn : ∀ g, v.ownBlock = some g → ¬ S g) : w'.ownsRow B t k v n xs := by
  refine ⟨h.1, ?_⟩
  rcases h.2 with h1 | ⟨g, cap, cur, e, hB, hh, r⟩
  · exact .inl h1
  · subst e
    exact .inr ⟨g, cap, cur, rfl, hB, by rw [kp.block g (Array.getElem?_eq_some_iff.1 hh).1 (hn g rfl)]; exact hh, r⟩
/-- Nothing of it has turned. -/
theorem SAt.kp (h : SAt w0 W T N sb hb k vq q bud seen O M vs vm vo vh) {S : Nat → Prop} {W' : World} (kp : Tk.Kp S W W') (hS : ∀ b, S b → w0.heap.size ≤ b) (n1 : ¬ S sb) (n2 : ¬ S hb) (n3 : ∀ g, vh.ownBlock = some g → ¬ S g) (n4 : ∀ g, vs.ownBlock = some g → ¬ S g)
    (n5 : ∀ g, vm.ownBlock = some g → ¬ S g) (n6 : ∀ g, vo.ownBlock = some g → ¬ S g) (n7 : ∀ x ∈ M, ¬ S x.1) : SAt w0 W' T N sb hb k vq q bud seen O M vs vm vo vh where
  blk := by rw [kp.block sb (Array.getElem?_eq_some_iff.1 h.blk).1 n1]; exact h.blk
  sbB := h.sbB
  hbB := h.hbB
  has := h.has.kp kp n2 n3
  hhB := h.hhB
  sn := own_kpI h.sn kp n4
  mt := own_kpR h.mt kp n5
  op := own_kpI h.op kp n6
  olt := h.olt
  prt := fun x hx => (h.prt x hx).kp kp (n7 x hx)
  ne := h.ne
  gb := h.gb.trans (kp.gr h.gb.size hS)
  q := h.q
  few := h.few
  mfew := h.mfew
/-- A cell of the search's own block is written. -/
theorem SAt.set (h : SAt w0 W T N sb hb k vq q bud seen O M vs vm vo vh) (u : Value) (i : Nat) : Tk.Kp (fun b => b = sb) W (W.setCell ⟨sb, i, none⟩ u) ∧ Tk.Has (W.setCell ⟨sb, i, none⟩ u) hb k vh (Tk.firsts k (hitsOf q seen)) ∧ Own (W.setCell ⟨sb, i, none⟩ u) w0.heap.size vs (idsOf seen) ∧
    (W.setCell ⟨sb, i, none⟩ u).ownsRow w0.heap.size 102 3 vm M.length (M.flatMap (encM q)) ∧ Own (W.setCell ⟨sb, i, none⟩ u) w0.heap.size vo (O.map fun i : Nat => (i : Int)) ∧ (∀ x ∈ M, MP w0 (W.setCell ⟨sb, i, none⟩ u) T N x.1 x.2) ∧ Gb w0 (W.setCell ⟨sb, i, none⟩ u) := by
  have kp : Tk.Kp (fun b => b = sb) W (W.setCell ⟨sb, i, none⟩ u) := (Tk.Kp.refl (fun b => b = sb) W).setCell (.inl rfl) u
  refine ⟨kp, h.has.kp kp (h.thb.ne h.tsb (by decide)) (fun g hg => (h.tvh hg).ne h.tsb (by decide)), own_kpI h.sn kp (fun g hg => (h.tvs hg).ne h.tsb (by decide)), own_kpR h.mt kp (fun g hg => (h.tvm hg).ne h.tsb (by decide)), own_kpI h.op kp (fun g hg => (h.tvo hg).ne h.tsb (by decide)), fun x hx => (h.prt x hx).kp kp ((h.tp hx).ne h.tsb (by decide)), h.gb.trans (kp.gr h.gb.size (fun b e => by rw [e]; exact h.sbB))⟩
/-- The budget. -/
theorem SAt.setBud (h : SAt w0 W T N sb hb k vq q bud seen O M vs vm vo vh) (b' : Nat) : SAt w0 (W.setCell ⟨sb, 2, none⟩ (.int .i64 (b' : Int))) T N sb hb k vq q b' seen O M vs vm vo vh := by
  obtain ⟨kp, a1, a2, a3, a4, a5, a6⟩ := h.set (.int .i64 (b' : Int)) 2
  exact ⟨by simp [World.setCell, Array.getElem?_modify, h.blk], h.sbB, h.hbB, a1, h.hhB, a2, a3, a4, h.olt, a5, h.ne, a6, h.q, h.few, h.mfew⟩
/-- The last open one is taken. -/
theorem SAt.pop (h : SAt w0 W T N sb hb k vq q bud seen O M vs vm vo vh) (hO : O ≠ []) : ∃ g cap, vo = .slice (some ⟨g, 0, none⟩) O.length cap ∧ O.length ≤ cap ∧ W.cell? ⟨g, O.length - 1, none⟩ = some (.int .i64 ((O.getLast hO : Nat) : Int)) ∧ SAt w0 (W.setCell ⟨sb, 5, none⟩ (.slice (some ⟨g, 0, none⟩) (O.length - 1) cap)) T N sb hb k vq q bud seen O.dropLast M vs vm (.slice (some ⟨g, 0, none⟩) (O.length - 1) cap) vh := by
  have hp := List.length_pos_iff.2 hO
  rcases h.op.2 with ⟨_, e⟩ | ⟨g, cap, cur, e, hB, hh, hle, hmx, hsz, htk⟩
  · rw [List.length_map] at e; omega
  · rw [List.length_map] at e hle htk
    obtain ⟨kp, a1, a2, a3, a4, a5, a6⟩ := h.set (.slice (some ⟨g, 0, none⟩) (O.length - 1) cap) 5
    have hc : W.cell? ⟨g, O.length - 1, none⟩ = some (.int .i64 ((O.getLast hO : Nat) : Int)) := by
      have hx : ((O.map fun i : Nat => (i : Int)).map (Value.int .i64))[O.length - 1]? = some (.int .i64 ((O.getLast hO : Nat) : Int)) := by
        rw [List.getElem?_map, List.getElem?_map, List.getElem?_eq_getElem (by omega), ← List.getLast_eq_getElem]
        rfl
      rw [← htk, List.getElem?_take_of_lt (by omega), Array.getElem?_toList] at hx
      exact cell_cur hh hx
    refine ⟨g, cap, e, hle, hc, ⟨by simp [World.setCell, Array.getElem?_modify, h.blk], h.sbB, h.hbB, a1, h.hhB, a2, a3, ?_, fun i hi => h.olt i (List.dropLast_subset _ hi), a5, ?_, a6, h.q, h.few, h.mfew⟩⟩
    · have gs : g ≠ sb := by
        have := h.tvo (g := g) (by rw [e]; rfl)
        exact this.ne h.tsb (by decide)
      refine ⟨by simp, .inr ⟨g, cap, cur, by simp, hB, ?_, by simp; omega, hmx, hsz, ?_⟩⟩
      · rw [kp.block g (Array.getElem?_eq_some_iff.1 hh).1 gs]; exact hh
      · simp only [List.length_map, List.length_dropLast] at *
        have e2 : cur.toList.take ((O.length - 1) * 1) = (cur.toList.take (O.length * 1)).take (O.length - 1) := by rw [List.take_take]; congr 1; omega
        rw [e2, htk, ← List.map_take, ← List.map_take, List.dropLast_eq_take]
    · intro g' hg' e'
      injection e' with e'
      dsimp only at e'
      exact h.ne g' hg' (by rw [e, ← e']; rfl)
/-- One more has been met. -/
theorem SAt.met (h : SAt w0 W T N sb hb k vq q bud seen O M vs vm vo vh) {V W2 : World} {v' : Value} {pb : Nat} {p : Pt} (gV : Gb W V) (ho : W2.ownsRow w0.heap.size 102 3 v' (M.length + 1) (M.flatMap (encM q) ++ encM q (pb, p))) (hg : V.grownBy W2 vm.ownBlock) (hmp : MP w0 V T N pb p) (hf : M.length + 1 ≤ 10000) :
    SAt w0 (W2.setCell ⟨sb, 4, none⟩ v') T N sb hb k vq q bud seen O (M ++ [(pb, p)]) vs v' vo vh ∧ MP w0 (W2.setCell ⟨sb, 4, none⟩ v') T N pb p ∧ W2.heap[sb]? = some (.cells #[vq, .pointer (some ⟨hb, 0, none⟩), .int .i64 (bud : Int), vs, vm, vo] 71 (0, 0)) := by
  have hV := h.grow gV
  have kp : Tk.Kp (fun b => vm.ownBlock = some b) V W2 := ⟨hg.os, hg.tape, hg.output, hg.size, fun k hk hn => hg.block k hk (fun e => hn e.symm)⟩
  have tm : ∀ {b : Nat}, vm.ownBlock = some b → Ty V b 102 := fun e => hV.tvm e
  have nn : ∀ {b : Nat} {t : TypeId}, Ty V b t → t ≠ 102 → ¬ vm.ownBlock = some b := fun ht hne e => ht.ne (tm e) hne rfl
  have hS : ∀ b, vm.ownBlock = some b → w0.heap.size ≤ b := fun b e => (h.mt.lt b e).1
  have blk2 : W2.heap[sb]? = some (.cells #[vq, .pointer (some ⟨hb, 0, none⟩), .int .i64 (bud : Int), vs, vm, vo] 71 (0, 0)) := by rw [kp.block sb (Array.getElem?_eq_some_iff.1 hV.blk).1 (nn hV.tsb (by decide))]; exact hV.blk
  have k2 : Tk.Kp (fun b => b = sb) W2 (W2.setCell ⟨sb, 4, none⟩ v') := (Tk.Kp.refl (fun b => b = sb) W2).setCell (.inl rfl) v'
  have t2 : ∀ {b : Nat} {t : TypeId}, Ty V b t → t ≠ 102 → t ≠ 71 → ¬ b = sb := fun ht _ hne e => ht.ne hV.tsb hne e
  have p2 : ∀ {pb : Nat} {p : Pt}, MP w0 V T N pb p → MP w0 (W2.setCell ⟨sb, 4, none⟩ v') T N pb p := fun hx => (hx.kp kp (nn hx.ty (by decide))).kp k2 (t2 hx.ty (by decide) (by decide))
  refine ⟨⟨by simp [World.setCell, Array.getElem?_modify, blk2], h.sbB, h.hbB, (hV.has.kp kp (nn hV.thb (by decide)) (fun g e => nn (hV.tvh e) (by decide))).kp k2 (t2 hV.thb (by decide) (by decide)) (fun g e => t2 (hV.tvh e) (by decide) (by decide)), h.hhB, own_kpI (own_kpI hV.sn kp (fun g e => nn (hV.tvs e) (by decide))) k2 (fun g e => t2 (hV.tvs e) (by decide) (by decide)), ?_, own_kpI (own_kpI hV.op kp (fun g e => nn (hV.tvo e) (by decide))) k2 (fun g e => t2 (hV.tvo e) (by decide) (by decide)), fun i hi => by have := h.olt i hi; rw [List.length_append]; omega, fun x hx => ?_, h.ne, ?_, h.q, h.few, by rw [List.length_append]; exact hf⟩, p2 hmp, blk2⟩
  · rw [List.length_append, List.flatMap_append]
    simp only [List.length_cons, List.length_nil, List.flatMap_cons, List.flatMap_nil, List.append_nil]
    refine own_kpR ho k2 (fun g e => ?_)
    exact (own_ty ho e).ne ⟨_, _, blk2⟩ (by decide)
  · rcases List.mem_append.1 hx with hx | hx
    · exact p2 (hV.prt x hx)
    · rw [List.mem_singleton.1 hx]; exact p2 hmp
  · exact (hV.gb.trans (kp.gr hV.gb.size hS)).trans (k2.gr (by have := hV.gb.size; have := kp.size; omega) (fun b e => by rw [e]; exact h.sbB))
/-- The newest is laid among the open ones. -/
theorem SAt.ins (h : SAt w0 W T N sb hb k vq q bud seen O M vs vm vo vh) {V W2 : World} {c j : Nat} {g cap n : Nat} (gV : Gb W V) (hO : n = O.length) (ho : InsO_insI V vo n ((O.map fun i : Nat => (Value.int .i64 (i : Int))).take c ++ [.int .i64 (j : Int)] ++ (O.map fun i : Nat => (Value.int .i64 (i : Int))).drop c) (.returned (.slice (some ⟨g, 0, none⟩) (n + 1) cap)) W2) (hj : j < M.length) :
    SAt w0 (W2.setCell ⟨sb, 5, none⟩ (.slice (some ⟨g, 0, none⟩) (n + 1) cap)) T N sb hb k vq q bud seen (O.take c ++ j :: O.drop c) M vs vm (.slice (some ⟨g, 0, none⟩) (n + 1) cap) vh ∧ W2.heap[sb]? = some (.cells #[vq, .pointer (some ⟨hb, 0, none⟩), .int .i64 (bud : Int), vs, vm, vo] 71 (0, 0)) := by
  subst hO
  obtain ⟨g', cap', e0, ho, kp, hg⟩ := ho
  cases e0
  have hV := h.grow gV
  have to' : ∀ {b : Nat}, vo.ownBlock = some b → Ty V b 3 := fun e => hV.tvo e
  have nn : ∀ {b : Nat} {t : TypeId}, Ty V b t → t ≠ 3 → ¬ vo.ownBlock = some b := fun ht hne e => ht.ne (to' e) hne rfl
  have hS : ∀ b, vo.ownBlock = some b → w0.heap.size ≤ b := fun b e => (h.op.lt b e).1
  have blk2 : W2.heap[sb]? = some (.cells #[vq, .pointer (some ⟨hb, 0, none⟩), .int .i64 (bud : Int), vs, vm, vo] 71 (0, 0)) := by rw [kp.block sb (Array.getElem?_eq_some_iff.1 hV.blk).1 (nn hV.tsb (by decide))]; exact hV.blk
  have k2 : Tk.Kp (fun b => b = sb) W2 (W2.setCell ⟨sb, 5, none⟩ (.slice (some ⟨g, 0, none⟩) (O.length + 1) cap)) := (Tk.Kp.refl (fun b => b = sb) W2).setCell (.inl rfl) _
  have t2 : ∀ {b : Nat} {t : TypeId}, Ty V b t → t ≠ 71 → ¬ b = sb := fun ht hne e => ht.ne hV.tsb hne e
  have p2 : ∀ {pb : Nat} {p : Pt}, MP w0 V T N pb p → MP w0 (W2.setCell ⟨sb, 5, none⟩ (.slice (some ⟨g, 0, none⟩) (O.length + 1) cap)) T N pb p := fun hx => (hx.kp kp (nn hx.ty (by decide))).kp k2 (t2 hx.ty (by decide))
  have gge : w0.heap.size ≤ g := by
    rcases hg with e | e
    · exact hS g e
    · have := hV.gb.size; omega
  have gsb : g ≠ sb := (own_ty ho rfl).ne ⟨_, _, blk2⟩ (by decide)
  refine ⟨⟨by simp [World.setCell, Array.getElem?_modify, blk2], h.sbB, h.hbB, (hV.has.kp kp (nn hV.thb (by decide)) (fun g e => nn (hV.tvh e) (by decide))).kp k2 (t2 hV.thb (by decide)) (fun g e => t2 (hV.tvh e) (by decide)), h.hhB, own_kpI (own_kpI hV.sn kp (fun g e e2 => h.ne g e e2)) k2 (fun g e => t2 (hV.tvs e) (by decide)), own_kpR (own_kpR hV.mt kp (fun g e => nn (hV.tvm e) (by decide))) k2 (fun g e => t2 (hV.tvm e) (by decide)), ?_, ?_, fun x hx => p2 (hV.prt x hx), ?_, ?_, h.q, h.few, h.mfew⟩, blk2⟩
  · have el : ((O.take c ++ j :: O.drop c).map fun i : Nat => (i : Int)).length = O.length + 1 := by
      rw [List.length_map, List.length_append, List.length_cons, List.length_take, List.length_drop]; omega
    have ex : ((O.take c ++ j :: O.drop c).map fun i : Nat => (i : Int)).map (Value.int .i64) = (O.map fun i : Nat => (Value.int .i64 (i : Int))).take c ++ [.int .i64 (j : Int)] ++ (O.map fun i : Nat => (Value.int .i64 (i : Int))).drop c := by
      rw [List.map_map, List.map_append, List.map_cons, List.map_take, List.map_drop, List.append_assoc]
      rfl
    have := own_kpR ho k2 (fun g' e => by cases e; exact gsb)
    refine ⟨by rw [List.length_map, Nat.mul_one], ?_⟩
    rw [el, ex]
    rcases this.2 with ⟨e, _⟩ | ⟨g', cap', cur, e, hB, r⟩
    · cases e
    · cases e; exact .inr ⟨g, cap, cur, rfl, gge, r⟩
  · intro i hi
    rcases List.mem_append.1 hi with hi | hi
    · exact h.olt i (List.mem_of_mem_take hi)
    · rcases List.mem_cons.1 hi with rfl | hi
      · exact hj
      · exact h.olt i (List.mem_of_mem_drop hi)
  · intro g' hg' e'
    injection e' with e'
    dsimp only at e'
    subst e'
    rcases hg with e | e
    · exact h.ne g hg' e
    · have := (hV.sn.lt g hg').2
      omega
  · exact (hV.gb.trans (kp.gr hV.gb.size hS)).trans (k2.gr (by have := hV.gb.size; have := kp.size; omega) (fun b e => by rw [e]; exact h.sbB))
end
end Go.Proofs.YtbnljabeccebiabGreat
