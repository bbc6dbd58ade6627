/- Each file has one name, whatever is done, and whatever survives. -/
import Derived.Test.YtpjoaefmpdjjnaaSxDkZ
namespace Go.Proofs.Ytpjoaefmpdjjnaa
open Go.RowKit Go.Lib Go.Maps

/-- Names each once, and each of a file of its own, of numbers below m. -/
structure NmI (l : Nms) (m : Int) : Prop where
  ks : (kys l).Nodup
  ns : (nbs l).Nodup
  lt : ∀ p ∈ l, p.2 < m
theorem NmI.del {l : Nms} {m : Int} (h : NmI l m) (x : By) : NmI (del l x) m :=
  ⟨nodup_del h.ks x, h.ns.sublist (List.filter_sublist.map _), fun p hp => h.lt p (mem_del.1 hp).1⟩
theorem NmI.mono {l : Nms} {m k : Int} (h : NmI l m) (hk : m ≤ k) : NmI l k := ⟨h.ks, h.ns, fun p hp => Int.lt_of_lt_of_le (h.lt p hp) hk⟩
theorem NmI.ins {l : Nms} {m : Int} (h : NmI l m) (x : By) {n : Int} (hn : n < m) (hf : ∀ p ∈ l, p.1 ≠ x → p.2 ≠ n) : NmI (ins l x n) m := by
  refine ⟨nodup_ins h.ks x n, ?_, fun p hp => ?_⟩
  · refine List.nodup_cons.2 ⟨fun hm => ?_, (h.del x).ns⟩
    obtain ⟨p, hp, e⟩ := List.mem_map.1 hm
    exact hf p (mem_del.1 hp).1 (mem_del.1 hp).2 e
  · rcases List.mem_cons.1 hp with rfl | hp
    · exact hn
    · exact h.lt p (mem_del.1 hp).1
/-- The disk's names, and those that any crash would leave. -/
structure Dq.Inj (q : Dq) : Prop where
  nm : q.nm = apT q.sf q.ch q.ch.length
  at_ : ∀ i, NmI (apT q.sf q.ch i) (q.st : Int)
theorem Dq.Inj.now {q : Dq} (h : q.Inj) : NmI q.nm (q.st : Int) := by rw [h.nm]; exact h.at_ _
theorem apT_append {l : Nms} {ch : List (By × By × Int)} {c : By × By × Int} {i : Nat} : apT l (ch ++ [c]) i = if i ≤ ch.length then apT l ch i else apC (apT l ch ch.length) c := by
  unfold apT
  split
  · rename_i h
    rw [List.take_append_of_le_length h]
  · rename_i h
    rw [List.take_of_length_le (by simp; omega), List.foldl_append, List.take_length]; rfl
theorem Dq.Inj.alter {q : Dq} (h : q.Inj) (c : By × By × Int) (hc : NmI (apC q.nm c) ((q.st : Int) + 1)) : (q.alter c).done.Inj := by
  have hst : ((q.alter c).done.st : Int) = (q.st : Int) + 1 := by show ((q.st + 1 : Nat) : Int) = _; omega
  refine ⟨?_, fun i => ?_⟩
  · show apC q.nm c = apT q.sf (q.ch ++ [c]) (q.ch ++ [c]).length
    rw [apT_append, if_neg (by simp), ← h.nm]
  · rw [hst]
    show NmI (apT q.sf (q.ch ++ [c]) i) _
    rw [apT_append]
    split
    · exact (h.at_ i).mono (by omega)
    · rw [← h.nm]; exact hc
theorem Dq.Inj.files {q q' : Dq} (h : q.Inj) (e1 : q'.nm = q.nm) (e2 : q'.sf = q.sf) (e3 : q'.ch = q.ch) (e4 : q.st ≤ q'.st) : q'.Inj := by
  refine ⟨by rw [e1, e2, e3]; exact h.nm, fun i => ?_⟩
  rw [e2, e3]; exact (h.at_ i).mono (by omega)
theorem Dq.Inj.settled {q q' : Dq} {l : Nms} (h : NmI l (q.st : Int)) (e1 : q'.nm = l) (e2 : q'.sf = l) (e3 : q'.ch = []) (e4 : q.st ≤ q'.st) : q'.Inj := by
  have e : ∀ i, apT l [] i = l := fun i => by simp [apT]
  refine ⟨by rw [e1, e2, e3, e], fun i => ?_⟩
  rw [e2, e3, e]; exact h.mono (by omega)
theorem NmI.apply {l : Nms} {m : Int} (h : NmI l m) {x y : By} {n : Int} (hn : n < m) (hf : ∀ p ∈ l, p.1 ≠ x → p.2 ≠ n) : NmI (apC l (x, y, n)) m := by
  unfold apC
  split
  · exact h.del x
  · exact (h.del x).ins y hn fun p hp _ => hf p (mem_del.1 hp).1 (mem_del.1 hp).2
theorem Dq.Inj.create {q : Dq} (h : q.Inj) (x : By) : (q.create x).Inj := by
  unfold Dq.create
  split
  · have hm : q.made.Inj := h.files rfl rfl rfl (Nat.le_refl _)
    exact hm.alter _ ((hm.now.mono (by show (q.st : Int) ≤ (q.st : Int) + 1; omega)).apply (by show (q.st : Int) < (q.st : Int) + 1; omega) fun p hp _ e => by
      have := h.now.lt p hp
      rw [e] at this; omega)
  · exact h
theorem Dq.Inj.rename {q : Dq} (h : q.Inj) (x y : By) : (q.rename x y).Inj := by
  unfold Dq.rename
  split
  · rename_i e
    obtain ⟨_, hx, hn⟩ := fiE_zero (reE_zero e).1
    rw [hn]
    have hl := h.now.lt _ (mem_num hx)
    refine h.alter _ ((h.now.mono (by omega)).apply (by show num q.nm x < (q.st : Int) + 1; simp at hl; omega) fun p hp hne e' => hne ?_)
    have hp1 : p.1 ∈ kys q.nm := List.mem_map_of_mem hp
    exact num_inj h.now.ns hp1 hx (by rw [num_mem h.now.ks hp]; exact e')
  · exact h
theorem Dq.Inj.remove {q : Dq} (h : q.Inj) (x : By) : (q.remove x).Inj := by
  unfold Dq.remove
  split
  · refine h.alter _ ?_
    have : apC q.nm (x, [], 0) = del q.nm x := rfl
    rw [this]
    exact (h.now.del x).mono (by omega)
  · exact h
theorem Dq.Inj.append {q : Dq} (h : q.Inj) (x l : By) : (q.append x l).Inj := by
  unfold Dq.append
  split
  · exact h.files rfl rfl rfl (Nat.le_succ _)
  · exact h
theorem Dq.Inj.sync {q : Dq} (h : q.Inj) (x : By) : (q.sync x).Inj := by
  unfold Dq.sync
  split
  · exact h.files rfl rfl rfl (Nat.le_succ _)
  · exact h
theorem Dq.Inj.syncDir {q : Dq} (h : q.Inj) : q.syncDir.Inj := by
  unfold Dq.syncDir
  split
  · exact h
  · exact Dq.Inj.settled h.now rfl rfl rfl (Nat.le_succ _)
theorem Dq.Inj.stop {q : Dq} (h : q.Inj) (n : Int) : (q.stop n).Inj := by
  unfold Dq.stop
  split
  · exact h.files rfl rfl rfl (Nat.le_refl _)
  · exact h
theorem Dq.Inj.crash {q : Dq} (h : q.Inj) (cs : List Int) : (q.crash cs).Inj :=
  Dq.Inj.settled (q := q) (l := crO q cs) (h.at_ _) rfl rfl rfl (Nat.le_refl _)
theorem nwQ_inj (r : Int) : (nwQ r).Inj := by
  have e : ∀ i, apT [] [] i = [] := fun i => by simp [apT]
  exact ⟨(e _).symm, fun i => by show NmI (apT [] [] i) _; rw [e]; exact ⟨List.nodup_nil, List.nodup_nil, by simp⟩⟩
theorem Dq.Inj.play1 {q : Dq} (h : q.Inj) (x : OpP) : (q.play1 x).Inj := by
  unfold Dq.play1
  split
  · exact h.create _
  split
  · exact h.append _ _
  split
  · exact h.sync _
  split
  · exact h.rename _ _
  split
  · exact h.remove _
  split
  · exact h.syncDir
  split
  · exact h.stop _
  split
  · exact h.crash _
  · exact h
theorem play_inj {q : Dq} (h : q.Inj) (ops : List OpP) : (ops.foldl Dq.play1 q).Inj := by
  induction ops generalizing q with
  | nil => exact h
  | cons x r ih => exact ih (h.play1 x)
end Go.Proofs.Ytpjoaefmpdjjnaa
