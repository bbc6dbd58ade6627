/- A heap that has just these hits: its calls. -/
import Derived.Test.YteaeaoekaoedoaaGreatTkFirsts
namespace Go.Proofs.YteaeaoekaoedoaaGreat.Tk
open Go.RowKit Go.Sort

/-- The heap of size k has the hits m, in their order. -/
def Has (w : World) (hb k : Nat) (v : Value) (m : List Ht) : Prop :=
  ∃ d, Hp w hb (k : Int) v d ∧ MaxH d ∧ d.toList.Perm m ∧ Srtd m ∧ m.length ≤ k ∧ 1 ≤ k ∧ k ≤ 64
theorem Has.gr {w w' : World} {hb k : Nat} {v : Value} {m : List Ht} (h : Has w hb k v m) (g : Gr w w') : Has w' hb k v m := by
  obtain ⟨d, h1, r⟩ := h; exact ⟨d, h1.gr g, r⟩
theorem Has.kp {S : Nat → Prop} {w w' : World} {hb k : Nat} {v : Value} {m : List Ht} (h : Has w hb k v m) (K : Kp S w w') (h1 : ¬ S hb) (h2 : ∀ g, v.ownBlock = some g → ¬ S g) : Has w' hb k v m := by
  obtain ⟨d, hd, r⟩ := h; exact ⟨d, hd.kp K h1 h2, r⟩
theorem Has.lt {w : World} {hb k : Nat} {v : Value} {m : List Ht} (h : Has w hb k v m) : hb < w.heap.size := by obtain ⟨d, h1, _⟩ := h; exact h1.lt
theorem Has.own_lt {w : World} {hb k : Nat} {v : Value} {m : List Ht} (h : Has w hb k v m) {g : Nat} (hg : v.ownBlock = some g) : g < w.heap.size := by
  obtain ⟨d, h1, _⟩ := h; exact YteaeaoekaoedoaaGreat.Tk.own_lt h1.own hg
theorem new_has (k : Nat) (h1 : 1 ≤ k) (h2 : k ≤ 64) (w : World) : Has (w.alloc (.cells #[.int .i64 (k : Int), .slice none 0 0] 113)) w.heap.size k (.slice none 0 0) [] :=
  ⟨#[], new_hp _ w, fun _ _ h => absurd h (Nat.not_lt_zero _), List.Perm.refl _, List.Pairwise.nil, Nat.zero_le _, h1, h2⟩

theorem root_last {d : Array Ht} {m : List Ht} (hm : MaxH d) (p : d.toList.Perm m) (hs : Srtd m) {k : Nat} (hk : m.length = k) (h0 : 0 < k) : d[0]! = m[k - 1]! := by
  have hd : d.size = k := by have := p.length_eq; simp at this; omega
  have a1 : d[0]! ∈ m := p.subset (by rw [getElem!_pos d 0 (by omega)]; exact Array.mem_toList_iff.2 (Array.getElem_mem _))
  have a2 : m[k - 1]! ∈ d.toList := p.symm.subset (by rw [getElem!_pos m (k - 1) (by omega)]; exact List.getElem_mem _)
  have b1 := last_worst hs k hk _ a1
  obtain ⟨i, hi, e⟩ := List.mem_iff_getElem.1 a2
  have b2 := maxh_root hm i (by simpa using hi)
  rw [getElem!_pos d i (by simpa using hi)] at b2
  simp only [Array.getElem_toList] at e
  rw [e] at b2
  exact hlt_tot b2 b1

/-- What Offer leaves. -/
def Offered (w w' : World) (hb k : Nat) (v : Value) (m : List Ht) (x : Ht) : Prop :=
  ∃ v', Has w' hb k v' (keep k m x) ∧ Kp (fun b => b = hb ∨ some b = v.ownBlock) w w' ∧ (v'.ownBlock = v.ownBlock ∨ ∀ g, v'.ownBlock = some g → w.heap.size ≤ g)

theorem offer_has {w : World} {hb k : Nat} {v : Value} {m : List Ht} (h : Has w hb k v m) (x : Ht) :
    Calls Tryz.prog 55 #[.pointer (some ⟨hb, 0, none⟩), hv x] w fun e w' => e = .returned (.bool (kept k m x)) ∧ Offered w w' hb k v m x := by
  have h' := h
  obtain ⟨d, hp, hm, pm, hs, hl, k1, k2⟩ := h
  have hd : d.size = m.length := by have := pm.length_eq; simpa using this
  by_cases c : m.length < k
  · have e : kept k m x = true := by unfold kept; rw [decide_eq_true c]; rfl
    rw [e]
    refine (offer_more hp hm (by omega) (by omega) x).mono ?_
    rintro e w' ⟨rfl, g, cap, d', p1, p2, p3, p4, p5⟩
    refine ⟨rfl, _, ⟨d', p3, p2, ?_, keep_srtd k x hs, by unfold keep; rw [List.length_take]; omega, k1, k2⟩, p4, ?_⟩
    · rw [keep_more x c]
      refine p1.trans ((List.perm_append_singleton x d.toList).trans ((pm.cons x).trans (ins_perm x m).symm))
    · rcases p5 with p5 | p5
      · exact .inl p5.symm
      · right; intro g' hg'; simp [Value.ownBlock] at hg'; omega
  have hk : m.length = k := by omega
  have er := root_last hm pm hs hk (by omega)
  by_cases cx : hlt x m[k - 1]! = true
  · have e : kept k m x = true := by unfold kept; rw [cx]; simp
    rw [e]
    refine (offer_repl hp hm (by omega) (by omega) (by omega) x (by rw [er]; exact cx)).mono ?_
    rintro e w' ⟨rfl, d', p1, p2, p3, p4⟩
    refine ⟨rfl, v, ⟨d', p3, p2, ?_, keep_srtd k x hs, by unfold keep; rw [List.length_take]; omega, k1, k2⟩, p4, .inl rfl⟩
    refine (p1.trans ?_).trans (keep_repl (by omega) hk cx).symm
    -- the set's hits are x and those of m but the last
    have hne : m ≠ [] := by intro e0; subst e0; simp at hk; omega
    obtain ⟨a, z, rfl⟩ : ∃ a z, m = a ++ [z] := ⟨m.dropLast, m.getLast hne, (List.dropLast_concat_getLast hne).symm⟩
    have ez : (a ++ [z])[k - 1]! = z := by
      simp only [List.length_append, List.length_cons, List.length_nil] at hk
      rw [getElem!_pos (a ++ [z]) (k - 1) (by simp; omega), List.getElem_append_right (by omega)]
      simp
    rw [ez] at er
    rw [List.dropLast_concat]
    cases hdl : d.toList with
    | nil =>
      have q0 : d.toList.length = 0 := by rw [hdl]; rfl
      rw [Array.length_toList] at q0; omega
    | cons y r =>
      have hy : d[0]! = y := by
        have hz : 0 < d.size := by omega
        rw [getElem!_pos d 0 hz, ← Array.getElem_toList hz]
        simp [hdl]
      rw [Array.toList_setIfInBounds, hdl, List.set_cons_zero]
      refine List.Perm.cons x ?_
      have q : (y :: r).Perm (z :: a) := by rw [← hdl]; exact pm.trans (List.perm_append_singleton z a)
      rw [← hy, er] at q
      exact List.Perm.cons_inv q
  · have cx' : hlt x m[k - 1]! = false := by simpa using cx
    have e : kept k m x = false := by unfold kept; rw [cx', decide_eq_false c]; rfl
    rw [e]
    refine (offer_no hp (by omega) (by omega) (by omega) x (by rw [er]; exact cx')).mono ?_
    rintro e w' ⟨rfl, g⟩
    refine ⟨rfl, v, ?_, Kp.of_gr g, .inl rfl⟩
    rw [keep_no hs hk cx']
    exact h'.gr g

theorem len_has {w : World} {hb k : Nat} {v : Value} {m : List Ht} (h : Has w hb k v m) : Calls Tryz.prog 98 #[.pointer (some ⟨hb, 0, none⟩)] w fun e w' => e = .returned (.int .i64 (m.length : Nat)) ∧ w' = w := by
  obtain ⟨d, hp, hm, pm, hs, hl, k1, k2⟩ := h
  have := len17 hp
  rwa [show d.size = m.length by have := pm.length_eq; simpa using this] at this
theorem worst_has {w : World} {hb k : Nat} {v : Value} {m : List Ht} (h : Has w hb k v m) (h0 : 0 < m.length) : Calls Tryz.prog 77 #[.pointer (some ⟨hb, 0, none⟩)] w fun e w' => e = .returned (.tuple #[hv m[m.length - 1]!, .bool true]) ∧ Gr w w' := by
  obtain ⟨d, hp, hm, pm, hs, hl, k1, k2⟩ := h
  have hd : d.size = m.length := by have := pm.length_eq; simpa using this
  have := worst15 hp (by omega) (by omega)
  rwa [root_last hm pm hs rfl h0] at this
theorem worst_has_none {w : World} {hb k : Nat} {v : Value} {m : List Ht} (h : Has w hb k v m) (h0 : m.length = 0) : Calls Tryz.prog 77 #[.pointer (some ⟨hb, 0, none⟩)] w fun e w' => e = .returned (.tuple #[hv ⟨0, 0, 0⟩, .bool false]) ∧ Gr w w' := by
  refine worst15_none _ w fun W g => ?_
  have := len_has (h.gr g)
  rwa [h0] at this
theorem list_has {w : World} {hb k : Nat} {v : Value} {m : List Ht} (h : Has w hb k v m) : Calls Tryz.prog 56 #[.pointer (some ⟨hb, 0, none⟩)] w fun e w' => ∃ v', e = .returned v' ∧ Out w w' v' m := by
  obtain ⟨d, hp, hm, pm, hs, hl, k1, k2⟩ := h
  have hd : d.size = m.length := by have := pm.length_eq; simpa using this
  have := list16 hp (by omega)
  rwa [srt_of_perm hs pm] at this
end Go.Proofs.YteaeaoekaoedoaaGreat.Tk
