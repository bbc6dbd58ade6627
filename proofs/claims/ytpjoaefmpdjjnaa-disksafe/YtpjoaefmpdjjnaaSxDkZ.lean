/- What a crash leaves of one file, plainly: each file has one name. -/
import Derived.Test.YtpjoaefmpdjjnaaSxDkP1
namespace Go.Proofs.Ytpjoaefmpdjjnaa
open Go.RowKit Go.Lib Go.Maps

def nbs (l : Nms) : List Int := l.map Prod.snd
theorem num_inj {l : Nms} (hn : (nbs l).Nodup) {x y : By} (hx : x ∈ kys l) (hy : y ∈ kys l) (h : num l x = num l y) : x = y := by
  have h1 := mem_num hx
  have h2 := mem_num hy
  rw [h] at h1
  induction l with
  | nil => simp [kys] at hx
  | cons a r ih =>
    have hd := List.nodup_cons.1 (show (a.2 :: nbs r).Nodup from hn)
    generalize num (a :: r) y = n at *
    rcases List.mem_cons.1 h1 with e1 | e1
    · rcases List.mem_cons.1 h2 with e2 | e2
      · have := e1.trans e2.symm
        injection this
      · exact absurd (by rw [← e1]; exact List.mem_map.2 ⟨_, e2, rfl⟩) hd.1
    · rcases List.mem_cons.1 h2 with e2 | e2
      · exact absurd (by rw [← e2]; exact List.mem_map.2 ⟨_, e1, rfl⟩) hd.1
      · clear ih hx hy h
        -- both entries lie in r, with one number
        have key : ∀ (r : Nms), (nbs r).Nodup → (x, n) ∈ r → (y, n) ∈ r → x = y := by
          intro r
          induction r with
          | nil => intro _ h; simp at h
          | cons b s ih =>
            intro hn h1 h2
            have hd := List.nodup_cons.1 (show (b.2 :: nbs s).Nodup from hn)
            rcases List.mem_cons.1 h1 with e1 | e1
            · rcases List.mem_cons.1 h2 with e2 | e2
              · have := e1.trans e2.symm
                injection this
              · exact absurd (by rw [← e1]; exact List.mem_map.2 ⟨_, e2, rfl⟩) hd.1
            · rcases List.mem_cons.1 h2 with e2 | e2
              · exact absurd (by rw [← e2]; exact List.mem_map.2 ⟨_, e1, rfl⟩) hd.1
              · exact ih hd.2 e1 e2
        exact key r hd.2 e1 e2
/-- A file that has a name goes through a crash once. -/
theorem crT_at {nm : Nms} (hi : (nbs nm).Nodup) {L : List By} (hL : ∀ x ∈ L, x ∈ kys nm) (hd : L.Nodup) {j : Nat} (hj : j < L.length) (cs : List Int) (fb : Int → By) (fs : Int → Nat) (i : Nat) (hil : i ≤ L.length) :
    (i ≤ j → (crT nm L cs fb fs i).1 (num nm L[j]!) = fb (num nm L[j]!) ∧ (crT nm L cs fb fs i).2 (num nm L[j]!) = fs (num nm L[j]!)) ∧
    (j < i → (crT nm L cs fb fs i).1 (num nm L[j]!) = crB (fb (num nm L[j]!)) (fs (num nm L[j]!)) (chc cs (j + 1)) ∧ (crT nm L cs fb fs i).2 (num nm L[j]!) = crN (fb (num nm L[j]!)) (fs (num nm L[j]!)) (chc cs (j + 1))) := by
  induction i with
  | zero => exact ⟨fun _ => ⟨rfl, rfl⟩, fun h => absurd h (Nat.not_lt_zero _)⟩
  | succ i ih =>
    obtain ⟨h1, h2⟩ := ih (by omega)
    have hii : i < L.length := by omega
    have ne : i ≠ j → num nm L[j]! ≠ num nm L[i]! := fun e h => by
      have a := hL L[j]! (by rw [getElem!_pos L j hj]; exact List.getElem_mem hj)
      have c := hL L[i]! (by rw [getElem!_pos L i hii]; exact List.getElem_mem hii)
      have := num_inj hi a c h
      rw [getElem!_pos L j hj, getElem!_pos L i hii] at this
      exact e ((List.getElem_inj hd).1 this).symm
    refine ⟨fun h => ?_, fun h => ?_⟩
    · obtain ⟨a, c⟩ := h1 (by omega)
      show upd _ _ _ _ = _ ∧ upd _ _ _ _ = _
      rw [upd_ne _ _ (ne (by omega)), upd_ne _ _ (ne (by omega))]
      exact ⟨a, c⟩
    · by_cases e : i = j
      · subst e
        obtain ⟨a, c⟩ := h1 (Nat.le_refl _)
        show upd _ _ _ _ = _ ∧ upd _ _ _ _ = _
        rw [upd_same, upd_same, a, c]
        exact ⟨rfl, rfl⟩
      · obtain ⟨a, c⟩ := h2 (by omega)
        show upd _ _ _ _ = _ ∧ upd _ _ _ _ = _
        rw [upd_ne _ _ (ne e), upd_ne _ _ (ne e)]
        exact ⟨a, c⟩
theorem shr_zero (c : Int) : shr c 0 = 0 := by
  have := shr_le c 0; omega
/-- A file of which all is safe stays as it is. -/
theorem crB_all (l : By) (c : Int) : crB l l.length c = l := by
  unfold crB
  rw [Nat.sub_self, shr_zero]
  split
  · simp
  · simp
/-- What a crash leaves begins with what is safe, and is no longer than it was. -/
theorem crB_safe {l : By} {s : Nat} (c : Int) (hs : s ≤ l.length) : s ≤ (crB l s c).length ∧ (crB l s c).length ≤ l.length ∧ (crB l s c).take s = l.take s ∧ ((∀ i, s ≤ i → i < (crB l s c).length → (crB l s c)[i]! = 0) ∨ ∀ i, i < (crB l s c).length → (crB l s c)[i]! = l[i]!) := by
  have e := crB_len c hs
  have h1 := crN_le c hs
  have h2 : s ≤ crN l s c := by unfold crN; omega
  refine ⟨by omega, by omega, ?_, ?_⟩
  · unfold crB
    split
    · rw [List.take_append_of_le_length (by simp; omega), List.take_take, Nat.min_self]
    · rw [List.take_take, Nat.min_eq_left (by omega)]
  · by_cases hc : c < 0
    · refine .inl fun i h3 h4 => ?_
      have e2 : crB l s c = l.take s ++ List.replicate (shr c (l.length - s)) 0 := by unfold crB; rw [if_pos hc]
      rw [getElem!_pos _ i h4]
      simp only [e2]
      rw [List.getElem_append_right (by simp; omega)]
      simp
    · refine .inr fun i h4 => ?_
      have e2 : crB l s c = l.take (s + shr c (l.length - s)) := by unfold crB; rw [if_neg hc]
      rw [getElem!_pos _ i h4, getElem!_pos l i (by omega)]
      simp only [e2]
      rw [List.getElem_take]
end Go.Proofs.Ytpjoaefmpdjjnaa
