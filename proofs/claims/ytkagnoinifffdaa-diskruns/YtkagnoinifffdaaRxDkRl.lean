/- The reference's Create, Rename, Remove, SyncDir. -/
import Derived.Test.YtkagnoinifffdaaRxDkRk
namespace Go.Proofs.Ytkagnoinifffdaa
open Go.RowKit Go.Lib Go.Maps

variable {w w' W : World} {p : Nat} {q q' : Dq} {nu : List Int} {r : Rf} {L : List (Value × Nat)} {fv nv sv cv : Value} {F G B : Nat → Prop}
/-- Names and changes, one more of them, plainly. -/
theorem RelQ.alter (h : RelQ nu q r) (ok : q.Ok) (hi : q.Inj) {c : Rc} {d : By × By × Int} (hc : ChR nu c d) : RelQ nu (q.alter d).done ⟨apR r.nm c, r.sf, r.ch ++ [c]⟩ := by
  refine ⟨h.nm.ap hi.now.ks ok.noneN hc, h.sf, ?_, fun i hi => ?_, h.nd, fun n hn => by have := h.lt n hn; show n < ((q.st + 1 : Nat) : Int); omega, Nat.le_succ_of_le h.le⟩
  · show (r.ch ++ [c]).length = (q.ch ++ [d]).length
    rw [List.length_append, List.length_append, h.cl]; rfl
  · show ChR nu (r.ch ++ [c])[i]! (q.ch ++ [d])[i]!
    have hi : i < (q.ch ++ [d]).length := hi
    rw [List.length_append, List.length_singleton] at hi
    rw [getElem!_pos _ i (by rw [List.length_append, h.cl]; simpa using hi), getElem!_pos _ i (by simpa using hi)]
    by_cases e : i < q.ch.length
    · rw [List.getElem_append_left (by rw [h.cl]; exact e), List.getElem_append_left e, ← getElem!_pos r.ch i (by rw [h.cl]; exact e), ← getElem!_pos q.ch i e]
      exact h.ch i e
    · have e : i = q.ch.length := by omega
      subst e
      rw [List.getElem_append_right (by rw [h.cl]; exact Nat.le_refl _), List.getElem_append_right (Nat.le_refl _)]
      simpa using hc
theorem ChO.out {c : Rc} (h : ChO w w' p q nu r L c fv sv G B) {q2 : Dq} {nu' : List Int} (e1 : q2.room = q.done.room) (e2 : q2.st = q.done.st) (e3 : q2.lf = q.done.lf) (e4 : q2.fb = q.done.fb) (e5 : q2.fs = q.done.fs) (en : nu' = nu) (hr : RelQ nu' q2 ⟨apR r.nm c, r.sf, r.ch ++ [c]⟩) : RfO w w' p q2 G B := by
  subst en
  obtain ⟨nv', cv', G', B', M, h1, h2, h3, h4, k⟩ := h
  exact ⟨G', B', ⟨_, _, _, _, _, _, _, M.cast e1 e2 e3 e4 e5, hr, h1, h2⟩, h3, h4, k⟩
theorem rch_len (hr : RelQ nu q r) (ok : q.Ok) (hi : q.Inj) (hst : q.st < 100000) : r.nm.length < 100000 ∧ r.ch.length < 100000 := by
  have h1 := hr.nm.len hi.now.ks
  have h2 := ok.nmL
  have h3 := ok.sfL
  have h4 := hr.cl
  omega
set_option maxHeartbeats 1000000 in
theorem rremove_r (h : RfD w p q G B) (ok : q.Ok) (hi : q.Inj) (hst : q.st < 10000) (x : By) : Calls Try.prog 49 #[.pointer (some ⟨p, 0, none⟩), .string (sb x)] w fun e w' => e = .returned (.int .i64 (fiE q x)) ∧ RfO w w' p (q.remove x) G B := by
  have SELF : Hid (fiE q x ≠ 0 → RfO w w p (q.remove x) G B) := fun hne => by
    have e : q.remove x = q := by unfold Dq.remove; rw [if_neg hne]
    rw [e]; exact RfO.self h
  obtain ⟨nu, r, L, fv, nv, sv, cv, h, hr, hG, hB⟩ := h
  have cD := rdown_r h
  have cF := rfile_c h hr ok hi (by omega) x
  by_cases e0 : q.lf = 0
  · have E : fiE q x = 174 := by unfold fiE; rw [if_pos e0]
    have X : Hid (RfO w w p (q.remove x) G B) := SELF.out (by rw [E]; decide)
    rw [E]
    rw [decide_eq_true e0] at cD
    clear h hr ok hi hst e0 E cF hG hB SELF
    generalize sb x = sx at *
    go_enter Try.func49, Try.ntmps49
    go_wp2_with fail
    refine cD.mono ?_
    rintro e w' ⟨rfl, rfl⟩
    go_wp2
    go_ret
    exact ⟨rfl, X.out⟩
  rw [decide_eq_false e0] at cD
  have CH : Hid (fiE q x = 0 → Calls Try.prog 67 #[.pointer (some ⟨p, 0, none⟩), .agg #[.int .i64 3, .string (sb x), .string ByteArray.empty, .int .i64 0]] w fun e w' => e = .returned (.int .i64 0) ∧ Hid (RfO w w' p (q.remove x) G B)) := fun hz => by
    have ln := hr.nm.len hi.now.ks
    have l1 := ok.nmL
    refine (rchange_c h hG hB ok.lf.2 (by omega) (by omega) (by have := ok.sfL; have := hr.cl; omega) (3, x, [], 0)).mono ?_
    rintro e w' ⟨rfl, O⟩
    have eS : q.remove x = (q.alter (x, [], 0)).done := by unfold Dq.remove; rw [if_pos hz]
    refine ⟨rfl, ?_⟩
    rw [eS]
    exact O.out.out rfl rfl rfl rfl rfl rfl (hr.alter ok hi (.inr (.inr ⟨rfl, rfl, rfl, rfl⟩)))
  have KEY : Hid (∀ n, FiR nu q x n → n = -1 ∧ Hid (fiE q x = 172) ∨ ∃ f : Nat, n = (f : Int) ∧ Hid (fiE q x = 0)) := fun n hn => by
    rcases hn with ⟨e, hn⟩ | ⟨f, e, hf, en, hm⟩
    · exact .inl ⟨e, by unfold Hid fiE; rw [if_neg e0, if_neg hn]⟩
    · exact .inr ⟨f, e, by unfold Hid fiE; rw [if_neg e0, if_pos hm]⟩
  clear h hr ok hi hst e0 hG hB
  generalize sb x = sx at *
  go_enter Try.func49, Try.ntmps49
  go_wp2_with fail
  refine cD.mono ?_
  rintro e w' ⟨rfl, rfl⟩
  clear cD
  go_wp2_with fail
  refine cF.mono ?_
  rintro e w' ⟨n, rfl, hn, rfl⟩
  clear cF
  rcases KEY.out n hn with ⟨rfl, K⟩ | ⟨f, rfl, K⟩
  · have X : Hid (RfO w' w' p (q.remove x) G B) := SELF.out (by rw [K.out]; decide)
    clear KEY hn CH SELF
    go_wp2
    go_ret
    exact ⟨by rw [K.out]; rfl, X.out⟩
  · have cC := CH.out K.out
    clear KEY hn CH SELF
    go_wp2_with fail
    refine cC.mono ?_
    rintro e w2 ⟨rfl, O⟩
    go_wp2
    go_ret
    exact ⟨by rw [K.out]; rfl, O.out⟩
end Go.Proofs.Ytkagnoinifffdaa
