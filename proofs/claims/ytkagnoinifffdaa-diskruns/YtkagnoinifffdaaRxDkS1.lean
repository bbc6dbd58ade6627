/- theodolitekeep.Texts; a disk that is to stop, beside one that is not, plainly. -/
import Derived.Test.YtkagnoinifffdaaRxDkP2
namespace Go.Proofs.Ytkagnoinifffdaa
open Go.RowKit Go.Lib Go.Maps Go.Sort

variable {w w0 W W' : World} {b b' : Nat} {q q' q2 : Dq} {F G : Nat → Prop}
theorem encStr_get' {l : List By} {i : Nat} (hi : i < l.length) : (l.map encStr)[i]? = some (.string (sb l[i]!)) := encStr_get hi
theorem OwnT.at_ {base : Nat} {v : Value} {l : List By} (h : OwnT w base v l) : ∃ a cap, v = .slice a l.length cap ∧ ∀ i, i < l.length → ∃ g, a = some ⟨g, 0, none⟩ ∧ w.cell? ⟨g, i, none⟩ = some (.string (sb l[i]!)) := by
  obtain ⟨a, cap, rfl⟩ := row_fm h
  refine ⟨a, cap, rfl, fun i hi => ?_⟩
  rcases id h.2 with ⟨e, e0⟩ | ⟨g, cap', cur, e, _⟩
  · omega
  · injection e with e1
    subst e1
    refine ⟨g, rfl, ?_⟩
    have := World.ownsRow.cells h (g := g) rfl i _ (encStr_get' hi)
    rw [Addr.add_lit, Nat.zero_add] at this
    exact this
set_option maxHeartbeats 1000000 in
theorem texts_same {u v : Value} {B1 B2 : Nat} {l : List By} (hu : OwnT w B1 u l) (hv : OwnT w B2 v l) (hl : l.length ≤ 1000000) :
    Calls Try.prog 25 #[u, v] w fun e w' => e = .returned (.bool true) ∧ Gb w w' := by
  obtain ⟨a, ca, rfl, ha⟩ := hu.at_
  obtain ⟨b, cb, rfl, hb⟩ := hv.at_
  have A : Hid (∀ i, i < l.length → ∃ g, a = some ⟨g, 0, none⟩ ∧ w.cell? ⟨g, i, none⟩ = some (.string (sb l[i]!))) := ha
  have B : Hid (∀ i, i < l.length → ∃ g, b = some ⟨g, 0, none⟩ ∧ w.cell? ⟨g, i, none⟩ = some (.string (sb l[i]!))) := hb
  obtain ⟨n, hN⟩ : ∃ n, n = l.length := ⟨_, rfl⟩
  have N : Hid (n = l.length) := hN
  rw [← hN] at hl ⊢
  clear ha hb hN hu hv
  go_enter Try.func25, Try.ntmps25
  go_wp2
  go_loopw [5] (fun iv W => ∃ q : Nat, iv = .int .i64 (q : Int) ∧ q ≤ n ∧ Hid (Gb w W)) (fun iv _ => n - (intOf iv).toNat)
  case atStart => exact ⟨0, rfl, Nat.zero_le _, Below.refl _ _⟩
  case round =>
    obtain ⟨q, rfl, hq, X⟩ := hrel
    by_cases hqn : q < n
    · have hqi : (q : Int) < (n : Int) := by omega
      obtain ⟨b1, e1, k1⟩ := A.out q (by have := N.out; omega)
      obtain ⟨b2, e2, k2⟩ := B.out q (by have := N.out; omega)
      have k1 := gb_keeps X.out k1
      have k2 := gb_keeps X.out k2
      generalize sb l[q]! = z at *
      subst e1
      subst e2
      go_wp2
      go_quiet (fail)
      go_wp2
      exact ⟨⟨q + 1, by simp, hqn, below_drewN X.out _⟩, by simp [intOf]; omega⟩
    · have e : q = n := by omega
      subst e
      go_wp2
      go_ret
      exact ⟨rfl, X.out⟩
/-- The same disk, but that it stops behind so many steps. -/
def Dq.wl (q : Dq) (m : Int) : Dq := { q with lf := m }
theorem done_wl {m : Int} (h : 0 < m) : (q.wl m).done = q.done.wl (m - 1) := by
  unfold Dq.done Dq.wl
  simp only [if_pos h]
theorem done_lf (h : q.lf = -1) : q.done.lf = -1 := by
  show (if 0 < q.lf then q.lf - 1 else q.lf) = -1
  rw [h]; rfl
theorem fiE_wl {m : Int} (h : q.lf ≠ 0) (hm : m ≠ 0) (x : By) : fiE (q.wl m) x = fiE q x := by
  unfold fiE
  rw [if_neg (show ¬ (q.wl m).lf = 0 from hm), if_neg h]; rfl
theorem fiN_wl {m : Int} (h : q.lf ≠ 0) (hm : m ≠ 0) (x : By) : fiN (q.wl m) x = fiN q x := by
  unfold fiN
  rw [if_neg (show ¬ (q.wl m).lf = 0 from hm), if_neg h]; rfl
theorem usdO_wl {m : Int} (h : q.lf ≠ 0) (hm : m ≠ 0) : usdO (q.wl m) = usdO q := by
  unfold usdO
  rw [if_neg (show ¬ (q.wl m).lf = 0 from hm), if_neg h]; rfl
/-- What a call does to both. -/
structure WlS (n : Int) (a b : Dq) : Prop where
  eq : a = b.wl (n - (b.st : Int))
  lf : b.lf = -1
  le : (b.st : Int) ≤ n
theorem WlS.step {n : Int} {a c : Dq} (h : WlS n a c) (hne : (c.st : Int) ≠ n) {T : Dq → Dq} (hT : ∀ m, T (c.wl m) = (T c).wl m) (hs : (T c).st = c.st) (hl : (T c).lf = c.lf) {E1 E2 : Prop} [Decidable E1] [Decidable E2] (hE : E1 ↔ E2) : WlS n (if E1 then (T a).done else a) (if E2 then (T c).done else c) := by
  have hle := h.le
  by_cases e : E2
  · rw [if_pos (hE.2 e), if_pos e, h.eq, hT, done_wl (by omega)]
    refine ⟨?_, done_lf (hl.trans h.lf), ?_⟩
    · rw [show ((T c).done.st : Int) = (c.st : Int) + 1 by rw [done_st, hs]; omega]
      congr 1; omega
    · rw [done_st, hs]; omega
  · rw [if_neg (fun h => e (hE.1 h)), if_neg e]
    exact h
theorem WlS.play1 {n : Int} {a c : Dq} (h : WlS n a c) (hne : (c.st : Int) ≠ n) {x : OpP} (h8 : x.1 ≠ 8) (h9 : x.1 ≠ 9) : WlS n (a.play1 x) (c.play1 x) := by
  have hle := h.le
  have hc : c.lf ≠ 0 := by rw [h.lf]; decide
  have hm : n - (c.st : Int) ≠ 0 := by omega
  unfold Dq.play1
  by_cases e1 : x.1 = 1
  · rw [if_pos e1, if_pos e1]
    unfold Dq.create
    refine h.step hne (T := fun q => q.made.alter ([], x.2.1, (q.st : Int))) (fun m => rfl) rfl rfl ?_
    have : crE a x.2.1 = crE c x.2.1 := by
      rw [h.eq]
      unfold crE
      rw [if_neg (show ¬ (c.wl (n - (c.st : Int))).lf = 0 from hm), if_neg hc]; rfl
    rw [this]
  rw [if_neg e1, if_neg e1]
  by_cases e2 : x.1 = 2
  · rw [if_pos e2, if_pos e2]
    unfold Dq.append
    refine h.step hne (T := fun q => { q with fb := upd q.fb (num q.nm x.2.1) (q.fb (num q.nm x.2.1) ++ x.2.2.2.1), fs := upd q.fs (num q.nm x.2.1) (q.fs (num q.nm x.2.1)) }) (fun m => rfl) rfl rfl ?_
    have : apE a x.2.1 x.2.2.2.1.length = apE c x.2.1 x.2.2.2.1.length := by
      rw [h.eq]
      unfold apE
      rw [fiE_wl hc hm, usdO_wl hc hm]; rfl
    rw [this]
  rw [if_neg e2, if_neg e2]
  by_cases e3 : x.1 = 3
  · rw [if_pos e3, if_pos e3]
    unfold Dq.sync
    refine h.step hne (T := fun q => { q with fb := upd q.fb (num q.nm x.2.1) (q.fb (num q.nm x.2.1)), fs := upd q.fs (num q.nm x.2.1) (q.fb (num q.nm x.2.1)).length }) (fun m => rfl) rfl rfl ?_
    rw [h.eq, fiE_wl hc hm]
  rw [if_neg e3, if_neg e3]
  by_cases e4 : x.1 = 4
  · rw [if_pos e4, if_pos e4]
    unfold Dq.rename
    have hN : fiN a x.2.1 = fiN c x.2.1 := by rw [h.eq, fiN_wl hc hm]
    rw [hN]
    refine h.step hne (T := fun q => q.alter (x.2.1, x.2.2.1, fiN c x.2.1)) (fun m => rfl) rfl rfl ?_
    have : reE a x.2.1 x.2.2.1 = reE c x.2.1 x.2.2.1 := by
      unfold reE
      rw [h.eq, fiE_wl hc hm]
    rw [this]
  rw [if_neg e4, if_neg e4]
  by_cases e5 : x.1 = 5
  · rw [if_pos e5, if_pos e5]
    unfold Dq.remove
    refine h.step hne (T := fun q => q.alter (x.2.1, [], 0)) (fun m => rfl) rfl rfl ?_
    rw [h.eq, fiE_wl hc hm]
  rw [if_neg e5, if_neg e5]
  by_cases e6 : x.1 = 6
  · rw [if_pos e6, if_pos e6]
    unfold Dq.syncDir
    have ha : a.lf ≠ 0 := by rw [h.eq]; exact hm
    rw [if_neg ha, if_neg hc]
    have := h.step hne (T := Dq.settle) (fun m => rfl) rfl rfl (E1 := True) (E2 := True) Iff.rfl
    simpa using this
  rw [if_neg e6, if_neg e6, if_neg h8, if_neg h8, if_neg h9, if_neg h9]
  exact h
theorem WlS.names {n : Int} {a c : Dq} (h : WlS n a c) (hne : (c.st : Int) ≠ n) : nmL a = nmL c := by
  have hle := h.le
  have hc : c.lf ≠ 0 := by rw [h.lf]; decide
  unfold nmL
  rw [if_neg hc, h.eq, if_neg (show ¬ (c.wl (n - (c.st : Int))).lf = 0 by show ¬ (n - (c.st : Int)) = 0; omega)]; rfl
theorem WlS.crash {n : Int} {a c : Dq} (h : WlS n a c) (cs : List Int) : a.crash cs = c.crash cs := by
  rw [h.eq]; rfl
end Go.Proofs.Ytkagnoinifffdaa
