/- DiskSafe: the state that its first loop keeps, and the calls on it. -/
import Derived.Test.YtpjoaefmpdjjnaaSxDkZ7
namespace Go.Proofs.Ytpjoaefmpdjjnaa
open Go.RowKit Go.Lib Go.Maps

variable {w W W' : World} {b : Nat} {q q' : Dq} {x : By} {m s n : Nat} {u v z : Value}
/-- The file x has n bytes, that v tells; the first s, that z tells, are safe; so many steps at most. -/
def LpS (w : World) (b : Nat) (x : By) (m s n : Nat) (z v : Value) (W : World) : Prop :=
  ∃ q all, SaE w W b q [(z, all.take s), (v, all)] ∧ SfI q x all s ∧ s ≤ all.length ∧ all.length = n ∧ q.Ok ∧ q.st ≤ m
theorem LpS.base (h : LpS w b x m s n z v W) : Gb w W := by
  obtain ⟨q, all, h, _⟩ := h
  exact h.base
theorem LpS.gb (h : LpS w b x m s n z v W) (g : Gb W W') : LpS w b x m s n z v W' := by
  obtain ⟨q, all, h, r⟩ := h
  exact ⟨q, all, h.gb g, r⟩
theorem LpS.more (h : LpS w b x m s n z v W) {k : Nat} (hk : m ≤ k) : LpS w b x k s n z v W := by
  obtain ⟨q, all, h1, h2, h3, h4, h5, h6⟩ := h
  exact ⟨q, all, h1, h2, h3, h4, h5, Nat.le_trans h6 hk⟩
theorem append_st (q : Dq) (x l : By) : (q.append x l).st ≤ q.st + 1 := by
  unfold Dq.append
  split
  · exact Nat.le_of_eq (done_st _)
  · exact Nat.le_succ _
theorem sync_st (q : Dq) (x : By) : (q.sync x).st ≤ q.st + 1 := by
  unfold Dq.sync
  split
  · exact Nat.le_of_eq (done_st _)
  · exact Nat.le_succ _
/-- Append, and what the law's own copy has become where it is told so. -/
theorem LpS.append {a : Option Addr} {c : Nat} (h : LpS w b x m s n z (.slice a n c) W) (hm : m < 100000) (hx : KWfS x) {l : By} (hu : RdY w u l) (hl : l.length ≤ 65536) :
    ∃ r : Int, Calls Try.prog 22 #[.pointer (some ⟨b, 0, none⟩), .string (sb x), u] W fun e w' => e = .returned (.int .i64 r) ∧ Hid (Gb w w' ∧ (r ≠ 0 → LpS w b x (m + 1) s n z (.slice a n c) w') ∧
      (r = 0 → ∀ X, Gb w' X → ∃ ax c' Y, (∀ ty, (Builtin.append_ #[33, 33] ty #[.slice a n n, u]).run Try.prog X = .ok (.slice ax (n + l.length) c') Y) ∧ Gb X Y ∧ Hid (LpS w b x (m + 1) s (n + l.length) z (.slice ax (n + l.length) c') Y))) := by
  obtain ⟨q, all, h1, h2, h3, rfl, h5, h6⟩ := h
  have g := h1.base
  refine ⟨apE q x l.length, (h1.call fun F h => append_c h h5 (by omega) hx (hu.gb g).ag (by omega)).mono ?_⟩
  rintro e w' ⟨rfl, S⟩
  have S := S.out
  have ok' := h5.append x l
  have st' := append_st q x l
  have sf := h2.append l
  refine ⟨rfl, S.base, fun hr => ?_, fun hr X gX => ?_⟩
  · rw [if_neg hr] at sf
    exact ⟨_, all, S, sf, h3, rfl, ok', by omega⟩
  · rw [if_pos hr] at sf
    have SX := S.gb gX
    have hb := ok'.fb (num (q.append x l).nm x)
    rw [sf.fb, List.length_append] at hb
    obtain ⟨ax, c', Y, ha, gY, SY⟩ := SX.app (a := a) (c := c) (l := all) (List.mem_cons_of_mem _ (List.mem_cons_self ..)) (hu.gb SX.base) (by omega)
    refine ⟨ax, c', Y, ha, gY, _, all ++ l, ?_, sf, by rw [List.length_append]; omega, by rw [List.length_append], ok', by omega⟩
    have e : (all ++ l).take s = all.take s := List.take_append_of_le_length h3
    rw [e, ← List.length_append]
    exact SY.out.sub fun p hp => by
      rcases List.mem_cons.1 hp with rfl | hp
      · exact List.mem_cons_of_mem _ (List.mem_cons_self ..)
      · rw [List.mem_singleton.1 hp]; exact List.mem_cons_self ..
theorem LpS.cap {a : Option Addr} {c : Nat} (h : LpS w b x m s n z (.slice a n c) W) : n ≤ c ∧ (a = none → n = 0 ∧ c = 0) := by
  obtain ⟨q, all, h1, _, _, rfl, _⟩ := h
  obtain ⟨⟨_, _, e, hc, _⟩, hn⟩ := h1.rd (v := .slice a all.length c) (l := all) (by simp)
  cases e
  exact ⟨hc, fun e => by subst e; exact hn _ _ rfl⟩
theorem LpS.sync (h : LpS w b x m s n z v W) (hm : m < 100000) (hx : KWfS x) :
    Calls Try.prog 20 #[.pointer (some ⟨b, 0, none⟩), .string (sb x)] W fun e w' => e = .returned (.int .i64 0) ∧ Hid (LpS w b x (m + 1) n n v v w') := by
  obtain ⟨q, all, h1, h2, h3, rfl, h5, h6⟩ := h
  have c := h1.call fun F h => sync_c h h5 (by omega) hx
  rw [h2.fi] at c
  refine c.mono ?_
  rintro e w' ⟨rfl, S⟩
  have := sync_st q x
  exact ⟨rfl, _, all, S.out.sub (by simp), h2.sync, Nat.le_refl _, rfl, h5.sync x, by omega⟩
end Go.Proofs.Ytpjoaefmpdjjnaa
