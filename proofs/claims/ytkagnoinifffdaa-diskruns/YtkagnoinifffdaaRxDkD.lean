/- find, done, Steps, Down, Stop. -/
import Derived.Test.YtkagnoinifffdaaRx3
namespace Go.Proofs.Ytkagnoinifffdaa
open Go.RowKit Go.Lib Go.Maps

variable {w w' : World} {b : Nat} {q q' : Dq} {F G : Nat → Prop} {ks : List Int} {fm nb sn : Nat} {cv : Value} {fv : Int → Value}
/-- What find tells. -/
def fiE (q : Dq) (x : By) : Int := if q.lf = 0 then 174 else if x ∈ kys q.nm then 0 else 172
def fiN (q : Dq) (x : By) : Int := if q.lf = 0 then 0 else num q.nm x
theorem find_c (h : DkAt w b q F) (ok : q.Ok) {x : By} (hx : KWfS x) : Calls Try.prog 60 #[.pointer (some ⟨b, 0, none⟩), .string (sb x)] w fun e w' => e = .returned (.tuple #[.int .i64 (fiN q x), .int .i64 (fiE q x)]) ∧ w = w' := by
  have hr := refusal_c h ok
  obtain ⟨ks, fm, nb, sn, cv, fv, h1, _⟩ := h
  obtain ⟨⟨_, _, c2, _, _, _, _⟩, _⟩ := h1.cells
  have hl := h1.nms.look_ok hx
  generalize hs : sb x = s at *
  clear hs
  by_cases e : q.lf = 0
  · have E : rfE q = 174 := by unfold rfE; rw [if_pos e]
    have E1 : fiE q x = 174 := by unfold fiE; rw [if_pos e]
    have E2 : fiN q x = 0 := by unfold fiN; rw [if_pos e]
    rw [E] at hr
    rw [E1, E2]
    clear h1 ok E E1 E2 hl e c2
    go_enter Try.func60, Try.ntmps60
    go_wp2_with fail
    refine hr.mono ?_
    rintro e w' ⟨rfl, rfl⟩
    go_wp2
    exact bodyPost_ret (v := .tuple #[.int .i64 0, .int .i64 174]) (by simp [results, Try.results60, go_sem]) rfl ⟨rfl, rfl⟩
  · have E : rfE q = 0 := by unfold rfE; rw [if_neg e]
    have E2 : fiN q x = num q.nm x := by unfold fiN; rw [if_neg e]
    rw [E] at hr
    rw [E2]
    by_cases hm : x ∈ kys q.nm
    · have E1 : fiE q x = 0 := by unfold fiE; rw [if_neg e, if_pos hm]
      rw [E1]
      rw [decide_eq_true hm] at hl
      generalize num q.nm x = n at *
      clear h1 ok E E1 E2 e hm
      go_enter Try.func60, Try.ntmps60
      go_wp2_with fail
      refine hr.mono ?_
      rintro e w' ⟨rfl, rfl⟩
      go_wp2
      exact bodyPost_ret (v := .tuple #[.int .i64 n, .int .i64 0]) (by simp [results, Try.results60, go_sem]) rfl ⟨rfl, rfl⟩
    · have E1 : fiE q x = 172 := by unfold fiE; rw [if_neg e, if_neg hm]
      rw [E1, num_none hm]
      rw [decide_eq_false hm] at hl
      generalize num q.nm x = n at *
      clear h1 ok E E1 E2 e hm
      go_enter Try.func60, Try.ntmps60
      go_wp2_with fail
      refine hr.mono ?_
      rintro e w' ⟨rfl, rfl⟩
      go_wp2
      exact bodyPost_ret (v := .tuple #[.int .i64 0, .int .i64 172]) (by simp [results, Try.results60, go_sem]) rfl ⟨rfl, rfl⟩
theorem find_nil (s : ByteArray) (w : World) : Calls Try.prog 60 #[.pointer none, .string s] w fun e w' => e = .returned (.tuple #[.int .i64 0, .int .i64 3]) ∧ w = w' := by
  have hr := refusal_nil w
  go_enter Try.func60, Try.ntmps60
  go_wp2_with fail
  refine hr.mono ?_
  rintro e w' ⟨rfl, rfl⟩
  go_wp2
  exact bodyPost_ret (v := .tuple #[.int .i64 0, .int .i64 3]) (by simp [results, Try.results60, go_sem]) rfl ⟨rfl, rfl⟩
/-- A step is counted. -/
def Dq.done (q : Dq) : Dq := { q with st := q.st + 1, lf := if 0 < q.lf then q.lf - 1 else q.lf }
theorem Dq.Ok.done (h : q.Ok) : q.done.Ok := by
  refine ⟨h.room, ?_, h.nmB, h.sfB, h.chB, h.fb, h.fs, Nat.le_succ_of_le h.nmL, Nat.le_succ_of_le h.sfL⟩
  have := h.lf
  unfold Dq.done
  show -1 ≤ (if 0 < q.lf then q.lf - 1 else q.lf) ∧ (if 0 < q.lf then q.lf - 1 else q.lf) ≤ 9223372036854775807
  split <;> omega
theorem kb_set (h : Kf (fun k => k = b) w w') (i : Nat) (u : Value) : Kf (fun k => k = b) w (w'.setCell ⟨b, i, none⟩ u) := h.set (fun _ => rfl) u
theorem done_c (h : DkM w b q F ks fm nb sn cv fv) (hlf : q.lf ≤ 9223372036854775807) (hst : q.st < 1000000) : Calls Try.prog 59 #[.pointer (some ⟨b, 0, none⟩)] w fun e w' => e = .returned (.int .i64 0) ∧ DkM w' b q.done F ks fm nb sn cv fv ∧ Kf (fun k => k = b) w w' := by
  obtain ⟨⟨_, _, _, _, _, c5, c6⟩, fz⟩ := h.cells
  have f5 := fz 5
  have f6 := fz 6
  have hb := cell_lt c5
  have X : Hid (DkM w b q F ks fm nb sn cv fv) := h
  have e1 : ((q.st + 1 : Nat) : Int) = (q.st : Int) + 1 := by omega
  by_cases e : 0 < q.lf
  · have K : Hid (∀ W, W = (w.setCell ⟨b, 5, none⟩ (.int .i64 ((q.st : Int) + 1))).setCell ⟨b, 6, none⟩ (.int .i64 (q.lf - 1)) → DkM W b q.done F ks fm nb sn cv fv ∧ Kf (fun k => k = b) w W) := fun W hW => by
      subst hW
      refine ⟨X.out.mvB (fun k _ _ hk => ?_) rfl rfl rfl rfl rfl ?_, kb_set (kb_set (Kf.refl _ _) _ _) _ _⟩
      · rw [Below.heap_setCell _ _ _ _ hk, Below.heap_setCell _ _ _ _ hk]
      · rw [heap_set0 (heap_set0 X.out.blk)]
        unfold Dq.done
        simp only [if_pos e, e1]
        rfl
    have e2 : (decide (0 < q.lf)) = true := decide_eq_true e
    clear h X fz
    go_enter Try.func59, Try.ntmps59
    go_wp2
    go_ret
    exact ⟨rfl, K.out _ rfl⟩
  · have K : Hid (∀ W, W = w.setCell ⟨b, 5, none⟩ (.int .i64 ((q.st : Int) + 1)) → DkM W b q.done F ks fm nb sn cv fv ∧ Kf (fun k => k = b) w W) := fun W hW => by
      subst hW
      refine ⟨X.out.mvB (fun k _ _ hk => ?_) rfl rfl rfl rfl rfl ?_, kb_set (Kf.refl _ _) _ _⟩
      · rw [Below.heap_setCell _ _ _ _ hk]
      · rw [heap_set0 X.out.blk]
        unfold Dq.done
        simp only [if_neg e, e1]
        rfl
    clear h X fz
    go_enter Try.func59, Try.ntmps59
    go_wp2
    go_ret
    exact ⟨rfl, K.out _ rfl⟩
theorem steps_c (h : DkAt w b q F) (ok : q.Ok) : Calls Try.prog 28 #[.pointer (some ⟨b, 0, none⟩)] w fun e w' => e = .returned (.int .i64 (q.st : Int)) ∧ w = w' := by
  have hn := none_c h ok
  obtain ⟨ks, fm, nb, sn, cv, fv, h1, _⟩ := h
  obtain ⟨⟨_, _, _, _, _, c5, _⟩, _⟩ := h1.cells
  clear h1 ok
  go_enter Try.func28, Try.ntmps28
  go_wp2_with fail
  refine hn.mono ?_
  rintro e w' ⟨rfl, rfl⟩
  go_wp2
  go_ret
  exact ⟨rfl, rfl⟩
theorem steps_nil (w : World) : Calls Try.prog 28 #[.pointer none] w fun e w' => e = .returned (.int .i64 0) ∧ w = w' := by
  have hn := none_nil w
  go_enter Try.func28, Try.ntmps28
  go_wp2_with fail
  refine hn.mono ?_
  rintro e w' ⟨rfl, rfl⟩
  go_wp2
  go_ret
  exact ⟨rfl, rfl⟩
theorem down_c (h : DkAt w b q F) (ok : q.Ok) : Calls Try.prog 26 #[.pointer (some ⟨b, 0, none⟩)] w fun e w' => e = .returned (.bool (decide (q.lf = 0))) ∧ w = w' := by
  have hr := refusal_c h ok
  by_cases e : q.lf = 0
  · have E : rfE q = 174 := by unfold rfE; rw [if_pos e]
    rw [E] at hr
    rw [decide_eq_true e]
    clear h ok E e
    go_enter Try.func26, Try.ntmps26
    go_wp2_with fail
    refine hr.mono ?_
    rintro e w' ⟨rfl, rfl⟩
    go_wp2
    go_ret
    exact ⟨rfl, rfl⟩
  · have E : rfE q = 0 := by unfold rfE; rw [if_neg e]
    rw [E] at hr
    rw [decide_eq_false e]
    clear h ok E e
    go_enter Try.func26, Try.ntmps26
    go_wp2_with fail
    refine hr.mono ?_
    rintro e w' ⟨rfl, rfl⟩
    go_wp2
    go_ret
    exact ⟨rfl, rfl⟩
theorem down_nil (w : World) : Calls Try.prog 26 #[.pointer none] w fun e w' => e = .returned (.bool false) ∧ w = w' := by
  have hr := refusal_nil w
  go_enter Try.func26, Try.ntmps26
  go_wp2_with fail
  refine hr.mono ?_
  rintro e w' ⟨rfl, rfl⟩
  go_wp2
  go_ret
  exact ⟨rfl, rfl⟩
/-- Stop. -/
def stE (q : Dq) (n : Int) : Int := if q.lf = 0 then 174 else if n < 0 then 1 else 0
def Dq.stop (q : Dq) (n : Int) : Dq := if stE q n = 0 then { q with lf := n } else q
theorem Dq.Ok.stop (h : q.Ok) {n : Int} (hn : n ≤ 9223372036854775807) : (q.stop n).Ok := by
  unfold Dq.stop
  split
  · rename_i e
    refine ⟨h.room, ⟨?_, hn⟩, h.nmB, h.sfB, h.chB, h.fb, h.fs, h.nmL, h.sfL⟩
    unfold stE at e
    show -1 ≤ n
    split at e
    · omega
    · split at e <;> omega
  · exact h
theorem DkAt.self (h : DkAt w b q F) : DkAt w b q (Nw F w w) := by
  obtain ⟨ks, fm, nb, sn, cv, fv, h1, h2, h3, h4⟩ := h
  exact ⟨ks, fm, nb, sn, cv, fv, (h1.wn w).nw, h2, h3, Nw.lt h4 (Nat.le_refl _)⟩
/-- What a call that turns the disk leaves. -/
def DkOut (w w' : World) (b : Nat) (q : Dq) (F : Nat → Prop) : Prop := DkAt w' b q (Nw F w w') ∧ Kf F w w'
theorem DkOut.self (h : DkAt w b q F) : DkOut w w b q F := ⟨h.self, Kf.refl _ _⟩
theorem stop_c (h : DkAt w b q F) (ok : q.Ok) (n : Int) : Calls Try.prog 27 #[.pointer (some ⟨b, 0, none⟩), .int .i64 n] w fun e w' => e = .returned (.int .i64 (stE q n)) ∧ DkOut w w' b (q.stop n) F := by
  have hr := refusal_c h ok
  by_cases e : q.lf = 0
  · have E : rfE q = 174 := by unfold rfE; rw [if_pos e]
    have E1 : stE q n = 174 := by unfold stE; rw [if_pos e]
    have X : Hid (DkOut w w b (q.stop n) F) := by unfold Hid Dq.stop; rw [E1]; exact DkOut.self h
    rw [E] at hr
    rw [E1]
    clear h ok E e E1
    go_enter Try.func27, Try.ntmps27
    go_wp2_with fail
    refine hr.mono ?_
    rintro e w' ⟨rfl, rfl⟩
    go_wp2
    go_ret
    exact ⟨rfl, X.out⟩
  · have E : rfE q = 0 := by unfold rfE; rw [if_neg e]
    rw [E] at hr
    by_cases hn : n < 0
    · have E1 : stE q n = 1 := by unfold stE; rw [if_neg e, if_pos hn]
      have X : Hid (DkOut w w b (q.stop n) F) := by unfold Hid Dq.stop; rw [E1]; exact DkOut.self h
      rw [E1]
      clear h ok E e E1
      go_enter Try.func27, Try.ntmps27
      go_wp2_with fail
      refine hr.mono ?_
      rintro e w' ⟨rfl, rfl⟩
      go_wp2
      go_ret
      exact ⟨rfl, X.out⟩
    · have E1 : stE q n = 0 := by unfold stE; rw [if_neg e, if_neg hn]
      obtain ⟨ks, fm, nb, sn, cv, fv, h1, h2, h3, h4⟩ := h
      obtain ⟨⟨_, _, _, _, _, _, c6⟩, fz⟩ := h1.cells
      have f6 := fz 6
      have X : Hid (DkOut w (w.setCell ⟨b, 6, none⟩ (.int .i64 n)) b (q.stop n) F) := by
        unfold Hid Dq.stop
        rw [if_pos E1]
        have hX : DkM (w.setCell ⟨b, 6, none⟩ (.int .i64 n)) b { q with lf := n } F ks fm nb sn cv fv := by
          refine h1.mvB (fun k _ _ hk => ?_) rfl rfl rfl rfl rfl ?_
          · rw [Below.heap_setCell _ _ _ _ hk]
          · rw [heap_set0 h1.blk]; rfl
        exact ⟨⟨ks, fm, nb, sn, cv, fv, (hX.wn w).nw, h2, h3, Nw.lt h4 (by rw [World.size_setCell]; exact Nat.le_refl _)⟩, Kf.set (Kf.refl _ _) (fun _ => h1.inF.1) _⟩
      rw [E1]
      clear h1 ok E e E1 fz h2 h3 h4
      go_enter Try.func27, Try.ntmps27
      go_wp2_with fail
      refine hr.mono ?_
      rintro e w' ⟨rfl, rfl⟩
      go_wp2
      go_ret
      exact ⟨rfl, X.out⟩
theorem stop_nil (n : Int) (w : World) : Calls Try.prog 27 #[.pointer none, .int .i64 n] w fun e w' => e = .returned (.int .i64 3) ∧ w = w' := by
  have hr := refusal_nil w
  go_enter Try.func27, Try.ntmps27
  go_wp2_with fail
  refine hr.mono ?_
  rintro e w' ⟨rfl, rfl⟩
  go_wp2
  go_ret
  exact ⟨rfl, rfl⟩
end Go.Proofs.Ytkagnoinifffdaa
