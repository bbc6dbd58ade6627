import Derived.Test.YtcbhhdjjanekaaaGreatDoorWxDkC
/- find, done, Steps, Down, Stop. -/
namespace Go.Proofs.YtcbhhdjjanekaaaGreatDoor
open Go.RowKit Go.Lib Go.Maps

variable {w w' : World} {b : Nat} {q q' : Dq} {F G : Nat → Prop} {ks : List Int} {fm nb sn : Nat} {cv : Value} {fv : Int → Value}
/-- What find tells. -/
def fiE (q : Dq) (x : By) : Int := if q.lf = 0 then 174 else if x ∈ kys q.nm then 0 else 172
def fiN (q : Dq) (x : By) : Int := if q.lf = 0 then 0 else num q.nm x
theorem find_c (h : DkAt w b q F) (ok : q.Ok) {x : By} (hx : KWfS x) : Calls Tryz.prog 70 #[.pointer (some ⟨b, 0, none⟩), .string (sb x)] w fun e w' => e = .returned (.tuple #[.int .i64 (fiN q x), .int .i64 (fiE q x)]) ∧ w = w' := by
  have hr := refusal_c h ok
  obtain ⟨ks, fm, nb, sn, cv, fv, h1, _⟩ := h
  obtain ⟨⟨_, _, c2, _, _, _, _⟩, _⟩ := h1.cells
  have hl := h1.nms.look_ok hx
  generalize hs : sb x = s at *
  clear hs
  by_cases e : q.lf = 0
  · have E : rfE q = 174 := by unfold rfE; rw [if_pos e]
    have E1 : fiE q x = 174 := by unfold fiE; rw [if_pos e]
    have E2 : fiN q x = 0 := by unfold fiN; rw [if_pos e]
    rw [E] at hr
    rw [E1, E2]
    clear h1 ok E E1 E2 hl e c2
    go_enter Tryz.func70, Tryz.ntmps70
    go_wp2_with fail
    refine hr.mono ?_
    rintro e w' ⟨rfl, rfl⟩
    go_wp2
    exact bodyPost_ret (v := .tuple #[.int .i64 0, .int .i64 174]) (by simp [results, Tryz.results70, go_sem]) rfl ⟨rfl, rfl⟩
  · have E : rfE q = 0 := by unfold rfE; rw [if_neg e]
    have E2 : fiN q x = num q.nm x := by unfold fiN; rw [if_neg e]
    rw [E] at hr
    rw [E2]
    by_cases hm : x ∈ kys q.nm
    · have E1 : fiE q x = 0 := by unfold fiE; rw [if_neg e, if_pos hm]
      rw [E1]
      rw [decide_eq_true hm] at hl
      generalize num q.nm x = n at *
      clear h1 ok E E1 E2 e hm
      go_enter Tryz.func70, Tryz.ntmps70
      go_wp2_with fail
      refine hr.mono ?_
      rintro e w' ⟨rfl, rfl⟩
      go_wp2
      exact bodyPost_ret (v := .tuple #[.int .i64 n, .int .i64 0]) (by simp [results, Tryz.results70, go_sem]) rfl ⟨rfl, rfl⟩
    · have E1 : fiE q x = 172 := by unfold fiE; rw [if_neg e, if_neg hm]
      rw [E1, num_none hm]
      rw [decide_eq_false hm] at hl
      generalize num q.nm x = n at *
      clear h1 ok E E1 E2 e hm
      go_enter Tryz.func70, Tryz.ntmps70
      go_wp2_with fail
      refine hr.mono ?_
      rintro e w' ⟨rfl, rfl⟩
      go_wp2
      exact bodyPost_ret (v := .tuple #[.int .i64 0, .int .i64 172]) (by simp [results, Tryz.results70, go_sem]) rfl ⟨rfl, rfl⟩
theorem find_nil (s : ByteArray) (w : World) : Calls Tryz.prog 70 #[.pointer none, .string s] w fun e w' => e = .returned (.tuple #[.int .i64 0, .int .i64 3]) ∧ w = w' := by
  have hr := refusal_nil w
  go_enter Tryz.func70, Tryz.ntmps70
  go_wp2_with fail
  refine hr.mono ?_
  rintro e w' ⟨rfl, rfl⟩
  go_wp2
  exact bodyPost_ret (v := .tuple #[.int .i64 0, .int .i64 3]) (by simp [results, Tryz.results70, go_sem]) rfl ⟨rfl, rfl⟩
/-- A step is counted. -/
def Dq.done (q : Dq) : Dq := { q with st := q.st + 1, lf := if 0 < q.lf then q.lf - 1 else q.lf }
theorem Dq.Ok.done (h : q.Ok) : q.done.Ok := by
  refine ⟨h.room, ?_, h.nmB, h.sfB, h.chB, h.fb, h.fs, Nat.le_succ_of_le h.nmL, Nat.le_succ_of_le h.sfL⟩
  have := h.lf
  unfold Dq.done
  show -1 ≤ (if 0 < q.lf then q.lf - 1 else q.lf) ∧ (if 0 < q.lf then q.lf - 1 else q.lf) ≤ 9223372036854775807
  split <;> omega
theorem kb_set (h : Kf (fun k => k = b) w w') (i : Nat) (u : Value) : Kf (fun k => k = b) w (w'.setCell ⟨b, i, none⟩ u) := h.set (fun _ => rfl) u
theorem done_c (h : DkM w b q F ks fm nb sn cv fv) (hlf : q.lf ≤ 9223372036854775807) (hst : q.st < 1000000) : Calls Tryz.prog 71 #[.pointer (some ⟨b, 0, none⟩)] w fun e w' => e = .returned (.int .i64 0) ∧ DkM w' b q.done F ks fm nb sn cv fv ∧ Kf (fun k => k = b) w w' := by
  obtain ⟨⟨_, _, _, _, _, c5, c6⟩, fz⟩ := h.cells
  have f5 := fz 5
  have f6 := fz 6
  have hb := cell_lt c5
  have X : Hid (DkM w b q F ks fm nb sn cv fv) := h
  have e1 : ((q.st + 1 : Nat) : Int) = (q.st : Int) + 1 := by omega
  by_cases e : 0 < q.lf
  · have K : Hid (∀ W, W = (w.setCell ⟨b, 5, none⟩ (.int .i64 ((q.st : Int) + 1))).setCell ⟨b, 6, none⟩ (.int .i64 (q.lf - 1)) → DkM W b q.done F ks fm nb sn cv fv ∧ Kf (fun k => k = b) w W) := fun W hW => by
      subst hW
      refine ⟨X.out.mvB (fun k _ _ hk => ?_) rfl rfl rfl rfl rfl ?_, kb_set (kb_set (Kf.refl _ _) _ _) _ _⟩
      · rw [Below.heap_setCell _ _ _ _ hk, Below.heap_setCell _ _ _ _ hk]
      · rw [heap_set0 (heap_set0 X.out.blk)]
        unfold Dq.done
        simp only [if_pos e, e1]
        rfl
    have e2 : (decide (0 < q.lf)) = true := decide_eq_true e
    clear h X fz
    go_enter Tryz.func71, Tryz.ntmps71
    go_wp2
    go_ret
    exact ⟨rfl, K.out _ rfl⟩
  · have K : Hid (∀ W, W = w.setCell ⟨b, 5, none⟩ (.int .i64 ((q.st : Int) + 1)) → DkM W b q.done F ks fm nb sn cv fv ∧ Kf (fun k => k = b) w W) := fun W hW => by
      subst hW
      refine ⟨X.out.mvB (fun k _ _ hk => ?_) rfl rfl rfl rfl rfl ?_, kb_set (Kf.refl _ _) _ _⟩
      · rw [Below.heap_setCell _ _ _ _ hk]
      · rw [heap_set0 X.out.blk]
        unfold Dq.done
        simp only [if_neg e, e1]
        rfl
    clear h X fz
    go_enter Tryz.func71, Tryz.ntmps71
    go_wp2
    go_ret
    exact ⟨rfl, K.out _ rfl⟩
theorem down_c (h : DkAt w b q F) (ok : q.Ok) : Calls Tryz.prog 15 #[.pointer (some ⟨b, 0, none⟩)] w fun e w' => e = .returned (.bool (decide (q.lf = 0))) ∧ w = w' := by
  have hr := refusal_c h ok
  by_cases e : q.lf = 0
  · have E : rfE q = 174 := by unfold rfE; rw [if_pos e]
    rw [E] at hr
    rw [decide_eq_true e]
    clear h ok E e
    go_enter Tryz.func15, Tryz.ntmps15
    go_wp2_with fail
    refine hr.mono ?_
    rintro e w' ⟨rfl, rfl⟩
    go_wp2
    go_ret
    exact ⟨rfl, rfl⟩
  · have E : rfE q = 0 := by unfold rfE; rw [if_neg e]
    rw [E] at hr
    rw [decide_eq_false e]
    clear h ok E e
    go_enter Tryz.func15, Tryz.ntmps15
    go_wp2_with fail
    refine hr.mono ?_
    rintro e w' ⟨rfl, rfl⟩
    go_wp2
    go_ret
    exact ⟨rfl, rfl⟩
theorem down_nil (w : World) : Calls Tryz.prog 15 #[.pointer none] w fun e w' => e = .returned (.bool false) ∧ w = w' := by
  have hr := refusal_nil w
  go_enter Tryz.func15, Tryz.ntmps15
  go_wp2_with fail
  refine hr.mono ?_
  rintro e w' ⟨rfl, rfl⟩
  go_wp2
  go_ret
  exact ⟨rfl, rfl⟩
/-- Stop. -/
def stE (q : Dq) (n : Int) : Int := if q.lf = 0 then 174 else if n < 0 then 1 else 0
def Dq.stop (q : Dq) (n : Int) : Dq := if stE q n = 0 then { q with lf := n } else q
theorem Dq.Ok.stop (h : q.Ok) {n : Int} (hn : n ≤ 9223372036854775807) : (q.stop n).Ok := by
  unfold Dq.stop
  split
  · rename_i e
    refine ⟨h.room, ⟨?_, hn⟩, h.nmB, h.sfB, h.chB, h.fb, h.fs, h.nmL, h.sfL⟩
    unfold stE at e
    show -1 ≤ n
    split at e
    · omega
    · split at e <;> omega
  · exact h
theorem DkAt.self (h : DkAt w b q F) : DkAt w b q (Nw F w w) := by
  obtain ⟨ks, fm, nb, sn, cv, fv, h1, h2, h3, h4⟩ := h
  exact ⟨ks, fm, nb, sn, cv, fv, (h1.wn w).nw, h2, h3, Nw.lt h4 (Nat.le_refl _)⟩
/-- What a call that turns the disk leaves. -/
def DkOut (w w' : World) (b : Nat) (q : Dq) (F : Nat → Prop) : Prop := DkAt w' b q (Nw F w w') ∧ Kf F w w'
theorem DkOut.self (h : DkAt w b q F) : DkOut w w b q F := ⟨h.self, Kf.refl _ _⟩
theorem stop_c (h : DkAt w b q F) (ok : q.Ok) (n : Int) : Calls Tryz.prog 13 #[.pointer (some ⟨b, 0, none⟩), .int .i64 n] w fun e w' => e = .returned (.int .i64 (stE q n)) ∧ DkOut w w' b (q.stop n) F := by
  have hr := refusal_c h ok
  by_cases e : q.lf = 0
  · have E : rfE q = 174 := by unfold rfE; rw [if_pos e]
    have E1 : stE q n = 174 := by unfold stE; rw [if_pos e]
    have X : Hid (DkOut w w b (q.stop n) F) := by unfold Hid Dq.stop; rw [E1]; exact DkOut.self h
    rw [E] at hr
    rw [E1]
    clear h ok E e E1
    go_enter Tryz.func13, Tryz.ntmps13
    go_wp2_with fail
    refine hr.mono ?_
    rintro e w' ⟨rfl, rfl⟩
    go_wp2
    go_ret
    exact ⟨rfl, X.out⟩
  · have E : rfE q = 0 := by unfold rfE; rw [if_neg e]
    rw [E] at hr
    by_cases hn : n < 0
    · have E1 : stE q n = 1 := by unfold stE; rw [if_neg e, if_pos hn]
      have X : Hid (DkOut w w b (q.stop n) F) := by unfold Hid Dq.stop; rw [E1]; exact DkOut.self h
      rw [E1]
      clear h ok E e E1
      go_enter Tryz.func13, Tryz.ntmps13
      go_wp2_with fail
      refine hr.mono ?_
      rintro e w' ⟨rfl, rfl⟩
      go_wp2
      go_ret
      exact ⟨rfl, X.out⟩
    · have E1 : stE q n = 0 := by unfold stE; rw [if_neg e, if_neg hn]
      obtain ⟨ks, fm, nb, sn, cv, fv, h1, h2, h3, h4⟩ := h
      obtain ⟨⟨_, _, _, _, _, _, c6⟩, fz⟩ := h1.cells
      have f6 := fz 6
      have X : Hid (DkOut w (w.setCell ⟨b, 6, none⟩ (.int .i64 n)) b (q.stop n) F) := by
        unfold Hid Dq.stop
        rw [if_pos E1]
        have hX : DkM (w.setCell ⟨b, 6, none⟩ (.int .i64 n)) b { q with lf := n } F ks fm nb sn cv fv := by
          refine h1.mvB (fun k _ _ hk => ?_) rfl rfl rfl rfl rfl ?_
          · rw [Below.heap_setCell _ _ _ _ hk]
          · rw [heap_set0 h1.blk]; rfl
        exact ⟨⟨ks, fm, nb, sn, cv, fv, (hX.wn w).nw, h2, h3, Nw.lt h4 (by rw [World.size_setCell]; exact Nat.le_refl _)⟩, Kf.set (Kf.refl _ _) (fun _ => h1.inF.1) _⟩
      rw [E1]
      clear h1 ok E e E1 fz h2 h3 h4
      go_enter Tryz.func13, Tryz.ntmps13
      go_wp2_with fail
      refine hr.mono ?_
      rintro e w' ⟨rfl, rfl⟩
      go_wp2
      go_ret
      exact ⟨rfl, X.out⟩
theorem stop_nil (n : Int) (w : World) : Calls Tryz.prog 13 #[.pointer none, .int .i64 n] w fun e w' => e = .returned (.int .i64 3) ∧ w = w' := by
  have hr := refusal_nil w
  go_enter Tryz.func13, Tryz.ntmps13
  go_wp2_with fail
  refine hr.mono ?_
  rintro e w' ⟨rfl, rfl⟩
  go_wp2
  go_ret
  exact ⟨rfl, rfl⟩
end Go.Proofs.YtcbhhdjjanekaaaGreatDoor

/- A change of names: apply, alter. -/
namespace Go.Proofs.YtcbhhdjjanekaaaGreatDoor
open Go.RowKit Go.Lib Go.Maps

variable {w w' : World} {b : Nat} {q q' : Dq} {F G : Nat → Prop} {ks : List Int} {fm nb sn : Nat} {cv : Value} {fv : Int → Value}
def apC (l : Nms) (c : By × By × Int) : Nms := if c.2.1 = [] then del l c.1 else ins (del l c.1) c.2.1 c.2.2
theorem apC_len (l : Nms) (c : By × By × Int) : (apC l c).length ≤ l.length + 1 := by
  unfold apC
  split
  · exact Nat.le_succ_of_le (del_length _ _)
  · have h1 := ins_length (del l c.1) c.2.1 c.2.2
    have h2 := del_length l c.1
    omega
theorem mem_apC {l : Nms} {c : By × By × Int} {p : By × Int} (h : p ∈ apC l c) : p ∈ l ∨ c.2.1 ≠ [] ∧ p = (c.2.1, c.2.2) := by
  unfold apC at h
  split at h
  · exact .inl (mem_del.1 h).1
  · rename_i e
    rcases List.mem_cons.1 h with h | h
    · exact .inr ⟨e, h⟩
    · exact .inl (mem_del.1 (mem_del.1 h).1).1
theorem turned_cell {b : Nat} {p : Addr} {v : Value} (h : w.mapTurned w' b) (hc : w.cell? p = some v) : w'.cell? p = some v := by
  refine h.grown.cell hc fun e => ?_
  obtain ⟨es, clock, es', clock', hb, _⟩ := h
  cases e
  simp [World.cell?, hb] at hc
set_option maxHeartbeats 1000000 in
theorem apply_c {l : Nms} (h : NmAt w nb l) (hl : l.length < 900000) (c : By × By × Int) (h1 : KWfS c.1) (h2 : KWfS c.2.1) :
    Calls Tryz.prog 58 #[.agg (chV c).toArray, .map (some nb)] w fun e w' => e = .returned (.tuple #[]) ∧ NmAt w' nb (apC l c) ∧ Kf (fun k => k = nb) w w' := by
  obtain ⟨x, y, n⟩ := c
  have hlt := h.lt
  obtain ⟨w2, hd, hN, hT⟩ := (h.same (w' := w.alloc (.cells #[.string (sb x), .string (sb y), .int .i64 n] 98)) (Below.heap_alloc _ _ _ hlt)).delete h1 0
  have b0 : (w.alloc (.cells #[.string (sb x), .string (sb y), .int .i64 n] 98)).cell? ⟨w.heap.size, 1, none⟩ = some (.string (sb y)) := by simp [go_sem]
  have b1 : (w.alloc (.cells #[.string (sb x), .string (sb y), .int .i64 n] 98)).cell? ⟨w.heap.size, 2, none⟩ = some (.int .i64 n) := by simp [go_sem]
  have c1 := turned_cell hT b0
  have c2 := turned_cell hT b1
  have K2 : Hid (Kf (fun k => k = nb) w w2) := ((Kf.refl (fun k => k = nb) w).alloc _).trans (Kf.turned hT rfl)
  have hv : (chV (x, y, n)).toArray = #[.string (sb x), .string (sb y), .int .i64 n] := rfl
  rw [hv]
  have N2 : Hid (NmAt w2 nb (del l x)) := hN
  have hlen : (del l x).length ≤ l.length := del_length l x
  by_cases e : y = []
  · have E : Hid (apC l (x, y, n) = del l x) := by unfold Hid apC; rw [if_pos e]
    have hy : (sb y).toList.isEmpty = true := by subst e; simp [sb]
    generalize apC l (x, y, n) = l' at *
    generalize sb y = sy at *
    generalize sb x = sx at *
    clear h e hT b0 b1 hN hv
    go_enter Tryz.func58, Tryz.ntmps58
    go_wp2
    go_end0
    exact ⟨rfl, by rw [E.out]; exact N2.out, K2.out⟩
  · obtain ⟨w3, hp, hN3, hT3⟩ := hN.put (by show (del l x).length < 1000000; omega) h2 n
    have E : Hid (apC l (x, y, n) = ins (del l x) y n) := by unfold Hid apC; rw [if_neg e]
    have X : Hid (NmAt w3 nb (ins (del l x) y n) ∧ Kf (fun k => k = nb) w w3) := ⟨hN3, K2.out.trans (Kf.turned hT3 rfl)⟩
    have hy : (sb y).toList.isEmpty = false := by
      rw [ByteArray.toList_eq]
      cases y with
      | nil => exact absurd rfl e
      | cons a r => rfl
    generalize apC l (x, y, n) = l' at *
    generalize sb y = sy at *
    generalize sb x = sx at *
    clear h e hT b0 b1 hN hv hT3 hN3
    go_enter Tryz.func58, Tryz.ntmps58
    go_wp2
    go_end0
    exact ⟨rfl, by rw [E.out]; exact X.out.1, X.out.2⟩
end Go.Proofs.YtcbhhdjjanekaaaGreatDoor
