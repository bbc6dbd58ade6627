/- Create, Rename, Remove. -/
import Derived.Test.YtcbhhdjjanekaaaGreatDoorWxDkF
namespace Go.Proofs.YtcbhhdjjanekaaaGreatDoor
open Go.RowKit Go.Lib Go.Maps

variable {w w' : World} {b : Nat} {q q' : Dq} {F G : Nat → Prop} {ks : List Int} {fm nb sn : Nat} {cv : Value} {fv : Int → Value}
theorem DkOut.of (h0 : ∀ k, F k → k < w.heap.size) (kf : Kf F w w') (h : DkM w' b q (Wn F w) ks fm nb sn cv fv) (h2 : ∀ n ∈ ks, 0 ≤ n ∧ n < (q.st : Int)) (h3 : ks.length ≤ q.st) : DkOut w w' b q F :=
  ⟨⟨ks, fm, nb, sn, cv, fv, h.nw, h2, h3, Nw.lt h0 kf.size⟩, kf⟩
theorem Wn.le {a : World} (h : a.heap.size ≤ w.heap.size) {k : Nat} (hk : Wn F w k) : Wn F a k := hk.imp id fun f => Nat.le_trans h f
/-- The end of whatever changes names: the step is counted. -/
theorem alDone {w1 w2 : World} (h0 : ∀ k, F k → k < w.heap.size) (kf : Kf F w w1) (A : AlOut w1 w2 b q F ks fm nb sn fv) (hlf : q.lf ≤ 9223372036854775807) (hst : q.st < 1000000) (h2 : ∀ n ∈ ks, 0 ≤ n ∧ n < ((q.st + 1 : Nat) : Int)) (h3 : ks.length ≤ q.st + 1) :
    Calls Tryz.prog 71 #[.pointer (some ⟨b, 0, none⟩)] w2 fun e w' => e = .returned (.int .i64 0) ∧ DkOut w w' b q.done F := by
  obtain ⟨cw, hD, k2⟩ := A
  refine (done_c hD hlf hst).mono ?_
  rintro e w3 ⟨rfl, hE, k3⟩
  have kk : Kf F w w3 := (kf.trans k2).then k3 fun k hk e => by
    subst e
    rcases hD.inF.1 with f | f
    · exact f
    · exact absurd hk (by have := kf.size; omega)
  exact ⟨rfl, DkOut.of h0 kk (hE.kp (fun _ _ _ => rfl) fun k f _ => Wn.le kf.size f) h2 h3⟩
def upd {α : Type} (f : Int → α) (n : Int) (v : α) : Int → α := fun m => if m = n then v else f m
theorem upd_same {α : Type} (f : Int → α) (n : Int) (v : α) : upd f n v n = v := if_pos rfl
theorem upd_ne {α : Type} (f : Int → α) {n m : Int} (v : α) (h : m ≠ n) : upd f n v m = f m := if_neg h
/-- Create. -/
def crE (q : Dq) (x : By) : Int := if q.lf = 0 then 174 else if nmOk x = false then 170 else if x ∈ kys q.nm then 171 else if 64 ≤ q.nm.length then 175 else 0
def Dq.made (q : Dq) : Dq := { q with fb := upd q.fb (q.st : Int) [], fs := upd q.fs (q.st : Int) 0 }
def Dq.create (q : Dq) (x : By) : Dq := if crE q x = 0 then (q.made.alter ([], x, (q.st : Int))).done else q
theorem Dq.Ok.alter (h : q.Ok) {c : By × By × Int} (h1 : c.1.length ≤ 32) (h2 : c.2.1 ≠ [] → nmOk c.2.1 = true) : (q.alter c).done.Ok := by
  have hd := h.done
  refine ⟨h.room, hd.lf, ?_, h.sfB, ?_, h.fb, h.fs, ?_, ?_⟩
  · intro p hp
    rcases mem_apC hp with hp | ⟨e, rfl⟩
    · exact h.nmB p hp
    · exact h2 e
  · intro d hd
    rcases List.mem_append.1 hd with hd | hd
    · exact h.chB d hd
    · rw [List.mem_singleton.1 hd]; exact ⟨h1, h2⟩
  · have := apC_len q.nm c
    have := h.nmL
    show (apC q.nm c).length ≤ q.st + 1
    omega
  · have := h.sfL
    show q.sf.length + (q.ch ++ [c]).length ≤ q.st + 1
    rw [List.length_append, List.length_singleton]; omega
theorem Dq.Ok.made (h : q.Ok) : q.made.Ok := by
  refine ⟨h.room, h.lf, h.nmB, h.sfB, h.chB, fun n => ?_, fun n => ?_, h.nmL, h.sfL⟩
  · show (upd q.fb (q.st : Int) [] n).length ≤ _
    unfold upd; split
    · simp
    · exact h.fb n
  · show upd q.fs (q.st : Int) 0 n ≤ (upd q.fb (q.st : Int) [] n).length
    unfold upd; split
    · exact Nat.zero_le _
    · exact h.fs n
theorem crE_ok {x : By} (h : crE q x = 0) : nmOk x = true := by
  unfold crE at h
  split at h
  · omega
  · split at h
    · omega
    · rename_i e; simpa using e
theorem Dq.Ok.create (h : q.Ok) (x : By) : (q.create x).Ok := by
  unfold Dq.create
  split
  · rename_i e
    exact h.made.alter (Nat.zero_le _) fun _ => crE_ok e
  · exact h
set_option maxHeartbeats 2000000 in
set_option maxRecDepth 100000 in
theorem create_c (h : DkAt w b q F) (ok : q.Ok) (hst : q.st < 100000) {x : By} (hx : x.length ≤ 65536) :
    Calls Tryz.prog 83 #[.pointer (some ⟨b, 0, none⟩), .string (sb x)] w fun e w' => e = .returned (.int .i64 (crE q x)) ∧ DkOut w w' b (q.create x) F := by
  have hr := refusal_c h ok
  have hS : Hid (DkOut w w b q F) := DkOut.self h
  have hn := isName_c (sb x) (by rw [sb_size]; omega) w
  have eS : (sb x).data.toList = x := by simp [sb]
  rw [eS] at hn
  have KX := kwf_small hx
  by_cases e1 : q.lf = 0
  · have E : rfE q = 174 := by unfold rfE; rw [if_pos e1]
    have E1 : crE q x = 174 := by unfold crE; rw [if_pos e1]
    have E2 : Hid (q.create x = q) := by unfold Hid Dq.create; rw [if_neg (by rw [E1]; decide)]
    rw [E] at hr
    rw [E1]
    generalize sb x = s at *
    generalize q.create x = q2 at *
    clear h ok E e1 E1 hn eS KX hx hst
    go_enter Tryz.func83, Tryz.ntmps83
    go_wp2_with fail
    refine hr.mono ?_
    rintro e w' ⟨rfl, rfl⟩
    go_wp2
    go_ret
    exact ⟨rfl, by rw [E2.out]; exact hS.out⟩
  have E : rfE q = 0 := by unfold rfE; rw [if_neg e1]
  rw [E] at hr
  by_cases e2 : nmOk x = false
  · have E1 : crE q x = 170 := by unfold crE; rw [if_neg e1, if_pos e2]
    have E2 : Hid (q.create x = q) := by unfold Hid Dq.create; rw [if_neg (by rw [E1]; decide)]
    rw [E1]
    rw [e2] at hn
    generalize sb x = s at *
    generalize q.create x = q2 at *
    clear h ok E e1 E1 e2 eS KX hx hst
    go_enter Tryz.func83, Tryz.ntmps83
    go_wp2_with fail
    refine hr.mono ?_
    rintro e w' ⟨rfl, rfl⟩
    go_wp2_with fail
    refine hn.mono ?_
    rintro e w' ⟨rfl, rfl⟩
    go_wp2
    go_ret
    exact ⟨rfl, by rw [E2.out]; exact hS.out⟩
  have e2t : nmOk x = true := by simpa using e2
  rw [e2t] at hn
  obtain ⟨ks, fm, nb, sn, cv, fv, h1, h2, h3, h4⟩ := h
  obtain ⟨⟨_, c1, c2, _, _, c5, _⟩, _⟩ := h1.cells
  have hl := h1.nms.look_ok KX
  by_cases e3 : x ∈ kys q.nm
  · have E1 : crE q x = 171 := by unfold crE; rw [if_neg e1, if_neg e2, if_pos e3]
    have E2 : Hid (q.create x = q) := by unfold Hid Dq.create; rw [if_neg (by rw [E1]; decide)]
    rw [E1]
    rw [decide_eq_true e3] at hl
    generalize num q.nm x = n at *
    generalize sb x = s at *
    generalize q.create x = q2 at *
    clear h1 h2 h3 h4 ok E e1 E1 e2 eS KX hx hst e3 e2t
    go_enter Tryz.func83, Tryz.ntmps83
    go_wp2_with fail
    refine hr.mono ?_
    rintro e w' ⟨rfl, rfl⟩
    go_wp2_with fail
    refine hn.mono ?_
    rintro e w' ⟨rfl, rfl⟩
    go_wp2
    go_ret
    exact ⟨rfl, by rw [E2.out]; exact hS.out⟩
  have hlen := h1.nms.len 3
  rw [decide_eq_false e3] at hl
  by_cases e4 : 64 ≤ q.nm.length
  · have E1 : crE q x = 175 := by unfold crE; rw [if_neg e1, if_neg e2, if_neg e3, if_pos e4]
    have E2 : Hid (q.create x = q) := by unfold Hid Dq.create; rw [if_neg (by rw [E1]; decide)]
    rw [E1]
    have e4i : (64 : Int) ≤ (q.nm.length : Int) := by omega
    generalize num q.nm x = n at *
    generalize sb x = s at *
    generalize q.create x = q2 at *
    generalize q.nm.length = m at *
    clear h1 h2 h3 h4 ok E e1 E1 e2 eS KX hx hst e3 e2t e4
    go_enter Tryz.func83, Tryz.ntmps83
    go_wp2_with fail
    refine hr.mono ?_
    rintro e w' ⟨rfl, rfl⟩
    go_wp2_with fail
    refine hn.mono ?_
    rintro e w' ⟨rfl, rfl⟩
    go_wp2
    go_ret
    exact ⟨rfl, by rw [E2.out]; exact hS.out⟩
  have E1 : crE q x = 0 := by unfold crE; rw [if_neg e1, if_neg e2, if_neg e3, if_neg e4]
  have E2 : Hid (q.create x = (q.made.alter ([], x, (q.st : Int))).done) := by unfold Hid Dq.create; rw [if_pos E1]
  rw [E1]
  have e4i : ¬ (64 : Int) ≤ (q.nm.length : Int) := by omega
  have KS : KWf (q.st : Int) := ⟨by omega, by omega⟩
  obtain ⟨w1, hp, hM, hT⟩ := h1.fls.put Tryz.underlying3 (t := 63) Tryz.underlying63 (by omega) KS (.agg #[.slice none 0 0, .int .i64 0])
  have hfr : (q.st : Int) ∉ ks := fun h' => by have := (h2 _ h').2; omega
  have hput : putK ks (q.st : Int) = (q.st : Int) :: ks := by unfold putK; rw [if_neg hfr]
  have g1 : Kf F w w1 := Kf.turned hT h1.inF.2.1
  have sm : ∀ k, k ≠ fm → k < w.heap.size → w1.heap[k]? = w.heap[k]? := fun k e hk => hT.grown.block k hk fun e' => e (by cases e'; rfl)
  have h5 : DkM w1 b q.made F ((q.st : Int) :: ks) fm nb sn cv (upd fv (q.st : Int) (.slice none 0 0)) := by
    refine h1.mvF (fun k hk _ e _ => sm k e hk) ?_ ?_ ?_ ?_ fun n hn => List.mem_cons_of_mem _ hn
    · rw [hput] at hM
      refine hM.ext fun n hn => ?_
      unfold putF fileV
      by_cases e : n = (q.st : Int)
      · subst e; rw [if_pos rfl, upd_same, upd_same]; rfl
      · rw [if_neg e, upd_ne _ _ e, upd_ne _ _ e]
    · intro n hn
      by_cases e : n = (q.st : Int)
      · subst e; rw [upd_same, upd_same]; exact ownb_nil _ _
      · rw [upd_ne _ _ e, upd_ne _ _ e]
        have hn := (List.mem_cons.1 hn).resolve_left e
        obtain ⟨es, c, em⟩ := h1.fls.isMap
        exact row_same (h1.own n hn) fun k ek => sm k ((h1.neM em).2 n hn k ek) ((h1.own n hn).lo k ek).2
    · intro n hn k ek
      by_cases e : n = (q.st : Int)
      · subst e; rw [upd_same] at ek; cases ek
      · rw [upd_ne _ _ e] at ek
        exact h1.ownF n ((List.mem_cons.1 hn).resolve_left e) k ek
    · intro n hn m hm hne k ek
      by_cases e : n = (q.st : Int)
      · subst e; rw [upd_same] at ek; cases ek
      · rw [upd_ne _ _ e] at ek
        by_cases e' : m = (q.st : Int)
        · subst e'; rw [upd_same]; intro h'; cases h'
        · rw [upd_ne _ _ e']
          exact h1.ownD n ((List.mem_cons.1 hn).resolve_left e) m ((List.mem_cons.1 hm).resolve_left e') hne k ek
  have h0 : ∀ k, F k → k < w1.heap.size := fun k hk => Nat.lt_of_lt_of_le (h4 k hk) g1.size
  have cA := alter_c h5 h0 (by have := ok.nmL; show q.nm.length < 900000; omega) (by have := ok.sfL; show q.ch.length < 900000; omega) ([], x, (q.st : Int)) (kwf_small (Nat.zero_le _)) KX (fun _ => List.mem_cons_self)
  have CD : Hid (∀ w2, AlOut w1 w2 b (q.made.alter ([], x, (q.st : Int))) F ((q.st : Int) :: ks) fm nb sn (upd fv (q.st : Int) (.slice none 0 0)) → Calls Tryz.prog 71 #[.pointer (some ⟨b, 0, none⟩)] w2 fun e w' => e = .returned (.int .i64 0) ∧ DkOut w w' b (q.made.alter ([], x, (q.st : Int))).done F) := fun w2 A =>
    alDone h4 g1 A ok.lf.2 (by show q.st < 1000000; omega) (fun n hn => by
      rcases List.mem_cons.1 hn with rfl | hn
      · show 0 ≤ (q.st : Int) ∧ (q.st : Int) < ((q.st + 1 : Nat) : Int); omega
      · have := h2 n hn; show 0 ≤ n ∧ n < ((q.st + 1 : Nat) : Int); omega) (by show ks.length + 1 ≤ q.st + 1; omega)
  have ev : (chV ([], x, (q.st : Int))).toArray = #[.string ByteArray.empty, .string (sb x), .int .i64 (q.st : Int)] := rfl
  rw [ev] at cA
  generalize q.made.alter ([], x, (q.st : Int)) = q3 at *
  generalize num q.nm x = n at *
  generalize sb x = s at *
  generalize q.create x = q2 at *
  generalize q.nm.length = m at *
  generalize (q.st : Int) = st at *
  have cA : Calls Tryz.prog 82 #[.pointer (some ⟨b, 0, none⟩), .agg #[.string ByteArray.empty, .string s, .int .i64 st]] w1 fun e w' => e = .returned (.tuple #[]) ∧ Hid (AlOut w1 w' b q3 F (st :: ks) fm nb sn (upd fv st (.slice none 0 0))) := cA
  clear h1 h2 h3 h4 ok E e1 E1 e2 eS KX hx hst e3 e2t e4 h5 h0 hM hT hfr hput g1 sm ev hS KS
  go_enter Tryz.func83, Tryz.ntmps83
  go_wp2_with fail
  refine hr.mono ?_
  rintro e w' ⟨rfl, rfl⟩
  go_wp2_with fail
  refine hn.mono ?_
  rintro e w' ⟨rfl, rfl⟩
  go_wp2_with fail
  refine cA.mono ?_
  rintro e w2 ⟨rfl, A⟩
  go_wp2_with fail
  refine (CD.out _ A.out).mono ?_
  rintro e w3 ⟨rfl, R⟩
  have R : Hid (DkOut w w3 b q3.done F) := R
  go_wp2
  go_ret
  exact ⟨rfl, by rw [E2.out]; exact R.out⟩
end Go.Proofs.YtcbhhdjjanekaaaGreatDoor
