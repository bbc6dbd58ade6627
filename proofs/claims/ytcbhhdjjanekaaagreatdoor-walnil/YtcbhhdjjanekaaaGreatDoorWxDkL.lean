/- A file that turns; Sync. -/
import Derived.Test.YtcbhhdjjanekaaaGreatDoorWx15
import Derived.Laws.AppendOwnNone
import Derived.Lib.AppendZeros
namespace Go.Proofs.YtcbhhdjjanekaaaGreatDoor
open Go.RowKit Go.Lib Go.Maps

variable {w w' : World} {b : Nat} {q q' : Dq} {F G : Nat → Prop} {ks : List Int} {fm nb sn : Nat} {cv : Value} {fv : Int → Value}
theorem putK_mem {ks : List Int} {n : Int} (h : n ∈ ks) : putK ks n = ks := by unfold putK; rw [if_pos h]
/-- A file's entry is written: W1 ahead of whatever makes its bytes, W2 behind it. -/
theorem DkM.putFl {W1 W2 : World} (h : DkM W1 b q F ks fm nb sn cv fv) {n : Int} (hn : n ∈ ks) (hk : ks.length < 1000000) (hs : ∀ k, k < W1.heap.size → F k → (fv n).ownBlock ≠ some k → W2.heap[k]? = W1.heap[k]?)
    {v' : Value} {l' : By} (s' : Nat) (ho : OwnB W2 0 v' l') (hv : ∀ k, v'.ownBlock = some k → (fv n).ownBlock = some k ∨ W1.heap.size ≤ k) :
    ∃ W3, (Instr.mapUpdate 63 (.map (some fm)) (.int .i64 n) (.agg #[v', .int .i64 (s' : Int)])).run Tryz.prog W2 = .ok () W3 ∧ DkM W3 b { q with fb := upd q.fb n l', fs := upd q.fs n s' } (Wn F W1) ks fm nb sn cv (upd fv n v') ∧ W2.mapTurned W3 fm := by
  obtain ⟨es, c, em⟩ := h.fls.isMap
  have hm2 : W2.heap[fm]? = W1.heap[fm]? := hs fm h.fls.lt h.inF.2.1 fun e => (h.neM em).2 n hn _ e rfl
  obtain ⟨W3, hr, hM, hT⟩ := (h.fls.same hm2).put Tryz.underlying3 (t := 63) Tryz.underlying63 hk (h.fls.kwf n hn) (.agg #[v', .int .i64 (s' : Int)])
  rw [putK_mem hn] at hM
  have sm : ∀ k, k ≠ fm → k < W2.heap.size → W3.heap[k]? = W2.heap[k]? := fun k e hk => hT.grown.block k hk fun e' => e (by cases e'; rfl)
  have lt2 : ∀ k, k < W1.heap.size → F k → (fv n).ownBlock ≠ some k → k < W2.heap.size := fun k hk f e => by
    have := hs k hk f e
    rw [Array.getElem?_eq_getElem hk] at this
    exact (Array.getElem?_eq_some_iff.1 this).1
  have old : ∀ m ∈ ks, m ≠ n → ∀ k, (fv m).ownBlock = some k → W3.heap[k]? = W1.heap[k]? := fun m hm hne k e => by
    have hf := h.ownF m hm k e
    have hl := ((h.own m hm).lo k e).2
    have hd := h.ownD m hm n hn hne k e
    exact (sm k ((h.neM em).2 m hm k e) (lt2 k hl hf hd)).trans (hs k hl hf hd)
  have h' := h.wn W1
  refine ⟨W3, hr, ?_, hT⟩
  refine h'.mvF (fun k hk hF e1 e2 => ?_) (hM.ext fun m hm => ?_) (fun m hm => ?_) (fun m hm k e => ?_) (fun m hm p hp hne k e => ?_) fun _ h => h
  · have hF : F k := hF.elim id fun f => absurd hk (by omega)
    exact (sm k e1 (lt2 k hk hF (e2 n hn))).trans (hs k hk hF (e2 n hn))
  · unfold putF fileV
    by_cases e : m = n
    · subst e; rw [if_pos rfl, upd_same, upd_same]
    · rw [if_neg e, upd_ne _ _ e, upd_ne _ _ e]
  · by_cases e : m = n
    · subst e; rw [upd_same, upd_same]
      refine row_same ho fun k ek => sm k ?_ ((ho.lo k ek).2)
      rintro rfl
      obtain ⟨cur, ec⟩ := row_cells ho ek
      rw [hm2, em] at ec; simp at ec
    · rw [upd_ne _ _ e, upd_ne _ _ e]
      exact row_same (h.own m hm) (old m hm e)
  · by_cases e' : m = n
    · subst e'; rw [upd_same] at e
      rcases hv k e with hv | hv
      · exact .inl (h.ownF m hm k hv)
      · exact .inr hv
    · rw [upd_ne _ _ e'] at e; exact .inl (h.ownF m hm k e)
  · by_cases e1 : m = n
    · subst e1; rw [upd_same] at e
      rw [upd_ne _ _ (Ne.symm hne)]
      intro e3
      rcases hv k e with hv | hv
      · exact h.ownD m hm p hp hne k hv e3
      · have := ((h.own p hp).lo k e3).2; omega
    · rw [upd_ne _ _ e1] at e
      by_cases e2 : p = n
      · subst e2; rw [upd_same]
        intro e3
        rcases hv k e3 with hv | hv
        · exact h.ownD m hm p hp hne k e hv
        · have := ((h.own m hm).lo k e).2; omega
      · rw [upd_ne _ _ e2]; exact h.ownD m hm p hp hne k e
/-- Sync. -/
def Dq.sync (q : Dq) (x : By) : Dq := if fiE q x = 0 then ({ q with fb := upd q.fb (num q.nm x) (q.fb (num q.nm x)), fs := upd q.fs (num q.nm x) (q.fb (num q.nm x)).length } : Dq).done else q
theorem upd_self {α : Type} (f : Int → α) (n : Int) : upd f n (f n) = f := by
  funext m; unfold upd; split
  · rename_i e; rw [e]
  · rfl
theorem Dq.Ok.files (h : q.Ok) {fb : Int → By} {fs : Int → Nat} (h1 : ∀ n, (fb n).length ≤ 4194304) (h2 : ∀ n, fs n ≤ (fb n).length) : ({ q with fb := fb, fs := fs } : Dq).Ok :=
  ⟨h.room, h.lf, h.nmB, h.sfB, h.chB, h1, h2, h.nmL, h.sfL⟩
theorem Dq.Ok.sync (h : q.Ok) (x : By) : (q.sync x).Ok := by
  unfold Dq.sync
  split
  · refine (h.files (fun n => ?_) fun n => ?_).done
    · rw [upd_self]; exact h.fb n
    · rw [upd_self]; unfold upd; split
      · rename_i e; rw [e]; exact Nat.le_refl _
      · exact h.fs n
  · exact h
/-- The end of whatever turns a file. -/
theorem flDone {w1 w2 : World} (h0 : ∀ k, F k → k < w.heap.size) (hw : w.heap.size ≤ w1.heap.size) (hD : DkM w2 b q (Wn F w1) ks fm nb sn cv fv) (kf : Kf F w w2) (hlf : q.lf ≤ 9223372036854775807) (hst : q.st < 1000000) (h2 : ∀ n ∈ ks, 0 ≤ n ∧ n < (q.st : Int)) (h3 : ks.length ≤ q.st) :
    Calls Tryz.prog 71 #[.pointer (some ⟨b, 0, none⟩)] w2 fun e w' => e = .returned (.int .i64 0) ∧ DkOut w w' b q.done F := by
  refine (done_c hD hlf hst).mono ?_
  rintro e w3 ⟨rfl, hE, k3⟩
  have kk : Kf F w w3 := kf.then k3 fun k hk e => by
    subst e
    rcases hD.inF.1 with f | f
    · exact f
    · exact absurd hk (by omega)
  exact ⟨rfl, DkOut.of h0 kk (hE.kp (fun _ _ _ => rfl) fun k f _ => Wn.le hw f) (fun n hn => by have := h2 n hn; show 0 ≤ n ∧ n < ((q.st + 1 : Nat) : Int); omega) (Nat.le_succ_of_le h3)⟩
set_option maxHeartbeats 2000000 in
set_option maxRecDepth 100000 in
theorem sync_c (h : DkAt w b q F) (ok : q.Ok) (hst : q.st < 100000) {x : By} (hx : KWfS x) :
    Calls Tryz.prog 48 #[.pointer (some ⟨b, 0, none⟩), .string (sb x)] w fun e w' => e = .returned (.int .i64 (fiE q x)) ∧ DkOut w w' b (q.sync x) F := by
  have hf := find_c h ok hx
  have hS : Hid (DkOut w w b q F) := DkOut.self h
  by_cases e1 : fiE q x = 0
  · obtain ⟨z1, z2, z3⟩ := fiE_zero e1
    rw [e1, z3] at hf
    have E2 : Hid (q.sync x = ({ q with fb := upd q.fb (num q.nm x) (q.fb (num q.nm x)), fs := upd q.fs (num q.nm x) (q.fb (num q.nm x)).length } : Dq).done) := by unfold Hid Dq.sync; rw [if_pos e1]
    rw [e1]
    obtain ⟨ks, fm, nb, sn, cv, fv, h1, h2, h3, h4⟩ := h
    have hn := h1.numK z2
    generalize num q.nm x = n at *
    have ho := h1.own n hn
    obtain ⟨fa, fc, ef⟩ := row_fm ho
    have hl := h1.file hn
    have hc1 := h1.cells.1.2.1
    have hb := h1.lt
    have gA : Gb w (w.alloc (.cells #[fv n, .int .i64 ((q.fb n).length : Int)] 71)) := gb_alloc (Below.refl _ _) _
    have hA := h1.kp (w' := w.alloc (.cells #[fv n, .int .i64 ((q.fb n).length : Int)] 71)) (G := F) (fun k hk _ => gA.block k hk) (fun _ f _ => f)
    have sz : (w.alloc (.cells #[fv n, .int .i64 ((q.fb n).length : Int)] 71)).heap.size = w.heap.size + 1 := by simp
    obtain ⟨W3, hr, hD, hT⟩ := hA.putFl hn (by omega) (W2 := (w.alloc (.cells #[fv n, .int .i64 ((q.fb n).length : Int)] 71)).drew)
      (fun k _ f _ => rfl) (v' := fv n) (l' := q.fb n) (q.fb n).length (hA.own n hn) (fun k e => .inl e)
    have kf : Kf F w W3 := ((Kf.refl F w).alloc _).trans (Kf.ofDrew (Kf.turned hT h1.inF.2.1))
    have CD : Hid (Calls Tryz.prog 71 #[.pointer (some ⟨b, 0, none⟩)] W3 fun e w' => e = .returned (.int .i64 0) ∧ DkOut w w' b _ F) := flDone h4 (by rw [sz]; omega) hD kf ok.lf.2 (by show q.st < 1000000; omega) h2 h3
    rw [ef] at hl hr
    generalize (q.fb n).length = m at *
    generalize q.fs n = fsn at *
    generalize sb x = s at *
    generalize q.sync x = q2 at *
    clear h1 h2 h3 h4 ok e1 hx z1 z2 z3 ho ef hS gA hA sz hD hT kf hst hn
    go_enter Tryz.func48, Tryz.ntmps48
    go_wp2_with fail
    refine hf.mono ?_
    rintro e w' ⟨rfl, rfl⟩
    go_wp2
    go_region
    all_goals
      go_wp2_with fail
      refine CD.out.mono ?_
      rintro e w4 ⟨rfl, R⟩
      have R : Hid (DkOut w w4 b _ F) := R
      go_wp2
      go_ret
      exact ⟨rfl, by rw [E2.out]; exact R.out⟩
  · have E2 : Hid (q.sync x = q) := by unfold Hid Dq.sync; rw [if_neg e1]
    have e1' : (fiE q x == 0) = false := by rw [beq_eq_false_iff_ne]; exact e1
    generalize fiE q x = k at *
    generalize fiN q x = n at *
    generalize sb x = s at *
    generalize q.sync x = q2 at *
    clear h ok e1 hx hst
    go_enter Tryz.func48, Tryz.ntmps48
    go_wp2_with fail
    refine hf.mono ?_
    rintro e w' ⟨rfl, rfl⟩
    go_wp2
    go_ret
    exact ⟨rfl, by rw [E2.out]; exact hS.out⟩
end Go.Proofs.YtcbhhdjjanekaaaGreatDoor
