/- SyncDir, New. -/
import Derived.Test.YtcbhhdjjanekaaaGreatDoorWxDkO
namespace Go.Proofs.YtcbhhdjjanekaaaGreatDoor
open Go.RowKit Go.Lib Go.Maps

variable {w w' : World} {b : Nat} {q q' : Dq} {F G : Nat → Prop} {ks : List Int} {fm nb sn : Nat} {cv : Value} {fv : Int → Value}
def Dq.settle (q : Dq) : Dq := { q with sf := q.nm, ch := [] }
theorem Dq.Ok.settle (h : q.Ok) : q.settle.Ok := ⟨h.room, h.lf, h.nmB, h.nmB, fun _ h => absurd h (by simp [Dq.settle]), h.fb, h.fs, h.nmL, by have := h.nmL; show q.nm.length + 0 ≤ q.st; omega⟩
def SdOut (w w' : World) (b : Nat) (q : Dq) (F : Nat → Prop) (ks : List Int) (nb : Nat) (fv : Int → Value) : Prop := ∃ ls fm' sn', DkM w' b q.settle (Wn F w) ls fm' nb sn' (.slice none 0 0) fv ∧ (∀ n ∈ ls, n ∈ ks) ∧ ls.length ≤ ks.length ∧ Kf F w w'
theorem settleD (h : DkM w b q F ks fm nb sn cv fv) (_hF : ∀ k, F k → k < w.heap.size) (hl : ks.length < 900000) :
    Calls Tryz.prog 36 #[.pointer (some ⟨b, 0, none⟩)] w fun e w' => e = .returned (.tuple #[]) ∧ SdOut w w' b q F ks nb fv := by
  refine (settle_c h.blk h.fls h.nms h.nmK (fun n hn => by obtain ⟨a, c, e⟩ := row_fm (h.own n hn); exact ⟨a, _, c, e⟩) hl).mono ?_
  rintro e w' ⟨rfl, ls, fm', sn', S⟩
  obtain ⟨n1, n2, n3⟩ := S.new
  have hnb := h.nms.lt
  have oth : ∀ k, k < w.heap.size → k ≠ b → w'.heap[k]? = w.heap[k]? := fun k hk e => S.kf.block k hk e
  refine ⟨rfl, ls, fm', sn', ⟨S.blk, S.fls, S.nms, S.sfs, World.ownsRow_nil _ _ _ _, fun n hn => ?_, fun n hn k e => .inl (h.ownF n (S.sub n hn) k e), fun n hn m hm => h.ownD n (S.sub n hn) m (S.sub m hm), fun k e => absurd e (by simp [Value.ownBlock]),
    ⟨.inl h.inF.1, .inr n1, .inl h.inF.2.2.1, .inr n2⟩, ⟨by omega, n3, by omega⟩, S.nmK, S.nmK, fun _ h => absurd h (by simp [Dq.settle])⟩, S.sub, nodup_sub_le S.fls.nodup S.sub, S.kf.mono fun k e => by subst e; exact h.inF.1⟩
  have hm := S.sub n hn
  exact row_same (h.own n hm) fun k e => oth k ((h.own n hm).lo k e).2 (h.neB.2.2.2.2 n hm k e)
def Dq.syncDir (q : Dq) : Dq := if q.lf = 0 then q else q.settle.done
theorem Dq.Ok.syncDir (h : q.Ok) : q.syncDir.Ok := by
  unfold Dq.syncDir
  split
  · exact h
  · exact h.settle.done
set_option maxHeartbeats 1000000 in
theorem syncDir_c (h : DkAt w b q F) (ok : q.Ok) (hst : q.st < 100000) :
    Calls Tryz.prog 49 #[.pointer (some ⟨b, 0, none⟩)] w fun e w' => e = .returned (.int .i64 (rfE q)) ∧ DkOut w w' b q.syncDir F := by
  have hr := refusal_c h ok
  by_cases e1 : q.lf = 0
  · have E : rfE q = 174 := by unfold rfE; rw [if_pos e1]
    have hS : Hid (DkOut w w b q.syncDir F) := by unfold Hid Dq.syncDir; rw [if_pos e1]; exact DkOut.self h
    rw [E] at hr ⊢
    generalize q.syncDir = q2 at *
    clear h ok E e1 hst
    go_enter Tryz.func49, Tryz.ntmps49
    go_wp2_with fail
    refine hr.mono ?_
    rintro e w' ⟨rfl, rfl⟩
    go_wp2
    go_ret
    exact ⟨rfl, hS.out⟩
  · have E : rfE q = 0 := by unfold rfE; rw [if_neg e1]
    have E2 : Hid (q.syncDir = q.settle.done) := by unfold Hid Dq.syncDir; rw [if_neg e1]
    rw [E] at hr ⊢
    obtain ⟨ks, fm, nb, sn, cv, fv, h1, h2, h3, h4⟩ := h
    have cS := settleD h1 h4 (by omega)
    have CD : Hid (∀ w1, SdOut w w1 b q F ks nb fv → Calls Tryz.prog 71 #[.pointer (some ⟨b, 0, none⟩)] w1 fun e w' => e = .returned (.int .i64 0) ∧ Hid (DkOut w w' b q.settle.done F)) := fun w1 S => by
      obtain ⟨ls, fm', sn', hD, hs, hl, kf⟩ := S
      exact flDone h4 (Nat.le_refl _) hD kf ok.lf.2 (by show q.st < 1000000; omega) (fun n hn => h2 n (hs n hn)) (by show ls.length ≤ q.st; omega)
    have cS : Calls Tryz.prog 36 #[.pointer (some ⟨b, 0, none⟩)] w fun e w' => e = .returned (.tuple #[]) ∧ Hid (SdOut w w' b q F ks nb fv) := cS
    generalize q.syncDir = q2 at *
    clear h1 h2 h3 h4 ok E e1 hst
    go_enter Tryz.func49, Tryz.ntmps49
    go_wp2_with fail
    refine hr.mono ?_
    rintro e w' ⟨rfl, rfl⟩
    go_wp2_with fail
    refine cS.mono ?_
    rintro e w1 ⟨rfl, S⟩
    go_wp2_with fail
    refine (CD.out _ S.out).mono ?_
    rintro e w2 ⟨rfl, R⟩
    go_wp2
    go_ret
    exact ⟨rfl, by rw [E2.out]; exact R.out⟩
/-- New. -/
def nwQ (r : Int) : Dq := ⟨r, [], [], [], fun _ => [], fun _ => 0, 0, -1⟩
theorem nwQ_ok {r : Int} (h : 1 ≤ r ∧ r ≤ 4194304) : (nwQ r).Ok :=
  ⟨h, by show (-1 : Int) ≤ -1 ∧ (-1 : Int) ≤ _; omega, fun _ h => absurd h (by simp [nwQ]), fun _ h => absurd h (by simp [nwQ]), fun _ h => absurd h (by simp [nwQ]), fun _ => by simp [nwQ], fun _ => by simp [nwQ], Nat.le_refl _, Nat.le_refl _⟩
def NwOut (w w' : World) (b : Nat) (r : Int) : Prop := w.heap.size ≤ b ∧ DkAt w' b (nwQ r) (fun k => w.heap.size ≤ k ∧ k < w'.heap.size) ∧ Gb w w'
set_option maxHeartbeats 1000000 in
theorem new_c (r : Int) (hr : 1 ≤ r ∧ r ≤ 4194304) (w : World) : Calls Tryz.prog 27 #[.int .i64 r] w fun e w' => ∃ b, e = .returned (.tuple #[.pointer (some ⟨b, 0, none⟩), .int .i64 0]) ∧ NwOut w w' b r := by
  have r1 : ¬ r < 1 := by omega
  have r2 : ¬ 4194304 < r := by omega
  have g1 : Gb w (((w.alloc (.map #[] 0)).alloc (.map #[] 0)).alloc (.cells #[.int .i64 r, .map (some w.heap.size), .map (some (w.heap.size + 1)), .map none, .slice none 0 0, .int .i64 0, .int .i64 (-1)] 67)) := gb_alloc (gb_alloc (gb_alloc (Below.refl _ _) _) _) _
  have s3 : ((w.alloc (.map #[] 0)).alloc (.map #[] 0)).heap.size = w.heap.size + 2 := by simp
  have hb : (((w.alloc (.map #[] 0)).alloc (.map #[] 0)).alloc (.cells #[.int .i64 r, .map (some w.heap.size), .map (some (w.heap.size + 1)), .map none, .slice none 0 0, .int .i64 0, .int .i64 (-1)] 67)).heap[w.heap.size + 2]? = some (.cells #[.int .i64 r, .map (some w.heap.size), .map (some (w.heap.size + 1)), .map none, .slice none 0 0, .int .i64 0, .int .i64 (-1)] 67 (0, 0)) := by
    rw [← s3]; exact heap_alloc_new _ _
  have s1 : (w.alloc (.map #[] 0)).heap.size = w.heap.size + 1 := by simp
  have hm : MapA Tryz.prog 3 (((w.alloc (.map #[] 0)).alloc (.map #[] 0)).alloc (.cells #[.int .i64 r, .map (some w.heap.size), .map (some (w.heap.size + 1)), .map none, .slice none 0 0, .int .i64 0, .int .i64 (-1)] 67)) w.heap.size [] (fileV (fun _ => .slice none 0 0) fun _ => 0) :=
    (MapA.new w _).same ((Below.heap_alloc _ _ _ (by rw [s3]; omega)).trans (Below.heap_alloc _ _ _ (by rw [s1]; omega)))
  have hN : NmAt (((w.alloc (.map #[] 0)).alloc (.map #[] 0)).alloc (.cells #[.int .i64 r, .map (some w.heap.size), .map (some (w.heap.size + 1)), .map none, .slice none 0 0, .int .i64 0, .int .i64 (-1)] 67)) (w.heap.size + 1) [] := by
    have := NmAt.made (w.alloc (.map #[] 0))
    rw [s1] at this
    exact this.same (Below.heap_alloc _ _ _ (by rw [s3]; omega))
  have cS := settle_c hb hm hN (by simp) (by simp) (by simp)
  have s4 : (((w.alloc (.map #[] 0)).alloc (.map #[] 0)).alloc (.cells #[.int .i64 r, .map (some w.heap.size), .map (some (w.heap.size + 1)), .map none, .slice none 0 0, .int .i64 0, .int .i64 (-1)] 67)).heap.size = w.heap.size + 3 := by simp
  have CS : Calls Tryz.prog 36 #[.pointer (some ⟨w.heap.size + 2, 0, none⟩)] (((w.alloc (.map #[] 0)).alloc (.map #[] 0)).alloc (.cells #[.int .i64 r, .map (some w.heap.size), .map (some (w.heap.size + 1)), .map none, .slice none 0 0, .int .i64 0, .int .i64 (-1)] 67)) fun e w' => e = .returned (.tuple #[]) ∧ Hid (NwOut w w' (w.heap.size + 2) r) := by
    refine cS.mono ?_
    rintro e w' ⟨rfl, ls, fm', sn', S⟩
    obtain ⟨n1, n2, n3⟩ := S.new
    have e0 : ls = [] := List.eq_nil_iff_forall_not_mem.2 fun n hn => absurd (S.sub n hn) (by simp)
    subst e0
    have hg : Gb w w' := (Kf.then (F := fun k => k = w.heap.size + 2) (Kf.gb g1 _) S.kf fun _ _ h => h).toGb fun k e => by omega
    rw [s4] at n1 n2
    refine ⟨rfl, by omega, ⟨[], fm', w.heap.size + 1, sn', .slice none 0 0, fun _ => .slice none 0 0, ⟨S.blk, S.fls, S.nms, S.sfs, World.ownsRow_nil _ _ _ _, by simp, by simp, by simp, fun k e => absurd e (by simp [Value.ownBlock]),
      ⟨⟨by omega, cell_lt (v := .int .i64 r) (by simp [World.cell?, S.blk] : w'.cell? ⟨w.heap.size + 2, 0, none⟩ = _)⟩, ⟨by omega, S.fls.lt⟩, ⟨by omega, S.nms.lt⟩, ⟨by omega, S.sfs.lt⟩⟩, ⟨by omega, n3, by omega⟩, by simp [nwQ], by simp [nwQ], by simp [nwQ]⟩, by simp, Nat.le_refl _, fun k h => h.2⟩, hg⟩
  have hmk := @run_makeMap Tryz.prog
  clear hb hm hN cS g1 hr s4
  go_enter Tryz.func27, Tryz.ntmps27
  go_wp2_with fail
  refine CS.mono ?_
  rintro e w1 ⟨rfl, R⟩
  go_wp2
  exact bodyPost_ret (v := .tuple #[.pointer (some ⟨w.heap.size + 2, 0, none⟩), .int .i64 0]) (by simp [results, Tryz.results27, go_sem]) rfl ⟨_, rfl, R.out⟩
theorem new_no (r : Int) (hr : ¬ (1 ≤ r ∧ r ≤ 4194304)) (w : World) : Calls Tryz.prog 27 #[.int .i64 r] w fun e w' => e = .returned (.tuple #[.pointer none, .int .i64 1]) ∧ w = w' := by
  by_cases h1 : r < 1
  · clear hr
    go_enter Tryz.func27, Tryz.ntmps27
    go_wp2
    exact bodyPost_ret (v := .tuple #[.pointer none, .int .i64 1]) (by simp [results, Tryz.results27, go_sem]) rfl ⟨rfl, rfl⟩
  · have h2 : 4194304 < r := by omega
    clear hr
    go_enter Tryz.func27, Tryz.ntmps27
    go_wp2
    exact bodyPost_ret (v := .tuple #[.pointer none, .int .i64 1]) (by simp [results, Tryz.results27, go_sem]) rfl ⟨rfl, rfl⟩
end Go.Proofs.YtcbhhdjjanekaaaGreatDoor
