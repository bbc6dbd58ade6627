/- DiskSafe: up to its first loop, and behind it. -/
import Derived.Test.YtpjoaefmpdjjnaaSxDkZ8
namespace Go.Proofs.Ytpjoaefmpdjjnaa
open Go.RowKit Go.Lib Go.Maps

variable {w W W' : World} {b : Nat} {q q' : Dq} {x : By} {m s n : Nat} {u v z : Value}
theorem create_st (q : Dq) (x : By) : (q.create x).st ≤ q.st + 1 := by
  unfold Dq.create
  split
  · exact Nat.le_of_eq (done_st _)
  · exact Nat.le_succ _
theorem create_lf {q : Dq} (h : q.lf = -1) (x : By) : (q.create x).lf = -1 := by
  unfold Dq.create
  split
  · exact done_lf (q := q.made.alter ([], x, (q.st : Int))) h
  · exact h
theorem syncDir_st (q : Dq) : q.syncDir.st ≤ q.st + 1 := by
  unfold Dq.syncDir
  split
  · exact Nat.le_succ _
  · exact Nat.le_of_eq (done_st _)
theorem syncDir_lf {q : Dq} (h : q.lf = -1) : q.syncDir.lf = -1 := by
  unfold Dq.syncDir
  split
  · exact h
  · exact done_lf (q := q.settle) h
/-- A crash, a Create, a SyncDir, a Sync, a Read. -/
theorem start_c (h : StE w W b q) (ok : q.Ok) (hi : q.Inj) (hst : q.st ≤ 1000) (hx : KWfS x) :
    Calls Try.prog 17 #[.pointer (some ⟨b, 0, none⟩), .slice none 0 0] W fun e w1 => e = .returned (.int .i64 0) ∧ Hid (
      Calls Try.prog 18 #[.pointer (some ⟨b, 0, none⟩), .string (sb x)] w1 fun e w2 => ∃ r1, e = .returned (.int .i64 r1) ∧ Hid (
        Calls Try.prog 19 #[.pointer (some ⟨b, 0, none⟩)] w2 fun e w3 => ∃ r2, e = .returned (.int .i64 r2) ∧ Hid (∃ r : Int,
          Calls Try.prog 20 #[.pointer (some ⟨b, 0, none⟩), .string (sb x)] w3 fun e w4 => e = .returned (.int .i64 r) ∧ Hid ((r ≠ 0 → Gb w w4) ∧ (r = 0 →
            Calls Try.prog 21 #[.pointer (some ⟨b, 0, none⟩), .string (sb x)] w4 fun e w5 => ∃ a c, ∃ n : Nat, e = .returned (.tuple #[.slice a n c, .int .i64 0]) ∧ Hid (LpS w b x 1003 n n (.slice a n c) (.slice a n c) w5)))))) := by
  refine (h.call fun F h => crash_c h ok (by omega) (by simp) (fun _ _ => rdi_nil _)).mono ?_
  rintro e w1 ⟨rfl, S1⟩
  have S1 := S1.out
  have o1 := ok.crash []
  have i1 := hi.crash []
  have t1 : (q.crash []).st = q.st := rfl
  have l1 : (q.crash []).lf = -1 := rfl
  generalize q.crash [] = q1 at *
  refine ⟨rfl, (S1.call fun F h => create_any h o1 (by omega) hx).mono ?_⟩
  rintro e w2 ⟨rfl, S2⟩
  have S2 := S2.out
  have o2 := o1.create x
  have i2 := i1.create x
  have t2 := create_st q1 x
  have l2 := create_lf l1 x
  refine ⟨_, rfl, ?_⟩
  generalize q1.create x = q2 at *
  refine (S2.call fun F h => syncDir_c h o2 (by omega)).mono ?_
  rintro e w3 ⟨rfl, S3⟩
  have S3 := S3.out
  have o3 := o2.syncDir
  have t3 := syncDir_st q2
  refine ⟨_, rfl, fiE q2.syncDir x, (S3.call fun F h => sync_c h o3 (by omega) hx).mono ?_⟩
  rintro e w4 ⟨rfl, S4⟩
  have S4 := S4.out
  refine ⟨rfl, fun _ => S4.base, fun hr => ?_⟩
  have sf := SfI.start i2 l2 hr
  have o4 := o3.sync x
  have t4 := sync_st q2.syncDir x
  generalize q2.syncDir.sync x = q4 at *
  generalize q2.syncDir.fb (num q2.syncDir.nm x) = all at *
  have e : rdV q4 x = all := by unfold rdV; rw [if_pos sf.fi, sf.fb]
  have c := S4.sa.read o4 hx
  rw [e, sf.fi] at c
  refine c.mono ?_
  rintro e w5 ⟨a, c, rfl, S⟩
  refine ⟨a, c, all.length, rfl, q4, all, ?_, sf, Nat.le_refl _, rfl, o4, by omega⟩
  rw [List.take_length]
  exact S.out.1.sub (by simp)
/-- Behind a crash: y tells what the file has then, k bytes, and no crash turns them any more. -/
def EnS (w : World) (b : Nat) (x : By) (m s n k : Nat) (z v y : Value) (W : World) : Prop :=
  ∃ q all r, SaE w W b q [(y, r), (z, all.take s), (v, all)] ∧ SfI q x r r.length ∧ s ≤ k ∧ k ≤ n ∧ all.length = n ∧ r.length = k ∧ r.take s = all.take s ∧
    ((∀ i, s ≤ i → i < r.length → r[i]! = 0) ∨ ∀ i, i < r.length → r[i]! = all[i]!) ∧ q.Ok ∧ q.st ≤ m
theorem LpS.crash (h : LpS w b x m s n z v W) (hm : m < 100000) (hx : KWfS x) {cs : List Int} (hu : RdI w u cs) (hcs : ∀ c ∈ cs, InR c) :
    Calls Try.prog 17 #[.pointer (some ⟨b, 0, none⟩), u] W fun e w1 => e = .returned (.int .i64 0) ∧ Hid (
      Calls Try.prog 21 #[.pointer (some ⟨b, 0, none⟩), .string (sb x)] w1 fun e w2 => ∃ a c, ∃ k : Nat, e = .returned (.tuple #[.slice a k c, .int .i64 0]) ∧ s ≤ k ∧ k ≤ n ∧ Hid (EnS w b x m s n k z v (.slice a k c) w2)) := by
  obtain ⟨q, all, ⟨F, h1, h1k⟩, h2, h3, rfl, h5, h6⟩ := h
  have h1' : SaE w W b q [(z, all.take s), (v, all)] := ⟨F, h1, h1k⟩
  obtain ⟨c, sf, _⟩ := h2.crash cs
  obtain ⟨p1, p2, p3, p4⟩ := crB_safe c h3
  rw [SfI.crash_len c h3] at sf
  have ok := h5.crash cs
  have t : (q.crash cs).st = q.st := rfl
  have hF := h1.2.2
  have cc : Calls Try.prog 17 #[.pointer (some ⟨b, 0, none⟩), u] W fun e w' => e = .returned (.int .i64 0) ∧ Hid (SaE w w' b (q.crash cs) [(z, all.take s), (v, all)]) := by
    refine (crash_c h1.1 h5 (by omega) hcs (fun X kX => hu.gb (kf_base h1.2.1 hF kX))).mono ?_
    rintro e w' ⟨rfl, o⟩
    exact ⟨rfl, _, h1.op o, fun p hp X kX => h1k p hp X (o.2.then kX fun j hj n => n.elim id fun n => absurd n.1 (by omega))⟩
  refine cc.mono ?_
  rintro e w1 ⟨rfl, S⟩
  refine ⟨rfl, ?_⟩
  have S := S.out
  generalize q.crash cs = q1 at *
  generalize crB all s c = r at *
  have e : rdV q1 x = r := by unfold rdV; rw [if_pos sf.fi, sf.fb]
  have c := S.read ok hx
  rw [e, sf.fi] at c
  refine c.mono ?_
  rintro e w2 ⟨a, c, rfl, S⟩
  exact ⟨a, c, r.length, rfl, p1, p2, q1, all, r, S.out.1, sf, p1, p2, rfl, rfl, p3, p4, ok, by omega⟩
end Go.Proofs.Ytpjoaefmpdjjnaa
