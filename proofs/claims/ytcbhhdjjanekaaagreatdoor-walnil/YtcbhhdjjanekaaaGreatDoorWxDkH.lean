/- Rename, Remove. -/
import Derived.Test.YtcbhhdjjanekaaaGreatDoorWxDkG
namespace Go.Proofs.YtcbhhdjjanekaaaGreatDoor
open Go.RowKit Go.Lib Go.Maps

variable {w w' : World} {b : Nat} {q q' : Dq} {F G : Nat → Prop} {ks : List Int} {fm nb sn : Nat} {cv : Value} {fv : Int → Value}
theorem fiE_zero {x : By} (h : fiE q x = 0) : q.lf ≠ 0 ∧ x ∈ kys q.nm ∧ fiN q x = num q.nm x := by
  unfold fiE at h
  split at h
  · omega
  · rename_i e
    split at h
    · rename_i e'
      exact ⟨e, e', by unfold fiN; rw [if_neg e]⟩
    · omega
theorem fiE_or (q : Dq) (x : By) : fiE q x = 0 ∨ fiE q x = 172 ∨ fiE q x = 174 := by
  unfold fiE
  split
  · exact .inr (.inr rfl)
  · split
    · exact .inl rfl
    · exact .inr (.inl rfl)
theorem Dq.Ok.key (ok : q.Ok) {x : By} (h : x ∈ kys q.nm) : nmOk x = true := ok.nmB _ (mem_num h)
def reE (q : Dq) (x y : By) : Int := if fiE q x ≠ 0 then fiE q x else if nmOk y = false then 170 else 0
def Dq.rename (q : Dq) (x y : By) : Dq := if reE q x y = 0 then (q.alter (x, y, fiN q x)).done else q
def Dq.remove (q : Dq) (x : By) : Dq := if fiE q x = 0 then (q.alter (x, [], 0)).done else q
theorem reE_zero {x y : By} (h : reE q x y = 0) : fiE q x = 0 ∧ nmOk y = true := by
  unfold reE at h
  split at h
  · rename_i e; exact absurd h e
  · rename_i e
    split at h
    · omega
    · rename_i e'; exact ⟨by omega, by simpa using e'⟩
theorem Dq.Ok.rename (h : q.Ok) (x y : By) : (q.rename x y).Ok := by
  unfold Dq.rename
  split
  · rename_i e
    exact h.alter (nmOk_len (h.key (fiE_zero (reE_zero e).1).2.1)).2 fun _ => (reE_zero e).2
  · exact h
theorem Dq.Ok.remove (h : q.Ok) (x : By) : (q.remove x).Ok := by
  unfold Dq.remove
  split
  · rename_i e
    exact h.alter (nmOk_len (h.key (fiE_zero e).2.1)).2 fun e => absurd rfl e
  · exact h
set_option maxHeartbeats 2000000 in
set_option maxRecDepth 100000 in
theorem rename_c (h : DkAt w b q F) (ok : q.Ok) (hst : q.st < 100000) {x y : By} (hx : KWfS x) (hy : y.length ≤ 65536) :
    Calls Tryz.prog 86 #[.pointer (some ⟨b, 0, none⟩), .string (sb x), .string (sb y)] w fun e w' => e = .returned (.int .i64 (reE q x y)) ∧ DkOut w w' b (q.rename x y) F := by
  have hf := find_c h ok hx
  have hS : Hid (DkOut w w b q F) := DkOut.self h
  have hn := isName_c (sb y) (by rw [sb_size]; omega) w
  have eS : (sb y).data.toList = y := by simp [sb]
  rw [eS] at hn
  have KY := kwf_small hy
  by_cases e1 : fiE q x = 0
  · obtain ⟨z1, z2, z3⟩ := fiE_zero e1
    rw [e1, z3] at hf
    by_cases e2 : nmOk y = false
    · have E1 : reE q x y = 170 := by unfold reE; rw [if_neg (by omega), if_pos e2]
      have E2 : Hid (q.rename x y = q) := by unfold Hid Dq.rename; rw [if_neg (by rw [E1]; decide)]
      rw [E1]
      rw [e2] at hn
      generalize num q.nm x = n at *
      generalize sb x = s at *
      generalize sb y = s2 at *
      generalize q.rename x y = q2 at *
      clear h ok e1 E1 e2 eS KY hy hx hst z1 z2 z3
      go_enter Tryz.func86, Tryz.ntmps86
      go_wp2_with fail
      refine hf.mono ?_
      rintro e w' ⟨rfl, rfl⟩
      go_wp2_with fail
      refine hn.mono ?_
      rintro e w' ⟨rfl, rfl⟩
      go_wp2
      go_ret
      exact ⟨rfl, by rw [E2.out]; exact hS.out⟩
    · have e2t : nmOk y = true := by simpa using e2
      rw [e2t] at hn
      have E1 : reE q x y = 0 := by unfold reE; rw [if_neg (by omega), if_neg e2]
      have E2 : Hid (q.rename x y = (q.alter (x, y, num q.nm x)).done) := by unfold Hid Dq.rename; rw [if_pos E1, z3]
      rw [E1]
      obtain ⟨ks, fm, nb, sn, cv, fv, h1, h2, h3, h4⟩ := h
      have hk : num q.nm x ∈ ks := h1.nmK _ (mem_num z2)
      have cA := alter_c h1 h4 (by have := ok.nmL; omega) (by have := ok.sfL; omega) (x, y, num q.nm x) hx KY (fun _ => hk)
      have CD : Hid (∀ w2, AlOut w w2 b (q.alter (x, y, num q.nm x)) F ks fm nb sn fv → Calls Tryz.prog 71 #[.pointer (some ⟨b, 0, none⟩)] w2 fun e w' => e = .returned (.int .i64 0) ∧ DkOut w w' b (q.alter (x, y, num q.nm x)).done F) := fun w2 A =>
        alDone h4 (Kf.refl _ _) A ok.lf.2 (by show q.st < 1000000; omega) (fun n hn => by have := h2 n hn; show 0 ≤ n ∧ n < ((q.st + 1 : Nat) : Int); omega) (by show ks.length ≤ q.st + 1; omega)
      have ev : (chV (x, y, num q.nm x)).toArray = #[.string (sb x), .string (sb y), .int .i64 (num q.nm x)] := rfl
      rw [ev] at cA
      generalize q.alter (x, y, num q.nm x) = q3 at *
      generalize num q.nm x = n at *
      generalize sb x = s at *
      generalize sb y = s2 at *
      generalize q.rename x y = q2 at *
      have cA : Calls Tryz.prog 82 #[.pointer (some ⟨b, 0, none⟩), .agg #[.string s, .string s2, .int .i64 n]] w fun e w' => e = .returned (.tuple #[]) ∧ Hid (AlOut w w' b q3 F ks fm nb sn fv) := cA
      clear h1 h2 h3 h4 ok e1 E1 e2 eS KY hy hx hst z1 z2 z3 e2t ev hS hk
      go_enter Tryz.func86, Tryz.ntmps86
      go_wp2_with fail
      refine hf.mono ?_
      rintro e w' ⟨rfl, rfl⟩
      go_wp2_with fail
      refine hn.mono ?_
      rintro e w' ⟨rfl, rfl⟩
      go_wp2_with fail
      refine cA.mono ?_
      rintro e w2 ⟨rfl, A⟩
      go_wp2_with fail
      refine (CD.out _ A.out).mono ?_
      rintro e w3 ⟨rfl, R⟩
      have R : Hid (DkOut w w3 b q3.done F) := R
      go_wp2
      go_ret
      exact ⟨rfl, by rw [E2.out]; exact R.out⟩
  · have E1 : reE q x y = fiE q x := by unfold reE; rw [if_pos e1]
    have E2 : Hid (q.rename x y = q) := by unfold Hid Dq.rename; rw [if_neg (by rw [E1]; exact e1)]
    rw [E1]
    have e1' : (fiE q x == 0) = false := by rw [beq_eq_false_iff_ne]; exact e1
    generalize fiE q x = k at *
    generalize fiN q x = n at *
    generalize sb x = s at *
    generalize sb y = s2 at *
    generalize q.rename x y = q2 at *
    clear h ok e1 E1 eS KY hy hx hst hn
    go_enter Tryz.func86, Tryz.ntmps86
    go_wp2_with fail
    refine hf.mono ?_
    rintro e w' ⟨rfl, rfl⟩
    go_wp2
    go_ret
    exact ⟨rfl, by rw [E2.out]; exact hS.out⟩
set_option maxHeartbeats 2000000 in
set_option maxRecDepth 100000 in
theorem remove_c (h : DkAt w b q F) (ok : q.Ok) (hst : q.st < 100000) {x : By} (hx : KWfS x) :
    Calls Tryz.prog 65 #[.pointer (some ⟨b, 0, none⟩), .string (sb x)] w fun e w' => e = .returned (.int .i64 (fiE q x)) ∧ DkOut w w' b (q.remove x) F := by
  have hf := find_c h ok hx
  have hS : Hid (DkOut w w b q F) := DkOut.self h
  by_cases e1 : fiE q x = 0
  · obtain ⟨z1, z2, z3⟩ := fiE_zero e1
    rw [e1, z3] at hf
    have E2 : Hid (q.remove x = (q.alter (x, [], 0)).done) := by unfold Hid Dq.remove; rw [if_pos e1]
    rw [e1]
    obtain ⟨ks, fm, nb, sn, cv, fv, h1, h2, h3, h4⟩ := h
    have cA := alter_c h1 h4 (by have := ok.nmL; omega) (by have := ok.sfL; omega) (x, [], 0) hx (kwf_small (Nat.zero_le _)) (fun e => absurd rfl e)
    have CD : Hid (∀ w2, AlOut w w2 b (q.alter (x, [], 0)) F ks fm nb sn fv → Calls Tryz.prog 71 #[.pointer (some ⟨b, 0, none⟩)] w2 fun e w' => e = .returned (.int .i64 0) ∧ DkOut w w' b (q.alter (x, [], 0)).done F) := fun w2 A =>
      alDone h4 (Kf.refl _ _) A ok.lf.2 (by show q.st < 1000000; omega) (fun n hn => by have := h2 n hn; show 0 ≤ n ∧ n < ((q.st + 1 : Nat) : Int); omega) (by show ks.length ≤ q.st + 1; omega)
    have ev : (chV (x, [], 0)).toArray = #[.string (sb x), .string ByteArray.empty, .int .i64 0] := rfl
    rw [ev] at cA
    generalize q.alter (x, [], 0) = q3 at *
    generalize num q.nm x = n at *
    generalize sb x = s at *
    generalize q.remove x = q2 at *
    have cA : Calls Tryz.prog 82 #[.pointer (some ⟨b, 0, none⟩), .agg #[.string s, .string ByteArray.empty, .int .i64 0]] w fun e w' => e = .returned (.tuple #[]) ∧ Hid (AlOut w w' b q3 F ks fm nb sn fv) := cA
    clear h1 h2 h3 h4 ok e1 hx hst z1 z2 z3 ev hS
    go_enter Tryz.func65, Tryz.ntmps65
    go_wp2_with fail
    refine hf.mono ?_
    rintro e w' ⟨rfl, rfl⟩
    go_wp2_with fail
    refine cA.mono ?_
    rintro e w2 ⟨rfl, A⟩
    go_wp2_with fail
    refine (CD.out _ A.out).mono ?_
    rintro e w3 ⟨rfl, R⟩
    have R : Hid (DkOut w w3 b q3.done F) := R
    go_wp2
    go_ret
    exact ⟨rfl, by rw [E2.out]; exact R.out⟩
  · have E2 : Hid (q.remove x = q) := by unfold Hid Dq.remove; rw [if_neg e1]
    have e1' : (fiE q x == 0) = false := by rw [beq_eq_false_iff_ne]; exact e1
    generalize fiE q x = k at *
    generalize fiN q x = n at *
    generalize sb x = s at *
    generalize q.remove x = q2 at *
    clear h ok e1 hx hst
    go_enter Tryz.func65, Tryz.ntmps65
    go_wp2_with fail
    refine hf.mono ?_
    rintro e w' ⟨rfl, rfl⟩
    go_wp2
    go_ret
    exact ⟨rfl, by rw [E2.out]; exact hS.out⟩
/-- All that want a name, of no disk. -/
theorem rename_nil (s t : ByteArray) (w : World) : Calls Tryz.prog 86 #[.pointer none, .string s, .string t] w fun e w' => e = .returned (.int .i64 3) ∧ w = w' := by
  have hf := find_nil s w
  go_enter Tryz.func86, Tryz.ntmps86
  go_wp2_with fail
  refine hf.mono ?_
  rintro e w' ⟨rfl, rfl⟩
  go_wp2
  go_ret
  exact ⟨rfl, rfl⟩
theorem remove_nil (s : ByteArray) (w : World) : Calls Tryz.prog 65 #[.pointer none, .string s] w fun e w' => e = .returned (.int .i64 3) ∧ w = w' := by
  have hf := find_nil s w
  go_enter Tryz.func65, Tryz.ntmps65
  go_wp2_with fail
  refine hf.mono ?_
  rintro e w' ⟨rfl, rfl⟩
  go_wp2
  go_ret
  exact ⟨rfl, rfl⟩
theorem create_nil (s : ByteArray) (w : World) : Calls Tryz.prog 83 #[.pointer none, .string s] w fun e w' => e = .returned (.int .i64 3) ∧ w = w' := by
  have hf := refusal_nil w
  go_enter Tryz.func83, Tryz.ntmps83
  go_wp2_with fail
  refine hf.mono ?_
  rintro e w' ⟨rfl, rfl⟩
  go_wp2
  go_ret
  exact ⟨rfl, rfl⟩
theorem sync_nil (s : ByteArray) (w : World) : Calls Tryz.prog 48 #[.pointer none, .string s] w fun e w' => e = .returned (.int .i64 3) ∧ w = w' := by
  have hf := find_nil s w
  go_enter Tryz.func48, Tryz.ntmps48
  go_wp2_with fail
  refine hf.mono ?_
  rintro e w' ⟨rfl, rfl⟩
  go_wp2
  go_ret
  exact ⟨rfl, rfl⟩
theorem append_nil (s : ByteArray) (v : Value) (w : World) : Calls Tryz.prog 45 #[.pointer none, .string s, v] w fun e w' => e = .returned (.int .i64 3) ∧ w = w' := by
  have hf := find_nil s w
  go_enter Tryz.func45, Tryz.ntmps45
  go_wp2_with fail
  refine hf.mono ?_
  rintro e w' ⟨rfl, rfl⟩
  go_wp2
  go_ret
  exact ⟨rfl, rfl⟩
theorem syncDir_nil (w : World) : Calls Tryz.prog 49 #[.pointer none] w fun e w' => e = .returned (.int .i64 3) ∧ w = w' := by
  have hf := refusal_nil w
  go_enter Tryz.func49, Tryz.ntmps49
  go_wp2_with fail
  refine hf.mono ?_
  rintro e w' ⟨rfl, rfl⟩
  go_wp2
  go_ret
  exact ⟨rfl, rfl⟩
theorem read_nil (s : ByteArray) (w : World) : Calls Tryz.prog 62 #[.pointer none, .string s] w fun e w' => e = .returned (.tuple #[.slice none 0 0, .int .i64 3]) ∧ w = w' := by
  have hf := find_nil s w
  go_enter Tryz.func62, Tryz.ntmps62
  go_wp2_with fail
  refine hf.mono ?_
  rintro e w' ⟨rfl, rfl⟩
  go_wp2
  exact bodyPost_ret (v := .tuple #[.slice none 0 0, .int .i64 3]) (by simp [results, Tryz.results62, go_sem]) rfl ⟨rfl, rfl⟩
theorem names_nil (w : World) : Calls Tryz.prog 25 #[.pointer none] w fun e w' => e = .returned (.slice none 0 0) ∧ w = w' := by
  have hf := refusal_nil w
  go_enter Tryz.func25, Tryz.ntmps25
  go_wp2_with fail
  refine hf.mono ?_
  rintro e w' ⟨rfl, rfl⟩
  go_wp2
  go_ret
  exact ⟨rfl, rfl⟩
theorem used_nil (w : World) : Calls Tryz.prog 26 #[.pointer none] w fun e w' => e = .returned (.int .i64 0) ∧ w = w' := by
  have hf := refusal_nil w
  go_enter Tryz.func26, Tryz.ntmps26
  go_wp2_with fail
  refine hf.mono ?_
  rintro e w' ⟨rfl, rfl⟩
  go_wp2
  go_ret
  exact ⟨rfl, rfl⟩
theorem crash_nil (v : Value) (w : World) : Calls Tryz.prog 14 #[.pointer none, v] w fun e w' => e = .returned (.int .i64 3) ∧ w = w' := by
  have hf := none_nil w
  go_enter Tryz.func14, Tryz.ntmps14
  go_wp2_with fail
  refine hf.mono ?_
  rintro e w' ⟨rfl, rfl⟩
  go_wp2
  go_ret
  exact ⟨rfl, rfl⟩
end Go.Proofs.YtcbhhdjjanekaaaGreatDoor
