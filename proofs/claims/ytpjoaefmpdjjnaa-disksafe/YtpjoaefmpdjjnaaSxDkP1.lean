/- play: a script of calls. -/
import Derived.Test.YtpjoaefmpdjjnaaSxDkY
import Derived.Test.YtpjoaefmpdjjnaaSxDkLo
namespace Go.Proofs.Ytpjoaefmpdjjnaa
open Go.RowKit Go.Lib Go.Maps

variable {w w0 W W' : World} {b b' : Nat} {q q' q2 : Dq} {F G : Nat → Prop}
theorem DkOut.trans (h : DkOut w W b q F) (k : DkOut W W' b q' (Nw F w W)) : DkOut w W' b q' F := by
  obtain ⟨⟨ks, fm, nb, sn, cv, fv, h1, h2, h3, h4⟩, k2⟩ := k
  have hs := h.2.size
  have hs' := k2.size
  have e : ∀ j, Nw (Nw F w W) W W' j → Nw F w W' j := fun j hj => by
    rcases hj with (f | f) | f
    · exact .inl f
    · exact .inr ⟨f.1, Nat.lt_of_lt_of_le f.2 hs'⟩
    · exact .inr ⟨Nat.le_trans hs f.1, f.2⟩
  have hF : ∀ j, F j → j < W'.heap.size := fun j f => Nat.lt_of_lt_of_le (h.1.lt j (.inl f)) hs'
  exact ⟨⟨ks, fm, nb, sn, cv, fv, h1.kp (fun _ _ _ => rfl) fun j f _ => e j f, h2, h3, fun j f => f.elim (hF j) fun f => f.2⟩, h.2.then k2 fun j hj f => f.elim id fun f => absurd hj (by omega)⟩
theorem DkOut.gb (h : DkOut w W b q F) (g : Gb W W') : DkOut w W' b q F := by
  obtain ⟨⟨ks, fm, nb, sn, cv, fv, h1, h2, h3, h4⟩, k⟩ := h
  exact ⟨⟨ks, fm, nb, sn, cv, fv, h1.kp (fun j hj _ => g.block j hj) fun j f _ => f.imp id fun f => ⟨f.1, Nat.lt_of_lt_of_le f.2 g.size⟩, h2, h3, fun j f => f.elim (fun f => Nat.lt_of_lt_of_le (h4 j (.inl f)) g.size) fun f => f.2⟩, k.then (Kf.gb g F) fun _ _ h => h⟩
/-- One call; the first calls of a script. -/
def Dq.play1 (q : Dq) (x : OpP) : Dq :=
  if x.1 = 1 then q.create x.2.1 else if x.1 = 2 then q.append x.2.1 x.2.2.2.1 else if x.1 = 3 then q.sync x.2.1 else if x.1 = 4 then q.rename x.2.1 x.2.2.1 else if x.1 = 5 then q.remove x.2.1
  else if x.1 = 6 then q.syncDir else if x.1 = 8 then q.stop x.2.2.2.2.1 else if x.1 = 9 then q.crash x.2.2.2.2.2 else q
theorem done_st (q : Dq) : q.done.st = q.st + 1 := rfl
theorem play1_st (q : Dq) (x : OpP) : (q.play1 x).st ≤ q.st + 1 := by
  unfold Dq.play1
  split
  · unfold Dq.create; split
    · exact Nat.le_refl _
    · omega
  split
  · unfold Dq.append; split
    · exact Nat.le_refl _
    · omega
  split
  · unfold Dq.sync; split
    · exact Nat.le_refl _
    · omega
  split
  · unfold Dq.rename; split
    · exact Nat.le_refl _
    · omega
  split
  · unfold Dq.remove; split
    · exact Nat.le_refl _
    · omega
  split
  · unfold Dq.syncDir; split
    · omega
    · exact Nat.le_refl _
  split
  · unfold Dq.stop; split
    · show q.st ≤ _; omega
    · omega
  split
  · show q.st ≤ _; omega
  · omega
theorem Dq.Ok.play1 (h : q.Ok) {x : OpP} (hx : OpR x) : (q.play1 x).Ok := by
  unfold Dq.play1
  split
  · exact h.create _
  split
  · exact h.append _ _
  split
  · exact h.sync _
  split
  · exact h.rename _ _
  split
  · exact h.remove _
  split
  · exact h.syncDir
  split
  · exact h.stop hx.2.2.1.2
  split
  · exact h.crash _
  · exact h
def plT (q : Dq) (ops : List OpP) (i : Nat) : Dq := (ops.take i).foldl Dq.play1 q
theorem plT_succ (q : Dq) {ops : List OpP} {i : Nat} (hi : i < ops.length) : plT q ops (i + 1) = (plT q ops i).play1 ops[i]! := by
  unfold plT
  rw [List.take_succ_eq_append_getElem hi, List.foldl_append, getElem!_pos ops i hi]; rfl
theorem plT_st (q : Dq) (ops : List OpP) (i : Nat) : (plT q ops i).st ≤ q.st + i := by
  induction i with
  | zero => exact Nat.le_refl _
  | succ i ih =>
    by_cases h : i < ops.length
    · rw [plT_succ q h]
      have := play1_st (plT q ops i) ops[i]!
      omega
    · have e : plT q ops (i + 1) = plT q ops i := by unfold plT; rw [List.take_of_length_le (by omega), List.take_of_length_le (by omega)]
      rw [e]; omega
theorem plT_ok (h : q.Ok) {ops : List OpP} (hr : ∀ i, i < ops.length → OpR ops[i]!) (i : Nat) : (plT q ops i).Ok := by
  induction i with
  | zero => exact h
  | succ i ih =>
    by_cases hi : i < ops.length
    · rw [plT_succ q hi]; exact ih.play1 (hr i hi)
    · have e : plT q ops (i + 1) = plT q ops i := by unfold plT; rw [List.take_of_length_le (by omega), List.take_of_length_le (by omega)]
      rw [e]; exact ih
theorem plT_all (q : Dq) (ops : List OpP) : plT q ops ops.length = ops.foldl Dq.play1 q := by unfold plT; rw [List.take_length]
/-- A script that reads as these calls, whatever becomes of the disk. -/
def SkS (F : Nat → Prop) (w : World) (v : Value) (ops : List OpP) : Prop := ∃ a cap, v = .slice a ops.length cap ∧ ∀ i, i < ops.length → ∃ g o vb vc, a = some ⟨g, o, none⟩ ∧ ∀ X, Kf F w X →
  (X.cell? ⟨g, o + i * 6, none⟩ = some (.int .i64 ops[i]!.1) ∧ X.cell? ⟨g, o + i * 6 + 1, none⟩ = some (.string (sb ops[i]!.2.1)) ∧ X.cell? ⟨g, o + i * 6 + 2, none⟩ = some (.string (sb ops[i]!.2.2.1)) ∧ X.cell? ⟨g, o + i * 6 + 3, none⟩ = some vb ∧ X.cell? ⟨g, o + i * 6 + 4, none⟩ = some (.int .i64 ops[i]!.2.2.2.2.1) ∧ X.cell? ⟨g, o + i * 6 + 5, none⟩ = some vc) ∧
  RdY X vb ops[i]!.2.2.2.1 ∧ RdI X vc ops[i]!.2.2.2.2.2
theorem kf_base (g : Gb w0 w) (hF : ∀ k, F k → w0.heap.size ≤ k) {X : World} (k : Kf F w X) : Gb w0 X :=
  ⟨k.os.trans g.os, k.tape.trans g.tape, k.output.trans g.output, Nat.le_trans g.size k.size, fun j hj => (k.block j (Nat.lt_of_lt_of_le hj g.size) fun f => by have := hF j f; omega).trans (g.block j hj)⟩
theorem SkS.of {v : Value} {ops : List OpP} (h : RdS w0 v ops) (g : Gb w0 w) (hF : ∀ k, F k → w0.heap.size ≤ k) : SkS F w v ops := by
  obtain ⟨a, cap, e, h⟩ := h
  refine ⟨a, cap, e, fun i hi => ?_⟩
  obtain ⟨b, o, vb, vc, e, ⟨c0, c1, c2, c3, c4, c5⟩, h1, h2⟩ := h i hi
  exact ⟨b, o, vb, vc, e, fun X k => by
    have g := kf_base g hF k
    exact ⟨⟨gb_keeps g c0, gb_keeps g c1, gb_keeps g c2, gb_keeps g c3, gb_keeps g c4, gb_keeps g c5⟩, h1.gb g, h2.gb g⟩⟩
theorem RdY.ag {v : Value} {l : By} (h : RdY w v l) : AgB w v l := by
  obtain ⟨⟨a, cap, rfl, hc, ha⟩, hn⟩ := h
  cases a with
  | none =>
    obtain ⟨h1, h2⟩ := hn _ _ rfl
    exact ⟨none, cap, rfl, .inl ⟨rfl, h2, List.eq_nil_of_length_eq_zero h1⟩⟩
  | some ad =>
    refine ⟨_, cap, rfl, .inr ⟨ad, rfl, fun j u hj => ?_⟩⟩
    have hj' : j < l.length := by
      rcases Nat.lt_or_ge j l.length with h | h
      · exact h
      · rw [List.getElem?_eq_none (by simpa using h)] at hj; cases hj
    obtain ⟨g, o, e, hc⟩ := ha j hj'
    cases e
    rw [Addr.add_lit, hc]
    rw [List.getElem?_map, List.getElem?_eq_getElem hj'] at hj
    rw [getElem!_pos l j hj']
    exact hj
/-- Names and bytes that are looked at. -/
def OpS (x : OpP) : Prop := x.2.1.length ≤ 65536 ∧ x.2.2.1.length ≤ 65536 ∧ x.2.2.2.1.length ≤ 65536
/-- A round's call. -/
theorem play_round {ops : List OpP} {i : Nat} (o : DkOut w W b (plT q ops i) F) (hok : (plT q ops i).Ok) (hst : (plT q ops i).st < 100000) (hi : i < ops.length) (hr : OpR ops[i]!) (hs : OpS ops[i]!) {vb vc : Value} (hR : ∀ X, Kf F w X → RdY X vb ops[i]!.2.2.2.1 ∧ RdI X vc ops[i]!.2.2.2.2.2) (c : Obj) :
    (ops[i]!.1 = 1 → Calls Try.prog 18 #[.pointer (some ⟨b, 0, none⟩), .string (sb ops[i]!.2.1)] (W.alloc c) fun e w' => (∃ n, e = .returned (.int .i64 n)) ∧ Hid (DkOut w w' b (plT q ops (i + 1)) F)) ∧
    (ops[i]!.1 = 2 → Calls Try.prog 22 #[.pointer (some ⟨b, 0, none⟩), .string (sb ops[i]!.2.1), vb] (W.alloc c) fun e w' => (∃ n, e = .returned (.int .i64 n)) ∧ Hid (DkOut w w' b (plT q ops (i + 1)) F)) ∧
    (ops[i]!.1 = 3 → Calls Try.prog 20 #[.pointer (some ⟨b, 0, none⟩), .string (sb ops[i]!.2.1)] (W.alloc c) fun e w' => (∃ n, e = .returned (.int .i64 n)) ∧ Hid (DkOut w w' b (plT q ops (i + 1)) F)) ∧
    (ops[i]!.1 = 4 → Calls Try.prog 30 #[.pointer (some ⟨b, 0, none⟩), .string (sb ops[i]!.2.1), .string (sb ops[i]!.2.2.1)] (W.alloc c) fun e w' => (∃ n, e = .returned (.int .i64 n)) ∧ Hid (DkOut w w' b (plT q ops (i + 1)) F)) ∧
    (ops[i]!.1 = 5 → Calls Try.prog 31 #[.pointer (some ⟨b, 0, none⟩), .string (sb ops[i]!.2.1)] (W.alloc c) fun e w' => (∃ n, e = .returned (.int .i64 n)) ∧ Hid (DkOut w w' b (plT q ops (i + 1)) F)) ∧
    (ops[i]!.1 = 6 → Calls Try.prog 19 #[.pointer (some ⟨b, 0, none⟩)] (W.alloc c) fun e w' => (∃ n, e = .returned (.int .i64 n)) ∧ Hid (DkOut w w' b (plT q ops (i + 1)) F)) ∧
    (ops[i]!.1 = 8 → Calls Try.prog 27 #[.pointer (some ⟨b, 0, none⟩), .int .i64 ops[i]!.2.2.2.2.1] (W.alloc c) fun e w' => (∃ n, e = .returned (.int .i64 n)) ∧ Hid (DkOut w w' b (plT q ops (i + 1)) F)) ∧
    (ops[i]!.1 = 9 → Calls Try.prog 17 #[.pointer (some ⟨b, 0, none⟩), vc] (W.alloc c) fun e w' => (∃ n, e = .returned (.int .i64 n)) ∧ Hid (DkOut w w' b (plT q ops (i + 1)) F)) ∧
    (¬ (ops[i]!.1 = 1 ∨ ops[i]!.1 = 2 ∨ ops[i]!.1 = 3 ∨ ops[i]!.1 = 4 ∨ ops[i]!.1 = 5 ∨ ops[i]!.1 = 6 ∨ ops[i]!.1 = 8 ∨ ops[i]!.1 = 9) → Hid (DkOut w (W.alloc c) b (plT q ops (i + 1)) F)) := by
  have oa := o.gb (gb_alloc (Below.refl _ W) c)
  rw [plT_succ q hi]
  unfold Dq.play1
  have hX : ∀ X, Kf (Nw F w (W.alloc c)) (W.alloc c) X → Kf F w X := fun X k => oa.2.then k fun j hj f => f.elim id fun f => absurd hj (by omega)
  obtain ⟨s1, s2, s3⟩ := hs
  refine ⟨fun e => ?_, fun e => ?_, fun e => ?_, fun e => ?_, fun e => ?_, fun e => ?_, fun e => ?_, fun e => ?_, fun e => ?_⟩
  · refine (create_c oa.1 hok hst s1).mono ?_
    rintro e' w' ⟨rfl, o'⟩
    refine ⟨⟨_, rfl⟩, ?_⟩
    rw [if_pos e]
    exact oa.trans o'
  · refine (append_c oa.1 hok hst (kwf_small s1) (hR _ oa.2).1.ag (by omega)).mono ?_
    rintro e' w' ⟨rfl, o'⟩
    refine ⟨⟨_, rfl⟩, ?_⟩
    rw [if_neg (by rw [e]; decide), if_pos e]
    exact oa.trans o'
  · refine (sync_c oa.1 hok hst (kwf_small s1)).mono ?_
    rintro e' w' ⟨rfl, o'⟩
    refine ⟨⟨_, rfl⟩, ?_⟩
    rw [if_neg (by rw [e]; decide), if_neg (by rw [e]; decide), if_pos e]
    exact oa.trans o'
  · refine (rename_c oa.1 hok hst (kwf_small s1) s2).mono ?_
    rintro e' w' ⟨rfl, o'⟩
    refine ⟨⟨_, rfl⟩, ?_⟩
    rw [if_neg (by rw [e]; decide), if_neg (by rw [e]; decide), if_neg (by rw [e]; decide), if_pos e]
    exact oa.trans o'
  · refine (remove_c oa.1 hok hst (kwf_small s1)).mono ?_
    rintro e' w' ⟨rfl, o'⟩
    refine ⟨⟨_, rfl⟩, ?_⟩
    rw [if_neg (by rw [e]; decide), if_neg (by rw [e]; decide), if_neg (by rw [e]; decide), if_neg (by rw [e]; decide), if_pos e]
    exact oa.trans o'
  · refine (syncDir_c oa.1 hok hst).mono ?_
    rintro e' w' ⟨rfl, o'⟩
    refine ⟨⟨_, rfl⟩, ?_⟩
    rw [if_neg (by rw [e]; decide), if_neg (by rw [e]; decide), if_neg (by rw [e]; decide), if_neg (by rw [e]; decide), if_neg (by rw [e]; decide), if_pos e]
    exact oa.trans o'
  · refine (stop_c oa.1 hok ops[i]!.2.2.2.2.1).mono ?_
    rintro e' w' ⟨rfl, o'⟩
    refine ⟨⟨_, rfl⟩, ?_⟩
    rw [if_neg (by rw [e]; decide), if_neg (by rw [e]; decide), if_neg (by rw [e]; decide), if_neg (by rw [e]; decide), if_neg (by rw [e]; decide), if_neg (by rw [e]; decide), if_pos e]
    exact oa.trans o'
  · refine (crash_c oa.1 hok hst hr.2.2.2 (fun X k => (hR X (hX X k)).2)).mono ?_
    rintro e' w' ⟨rfl, o'⟩
    refine ⟨⟨_, rfl⟩, ?_⟩
    rw [if_neg (by rw [e]; decide), if_neg (by rw [e]; decide), if_neg (by rw [e]; decide), if_neg (by rw [e]; decide), if_neg (by rw [e]; decide), if_neg (by rw [e]; decide), if_neg (by rw [e]; decide), if_pos e]
    exact oa.trans o'
  · rw [if_neg (fun h => e (.inl h)), if_neg (fun h => e (.inr (.inl h))), if_neg (fun h => e (.inr (.inr (.inl h)))), if_neg (fun h => e (.inr (.inr (.inr (.inl h))))), if_neg (fun h => e (.inr (.inr (.inr (.inr (.inl h)))))), if_neg (fun h => e (.inr (.inr (.inr (.inr (.inr (.inl h))))))), if_neg (fun h => e (.inr (.inr (.inr (.inr (.inr (.inr (.inl h)))))))), if_neg (fun h => e (.inr (.inr (.inr (.inr (.inr (.inr (.inr h))))))))]
    exact oa
end Go.Proofs.Ytpjoaefmpdjjnaa
