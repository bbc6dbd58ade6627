import Derived.Test.YtkagnoinifffdaaRxDkY
import Derived.Test.YtkagnoinifffdaaRx14
/- play: a script of calls. -/
namespace Go.Proofs.Ytkagnoinifffdaa
open Go.RowKit Go.Lib Go.Maps

variable {w w0 W W' : World} {b b' : Nat} {q q' q2 : Dq} {F G : Nat → Prop}
theorem DkOut.trans (h : DkOut w W b q F) (k : DkOut W W' b q' (Nw F w W)) : DkOut w W' b q' F := by
  obtain ⟨⟨ks, fm, nb, sn, cv, fv, h1, h2, h3, h4⟩, k2⟩ := k
  have hs := h.2.size
  have hs' := k2.size
  have e : ∀ j, Nw (Nw F w W) W W' j → Nw F w W' j := fun j hj => by
    rcases hj with (f | f) | f
    · exact .inl f
    · exact .inr ⟨f.1, Nat.lt_of_lt_of_le f.2 hs'⟩
    · exact .inr ⟨Nat.le_trans hs f.1, f.2⟩
  have hF : ∀ j, F j → j < W'.heap.size := fun j f => Nat.lt_of_lt_of_le (h.1.lt j (.inl f)) hs'
  exact ⟨⟨ks, fm, nb, sn, cv, fv, h1.kp (fun _ _ _ => rfl) fun j f _ => e j f, h2, h3, fun j f => f.elim (hF j) fun f => f.2⟩, h.2.then k2 fun j hj f => f.elim id fun f => absurd hj (by omega)⟩
theorem DkOut.gb (h : DkOut w W b q F) (g : Gb W W') : DkOut w W' b q F := by
  obtain ⟨⟨ks, fm, nb, sn, cv, fv, h1, h2, h3, h4⟩, k⟩ := h
  exact ⟨⟨ks, fm, nb, sn, cv, fv, h1.kp (fun j hj _ => g.block j hj) fun j f _ => f.imp id fun f => ⟨f.1, Nat.lt_of_lt_of_le f.2 g.size⟩, h2, h3, fun j f => f.elim (fun f => Nat.lt_of_lt_of_le (h4 j (.inl f)) g.size) fun f => f.2⟩, k.then (Kf.gb g F) fun _ _ h => h⟩
/-- One call; the first calls of a script. -/
def Dq.play1 (q : Dq) (x : OpP) : Dq :=
  if x.1 = 1 then q.create x.2.1 else if x.1 = 2 then q.append x.2.1 x.2.2.2.1 else if x.1 = 3 then q.sync x.2.1 else if x.1 = 4 then q.rename x.2.1 x.2.2.1 else if x.1 = 5 then q.remove x.2.1
  else if x.1 = 6 then q.syncDir else if x.1 = 8 then q.stop x.2.2.2.2.1 else if x.1 = 9 then q.crash x.2.2.2.2.2 else q
theorem done_st (q : Dq) : q.done.st = q.st + 1 := rfl
theorem play1_st (q : Dq) (x : OpP) : (q.play1 x).st ≤ q.st + 1 := by
  unfold Dq.play1
  split
  · unfold Dq.create; split
    · exact Nat.le_refl _
    · omega
  split
  · unfold Dq.append; split
    · exact Nat.le_refl _
    · omega
  split
  · unfold Dq.sync; split
    · exact Nat.le_refl _
    · omega
  split
  · unfold Dq.rename; split
    · exact Nat.le_refl _
    · omega
  split
  · unfold Dq.remove; split
    · exact Nat.le_refl _
    · omega
  split
  · unfold Dq.syncDir; split
    · omega
    · exact Nat.le_refl _
  split
  · unfold Dq.stop; split
    · show q.st ≤ _; omega
    · omega
  split
  · show q.st ≤ _; omega
  · omega
theorem Dq.Ok.play1 (h : q.Ok) {x : OpP} (hx : OpR x) : (q.play1 x).Ok := by
  unfold Dq.play1
  split
  · exact h.create _
  split
  · exact h.append _ _
  split
  · exact h.sync _
  split
  · exact h.rename _ _
  split
  · exact h.remove _
  split
  · exact h.syncDir
  split
  · exact h.stop hx.2.2.1.2
  split
  · exact h.crash _
  · exact h
def plT (q : Dq) (ops : List OpP) (i : Nat) : Dq := (ops.take i).foldl Dq.play1 q
theorem plT_succ (q : Dq) {ops : List OpP} {i : Nat} (hi : i < ops.length) : plT q ops (i + 1) = (plT q ops i).play1 ops[i]! := by
  unfold plT
  rw [List.take_succ_eq_append_getElem hi, List.foldl_append, getElem!_pos ops i hi]; rfl
theorem plT_st (q : Dq) (ops : List OpP) (i : Nat) : (plT q ops i).st ≤ q.st + i := by
  induction i with
  | zero => exact Nat.le_refl _
  | succ i ih =>
    by_cases h : i < ops.length
    · rw [plT_succ q h]
      have := play1_st (plT q ops i) ops[i]!
      omega
    · have e : plT q ops (i + 1) = plT q ops i := by unfold plT; rw [List.take_of_length_le (by omega), List.take_of_length_le (by omega)]
      rw [e]; omega
theorem plT_ok (h : q.Ok) {ops : List OpP} (hr : ∀ i, i < ops.length → OpR ops[i]!) (i : Nat) : (plT q ops i).Ok := by
  induction i with
  | zero => exact h
  | succ i ih =>
    by_cases hi : i < ops.length
    · rw [plT_succ q hi]; exact ih.play1 (hr i hi)
    · have e : plT q ops (i + 1) = plT q ops i := by unfold plT; rw [List.take_of_length_le (by omega), List.take_of_length_le (by omega)]
      rw [e]; exact ih
theorem plT_all (q : Dq) (ops : List OpP) : plT q ops ops.length = ops.foldl Dq.play1 q := by unfold plT; rw [List.take_length]
/-- A script that reads as these calls, whatever becomes of the disk. -/
def SkS (F : Nat → Prop) (w : World) (v : Value) (ops : List OpP) : Prop := ∃ a cap, v = .slice a ops.length cap ∧ ∀ i, i < ops.length → ∃ g o vb vc, a = some ⟨g, o, none⟩ ∧ ∀ X, Kf F w X →
  (X.cell? ⟨g, o + i * 6, none⟩ = some (.int .i64 ops[i]!.1) ∧ X.cell? ⟨g, o + i * 6 + 1, none⟩ = some (.string (sb ops[i]!.2.1)) ∧ X.cell? ⟨g, o + i * 6 + 2, none⟩ = some (.string (sb ops[i]!.2.2.1)) ∧ X.cell? ⟨g, o + i * 6 + 3, none⟩ = some vb ∧ X.cell? ⟨g, o + i * 6 + 4, none⟩ = some (.int .i64 ops[i]!.2.2.2.2.1) ∧ X.cell? ⟨g, o + i * 6 + 5, none⟩ = some vc) ∧
  RdY X vb ops[i]!.2.2.2.1 ∧ RdI X vc ops[i]!.2.2.2.2.2
theorem kf_base (g : Gb w0 w) (hF : ∀ k, F k → w0.heap.size ≤ k) {X : World} (k : Kf F w X) : Gb w0 X :=
  ⟨k.os.trans g.os, k.tape.trans g.tape, k.output.trans g.output, Nat.le_trans g.size k.size, fun j hj => (k.block j (Nat.lt_of_lt_of_le hj g.size) fun f => by have := hF j f; omega).trans (g.block j hj)⟩
theorem SkS.of {v : Value} {ops : List OpP} (h : RdS w0 v ops) (g : Gb w0 w) (hF : ∀ k, F k → w0.heap.size ≤ k) : SkS F w v ops := by
  obtain ⟨a, cap, e, h⟩ := h
  refine ⟨a, cap, e, fun i hi => ?_⟩
  obtain ⟨b, o, vb, vc, e, ⟨c0, c1, c2, c3, c4, c5⟩, h1, h2⟩ := h i hi
  exact ⟨b, o, vb, vc, e, fun X k => by
    have g := kf_base g hF k
    exact ⟨⟨gb_keeps g c0, gb_keeps g c1, gb_keeps g c2, gb_keeps g c3, gb_keeps g c4, gb_keeps g c5⟩, h1.gb g, h2.gb g⟩⟩
theorem RdY.ag {v : Value} {l : By} (h : RdY w v l) : AgB w v l := by
  obtain ⟨⟨a, cap, rfl, hc, ha⟩, hn⟩ := h
  cases a with
  | none =>
    obtain ⟨h1, h2⟩ := hn _ _ rfl
    exact ⟨none, cap, rfl, .inl ⟨rfl, h2, List.eq_nil_of_length_eq_zero h1⟩⟩
  | some ad =>
    refine ⟨_, cap, rfl, .inr ⟨ad, rfl, fun j u hj => ?_⟩⟩
    have hj' : j < l.length := by
      rcases Nat.lt_or_ge j l.length with h | h
      · exact h
      · rw [List.getElem?_eq_none (by simpa using h)] at hj; cases hj
    obtain ⟨g, o, e, hc⟩ := ha j hj'
    cases e
    rw [Addr.add_lit, hc]
    rw [List.getElem?_map, List.getElem?_eq_getElem hj'] at hj
    rw [getElem!_pos l j hj']
    exact hj
/-- Names and bytes that are looked at. -/
def OpS (x : OpP) : Prop := x.2.1.length ≤ 65536 ∧ x.2.2.1.length ≤ 65536 ∧ x.2.2.2.1.length ≤ 65536
/-- A round's call. -/
theorem play_round {ops : List OpP} {i : Nat} (o : DkOut w W b (plT q ops i) F) (hok : (plT q ops i).Ok) (hst : (plT q ops i).st < 100000) (hi : i < ops.length) (hr : OpR ops[i]!) (hs : OpS ops[i]!) {vb vc : Value} (hR : ∀ X, Kf F w X → RdY X vb ops[i]!.2.2.2.1 ∧ RdI X vc ops[i]!.2.2.2.2.2) (c : Obj) :
    (ops[i]!.1 = 1 → Calls Try.prog 18 #[.pointer (some ⟨b, 0, none⟩), .string (sb ops[i]!.2.1)] (W.alloc c) fun e w' => (∃ n, e = .returned (.int .i64 n)) ∧ Hid (DkOut w w' b (plT q ops (i + 1)) F)) ∧
    (ops[i]!.1 = 2 → Calls Try.prog 22 #[.pointer (some ⟨b, 0, none⟩), .string (sb ops[i]!.2.1), vb] (W.alloc c) fun e w' => (∃ n, e = .returned (.int .i64 n)) ∧ Hid (DkOut w w' b (plT q ops (i + 1)) F)) ∧
    (ops[i]!.1 = 3 → Calls Try.prog 20 #[.pointer (some ⟨b, 0, none⟩), .string (sb ops[i]!.2.1)] (W.alloc c) fun e w' => (∃ n, e = .returned (.int .i64 n)) ∧ Hid (DkOut w w' b (plT q ops (i + 1)) F)) ∧
    (ops[i]!.1 = 4 → Calls Try.prog 30 #[.pointer (some ⟨b, 0, none⟩), .string (sb ops[i]!.2.1), .string (sb ops[i]!.2.2.1)] (W.alloc c) fun e w' => (∃ n, e = .returned (.int .i64 n)) ∧ Hid (DkOut w w' b (plT q ops (i + 1)) F)) ∧
    (ops[i]!.1 = 5 → Calls Try.prog 31 #[.pointer (some ⟨b, 0, none⟩), .string (sb ops[i]!.2.1)] (W.alloc c) fun e w' => (∃ n, e = .returned (.int .i64 n)) ∧ Hid (DkOut w w' b (plT q ops (i + 1)) F)) ∧
    (ops[i]!.1 = 6 → Calls Try.prog 19 #[.pointer (some ⟨b, 0, none⟩)] (W.alloc c) fun e w' => (∃ n, e = .returned (.int .i64 n)) ∧ Hid (DkOut w w' b (plT q ops (i + 1)) F)) ∧
    (ops[i]!.1 = 8 → Calls Try.prog 27 #[.pointer (some ⟨b, 0, none⟩), .int .i64 ops[i]!.2.2.2.2.1] (W.alloc c) fun e w' => (∃ n, e = .returned (.int .i64 n)) ∧ Hid (DkOut w w' b (plT q ops (i + 1)) F)) ∧
    (ops[i]!.1 = 9 → Calls Try.prog 17 #[.pointer (some ⟨b, 0, none⟩), vc] (W.alloc c) fun e w' => (∃ n, e = .returned (.int .i64 n)) ∧ Hid (DkOut w w' b (plT q ops (i + 1)) F)) ∧
    (¬ (ops[i]!.1 = 1 ∨ ops[i]!.1 = 2 ∨ ops[i]!.1 = 3 ∨ ops[i]!.1 = 4 ∨ ops[i]!.1 = 5 ∨ ops[i]!.1 = 6 ∨ ops[i]!.1 = 8 ∨ ops[i]!.1 = 9) → Hid (DkOut w (W.alloc c) b (plT q ops (i + 1)) F)) := by
  have oa := o.gb (gb_alloc (Below.refl _ W) c)
  rw [plT_succ q hi]
  unfold Dq.play1
  have hX : ∀ X, Kf (Nw F w (W.alloc c)) (W.alloc c) X → Kf F w X := fun X k => oa.2.then k fun j hj f => f.elim id fun f => absurd hj (by omega)
  obtain ⟨s1, s2, s3⟩ := hs
  refine ⟨fun e => ?_, fun e => ?_, fun e => ?_, fun e => ?_, fun e => ?_, fun e => ?_, fun e => ?_, fun e => ?_, fun e => ?_⟩
  · refine (create_c oa.1 hok hst s1).mono ?_
    rintro e' w' ⟨rfl, o'⟩
    refine ⟨⟨_, rfl⟩, ?_⟩
    rw [if_pos e]
    exact oa.trans o'
  · refine (append_c oa.1 hok hst (kwf_small s1) (hR _ oa.2).1.ag (by omega)).mono ?_
    rintro e' w' ⟨rfl, o'⟩
    refine ⟨⟨_, rfl⟩, ?_⟩
    rw [if_neg (by rw [e]; decide), if_pos e]
    exact oa.trans o'
  · refine (sync_c oa.1 hok hst (kwf_small s1)).mono ?_
    rintro e' w' ⟨rfl, o'⟩
    refine ⟨⟨_, rfl⟩, ?_⟩
    rw [if_neg (by rw [e]; decide), if_neg (by rw [e]; decide), if_pos e]
    exact oa.trans o'
  · refine (rename_c oa.1 hok hst (kwf_small s1) s2).mono ?_
    rintro e' w' ⟨rfl, o'⟩
    refine ⟨⟨_, rfl⟩, ?_⟩
    rw [if_neg (by rw [e]; decide), if_neg (by rw [e]; decide), if_neg (by rw [e]; decide), if_pos e]
    exact oa.trans o'
  · refine (remove_c oa.1 hok hst (kwf_small s1)).mono ?_
    rintro e' w' ⟨rfl, o'⟩
    refine ⟨⟨_, rfl⟩, ?_⟩
    rw [if_neg (by rw [e]; decide), if_neg (by rw [e]; decide), if_neg (by rw [e]; decide), if_neg (by rw [e]; decide), if_pos e]
    exact oa.trans o'
  · refine (syncDir_c oa.1 hok hst).mono ?_
    rintro e' w' ⟨rfl, o'⟩
    refine ⟨⟨_, rfl⟩, ?_⟩
    rw [if_neg (by rw [e]; decide), if_neg (by rw [e]; decide), if_neg (by rw [e]; decide), if_neg (by rw [e]; decide), if_neg (by rw [e]; decide), if_pos e]
    exact oa.trans o'
  · refine (stop_c oa.1 hok ops[i]!.2.2.2.2.1).mono ?_
    rintro e' w' ⟨rfl, o'⟩
    refine ⟨⟨_, rfl⟩, ?_⟩
    rw [if_neg (by rw [e]; decide), if_neg (by rw [e]; decide), if_neg (by rw [e]; decide), if_neg (by rw [e]; decide), if_neg (by rw [e]; decide), if_neg (by rw [e]; decide), if_pos e]
    exact oa.trans o'
  · refine (crash_c oa.1 hok hst hr.2.2.2 (fun X k => (hR X (hX X k)).2)).mono ?_
    rintro e' w' ⟨rfl, o'⟩
    refine ⟨⟨_, rfl⟩, ?_⟩
    rw [if_neg (by rw [e]; decide), if_neg (by rw [e]; decide), if_neg (by rw [e]; decide), if_neg (by rw [e]; decide), if_neg (by rw [e]; decide), if_neg (by rw [e]; decide), if_neg (by rw [e]; decide), if_pos e]
    exact oa.trans o'
  · rw [if_neg (fun h => e (.inl h)), if_neg (fun h => e (.inr (.inl h))), if_neg (fun h => e (.inr (.inr (.inl h)))), if_neg (fun h => e (.inr (.inr (.inr (.inl h))))), if_neg (fun h => e (.inr (.inr (.inr (.inr (.inl h)))))), if_neg (fun h => e (.inr (.inr (.inr (.inr (.inr (.inl h))))))), if_neg (fun h => e (.inr (.inr (.inr (.inr (.inr (.inr (.inl h)))))))), if_neg (fun h => e (.inr (.inr (.inr (.inr (.inr (.inr (.inr h))))))))]
    exact oa
end Go.Proofs.Ytkagnoinifffdaa

/- What a crash leaves of one file, plainly: each file has one name. -/
namespace Go.Proofs.Ytkagnoinifffdaa
open Go.RowKit Go.Lib Go.Maps

def nbs (l : Nms) : List Int := l.map Prod.snd
theorem num_inj {l : Nms} (hn : (nbs l).Nodup) {x y : By} (hx : x ∈ kys l) (hy : y ∈ kys l) (h : num l x = num l y) : x = y := by
  have h1 := mem_num hx
  have h2 := mem_num hy
  rw [h] at h1
  induction l with
  | nil => simp [kys] at hx
  | cons a r ih =>
    have hd := List.nodup_cons.1 (show (a.2 :: nbs r).Nodup from hn)
    generalize num (a :: r) y = n at *
    rcases List.mem_cons.1 h1 with e1 | e1
    · rcases List.mem_cons.1 h2 with e2 | e2
      · have := e1.trans e2.symm
        injection this
      · exact absurd (by rw [← e1]; exact List.mem_map.2 ⟨_, e2, rfl⟩) hd.1
    · rcases List.mem_cons.1 h2 with e2 | e2
      · exact absurd (by rw [← e2]; exact List.mem_map.2 ⟨_, e1, rfl⟩) hd.1
      · clear ih hx hy h
        -- both entries lie in r, with one number
        have key : ∀ (r : Nms), (nbs r).Nodup → (x, n) ∈ r → (y, n) ∈ r → x = y := by
          intro r
          induction r with
          | nil => intro _ h; simp at h
          | cons b s ih =>
            intro hn h1 h2
            have hd := List.nodup_cons.1 (show (b.2 :: nbs s).Nodup from hn)
            rcases List.mem_cons.1 h1 with e1 | e1
            · rcases List.mem_cons.1 h2 with e2 | e2
              · have := e1.trans e2.symm
                injection this
              · exact absurd (by rw [← e1]; exact List.mem_map.2 ⟨_, e2, rfl⟩) hd.1
            · rcases List.mem_cons.1 h2 with e2 | e2
              · exact absurd (by rw [← e2]; exact List.mem_map.2 ⟨_, e1, rfl⟩) hd.1
              · exact ih hd.2 e1 e2
        exact key r hd.2 e1 e2
/-- A file that has a name goes through a crash once. -/
theorem crT_at {nm : Nms} (hi : (nbs nm).Nodup) {L : List By} (hL : ∀ x ∈ L, x ∈ kys nm) (hd : L.Nodup) {j : Nat} (hj : j < L.length) (cs : List Int) (fb : Int → By) (fs : Int → Nat) (i : Nat) (hil : i ≤ L.length) :
    (i ≤ j → (crT nm L cs fb fs i).1 (num nm L[j]!) = fb (num nm L[j]!) ∧ (crT nm L cs fb fs i).2 (num nm L[j]!) = fs (num nm L[j]!)) ∧
    (j < i → (crT nm L cs fb fs i).1 (num nm L[j]!) = crB (fb (num nm L[j]!)) (fs (num nm L[j]!)) (chc cs (j + 1)) ∧ (crT nm L cs fb fs i).2 (num nm L[j]!) = crN (fb (num nm L[j]!)) (fs (num nm L[j]!)) (chc cs (j + 1))) := by
  induction i with
  | zero => exact ⟨fun _ => ⟨rfl, rfl⟩, fun h => absurd h (Nat.not_lt_zero _)⟩
  | succ i ih =>
    obtain ⟨h1, h2⟩ := ih (by omega)
    have hii : i < L.length := by omega
    have ne : i ≠ j → num nm L[j]! ≠ num nm L[i]! := fun e h => by
      have a := hL L[j]! (by rw [getElem!_pos L j hj]; exact List.getElem_mem hj)
      have c := hL L[i]! (by rw [getElem!_pos L i hii]; exact List.getElem_mem hii)
      have := num_inj hi a c h
      rw [getElem!_pos L j hj, getElem!_pos L i hii] at this
      exact e ((List.getElem_inj hd).1 this).symm
    refine ⟨fun h => ?_, fun h => ?_⟩
    · obtain ⟨a, c⟩ := h1 (by omega)
      show upd _ _ _ _ = _ ∧ upd _ _ _ _ = _
      rw [upd_ne _ _ (ne (by omega)), upd_ne _ _ (ne (by omega))]
      exact ⟨a, c⟩
    · by_cases e : i = j
      · subst e
        obtain ⟨a, c⟩ := h1 (Nat.le_refl _)
        show upd _ _ _ _ = _ ∧ upd _ _ _ _ = _
        rw [upd_same, upd_same, a, c]
        exact ⟨rfl, rfl⟩
      · obtain ⟨a, c⟩ := h2 (by omega)
        show upd _ _ _ _ = _ ∧ upd _ _ _ _ = _
        rw [upd_ne _ _ (ne e), upd_ne _ _ (ne e)]
        exact ⟨a, c⟩
theorem shr_zero (c : Int) : shr c 0 = 0 := by
  have := shr_le c 0; omega
/-- A file of which all is safe stays as it is. -/
theorem crB_all (l : By) (c : Int) : crB l l.length c = l := by
  unfold crB
  rw [Nat.sub_self, shr_zero]
  split
  · simp
  · simp
/-- What a crash leaves begins with what is safe, and is no longer than it was. -/
theorem crB_safe {l : By} {s : Nat} (c : Int) (hs : s ≤ l.length) : s ≤ (crB l s c).length ∧ (crB l s c).length ≤ l.length ∧ (crB l s c).take s = l.take s ∧ ((∀ i, s ≤ i → i < (crB l s c).length → (crB l s c)[i]! = 0) ∨ ∀ i, i < (crB l s c).length → (crB l s c)[i]! = l[i]!) := by
  have e := crB_len c hs
  have h1 := crN_le c hs
  have h2 : s ≤ crN l s c := by unfold crN; omega
  refine ⟨by omega, by omega, ?_, ?_⟩
  · unfold crB
    split
    · rw [List.take_append_of_le_length (by simp; omega), List.take_take, Nat.min_self]
    · rw [List.take_take, Nat.min_eq_left (by omega)]
  · by_cases hc : c < 0
    · refine .inl fun i h3 h4 => ?_
      have e2 : crB l s c = l.take s ++ List.replicate (shr c (l.length - s)) 0 := by unfold crB; rw [if_pos hc]
      rw [getElem!_pos _ i h4]
      simp only [e2]
      rw [List.getElem_append_right (by simp; omega)]
      simp
    · refine .inr fun i h4 => ?_
      have e2 : crB l s c = l.take (s + shr c (l.length - s)) := by unfold crB; rw [if_neg hc]
      rw [getElem!_pos _ i h4, getElem!_pos l i (by omega)]
      simp only [e2]
      rw [List.getElem_take]
end Go.Proofs.Ytkagnoinifffdaa

/- Each file has one name, whatever is done, and whatever survives. -/
namespace Go.Proofs.Ytkagnoinifffdaa
open Go.RowKit Go.Lib Go.Maps

/-- Names each once, and each of a file of its own, of numbers below m. -/
structure NmI (l : Nms) (m : Int) : Prop where
  ks : (kys l).Nodup
  ns : (nbs l).Nodup
  lt : ∀ p ∈ l, p.2 < m
theorem NmI.del {l : Nms} {m : Int} (h : NmI l m) (x : By) : NmI (del l x) m :=
  ⟨nodup_del h.ks x, h.ns.sublist (List.filter_sublist.map _), fun p hp => h.lt p (mem_del.1 hp).1⟩
theorem NmI.mono {l : Nms} {m k : Int} (h : NmI l m) (hk : m ≤ k) : NmI l k := ⟨h.ks, h.ns, fun p hp => Int.lt_of_lt_of_le (h.lt p hp) hk⟩
theorem NmI.ins {l : Nms} {m : Int} (h : NmI l m) (x : By) {n : Int} (hn : n < m) (hf : ∀ p ∈ l, p.1 ≠ x → p.2 ≠ n) : NmI (ins l x n) m := by
  refine ⟨nodup_ins h.ks x n, ?_, fun p hp => ?_⟩
  · refine List.nodup_cons.2 ⟨fun hm => ?_, (h.del x).ns⟩
    obtain ⟨p, hp, e⟩ := List.mem_map.1 hm
    exact hf p (mem_del.1 hp).1 (mem_del.1 hp).2 e
  · rcases List.mem_cons.1 hp with rfl | hp
    · exact hn
    · exact h.lt p (mem_del.1 hp).1
/-- The disk's names, and those that any crash would leave. -/
structure Dq.Inj (q : Dq) : Prop where
  nm : q.nm = apT q.sf q.ch q.ch.length
  at_ : ∀ i, NmI (apT q.sf q.ch i) (q.st : Int)
theorem Dq.Inj.now {q : Dq} (h : q.Inj) : NmI q.nm (q.st : Int) := by rw [h.nm]; exact h.at_ _
theorem apT_append {l : Nms} {ch : List (By × By × Int)} {c : By × By × Int} {i : Nat} : apT l (ch ++ [c]) i = if i ≤ ch.length then apT l ch i else apC (apT l ch ch.length) c := by
  unfold apT
  split
  · rename_i h
    rw [List.take_append_of_le_length h]
  · rename_i h
    rw [List.take_of_length_le (by simp; omega), List.foldl_append, List.take_length]; rfl
theorem Dq.Inj.alter {q : Dq} (h : q.Inj) (c : By × By × Int) (hc : NmI (apC q.nm c) ((q.st : Int) + 1)) : (q.alter c).done.Inj := by
  have hst : ((q.alter c).done.st : Int) = (q.st : Int) + 1 := by show ((q.st + 1 : Nat) : Int) = _; omega
  refine ⟨?_, fun i => ?_⟩
  · show apC q.nm c = apT q.sf (q.ch ++ [c]) (q.ch ++ [c]).length
    rw [apT_append, if_neg (by simp), ← h.nm]
  · rw [hst]
    show NmI (apT q.sf (q.ch ++ [c]) i) _
    rw [apT_append]
    split
    · exact (h.at_ i).mono (by omega)
    · rw [← h.nm]; exact hc
theorem Dq.Inj.files {q q' : Dq} (h : q.Inj) (e1 : q'.nm = q.nm) (e2 : q'.sf = q.sf) (e3 : q'.ch = q.ch) (e4 : q.st ≤ q'.st) : q'.Inj := by
  refine ⟨by rw [e1, e2, e3]; exact h.nm, fun i => ?_⟩
  rw [e2, e3]; exact (h.at_ i).mono (by omega)
theorem Dq.Inj.settled {q q' : Dq} {l : Nms} (h : NmI l (q.st : Int)) (e1 : q'.nm = l) (e2 : q'.sf = l) (e3 : q'.ch = []) (e4 : q.st ≤ q'.st) : q'.Inj := by
  have e : ∀ i, apT l [] i = l := fun i => by simp [apT]
  refine ⟨by rw [e1, e2, e3, e], fun i => ?_⟩
  rw [e2, e3, e]; exact h.mono (by omega)
theorem NmI.apply {l : Nms} {m : Int} (h : NmI l m) {x y : By} {n : Int} (hn : n < m) (hf : ∀ p ∈ l, p.1 ≠ x → p.2 ≠ n) : NmI (apC l (x, y, n)) m := by
  unfold apC
  split
  · exact h.del x
  · exact (h.del x).ins y hn fun p hp _ => hf p (mem_del.1 hp).1 (mem_del.1 hp).2
theorem Dq.Inj.create {q : Dq} (h : q.Inj) (x : By) : (q.create x).Inj := by
  unfold Dq.create
  split
  · have hm : q.made.Inj := h.files rfl rfl rfl (Nat.le_refl _)
    exact hm.alter _ ((hm.now.mono (by show (q.st : Int) ≤ (q.st : Int) + 1; omega)).apply (by show (q.st : Int) < (q.st : Int) + 1; omega) fun p hp _ e => by
      have := h.now.lt p hp
      rw [e] at this; omega)
  · exact h
theorem Dq.Inj.rename {q : Dq} (h : q.Inj) (x y : By) : (q.rename x y).Inj := by
  unfold Dq.rename
  split
  · rename_i e
    obtain ⟨_, hx, hn⟩ := fiE_zero (reE_zero e).1
    rw [hn]
    have hl := h.now.lt _ (mem_num hx)
    refine h.alter _ ((h.now.mono (by omega)).apply (by show num q.nm x < (q.st : Int) + 1; simp at hl; omega) fun p hp hne e' => hne ?_)
    have hp1 : p.1 ∈ kys q.nm := List.mem_map_of_mem hp
    exact num_inj h.now.ns hp1 hx (by rw [num_mem h.now.ks hp]; exact e')
  · exact h
theorem Dq.Inj.remove {q : Dq} (h : q.Inj) (x : By) : (q.remove x).Inj := by
  unfold Dq.remove
  split
  · refine h.alter _ ?_
    have : apC q.nm (x, [], 0) = del q.nm x := rfl
    rw [this]
    exact (h.now.del x).mono (by omega)
  · exact h
theorem Dq.Inj.append {q : Dq} (h : q.Inj) (x l : By) : (q.append x l).Inj := by
  unfold Dq.append
  split
  · exact h.files rfl rfl rfl (Nat.le_succ _)
  · exact h
theorem Dq.Inj.sync {q : Dq} (h : q.Inj) (x : By) : (q.sync x).Inj := by
  unfold Dq.sync
  split
  · exact h.files rfl rfl rfl (Nat.le_succ _)
  · exact h
theorem Dq.Inj.syncDir {q : Dq} (h : q.Inj) : q.syncDir.Inj := by
  unfold Dq.syncDir
  split
  · exact h
  · exact Dq.Inj.settled h.now rfl rfl rfl (Nat.le_succ _)
theorem Dq.Inj.stop {q : Dq} (h : q.Inj) (n : Int) : (q.stop n).Inj := by
  unfold Dq.stop
  split
  · exact h.files rfl rfl rfl (Nat.le_refl _)
  · exact h
theorem Dq.Inj.crash {q : Dq} (h : q.Inj) (cs : List Int) : (q.crash cs).Inj :=
  Dq.Inj.settled (q := q) (l := crO q cs) (h.at_ _) rfl rfl rfl (Nat.le_refl _)
theorem nwQ_inj (r : Int) : (nwQ r).Inj := by
  have e : ∀ i, apT [] [] i = [] := fun i => by simp [apT]
  exact ⟨(e _).symm, fun i => by show NmI (apT [] [] i) _; rw [e]; exact ⟨List.nodup_nil, List.nodup_nil, by simp⟩⟩
theorem Dq.Inj.play1 {q : Dq} (h : q.Inj) (x : OpP) : (q.play1 x).Inj := by
  unfold Dq.play1
  split
  · exact h.create _
  split
  · exact h.append _ _
  split
  · exact h.sync _
  split
  · exact h.rename _ _
  split
  · exact h.remove _
  split
  · exact h.syncDir
  split
  · exact h.stop _
  split
  · exact h.crash _
  · exact h
theorem play_inj {q : Dq} (h : q.Inj) (ops : List OpP) : (ops.foldl Dq.play1 q).Inj := by
  induction ops generalizing q with
  | nil => exact h
  | cons x r ih => exact ih (h.play1 x)
end Go.Proofs.Ytkagnoinifffdaa

/- The reference's names and changes, plainly, beside the program's. -/
namespace Go.Proofs.Ytkagnoinifffdaa
open Go.RowKit Go.Lib Go.Maps

abbrev Rn := List (By × Nat)
abbrev Rc := Int × By × By × Nat
/-- Names without one; names with one more. -/
def woR (l : Rn) (x : By) : Rn := l.filter fun p => decide (p.1 ≠ x)
def wiR : Rn → By × Nat → Rn
  | [], p => [p]
  | a :: r, p => if a.1 < p.1 then a :: wiR r p else p :: a :: r
def apR (l : Rn) (c : Rc) : Rn := if c.1 = 1 then wiR (woR l c.2.2.1) (c.2.2.1, c.2.2.2) else if c.1 = 2 then wiR (woR (woR l c.2.1) c.2.2.1) (c.2.2.1, c.2.2.2) else woR l c.2.1
theorem wiR_cut : ∀ (l : Rn) (p : By × Nat) (k : Nat), k ≤ l.length → (∀ i, i < k → l[i]!.1 < p.1) → (k < l.length → ¬ l[k]!.1 < p.1) → wiR l p = l.take k ++ p :: l.drop k
  | [], p, k, hk, _, _ => by
    have : k = 0 := by simpa using hk
    subst this; rfl
  | a :: r, p, 0, _, _, h => by
    have := h (by simp)
    unfold wiR
    rw [if_neg (by simpa using this)]; rfl
  | a :: r, p, k + 1, hk, h1, h2 => by
    have h0 := h1 0 (by omega)
    unfold wiR
    rw [if_pos (by simpa using h0), wiR_cut r p k (by simpa using hk) (fun i hi => by have := h1 (i + 1) (by omega); simpa using this) (fun hl => by have := h2 (by simpa using hl); simpa using this)]
    rfl
theorem mem_wiR {l : Rn} {p q : By × Nat} : q ∈ wiR l p ↔ q = p ∨ q ∈ l := by
  induction l with
  | nil => simp [wiR]
  | cons a r ih =>
    unfold wiR
    split
    · rw [List.mem_cons, ih, List.mem_cons]
      constructor
      · rintro (h | h | h)
        · exact .inr (.inl h)
        · exact .inl h
        · exact .inr (.inr h)
      · rintro (h | h | h)
        · exact .inr (.inl h)
        · exact .inl h
        · exact .inr (.inr h)
    · rw [List.mem_cons]
theorem wiR_len (l : Rn) (p : By × Nat) : (wiR l p).length = l.length + 1 := by
  induction l with
  | nil => rfl
  | cons a r ih => unfold wiR; split <;> simp [ih]
theorem woR_len (l : Rn) (x : By) : (woR l x).length ≤ l.length := List.length_filter_le _ _
theorem mem_woR {l : Rn} {x : By} {p : By × Nat} : p ∈ woR l x ↔ p ∈ l ∧ p.1 ≠ x := by simp [woR]
theorem fst_woR {l : Rn} {x y : By} : y ∈ (woR l x).map Prod.fst ↔ y ∈ l.map Prod.fst ∧ y ≠ x := by
  constructor
  · intro h
    obtain ⟨p, hp, rfl⟩ := List.mem_map.1 h
    exact ⟨List.mem_map_of_mem (mem_woR.1 hp).1, (mem_woR.1 hp).2⟩
  · rintro ⟨h, hn⟩
    obtain ⟨p, hp, rfl⟩ := List.mem_map.1 h
    exact List.mem_map_of_mem (mem_woR.2 ⟨hp, hn⟩)
theorem fst_wiR {l : Rn} {p : By × Nat} {y : By} : y ∈ (wiR l p).map Prod.fst ↔ y = p.1 ∨ y ∈ l.map Prod.fst := by
  constructor
  · intro h
    obtain ⟨q, hq, rfl⟩ := List.mem_map.1 h
    rcases mem_wiR.1 hq with rfl | hq
    · exact .inl rfl
    · exact .inr (List.mem_map_of_mem hq)
  · rintro (rfl | h)
    · exact List.mem_map_of_mem (mem_wiR.2 (.inl rfl))
    · obtain ⟨q, hq, rfl⟩ := List.mem_map.1 h
      exact List.mem_map_of_mem (mem_wiR.2 (.inr hq))
theorem by_lt_of {x y : By} (h : ¬ y < x) (hn : y ≠ x) : x < y := by
  rcases List.le_iff_lt_or_eq.1 (show x ≤ y from h) with h | h
  · exact h
  · exact absurd h.symm hn
theorem wiR_sorted {l : Rn} {p : By × Nat} (h : (l.map Prod.fst).Pairwise (· < ·)) (hp : p.1 ∉ l.map Prod.fst) : ((wiR l p).map Prod.fst).Pairwise (· < ·) := by
  induction l with
  | nil => simp [wiR]
  | cons a r ih =>
    obtain ⟨h1, h2⟩ := List.pairwise_cons.1 (show (a.1 :: r.map Prod.fst).Pairwise (· < ·) from h)
    have hp' : p.1 ≠ a.1 ∧ p.1 ∉ r.map Prod.fst := by
      rw [List.map_cons, List.mem_cons, not_or] at hp; exact hp
    unfold wiR
    split
    · rename_i e
      refine List.pairwise_cons.2 ⟨fun y hy => ?_, ih h2 hp'.2⟩
      rcases fst_wiR.1 hy with rfl | hy
      · exact e
      · exact h1 y hy
    · rename_i e
      have e1 := by_lt_of e (Ne.symm hp'.1)
      refine List.pairwise_cons.2 ⟨fun y hy => ?_, h⟩
      rcases List.mem_cons.1 hy with rfl | hy
      · exact e1
      · exact List.lt_trans e1 (h1 y hy)
/-- The reference's names (by rising names, each with the number of its file among those made) tell the program's. -/
structure SR (nu : List Int) (l : Rn) (s : Nms) : Prop where
  so : (l.map Prod.fst).Pairwise (· < ·)
  ks : ∀ x, x ∈ l.map Prod.fst ↔ x ∈ kys s
  at_ : ∀ p ∈ l, p.2 < nu.length ∧ nu[p.2]! = num s p.1
variable {nu : List Int} {l : Rn} {s : Nms}
theorem SR.wo (h : SR nu l s) (hn : (kys s).Nodup) (x : By) : SR nu (woR l x) (del s x) := by
  refine ⟨h.so.sublist (List.filter_sublist.map _), fun y => ?_, fun p hp => ?_⟩
  · rw [fst_woR, mem_kys_del, h.ks]
  · obtain ⟨h1, h2⟩ := mem_woR.1 hp
    rw [num_del hn h2]
    exact h.at_ p h1
theorem SR.wi (h : SR nu l s) (hn : (kys s).Nodup) {x : By} {f : Nat} (hx : x ∉ kys s) (hf : f < nu.length) {n : Int} (e : nu[f]! = n) : SR nu (wiR l (x, f)) (ins s x n) := by
  refine ⟨wiR_sorted h.so (fun hm => hx ((h.ks x).1 hm)), fun y => ?_, fun p hp => ?_⟩
  · rw [fst_wiR, mem_kys_ins, h.ks]
  · rw [num_ins hn]
    rcases mem_wiR.1 hp with rfl | hp
    · rw [if_pos rfl]; exact ⟨hf, e⟩
    · have : p.1 ∈ kys s := (h.ks _).1 (List.mem_map_of_mem hp)
      rw [if_neg (fun e => hx (by rw [← e]; exact this))]
      exact h.at_ p hp
theorem SR.none (h : SR nu l s) (hn : (kys s).Nodup) (h0 : [] ∉ kys s) : SR nu l (del s []) := by
  refine ⟨h.so, fun y => ?_, fun p hp => ?_⟩
  · rw [mem_kys_del, h.ks]
    exact ⟨fun hy => ⟨hy, fun e => h0 (by rw [← e]; exact hy)⟩, fun hy => hy.1⟩
  · have : p.1 ∈ kys s := (h.ks _).1 (List.mem_map_of_mem hp)
    rw [num_del hn (fun e => h0 (by rw [← e]; exact this))]
    exact h.at_ p hp
theorem ins_del (hn : (kys s).Nodup) (x : By) (n : Int) : SR nu l (ins (del s x) x n) → SR nu l (ins s x n) := by
  intro h
  refine ⟨h.so, fun y => ?_, fun p hp => ?_⟩
  · rw [h.ks, mem_kys_ins, mem_kys_ins, mem_kys_del]
    by_cases e : y = x <;> simp [e]
  · have := h.at_ p hp
    rw [num_ins (nodup_del hn x)] at this
    rw [num_ins hn]
    by_cases e : p.1 = x
    · rw [if_pos e] at this ⊢; exact this
    · rw [if_neg e, num_del hn e] at this; rw [if_neg e]; exact this
/-- A change, as the reference has it. -/
def ChR (nu : List Int) (c : Rc) (d : By × By × Int) : Prop :=
  (c.1 = 1 ∧ c.2.1 = [] ∧ d.1 = [] ∧ c.2.2.1 ≠ [] ∧ d.2.1 = c.2.2.1 ∧ c.2.2.2 < nu.length ∧ nu[c.2.2.2]! = d.2.2) ∨
  (c.1 = 2 ∧ d.1 = c.2.1 ∧ c.2.2.1 ≠ [] ∧ d.2.1 = c.2.2.1 ∧ c.2.2.2 < nu.length ∧ nu[c.2.2.2]! = d.2.2) ∨
  (c.1 = 3 ∧ d.1 = c.2.1 ∧ c.2.2.1 = [] ∧ d.2.1 = [])
theorem SR.ap (h : SR nu l s) (hn : (kys s).Nodup) (h0 : [] ∉ kys s) {c : Rc} {d : By × By × Int} (hc : ChR nu c d) : SR nu (apR l c) (apC s d) := by
  rcases hc with ⟨e1, _, e2, e3, e4, e5, e6⟩ | ⟨e1, e2, e3, e4, e5, e6⟩ | ⟨e1, e2, e3, e4⟩
  · unfold apR apC
    rw [if_pos e1, e4, if_neg e3, e2]
    have h1 := h.none hn h0
    have hn1 := nodup_del hn []
    exact ins_del hn1 _ _ ((h1.wo hn1 _).wi (nodup_del hn1 _) (fun hm => (mem_kys_del.1 hm).2 rfl) e5 e6)
  · unfold apR apC
    rw [if_neg (by rw [e1]; decide), if_pos e1, e4, if_neg e3, e2]
    have h1 := h.wo hn c.2.1
    have hn1 := nodup_del hn c.2.1
    exact ins_del hn1 _ _ ((h1.wo hn1 _).wi (nodup_del hn1 _) (fun hm => (mem_kys_del.1 hm).2 rfl) e5 e6)
  · unfold apR apC
    rw [if_neg (by rw [e1]; decide), if_neg (by rw [e1]; decide), e4, if_pos rfl, e2]
    exact h.wo hn _
theorem SR.more (h : SR nu l s) (m : Int) : SR (nu ++ [m]) l s := by
  refine ⟨h.so, h.ks, fun p hp => ?_⟩
  obtain ⟨h1, h2⟩ := h.at_ p hp
  refine ⟨by simp; omega, ?_⟩
  rw [getElem!_pos _ _ (by simp; omega), List.getElem_append_left h1, ← getElem!_pos nu _ h1]; exact h2
theorem ChR.more {c : Rc} {d : By × By × Int} (h : ChR nu c d) (m : Int) : ChR (nu ++ [m]) c d := by
  have k : ∀ {f : Nat} {n : Int}, f < nu.length → nu[f]! = n → f < (nu ++ [m]).length ∧ (nu ++ [m])[f]! = n := fun {f n} hf e => by
    refine ⟨by simp; omega, ?_⟩
    rw [getElem!_pos _ _ (by simp; omega), List.getElem_append_left hf, ← getElem!_pos nu _ hf]; exact e
  rcases h with ⟨e1, e0, e2, e3, e4, e5, e6⟩ | ⟨e1, e2, e3, e4, e5, e6⟩ | h
  · exact .inl ⟨e1, e0, e2, e3, e4, k e5 e6⟩
  · exact .inr (.inl ⟨e1, e2, e3, e4, k e5 e6⟩)
  · exact .inr (.inr h)
theorem SR.nodup (h : SR nu l s) : (l.map Prod.fst).Nodup := h.so.imp fun h e => by subst e; exact List.lt_irrefl _ h
theorem SR.srt (h : SR nu l s) (hn : (kys s).Nodup) : srtB (kys s) = l.map Prod.fst := by
  have hp : (srtB (kys s)).Perm (l.map Prod.fst) := (srtB_perm _).trans ((List.perm_ext_iff_of_nodup hn h.nodup).2 fun x => (h.ks x).symm)
  refine hp.eq_of_pairwise (le := (· ≤ ·)) (fun a b _ _ h1 h2 => List.le_antisymm h1 h2) ?_ (h.so.imp fun h => List.le_of_lt h)
  have := List.pairwise_mergeSort (le := fun x y : By => decide (x ≤ y)) (fun a b c h1 h2 => by simp at h1 h2 ⊢; exact List.le_trans h1 h2) (fun a b => by simp; exact List.le_total a b) (kys s)
  exact this.imp fun h => by simpa using h
theorem SR.len (h : SR nu l s) (hn : (kys s).Nodup) : l.length = s.length := by
  have := congrArg List.length (h.srt hn)
  rw [srtB_len, kys_length, List.length_map] at this; omega
theorem woR_self (h : [] ∉ l.map Prod.fst) : woR l [] = l := by
  unfold woR
  rw [List.filter_eq_self]
  intro p hp
  simp only [decide_eq_true_eq]
  exact fun e => h (by rw [← e]; exact List.mem_map_of_mem hp)
/-- The first changes, done. -/
def apU (l : Rn) (ch : List Rc) (i : Nat) : Rn := (ch.take i).foldl apR l
theorem apU_succ {l : Rn} {ch : List Rc} {i : Nat} (hi : i < ch.length) : apU l ch (i + 1) = apR (apU l ch i) ch[i]! := by
  unfold apU
  rw [List.take_succ_eq_append_getElem hi, List.foldl_append, getElem!_pos ch i hi]; rfl
theorem apR_len (l : Rn) (c : Rc) : (apR l c).length ≤ l.length + 1 := by
  unfold apR
  split
  · rw [wiR_len]; have := woR_len l c.2.2.1; omega
  split
  · rw [wiR_len]; have := woR_len (woR l c.2.1) c.2.2.1; have := woR_len l c.2.1; omega
  · have := woR_len l c.2.1; omega
theorem apU_len (l : Rn) (ch : List Rc) (i : Nat) (hi : i ≤ ch.length) : (apU l ch i).length ≤ l.length + i := by
  induction i with
  | zero => exact Nat.le_refl _
  | succ i ih => rw [apU_succ hi]; have := apR_len (apU l ch i) ch[i]!; have := ih (by omega); omega
/-- What the reference has besides files. -/
structure Rf where
  nm : Rn
  sf : Rn
  ch : List Rc
structure RelQ (nu : List Int) (q : Dq) (r : Rf) : Prop where
  nm : SR nu r.nm q.nm
  sf : SR nu r.sf q.sf
  cl : r.ch.length = q.ch.length
  ch : ∀ i, i < q.ch.length → ChR nu r.ch[i]! q.ch[i]!
  nd : nu.Nodup
  lt : ∀ n ∈ nu, n < (q.st : Int)
  le : nu.length ≤ q.st
variable {q q' : Dq} {r : Rf}
theorem Dq.Ok.noneN (h : q.Ok) : [] ∉ kys q.nm := fun hm => by
  obtain ⟨p, hp, e⟩ := List.mem_map.1 hm
  have := (nmOk_len (h.nmB p hp)).1
  rw [e] at this; simp at this
theorem Dq.Ok.noneS (h : q.Ok) (i : Nat) (hi : i ≤ q.ch.length) : [] ∉ kys (apT q.sf q.ch i) := fun hm => by
  have key : ∀ i, i ≤ q.ch.length → ∀ p ∈ apT q.sf q.ch i, nmOk p.1 = true := by
    intro i
    induction i with
    | zero => exact fun _ p hp => h.sfB p hp
    | succ i ih =>
      intro hi p hp
      rw [apT_succ hi] at hp
      rcases mem_apC hp with hp | ⟨e, rfl⟩
      · exact ih (by omega) p hp
      · exact (h.chB _ (List.getElem_mem hi)).2 e
  obtain ⟨p, hp, e⟩ := List.mem_map.1 hm
  have := (nmOk_len (key i hi p hp)).1
  rw [e] at this; simp at this
theorem RelQ.apT (h : RelQ nu q r) (ok : q.Ok) (hi : q.Inj) (i : Nat) (hl : i ≤ q.ch.length) : SR nu (apU r.sf r.ch i) (apT q.sf q.ch i) := by
  induction i with
  | zero => exact h.sf
  | succ i ih =>
    rw [apU_succ (by rw [h.cl]; exact hl), apT_succ hl]
    have hc := h.ch i hl
    rw [getElem!_pos q.ch i hl] at hc
    exact (ih (by omega)).ap (hi.at_ i).ks (ok.noneS i (by omega)) hc
end Go.Proofs.Ytkagnoinifffdaa
