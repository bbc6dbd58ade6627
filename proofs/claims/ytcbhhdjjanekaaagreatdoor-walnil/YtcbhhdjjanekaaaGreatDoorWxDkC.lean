/- A disk, plainly, and as it lies in memory; what turns one part of it. -/
import Derived.Test.YtcbhhdjjanekaaaGreatDoorWxDkB
namespace Go.Proofs.YtcbhhdjjanekaaaGreatDoor
open Go.RowKit Go.Lib Go.Maps

/-- A disk: its room, names, safe names, changes, each file's bytes and how many of them are safe, steps, steps left. -/
structure Dq where
  room : Int
  nm : Nms
  sf : Nms
  ch : List (By × By × Int)
  fb : Int → By
  fs : Int → Nat
  st : Nat
  lf : Int
structure Dq.Ok (q : Dq) : Prop where
  room : 1 ≤ q.room ∧ q.room ≤ 4194304
  lf : -1 ≤ q.lf ∧ q.lf ≤ 9223372036854775807
  nmB : ∀ p ∈ q.nm, nmOk p.1 = true
  sfB : ∀ p ∈ q.sf, nmOk p.1 = true
  chB : ∀ c ∈ q.ch, c.1.length ≤ 32 ∧ (c.2.1 ≠ [] → nmOk c.2.1 = true)
  fb : ∀ n, (q.fb n).length ≤ 4194304
  fs : ∀ n, q.fs n ≤ (q.fb n).length
  nmL : q.nm.length ≤ q.st
  sfL : q.sf.length + q.ch.length ≤ q.st
theorem nmOk_len {x : By} (h : nmOk x = true) : 1 ≤ x.length ∧ x.length ≤ 32 := by
  unfold nmOk at h
  simp only [Bool.and_eq_true, decide_eq_true_eq] at h
  exact h.1
theorem kwf_small {x : By} (h : x.length ≤ 65536) : KWfS x := by unfold KWfS maxLen; omega
/-- A change's cells. -/
def chV (c : By × By × Int) : List Value := [.string (sb c.1), .string (sb c.2.1), .int .i64 c.2.2]
def fileV (fv : Int → Value) (fs : Int → Nat) : Int → Value := fun n => .agg #[fv n, .int .i64 (fs n : Int)]
structure DkM (w : World) (b : Nat) (q : Dq) (F : Nat → Prop) (ks : List Int) (fm nb sn : Nat) (cv : Value) (fv : Int → Value) : Prop where
  blk : w.heap[b]? = some (.cells #[.int .i64 q.room, .map (some fm), .map (some nb), .map (some sn), cv, .int .i64 (q.st : Int), .int .i64 q.lf] 67 (0, 0))
  fls : MapA Tryz.prog 3 w fm ks (fileV fv q.fs)
  nms : NmAt w nb q.nm
  sfs : NmAt w sn q.sf
  chs : w.ownsRow 0 98 3 cv q.ch.length (q.ch.flatMap chV)
  own : ∀ n ∈ ks, OwnB w 0 (fv n) (q.fb n)
  ownF : ∀ n ∈ ks, ∀ k, (fv n).ownBlock = some k → F k
  ownD : ∀ n ∈ ks, ∀ m ∈ ks, n ≠ m → ∀ k, (fv n).ownBlock = some k → (fv m).ownBlock ≠ some k
  chF : ∀ k, cv.ownBlock = some k → F k
  inF : F b ∧ F fm ∧ F nb ∧ F sn
  fd : fm ≠ nb ∧ fm ≠ sn ∧ nb ≠ sn
  nmK : ∀ p ∈ q.nm, p.2 ∈ ks
  sfK : ∀ p ∈ q.sf, p.2 ∈ ks
  chK : ∀ c ∈ q.ch, c.2.1 ≠ [] → c.2.2 ∈ ks
variable {w w' : World} {b : Nat} {q q' : Dq} {F G : Nat → Prop} {ks : List Int} {fm nb sn : Nat} {cv : Value} {fv : Int → Value}
theorem row_cells {base : Nat} {e : TypeId} {m n : Nat} {v : Value} {xs : List Value} (h : w.ownsRow base e m v n xs) {k : Nat} (hk : v.ownBlock = some k) : ∃ cur, w.heap[k]? = some (.cells cur e (0, 0)) := by
  rcases h.2 with ⟨rfl, _⟩ | ⟨g, cap, cur, rfl, h1, h2, r⟩
  · cases hk
  · cases hk; exact ⟨cur, h2⟩
theorem map_cells {k c : Nat} {es : Array MapEntry} {cur : Array Value} {t : TypeId} {f : Nat × Nat} (h : w.heap[k]? = some (.map es c)) (h' : w.heap[k]? = some (.cells cur t f)) : False := by
  rw [h] at h'; simp at h'
theorem type_cells {k : Nat} {cur cur' : Array Value} {t t' : TypeId} {f f' : Nat × Nat} (h : w.heap[k]? = some (.cells cur t f)) (h' : w.heap[k]? = some (.cells cur' t' f')) : t = t' := by
  rw [h] at h'; simp at h'; exact h'.2.1
theorem DkM.neB (h : DkM w b q F ks fm nb sn cv fv) : fm ≠ b ∧ nb ≠ b ∧ sn ≠ b ∧ (∀ k, cv.ownBlock = some k → k ≠ b) ∧ ∀ n ∈ ks, ∀ k, (fv n).ownBlock = some k → k ≠ b := by
  obtain ⟨_, _, e1⟩ := h.fls.isMap
  obtain ⟨_, _, e2⟩ := MapS.isMap h.nms
  obtain ⟨_, _, e3⟩ := MapS.isMap h.sfs
  refine ⟨?_, ?_, ?_, ?_, ?_⟩
  · rintro rfl; exact map_cells e1 h.blk
  · rintro rfl; exact map_cells e2 h.blk
  · rintro rfl; exact map_cells e3 h.blk
  · rintro k hk rfl
    obtain ⟨cur, e⟩ := row_cells h.chs hk
    have := type_cells e h.blk
    exact absurd this (by decide)
  · rintro n hn k hk rfl
    obtain ⟨cur, e⟩ := row_cells (h.own n hn) hk
    have := type_cells e h.blk
    exact absurd this (by decide)
/-- A map's block is none of the files' nor that of the changes. -/
theorem DkM.neM (h : DkM w b q F ks fm nb sn cv fv) {m c : Nat} {es : Array MapEntry} (hm : w.heap[m]? = some (.map es c)) : (∀ k, cv.ownBlock = some k → k ≠ m) ∧ ∀ n ∈ ks, ∀ k, (fv n).ownBlock = some k → k ≠ m := by
  refine ⟨?_, ?_⟩
  · rintro k hk rfl
    obtain ⟨cur, e⟩ := row_cells h.chs hk
    exact map_cells hm e
  · rintro n hn k hk rfl
    obtain ⟨cur, e⟩ := row_cells (h.own n hn) hk
    exact map_cells hm e
theorem DkM.neC (h : DkM w b q F ks fm nb sn cv fv) : ∀ n ∈ ks, ∀ k, (fv n).ownBlock = some k → cv.ownBlock ≠ some k := by
  intro n hn k hk hc
  obtain ⟨c1, e1⟩ := row_cells (h.own n hn) hk
  obtain ⟨c2, e2⟩ := row_cells h.chs hc
  have := type_cells e1 e2
  exact absurd this (by decide)
theorem DkM.lt (h : DkM w b q F ks fm nb sn cv fv) : b < w.heap.size := (Array.getElem?_eq_some_iff.1 h.blk).1
/-- The block of the disk turns. -/
theorem DkM.mvB (h : DkM w b q F ks fm nb sn cv fv) (hk : ∀ k, k < w.heap.size → F k → k ≠ b → w'.heap[k]? = w.heap[k]?) (e1 : q'.nm = q.nm) (e2 : q'.sf = q.sf) (e3 : q'.ch = q.ch) (e4 : q'.fb = q.fb) (e5 : q'.fs = q.fs)
    (hb : w'.heap[b]? = some (.cells #[.int .i64 q'.room, .map (some fm), .map (some nb), .map (some sn), cv, .int .i64 (q'.st : Int), .int .i64 q'.lf] 67 (0, 0))) : DkM w' b q' F ks fm nb sn cv fv := by
  obtain ⟨n1, n2, n3, n4, n5⟩ := h.neB
  obtain ⟨_, f1, f2, f3⟩ := h.inF
  refine ⟨hb, ?_, ?_, ?_, ?_, ?_, h.ownF, h.ownD, h.chF, h.inF, h.fd, ?_, ?_, ?_⟩
  · rw [e5]; exact h.fls.same (hk _ h.fls.lt f1 n1)
  · rw [e1]; exact h.nms.same (hk _ h.nms.lt f2 n2)
  · rw [e2]; exact h.sfs.same (hk _ h.sfs.lt f3 n3)
  · rw [e3]; exact row_same h.chs fun k e => hk k (h.chs.lt k e).2 (h.chF k e) (n4 k e)
  · rw [e4]; exact fun n hn => row_same (h.own n hn) fun k e => hk k ((h.own n hn).lo k e).2 (h.ownF n hn k e) (n5 n hn k e)
  · rw [e1]; exact h.nmK
  · rw [e2]; exact h.sfK
  · rw [e3]; exact h.chK
/-- The names turn. -/
theorem DkM.mvN (h : DkM w b q F ks fm nb sn cv fv) (hk : ∀ k, k < w.heap.size → F k → k ≠ nb → w'.heap[k]? = w.heap[k]?) {l : Nms} (hl : NmAt w' nb l) (hn : ∀ p ∈ l, p.2 ∈ ks) : DkM w' b { q with nm := l } F ks fm nb sn cv fv := by
  obtain ⟨es, c, em⟩ := MapS.isMap h.nms
  obtain ⟨m1, m2⟩ := h.neM em
  obtain ⟨f0, f1, f2, f3⟩ := h.inF
  exact ⟨(hk _ h.lt f0 (Ne.symm h.neB.2.1)).trans h.blk, h.fls.same (hk _ h.fls.lt f1 h.fd.1), hl, h.sfs.same (hk _ h.sfs.lt f3 (Ne.symm h.fd.2.2)), row_same h.chs fun k e => hk k (h.chs.lt k e).2 (h.chF k e) (m1 k e),
    fun n hn => row_same (h.own n hn) fun k e => hk k ((h.own n hn).lo k e).2 (h.ownF n hn k e) (m2 n hn k e), h.ownF, h.ownD, h.chF, h.inF, h.fd, hn, h.sfK, h.chK⟩
/-- Nothing of it turns; more may belong to it. -/
theorem DkM.kp (h : DkM w b q F ks fm nb sn cv fv) (hk : ∀ k, k < w.heap.size → F k → w'.heap[k]? = w.heap[k]?) (hF : ∀ k, F k → k < w.heap.size → G k) : DkM w' b q G ks fm nb sn cv fv := by
  obtain ⟨f0, f1, f2, f3⟩ := h.inF
  exact ⟨(hk _ h.lt f0).trans h.blk, h.fls.same (hk _ h.fls.lt f1), h.nms.same (hk _ h.nms.lt f2), h.sfs.same (hk _ h.sfs.lt f3), row_same h.chs fun k e => hk k (h.chs.lt k e).2 (h.chF k e),
    fun n hn => row_same (h.own n hn) fun k e => hk k ((h.own n hn).lo k e).2 (h.ownF n hn k e), fun n hn k e => hF k (h.ownF n hn k e) ((h.own n hn).lo k e).2, h.ownD, fun k e => hF k (h.chF k e) (h.chs.lt k e).2,
    ⟨hF _ f0 (Array.getElem?_eq_some_iff.1 h.blk).1, hF _ f1 h.fls.lt, hF _ f2 h.nms.lt, hF _ f3 h.sfs.lt⟩, h.fd, h.nmK, h.sfK, h.chK⟩
/-- The files turn: the map, and what lies under it. -/
theorem DkM.mvF (h : DkM w b q F ks fm nb sn cv fv) {ls : List Int} {gv : Int → Value} {fb : Int → By} {fs : Int → Nat} (hk : ∀ k, k < w.heap.size → F k → k ≠ fm → (∀ n ∈ ks, (fv n).ownBlock ≠ some k) → w'.heap[k]? = w.heap[k]?)
    (hm : MapA Tryz.prog 3 w' fm ls (fileV gv fs)) (ho : ∀ n ∈ ls, OwnB w' 0 (gv n) (fb n)) (hF : ∀ n ∈ ls, ∀ k, (gv n).ownBlock = some k → F k) (hD : ∀ n ∈ ls, ∀ m ∈ ls, n ≠ m → ∀ k, (gv n).ownBlock = some k → (gv m).ownBlock ≠ some k)
    (hs : ∀ n ∈ ks, n ∈ ls) : DkM w' b { q with fb := fb, fs := fs } F ls fm nb sn cv gv := by
  obtain ⟨e0, c0, em⟩ := h.fls.isMap
  obtain ⟨e1, c1, en⟩ := MapS.isMap h.nms
  obtain ⟨e2, c2, es⟩ := MapS.isMap h.sfs
  obtain ⟨f0, f1, f2, f3⟩ := h.inF
  obtain ⟨n1, n2, n3, n4, n5⟩ := h.neB
  refine ⟨(hk _ h.lt f0 (Ne.symm n1) fun n hn e => n5 n hn _ e rfl).trans h.blk, hm, h.nms.same (hk _ h.nms.lt f2 (Ne.symm h.fd.1) fun n hn e => (h.neM en).2 n hn _ e rfl), h.sfs.same (hk _ h.sfs.lt f3 (Ne.symm h.fd.2.1) fun n hn e => (h.neM es).2 n hn _ e rfl), ?_, ho, hF, hD, h.chF, h.inF, h.fd, fun p hp => hs _ (h.nmK p hp), fun p hp => hs _ (h.sfK p hp), fun c hc hc' => hs _ (h.chK c hc hc')⟩
  exact row_same h.chs fun k e => hk k (h.chs.lt k e).2 (h.chF k e) ((h.neM em).1 k e) fun n hn e' => h.neC n hn k e' e
/-- The changes turn, and the cell that leads to them. -/
theorem DkM.mvC (h : DkM w b q F ks fm nb sn cv fv) {cl : List (By × By × Int)} {cw : Value} (hk : ∀ k, k < w.heap.size → F k → k ≠ b → cv.ownBlock ≠ some k → w'.heap[k]? = w.heap[k]?)
    (hb : w'.heap[b]? = some (.cells #[.int .i64 q.room, .map (some fm), .map (some nb), .map (some sn), cw, .int .i64 (q.st : Int), .int .i64 q.lf] 67 (0, 0)))
    (hc : w'.ownsRow 0 98 3 cw cl.length (cl.flatMap chV)) (hF : ∀ k, cw.ownBlock = some k → F k) (hK : ∀ c ∈ cl, c.2.1 ≠ [] → c.2.2 ∈ ks) : DkM w' b { q with ch := cl } F ks fm nb sn cw fv := by
  obtain ⟨e0, c0, em⟩ := h.fls.isMap
  obtain ⟨e1, c1, en⟩ := MapS.isMap h.nms
  obtain ⟨e2, c2, es⟩ := MapS.isMap h.sfs
  obtain ⟨f0, f1, f2, f3⟩ := h.inF
  obtain ⟨n1, n2, n3, n4, n5⟩ := h.neB
  exact ⟨hb, h.fls.same (hk _ h.fls.lt f1 n1 fun e => (h.neM em).1 _ e rfl), h.nms.same (hk _ h.nms.lt f2 n2 fun e => (h.neM en).1 _ e rfl), h.sfs.same (hk _ h.sfs.lt f3 n3 fun e => (h.neM es).1 _ e rfl), hc,
    fun n hn => row_same (h.own n hn) fun k e => hk k ((h.own n hn).lo k e).2 (h.ownF n hn k e) (n5 n hn k e) (h.neC n hn k e), h.ownF, h.ownD, hF, h.inF, h.fd, h.nmK, h.sfK, hK⟩
/-- A disk in block b, of which all lies in F. -/
def DkAt (w : World) (b : Nat) (q : Dq) (F : Nat → Prop) : Prop := ∃ ks fm nb sn cv fv, DkM w b q F ks fm nb sn cv fv ∧ (∀ n ∈ ks, 0 ≤ n ∧ n < (q.st : Int)) ∧ ks.length ≤ q.st ∧ ∀ k, F k → k < w.heap.size
theorem DkAt.kp (h : DkAt w b q F) (hk : Kf G w w') (hG : ∀ k, G k → ¬ F k) : DkAt w' b q F := by
  obtain ⟨ks, fm, nb, sn, cv, fv, h1, h2, h3, h4⟩ := h
  exact ⟨ks, fm, nb, sn, cv, fv, h1.kp (fun k _ hF => hk.block k (h4 k hF) fun g => hG k g hF) (fun _ f _ => f), h2, h3, fun k hF => Nat.lt_of_lt_of_le (h4 k hF) hk.size⟩
theorem DkAt.gb (h : DkAt w b q F) (g : Gb w w') : DkAt w' b q F := h.kp (Kf.gb g fun _ => False) fun _ h => h.elim
/-- F, and whatever is new. -/
def Wn (F : Nat → Prop) (w : World) : Nat → Prop := fun k => F k ∨ w.heap.size ≤ k
theorem DkM.wn (h : DkM w b q F ks fm nb sn cv fv) (w0 : World) : DkM w b q (Wn F w0) ks fm nb sn cv fv := h.kp (fun _ _ _ => rfl) fun _ f _ => .inl f
theorem DkM.nw {w0 : World} (h : DkM w b q (Wn F w0) ks fm nb sn cv fv) : DkM w b q (Nw F w0 w) ks fm nb sn cv fv := h.kp (fun _ _ _ => rfl) fun _ f g => f.elim .inl fun f => .inr ⟨f, g⟩
theorem Nw.lt (h : ∀ k, F k → k < w.heap.size) (hs : w.heap.size ≤ w'.heap.size) : ∀ k, Nw F w w' k → k < w'.heap.size := fun k hk => hk.elim (fun f => Nat.lt_of_lt_of_le (h k f) hs) fun f => f.2
theorem DkM.cells (h : DkM w b q F ks fm nb sn cv fv) : (w.cell? ⟨b, 0, none⟩ = some (.int .i64 q.room) ∧ w.cell? ⟨b, 1, none⟩ = some (.map (some fm)) ∧ w.cell? ⟨b, 2, none⟩ = some (.map (some nb)) ∧ w.cell? ⟨b, 3, none⟩ = some (.map (some sn)) ∧ w.cell? ⟨b, 4, none⟩ = some cv ∧
    w.cell? ⟨b, 5, none⟩ = some (.int .i64 (q.st : Int)) ∧ w.cell? ⟨b, 6, none⟩ = some (.int .i64 q.lf)) ∧ ∀ i, w.frozen? ⟨b, i, none⟩ = false := by
  have e := h.blk
  refine ⟨⟨?_, ?_, ?_, ?_, ?_, ?_, ?_⟩, fun i => ?_⟩ <;> simp [World.cell?, World.frozen?, e]

/-- The error that comes ahead of the others. -/
def rfE (q : Dq) : Int := if q.lf = 0 then 174 else 0
theorem none_c (h : DkAt w b q F) (ok : q.Ok) : Calls Tryz.prog 32 #[.pointer (some ⟨b, 0, none⟩)] w fun e w' => e = .returned (.bool false) ∧ w = w' := by
  obtain ⟨ks, fm, nb, sn, cv, fv, h1, _⟩ := h
  obtain ⟨⟨c0, _⟩, _⟩ := h1.cells
  have r := ok.room
  have e : (q.room == 0) = false := by rw [beq_eq_false_iff_ne]; omega
  clear h1 ok
  go_enter Tryz.func32, Tryz.ntmps32
  go_wp2
  go_ret
  exact ⟨rfl, rfl⟩
theorem none_nil (w : World) : Calls Tryz.prog 32 #[.pointer none] w fun e w' => e = .returned (.bool true) ∧ w = w' := by
  go_enter Tryz.func32, Tryz.ntmps32
  go_wp2
  go_ret
  exact ⟨rfl, rfl⟩
theorem refusal_c (h : DkAt w b q F) (ok : q.Ok) : Calls Tryz.prog 31 #[.pointer (some ⟨b, 0, none⟩)] w fun e w' => e = .returned (.int .i64 (rfE q)) ∧ w = w' := by
  have hn := none_c h ok
  obtain ⟨ks, fm, nb, sn, cv, fv, h1, _⟩ := h
  obtain ⟨⟨_, _, _, _, _, _, c6⟩, _⟩ := h1.cells
  by_cases e : q.lf = 0
  · have E : rfE q = 174 := by unfold rfE; rw [if_pos e]
    rw [E]
    have e : (q.lf == 0) = true := by rw [beq_iff_eq]; exact e
    clear h1 ok E
    go_enter Tryz.func31, Tryz.ntmps31
    go_wp2_with fail
    refine hn.mono ?_
    rintro e w' ⟨rfl, rfl⟩
    go_wp2
    go_ret
    exact ⟨rfl, rfl⟩
  · have E : rfE q = 0 := by unfold rfE; rw [if_neg e]
    rw [E]
    have e : (q.lf == 0) = false := by rw [beq_eq_false_iff_ne]; exact e
    clear h1 ok E
    go_enter Tryz.func31, Tryz.ntmps31
    go_wp2_with fail
    refine hn.mono ?_
    rintro e w' ⟨rfl, rfl⟩
    go_wp2
    go_ret
    exact ⟨rfl, rfl⟩
theorem refusal_nil (w : World) : Calls Tryz.prog 31 #[.pointer none] w fun e w' => e = .returned (.int .i64 3) ∧ w = w' := by
  have hn := none_nil w
  go_enter Tryz.func31, Tryz.ntmps31
  go_wp2_with fail
  refine hn.mono ?_
  rintro e w' ⟨rfl, rfl⟩
  go_wp2
  go_ret
  exact ⟨rfl, rfl⟩
end Go.Proofs.YtcbhhdjjanekaaaGreatDoor
