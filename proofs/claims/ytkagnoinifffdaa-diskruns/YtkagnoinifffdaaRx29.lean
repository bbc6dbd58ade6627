import Derived.Test.YtkagnoinifffdaaRxDkRf
/- The reference's files turn: Sync. -/
namespace Go.Proofs.Ytkagnoinifffdaa
open Go.RowKit Go.Lib Go.Maps

variable {w w' W : World} {p : Nat} {q q' : Dq} {nu : List Int} {r : Rf} {L : List (Value × Nat)} {fv nv sv cv : Value} {F G B : Nat → Prop}
theorem RfM.mvF (h : RfM w p q nu r L fv nv sv cv G B) {fb : Int → By} {fs : Int → Nat} {L' : List (Value × Nat)} {B' : Nat → Prop} (hk : ∀ k, k < w.heap.size → fv.ownBlock ≠ some k → w'.heap[k]? = w.heap[k]?)
    (hf : w'.ownsRow 0 78 2 fv L'.length (L'.flatMap flV)) (hl : L'.length = nu.length) (hb : ∀ k, k < L'.length → OwnB w' 0 L'[k]!.1 (fb nu[k]!) ∧ L'[k]!.2 = fs nu[k]! ∧ ∀ j, L'[k]!.1.ownBlock = some j → B' j) (hB : ∀ j, B j → B' j) (hG : ∀ j, G j → ¬ B' j) :
    RfM w' p { q with fb := fb, fs := fs } nu r L' fv nv sv cv G B' := by
  obtain ⟨g1, g2, g3⟩ := h.inG
  have np : fv.ownBlock ≠ some p := fun e => by
    obtain ⟨cur, ec⟩ := row_cells h.fls e
    exact absurd (type_cells ec h.blk) (by decide)
  have nB : ∀ {v : Value}, (∀ j, v.ownBlock = some j → B j) → ∀ j, v.ownBlock = some j → fv.ownBlock ≠ some j := fun hv j e e' => h.gb j (g2 j e') (hv j e)
  refine ⟨(hk p h.lt np).trans h.blk, hf, hl, hb, row_same h.nms fun j e => hk j (World.ownsRow.lt h.nms j e).2 (nB h.nmB j e), fun j e => hB j (h.nmB j e), row_same h.sfs fun j e => hk j (World.ownsRow.lt h.sfs j e).2 (nB h.sfB j e), fun j e => hB j (h.sfB j e),
    row_same h.chs fun j e => hk j (World.ownsRow.lt h.chs j e).2 fun e' => ?_, h.inG, hG⟩
  obtain ⟨c1, e1⟩ := row_cells h.fls e'
  obtain ⟨c2, e2⟩ := row_cells h.chs e
  exact absurd (type_cells e1 e2) (by decide)
theorem flV_set (L : List (Value × Nat)) (f : Nat) (v : Value) (s : Nat) : (L.set f (v, s)).flatMap flV = ((L.flatMap flV).set (f * 2) v).set (f * 2 + 1) (.int .i64 (s : Int)) := by
  induction L generalizing f with
  | nil => simp
  | cons a t ih =>
    cases f with
    | zero => simp [flV]
    | succ f =>
      rw [List.set_cons_succ, List.flatMap_cons, List.flatMap_cons, ih]
      have e : (f + 1) * 2 = f * 2 + 2 := by omega
      rw [e, show f * 2 + 2 + 1 = f * 2 + 1 + 2 by omega]
      simp [flV]
theorem set_at {L : List (Value × Nat)} {f k : Nat} {y : Value × Nat} (hk : k < L.length) : (L.set f y)[k]! = if k = f then y else L[k]! := by
  rw [getElem!_pos _ k (by simpa using hk), List.getElem_set]
  by_cases e : f = k
  · rw [if_pos e, if_pos e.symm]
  · rw [if_neg e, if_neg (Ne.symm e), getElem!_pos L k hk]
theorem nu_ne (hn : nu.Nodup) {k f : Nat} (hk : k < nu.length) (hf : f < nu.length) (h : k ≠ f) : nu[k]! ≠ nu[f]! := fun e => by
  rw [getElem!_pos nu k hk, getElem!_pos nu f hf] at e
  exact h ((List.getElem_inj hn).1 e)
theorem RelQ.files (h : RelQ nu q r) (fb : Int → By) (fs : Int → Nat) : RelQ nu { q with fb := fb, fs := fs } r := ⟨h.nm, h.sf, h.cl, h.ch, h.nd, h.lt, h.le⟩
/-- What a call of the reference's disk leaves. -/
def RfD (w : World) (p : Nat) (q : Dq) (G B : Nat → Prop) : Prop := ∃ nu r L fv nv sv cv, RfM w p q nu r L fv nv sv cv G B ∧ RelQ nu q r ∧ (∀ j, G j → j < w.heap.size) ∧ ∀ j, B j → j < w.heap.size
def RfO (w w' : World) (p : Nat) (q : Dq) (G B : Nat → Prop) : Prop := ∃ G' B', RfD w' p q G' B' ∧ (∀ j, j < w.heap.size → G' j → G j) ∧ (∀ j, j < w.heap.size → B' j → B j) ∧ Kf G w w'
theorem RfO.self (h : RfD w p q G B) : RfO w w p q G B := ⟨G, B, h, fun _ _ g => g, fun _ _ g => g, Kf.refl _ _⟩
theorem RfD.g (h : RfD w p q G B) (k : Gb w w') : RfD w' p q G B := by
  obtain ⟨nu, r, L, fv, nv, sv, cv, h1, h2, h3, h4⟩ := h
  exact ⟨nu, r, L, fv, nv, sv, cv, h1.g k, h2, fun j g => Nat.lt_of_lt_of_le (h3 j g) k.size, fun j g => Nat.lt_of_lt_of_le (h4 j g) k.size⟩
theorem RfD.kp (h : RfD w p q G B) (k : Kf F w w') (h1 : ∀ j, F j → ¬ G j) (h2 : ∀ j, F j → ¬ B j) : RfD w' p q G B := by
  obtain ⟨nu, r, L, fv, nv, sv, cv, m, rl, h3, h4⟩ := h
  exact ⟨nu, r, L, fv, nv, sv, cv, m.kp k h1 h2, rl, fun j g => Nat.lt_of_lt_of_le (h3 j g) k.size, fun j g => Nat.lt_of_lt_of_le (h4 j g) k.size⟩
/-- Behind the files' turn: a step. -/
theorem Kf.size_eq (h : Kf F w w') {j : Nat} (hj : j < w.heap.size) : j < w'.heap.size := Nat.lt_of_lt_of_le hj h.size
set_option maxHeartbeats 2000000 in
set_option maxRecDepth 100000 in
theorem rsync_r (h : RfD w p q G B) (ok : q.Ok) (hi : q.Inj) (hst : q.st < 100000) (x : By) : Calls Try.prog 47 #[.pointer (some ⟨p, 0, none⟩), .string (sb x)] w fun e w' => e = .returned (.int .i64 (fiE q x)) ∧ RfO w w' p (q.sync x) G B := by
  have H : Hid (RfD w p q G B) := h
  obtain ⟨nu, r, L, fv, nv, sv, cv, h, hr, hG, hB⟩ := h
  have cD := rdown_r h
  have cF := rfile_c h hr ok hi hst x
  by_cases e0 : q.lf = 0
  · have E : fiE q x = 174 := by unfold fiE; rw [if_pos e0]
    have X : Hid (RfO w w p (q.sync x) G B) := by unfold Hid Dq.sync; rw [if_neg (by rw [E]; decide)]; exact RfO.self H.out
    rw [E]
    rw [decide_eq_true e0] at cD
    clear h hr ok hi hst e0 E cF hG hB H
    generalize sb x = sx at *
    go_enter Try.func47, Try.ntmps47
    go_wp2_with fail
    refine cD.mono ?_
    rintro e w' ⟨rfl, rfl⟩
    go_wp2
    go_ret
    exact ⟨rfl, X.out⟩
  rw [decide_eq_false e0] at cD
  obtain ⟨⟨_, c1, _⟩, _⟩ := h.cells
  obtain ⟨a, cap, ev, ha⟩ := h.files
  rw [ev] at c1
  have hp := h.lt
  have KEY : Hid (∀ n, FiR nu q x n → n = -1 ∧ Hid (fiE q x = 172 ∧ RfO w w p (q.sync x) G B) ∨ ∃ f : Nat, n = (f : Int) ∧ f < nu.length ∧ ∃ g b m c, a = some ⟨g, 0, none⟩ ∧ w.cell? ⟨g, f * 2, none⟩ = some (.slice b m c) ∧ (∃ z, w.cell? ⟨g, f * 2 + 1, none⟩ = some z) ∧ w.frozen? ⟨g, f * 2 + 1, none⟩ = false ∧ g < w.heap.size ∧
      Hid (fiE q x = 0 ∧ Calls Try.prog 68 #[.pointer (some ⟨p, 0, none⟩)] (w.drew.setCell ⟨g, f * 2 + 1, none⟩ (.int .i64 (m : Int))) fun e w' => e = .returned (.int .i64 0) ∧ Hid (RfO w w' p (q.sync x) G B))) := fun n hn => by
    rcases hn with ⟨e, hn⟩ | ⟨f, e, hf, en, hm⟩
    · have E1 : fiE q x = 172 := by unfold fiE; rw [if_neg e0, if_neg hn]
      exact .inl ⟨e, E1, by unfold Dq.sync; rw [if_neg (by rw [E1]; decide)]; exact RfO.self H.out⟩
    · have E1 : fiE q x = 0 := by unfold fiE; rw [if_neg e0, if_pos hm]
      obtain ⟨g, e1, k1, k2, k3, b, c, eb⟩ := ha f hf
      have hfl := h.fls
      rw [ev, e1] at hfl
      have hL : nu.length = L.length := h.len.symm
      rw [hL] at hfl
      have hfL : f < L.length := by omega
      refine .inr ⟨f, e, hf, g, b, _, c, e1, by rw [k1, eb], ⟨_, k2⟩, World.ownsRow.frozenAt hfl _, cell_lt k1, E1, ?_⟩
      obtain ⟨st, gr⟩ := World.ownsRow.stored hfl.drew (f * 2 + 1) (.int .i64 ((q.fb nu[f]!).length : Int))
      have eS : q.sync x = (({ q with fb := upd q.fb nu[f]! (q.fb nu[f]!), fs := upd q.fs nu[f]! (q.fb nu[f]!).length } : Dq)).done := by unfold Dq.sync; rw [if_pos E1, en]
      have M : RfM (w.drew.setCell ⟨g, f * 2 + 1, none⟩ (.int .i64 ((q.fb nu[f]!).length : Int))) p { q with fb := upd q.fb nu[f]! (q.fb nu[f]!), fs := upd q.fs nu[f]! (q.fb nu[f]!).length } nu r (L.set f (L[f]!.1, (q.fb nu[f]!).length)) fv nv sv cv G B := by
        refine h.mvF (fun k hk hne => gr.block k hk (by rw [ev, e1] at hne; simpa [Value.ownBlock] using fun e => hne (by simp [Value.ownBlock, e]))) ?_ (by rw [List.length_set]; exact h.len) ?_ (fun _ b => b) h.gb
        · rw [flV_set, List.length_set, ev, e1, hL]
          have e2 : (L.flatMap flV).set (f * 2) L[f]!.1 = L.flatMap flV := by
            apply List.ext_getElem?
            intro j
            rw [List.getElem?_set]
            split
            · rename_i ej
              subst ej
              have := fm_get flV 2 (fun _ => rfl) L f 0 hfL (by omega)
              rw [Nat.add_zero] at this
              rw [this]
              split
              · rfl
              · rename_i hj
                rw [List.getElem?_eq_none (by omega)] at this
                exact this
            · rfl
          rw [e2]; exact st
        · intro k hk
          rw [List.length_set] at hk
          obtain ⟨b1, b2, b3⟩ := h.byt k hk
          have nb : ∀ j, L[k]!.1.ownBlock = some j → j ≠ g := fun j ej e => by
            subst e
            have hj : fv.ownBlock = some j := by rw [ev, e1]; rfl
            exact h.gb j (h.inG.2.1 j hj) (b3 j ej)
          have b1' : OwnB (w.drew.setCell ⟨g, f * 2 + 1, none⟩ (.int .i64 ((q.fb nu[f]!).length : Int))) 0 L[k]!.1 (q.fb nu[k]!) := row_same b1 fun j ej => gr.block j (World.ownsRow.lt b1 j ej).2 fun e => by
            injection e with e; exact nb j ej e
          rw [set_at hk]
          by_cases ek : k = f
          · subst ek
            rw [if_pos rfl, upd_same, upd_same]
            exact ⟨b1', rfl, b3⟩
          · rw [if_neg ek]
            have ne := nu_ne hr.nd (by omega : k < nu.length) hf ek
            rw [upd_ne _ _ ne, upd_ne _ _ ne]
            exact ⟨b1', b2, b3⟩
      have kG : Kf G w (w.drew.setCell ⟨g, f * 2 + 1, none⟩ (.int .i64 ((q.fb nu[f]!).length : Int))) := ⟨gr.os, gr.tape, gr.output, gr.size, fun k hk hn => gr.block k hk fun e => hn (h.inG.2.1 k (by rw [ev, e1]; injection e with e; rw [e]; rfl))⟩
      refine (rstep_c M ok.lf.2 (by show q.st < 1000000; omega)).mono ?_
      rintro e w' ⟨rfl, M', kp⟩
      refine ⟨rfl, G, B, ⟨nu, r, _, _, _, _, _, by rw [eS]; exact M', by rw [eS]; exact (hr.files _ _).done, fun j hj => (kG.then kp fun _ _ h => by subst h; exact M.inG.1).size_eq (hG j hj), fun j hj => (kG.then kp fun _ _ h => by subst h; exact M.inG.1).size_eq (hB j hj)⟩, fun _ _ g => g, fun _ _ g => g, kG.then kp fun _ _ h => by subst h; exact M.inG.1⟩
  clear h hr ok hi hst e0 ha ev hG hB H
  generalize sb x = sx at *
  generalize nu.length = m at *
  go_enter Try.func47, Try.ntmps47
  go_wp2_with fail
  refine cD.mono ?_
  rintro e w' ⟨rfl, rfl⟩
  clear cD
  go_wp2_with fail
  refine cF.mono ?_
  rintro e w' ⟨n, rfl, hn, rfl⟩
  clear cF
  rcases KEY.out n hn with ⟨rfl, K⟩ | ⟨f, rfl, hf, g, b, mm, c, rfl, k1, ⟨z, k2⟩, fz, gl, K⟩
  · clear KEY hn
    go_wp2
    go_ret
    exact ⟨by rw [K.out.1]; rfl, K.out.2⟩
  · have hfi : (f : Int) < (m : Int) := by omega
    clear KEY hn
    go_wp2
    go_region
    all_goals
      have K2 := K.out.2
      go_wp2_with fail
      refine K2.mono ?_
      rintro e w2 ⟨rfl, O⟩
      clear K2
      go_wp2
      go_ret
      exact ⟨by rw [K.out.1]; rfl, O.out⟩
end Go.Proofs.Ytkagnoinifffdaa

/- The reference's Append. -/
namespace Go.Proofs.Ytkagnoinifffdaa
open Go.RowKit Go.Lib Go.Maps

variable {w w' W : World} {p : Nat} {q q' : Dq} {nu : List Int} {r : Rf} {L : List (Value × Nat)} {fv nv sv cv : Value} {F G B : Nat → Prop}
theorem OwnB.agb {v : Value} {l : By} {b0 : Nat} (h : OwnB w b0 v l) : AgB w v l := by
  rcases id h.2 with ⟨e, e0⟩ | ⟨g, cap, cur, e, _⟩
  · have : l = [] := List.length_eq_zero_iff.1 e0
    subst this
    exact ⟨none, 0, e, .inl ⟨rfl, rfl, rfl⟩⟩
  · exact ⟨_, cap, e, .inr ⟨_, rfl, fun j u hj => World.ownsRow.cells h (by rw [e]; rfl) j u hj⟩⟩
theorem RfM.row (h : RfM w p q nu r L fv nv sv cv G B) {f : Nat} (hf : f < nu.length) : ∃ g cap, fv = .slice (some ⟨g, 0, none⟩) nu.length cap ∧ G g ∧ ∃ b c, L[f]!.1 = .slice b (q.fb nu[f]!).length c ∧ OwnB w 0 (.slice b (q.fb nu[f]!).length c) (q.fb nu[f]!) := by
  obtain ⟨a, cap, ev, ha⟩ := h.files
  obtain ⟨g, e1, _, _, k3, b, c, eb⟩ := ha f hf
  have ev1 : fv = .slice (some ⟨g, 0, none⟩) nu.length cap := by rw [ev, e1]
  exact ⟨g, cap, ev1, h.inG.2.1 g (by rw [ev1]; rfl), b, c, eb, by rw [← eb]; exact k3⟩
/-- The files' row with another file at one place. -/
theorem RfM.put0 (h : RfM w p q nu r L fv nv sv cv G B) (hr : RelQ nu q r) {f : Nat} (hf : f < nu.length) {w2 : World} {g cap : Nat} (ev : fv = .slice (some ⟨g, 0, none⟩) nu.length cap) {v : Value} {l : By} {s : Nat} {B' : Nat → Prop}
    (hrow : w2.ownsRow 0 78 2 fv L.length ((L.set f (v, s)).flatMap flV)) (blk : ∀ k, k < w.heap.size → k ≠ g → w2.heap[k]? = w.heap[k]?) (ho : OwnB w2 0 v l) (hv : ∀ j, v.ownBlock = some j → B' j) (hB : ∀ j, B j → B' j) (hG : ∀ j, G j → ¬ B' j) :
    RfM w2 p { q with fb := upd q.fb nu[f]! l, fs := upd q.fs nu[f]! s } nu r (L.set f (v, s)) fv nv sv cv G B' := by
  have hgG : G g := h.inG.2.1 g (by rw [ev]; rfl)
  refine h.mvF (fun k hk hne => blk k hk fun e => hne (by rw [ev, e]; rfl)) (by rw [List.length_set]; exact hrow) (by rw [List.length_set]; exact h.len) ?_ hB hG
  intro k hk
  rw [List.length_set] at hk
  obtain ⟨b1, b2, b3⟩ := h.byt k hk
  rw [set_at hk]
  by_cases ek : k = f
  · subst ek
    rw [if_pos rfl, upd_same, upd_same]
    exact ⟨ho, rfl, hv⟩
  · rw [if_neg ek]
    have ne := nu_ne hr.nd (by rw [← h.len]; exact hk : k < nu.length) hf ek
    rw [upd_ne _ _ ne, upd_ne _ _ ne]
    refine ⟨row_same b1 fun j ej => blk j (World.ownsRow.lt b1 j ej).2 fun e => ?_, b2, fun j ej => hB j (b3 j ej)⟩
    subst e
    exact h.gb j hgG (b3 j ej)
theorem list_set_self {α : Type} {l : List α} {i : Nat} {x : α} (h : l[i]? = some x) : l.set i x = l := by
  apply List.ext_getElem?
  intro j
  rw [List.getElem?_set]
  split
  · rename_i e
    subst e
    split
    · exact h.symm
    · rename_i hj
      rw [List.getElem?_eq_none (by omega)] at h
      cases h
  · rfl
/-- The slice alone is stored. -/
theorem RfM.putB (h : RfM w p q nu r L fv nv sv cv G B) (hr : RelQ nu q r) {f : Nat} (hf : f < nu.length) {w1 : World} (k1 : Gb w w1) {g cap : Nat} (ev : fv = .slice (some ⟨g, 0, none⟩) nu.length cap) {v : Value} {l : By} {B' : Nat → Prop} (ho : OwnB w1 0 v l) (hv : ∀ j, v.ownBlock = some j → B' j) (hB : ∀ j, B j → B' j) (hG : ∀ j, G j → ¬ B' j) :
    RfM (w1.setCell ⟨g, f * 2, none⟩ v) p { q with fb := upd q.fb nu[f]! l, fs := upd q.fs nu[f]! (q.fs nu[f]!) } nu r (L.set f (v, q.fs nu[f]!)) fv nv sv cv G B' ∧ Kf G w (w1.setCell ⟨g, f * 2, none⟩ v) := by
  have h1 := h.g k1
  have hfl := h1.fls
  have hgG : G g := h.inG.2.1 g (by rw [ev]; rfl)
  have hfL : f < L.length := by rw [h.len]; exact hf
  rw [ev, ← h.len] at hfl
  obtain ⟨s1, g1⟩ := World.ownsRow.stored hfl (f * 2) v
  refine ⟨h1.put0 hr hf ev ?_ (fun k hk hne => g1.block k hk (by simpa using hne)) (row_same ho fun j ej => g1.block j (World.ownsRow.lt ho j ej).2 fun e => ?_) hv hB hG, (Kf.gb k1 G).then (Kf.grown g1 fun k e => by cases e; exact hgG) fun _ _ g => g⟩
  · rw [flV_set, ev, ← h.len]
    have e2 : ((L.flatMap flV).set (f * 2) v).set (f * 2 + 1) (.int .i64 (q.fs nu[f]! : Int)) = (L.flatMap flV).set (f * 2) v := by
      refine list_set_self ?_
      rw [List.getElem?_set_ne (by omega), fm_get flV 2 (fun _ => rfl) L f 1 hfL (by omega)]
      obtain ⟨_, b2, _⟩ := h.byt f hfL
      show some (Value.int .i64 ((L[f]!.2 : Nat) : Int)) = some _
      rw [b2]
    rw [e2]; exact s1
  · injection e with e
    subst e
    exact hG j hgG (hv j ej)
theorem rused_d (h : RfD w p q G B) (ok : q.Ok) (hi : q.Inj) (hst : q.st < 100000) : Calls Try.prog 34 #[.pointer (some ⟨p, 0, none⟩)] w fun e w' => e = .returned (.int .i64 (usdO q : Int)) ∧ Gb w w' := by
  obtain ⟨nu, r, L, fv, nv, sv, cv, h, hr, _⟩ := h
  exact rused_r h hr ok hi hst
theorem usdO_le (ok : q.Ok) (hst : q.st < 100000) : usdO q ≤ 419430400000 := by
  unfold usdO
  split
  · omega
  · have h1 := usd_le ok (kys q.nm)
    have h2 := ok.nmL
    rw [kys_length] at h1
    generalize usd q (kys q.nm) = u at *
    generalize q.nm.length = n at *
    omega
/-- What Append does behind its tests, from any world on. -/
def ApX (w : World) (p : Nat) (q : Dq) (x : By) (m : By) (u : Value) (nl f : Nat) (G B : Nat → Prop) (W : World) : Prop :=
  ∃ g cap b y c, g ≠ p ∧ (W.cell? ⟨p, 1, none⟩ = some (.slice (some ⟨g, 0, none⟩) nl cap) ∧ W.cell? ⟨g, f * 2, none⟩ = some (.slice b y c) ∧ p < W.heap.size ∧ g < W.heap.size) ∧
    ∃ a1 c1 W1, (Builtin.append_ #[33, 33] 33 #[.slice none 0 0, .slice b y c]).run Try.prog W = .ok (.slice a1 y c1) W1 ∧ (W1.cell? ⟨p, 1, none⟩ = some (.slice (some ⟨g, 0, none⟩) nl cap) ∧ (∃ z, W1.cell? ⟨g, f * 2, none⟩ = some z) ∧ W1.frozen? ⟨g, f * 2, none⟩ = false ∧ p < W1.heap.size ∧ g < W1.heap.size) ∧
      ∃ a2 c2 W2, (Builtin.append_ #[33, 33] 33 #[.slice a1 y c1, u]).run Try.prog W1.drew = .ok (.slice a2 (y + m.length) c2) W2 ∧ (W2.cell? ⟨p, 1, none⟩ = some (.slice (some ⟨g, 0, none⟩) nl cap) ∧ (∃ z, W2.cell? ⟨g, f * 2, none⟩ = some z) ∧ W2.frozen? ⟨g, f * 2, none⟩ = false ∧ p < W2.heap.size ∧ g < W2.heap.size) ∧
        Hid (Calls Try.prog 68 #[.pointer (some ⟨p, 0, none⟩)] (W2.setCell ⟨g, f * 2, none⟩ (.slice a2 (y + m.length) c2)) fun e w' => e = .returned (.int .i64 0) ∧ Hid (RfO w w' p (q.append x m) G B))
theorem gb_of_grown {base : Nat} {w0 w w' : World} {v : Value} {l : By} (h : OwnB w base v l) (g0 : Gb w0 w) (hb : w0.heap.size ≤ base) (g : w.grownBy w' v.ownBlock) : Gb w0 w' :=
  ⟨g.os.trans g0.os, g.tape.trans g0.tape, g.output.trans g0.output, Nat.le_trans g0.size g.size, fun j hj => (g.block j (Nat.lt_of_lt_of_le hj g0.size) fun e => by have := (World.ownsRow.lt h j e.symm).1; omega).trans (g0.block j hj)⟩
theorem apX_of (h : RfM w p q nu r L fv nv sv cv G B) (hr : RelQ nu q r) (hG : ∀ j, G j → j < w.heap.size) (hB : ∀ j, B j → j < w.heap.size) (ok : q.Ok) (hst : q.st < 100000) {x m : By} {f : Nat} (hf : f < nu.length) (en : nu[f]! = num q.nm x) (hz : apE q x m.length = 0) {u : Value} (hm : m.length ≤ 65536) (hu : AgB w u m) (gW : Gb w W) : ApX w p q x m u nu.length f G B W := by
  have h1 := h.g gW
  obtain ⟨g, cap, ev, hg, b, c, eb, ob⟩ := h1.row hf
  have hfb := ok.fb nu[f]!
  have gl : ∀ {X : World}, Gb w X → g < X.heap.size := fun {X} k => Nat.lt_of_lt_of_le (hG g hg) k.size
  have CE : ∀ X, Gb w X → X.cell? ⟨p, 1, none⟩ = some (.slice (some ⟨g, 0, none⟩) nu.length cap) ∧ (∃ z, X.cell? ⟨g, f * 2, none⟩ = some z) ∧ X.frozen? ⟨g, f * 2, none⟩ = false ∧ p < X.heap.size ∧ g < X.heap.size := fun X k => by
    have hX := h.g k
    obtain ⟨a', cap', ev', ha'⟩ := hX.files
    obtain ⟨g', e1', k1', _⟩ := ha' f hf
    have e2 : g' = g := by
      rw [ev', e1'] at ev
      injection ev with e3; injection e3 with e3; injection e3
    subst e2
    have hfl := hX.fls
    rw [ev', e1', ← h.len] at hfl
    refine ⟨by rw [← ev]; exact hX.cells.1.2.1, ⟨_, k1'⟩, World.ownsRow.frozenAt hfl _, hX.lt, cell_lt k1'⟩
  obtain ⟨a1, c1, W1, hr1, ho1, hg1, hb1⟩ := app_run (ownb_nil W w.heap.size |>.mono (Nat.zero_le _)) ob.agb (by rw [List.length_nil]; omega)
  have gW1 : Gb w W1 := gb_of_grown (ownb_nil W w.heap.size) gW (Nat.le_refl _) hg1
  have e0 : ([] : By).length + (q.fb nu[f]!).length = (q.fb nu[f]!).length := by simp
  rw [e0] at hr1 ho1 hb1
  rw [List.nil_append] at ho1
  have new1 : ∀ j, (Value.slice a1 (q.fb nu[f]!).length c1).ownBlock = some j → W.heap.size ≤ j := fun j e => (hb1 j e).elim (fun e => by simp [Value.ownBlock] at e) id
  obtain ⟨a2, c2, W2, hr2, ho2, hg2, hb2⟩ := app_run (w := W1.drew) (v := .slice a1 (q.fb nu[f]!).length c1) (l := q.fb nu[f]!) ho1 (hu.gb (gW1.drew)) (by omega)
  have gW2 : Gb w W2 := ⟨hg2.os.trans gW1.os, hg2.tape.trans gW1.tape, hg2.output.trans gW1.output, Nat.le_trans gW1.size hg2.size, fun j hj => (hg2.block j (Nat.lt_of_lt_of_le hj gW1.size) fun e => by have := new1 j e.symm; have := gW.size; omega).trans (gW1.block j hj)⟩
  have np : g ≠ p := fun e => by
    obtain ⟨cur, ec⟩ := row_cells h.fls (k := g) (by rw [ev]; rfl)
    rw [e] at ec
    exact absurd (type_cells ec h.blk) (by decide)
  refine ⟨g, cap, b, _, c, np, ⟨(CE W gW).1, ?_, (CE W gW).2.2.2⟩, a1, c1, W1, hr1, CE W1 gW1, a2, c2, W2, hr2, CE W2 gW2, ?_⟩
  · obtain ⟨a', cap', ev', ha'⟩ := h1.files
    obtain ⟨g', e1', k1', _⟩ := ha' f hf
    have e2 : g' = g := by
      have e3 : a' = some ⟨g, 0, none⟩ := (Value.slice.inj (ev'.symm.trans ev)).1
      exact (Addr.mk.inj (Option.some.inj (e1'.symm.trans e3))).1
    subst e2
    exact k1'.trans (congrArg some eb)
  · have new2 : ∀ j, (Value.slice a2 ((q.fb nu[f]!).length + m.length) c2).ownBlock = some j → Nw B w W2 j := fun j e => by
      have lt := (World.ownsRow.lt ho2 j e).2
      refine .inr ⟨?_, lt⟩
      have := gW.size
      rcases hb2 j e with e | e
      · have := new1 j e; omega
      · have := gW1.size; have : w.heap.size ≤ W1.drew.heap.size := gW1.drew.size; omega
    obtain ⟨M, kG⟩ := h.putB hr hf gW2 ev ho2 new2 (fun j b => .inl b) (fun j gj bj => bj.elim (h.gb j gj) fun n => by have := hG j gj; omega)
    refine (rstep_c M ok.lf.2 (by show q.st < 1000000; omega)).mono ?_
    rintro e w' ⟨rfl, M', kp⟩
    have eS : q.append x m = (({ q with fb := upd q.fb nu[f]! (q.fb nu[f]! ++ m), fs := upd q.fs nu[f]! (q.fs nu[f]!) } : Dq)).done := by unfold Dq.append; rw [if_pos hz, en]
    have kf := kG.then kp fun _ _ h => by subst h; exact M.inG.1
    refine ⟨rfl, G, Nw B w W2, ⟨nu, r, _, _, _, _, _, by rw [eS]; exact M', by rw [eS]; exact (hr.files _ _).done, fun j hj => kf.size_eq (hG j hj), fun j hj => hj.elim (fun b => kf.size_eq (hB j b)) fun n => Nat.lt_of_lt_of_le n.2 (by have := kp.size; rw [World.size_setCell] at this; exact this)⟩, fun _ _ g => g, fun j hj b => b.elim id fun n => by omega, kf⟩
end Go.Proofs.Ytkagnoinifffdaa
