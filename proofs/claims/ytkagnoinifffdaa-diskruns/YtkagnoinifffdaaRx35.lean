import Derived.Test.YtkagnoinifffdaaRxDkRm
import Derived.BigRegion
/- The reference's Create. -/
namespace Go.Proofs.Ytkagnoinifffdaa
open Go.RowKit Go.Lib Go.Maps

variable {w w' W : World} {p : Nat} {q q' : Dq} {nu : List Int} {r : Rf} {L : List (Value × Nat)} {fv nv sv cv : Value} {F G B : Nat → Prop}
theorem Try.infoFi : (Try.prog.info? 78).map (fun i => (i.zero, i.size, i.bytes)) = some (some (.agg #[.slice none 0 0, .int .i64 0]), 2, 32) := by kernel_rfl
theorem infoFl : ∃ i, Try.prog.info? 78 = some i ∧ i.zero = some (.agg #[.slice none 0 0, .int .i64 0]) ∧ i.size = 2 ∧ i.bytes = 32 := info_parts Try.infoFi
/-- A file put behind files. -/
theorem appF_run {v : Value} {l : List (Value × Nat)} (h : w.ownsRow 0 78 2 v l.length (l.flatMap flV)) {b : Option Addr} {m c : Nat} {s : Nat} (hl : l.length ≤ 100000) :
    ∃ ax cc w', (Builtin.append_ #[64, 64] 64 #[v, .slice (some ⟨w.heap.size, 0, none⟩) 1 1]).run Try.prog (w.alloc (.cells #[.slice b m c, .int .i64 (s : Int)] 78)) = .ok (.slice ax (l.length + 1) cc) w' ∧
      w'.ownsRow 0 78 2 (.slice ax (l.length + 1) cc) (l ++ [(Value.slice b m c, s)]).length ((l ++ [(Value.slice b m c, s)]).flatMap flV) ∧ (w.alloc (.cells #[.slice b m c, .int .i64 (s : Int)] 78)).grownBy w' v.ownBlock ∧
      ∀ k, (Value.slice ax (l.length + 1) cc).ownBlock = some k → v.ownBlock = some k ∨ w.heap.size ≤ k := by
  obtain ⟨i0, hi, hz0, hz1, hz2⟩ := infoFl
  have ha := World.ownsRow.alloc h (.cells #[.slice b m c, .int .i64 (s : Int)] 78)
  obtain ⟨v', w', hr, ho, hg, _, hbk⟩ := run_append_own_at (P := Try.prog) _ 0 64 64 78 i0 (.agg #[.slice none 0 0, .int .i64 0]) 2 32
    Try.underlying64 hi hz0 hz1 hz2 rfl (by decide) _ _ _ ha ⟨w.heap.size, 0, none⟩ 1 1 [.slice b m c, .int .i64 (s : Int)] rfl (fun j u hj => by
      rw [Addr.add_lit]
      rcases j with _ | _ | j
      · simp at hj; subst hj; simp [go_sem]
      · simp at hj; subst hj; simp [go_sem]
      · simp at hj) (by intro u hu; simp only [List.mem_cons, List.not_mem_nil, or_false] at hu; rcases hu with rfl | rfl <;> rfl) (by unfold maxLen; omega) (by omega) (Nat.zero_le _)
  obtain ⟨ax, cc, rfl⟩ := row_fm ho
  refine ⟨ax, cc, w', hr, ?_, hg, fun k e => ?_⟩
  · rw [List.length_append, List.flatMap_append]
    simpa [flV] using ho
  · rcases hbk with h | h
    · exact .inl (by rw [← h]; exact e)
    · rw [h] at e; cases e; exact .inr (by simp)
/-- One file more, plainly. -/
theorem RelQ.create (h : RelQ nu q r) (ok : q.Ok) (hi : q.Inj) {x : By} (hx : nmOk x = true) : RelQ (nu ++ [(q.st : Int)]) (q.made.alter ([], x, (q.st : Int))).done ⟨apR r.nm (1, [], x, nu.length), r.sf, r.ch ++ [(1, [], x, nu.length)]⟩ := by
  have x0 : x ≠ [] := fun e => by have := (nmOk_len hx).1; rw [e] at this; simp at this
  have hc : ChR (nu ++ [(q.st : Int)]) (1, [], x, nu.length) ([], x, (q.st : Int)) := .inl ⟨rfl, rfl, rfl, x0, rfl, by simp, by
    show (nu ++ [(q.st : Int)])[nu.length]! = _
    rw [getElem!_pos _ _ (by simp)]; simp⟩
  refine ⟨(h.nm.more _).ap hi.now.ks ok.noneN hc, h.sf.more _, ?_, fun i hi => ?_, ?_, fun n hn => ?_, ?_⟩
  · show (r.ch ++ [_]).length = (q.ch ++ [_]).length
    rw [List.length_append, List.length_append, h.cl]; rfl
  · show ChR _ (r.ch ++ [_])[i]! (q.ch ++ [_])[i]!
    have hi : i < (q.ch ++ [(([] : By), x, (q.st : Int))]).length := hi
    rw [List.length_append, List.length_singleton] at hi
    rw [getElem!_pos _ i (by rw [List.length_append, h.cl]; simpa using hi), getElem!_pos _ i (by simpa using hi)]
    by_cases e : i < q.ch.length
    · rw [List.getElem_append_left (by rw [h.cl]; exact e), List.getElem_append_left e, ← getElem!_pos r.ch i (by rw [h.cl]; exact e), ← getElem!_pos q.ch i e]
      exact (h.ch i e).more _
    · have e : i = q.ch.length := by omega
      subst e
      rw [List.getElem_append_right (by rw [h.cl]; exact Nat.le_refl _), List.getElem_append_right (Nat.le_refl _)]
      simpa using hc
  · rw [List.nodup_append]
    refine ⟨h.nd, by simp, fun a ha b hb e => ?_⟩
    rw [List.mem_singleton.1 hb] at e
    have := h.lt a ha
    omega
  · show n < ((q.st + 1 : Nat) : Int)
    rcases List.mem_append.1 hn with hn | hn
    · have := h.lt n hn; omega
    · rw [List.mem_singleton.1 hn]; omega
  · show (nu ++ [_]).length ≤ q.st + 1
    have := h.le
    simp; omega
/-- Behind the new file. -/
def CrX (w : World) (p : Nat) (q : Dq) (x : By) (nl : Nat) (fa : Option Addr) (fc : Nat) (G B : Nat → Prop) : Prop :=
  ∃ ax c4 W4, (Builtin.append_ #[64, 64] 64 #[.slice fa nl fc, .slice (some ⟨w.heap.size, 0, none⟩) 1 1]).run Try.prog (w.alloc (.cells #[.slice none 0 0, .int .i64 0] 78)) = .ok (.slice ax (nl + 1) c4) W4 ∧
    (∃ z, W4.cell? ⟨p, 1, none⟩ = some z) ∧ W4.frozen? ⟨p, 1, none⟩ = false ∧ p < W4.heap.size ∧
    Hid (Calls Try.prog 67 #[.pointer (some ⟨p, 0, none⟩), .agg #[.int .i64 1, .string ByteArray.empty, .string (sb x), .int .i64 (nl : Int)]] (W4.setCell ⟨p, 1, none⟩ (.slice ax (nl + 1) c4)) fun e w' => e = .returned (.int .i64 0) ∧ Hid (RfO w w' p (q.create x) G B))
theorem crX_of {fa : Option Addr} {fc : Nat} (h : RfM w p q nu r L (.slice fa nu.length fc) nv sv cv G B) (hr : RelQ nu q r) (hG : ∀ j, G j → j < w.heap.size) (hB : ∀ j, B j → j < w.heap.size) (ok : q.Ok) (hi : q.Inj) (hst : q.st < 10000) {x : By} (hz : crE q x = 0) (hx : nmOk x = true) : CrX w p q x nu.length fa fc G B := by
  have hl := h.len
  have hfl := h.fls
  rw [← hl] at hfl
  obtain ⟨ax, c4, W4, hrun, ho, hg, hbk⟩ := appF_run (b := none) (m := 0) (c := 0) (s := 0) hfl (by have := hr.le; omega)
  rw [hl] at hrun hg hbk ho
  have gA : Gb w (w.alloc (.cells #[.slice none 0 0, .int .i64 ((0 : Nat) : Int)] 78)) := gb_alloc (Below.refl _ w) _
  have np : ∀ {base m n : Nat} {e : TypeId} {v : Value} {xs : List Value}, w.ownsRow base e m v n xs → e ≠ 68 → ∀ j, v.ownBlock = some j → j ≠ p := fun {base m n e v xs} ho hne j ej eq => by
    subst eq
    obtain ⟨cur, ec⟩ := row_cells ho ej
    exact hne (type_cells ec h.blk)
  have nf : ∀ {base m n : Nat} {e : TypeId} {v : Value} {xs : List Value}, w.ownsRow base e m v n xs → e ≠ 78 → ∀ j, v.ownBlock = some j → (Value.slice fa nu.length fc).ownBlock ≠ some j := fun {base m n e v xs} ho hne j ej eq => by
    obtain ⟨c1, e1⟩ := row_cells ho ej
    obtain ⟨c2, e2⟩ := row_cells h.fls eq
    exact hne (type_cells e1 e2)
  have keep : ∀ k, k < w.heap.size → (Value.slice fa nu.length fc).ownBlock ≠ some k → W4.heap[k]? = w.heap[k]? := fun k hk hne => (hg.block k (Nat.lt_of_lt_of_le hk gA.size) fun e => hne e.symm).trans (gA.block k hk)
  have blk4 := (keep p h.lt fun e => np h.fls (by decide) p e rfl).trans h.blk
  have s4 : w.heap.size ≤ W4.heap.size := Nat.le_trans gA.size hg.size
  refine ⟨ax, c4, W4, hrun, ⟨_, by simp [World.cell?, blk4]; rfl⟩, by simp [World.frozen?, blk4], Nat.lt_of_lt_of_le h.lt s4, ?_⟩
  have oth4 : ∀ k, k ≠ p → (W4.setCell ⟨p, 1, none⟩ (.slice ax (nu.length + 1) c4)).heap[k]? = W4.heap[k]? := fun k hk => Below.heap_setCell _ _ _ _ hk
  have old : ∀ {base m n : Nat} {e : TypeId} {v : Value} {xs : List Value}, w.ownsRow base e m v n xs → e ≠ 68 → e ≠ 78 → (W4.setCell ⟨p, 1, none⟩ (.slice ax (nu.length + 1) c4)).ownsRow base e m v n xs := fun {base m n e v xs} ho h1 h2 =>
    row_same ho fun j ej => (oth4 j (np ho h1 j ej)).trans (keep j (World.ownsRow.lt ho j ej).2 (nf ho h2 j ej))
  have newf : ∀ j, (Value.slice ax (nu.length + 1) c4).ownBlock = some j → G j ∨ w.heap.size ≤ j := fun j e => (hbk j e).imp (fun e => h.inG.2.1 j e) id
  have M : RfM (W4.setCell ⟨p, 1, none⟩ (.slice ax (nu.length + 1) c4)) p q.made (nu ++ [(q.st : Int)]) r (L ++ [(Value.slice none 0 0, 0)]) (.slice ax (nu.length + 1) c4) nv sv cv (fun j => G j ∨ (Value.slice ax (nu.length + 1) c4).ownBlock = some j) B := by
    refine ⟨by rw [heap_set0 blk4]; rfl, ?_, by rw [List.length_append, List.length_append, hl]; rfl, fun k hk => ?_, old h.nms (by decide) (by decide), h.nmB, old h.sfs (by decide) (by decide), h.sfB, old h.chs (by decide) (by decide), ⟨.inl h.inG.1, fun _ e => .inr e, fun j e => .inl (h.inG.2.2 j e)⟩, ?_⟩
    · refine row_same ho fun j e => oth4 j fun eq => ?_
      subst eq
      obtain ⟨cur, ec⟩ := row_cells ho e
      exact absurd (type_cells ec blk4) (by decide)
    · rw [List.length_append, List.length_singleton] at hk
      by_cases ek : k < L.length
      · obtain ⟨b1, b2, b3⟩ := h.byt k ek
        have e1 : (L ++ [(Value.slice none 0 0, 0)])[k]! = L[k]! := by rw [getElem!_pos _ k (by simp; omega), List.getElem_append_left ek, ← getElem!_pos L k ek]
        have e2 : (nu ++ [(q.st : Int)])[k]! = nu[k]! := by rw [getElem!_pos _ k (by simp; omega), List.getElem_append_left (by omega), ← getElem!_pos nu k (by omega)]
        have ne : nu[k]! ≠ (q.st : Int) := fun e => by
          have := hr.lt nu[k]! (by rw [getElem!_pos nu k (by omega)]; exact List.getElem_mem _)
          omega
        rw [e1, e2]
        show OwnB _ 0 L[k]!.1 (upd q.fb (q.st : Int) [] nu[k]!) ∧ L[k]!.2 = upd q.fs (q.st : Int) 0 nu[k]! ∧ _
        rw [upd_ne _ _ ne, upd_ne _ _ ne]
        exact ⟨old b1 (by decide) (by decide), b2, b3⟩
      · have ek : k = L.length := by omega
        subst ek
        have e1 : (L ++ [(Value.slice none 0 0, 0)])[L.length]! = (Value.slice none 0 0, 0) := by rw [getElem!_pos _ _ (by simp)]; simp
        have e2 : (nu ++ [(q.st : Int)])[L.length]! = (q.st : Int) := by rw [hl, getElem!_pos _ _ (by simp)]; simp
        rw [e1, e2]
        show OwnB _ 0 (Value.slice none 0 0) (upd q.fb (q.st : Int) [] (q.st : Int)) ∧ 0 = upd q.fs (q.st : Int) 0 (q.st : Int) ∧ _
        rw [upd_same, upd_same]
        exact ⟨ownb_nil _ _, rfl, fun j e => by simp [Value.ownBlock] at e⟩
    · rintro j (g | e) b
      · exact h.gb j g b
      · rcases newf j e with g | n
        · exact h.gb j g b
        · have := hB j b; omega
  have kG0 : Kf G w W4 := ⟨hg.os, hg.tape, hg.output, s4, fun k hk hn => keep k hk fun e => hn (h.inG.2.1 k e)⟩
  have kG : Kf G w (W4.setCell ⟨p, 1, none⟩ (.slice ax (nu.length + 1) c4)) := kG0.set (p := ⟨p, 1, none⟩) (fun _ => h.inG.1) _
  have ln := hr.nm.len hi.now.ks
  have l1 := ok.nmL
  have hG2 : ∀ j, (G j ∨ (Value.slice ax (nu.length + 1) c4).ownBlock = some j) → j < (W4.setCell ⟨p, 1, none⟩ (.slice ax (nu.length + 1) c4)).heap.size := fun j g => by
    rw [World.size_setCell]
    exact g.elim (fun g => Nat.lt_of_lt_of_le (hG j g) s4) fun e => (World.ownsRow.lt ho j e).2
  refine (rchange_c M hG2 (fun j b => by rw [World.size_setCell]; exact Nat.lt_of_lt_of_le (hB j b) s4) ok.lf.2 (by show q.st < 1000000; omega) (by omega) (by have := ok.sfL; have := hr.cl; omega) (1, [], x, nu.length)).mono ?_
  rintro e w' ⟨rfl, O⟩
  have eS : q.create x = (q.made.alter ([], x, (q.st : Int))).done := by unfold Dq.create; rw [if_pos hz]
  obtain ⟨G', B', D, d1, d2, d3⟩ := O.out.out (q2 := q.create x) (by rw [eS]; rfl) (by rw [eS]; rfl) (by rw [eS]; rfl) (by rw [eS]; rfl) (by rw [eS]; rfl) rfl (by rw [eS]; exact hr.create ok hi hx)
  refine ⟨rfl, G', B', D, fun j hj g => ?_, fun j hj b => d2 j (by rw [World.size_setCell]; omega) b, kG.then d3 fun j hj g => g.elim id fun e => (newf j e).elim id fun n => by omega⟩
  rcases d1 j (by rw [World.size_setCell]; omega) g with g | e
  · exact g
  · exact (newf j e).elim id fun n => by omega
set_option maxHeartbeats 4000000 in
set_option maxRecDepth 100000 in
theorem rcreate_r (h : RfD w p q G B) (ok : q.Ok) (hi : q.Inj) (hst : q.st < 10000) {x : By} (hxl : x.length ≤ 65536) : Calls Try.prog 43 #[.pointer (some ⟨p, 0, none⟩), .string (sb x)] w fun e w' => e = .returned (.int .i64 (crE q x)) ∧ RfO w w' p (q.create x) G B := by
  have SELF : Hid (crE q x ≠ 0 → RfO w w p (q.create x) G B) := fun hne => by
    have e : q.create x = q := by unfold Dq.create; rw [if_neg hne]
    rw [e]; exact RfO.self h
  obtain ⟨nu, r, L, fv, nv, sv, cv, h, hr, hG, hB⟩ := h
  have cD := rdown_r h
  have cN := rname_c (sb x) (by simp [sb, ByteArray.size]; omega) w
  rw [sb_list] at cN
  by_cases e0 : q.lf = 0
  · have E : crE q x = 174 := by unfold crE; rw [if_pos e0]
    have X : Hid (RfO w w p (q.create x) G B) := SELF.out (by rw [E]; decide)
    rw [E]
    rw [decide_eq_true e0] at cD
    clear h hr ok hi hst e0 E hG hB SELF cN hxl
    generalize sb x = sx at *
    go_enter Try.func43, Try.ntmps43
    go_wp2_with fail
    refine cD.mono ?_
    rintro e w' ⟨rfl, rfl⟩
    go_wp2
    go_ret
    exact ⟨rfl, X.out⟩
  rw [decide_eq_false e0] at cD
  cases hx : nmOk x with
  | false =>
    have E : crE q x = 170 := by unfold crE; rw [if_neg e0, if_pos hx]
    have X : Hid (RfO w w p (q.create x) G B) := SELF.out (by rw [E]; decide)
    rw [E]
    rw [hx] at cN
    clear h hr ok hi hst e0 E hG hB SELF hxl hx
    generalize sb x = sx at *
    go_enter Try.func43, Try.ntmps43
    go_wp2_with fail
    refine cD.mono ?_
    rintro e w' ⟨rfl, rfl⟩
    go_wp2_with fail
    refine cN.mono ?_
    rintro e w' ⟨rfl, rfl⟩
    go_wp2
    go_ret
    exact ⟨rfl, X.out⟩
  | true =>
  rw [hx] at cN
  obtain ⟨⟨_, c1, c2, _⟩, fz⟩ := h.cells
  have f1 := fz 1
  have hp := h.lt
  have ln := hr.nm.len hi.now.ks
  have l1 := ok.nmL
  obtain ⟨a, cap, rfl⟩ := row_fm h.nms
  obtain ⟨fa, fc, ef⟩ := row_fm h.fls
  rw [h.len] at ef
  subst ef
  have cF := rfind_c (x := x) h.nms (by omega)
  have K1 : Hid (∀ n : Int, FdR r.nm x n → n = -1 ∧ x ∉ kys q.nm ∨ 0 ≤ n ∧ Hid (crE q x = 171)) := fun n hn => by
    rcases hn with ⟨e, hn⟩ | ⟨i, e, hi, ex⟩
    · exact .inl ⟨e, fun hm => hn ((hr.nm.ks x).2 hm)⟩
    · refine .inr ⟨by omega, ?_⟩
      have hm : x ∈ kys q.nm := (hr.nm.ks x).1 (by rw [← ex]; rw [getElem!_pos r.nm i hi]; exact List.mem_map_of_mem (List.getElem_mem hi))
      unfold Hid crE; rw [if_neg e0, if_neg (by rw [hx]; decide), if_pos hm]
  have K2 : Hid (x ∉ kys q.nm → 64 ≤ r.nm.length → Hid (crE q x = 175)) := fun hm hl => by
    unfold Hid crE; rw [if_neg e0, if_neg (by rw [hx]; decide), if_neg hm, if_pos (by omega)]
  have K3 : Hid (x ∉ kys q.nm → ¬ 64 ≤ r.nm.length → Hid (crE q x = 0) ∧ Hid (CrX w p q x nu.length fa fc G B)) := fun hm hl => by
    have hz : crE q x = 0 := by unfold crE; rw [if_neg e0, if_neg (by rw [hx]; decide), if_neg hm, if_neg (by omega)]
    exact ⟨hz, crX_of h hr hG hB ok hi hst hz hx⟩
  have hnl : nu.length ≤ 10000 := by have := hr.le; omega
  clear h hr ok hi hst e0 hG hB hxl hx ln l1 fz
  generalize r.nm.length = m at *
  generalize hsx : sb x = sx at *
  go_enter Try.func43, Try.ntmps43
  go_wp2_with fail
  refine cD.mono ?_
  rintro e w' ⟨rfl, rfl⟩
  clear cD
  go_wp2_with fail
  refine cN.mono ?_
  rintro e w' ⟨rfl, rfl⟩
  clear cN
  go_wp2_with fail
  refine cF.mono ?_
  rintro e w' ⟨n, rfl, hn, rfl⟩
  clear cF
  rcases K1.out n hn with ⟨rfl, hm⟩ | ⟨hn0, K⟩
  · by_cases h64 : 64 ≤ m
    · have K := K2.out hm h64
      have X : Hid (RfO w' w' p (q.create x) G B) := SELF.out (by rw [K.out]; decide)
      have h64i : (64 : Int) ≤ (m : Int) := by omega
      clear K1 K2 K3 SELF hn hm
      go_wp2
      go_ret
      exact ⟨by rw [K.out]; rfl, X.out⟩
    · obtain ⟨K, CX⟩ := K3.out hm h64
      obtain ⟨ax, c4, W4, hrun, ⟨z, z1⟩, zf, zp, ST⟩ := CX.out
      have h64i : ¬ (64 : Int) ≤ (m : Int) := by omega
      rw [hsx] at ST
      clear K1 K2 K3 SELF hn hm CX
      go_wp2_with (first | (at_builtin; refine wpl_append rfl (.tmp 31) (.tmp 33) 64 rfl _ _ rfl rfl hrun ?_) | fail)
      have ST2 := ST.out
      clear ST
      refine ST2.mono ?_
      rintro e w2 ⟨rfl, O⟩
      clear ST2
      go_wp2
      go_ret
      exact ⟨by rw [K.out]; rfl, O.out⟩
  · have X : Hid (RfO w' w' p (q.create x) G B) := SELF.out (by rw [K.out]; decide)
    clear K1 K2 K3 SELF hn
    go_wp2
    go_ret
    exact ⟨by rw [K.out]; rfl, X.out⟩
end Go.Proofs.Ytkagnoinifffdaa

/- The reference's Clone. -/
namespace Go.Proofs.Ytkagnoinifffdaa
open Go.RowKit Go.Lib Go.Maps

variable {w w' W X : World} {p P : Nat} {q q' : Dq} {nu : List Int} {r : Rf} {L : List (Value × Nat)} {fv nv sv cv : Value} {F G B : Nat → Prop}
def dkO (q : Dq) (fv nv sv cv : Value) : Obj := .cells #[.int .i64 q.room, fv, nv, sv, cv, .int .i64 (q.st : Int), .int .i64 q.lf] 68 (0, 0)
/-- The new disk, its first files copied. -/
def Cl1 (w : World) (q : Dq) (L : List (Value × Nat)) (nv sv cv : Value) (i : Nat) (fa : Option Addr) (fc : Nat) (X : World) : Prop :=
  X.heap[w.heap.size]? = some (dkO q (.slice fa i fc) nv sv cv) ∧ X.ownsRow 0 78 2 (.slice fa i fc) i ((L.take i).flatMap flV) ∧ (∀ k, (Value.slice fa i fc).ownBlock = some k → w.heap.size < k) ∧ Gb w X
theorem cl1_next {fa : Option Addr} {fc i : Nat} (h : Cl1 w q L nv sv cv i fa fc X) (hi : i < L.length) (hl : L.length ≤ 10000) {b : Option Addr} {m c : Nat} (eb : L[i]!.1 = .slice b m c) :
    ∃ ax cc W4, (Builtin.append_ #[64, 64] 64 #[.slice fa i fc, .slice (some ⟨X.heap.size, 0, none⟩) 1 1]).run Try.prog (X.drew.alloc (.cells #[.slice b m c, .int .i64 (L[i]!.2 : Int)] 78)) = .ok (.slice ax (i + 1) cc) W4 ∧
      (∃ z, W4.cell? ⟨w.heap.size, 1, none⟩ = some z) ∧ W4.frozen? ⟨w.heap.size, 1, none⟩ = false ∧ w.heap.size < W4.heap.size ∧ Hid (Cl1 w q L nv sv cv (i + 1) ax cc (W4.setCell ⟨w.heap.size, 1, none⟩ (.slice ax (i + 1) cc))) := by
  obtain ⟨h1, h2, h3, h4⟩ := h
  have lt : (L.take i).length = i := by rw [List.length_take]; omega
  have h2' : X.drew.ownsRow 0 78 2 (.slice fa i fc) (L.take i).length ((L.take i).flatMap flV) := by rw [lt]; exact h2
  obtain ⟨ax, cc, W4, hr, ho, hg, hb⟩ := appF_run (b := b) (m := m) (c := c) (s := L[i]!.2) h2' (by omega)
  rw [lt] at hr hb ho
  have gA : Gb X (X.drew.alloc (.cells #[.slice b m c, .int .i64 (L[i]!.2 : Int)] 78)) := gb_alloc (Below.refl _ X).drew _
  have hP : w.heap.size < X.heap.size := (Array.getElem?_eq_some_iff.1 h1).1
  have nP : (Value.slice fa i fc).ownBlock ≠ some w.heap.size := fun e => by have := h3 _ e; omega
  have blk : W4.heap[w.heap.size]? = some (dkO q (.slice fa i fc) nv sv cv) := ((hg.block _ (Nat.lt_of_lt_of_le hP gA.size) fun e => nP e.symm).trans (gA.block _ hP)).trans h1
  have s4 : X.heap.size ≤ W4.heap.size := Nat.le_trans gA.size hg.size
  refine ⟨ax, cc, W4, hr, ⟨_, by unfold dkO at blk; simp [World.cell?, blk]; rfl⟩, by unfold dkO at blk; simp [World.frozen?, blk], by omega, ?_, ?_, fun k e => ?_, ?_⟩
  · unfold dkO at blk ⊢
    rw [heap_set0 blk]; rfl
  · have e1 : L.take i ++ [(Value.slice b m c, L[i]!.2)] = L.take (i + 1) := by
      have e0 : (Value.slice b m c, L[i]!.2) = L[i]! := Prod.ext eb.symm rfl
      exact (congrArg (fun y => L.take i ++ [y]) e0).trans (by rw [List.take_succ_eq_append_getElem hi, ← getElem!_pos L i hi])
    rw [e1] at ho
    have l1 : (L.take (i + 1)).length = i + 1 := by rw [List.length_take]; omega
    rw [l1] at ho
    refine row_same ho fun k e => Below.heap_setCell _ _ _ _ fun eq => ?_
    rcases hb k e with e' | e'
    · have := h3 k e'; have : k = w.heap.size := eq; omega
    · have : k = w.heap.size := eq
      have : X.heap.size ≤ k := e'
      omega
  · rcases hb k e with e' | e'
    · exact h3 k e'
    · have : X.heap.size ≤ k := e'
      omega
  · refine gb_set ?_ (Nat.le_refl _) _
    have gXA := gb_trans h4 gA
    exact ⟨hg.os.trans gXA.os, hg.tape.trans gXA.tape, hg.output.trans gXA.output, Nat.le_trans gXA.size hg.size, fun k hk => (hg.block k (Nat.lt_of_lt_of_le hk gXA.size) fun e => by have := h3 k e.symm; omega).trans (gXA.block k hk)⟩
/-- Its names are there; its first changes copied. -/
def Cl2 (w : World) (q : Dq) (r : Rf) (L : List (Value × Nat)) (fv nv sv : Value) (i : Nat) (ca : Option Addr) (cc : Nat) (X : World) : Prop :=
  X.heap[w.heap.size]? = some (dkO q fv nv sv (.slice ca i cc)) ∧ X.ownsRow 0 78 2 fv L.length (L.flatMap flV) ∧ (∀ k, fv.ownBlock = some k → w.heap.size < k) ∧ OwR X (w.heap.size + 1) nv (woR r.nm []) ∧ OwR X (w.heap.size + 1) sv (woR r.sf []) ∧
    X.ownsRow 0 81 4 (.slice ca i cc) i ((r.ch.take i).flatMap rcV) ∧ (∀ k, (Value.slice ca i cc).ownBlock = some k → w.heap.size < k) ∧ Gb w X
theorem cl2_next {ca : Option Addr} {cc i : Nat} (h : Cl2 w q r L fv nv sv i ca cc X) (hi : i < r.ch.length) (hl : r.ch.length ≤ 100000) :
    ∃ ax c4 W4, (Builtin.append_ #[66, 66] 66 #[.slice ca i cc, .slice (some ⟨X.heap.size, 0, none⟩) 1 1]).run Try.prog (ChW X.drew r.ch[i]!.1 (sb r.ch[i]!.2.1) (sb r.ch[i]!.2.2.1) (r.ch[i]!.2.2.2 : Int)) = .ok (.slice ax (i + 1) c4) W4 ∧
      (∃ z, W4.cell? ⟨w.heap.size, 4, none⟩ = some z) ∧ W4.frozen? ⟨w.heap.size, 4, none⟩ = false ∧ w.heap.size < W4.heap.size ∧ Hid (Cl2 w q r L fv nv sv (i + 1) ax c4 (W4.setCell ⟨w.heap.size, 4, none⟩ (.slice ax (i + 1) c4))) := by
  obtain ⟨h1, f1, f2, n1, s1, h2, h3, h4⟩ := h
  have lt : (r.ch.take i).length = i := by rw [List.length_take]; omega
  have h2' : X.drew.ownsRow 0 81 4 (.slice ca i cc) (r.ch.take i).length ((r.ch.take i).flatMap rcV) := by rw [lt]; exact h2
  obtain ⟨ax, c4, W4, hr, ho, hg, hb⟩ := appC_run h2' r.ch[i]! (by omega)
  rw [lt] at hr hb ho
  have gA : Gb X (ChW X.drew r.ch[i]!.1 (sb r.ch[i]!.2.1) (sb r.ch[i]!.2.2.1) (r.ch[i]!.2.2.2 : Int)) := gb_alloc (Below.refl _ X).drew _
  have hP : w.heap.size < X.heap.size := (Array.getElem?_eq_some_iff.1 h1).1
  have nP : (Value.slice ca i cc).ownBlock ≠ some w.heap.size := fun e => by have := h3 _ e; omega
  have keep : ∀ k, k < X.heap.size → (Value.slice ca i cc).ownBlock ≠ some k → W4.heap[k]? = X.heap[k]? := fun k hk hne => (hg.block k (Nat.lt_of_lt_of_le hk gA.size) fun e => hne e.symm).trans (gA.block k hk)
  have blk := (keep _ hP nP).trans h1
  have s4 : X.heap.size ≤ W4.heap.size := Nat.le_trans gA.size hg.size
  have old : ∀ {base m n : Nat} {e : TypeId} {v : Value} {xs : List Value}, X.ownsRow base e m v n xs → e ≠ 81 → (∀ k, v.ownBlock = some k → w.heap.size < k) → (W4.setCell ⟨w.heap.size, 4, none⟩ (.slice ax (i + 1) c4)).ownsRow base e m v n xs := fun {base m n e v xs} ho hne hk =>
    row_same ho fun j ej => (Below.heap_setCell _ _ _ _ fun eq => by have := hk j ej; have : j = w.heap.size := eq; omega).trans (keep j (World.ownsRow.lt ho j ej).2 fun e2 => by
      obtain ⟨a1, b1⟩ := row_cells ho ej
      obtain ⟨a2, b2⟩ := row_cells h2 e2
      exact hne (type_cells b1 b2))
  refine ⟨ax, c4, W4, hr, ⟨_, by unfold dkO at blk; simp [World.cell?, blk]; rfl⟩, by unfold dkO at blk; simp [World.frozen?, blk], by omega, ?_, old f1 (by decide) f2, f2, old n1 (by decide) fun k e => (World.ownsRow.lt n1 k e).1, old s1 (by decide) fun k e => (World.ownsRow.lt s1 k e).1, ?_, fun k e => ?_, ?_⟩
  · unfold dkO at blk ⊢
    rw [heap_set0 blk]; rfl
  · have e1 : r.ch.take i ++ [r.ch[i]!] = r.ch.take (i + 1) := by rw [List.take_succ_eq_append_getElem hi, ← getElem!_pos r.ch i hi]
    rw [e1] at ho
    have l1 : (r.ch.take (i + 1)).length = i + 1 := by rw [List.length_take]; omega
    rw [l1] at ho
    refine row_same ho fun k e => Below.heap_setCell _ _ _ _ fun eq => ?_
    rcases hb k e with e' | e'
    · have := h3 k e'; have : k = w.heap.size := eq; omega
    · have : k = w.heap.size := eq
      have : X.heap.size ≤ k := e'
      omega
  · rcases hb k e with e' | e'
    · exact h3 k e'
    · have : X.heap.size ≤ k := e'
      omega
  · refine gb_set ?_ (Nat.le_refl _) _
    have gXA := gb_trans h4 gA
    exact ⟨hg.os.trans gXA.os, hg.tape.trans gXA.tape, hg.output.trans gXA.output, Nat.le_trans gXA.size hg.size, fun k hk => (hg.block k (Nat.lt_of_lt_of_le hk gXA.size) fun e => by have := h3 k e.symm; omega).trans (gXA.block k hk)⟩
/-- What Clone leaves. -/
def RfC (w w' : World) (p' : Nat) (q : Dq) (B : Nat → Prop) : Prop := ∃ G' B', RfD w' p' q G' B' ∧ (∀ j, G' j → w.heap.size ≤ j) ∧ (∀ j, j < w.heap.size → B' j → B j) ∧ Gb w w'
theorem cl_end {ca : Option Addr} {cc : Nat} {fv' nv' sv' : Value} (h : Cl2 w q r L fv' nv' sv' r.ch.length ca cc X) (h0 : RfM w p q nu r L fv nv sv cv G B) (hr : RelQ nu q r) (ok : q.Ok) (hB : ∀ j, B j → j < w.heap.size) : RfC w X w.heap.size q B := by
  obtain ⟨h1, f1, f2, n1, s1, h2, h3, h4⟩ := h
  have e1 : woR r.nm [] = r.nm := woR_self fun hm => ok.noneN ((hr.nm.ks _).1 hm)
  have e2 : woR r.sf [] = r.sf := woR_self fun hm => ok.noneS 0 (Nat.zero_le _) ((hr.sf.ks _).1 hm)
  rw [e1] at n1
  rw [e2] at s1
  rw [List.take_length] at h2
  have hP : w.heap.size < X.heap.size := (Array.getElem?_eq_some_iff.1 h1).1
  have nt : ∀ {b1 b2 m1 m2 n1 n2 : Nat} {e1 e2 : TypeId} {v1 v2 : Value} {x1 x2 : List Value}, X.ownsRow b1 e1 m1 v1 n1 x1 → X.ownsRow b2 e2 m2 v2 n2 x2 → e1 ≠ e2 → ∀ k, v1.ownBlock = some k → v2.ownBlock ≠ some k := fun {b1 b2 m1 m2 n1 n2 e1 e2 v1 v2 x1 x2} ha hb hne k ka kb => by
    obtain ⟨a1, c1⟩ := row_cells ha ka
    obtain ⟨a2, c2⟩ := row_cells hb kb
    exact hne (type_cells c1 c2)
  refine ⟨fun k => k = w.heap.size ∨ fv'.ownBlock = some k ∨ (Value.slice ca r.ch.length cc).ownBlock = some k, fun k => B k ∨ nv'.ownBlock = some k ∨ sv'.ownBlock = some k, ⟨nu, r, L, fv', nv', sv', _, ⟨?_, f1, h0.len, fun k hk => ?_, n1.mono (Nat.zero_le _), fun j e => .inr (.inl e), s1.mono (Nat.zero_le _), fun j e => .inr (.inr e), h2, ⟨.inl rfl, fun j e => .inr (.inl e), fun j e => .inr (.inr e)⟩, ?_⟩, hr, ?_, ?_⟩, ?_, ?_, h4⟩
  · unfold dkO at h1; exact h1
  · obtain ⟨b1, b2, b3⟩ := h0.byt k hk
    exact ⟨b1.gb h4, b2, fun j e => .inl (b3 j e)⟩
  · rintro j (rfl | e | e) (b | b | b)
    · have := hB _ b; omega
    · have := (World.ownsRow.lt n1 _ b).1; omega
    · have := (World.ownsRow.lt s1 _ b).1; omega
    · have := hB _ b; have := f2 _ e; omega
    · exact nt f1 n1 (by decide) j e b
    · exact nt f1 s1 (by decide) j e b
    · have := hB _ b; have := h3 _ e; omega
    · exact nt h2 n1 (by decide) j e b
    · exact nt h2 s1 (by decide) j e b
  · rintro j (rfl | e | e)
    · exact hP
    · exact (World.ownsRow.lt f1 j e).2
    · exact (World.ownsRow.lt h2 j e).2
  · rintro j (b | e | e)
    · have := hB j b; omega
    · exact (World.ownsRow.lt n1 j e).2
    · exact (World.ownsRow.lt s1 j e).2
  · rintro j (rfl | e | e)
    · exact Nat.le_refl _
    · exact Nat.le_of_lt (f2 j e)
    · exact Nat.le_of_lt (h3 j e)
  · rintro j hj (b | e | e)
    · exact b
    · have := (World.ownsRow.lt n1 j e).1; omega
    · have := (World.ownsRow.lt s1 j e).1; omega
end Go.Proofs.Ytkagnoinifffdaa
