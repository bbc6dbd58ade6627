import Derived.Test.YtkagnoinifffdaaRx21
import Derived.Test.YtkagnoinifffdaaRxDkS1
import Derived.Test.YtkagnoinifffdaaRx14
import Derived.Test.YtkagnoinifffdaaRxDkRq
/- DiskSafe, plainly: a file whose name is safe, that is appended to and synced, and what is there behind one crash and another. -/
namespace Go.Proofs.Ytkagnoinifffdaa
open Go.RowKit Go.Lib Go.Maps

/-- The disk runs, its names are safe, and x is one of them; all is the file's bytes, of which the first s are safe. -/
structure SfI (q : Dq) (x : By) (all : By) (s : Nat) : Prop where
  lf : q.lf = -1
  ch : q.ch = []
  sf : q.sf = q.nm
  key : x ∈ kys q.nm
  fb : q.fb (num q.nm x) = all
  fs : q.fs (num q.nm x) = s
  inj : q.Inj
theorem SfI.fi {q : Dq} {x all : By} {s : Nat} (h : SfI q x all s) : fiE q x = 0 := by
  unfold fiE
  rw [if_neg (by rw [h.lf]; decide), if_pos h.key]
theorem SfI.append {q : Dq} {x all : By} {s : Nat} (h : SfI q x all s) (l : By) : SfI (q.append x l) x (if apE q x l.length = 0 then all ++ l else all) s := by
  have hi := h.inj.append x l
  unfold Dq.append at hi ⊢
  split
  · rename_i e
    rw [if_pos e] at hi
    refine ⟨done_lf h.lf, h.ch, h.sf, h.key, ?_, ?_, hi⟩
    · show upd q.fb (num q.nm x) (q.fb (num q.nm x) ++ l) (num q.nm x) = _
      rw [upd_same, h.fb]
    · show upd q.fs (num q.nm x) (q.fs (num q.nm x)) (num q.nm x) = s
      rw [upd_same, h.fs]
  · exact h
theorem SfI.sync {q : Dq} {x all : By} {s : Nat} (h : SfI q x all s) : SfI (q.sync x) x all all.length := by
  have hi := h.inj.sync x
  unfold Dq.sync at hi ⊢
  rw [if_pos h.fi] at hi ⊢
  refine ⟨done_lf h.lf, h.ch, h.sf, h.key, ?_, ?_, hi⟩
  · show upd q.fb (num q.nm x) (q.fb (num q.nm x)) (num q.nm x) = all
    rw [upd_same, h.fb]
  · show upd q.fs (num q.nm x) (q.fb (num q.nm x)).length (num q.nm x) = _
    rw [upd_same, h.fb]
theorem srtB_mem {l : List By} {x : By} : x ∈ srtB l ↔ x ∈ l := (srtB_perm l).mem_iff
/-- Behind a crash: the same names; of the file what a choice leaves; all files are safe whole. -/
theorem SfI.crash {q : Dq} {x all : By} {s : Nat} (h : SfI q x all s) (cs : List Int) : ∃ c, SfI (q.crash cs) x (crB all s c) (crN all s c) ∧ (q.crash cs).nm = q.nm := by
  have eO : crO q cs = q.nm := by
    unfold crO sur
    rw [h.ch, h.sf]
    simp [apT]
  have hx : x ∈ srtB (kys (crO q cs)) := srtB_mem.2 (by rw [eO]; exact h.key)
  obtain ⟨j, hj, ej⟩ := List.getElem_of_mem hx
  have hnow : NmI (crO q cs) (q.st : Int) := by rw [eO]; exact h.inj.now
  obtain ⟨a, b⟩ := (crT_at (nm := crO q cs) hnow.ns (L := srtB (kys (crO q cs))) (fun y hy => srtB_mem.1 hy) ((srtB_perm _).nodup_iff.2 hnow.ks) hj cs q.fb q.fs _ (Nat.le_refl _)).2 hj
  have ex : (srtB (kys (crO q cs)))[j]! = x := by rw [getElem!_pos _ j hj]; exact ej
  rw [ex] at a b
  have e1 : q.fb (num (crO q cs) x) = all := by rw [eO]; exact h.fb
  have e2 : q.fs (num (crO q cs) x) = s := by rw [eO]; exact h.fs
  rw [e1, e2] at a b
  refine ⟨chc cs (j + 1), ⟨rfl, rfl, rfl, ?_, a, b, h.inj.crash cs⟩, eO⟩
  show x ∈ kys (crO q cs)
  rw [eO]; exact h.key
/-- A second crash changes neither the file nor the names. -/
theorem SfI.again {q : Dq} {x all : By} (h : SfI q x all all.length) (cs : List Int) : SfI (q.crash cs) x all all.length ∧ (q.crash cs).nm = q.nm := by
  obtain ⟨c, h1, h2⟩ := h.crash cs
  rw [crB_all] at h1
  have e : crN all all.length c = all.length := by unfold crN; rw [Nat.sub_self, shr_zero]; rfl
  rw [e] at h1
  exact ⟨h1, h2⟩
theorem SfI.crash_len {all : By} {s : Nat} (c : Int) (hs : s ≤ all.length) : crN all s c = (crB all s c).length := (crB_len c hs).symm
/-- Behind a crash and a SyncDir, a file that syncs. -/
theorem SfI.start {q : Dq} {x : By} (h : q.Inj) (hl : q.lf = -1) (hE : fiE q.syncDir x = 0) : SfI (q.syncDir.sync x) x (q.syncDir.fb (num q.syncDir.nm x)) (q.syncDir.fb (num q.syncDir.nm x)).length := by
  obtain ⟨z1, z2, _⟩ := fiE_zero hE
  have e : q.syncDir = q.settle.done := by unfold Dq.syncDir; rw [if_neg (by rw [hl]; decide)]
  have h0 : SfI q.syncDir x (q.syncDir.fb (num q.syncDir.nm x)) (q.syncDir.fs (num q.syncDir.nm x)) := by
    refine ⟨by rw [e]; exact done_lf (q := q.settle) hl, by rw [e]; rfl, by rw [e]; rfl, z2, rfl, rfl, h.syncDir⟩
  exact h0.sync
end Go.Proofs.Ytkagnoinifffdaa

/- Create at a name of any length: a longer one is no name. -/
namespace Go.Proofs.Ytkagnoinifffdaa
open Go.RowKit Go.Lib Go.Maps

variable {w : World} {b : Nat} {q : Dq} {F : Nat → Prop}
theorem isName_long (s : ByteArray) (h2 : 32 < s.size) (hs : s.size ≤ 9223372036854775807) (w : World) : Calls Try.prog 57 #[.string s] w fun e w' => e = .returned (.bool false) ∧ w = w' := by
  have h2i : (32 : Int) < (s.size : Int) := by omega
  have h1i : ¬ (s.size : Int) < 1 := by omega
  clear h2
  go_enter Try.func57, Try.ntmps57
  go_wp2
  go_ret
  exact ⟨rfl, rfl⟩
set_option maxHeartbeats 2000000 in
set_option maxRecDepth 100000 in
theorem create_any (h : DkAt w b q F) (ok : q.Ok) (hst : q.st < 100000) {x : By} (hx : KWfS x) :
    Calls Try.prog 18 #[.pointer (some ⟨b, 0, none⟩), .string (sb x)] w fun e w' => e = .returned (.int .i64 (crE q x)) ∧ DkOut w w' b (q.create x) F := by
  by_cases hs : x.length ≤ 65536
  · exact create_c h ok hst hs
  have e2 : nmOk x = false := by unfold nmOk; rw [decide_eq_false (show ¬ x.length ≤ 32 by omega), Bool.and_false]; rfl
  have hr := refusal_c h ok
  have hS : Hid (DkOut w w b q F) := DkOut.self h
  have hn := isName_long (sb x) (by rw [sb_size]; omega) (by rw [sb_size]; unfold KWfS maxLen at hx; omega) w
  by_cases e1 : q.lf = 0
  · have E : rfE q = 174 := by unfold rfE; rw [if_pos e1]
    have E1 : crE q x = 174 := by unfold crE; rw [if_pos e1]
    have E2 : Hid (q.create x = q) := by unfold Hid Dq.create; rw [if_neg (by rw [E1]; decide)]
    rw [E] at hr
    rw [E1]
    generalize sb x = s at *
    generalize q.create x = q2 at *
    clear h ok E e1 E1 hn hs hx hst e2
    go_enter Try.func18, Try.ntmps18
    go_wp2_with fail
    refine hr.mono ?_
    rintro e w' ⟨rfl, rfl⟩
    go_wp2
    go_ret
    exact ⟨rfl, by rw [E2.out]; exact hS.out⟩
  have E : rfE q = 0 := by unfold rfE; rw [if_neg e1]
  rw [E] at hr
  have E1 : crE q x = 170 := by unfold crE; rw [if_neg e1, if_pos e2]
  have E2 : Hid (q.create x = q) := by unfold Hid Dq.create; rw [if_neg (by rw [E1]; decide)]
  rw [E1]
  generalize sb x = s at *
  generalize q.create x = q2 at *
  clear h ok E e1 E1 e2 hs hx hst
  go_enter Try.func18, Try.ntmps18
  go_wp2_with fail
  refine hr.mono ?_
  rintro e w' ⟨rfl, rfl⟩
  go_wp2_with fail
  refine hn.mono ?_
  rintro e w' ⟨rfl, rfl⟩
  go_wp2
  go_ret
  exact ⟨rfl, by rw [E2.out]; exact hS.out⟩
/-- A name that cannot be made is none that syncs. -/
theorem fiE_ne {q : Dq} (ok : q.Ok) {x : By} (h : nmOk x = false) : fiE q x ≠ 0 := by
  intro e
  have := ok.key (fiE_zero e).2.1
  rw [h] at this; cases this
end Go.Proofs.Ytkagnoinifffdaa

/- A list of lists of bytes that came in. -/
namespace Go.Proofs.Ytkagnoinifffdaa
open Go.ChangeShapes Go.WideShapes Go.ChangeAt Go.RowKit Go.Joins Go.Deep

def RdBs (w : World) (v : Value) (ls : List By) : Prop := ∃ a cap, v = .slice a ls.length cap ∧ ∀ i, i < ls.length → ∃ g o vb, a = some ⟨g, o, none⟩ ∧ w.cell? ⟨g, o + i, none⟩ = some vb ∧ RdY w vb ls[i]!
theorem RdBs.gb {w w' : World} {v : Value} {ls : List By} (h : RdBs w v ls) (g : Gb w w') : RdBs w' v ls := by
  obtain ⟨a, cap, e, h⟩ := h
  refine ⟨a, cap, e, fun i hi => ?_⟩
  obtain ⟨b, o, vb, e, c0, h1⟩ := h i hi
  exact ⟨b, o, vb, e, gb_keeps g c0, h1.gb g⟩
set_option maxRecDepth 100000 in
theorem open_lists {H : Type} {enc : TypeId × Value → H} {W : World} {b0 : Nat} {r : Reach} {v : Value} {d : DataW H} {p : List MemPlace}
    (hv' : Value.okWide Try.prog W r b0 41 v) (h : DataW.Trod enc Try.prog W 0 (fun _ => true) true 41 v d p) : ∃ ls : List By, RdBs W v ls := by
  obtain ⟨a0, len, cap, rfl⟩ := okWide_slice Try.underlying41 hv'
  obtain ⟨fuel, hf⟩ := h
  rcases open_slice Try.underlying41 (by simpa [Value.cells] using hf) with ⟨e, _⟩ | ⟨a, len, cap, m, n, D, Pl, e, _, hlc, hcm, hm, _, hx⟩
  · cases e
    exact ⟨[], ⟨none, 0, rfl, fun i hi => absurd hi (Nat.not_lt_zero _)⟩⟩
  · cases e
    rw [if_pos rfl] at hm
    subst hm
    have hy : ∀ i, i < len → ∃ y : By, ∃ vb, W.cell? (a.add i) = some vb ∧ RdY W vb y := by
      intro i hi
      obtain ⟨cs, hc, ht⟩ := hx i (by omega)
      obtain ⟨vb, bl, e3, hb⟩ := trodB ht
      subst e3
      rw [Try.cellsBs] at hc
      obtain ⟨_, _, hcc⟩ := World.cells?_some hc
      have q0 := hcc 0 (by omega)
      exact ⟨bl, vb, by simpa [Addr.add, Try.cellsBs] using q0, hb⟩
    obtain ⟨Y, hY⟩ := choose_lt (α := By) (p := fun i y => ∃ vb, W.cell? (a.add i) = some vb ∧ RdY W vb y) hy
    have hg : ∀ i, i < len → ((List.range len).map Y)[i]! = Y i := by
      intro i hi
      rw [getElem!_pos _ i (by simpa using hi)]; simp
    refine ⟨(List.range len).map Y, ⟨some a, m, by simp, fun i hi => ?_⟩⟩
    have hi' : i < len := by simpa using hi
    obtain ⟨_, q0, _⟩ := hY 0 (by omega)
    have ha : a = ⟨a.block, a.off, none⟩ := spot_none (by simpa [Addr.add] using q0)
    obtain ⟨vb, c0, h1⟩ := hY i hi'
    rw [hg i hi']
    rw [ha, Addr.add_lit] at c0
    exact ⟨a.block, a.off, vb, by rw [← ha], c0, h1⟩
end Go.Proofs.Ytkagnoinifffdaa

/- The reference's Crash: a file's copy, and noughts in it. -/
namespace Go.Proofs.Ytkagnoinifffdaa
open Go.RowKit Go.Lib Go.Maps

variable {w w' W : World}
theorem ownb_up {v : Value} {l : By} {B0 : Nat} (h : OwnB w 0 v l) (hv : ∀ k, v.ownBlock = some k → B0 ≤ k) : OwnB w B0 v l := by
  refine ⟨h.1, ?_⟩
  rcases h.2 with h | ⟨g, cap, cur, e, h1, r⟩
  · exact .inl h
  · exact .inr ⟨g, cap, cur, e, hv g (by rw [e]; rfl), r⟩
/-- A copy of the first bytes. -/
theorem first_run {X : World} (g0 : Gb w X) {b : Option Addr} {y c m : Nat} {l : By} (hl : l.length = y) (ho : OwnB w 0 (.slice b y c) l) (hm : m ≤ y) (hy : y ≤ 4194304) {u : Value} (hu : u = .slice b m c ∨ b = none ∧ m = 0 ∧ u = .slice none 0 0) :
    ∃ a1 c1 W1, (Builtin.append_ #[33, 33] 33 #[.slice none 0 0, u]).run Try.prog X = .ok (.slice a1 m c1) W1 ∧ OwnB W1 w.heap.size (.slice a1 m c1) (l.take m) ∧ Gb w W1 := by
  have ag : AgB X u (l.take m) := by
    have o1 := (ho.gb g0).agb
    obtain ⟨a', cap', e, h⟩ := o1
    obtain ⟨e1, e2, e3⟩ := Value.slice.inj e
    subst e1
    subst e3
    rcases hu with rfl | ⟨hb, hm0, rfl⟩
    · refine ⟨_, _, by rw [List.length_take, hl, Nat.min_eq_left hm], ?_⟩
      rcases h with ⟨h1, h2, h3⟩ | ⟨ad, h1, h2⟩
      · exact .inl ⟨h1, h2, by rw [h3]; exact List.take_nil⟩
      · refine .inr ⟨ad, h1, fun j v hj => h2 j v ?_⟩
        rw [List.map_take, List.getElem?_take] at hj
        split at hj
        · exact hj
        · cases hj
    · subst hm0
      exact ⟨none, 0, rfl, .inl ⟨rfl, rfl, rfl⟩⟩
  obtain ⟨a1, c1, W1, hr, ho1, hg, hb⟩ := app_run (ownb_nil X 0) ag (by rw [List.length_nil, List.length_take, hl]; omega)
  have e0 : ([] : By).length + (l.take m).length = m := by rw [List.length_nil, List.length_take, hl]; omega
  rw [e0] at hr ho1 hb
  rw [List.nil_append] at ho1
  have nb : ∀ k, (Value.slice a1 m c1).ownBlock = some k → w.heap.size ≤ k := fun k e => (hb k e).elim (fun e => by simp [Value.ownBlock] at e) fun h => Nat.le_trans g0.size h
  exact ⟨a1, c1, W1, hr, ownb_up ho1 nb, gb_of_grown (ownb_nil X w.heap.size) g0 (Nat.le_refl _) hg⟩
theorem own_zero {a : Option Addr} {m c s k : Nat} {l : By} {B0 : Nat} (h : OwnB W B0 (.slice a m c) (zr l s k)) (hs : s ≤ k) (hk : k < l.length) (hm : l.length = m) : ∃ g, a = some ⟨g, 0, none⟩ ∧ (∃ z, W.cell? ⟨g, k, none⟩ = some z) ∧ W.frozen? ⟨g, k, none⟩ = false ∧ g < W.heap.size ∧ B0 ≤ g ∧ OwnB (W.setCell ⟨g, k, none⟩ (.int .u8 0)) B0 (.slice a m c) (zr l s (k + 1)) := by
  have hz := zr_len hs (Nat.le_of_lt hk)
  rcases id h.2 with ⟨e, e0⟩ | ⟨g, cap, cur, e, hb, hg, _⟩
  · omega
  · obtain ⟨e1, e2, e3⟩ := Value.slice.inj e
    subst e1
    have h' := h
    unfold OwnB at h'
    rw [hz, hm] at h'
    have hk' : k < (zr l s k).length := by omega
    have hbv : ((zr l s k).map bv)[k]? = some (.int .u8 ((zr l s k)[k]!.toNat : Int)) := by rw [List.getElem?_map, List.getElem?_eq_getElem hk', getElem!_pos _ k hk']; rfl
    have hc := World.ownsRow.cells h' (g := g) rfl k (.int .u8 ((zr l s k)[k]!.toNat : Int)) hbv
    rw [Addr.add_lit, Nat.zero_add] at hc
    refine ⟨g, rfl, ⟨_, hc⟩, World.ownsRow.frozenAt h' k, cell_lt hc, hb, ?_⟩
    have st := (World.ownsRow.stored h' k (.int .u8 0)).1
    unfold OwnB
    rw [zr_len (by omega) (by omega), hm, ← zr_next hs hk, List.map_set]
    exact st
end Go.Proofs.Ytkagnoinifffdaa
