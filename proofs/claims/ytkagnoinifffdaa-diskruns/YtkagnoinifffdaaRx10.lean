import Derived.Test.YtkagnoinifffdaaRxDkH
import Derived.Deep.LoopGhost
import Derived.Shelf.SlicesE.Clone
import Derived.Shelf.SlMaps.Clone
import Derived.Shelf.Lay
import Derived.Ground.SlgnProg
import Derived.Ground.SlmcProg
import Derived.Laws.AppendOwnNone
import Derived.Lib.AppendZeros
/- Used. -/
namespace Go.Proofs.Ytkagnoinifffdaa
open Go.RowKit Go.Lib Go.Maps

variable {w w' : World} {b : Nat} {q q' : Dq} {F G : Nat → Prop} {ks : List Int} {fm nb sn : Nat} {cv : Value} {fv : Int → Value}
theorem zeroFile (w : World) : (zeroValue 71).run Try.prog w = .ok (.agg #[.slice none 0 0, .int .i64 0]) w := by kernel_rfl
theorem fld_bytes (a b : Value) (w : World) : (Instr.field 71 (.agg #[a, b]) 0).run Try.prog w = .ok a w := by
  simp [Instr.field, run_underlying Try.underlying71, asAgg, part]
theorem RngS.sub {P : Program} {kt : TypeId} {w : World} {b r : Nat} {ks lf : List By} {f : By → Value} (h : RngS P kt w b r ks lf f) : ∀ x ∈ lf, x ∈ ks := by
  obtain ⟨D, left, cnt, h1, h2, h3, h4, h5⟩ := h
  exact h4
theorem RngA.sub {P : Program} {kt : TypeId} {w : World} {b r : Nat} {ks lf : List Int} {f : Int → Value} (h : RngA P kt w b r ks lf f) : ∀ x ∈ lf, x ∈ ks := by
  obtain ⟨D, left, cnt, h1, h2, h3, h4, h5⟩ := h
  exact h4
theorem MapA.kwf {P : Program} {kt : TypeId} {w : World} {b : Nat} {ks : List Int} {f : Int → Value} (h : MapA P kt w b ks f) : ∀ x ∈ ks, KWf x := by
  obtain ⟨D, _, _, h, _⟩ := h; exact h
theorem MapA.nodup {P : Program} {kt : TypeId} {w : World} {b : Nat} {ks : List Int} {f : Int → Value} (h : MapA P kt w b ks f) : ks.Nodup := by
  obtain ⟨D, _, h, _⟩ := h; exact h
/-- A file, looked up. -/
theorem DkM.file (h : DkM w b q F ks fm nb sn cv fv) {n : Int} (hn : n ∈ ks) : (Instr.lookup 59 (.map (some fm)) (.int .i64 n) false).run Try.prog w = .ok (.agg #[fv n, .int .i64 (q.fs n : Int)]) w := by
  have := MapA.look h.fls Try.underlying3 (t := 59) Try.underlying59 (zeroFile w) (h.fls.kwf n hn)
  rw [this, if_pos hn]; rfl
theorem DkM.numK (h : DkM w b q F ks fm nb sn cv fv) {x : By} (hx : x ∈ kys q.nm) : num q.nm x ∈ ks := h.nmK _ (mem_num hx)
/-- How many bytes the files of these names have. -/
def usd (q : Dq) (l : List By) : Nat := (l.map fun x => (q.fb (num q.nm x)).length).sum
theorem usd_erase (q : Dq) {l : List By} {x : By} (h : x ∈ l) : usd q l = (q.fb (num q.nm x)).length + usd q (l.erase x) := by
  unfold usd
  have := ((List.perm_cons_erase h).map fun x => (q.fb (num q.nm x)).length).sum_nat
  rw [this]; simp
theorem usd_le (ok : q.Ok) (l : List By) : usd q l ≤ l.length * 4194304 := by
  induction l with
  | nil => simp [usd]
  | cons x r ih =>
    have h1 := ok.fb (num q.nm x)
    have : usd q (x :: r) = (q.fb (num q.nm x)).length + usd q r := by simp [usd]
    rw [this, List.length_cons, Nat.add_mul]; omega
def usI (q : Dq) (w : World) (nb : Nat) (g : Nat) (ov : Value) (W : World) : Prop :=
  ∃ (lf : List By) (u : Nat), g = lf.length ∧ RngS Try.prog 9 W nb w.heap.size (kys q.nm) lf (fun x => .int .i64 (num q.nm x)) ∧ ov = .int .i64 (u : Int) ∧ u + usd q lf = usd q (kys q.nm) ∧ Gb w W
def usdO (q : Dq) : Nat := if q.lf = 0 then 0 else usd q (kys q.nm)
set_option maxHeartbeats 2000000 in
set_option maxRecDepth 100000 in
theorem used_c (h : DkAt w b q F) (ok : q.Ok) (hst : q.st < 100000) : Calls Try.prog 29 #[.pointer (some ⟨b, 0, none⟩)] w fun e w' => e = .returned (.int .i64 (usdO q : Int)) ∧ Gb w w' := by
  have hr := refusal_c h ok
  by_cases e1 : q.lf = 0
  · have E : rfE q = 174 := by unfold rfE; rw [if_pos e1]
    have E1 : usdO q = 0 := by unfold usdO; rw [if_pos e1]
    rw [E] at hr
    rw [E1]
    clear h ok E e1 E1
    go_enter Try.func29, Try.ntmps29
    go_wp2_with fail
    refine hr.mono ?_
    rintro e w' ⟨rfl, rfl⟩
    go_wp2
    go_ret
    exact ⟨rfl, Below.refl _ _⟩
  have E : rfE q = 0 := by unfold rfE; rw [if_neg e1]
  have E1 : usdO q = usd q (kys q.nm) := by unfold usdO; rw [if_neg e1]
  rw [E] at hr
  rw [E1]
  obtain ⟨ks, fm, nb, sn, cv, fv, h1, h2, h3, h4⟩ := h
  obtain ⟨⟨_, c1, c2, _, _, _, _⟩, _⟩ := h1.cells
  obtain ⟨w2, hrg, hR, hgr, hsz⟩ := MapS.range h1.nms Try.underlying9 (t := 60) Try.underlying60
  have g2 : Gb w w2 := below_grown' (Below.refl _ _) hgr (fun k e => by cases e)
  have x2 := gb_keeps g2 c2
  have hub : usd q (kys q.nm) ≤ 419430400000 := by
    have h1 := usd_le ok (kys q.nm)
    have h2 := ok.nmL
    rw [kys_length] at h1
    omega
  have ST : Hid (usI q w nb (kys q.nm).length (.int .i64 0) w2) := ⟨_, 0, rfl, hR, rfl, by omega, g2⟩
  have H : Hid (DkM w b q F ks fm nb sn cv fv ∧ usd q (kys q.nm) ≤ 419430400000) := ⟨h1, hub⟩
  have hb : b < w.heap.size := h1.lt
  clear h1 h2 h3 h4 ok E e1 E1 hR hgr g2 hub hst
  go_enter Try.func29, Try.ntmps29
  go_wp2_with fail
  refine hr.mono ?_
  rintro e w' ⟨rfl, rfl⟩
  go_wp2
  clear hrg
  go_loopg [3] (kys q.nm).length (fun g ov wx => Hid (usI q w nb g ov wx))
  case atStart => exact ST
  case round =>
    clear ST
    obtain ⟨lf, u, hgk, hrr, hov, hu, gb⟩ := hrel.out
    clear hrel
    rcases hrr.next Try.underlying9 0 with ⟨rfl, hnx⟩ | ⟨x, w', hx, hnx, hr', hgr, hsz', hen⟩
    · have hu : u = usd q (kys q.nm) := by rw [← hu]; simp [usd]
      have U : Hid (u = usd q (kys q.nm) ∧ Gb w wr) := ⟨hu, gb⟩
      subst hov
      clear hrr hgk hu gb H
      go_wp2
      go_ret
      exact ⟨by rw [U.out.1]; rfl, U.out.2⟩
    · have g' : Gb w w' := below_grown' gb hgr (fun k e => by cases e; exact Nat.le_refl _)
      have hD := H.out.1.kp (w' := w') (G := F) (fun k hk _ => g'.block k hk) (fun _ f _ => f)
      have hl := hD.file (hD.numK (hrr.sub x hx))
      have hc1 := hD.cells.1.2.1
      obtain ⟨fa, fc, ef⟩ := row_fm (hD.own _ (hD.numK (hrr.sub x hx)))
      have fl := fun w => fld_bytes (fv (num q.nm x)) (.int .i64 (q.fs (num q.nm x) : Int)) w
      rw [ef] at hl fl
      have hle : (lf.erase x).length < gk := by
        rw [hgk, List.length_erase_of_mem hx]
        have := List.length_pos_of_mem hx
        omega
      have hs := usd_erase q hx
      have R : Hid (usI q w nb (lf.erase x).length (.int .i64 ((u + (q.fb (num q.nm x)).length : Nat) : Int)) w') := ⟨_, _, rfl, hr', rfl, by omega, g'⟩
      have hub := H.out.2
      have hadd : ((u + (q.fb (num q.nm x)).length : Nat) : Int) = (u : Int) + ((q.fb (num q.nm x)).length : Int) := by omega
      rw [hadd] at R
      have hbd : (u : Int) + ((q.fb (num q.nm x)).length : Int) ≤ 419430400000 := by omega
      have hbw : b < w'.heap.size := hD.lt
      subst hov
      generalize (q.fb (num q.nm x)).length = m at *
      generalize num q.nm x = n at *
      generalize q.fs n = fsn at *
      generalize (lf.erase x).length = gl at *
      clear hrr hr' hgk hu gb H hD g' hs hub hadd hx hgr ef
      go_wp2
      go_roundg gl
      case measure => exact hle
      case rel => exact R.out
end Go.Proofs.Ytkagnoinifffdaa

/- slices.Clone at bytes and at changes, maps.Clone at names (the shelf's contracts, laid at this program); Read. -/
namespace Go.Proofs.Ytkagnoinifffdaa
open Go.Shelf Go.RowKit Go.Lib Go.Maps
shelf_lay_g SlLaysE0.n41 Slgn 41 at Try 39 as Try.layCB
shelf_lay_g SlLaysE0.n41 Slgn 41 at Try 41 as Try.layCC
shelf_lay_g SlLaysW.n5 Slmc 5 at Try 40 as Try.layCM

variable {w w' : World} {b : Nat} {q q' : Dq} {F G : Nat → Prop} {ks : List Int} {fm nb sn : Nat} {cv : Value} {fv : Int → Value}
/-- Bytes that can be cloned. -/
def CpB (w : World) (v : Value) (l : By) : Prop := ∃ a cap, v = .slice a l.length cap ∧ (a = none ∧ l = [] ∨ ∃ g o, a = some ⟨g, o, none⟩ ∧ ∀ j u, (l.map bv)[j]? = some u → w.cell? ⟨g, o + j, none⟩ = some u)
theorem OwnB.cp {base : Nat} {v : Value} {l : By} (h : OwnB w base v l) : CpB w v l := by
  rcases h.2 with ⟨rfl, h0⟩ | ⟨g, cap, cur, rfl, _⟩
  · exact ⟨none, 0, by rw [h0], .inl ⟨rfl, List.eq_nil_of_length_eq_zero h0⟩⟩
  · refine ⟨_, cap, rfl, .inr ⟨g, 0, rfl, fun j u hj => ?_⟩⟩
    have := World.ownsRow.cells h (g := g) rfl j u hj
    rw [Addr.add_lit] at this
    exact this
theorem OwnB.cpTake {base n c k : Nat} {a : Option Addr} {l : By} (h : OwnB w base (.slice a n c) l) (hk : k ≤ l.length) : CpB w (.slice a k c) (l.take k) := by
  have hl : (l.take k).length = k := by rw [List.length_take]; omega
  obtain ⟨a', c', e, h⟩ := h.cp
  injection e with e1 e2 e3
  subst e1
  refine ⟨a, c, by rw [hl], ?_⟩
  rcases h with ⟨h1, h2⟩ | ⟨g, o, h1, h2⟩
  · exact .inl ⟨h1, by rw [h2]; simp⟩
  · refine .inr ⟨g, o, h1, fun j u hj => h2 j u ?_⟩
    rw [List.map_take, List.getElem?_take] at hj
    split at hj
    · exact hj
    · cases hj
theorem bv_one (l : By) : ∀ u ∈ l.map bv, u.oneCell' = true := by
  intro u hu
  obtain ⟨x, _, rfl⟩ := List.mem_map.1 hu
  rfl
theorem cloneB_c {v : Value} {l : By} (h : CpB w v l) (hl : l.length ≤ 4194304) : Calls Try.prog 39 #[v] w fun e w' => ∃ v', e = .returned v' ∧ OwnB w' w.heap.size v' l ∧ Gb w w' := by
  obtain ⟨a, cap, rfl, h⟩ := h
  rcases h with ⟨rfl, rfl⟩ | ⟨g, o, rfl, h⟩
  · have hc := AnyE.slices_Clone_nil Try.layCB (([] : By).length) cap w
    change Calls Try.prog 39 _ _ _ at hc
    refine hc.mono ?_
    rintro e w' ⟨rfl, rfl⟩
    exact ⟨_, rfl, ownb_nil _ _, Below.refl _ _⟩
  · obtain ⟨i0, hi, hz0, hz1, hz2⟩ := info5
    have hc := AnyE.slices_Clone Try.layCB i0 (.int .u8 0) 1 1 hi hz0 hz1 hz2 rfl (by decide) Try.sizeOf5 g o l.length cap (l.map bv) w (by simp) (by simp only [maxLen]; omega) (by omega) h (bv_one l)
    change Calls Try.prog 39 _ _ _ at hc
    refine hc.mono ?_
    rintro e w' ⟨v', rfl, ho, _, hb⟩
    exact ⟨v', rfl, ho, hb⟩
/-- A change's row, cloned. -/
theorem cloneC_c {base : Nat} {v : Value} {l : List (By × By × Int)} (h : w.ownsRow base 76 3 v l.length (l.flatMap chV)) (hl : l.length ≤ 1000000) :
    Calls Try.prog 41 #[v] w fun e w' => ∃ v', e = .returned v' ∧ w'.ownsRow w.heap.size 76 3 v' l.length (l.flatMap chV) ∧ Gb w w' := by
  rcases id h.2 with ⟨rfl, h0⟩ | ⟨g, cap, cur, rfl, _⟩
  · have hc := AnyE.slices_Clone_nil Try.layCC 0 0 w
    change Calls Try.prog 41 _ _ _ at hc
    refine hc.mono ?_
    rintro e w' ⟨rfl, rfl⟩
    have : l = [] := List.eq_nil_of_length_eq_zero h0
    subst this
    exact ⟨_, rfl, World.ownsRow_nil _ _ _ _, Below.refl _ _⟩
  · obtain ⟨i0, hi, hz0, hz1, hz2⟩ := infoC
    have hc := AnyE.slices_Clone Try.layCC i0 (.agg #[.string ByteArray.empty, .string ByteArray.empty, .int .i64 0]) 3 40 hi hz0 hz1 hz2 rfl (by decide) Try.sizeOf76 g 0 l.length cap (l.flatMap chV) w h.1 (by simp only [maxLen]; omega) (by omega)
      (fun j u hu => by have := World.ownsRow.cells h (g := g) rfl j u hu; rwa [Addr.add_lit] at this) (fun u hu => by
        obtain ⟨c, _, hc⟩ := List.mem_flatMap.1 hu
        exact chV_one c u hc)
    change Calls Try.prog 41 _ _ _ at hc
    refine hc.mono ?_
    rintro e w' ⟨v', rfl, ho, _, hb⟩
    exact ⟨v', rfl, ho, hb⟩
theorem cloneM_c {l : Nms} (h : NmAt w nb l) : Calls Try.prog 40 #[.map (some nb)] w fun e w' => e = .returned (.map (some w.heap.size)) ∧ NmAt w' w.heap.size l ∧ Gb w w' ∧ w'.heap.size = w.heap.size + 1 := by
  obtain ⟨es, clock, hb⟩ := MapS.isMap h
  have hc := AnyW.maps_Clone Try.layCM nb es clock w hb
  change Calls Try.prog 40 _ _ _ at hc
  refine hc.mono ?_
  rintro e w' ⟨rfl, rfl⟩
  refine ⟨rfl, ?_, gb_alloc (Below.refl _ _) _, by simp⟩
  obtain ⟨D, ⟨es', clock', hb', r⟩, s⟩ := h
  rw [hb] at hb'
  simp only [Option.some.injEq, Obj.map.injEq] at hb'
  obtain ⟨rfl, rfl⟩ := hb'
  exact ⟨D, ⟨es, clock, heap_alloc_new w _, r⟩, s⟩
/-- Read. -/
def rdV (q : Dq) (x : By) : By := if fiE q x = 0 then q.fb (num q.nm x) else []
set_option maxHeartbeats 1000000 in
theorem read_c (h : DkAt w b q F) (ok : q.Ok) {x : By} (hx : KWfS x) : Calls Try.prog 21 #[.pointer (some ⟨b, 0, none⟩), .string (sb x)] w fun e w' => ∃ v', e = .returned (.tuple #[v', .int .i64 (fiE q x)]) ∧ OwnB w' w.heap.size v' (rdV q x) ∧ Gb w w' := by
  have hf := find_c h ok hx
  by_cases e1 : fiE q x = 0
  · obtain ⟨z1, z2, z3⟩ := fiE_zero e1
    have E1 : rdV q x = q.fb (num q.nm x) := by unfold rdV; rw [if_pos e1]
    rw [e1, z3] at hf
    rw [e1, E1]
    obtain ⟨ks, fm, nb, sn, cv, fv, h1, h2, h3, h4⟩ := h
    have hl := h1.file (h1.numK z2)
    have hc1 := h1.cells.1.2.1
    have ho := h1.own _ (h1.numK z2)
    have hC := cloneB_c ho.cp (ok.fb _)
    obtain ⟨fa, fc, ef⟩ := row_fm ho
    have fl := fun w => fld_bytes (fv (num q.nm x)) (.int .i64 (q.fs (num q.nm x) : Int)) w
    rw [ef] at hl fl hC
    generalize q.fb (num q.nm x) = l at *
    generalize l.length = m at *
    generalize num q.nm x = n at *
    generalize q.fs n = fsn at *
    generalize sb x = s at *
    clear h1 h2 h3 h4 ok e1 E1 hx z1 z2 z3 ho ef
    go_enter Try.func21, Try.ntmps21
    go_wp2_with fail
    refine hf.mono ?_
    rintro e w' ⟨rfl, rfl⟩
    go_wp2_with fail
    refine hC.mono ?_
    rintro e w1 ⟨v', rfl, ho, g⟩
    go_wp2
    exact bodyPost_ret (v := .tuple #[v', .int .i64 0]) (by simp [results, Try.results21, go_sem]) rfl ⟨v', rfl, ho, g⟩
  · have E1 : rdV q x = [] := by unfold rdV; rw [if_neg e1]
    rw [E1]
    have e1' : (fiE q x == 0) = false := by rw [beq_eq_false_iff_ne]; exact e1
    generalize fiE q x = k at *
    generalize fiN q x = n at *
    generalize sb x = s at *
    clear h ok e1 hx E1
    go_enter Try.func21, Try.ntmps21
    go_wp2_with fail
    refine hf.mono ?_
    rintro e w' ⟨rfl, rfl⟩
    go_wp2
    exact bodyPost_ret (v := .tuple #[.slice none 0 0, .int .i64 k]) (by simp [results, Try.results21, go_sem]) rfl ⟨_, rfl, ownb_nil _ _, Below.refl _ _⟩
end Go.Proofs.Ytkagnoinifffdaa

/- A file that turns; Sync. -/
namespace Go.Proofs.Ytkagnoinifffdaa
open Go.RowKit Go.Lib Go.Maps

variable {w w' : World} {b : Nat} {q q' : Dq} {F G : Nat → Prop} {ks : List Int} {fm nb sn : Nat} {cv : Value} {fv : Int → Value}
theorem putK_mem {ks : List Int} {n : Int} (h : n ∈ ks) : putK ks n = ks := by unfold putK; rw [if_pos h]
/-- A file's entry is written: W1 ahead of whatever makes its bytes, W2 behind it. -/
theorem DkM.putFl {W1 W2 : World} (h : DkM W1 b q F ks fm nb sn cv fv) {n : Int} (hn : n ∈ ks) (hk : ks.length < 1000000) (hs : ∀ k, k < W1.heap.size → F k → (fv n).ownBlock ≠ some k → W2.heap[k]? = W1.heap[k]?)
    {v' : Value} {l' : By} (s' : Nat) (ho : OwnB W2 0 v' l') (hv : ∀ k, v'.ownBlock = some k → (fv n).ownBlock = some k ∨ W1.heap.size ≤ k) :
    ∃ W3, (Instr.mapUpdate 59 (.map (some fm)) (.int .i64 n) (.agg #[v', .int .i64 (s' : Int)])).run Try.prog W2 = .ok () W3 ∧ DkM W3 b { q with fb := upd q.fb n l', fs := upd q.fs n s' } (Wn F W1) ks fm nb sn cv (upd fv n v') ∧ W2.mapTurned W3 fm := by
  obtain ⟨es, c, em⟩ := h.fls.isMap
  have hm2 : W2.heap[fm]? = W1.heap[fm]? := hs fm h.fls.lt h.inF.2.1 fun e => (h.neM em).2 n hn _ e rfl
  obtain ⟨W3, hr, hM, hT⟩ := (h.fls.same hm2).put Try.underlying3 (t := 59) Try.underlying59 hk (h.fls.kwf n hn) (.agg #[v', .int .i64 (s' : Int)])
  rw [putK_mem hn] at hM
  have sm : ∀ k, k ≠ fm → k < W2.heap.size → W3.heap[k]? = W2.heap[k]? := fun k e hk => hT.grown.block k hk fun e' => e (by cases e'; rfl)
  have lt2 : ∀ k, k < W1.heap.size → F k → (fv n).ownBlock ≠ some k → k < W2.heap.size := fun k hk f e => by
    have := hs k hk f e
    rw [Array.getElem?_eq_getElem hk] at this
    exact (Array.getElem?_eq_some_iff.1 this).1
  have old : ∀ m ∈ ks, m ≠ n → ∀ k, (fv m).ownBlock = some k → W3.heap[k]? = W1.heap[k]? := fun m hm hne k e => by
    have hf := h.ownF m hm k e
    have hl := ((h.own m hm).lo k e).2
    have hd := h.ownD m hm n hn hne k e
    exact (sm k ((h.neM em).2 m hm k e) (lt2 k hl hf hd)).trans (hs k hl hf hd)
  have h' := h.wn W1
  refine ⟨W3, hr, ?_, hT⟩
  refine h'.mvF (fun k hk hF e1 e2 => ?_) (hM.ext fun m hm => ?_) (fun m hm => ?_) (fun m hm k e => ?_) (fun m hm p hp hne k e => ?_) fun _ h => h
  · have hF : F k := hF.elim id fun f => absurd hk (by omega)
    exact (sm k e1 (lt2 k hk hF (e2 n hn))).trans (hs k hk hF (e2 n hn))
  · unfold putF fileV
    by_cases e : m = n
    · subst e; rw [if_pos rfl, upd_same, upd_same]
    · rw [if_neg e, upd_ne _ _ e, upd_ne _ _ e]
  · by_cases e : m = n
    · subst e; rw [upd_same, upd_same]
      refine row_same ho fun k ek => sm k ?_ ((ho.lo k ek).2)
      rintro rfl
      obtain ⟨cur, ec⟩ := row_cells ho ek
      rw [hm2, em] at ec; simp at ec
    · rw [upd_ne _ _ e, upd_ne _ _ e]
      exact row_same (h.own m hm) (old m hm e)
  · by_cases e' : m = n
    · subst e'; rw [upd_same] at e
      rcases hv k e with hv | hv
      · exact .inl (h.ownF m hm k hv)
      · exact .inr hv
    · rw [upd_ne _ _ e'] at e; exact .inl (h.ownF m hm k e)
  · by_cases e1 : m = n
    · subst e1; rw [upd_same] at e
      rw [upd_ne _ _ (Ne.symm hne)]
      intro e3
      rcases hv k e with hv | hv
      · exact h.ownD m hm p hp hne k hv e3
      · have := ((h.own p hp).lo k e3).2; omega
    · rw [upd_ne _ _ e1] at e
      by_cases e2 : p = n
      · subst e2; rw [upd_same]
        intro e3
        rcases hv k e3 with hv | hv
        · exact h.ownD m hm p hp hne k e hv
        · have := ((h.own m hm).lo k e).2; omega
      · rw [upd_ne _ _ e2]; exact h.ownD m hm p hp hne k e
/-- Sync. -/
def Dq.sync (q : Dq) (x : By) : Dq := if fiE q x = 0 then ({ q with fb := upd q.fb (num q.nm x) (q.fb (num q.nm x)), fs := upd q.fs (num q.nm x) (q.fb (num q.nm x)).length } : Dq).done else q
theorem upd_self {α : Type} (f : Int → α) (n : Int) : upd f n (f n) = f := by
  funext m; unfold upd; split
  · rename_i e; rw [e]
  · rfl
theorem Dq.Ok.files (h : q.Ok) {fb : Int → By} {fs : Int → Nat} (h1 : ∀ n, (fb n).length ≤ 4194304) (h2 : ∀ n, fs n ≤ (fb n).length) : ({ q with fb := fb, fs := fs } : Dq).Ok :=
  ⟨h.room, h.lf, h.nmB, h.sfB, h.chB, h1, h2, h.nmL, h.sfL⟩
theorem Dq.Ok.sync (h : q.Ok) (x : By) : (q.sync x).Ok := by
  unfold Dq.sync
  split
  · refine (h.files (fun n => ?_) fun n => ?_).done
    · rw [upd_self]; exact h.fb n
    · rw [upd_self]; unfold upd; split
      · rename_i e; rw [e]; exact Nat.le_refl _
      · exact h.fs n
  · exact h
/-- The end of whatever turns a file. -/
theorem flDone {w1 w2 : World} (h0 : ∀ k, F k → k < w.heap.size) (hw : w.heap.size ≤ w1.heap.size) (hD : DkM w2 b q (Wn F w1) ks fm nb sn cv fv) (kf : Kf F w w2) (hlf : q.lf ≤ 9223372036854775807) (hst : q.st < 1000000) (h2 : ∀ n ∈ ks, 0 ≤ n ∧ n < (q.st : Int)) (h3 : ks.length ≤ q.st) :
    Calls Try.prog 59 #[.pointer (some ⟨b, 0, none⟩)] w2 fun e w' => e = .returned (.int .i64 0) ∧ DkOut w w' b q.done F := by
  refine (done_c hD hlf hst).mono ?_
  rintro e w3 ⟨rfl, hE, k3⟩
  have kk : Kf F w w3 := kf.then k3 fun k hk e => by
    subst e
    rcases hD.inF.1 with f | f
    · exact f
    · exact absurd hk (by omega)
  exact ⟨rfl, DkOut.of h0 kk (hE.kp (fun _ _ _ => rfl) fun k f _ => Wn.le hw f) (fun n hn => by have := h2 n hn; show 0 ≤ n ∧ n < ((q.st + 1 : Nat) : Int); omega) (Nat.le_succ_of_le h3)⟩
set_option maxHeartbeats 2000000 in
set_option maxRecDepth 100000 in
theorem sync_c (h : DkAt w b q F) (ok : q.Ok) (hst : q.st < 100000) {x : By} (hx : KWfS x) :
    Calls Try.prog 20 #[.pointer (some ⟨b, 0, none⟩), .string (sb x)] w fun e w' => e = .returned (.int .i64 (fiE q x)) ∧ DkOut w w' b (q.sync x) F := by
  have hf := find_c h ok hx
  have hS : Hid (DkOut w w b q F) := DkOut.self h
  by_cases e1 : fiE q x = 0
  · obtain ⟨z1, z2, z3⟩ := fiE_zero e1
    rw [e1, z3] at hf
    have E2 : Hid (q.sync x = ({ q with fb := upd q.fb (num q.nm x) (q.fb (num q.nm x)), fs := upd q.fs (num q.nm x) (q.fb (num q.nm x)).length } : Dq).done) := by unfold Hid Dq.sync; rw [if_pos e1]
    rw [e1]
    obtain ⟨ks, fm, nb, sn, cv, fv, h1, h2, h3, h4⟩ := h
    have hn := h1.numK z2
    generalize num q.nm x = n at *
    have ho := h1.own n hn
    obtain ⟨fa, fc, ef⟩ := row_fm ho
    have hl := h1.file hn
    have hc1 := h1.cells.1.2.1
    have hb := h1.lt
    have gA : Gb w (w.alloc (.cells #[fv n, .int .i64 ((q.fb n).length : Int)] 71)) := gb_alloc (Below.refl _ _) _
    have hA := h1.kp (w' := w.alloc (.cells #[fv n, .int .i64 ((q.fb n).length : Int)] 71)) (G := F) (fun k hk _ => gA.block k hk) (fun _ f _ => f)
    have sz : (w.alloc (.cells #[fv n, .int .i64 ((q.fb n).length : Int)] 71)).heap.size = w.heap.size + 1 := by simp
    obtain ⟨W3, hr, hD, hT⟩ := hA.putFl hn (by omega) (W2 := (w.alloc (.cells #[fv n, .int .i64 ((q.fb n).length : Int)] 71)).drew)
      (fun k _ f _ => rfl) (v' := fv n) (l' := q.fb n) (q.fb n).length (hA.own n hn) (fun k e => .inl e)
    have kf : Kf F w W3 := ((Kf.refl F w).alloc _).trans (Kf.ofDrew (Kf.turned hT h1.inF.2.1))
    have CD : Hid (Calls Try.prog 59 #[.pointer (some ⟨b, 0, none⟩)] W3 fun e w' => e = .returned (.int .i64 0) ∧ DkOut w w' b _ F) := flDone h4 (by rw [sz]; omega) hD kf ok.lf.2 (by show q.st < 1000000; omega) h2 h3
    rw [ef] at hl hr
    generalize (q.fb n).length = m at *
    generalize q.fs n = fsn at *
    generalize sb x = s at *
    generalize q.sync x = q2 at *
    clear h1 h2 h3 h4 ok e1 hx z1 z2 z3 ho ef hS gA hA sz hD hT kf hst hn
    go_enter Try.func20, Try.ntmps20
    go_wp2_with fail
    refine hf.mono ?_
    rintro e w' ⟨rfl, rfl⟩
    go_wp2
    go_region
    all_goals
      go_wp2_with fail
      refine CD.out.mono ?_
      rintro e w4 ⟨rfl, R⟩
      have R : Hid (DkOut w w4 b _ F) := R
      go_wp2
      go_ret
      exact ⟨rfl, by rw [E2.out]; exact R.out⟩
  · have E2 : Hid (q.sync x = q) := by unfold Hid Dq.sync; rw [if_neg e1]
    have e1' : (fiE q x == 0) = false := by rw [beq_eq_false_iff_ne]; exact e1
    generalize fiE q x = k at *
    generalize fiN q x = n at *
    generalize sb x = s at *
    generalize q.sync x = q2 at *
    clear h ok e1 hx hst
    go_enter Try.func20, Try.ntmps20
    go_wp2_with fail
    refine hf.mono ?_
    rintro e w' ⟨rfl, rfl⟩
    go_wp2
    go_ret
    exact ⟨rfl, by rw [E2.out]; exact hS.out⟩
end Go.Proofs.Ytkagnoinifffdaa
