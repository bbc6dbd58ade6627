import Derived.Test.YtcbhhdjjanekaaaGreatDoorWxDkH
import Derived.Deep.LoopGhost
import Derived.Shelf.SlicesE.Clone
import Derived.Shelf.SlMaps.Clone
import Derived.Shelf.Lay
import Derived.Ground.SlgnProg
import Derived.Ground.SlmcProg
/- Used. -/
namespace Go.Proofs.YtcbhhdjjanekaaaGreatDoor
open Go.RowKit Go.Lib Go.Maps

variable {w w' : World} {b : Nat} {q q' : Dq} {F G : Nat → Prop} {ks : List Int} {fm nb sn : Nat} {cv : Value} {fv : Int → Value}
theorem zeroFile (w : World) : (zeroValue 71).run Tryz.prog w = .ok (.agg #[.slice none 0 0, .int .i64 0]) w := by kernel_rfl
theorem fld_bytes (a b : Value) (w : World) : (Instr.field 71 (.agg #[a, b]) 0).run Tryz.prog w = .ok a w := by
  simp [Instr.field, run_underlying Tryz.underlying71, asAgg, part]
theorem RngS.sub {P : Program} {kt : TypeId} {w : World} {b r : Nat} {ks lf : List By} {f : By → Value} (h : RngS P kt w b r ks lf f) : ∀ x ∈ lf, x ∈ ks := by
  obtain ⟨D, left, cnt, h1, h2, h3, h4, h5⟩ := h
  exact h4
theorem RngA.sub {P : Program} {kt : TypeId} {w : World} {b r : Nat} {ks lf : List Int} {f : Int → Value} (h : RngA P kt w b r ks lf f) : ∀ x ∈ lf, x ∈ ks := by
  obtain ⟨D, left, cnt, h1, h2, h3, h4, h5⟩ := h
  exact h4
theorem MapA.kwf {P : Program} {kt : TypeId} {w : World} {b : Nat} {ks : List Int} {f : Int → Value} (h : MapA P kt w b ks f) : ∀ x ∈ ks, KWf x := by
  obtain ⟨D, _, _, h, _⟩ := h; exact h
theorem MapA.nodup {P : Program} {kt : TypeId} {w : World} {b : Nat} {ks : List Int} {f : Int → Value} (h : MapA P kt w b ks f) : ks.Nodup := by
  obtain ⟨D, _, h, _⟩ := h; exact h
/-- A file, looked up. -/
theorem DkM.file (h : DkM w b q F ks fm nb sn cv fv) {n : Int} (hn : n ∈ ks) : (Instr.lookup 63 (.map (some fm)) (.int .i64 n) false).run Tryz.prog w = .ok (.agg #[fv n, .int .i64 (q.fs n : Int)]) w := by
  have := MapA.look h.fls Tryz.underlying3 (t := 63) Tryz.underlying63 (zeroFile w) (h.fls.kwf n hn)
  rw [this, if_pos hn]; rfl
theorem DkM.numK (h : DkM w b q F ks fm nb sn cv fv) {x : By} (hx : x ∈ kys q.nm) : num q.nm x ∈ ks := h.nmK _ (mem_num hx)
/-- How many bytes the files of these names have. -/
def usd (q : Dq) (l : List By) : Nat := (l.map fun x => (q.fb (num q.nm x)).length).sum
theorem usd_erase (q : Dq) {l : List By} {x : By} (h : x ∈ l) : usd q l = (q.fb (num q.nm x)).length + usd q (l.erase x) := by
  unfold usd
  have := ((List.perm_cons_erase h).map fun x => (q.fb (num q.nm x)).length).sum_nat
  rw [this]; simp
theorem usd_le (ok : q.Ok) (l : List By) : usd q l ≤ l.length * 4194304 := by
  induction l with
  | nil => simp [usd]
  | cons x r ih =>
    have h1 := ok.fb (num q.nm x)
    have : usd q (x :: r) = (q.fb (num q.nm x)).length + usd q r := by simp [usd]
    rw [this, List.length_cons, Nat.add_mul]; omega
def usI (q : Dq) (w : World) (nb : Nat) (g : Nat) (ov : Value) (W : World) : Prop :=
  ∃ (lf : List By) (u : Nat), g = lf.length ∧ RngS Tryz.prog 9 W nb w.heap.size (kys q.nm) lf (fun x => .int .i64 (num q.nm x)) ∧ ov = .int .i64 (u : Int) ∧ u + usd q lf = usd q (kys q.nm) ∧ Gb w W
def usdO (q : Dq) : Nat := if q.lf = 0 then 0 else usd q (kys q.nm)
set_option maxHeartbeats 2000000 in
set_option maxRecDepth 100000 in
theorem used_c (h : DkAt w b q F) (ok : q.Ok) (hst : q.st < 100000) : Calls Tryz.prog 26 #[.pointer (some ⟨b, 0, none⟩)] w fun e w' => e = .returned (.int .i64 (usdO q : Int)) ∧ Gb w w' := by
  have hr := refusal_c h ok
  by_cases e1 : q.lf = 0
  · have E : rfE q = 174 := by unfold rfE; rw [if_pos e1]
    have E1 : usdO q = 0 := by unfold usdO; rw [if_pos e1]
    rw [E] at hr
    rw [E1]
    clear h ok E e1 E1
    go_enter Tryz.func26, Tryz.ntmps26
    go_wp2_with fail
    refine hr.mono ?_
    rintro e w' ⟨rfl, rfl⟩
    go_wp2
    go_ret
    exact ⟨rfl, Below.refl _ _⟩
  have E : rfE q = 0 := by unfold rfE; rw [if_neg e1]
  have E1 : usdO q = usd q (kys q.nm) := by unfold usdO; rw [if_neg e1]
  rw [E] at hr
  rw [E1]
  obtain ⟨ks, fm, nb, sn, cv, fv, h1, h2, h3, h4⟩ := h
  obtain ⟨⟨_, c1, c2, _, _, _, _⟩, _⟩ := h1.cells
  obtain ⟨w2, hrg, hR, hgr, hsz⟩ := MapS.range h1.nms Tryz.underlying9 (t := 64) Tryz.underlying64
  have g2 : Gb w w2 := below_grown' (Below.refl _ _) hgr (fun k e => by cases e)
  have x2 := gb_keeps g2 c2
  have hub : usd q (kys q.nm) ≤ 419430400000 := by
    have h1 := usd_le ok (kys q.nm)
    have h2 := ok.nmL
    rw [kys_length] at h1
    omega
  have ST : Hid (usI q w nb (kys q.nm).length (.int .i64 0) w2) := ⟨_, 0, rfl, hR, rfl, by omega, g2⟩
  have H : Hid (DkM w b q F ks fm nb sn cv fv ∧ usd q (kys q.nm) ≤ 419430400000) := ⟨h1, hub⟩
  have hb : b < w.heap.size := h1.lt
  clear h1 h2 h3 h4 ok E e1 E1 hR hgr g2 hub hst
  go_enter Tryz.func26, Tryz.ntmps26
  go_wp2_with fail
  refine hr.mono ?_
  rintro e w' ⟨rfl, rfl⟩
  go_wp2
  clear hrg
  go_loopg [3] (kys q.nm).length (fun g ov wx => Hid (usI q w nb g ov wx))
  case atStart => exact ST
  case round =>
    clear ST
    obtain ⟨lf, u, hgk, hrr, hov, hu, gb⟩ := hrel.out
    clear hrel
    rcases hrr.next Tryz.underlying9 0 with ⟨rfl, hnx⟩ | ⟨x, w', hx, hnx, hr', hgr, hsz', hen⟩
    · have hu : u = usd q (kys q.nm) := by rw [← hu]; simp [usd]
      have U : Hid (u = usd q (kys q.nm) ∧ Gb w wr) := ⟨hu, gb⟩
      subst hov
      clear hrr hgk hu gb H
      go_wp2
      go_ret
      exact ⟨by rw [U.out.1]; rfl, U.out.2⟩
    · have g' : Gb w w' := below_grown' gb hgr (fun k e => by cases e; exact Nat.le_refl _)
      have hD := H.out.1.kp (w' := w') (G := F) (fun k hk _ => g'.block k hk) (fun _ f _ => f)
      have hl := hD.file (hD.numK (hrr.sub x hx))
      have hc1 := hD.cells.1.2.1
      obtain ⟨fa, fc, ef⟩ := row_fm (hD.own _ (hD.numK (hrr.sub x hx)))
      have fl := fun w => fld_bytes (fv (num q.nm x)) (.int .i64 (q.fs (num q.nm x) : Int)) w
      rw [ef] at hl fl
      have hle : (lf.erase x).length < gk := by
        rw [hgk, List.length_erase_of_mem hx]
        have := List.length_pos_of_mem hx
        omega
      have hs := usd_erase q hx
      have R : Hid (usI q w nb (lf.erase x).length (.int .i64 ((u + (q.fb (num q.nm x)).length : Nat) : Int)) w') := ⟨_, _, rfl, hr', rfl, by omega, g'⟩
      have hub := H.out.2
      have hadd : ((u + (q.fb (num q.nm x)).length : Nat) : Int) = (u : Int) + ((q.fb (num q.nm x)).length : Int) := by omega
      rw [hadd] at R
      have hbd : (u : Int) + ((q.fb (num q.nm x)).length : Int) ≤ 419430400000 := by omega
      have hbw : b < w'.heap.size := hD.lt
      subst hov
      generalize (q.fb (num q.nm x)).length = m at *
      generalize num q.nm x = n at *
      generalize q.fs n = fsn at *
      generalize (lf.erase x).length = gl at *
      clear hrr hr' hgk hu gb H hD g' hs hub hadd hx hgr ef
      go_wp2
      go_roundg gl
      case measure => exact hle
      case rel => exact R.out
end Go.Proofs.YtcbhhdjjanekaaaGreatDoor

/- slices.Clone at bytes and at changes, maps.Clone at names (the shelf's contracts, laid at this program); Read. -/
namespace Go.Proofs.YtcbhhdjjanekaaaGreatDoor
open Go.Shelf Go.RowKit Go.Lib Go.Maps
shelf_lay_g SlLaysE0.n41 Slgn 41 at Tryz 59 as Tryz.layCB
shelf_lay_g SlLaysW.n5 Slmc 5 at Tryz 56 as Tryz.layCM

variable {w w' : World} {b : Nat} {q q' : Dq} {F G : Nat → Prop} {ks : List Int} {fm nb sn : Nat} {cv : Value} {fv : Int → Value}
/-- Bytes that can be cloned. -/
def CpB (w : World) (v : Value) (l : By) : Prop := ∃ a cap, v = .slice a l.length cap ∧ (a = none ∧ l = [] ∨ ∃ g o, a = some ⟨g, o, none⟩ ∧ ∀ j u, (l.map bv)[j]? = some u → w.cell? ⟨g, o + j, none⟩ = some u)
theorem OwnB.cp {base : Nat} {v : Value} {l : By} (h : OwnB w base v l) : CpB w v l := by
  rcases h.2 with ⟨rfl, h0⟩ | ⟨g, cap, cur, rfl, _⟩
  · exact ⟨none, 0, by rw [h0], .inl ⟨rfl, List.eq_nil_of_length_eq_zero h0⟩⟩
  · refine ⟨_, cap, rfl, .inr ⟨g, 0, rfl, fun j u hj => ?_⟩⟩
    have := World.ownsRow.cells h (g := g) rfl j u hj
    rw [Addr.add_lit] at this
    exact this
theorem OwnB.cpTake {base n c k : Nat} {a : Option Addr} {l : By} (h : OwnB w base (.slice a n c) l) (hk : k ≤ l.length) : CpB w (.slice a k c) (l.take k) := by
  have hl : (l.take k).length = k := by rw [List.length_take]; omega
  obtain ⟨a', c', e, h⟩ := h.cp
  injection e with e1 e2 e3
  subst e1
  refine ⟨a, c, by rw [hl], ?_⟩
  rcases h with ⟨h1, h2⟩ | ⟨g, o, h1, h2⟩
  · exact .inl ⟨h1, by rw [h2]; simp⟩
  · refine .inr ⟨g, o, h1, fun j u hj => h2 j u ?_⟩
    rw [List.map_take, List.getElem?_take] at hj
    split at hj
    · exact hj
    · cases hj
theorem bv_one (l : By) : ∀ u ∈ l.map bv, u.oneCell' = true := by
  intro u hu
  obtain ⟨x, _, rfl⟩ := List.mem_map.1 hu
  rfl
theorem cloneB_c {v : Value} {l : By} (h : CpB w v l) (hl : l.length ≤ 4194304) : Calls Tryz.prog 59 #[v] w fun e w' => ∃ v', e = .returned v' ∧ OwnB w' w.heap.size v' l ∧ Gb w w' := by
  obtain ⟨a, cap, rfl, h⟩ := h
  rcases h with ⟨rfl, rfl⟩ | ⟨g, o, rfl, h⟩
  · have hc := AnyE.slices_Clone_nil Tryz.layCB (([] : By).length) cap w
    change Calls Tryz.prog 59 _ _ _ at hc
    refine hc.mono ?_
    rintro e w' ⟨rfl, rfl⟩
    exact ⟨_, rfl, ownb_nil _ _, Below.refl _ _⟩
  · obtain ⟨i0, hi, hz0, hz1, hz2⟩ := info5
    have hc := AnyE.slices_Clone Tryz.layCB i0 (.int .u8 0) 1 1 hi hz0 hz1 hz2 rfl (by decide) Tryz.sizeOf5 g o l.length cap (l.map bv) w (by simp) (by simp only [maxLen]; omega) (by omega) h (bv_one l)
    change Calls Tryz.prog 59 _ _ _ at hc
    refine hc.mono ?_
    rintro e w' ⟨v', rfl, ho, _, hb⟩
    exact ⟨v', rfl, ho, hb⟩
theorem cloneM_c {l : Nms} (h : NmAt w nb l) : Calls Tryz.prog 56 #[.map (some nb)] w fun e w' => e = .returned (.map (some w.heap.size)) ∧ NmAt w' w.heap.size l ∧ Gb w w' ∧ w'.heap.size = w.heap.size + 1 := by
  obtain ⟨es, clock, hb⟩ := MapS.isMap h
  have hc := AnyW.maps_Clone Tryz.layCM nb es clock w hb
  change Calls Tryz.prog 56 _ _ _ at hc
  refine hc.mono ?_
  rintro e w' ⟨rfl, rfl⟩
  refine ⟨rfl, ?_, gb_alloc (Below.refl _ _) _, by simp⟩
  obtain ⟨D, ⟨es', clock', hb', r⟩, s⟩ := h
  rw [hb] at hb'
  simp only [Option.some.injEq, Obj.map.injEq] at hb'
  obtain ⟨rfl, rfl⟩ := hb'
  exact ⟨D, ⟨es, clock, heap_alloc_new w _, r⟩, s⟩
/-- Read. -/
def rdV (q : Dq) (x : By) : By := if fiE q x = 0 then q.fb (num q.nm x) else []
set_option maxHeartbeats 1000000 in
theorem read_c (h : DkAt w b q F) (ok : q.Ok) {x : By} (hx : KWfS x) : Calls Tryz.prog 62 #[.pointer (some ⟨b, 0, none⟩), .string (sb x)] w fun e w' => ∃ v', e = .returned (.tuple #[v', .int .i64 (fiE q x)]) ∧ OwnB w' w.heap.size v' (rdV q x) ∧ Gb w w' := by
  have hf := find_c h ok hx
  by_cases e1 : fiE q x = 0
  · obtain ⟨z1, z2, z3⟩ := fiE_zero e1
    have E1 : rdV q x = q.fb (num q.nm x) := by unfold rdV; rw [if_pos e1]
    rw [e1, z3] at hf
    rw [e1, E1]
    obtain ⟨ks, fm, nb, sn, cv, fv, h1, h2, h3, h4⟩ := h
    have hl := h1.file (h1.numK z2)
    have hc1 := h1.cells.1.2.1
    have ho := h1.own _ (h1.numK z2)
    have hC := cloneB_c ho.cp (ok.fb _)
    obtain ⟨fa, fc, ef⟩ := row_fm ho
    have fl := fun w => fld_bytes (fv (num q.nm x)) (.int .i64 (q.fs (num q.nm x) : Int)) w
    rw [ef] at hl fl hC
    generalize q.fb (num q.nm x) = l at *
    generalize l.length = m at *
    generalize num q.nm x = n at *
    generalize q.fs n = fsn at *
    generalize sb x = s at *
    clear h1 h2 h3 h4 ok e1 E1 hx z1 z2 z3 ho ef
    go_enter Tryz.func62, Tryz.ntmps62
    go_wp2_with fail
    refine hf.mono ?_
    rintro e w' ⟨rfl, rfl⟩
    go_wp2_with fail
    refine hC.mono ?_
    rintro e w1 ⟨v', rfl, ho, g⟩
    go_wp2
    exact bodyPost_ret (v := .tuple #[v', .int .i64 0]) (by simp [results, Tryz.results62, go_sem]) rfl ⟨v', rfl, ho, g⟩
  · have E1 : rdV q x = [] := by unfold rdV; rw [if_neg e1]
    rw [E1]
    have e1' : (fiE q x == 0) = false := by rw [beq_eq_false_iff_ne]; exact e1
    generalize fiE q x = k at *
    generalize fiN q x = n at *
    generalize sb x = s at *
    clear h ok e1 hx E1
    go_enter Tryz.func62, Tryz.ntmps62
    go_wp2_with fail
    refine hf.mono ?_
    rintro e w' ⟨rfl, rfl⟩
    go_wp2
    exact bodyPost_ret (v := .tuple #[.slice none 0 0, .int .i64 k]) (by simp [results, Tryz.results62, go_sem]) rfl ⟨_, rfl, ownb_nil _ _, Below.refl _ _⟩
end Go.Proofs.YtcbhhdjjanekaaaGreatDoor
