/- Used. -/
import Derived.Test.YtpjoaefmpdjjnaaSxDkH
import Derived.Deep.LoopGhost
namespace Go.Proofs.Ytpjoaefmpdjjnaa
open Go.RowKit Go.Lib Go.Maps

variable {w w' : World} {b : Nat} {q q' : Dq} {F G : Nat → Prop} {ks : List Int} {fm nb sn : Nat} {cv : Value} {fv : Int → Value}
theorem zeroFile (w : World) : (zeroValue 71).run Try.prog w = .ok (.agg #[.slice none 0 0, .int .i64 0]) w := by kernel_rfl
theorem fld_bytes (a b : Value) (w : World) : (Instr.field 71 (.agg #[a, b]) 0).run Try.prog w = .ok a w := by
  simp [Instr.field, run_underlying Try.underlying71, asAgg, part]
theorem RngS.sub {P : Program} {kt : TypeId} {w : World} {b r : Nat} {ks lf : List By} {f : By → Value} (h : RngS P kt w b r ks lf f) : ∀ x ∈ lf, x ∈ ks := by
  obtain ⟨D, left, cnt, h1, h2, h3, h4, h5⟩ := h
  exact h4
theorem RngA.sub {P : Program} {kt : TypeId} {w : World} {b r : Nat} {ks lf : List Int} {f : Int → Value} (h : RngA P kt w b r ks lf f) : ∀ x ∈ lf, x ∈ ks := by
  obtain ⟨D, left, cnt, h1, h2, h3, h4, h5⟩ := h
  exact h4
theorem MapA.kwf {P : Program} {kt : TypeId} {w : World} {b : Nat} {ks : List Int} {f : Int → Value} (h : MapA P kt w b ks f) : ∀ x ∈ ks, KWf x := by
  obtain ⟨D, _, _, h, _⟩ := h; exact h
theorem MapA.nodup {P : Program} {kt : TypeId} {w : World} {b : Nat} {ks : List Int} {f : Int → Value} (h : MapA P kt w b ks f) : ks.Nodup := by
  obtain ⟨D, _, h, _⟩ := h; exact h
/-- A file, looked up. -/
theorem DkM.file (h : DkM w b q F ks fm nb sn cv fv) {n : Int} (hn : n ∈ ks) : (Instr.lookup 59 (.map (some fm)) (.int .i64 n) false).run Try.prog w = .ok (.agg #[fv n, .int .i64 (q.fs n : Int)]) w := by
  have := MapA.look h.fls Try.underlying3 (t := 59) Try.underlying59 (zeroFile w) (h.fls.kwf n hn)
  rw [this, if_pos hn]; rfl
theorem DkM.numK (h : DkM w b q F ks fm nb sn cv fv) {x : By} (hx : x ∈ kys q.nm) : num q.nm x ∈ ks := h.nmK _ (mem_num hx)
/-- How many bytes the files of these names have. -/
def usd (q : Dq) (l : List By) : Nat := (l.map fun x => (q.fb (num q.nm x)).length).sum
theorem usd_erase (q : Dq) {l : List By} {x : By} (h : x ∈ l) : usd q l = (q.fb (num q.nm x)).length + usd q (l.erase x) := by
  unfold usd
  have := ((List.perm_cons_erase h).map fun x => (q.fb (num q.nm x)).length).sum_nat
  rw [this]; simp
theorem usd_le (ok : q.Ok) (l : List By) : usd q l ≤ l.length * 4194304 := by
  induction l with
  | nil => simp [usd]
  | cons x r ih =>
    have h1 := ok.fb (num q.nm x)
    have : usd q (x :: r) = (q.fb (num q.nm x)).length + usd q r := by simp [usd]
    rw [this, List.length_cons, Nat.add_mul]; omega
def usI (q : Dq) (w : World) (nb : Nat) (g : Nat) (ov : Value) (W : World) : Prop :=
  ∃ (lf : List By) (u : Nat), g = lf.length ∧ RngS Try.prog 9 W nb w.heap.size (kys q.nm) lf (fun x => .int .i64 (num q.nm x)) ∧ ov = .int .i64 (u : Int) ∧ u + usd q lf = usd q (kys q.nm) ∧ Gb w W
def usdO (q : Dq) : Nat := if q.lf = 0 then 0 else usd q (kys q.nm)
set_option maxHeartbeats 2000000 in
set_option maxRecDepth 100000 in
theorem used_c (h : DkAt w b q F) (ok : q.Ok) (hst : q.st < 100000) : Calls Try.prog 29 #[.pointer (some ⟨b, 0, none⟩)] w fun e w' => e = .returned (.int .i64 (usdO q : Int)) ∧ Gb w w' := by
  have hr := refusal_c h ok
  by_cases e1 : q.lf = 0
  · have E : rfE q = 174 := by unfold rfE; rw [if_pos e1]
    have E1 : usdO q = 0 := by unfold usdO; rw [if_pos e1]
    rw [E] at hr
    rw [E1]
    clear h ok E e1 E1
    go_enter Try.func29, Try.ntmps29
    go_wp2_with fail
    refine hr.mono ?_
    rintro e w' ⟨rfl, rfl⟩
    go_wp2
    go_ret
    exact ⟨rfl, Below.refl _ _⟩
  have E : rfE q = 0 := by unfold rfE; rw [if_neg e1]
  have E1 : usdO q = usd q (kys q.nm) := by unfold usdO; rw [if_neg e1]
  rw [E] at hr
  rw [E1]
  obtain ⟨ks, fm, nb, sn, cv, fv, h1, h2, h3, h4⟩ := h
  obtain ⟨⟨_, c1, c2, _, _, _, _⟩, _⟩ := h1.cells
  obtain ⟨w2, hrg, hR, hgr, hsz⟩ := MapS.range h1.nms Try.underlying9 (t := 60) Try.underlying60
  have g2 : Gb w w2 := below_grown' (Below.refl _ _) hgr (fun k e => by cases e)
  have x2 := gb_keeps g2 c2
  have hub : usd q (kys q.nm) ≤ 419430400000 := by
    have h1 := usd_le ok (kys q.nm)
    have h2 := ok.nmL
    rw [kys_length] at h1
    omega
  have ST : Hid (usI q w nb (kys q.nm).length (.int .i64 0) w2) := ⟨_, 0, rfl, hR, rfl, by omega, g2⟩
  have H : Hid (DkM w b q F ks fm nb sn cv fv ∧ usd q (kys q.nm) ≤ 419430400000) := ⟨h1, hub⟩
  have hb : b < w.heap.size := h1.lt
  clear h1 h2 h3 h4 ok E e1 E1 hR hgr g2 hub hst
  go_enter Try.func29, Try.ntmps29
  go_wp2_with fail
  refine hr.mono ?_
  rintro e w' ⟨rfl, rfl⟩
  go_wp2
  clear hrg
  go_loopg [3] (kys q.nm).length (fun g ov wx => Hid (usI q w nb g ov wx))
  case atStart => exact ST
  case round =>
    clear ST
    obtain ⟨lf, u, hgk, hrr, hov, hu, gb⟩ := hrel.out
    clear hrel
    rcases hrr.next Try.underlying9 0 with ⟨rfl, hnx⟩ | ⟨x, w', hx, hnx, hr', hgr, hsz', hen⟩
    · have hu : u = usd q (kys q.nm) := by rw [← hu]; simp [usd]
      have U : Hid (u = usd q (kys q.nm) ∧ Gb w wr) := ⟨hu, gb⟩
      subst hov
      clear hrr hgk hu gb H
      go_wp2
      go_ret
      exact ⟨by rw [U.out.1]; rfl, U.out.2⟩
    · have g' : Gb w w' := below_grown' gb hgr (fun k e => by cases e; exact Nat.le_refl _)
      have hD := H.out.1.kp (w' := w') (G := F) (fun k hk _ => g'.block k hk) (fun _ f _ => f)
      have hl := hD.file (hD.numK (hrr.sub x hx))
      have hc1 := hD.cells.1.2.1
      obtain ⟨fa, fc, ef⟩ := row_fm (hD.own _ (hD.numK (hrr.sub x hx)))
      have fl := fun w => fld_bytes (fv (num q.nm x)) (.int .i64 (q.fs (num q.nm x) : Int)) w
      rw [ef] at hl fl
      have hle : (lf.erase x).length < gk := by
        rw [hgk, List.length_erase_of_mem hx]
        have := List.length_pos_of_mem hx
        omega
      have hs := usd_erase q hx
      have R : Hid (usI q w nb (lf.erase x).length (.int .i64 ((u + (q.fb (num q.nm x)).length : Nat) : Int)) w') := ⟨_, _, rfl, hr', rfl, by omega, g'⟩
      have hub := H.out.2
      have hadd : ((u + (q.fb (num q.nm x)).length : Nat) : Int) = (u : Int) + ((q.fb (num q.nm x)).length : Int) := by omega
      rw [hadd] at R
      have hbd : (u : Int) + ((q.fb (num q.nm x)).length : Int) ≤ 419430400000 := by omega
      have hbw : b < w'.heap.size := hD.lt
      subst hov
      generalize (q.fb (num q.nm x)).length = m at *
      generalize num q.nm x = n at *
      generalize q.fs n = fsn at *
      generalize (lf.erase x).length = gl at *
      clear hrr hr' hgk hu gb H hD g' hs hub hadd hx hgr ef
      go_wp2
      go_roundg gl
      case measure => exact hle
      case rel => exact R.out
end Go.Proofs.Ytpjoaefmpdjjnaa
