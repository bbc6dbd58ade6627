/- Append. -/
import Derived.Test.YtcbhhdjjanekaaaGreatDoorWxDkL
namespace Go.Proofs.YtcbhhdjjanekaaaGreatDoor
open Go.RowKit Go.Lib Go.Maps

variable {w w' : World} {b : Nat} {q q' : Dq} {F G : Nat → Prop} {ks : List Int} {fm nb sn : Nat} {cv : Value} {fv : Int → Value}
/-- Bytes that can be appended. -/
def AgB (w : World) (v : Value) (l : By) : Prop := ∃ a cap, v = .slice a l.length cap ∧ (a = none ∧ cap = 0 ∧ l = [] ∨ ∃ ad, a = some ad ∧ ∀ j u, (l.map bv)[j]? = some u → w.cell? (ad.add j) = some u)
theorem AgB.gb {v : Value} {l : By} (h : AgB w v l) (g : Gb w w') : AgB w' v l := by
  obtain ⟨a, cap, e, h⟩ := h
  refine ⟨a, cap, e, h.imp id ?_⟩
  rintro ⟨ad, e, h⟩
  exact ⟨ad, e, fun j u hj => gb_keeps g (h j u hj)⟩
theorem app_run {v u : Value} {l m : By} (h : OwnB w 0 v l) (hu : AgB w u m) (hl : l.length + m.length ≤ 8388608) :
    ∃ ax c w', (Builtin.append_ #[59, 59] 59 #[v, u]).run Tryz.prog w = .ok (.slice ax (l.length + m.length) c) w' ∧ OwnB w' 0 (.slice ax (l.length + m.length) c) (l ++ m) ∧ w.grownBy w' v.ownBlock ∧
      ∀ k, (Value.slice ax (l.length + m.length) c).ownBlock = some k → v.ownBlock = some k ∨ w.heap.size ≤ k := by
  obtain ⟨i0, hi, hz0, hz1, hz2⟩ := info5
  obtain ⟨a, cap, rfl, hu⟩ := hu
  rcases hu with ⟨rfl, rfl, rfl⟩ | ⟨ad, rfl, hu⟩
  · obtain ⟨ax, c, rfl⟩ := row_fm h
    refine ⟨ax, c, w, run_append_owned_none (P := Tryz.prog) (w := w) 0 59 59 5 i0 1 Tryz.underlying59 hi _ _ _ h, by rw [List.append_nil]; exact h, ⟨rfl, rfl, rfl, Nat.le_refl _, fun _ _ _ => rfl⟩, fun k e => .inl e⟩
  · obtain ⟨v', w', hr, ho, hg, _, hb⟩ := run_append_own_at (P := Tryz.prog) w 0 59 59 5 i0 (.int .u8 0) 1 1 Tryz.underlying59 hi hz0 hz1 hz2 rfl (by decide) v l.length (l.map bv) h ad m.length cap (m.map bv) (by simp) hu (bv_one m) (by simp only [maxLen]; omega) (by omega) (Nat.zero_le _)
    obtain ⟨ax, c, rfl⟩ := row_fm ho
    refine ⟨ax, c, w', hr, ?_, hg, fun k e => ?_⟩
    · unfold OwnB
      rw [List.length_append, List.map_append]; exact ho
    · rcases hb with hb | hb
      · rw [hb] at e; exact .inl e
      · rw [hb] at e; cases e; exact .inr (Nat.le_refl _)
/-- Append. -/
def apE (q : Dq) (x : By) (m : Nat) : Int := if fiE q x ≠ 0 then fiE q x else if q.room < (usdO q : Int) + (m : Int) then 173 else 0
def Dq.append (q : Dq) (x : By) (l : By) : Dq := if apE q x l.length = 0 then ({ q with fb := upd q.fb (num q.nm x) (q.fb (num q.nm x) ++ l), fs := upd q.fs (num q.nm x) (q.fs (num q.nm x)) } : Dq).done else q
theorem usd_ge (q : Dq) {l : List By} {x : By} (h : x ∈ l) : (q.fb (num q.nm x)).length ≤ usd q l := by rw [usd_erase q h]; omega
theorem apE_zero {x : By} {m : Nat} (h : apE q x m = 0) : fiE q x = 0 ∧ (usdO q : Int) + (m : Int) ≤ q.room ∧ (q.fb (num q.nm x)).length ≤ usdO q := by
  unfold apE at h
  split at h
  · rename_i e; exact absurd h e
  · rename_i e
    have e0 : fiE q x = 0 := by omega
    split at h
    · omega
    · refine ⟨e0, by omega, ?_⟩
      obtain ⟨z1, z2, _⟩ := fiE_zero e0
      unfold usdO
      rw [if_neg z1]
      exact usd_ge q z2
theorem Dq.Ok.append (h : q.Ok) (x l : By) : (q.append x l).Ok := by
  unfold Dq.append
  split
  · rename_i e
    obtain ⟨_, h1, h2⟩ := apE_zero e
    have hr := h.room
    refine (h.files (fun n => ?_) fun n => ?_).done
    · unfold upd; split
      · rw [List.length_append]; omega
      · exact h.fb n
    · rw [upd_self]; unfold upd; split
      · rename_i e; rw [e, List.length_append]; have := h.fs (num q.nm x); omega
      · exact h.fs n
  · exact h
set_option maxHeartbeats 4000000 in
set_option maxRecDepth 100000 in
theorem append_c (h : DkAt w b q F) (ok : q.Ok) (hst : q.st < 100000) {x : By} (hx : KWfS x) {u : Value} {l : By} (hu : AgB w u l) (hlen : l.length ≤ 1000000000) :
    Calls Tryz.prog 45 #[.pointer (some ⟨b, 0, none⟩), .string (sb x), u] w fun e w' => e = .returned (.int .i64 (apE q x l.length)) ∧ DkOut w w' b (q.append x l) F := by
  have hf := find_c h ok hx
  have hS : Hid (DkOut w w b q F) := DkOut.self h
  have cU : Hid (∀ W, Gb w W → Calls Tryz.prog 26 #[.pointer (some ⟨b, 0, none⟩)] W fun e w' => e = .returned (.int .i64 (usdO q : Int)) ∧ Hid (Gb W w')) := fun W g => used_c (h.gb g) ok hst
  have HH : Hid (DkAt w b q F) := h
  by_cases e1 : fiE q x = 0
  · obtain ⟨z1, z2, z3⟩ := fiE_zero e1
    rw [e1, z3] at hf
    have hub : (usdO q : Int) ≤ 419430400000 := by
      unfold usdO
      rw [if_neg z1]
      have h1 := usd_le ok (kys q.nm)
      have h2 := ok.nmL
      rw [kys_length] at h1
      omega
    obtain ⟨ks, fm, nb, sn, cv, fv, h1, h2, h3, h4⟩ := h
    have c0 := h1.cells.1.1
    have c0' : Hid (∀ W, Gb w W → W.cell? ⟨b, 0, none⟩ = some (.int .i64 q.room)) := fun W g => gb_keeps g c0
    have hb := h1.lt
    obtain ⟨ua, uc, rfl, hu'⟩ := id hu
    by_cases e2 : q.room < (usdO q : Int) + (l.length : Int)
    · have E1 : apE q x l.length = 173 := by unfold apE; rw [if_neg (by omega), if_pos e2]
      have E2 : Hid (q.append x l = q) := by unfold Hid Dq.append; rw [if_neg (by rw [E1]; decide)]
      rw [E1]
      have FIN : Hid (∀ W, Gb w W → DkOut w W b q F) := fun W g => ⟨by
        have := HH.out.gb g
        obtain ⟨ks, fm, nb, sn, cv, fv, h1, h2, h3, h4⟩ := this
        exact ⟨ks, fm, nb, sn, cv, fv, (h1.wn w).nw, h2, h3, Nw.lt (fun k f => by
          obtain ⟨_, _, _, _, _, _, _, _, _, h4⟩ := HH.out
          exact h4 k f) g.size⟩, Kf.gb g F⟩
      have hwr : IntKind.i64.wrap ((usdO q : Int) + (l.length : Int)) = (usdO q : Int) + (l.length : Int) := by rw [IntKind.wrap_i64]; omega
      generalize usdO q = us at *
      generalize l.length = m at *
      generalize num q.nm x = n at *
      generalize sb x = s at *
      generalize q.append x l = q2 at *
      generalize q.room = rm at *
      clear h1 h2 h3 h4 ok e1 E1 hx hst z1 z2 z3 hS HH hu hu'
      go_enter Tryz.func45, Tryz.ntmps45
      go_wp2_with fail
      refine hf.mono ?_
      rintro e w' ⟨rfl, rfl⟩
      go_wp2
      go_region_with (go_at_call 26; refine (cU.out _ (Below.refl _ w).drew).mono ?_; rintro e w1 ⟨rfl, g⟩; have g := gb_trans (Below.refl _ w).drew g.out; have c1 := c0'.out w1 g)
      all_goals
        go_wp2
        go_ret
        exact ⟨rfl, by rw [E2.out]; exact FIN.out _ (by assumption)⟩
    · have E1 : apE q x l.length = 0 := by unfold apE; rw [if_neg (by omega), if_neg e2]
      have E2 : Hid (q.append x l = ({ q with fb := upd q.fb (num q.nm x) (q.fb (num q.nm x) ++ l), fs := upd q.fs (num q.nm x) (q.fs (num q.nm x)) } : Dq).done) := by unfold Hid Dq.append; rw [if_pos E1]
      obtain ⟨_, hrm, hfb⟩ := apE_zero E1
      have hroom := ok.room
      rw [E1]
      have hn := h1.numK z2
      generalize num q.nm x = n at *
      obtain ⟨fa, fc, ef⟩ := row_fm (h1.own n hn)
      have AP : Hid (∀ W, Gb w W → W.cell? ⟨b, 1, none⟩ = some (.map (some fm)) ∧ b < W.heap.size ∧ b ≠ W.heap.size ∧ (Instr.lookup 63 (.map (some fm)) (.int .i64 n) false).run Tryz.prog W = .ok (.agg #[.slice fa (q.fb n).length fc, .int .i64 (q.fs n : Int)]) W ∧
          ∃ ax c W2, (Builtin.append_ #[59, 59] 59 #[.slice fa (q.fb n).length fc, .slice ua l.length uc]).run Tryz.prog (W.alloc (.cells #[.slice fa (q.fb n).length fc, .int .i64 (q.fs n : Int)] 71)) = .ok (.slice ax ((q.fb n).length + l.length) c) W2 ∧
            W2.cell? ⟨W.heap.size, 0, none⟩ = some (.slice fa (q.fb n).length fc) ∧ W2.cell? ⟨W.heap.size, 1, none⟩ = some (.int .i64 (q.fs n : Int)) ∧ W2.frozen? ⟨W.heap.size, 0, none⟩ = false ∧ W.heap.size < W2.heap.size ∧ W2.cell? ⟨b, 1, none⟩ = some (.map (some fm)) ∧ b < W2.heap.size ∧
            ∃ W3, (Instr.mapUpdate 63 (.map (some fm)) (.int .i64 n) (.agg #[.slice ax ((q.fb n).length + l.length) c, .int .i64 (q.fs n : Int)])).run Tryz.prog (W2.setCell ⟨W.heap.size, 0, none⟩ (.slice ax ((q.fb n).length + l.length) c)).drew = .ok () W3 ∧
              Hid (Calls Tryz.prog 71 #[.pointer (some ⟨b, 0, none⟩)] W3 fun e w' => e = .returned (.int .i64 0) ∧ Hid (DkOut w w' b ({ q with fb := upd q.fb n (q.fb n ++ l), fs := upd q.fs n (q.fs n) } : Dq).done F))) := fun W g => by
        have hW := h1.kp (w' := W) (G := F) (fun k hk _ => g.block k hk) (fun _ f _ => f)
        have hl := hW.file hn
        rw [ef] at hl
        have hF : ∀ k, F k → k < W.heap.size := fun k f => Nat.lt_of_lt_of_le (h4 k f) g.size
        refine ⟨hW.cells.1.2.1, hW.lt, Nat.ne_of_lt hW.lt, hl, ?_⟩
        have gA : Gb W (W.alloc (.cells #[.slice fa (q.fb n).length fc, .int .i64 (q.fs n : Int)] 71)) := gb_alloc (Below.refl _ _) _
        have hA := hW.kp (w' := W.alloc (.cells #[.slice fa (q.fb n).length fc, .int .i64 (q.fs n : Int)] 71)) (G := F) (fun k hk _ => gA.block k hk) (fun _ f _ => f)
        have sz : (W.alloc (.cells #[.slice fa (q.fb n).length fc, .int .i64 (q.fs n : Int)] 71)).heap.size = W.heap.size + 1 := by simp
        have b0 : (W.alloc (.cells #[.slice fa (q.fb n).length fc, .int .i64 (q.fs n : Int)] 71)).heap[W.heap.size]? = some (.cells #[.slice fa (q.fb n).length fc, .int .i64 (q.fs n : Int)] 71 (0, 0)) := heap_alloc_new _ _
        generalize hWA : W.alloc (.cells #[.slice fa (q.fb n).length fc, .int .i64 (q.fs n : Int)] 71) = WA at *
        have ho := hA.own n hn
        rw [ef] at ho
        obtain ⟨ax, c, W2, hr, ho2, hg2, hb2⟩ := app_run ho ((hu.gb g).gb gA) (by omega)
        have hown : ∀ k, (Value.slice fa (q.fb n).length fc).ownBlock = some k → F k := fun k e => h1.ownF n hn k (by rw [ef]; exact e)
        have hne : some W.heap.size ≠ (Value.slice fa (q.fb n).length fc).ownBlock := fun e => by have := hF _ (hown _ e.symm); omega
        have b2 : W2.heap[W.heap.size]? = _ := (hg2.block W.heap.size (by omega) hne).trans b0
        have hD2b : W2.heap[b]? = _ := (hg2.block b hA.lt (fun e => hA.neB.2.2.2.2 n hn b (by rw [ef]; exact e.symm) rfl)).trans hA.blk
        have hbne : b ≠ W.heap.size := Nat.ne_of_lt hW.lt
        refine ⟨ax, c, W2, hr, by simp [World.cell?, b2], by simp [World.cell?, b2], by simp [World.frozen?, b2], (Array.getElem?_eq_some_iff.1 b2).1, by simp [World.cell?, hD2b], (Array.getElem?_eq_some_iff.1 hD2b).1, ?_⟩
        obtain ⟨W3, hp, hD, hT⟩ := hA.putFl hn (by omega) (W2 := (W2.setCell ⟨W.heap.size, 0, none⟩ (.slice ax ((q.fb n).length + l.length) c)).drew)
          (fun k hk f e => (Below.heap_setCell _ _ _ _ (fun e' => by have := hF k f; simp at e'; omega)).trans (hg2.block k hk fun e' => e (by rw [ef]; exact e'.symm)))
          (v' := .slice ax ((q.fb n).length + l.length) c) (l' := q.fb n ++ l) (q.fs n)
          (row_same ho2 fun k e => Below.heap_setCell _ _ _ _ (fun e' => by
            simp at e'
            rcases hb2 k e with hb2 | hb2
            · have := hF k (hown k hb2); omega
            · omega)) (fun k e => (hb2 k e).imp (fun e => by rw [ef]; exact e) id)
        have k1 : Kf F w W2 := ((Kf.gb g F).then (Kf.gb gA F) fun _ _ h => h).then (Kf.grown hg2 (F := F) fun k e => hown k e) fun _ _ h => h
        have k2 : Kf F w W3 := (k1.set (p := ⟨W.heap.size, 0, none⟩) (fun h => absurd h (by have := g.size; simp; omega)) (.slice ax ((q.fb n).length + l.length) c)).trans (Kf.ofDrew (Kf.turned hT h1.inF.2.1))
        exact ⟨W3, hp, flDone h4 (by have := g.size; omega) hD k2 ok.lf.2 (by show q.st < 1000000; omega) h2 h3⟩
      have hwr : IntKind.i64.wrap ((usdO q : Int) + (l.length : Int)) = (usdO q : Int) + (l.length : Int) := by rw [IntKind.wrap_i64]; omega
      generalize usdO q = us at *
      generalize l.length = m at *
      generalize (q.fb n).length = m0 at *
      generalize sb x = s at *
      generalize q.append x l = q2 at *
      generalize q.room = rm at *
      clear h1 h2 h3 h4 ok e1 E1 hx hst z1 z2 z3 hS HH hu hu' hrm hfb hroom hn ef
      go_enter Tryz.func45, Tryz.ntmps45
      go_wp2_with fail
      refine hf.mono ?_
      rintro e w' ⟨rfl, rfl⟩
      go_wp2
      go_region_with (go_at_call 26; refine (cU.out _ (Below.refl _ w).drew).mono ?_; rintro e w1 ⟨rfl, g⟩; have g := gb_trans (Below.refl _ w).drew g.out; have c1 := c0'.out w1 g; obtain ⟨d1, d2, d3, d4, ax, c, W2, happ, d5, d6, d7, d8, d9, d10, W3, hp, CD⟩ := AP.out w1 g)
      all_goals
        clear AP cU c0'
        go_wp2_with (at_builtin; refine Lib.wpList_append_run _ rfl _ _ _ _ rfl _ _ rfl rfl _ _ happ ?_)
        go_region
      all_goals
        go_wp2_with fail
        refine CD.out.mono ?_
        rintro e w4 ⟨rfl, R⟩
        go_wp2
        go_ret
        exact ⟨rfl, by rw [E2.out]; exact R.out⟩
  · have E1 : apE q x l.length = fiE q x := by unfold apE; rw [if_pos e1]
    have E2 : Hid (q.append x l = q) := by unfold Hid Dq.append; rw [if_neg (by rw [E1]; exact e1)]
    rw [E1]
    have e1' : (fiE q x == 0) = false := by rw [beq_eq_false_iff_ne]; exact e1
    generalize fiE q x = k at *
    generalize fiN q x = n at *
    generalize sb x = s at *
    generalize q.append x l = q2 at *
    clear h ok e1 hx hst cU HH hu
    go_enter Tryz.func45, Tryz.ntmps45
    go_wp2_with fail
    refine hf.mono ?_
    rintro e w' ⟨rfl, rfl⟩
    go_wp2
    go_ret
    exact ⟨rfl, by rw [E2.out]; exact hS.out⟩
end Go.Proofs.YtcbhhdjjanekaaaGreatDoor
