/- settle. -/
import Derived.Test.YtcbhhdjjanekaaaGreatDoorWxDkN
namespace Go.Proofs.YtcbhhdjjanekaaaGreatDoor
open Go.RowKit Go.Lib Go.Maps

variable {w w' : World} {b : Nat} {q q' : Dq} {F G : Nat → Prop} {ks : List Int} {fm nb sn : Nat} {cv : Value} {fv : Int → Value}
/-- The files' map made anew: names lf are still to come. -/
def seI (w : World) (_fm nb : Nat) (l : Nms) (ks : List Int) (f : Int → Value) (g : Nat) (W : World) : Prop :=
  ∃ lf kn, g = lf.length ∧ RngS Tryz.prog 9 W nb (w.heap.size + 1) (kys l) lf (fun x => .int .i64 (num l x)) ∧ MapA Tryz.prog 3 W w.heap.size kn f ∧ (∀ x ∈ kys l, x ∈ lf ∨ num l x ∈ kn) ∧ (∀ n ∈ kn, n ∈ ks) ∧ Gb w W
structure SeOut (w w' : World) (b nb : Nat) (l : Nms) (ks : List Int) (f : Int → Value) (r st lf : Int) (ls : List Int) (fm sn : Nat) : Prop where
  blk : w'.heap[b]? = some (.cells #[.int .i64 r, .map (some fm), .map (some nb), .map (some sn), .slice none 0 0, .int .i64 st, .int .i64 lf] 67 (0, 0))
  fls : MapA Tryz.prog 3 w' fm ls f
  nms : NmAt w' nb l
  sfs : NmAt w' sn l
  nmK : ∀ p ∈ l, p.2 ∈ ls
  sub : ∀ n ∈ ls, n ∈ ks
  new : w.heap.size ≤ fm ∧ w.heap.size ≤ sn ∧ fm ≠ sn
  kf : Kf (fun k => k = b) w w'
theorem nodup_sub_le {l m : List Int} (h : l.Nodup) (hs : ∀ x ∈ l, x ∈ m) : l.length ≤ m.length := by
  induction l generalizing m with
  | nil => exact Nat.zero_le _
  | cons a r ih =>
    obtain ⟨h1, h2⟩ := List.nodup_cons.1 h
    have ha := hs a List.mem_cons_self
    have := ih (m := m.erase a) h2 fun x hx => (List.mem_erase_of_ne (fun e => h1 (by rw [← e]; exact hx))).2 (hs x (List.mem_cons_of_mem _ hx))
    rw [List.length_erase_of_mem ha] at this
    have := List.length_pos_of_mem ha
    simp only [List.length_cons]; omega
set_option maxHeartbeats 4000000 in
set_option maxRecDepth 100000 in
theorem settle_c {l : Nms} {fs : Int → Nat} {r st lf : Int} {sv : Value} (hb : w.heap[b]? = some (.cells #[.int .i64 r, .map (some fm), .map (some nb), sv, cv, .int .i64 st, .int .i64 lf] 67 (0, 0))) (hm : MapA Tryz.prog 3 w fm ks (fileV fv fs)) (hN : NmAt w nb l) (hk : ∀ p ∈ l, p.2 ∈ ks)
    (hv : ∀ n ∈ ks, ∃ a m c, fv n = .slice a m c) (hl : ks.length < 900000) :
    Calls Tryz.prog 36 #[.pointer (some ⟨b, 0, none⟩)] w fun e w' => e = .returned (.tuple #[]) ∧ ∃ ls fm' sn', SeOut w w' b nb l ks (fileV fv fs) r st lf ls fm' sn' := by
  have c1 : w.cell? ⟨b, 1, none⟩ = some (.map (some fm)) := by simp [World.cell?, hb]
  have c2 : w.cell? ⟨b, 2, none⟩ = some (.map (some nb)) := by simp [World.cell?, hb]
  have hlt := cell_lt c1
  obtain ⟨_, _, em⟩ := hm.isMap
  obtain ⟨_, _, en⟩ := MapS.isMap hN
  have mb : fm ≠ b := by rintro rfl; exact map_cells em hb
  have nbb : nb ≠ b := by rintro rfl; exact map_cells en hb
  have g0 : Gb w (w.alloc (.map #[] 0)) := gb_alloc (Below.refl _ _) _
  obtain ⟨w2, hrg, hR, hgr, hsz⟩ := MapS.range (hN.same (g0.block _ hN.lt)) Tryz.underlying9 (t := 64) Tryz.underlying64
  have s0 : (w.alloc (.map #[] 0)).heap.size = w.heap.size + 1 := by simp
  rw [s0] at hR hrg hsz
  have g2 : Gb w w2 := below_grown' g0 hgr (fun k e => by cases e)
  have x2 := gb_keeps g2 c1
  have M0 : MapA Tryz.prog 3 w2 w.heap.size [] (fileV fv fs) := (MapA.new w _).same (hgr.block _ (by simp) (by simp))
  have ST : Hid (seI w fm nb l ks (fileV fv fs) (kys l).length w2) := ⟨_, [], rfl, hR, M0, fun x hx => .inl hx, fun _ h => absurd h (by simp), g2⟩
  have H : Hid (MapA Tryz.prog 3 w fm ks (fileV fv fs) ∧ (∀ p ∈ l, p.2 ∈ ks) ∧ NmAt w nb l ∧ ∀ n ∈ ks, ∃ a m c, fv n = .slice a m c) := ⟨hm, hk, hN, hv⟩
  have HB : Hid (w.heap[b]? = some (.cells #[.int .i64 r, .map (some fm), .map (some nb), sv, cv, .int .i64 st, .int .i64 lf] 67 (0, 0)) ∧ b < w.heap.size ∧ nb ≠ b) := ⟨hb, hlt, nbb⟩
  have cells : Hid (∀ W, Gb w W → W.cell? ⟨b, 1, none⟩ = some (.map (some fm)) ∧ W.cell? ⟨b, 2, none⟩ = some (.map (some nb)) ∧ W.cell? ⟨b, 3, none⟩ = some sv ∧ W.cell? ⟨b, 4, none⟩ = some cv ∧ W.frozen? ⟨b, 1, none⟩ = false ∧ W.frozen? ⟨b, 3, none⟩ = false ∧ W.frozen? ⟨b, 4, none⟩ = false ∧ b < W.heap.size) := fun W g => by
    have e := (g.block b hlt).trans hb
    refine ⟨?_, ?_, ?_, ?_, ?_, ?_, ?_, Nat.lt_of_lt_of_le hlt g.size⟩ <;> simp [World.cell?, World.frozen?, e]
  have CM : Hid (∀ W1, NmAt W1 nb l → Calls Tryz.prog 56 #[.map (some nb)] W1 fun e w' => e = .returned (.map (some W1.heap.size)) ∧ Hid (NmAt w' W1.heap.size l ∧ Gb W1 w' ∧ w'.heap.size = W1.heap.size + 1)) := fun W1 h => cloneM_c h
  have hmk := @run_makeMap Tryz.prog
  clear hb hm hN hk hv em en g0 hR hgr hsz s0 g2 M0 mb nbb
  go_enter Tryz.func36, Tryz.ntmps36
  go_wp2
  clear hrg hmk
  go_loopg [4] (kys l).length (fun g ov wx => Hid (seI w fm nb l ks (fileV fv fs) g wx))
  case atStart => exact ST
  case round =>
    clear ST
    obtain ⟨lf', kn, hgk, hrr, hM, hcov, hsub, gb⟩ := hrel.out
    clear hrel
    obtain ⟨d1, d2, d3, d4, f1, f3, f4, hbw⟩ := cells.out wr gb
    rcases hrr.next Tryz.underlying9 0 with ⟨rfl, hnx⟩ | ⟨x, w', hx, hnx, hr', hgr, hsz', hen⟩
    · have FIN : Hid (∀ W2, NmAt W2 (wr.setCell ⟨b, 1, none⟩ (.map (some w.heap.size))).heap.size l ∧ Gb (wr.setCell ⟨b, 1, none⟩ (.map (some w.heap.size))) W2 ∧ W2.heap.size = (wr.setCell ⟨b, 1, none⟩ (.map (some w.heap.size))).heap.size + 1 →
          W2.cell? ⟨b, 3, none⟩ = some sv ∧ W2.cell? ⟨b, 4, none⟩ = some cv ∧ W2.frozen? ⟨b, 3, none⟩ = false ∧ W2.frozen? ⟨b, 4, none⟩ = false ∧ b < W2.heap.size ∧
          ∃ ls fm' sn', SeOut w ((W2.setCell ⟨b, 3, none⟩ (.map (some wr.heap.size))).setCell ⟨b, 4, none⟩ (.slice none 0 0)) b nb l ks (fileV fv fs) r st lf ls fm' sn') := fun W2 ⟨n2, g2, s2⟩ => by
        have ss : (wr.setCell ⟨b, 1, none⟩ (.map (some w.heap.size))).heap.size = wr.heap.size := World.size_setCell _ _ _
        rw [ss] at n2 s2
        have blkr : wr.heap[b]? = _ := (gb.block b HB.out.2.1).trans HB.out.1
        have blk1 := heap_set0 (o := 1) (x := .map (some w.heap.size)) blkr
        have blk2 := (g2.block b (by rw [ss]; exact hbw)).trans blk1
        refine ⟨by simp [World.cell?, blk2], by simp [World.cell?, blk2], by simp [World.frozen?, blk2], by simp [World.frozen?, blk2], (Array.getElem?_eq_some_iff.1 blk2).1, kn, w.heap.size, wr.heap.size, ?_⟩
        have oth : ∀ k, k < wr.heap.size → k ≠ b → ((W2.setCell ⟨b, 3, none⟩ (.map (some wr.heap.size))).setCell ⟨b, 4, none⟩ (.slice none 0 0)).heap[k]? = wr.heap[k]? := fun k hk e => by
          rw [Below.heap_setCell _ _ _ _ e, Below.heap_setCell _ _ _ _ e, g2.block k (by rw [ss]; exact hk), Below.heap_setCell _ _ _ _ e]
        have hbn : wr.heap.size ≠ b := Nat.ne_of_gt hbw
        refine ⟨?_, hM.same (oth _ hM.lt (Nat.ne_of_gt HB.out.2.1)), ?_, ?_, fun p hp => ?_, hsub, ⟨Nat.le_refl _, gb.size, Nat.ne_of_lt hM.lt⟩, ?_⟩
        · rw [heap_set0 (heap_set0 blk2)]; rfl
        · exact H.out.2.2.1.same ((oth _ (Nat.lt_of_lt_of_le H.out.2.2.1.lt gb.size) HB.out.2.2).trans (gb.block _ H.out.2.2.1.lt))
        · exact n2.same (by rw [Below.heap_setCell _ _ _ _ hbn, Below.heap_setCell _ _ _ _ hbn])
        · have := (hcov p.1 (List.mem_map_of_mem hp)).resolve_left (by simp)
          rw [num_mem H.out.2.2.1.nodup hp] at this
          exact this
        · have k1 : Kf (fun k => k = b) w wr := Kf.gb gb _
          have k2 : Kf (fun k => k = b) w W2 := (kb_set k1 _ _).then (Kf.gb g2 (fun k => k = b)) fun _ _ h => h
          exact kb_set (kb_set k2 _ _) _ _
      have cM := CM.out (wr.setCell ⟨b, 1, none⟩ (.map (some w.heap.size))) (H.out.2.2.1.same (by
        rw [Below.heap_setCell _ _ _ _ HB.out.2.2]; exact gb.block _ H.out.2.2.1.lt))
      have ss : (wr.setCell ⟨b, 1, none⟩ (.map (some w.heap.size))).heap.size = wr.heap.size := World.size_setCell _ _ _
      clear hrr hgk gb hM hcov hsub CM cells H
      go_wp2_with fail
      refine cM.mono ?_
      rintro e w2 ⟨rfl, R⟩
      obtain ⟨e3, e4, e5, e6, e7, R⟩ := FIN.out w2 R.out
      have RR : Hid _ := R
      clear R FIN cM
      go_wp2
      go_end0
      exact ⟨rfl, RR.out⟩
    · have hx' : num l x ∈ ks := H.out.2.1 _ (mem_num (hrr.sub x hx))
      have g' : Gb w w' := below_grown' gb hgr (fun k e => by cases e; exact Nat.le_succ _)
      have hM' : MapA Tryz.prog 3 w' w.heap.size kn (fileV fv fs) := hM.same (hgr.block _ hM.lt (fun e => by injection e with e; omega))
      have hfl := (MapA.same H.out.1 (g'.block _ H.out.1.lt)).look Tryz.underlying3 (t := 63) Tryz.underlying63 (zeroFile w') (MapA.kwf H.out.1 _ hx')
      rw [if_pos hx'] at hfl
      obtain ⟨va, vm, vc, ev⟩ := H.out.2.2.2 _ hx'
      have hkn : kn.length < 1000000 := Nat.lt_of_le_of_lt (nodup_sub_le hM.nodup hsub) (by omega)
      obtain ⟨W3, hp, hM3, hT⟩ := hM'.put Tryz.underlying3 (t := 63) Tryz.underlying63 hkn (MapA.kwf H.out.1 _ hx') (fileV fv fs (num l x))
      have hle : (lf'.erase x).length < gk := by
        rw [hgk, List.length_erase_of_mem hx]
        have := List.length_pos_of_mem hx
        omega
      have hne : ∀ k, k ≠ w.heap.size → k < w'.heap.size → W3.heap[k]? = w'.heap[k]? := fun k e hk => hT.grown.block k hk fun e' => e (by cases e'; rfl)
      have R : Hid (seI w fm nb l ks (fileV fv fs) (lf'.erase x).length W3) := by
        refine ⟨lf'.erase x, putK kn (num l x), rfl, ?_, ?_, fun y hy => ?_, fun n hn => ?_, ?_⟩
        · exact hr'.same (hne _ (Nat.ne_of_lt H.out.2.2.1.lt) hr'.map.lt) (hne _ (by omega) hr'.lt)
        · refine hM3.ext fun n hn => ?_
          unfold putF
          split
          · rename_i e; rw [e]
          · rfl
        · rcases hcov y hy with h | h
          · by_cases e : y = x
            · subst e; exact .inr (mem_putK.2 (.inl rfl))
            · exact .inl ((List.mem_erase_of_ne e).2 h)
          · exact .inr (mem_putK.2 (.inr h))
        · rcases mem_putK.1 hn with rfl | hn
          · exact hx'
          · exact hsub n hn
        · exact below_grown' g' hT.grown fun k e => by cases e; exact Nat.le_refl _
      obtain ⟨d1', _, _, _, _, _, _, hbw'⟩ := cells.out w' g'
      have efl : fileV fv fs (num l x) = .agg #[.slice va vm vc, .int .i64 (fs (num l x) : Int)] := by unfold fileV; rw [ev]
      rw [efl] at hfl hp
      generalize (lf'.erase x).length = gl at *
      generalize num l x = n at *
      generalize fs n = fsn at *
      clear hrr hr' hgk gb hM hM' hM3 hcov hsub CM cells H g' hT hne hgr efl ev hkn hx
      go_wp2
      go_roundg gl
      case measure => exact hle
      case rel => exact R.out
end Go.Proofs.YtcbhhdjjanekaaaGreatDoor
