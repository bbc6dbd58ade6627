/- Clone: the walk. -/
import Derived.Test.YtkagnoinifffdaaRx14
namespace Go.Proofs.Ytkagnoinifffdaa
open Go.RowKit Go.Lib Go.Maps

variable {w w' : World} {b : Nat} {q q' : Dq} {F G : Nat → Prop} {ks : List Int} {fm nb sn : Nat} {cv : Value} {fv : Int → Value}
set_option maxHeartbeats 4000000 in
set_option maxRecDepth 100000 in
theorem clone_c (h : DkAt w b q F) (ok : q.Ok) (hst : q.st < 100000) : Calls Try.prog 13 #[.pointer (some ⟨b, 0, none⟩)] w fun e w' => ∃ b', e = .returned (.pointer (some ⟨b', 0, none⟩)) ∧ ClOut w w' b' q := by
  have hn := none_c h ok
  obtain ⟨ks, fm, nb, sn, cv, fv, h1, h2, h3, h4⟩ := h
  obtain ⟨⟨c0, c1, c2, c3, c4, c5, c6⟩, _⟩ := h1.cells
  have hb := h1.lt
  obtain ⟨ca, cc, ec⟩ := row_fm h1.chs
  have bl0 : (w.alloc (twB q (w.heap.size + 1) nb sn cv)).heap[w.heap.size]? = some (twB q (w.heap.size + 1) nb sn cv) := heap_alloc_new _ _
  have s1 : (w.alloc (twB q (w.heap.size + 1) nb sn cv)).heap.size = w.heap.size + 1 := by simp
  have s3 : ((w.alloc (twB q (w.heap.size + 1) nb sn cv)).alloc (.map #[] 0)).heap.size = w.heap.size + 2 := by simp
  have bl2 : ((w.alloc (twB q (w.heap.size + 1) nb sn cv)).alloc (.map #[] 0)).heap[w.heap.size]? = some (twB q (w.heap.size + 1) nb sn cv) := (Below.heap_alloc _ _ _ (by rw [s1]; omega)).trans bl0
  have g3 : Gb w ((w.alloc (twB q (w.heap.size + 1) nb sn cv)).alloc (.map #[] 0)) := gb_alloc (gb_alloc (Below.refl _ _) _) _
  have m3 : MapA Try.prog 3 ((w.alloc (twB q (w.heap.size + 1) nb sn cv)).alloc (.map #[] 0)) (w.heap.size + 1) [] (fileV fv q.fs) := by
    have := MapA.new (P := Try.prog) (kt := 3) (w.alloc (twB q (w.heap.size + 1) nb sn cv)) (fileV fv q.fs)
    rw [s1] at this
    exact this
  obtain ⟨w2, hrg, hR, hgr, hsz⟩ := MapA.range (MapA.same h1.fls (g3.block _ h1.fls.lt)) Try.underlying3 (t := 59) Try.underlying59
  rw [s3] at hrg hR hsz
  have g2 : Gb w w2 := below_grown' g3 hgr (fun k e => by cases e)
  have ST : Hid (ClJ w q fm nb sn cv ks fv ks.length w2) := ⟨ks, fv, [], rfl, hR, m3.same (hgr.block _ (by rw [s3]; omega) (by simp)), fun n hn => .inl hn, by simp, by simp, by simp, (hgr.block _ (by rw [s3]; omega) (by simp)).trans bl2, g2⟩
  have H : Hid (DkM w b q F ks fm nb sn cv fv ∧ q.Ok ∧ q.st < 100000 ∧ (∀ n ∈ ks, 0 ≤ n ∧ n < (q.st : Int)) ∧ ks.length ≤ q.st) := ⟨h1, ok, hst, h2, h3⟩
  have CE : Hid (∀ W, Gb w W → W.cell? ⟨b, 2, none⟩ = some (.map (some nb)) ∧ b < W.heap.size) := fun W g => ⟨gb_keeps g c2, Nat.lt_of_lt_of_le hb g.size⟩
  have hmk := @run_makeMap Try.prog
  subst ec
  unfold twB at hrg
  clear h1 ok hst h2 h3 h4 hR hgr hsz g2 m3 g3 bl0 bl2 s1 s3
  go_enter Try.func13, Try.ntmps13
  go_wp2_with fail
  refine hn.mono ?_
  rintro e w' ⟨rfl, rfl⟩
  go_wp2
  clear hrg hmk hn
  go_loopg [4] ks.length (fun g ov wx => Hid (ClJ w q fm nb sn (.slice ca q.ch.length cc) ks fv g wx))
  case atStart => exact ST
  case round =>
    clear ST
    obtain ⟨lf, gv, dn, hgk, X⟩ := hrel.out
    clear hrel
    obtain ⟨d2, hbw⟩ := CE.out wr X.gb
    obtain ⟨hD, ok, hst, h2, h3⟩ := H.out
    rcases X.rng.next Try.underlying3 0 with ⟨rfl, hnx⟩ | ⟨x, w', hx, hnx, hr', hgr, hsz', hen⟩
    · have cF := X.fin hD ok hst h2 h3
      clear X hD ok hst h2 h3 H CE hgk
      go_wp2_with fail
      refine cF.mono ?_
      rintro e w1 ⟨rfl, e1, e2, e3, e4, e5, e6, c3⟩
      have c3 := c3.out
      go_wp2_with fail
      refine c3.mono ?_
      rintro e w3 ⟨s3, rfl, i1, i2, i3, i4, i5, c4⟩
      have c4 := c4.out
      clear c3 cF
      go_wp2_with fail
      refine c4.mono ?_
      rintro e w5 ⟨cw, rfl, ⟨xa, xc, rfl⟩, j1, j2, j3, R⟩
      clear c4
      go_wp2
      go_ret
      exact ⟨_, rfl, R.out⟩
    · have hxk := X.rng.sub x hx
      obtain ⟨va, vc, ev⟩ := row_fm (hD.own x hxk)
      have efl : fileV fv q.fs x = .agg #[.slice va (q.fb x).length vc, .int .i64 (q.fs x : Int)] := by unfold fileV; rw [ev]
      rw [efl] at hnx hen
      have hle : (lf.erase x).length < gk := by
        rw [hgk, List.length_erase_of_mem hx]
        have := List.length_pos_of_mem hx
        omega
      have CC : Hid (∀ Y, Gb (w'.alloc (.cells #[.slice va (q.fb x).length vc, .int .i64 (q.fs x : Int)] 71)) Y → Calls Try.prog 39 #[.slice va (q.fb x).length vc] Y fun e w4 => ∃ a c, e = .returned (.slice a (q.fb x).length c) ∧ w4.cell? ⟨w.heap.size, 1, none⟩ = some (.map (some (w.heap.size + 1))) ∧ w.heap.size < w4.heap.size ∧
          w4.cell? ⟨w'.heap.size, 1, none⟩ = some (.int .i64 (q.fs x : Int)) ∧ ∃ W5, (Instr.mapUpdate 59 (.map (some (w.heap.size + 1))) (.int .i64 x) (.agg #[.slice a (q.fb x).length c, .int .i64 (q.fs x : Int)])).run Try.prog w4 = .ok () W5 ∧ Hid (ClJ w q fm nb sn (.slice ca q.ch.length cc) ks fv (lf.erase x).length W5)) := fun Y gY => by
        have := X.step hD ok (by omega) hx hr' hgr _ Y gY
        rw [ev] at this
        refine this.mono ?_
        rintro e w4 ⟨v', rfl, i1, i2, i3, ⟨a, c, rfl⟩, W5, hp, gv', dn', Z⟩
        exact ⟨a, c, rfl, i1, i2, gb_keeps i3 (by simp [go_sem]), W5, hp, _, gv', dn', rfl, Z⟩
      have g1 : Gb w w' := below_grown' X.gb hgr fun k e => by injection e with e; omega
      obtain ⟨t1, _, _, _, _, t6⟩ := twB_cell ((hgr.block _ (by have := X.rng.lt; omega) (fun e => by injection e with e; omega)).trans X.blk)
      have hne : w.heap.size ≠ w'.heap.size := Nat.ne_of_lt t6
      generalize hgl : (lf.erase x).length = gl at *
      generalize (q.fb x).length = m at *
      generalize q.fs x = s at *
      clear hgl X hD ok hst h2 h3 H CE hgk hxk ev efl hr' hgr g1 hx hsz'
      go_wp2
      go_region_with (go_at_call 39; refine (CC.out _ (Below.refl _ (w'.alloc (.cells #[.slice va m vc, .int .i64 (s : Int)] 71))).drew).mono ?_; rintro e w4 ⟨a, c, rfl, i1, i2, i3, W5, hp, R⟩)
      all_goals
        clear CC hnx hen i1 i2 i3 hp t1 t6
        go_wp2
        go_roundg gl
        case measure => exact hle
        case rel => exact R.out
end Go.Proofs.Ytkagnoinifffdaa
