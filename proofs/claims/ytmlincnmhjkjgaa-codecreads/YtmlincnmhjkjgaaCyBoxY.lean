/- vec.Box, of rows that may be. -/
import Derived.Test.YtmlincnmhjkjgaaCyBox
namespace Go.Proofs.Ytmlincnmhjkjgaa
open Go.RowKit Go.Sort Go.Maps

theorem boxE_ok {rs : List Rw} {d : Int} (h : boxE rs d = 0) : 1 ≤ d ∧ d ≤ 64 ∧ 1 ≤ rs.length ∧ idsE rs d = 0 := by
  unfold boxE at h; split at h
  · rename_i h1
    split at h
    · cases h
    · exact ⟨h1.1, h1.2, by omega, h⟩
  · cases h
theorem OutR.set {w W : World} {r : Reg} {vl vh vi : Value} (h : OutR w W r vl vh vi) (h1 : vl.ownBlock ≠ some w.heap.size) (h2 : vh.ownBlock ≠ some w.heap.size) (h3 : vi.ownBlock ≠ some w.heap.size) (i : Nat) (u : Value) : OutR w (W.setCell ⟨w.heap.size, i, none⟩ u) r vl vh vi :=
  ⟨gb_set h.1 (Nat.le_refl _) u, ownsRow_setCell_other h.2.1 h1 u, ownsRow_setCell_other h.2.2.1 h2 u, ownsRow_setCell_other h.2.2.2.1 h3 u, h.2.2.2.2⟩

set_option maxHeartbeats 4000000 in
set_option maxRecDepth 100000 in
theorem box_yes {w : World} {v : Value} {rs : List Rw} (h : RdW w v rs) (d : Int) (hlen : rs.length ≤ 4611686018427387904) (hwf : ∀ i, i < rs.length → (Lit.int .i64 rs[i]!.1).wf = true) (hok : boxE rs d = 0) :
    Calls Try.prog 40 #[v, .int .i64 d] w fun e w' => ∃ vl vh vi, e = .returned (.tuple #[rv (boxR rs d) vl vh vi, .int .i64 (boxE rs d)]) ∧ OutR w w' (boxR rs d) vl vh vi := by
  have ER : boxR rs d = ⟨2, boxL rs d.toNat, boxH rs d.toNat, 0, srt (idsOf rs)⟩ := by unfold boxR; rw [if_pos hok]
  rw [ER, hok]
  obtain ⟨d1, d2, r1, ie⟩ := boxE_ok hok
  obtain ⟨r2, rok⟩ := idsE_ok ie
  have G0 : Gb w (w.alloc z36) := gb_alloc (Below.refl _ _) _
  have C50 := idsOf_c (h.gb G0) d hlen hwf
  rw [ie] at C50
  have c34 := fun W => isDim_v d true (by simp; omega) W
  obtain ⟨m, hm⟩ : ∃ m : Nat, d = (m : Int) := ⟨d.toNat, by omega⟩
  subst hm
  have hVl : ∀ i, i < rs.length → rs[i]!.2.length = m ∧ allR rs[i]!.2 = true := by
    intro i hi
    have := chk_ok (rok i hi).1
    exact ⟨by omega, this.2.2.2⟩
  have VL : Hid (∀ i, i < rs.length → rs[i]!.2.length = m ∧ allR rs[i]!.2 = true) := hVl
  have HW : Hid (RdW w v rs) := h
  obtain ⟨a, cap, rfl, ha⟩ := h
  have A : Hid (∀ i, i < rs.length → ∃ b o u, a = some ⟨b, o, none⟩ ∧ w.cell? ⟨b, o + i * 2, none⟩ = some (.int .i64 rs[i]!.1) ∧ w.cell? ⟨b, o + i * 2 + 1, none⟩ = some u ∧ RdI w u rs[i]!.2) := ha
  obtain ⟨b, o, u, ea, _, h2, h3⟩ := ha 0 (by omega)
  have hV0 := (hVl 0 (by omega)).1
  rw [show o + 0 * 2 + 1 = o + 1 by omega] at h2
  have H3 : Hid (RdI w u rs[0]!.2) := h3
  obtain ⟨pv, cv, rfl, _⟩ := h3
  rw [hV0] at h2 H3
  subst ea
  rw [show (m : Int).toNat = m by omega]
  obtain ⟨n, hN⟩ : ∃ n, n = rs.length := ⟨_, rfl⟩
  have N : Hid (n = rs.length) := hN
  rw [← hN] at r1 r2 C50 ⊢
  have hn0 : 0 < n := by omega
  have n0 : ((n : Int) == 0) = false := by rw [beq_eq_false_iff_ne]; omega
  have L0 : Hid (rs[0]!.2.length = m) := hV0
  have BL : Hid (boxL rs m = tab (loAt rs rs.length) m ∧ boxH rs m = tab (hiAt rs rs.length) m) := ⟨rfl, rfl⟩
  clear hlen hwf hok ER rok hVl ha hV0 hN ie
  go_enter Try.func40, Try.ntmps40
  go_wp2_with fail
  refine (c34 _).mono ?_
  rintro e w' ⟨rfl, e2⟩
  subst e2
  go_wp2_with fail
  refine C50.mono ?_
  rintro e w1 ⟨vi, rfl, g1, k1, _⟩
  have hsl : (srt (idsOf rs)).length = n := by rw [srt_len]; unfold idsOf; rw [List.length_map]; exact N.out.symm
  obtain ⟨gi, ci, ei, _, _⟩ := own_form (k1 trivial) (by rw [hsl]; exact r1)
  rw [hsl] at ei
  have OI : Hid (Own w1 (w.alloc z36).heap.size vi (srt (idsOf rs)) ∧ Gb (w.alloc z36) w1) := ⟨k1 trivial, g1⟩
  subst ei
  clear hsl
  have GW : Gb w w1 := gb_trans G0 g1
  have x0 := gb_keeps GW h2
  have tok1 : True := trivial
  have CL := fun W' (g : Gb w1 W') => clone_c (H3.out.gb (gb_trans GW g)) (by have := L0.out; omega) (by have := L0.out; omega)
  clear C50 c34 k1
  go_wp2_with fail
  go_region_held3 (fun w' => w'.cell? ⟨b, o + 1, none⟩ = some (.slice pv m cv)) (first | (with_reducible exact gb_keeps (by assumption) (by assumption)) | exact x0)
    (first
      | (go_at_call 43; have _t := tok1; refine (CL _ (Below.refl _ _).drew).mono ?_; rintro e w2 ⟨v1, rfl, ho1, k1⟩; clear tok1)
      | (go_at_call 43; refine (CL _ (gb_trans (Below.refl _ _).drew k1)).mono ?_; rintro e w3 ⟨v2, rfl, ho2, k2⟩))
  obtain ⟨gl, cl, e1, bl1, bl2⟩ := own_form ho1 (by have := L0.out; omega)
  obtain ⟨gh, ch, e2, bh1, bh2⟩ := own_form ho2 (by have := L0.out; omega)
  rw [L0.out] at e1 e2
  subst e1 e2
  have s2 := k1.size
  simp only [World.size_drew] at bl1 s2
  have ST : Hid (BxSt w1 w3 gl gh cl ch m (loAt rs 0) (hiAt rs 0)) := by
    have hT : rs[0]!.2 = tab (loAt rs 0) m := by rw [← L0.out]; exact tab_of _
    have hT2 : rs[0]!.2 = tab (hiAt rs 0) m := by rw [← L0.out]; exact tab_of _
    refine ⟨(hT ▸ ho1).gb k2, (hT2 ▸ ho2).mono s2, by omega, bl1, by omega, gb_trans (gb_trans (Below.refl _ _).drew k1) k2⟩
  clear ho1 ho2 k1 k2 CL x0 bl1 bl2 bh1 bh2 s2
  go_wp2
  go_loopw [44] (fun iv w' => ∃ k : Nat, iv = .int .i64 (k : Int) ∧ k ≤ n ∧ Hid (BxSt w1 w' gl gh cl ch m (loAt rs k) (hiAt rs k))) (fun iv _ => n - (intOf iv).toNat)
  case atStart => exact ⟨0, rfl, Nat.zero_le _, ST⟩
  case round =>
    clear ST
    obtain ⟨k, rfl, hk, Y⟩ := hrel
    by_cases hkn : k < n
    · have hki : (k : Int) < (n : Int) := by omega
      have hkl : k < rs.length := by have := N.out; omega
      obtain ⟨b', o', u, ea, y0, y1, y2⟩ := A.out k hkl
      cases ea
      have GY := gb_trans GW Y.out.gb
      have y0 := gb_keeps GY y0
      have y1 := gb_keeps GY y1
      have Vk := VL.out k hkl
      obtain ⟨pk, ck, rfl, yk⟩ := y2
      rw [Vk.1] at y1 yk
      have AK : Hid (∀ i, i < m → ∃ b o, pk = some ⟨b, o, none⟩ ∧ w.cell? ⟨b, o + i, none⟩ = some (.int .i64 rs[k]!.2[i]!)) := yk
      generalize rs[k]!.1 = idk at *
      clear yk Vk hkl GY
      have Y2 : Hid (BxSt w1 (wr.alloc (.cells #[.int .i64 idk, .slice pk m ck] 50)) gl gh cl ch m (loAt rs k) (hiAt rs k)) := Y.out.alloc _
      have hkb : decide ((k : Int) < (n : Int)) = true := by simp; omega
      go_wp2
      go_loopw [51] (fun iv w' => ∃ i : Nat, ∃ f h : Nat → Int, iv = .int .i64 (i : Int) ∧ i ≤ m ∧ Hid (BxSt w1 w' gl gh cl ch m f h ∧ ∀ t, t < m → f t = (if t < i then loAt rs (k + 1) t else loAt rs k t) ∧ h t = (if t < i then hiAt rs (k + 1) t else hiAt rs k t))) (fun iv _ => m - (intOf iv).toNat)
      case atStart => exact ⟨0, _, _, rfl, Nat.zero_le _, Y2.out, fun t _ => ⟨by simp, by simp⟩⟩
      case round =>
        clear Y Y2 y0 y1
        obtain ⟨i, f, h, rfl, hi, Z⟩ := hrel
        by_cases him : i < m
        · have hii : (i : Int) < (m : Int) := by omega
          obtain ⟨bx', ox', ex, hx⟩ := AK.out i him
          subst ex
          have hx := gb_keeps (gb_trans GW Z.out.1.gb) hx
          obtain ⟨l0, l1⟩ := Z.out.1.low.at him
          obtain ⟨m0, m1⟩ := Z.out.1.high.at him
          have NE : Hid (gl ≠ gh) := Z.out.1.ne
          have ne' : gl ≠ gh := NE.out
          have ne2 : gh ≠ gl := fun e => NE.out e.symm
          have ZN : Hid (∀ x y : Int, x = loAt rs (k + 1) i → y = hiAt rs (k + 1) i → ∀ t, t < m → (if t = i then x else f t) = (if t < i + 1 then loAt rs (k + 1) t else loAt rs k t) ∧ (if t = i then y else h t) = (if t < i + 1 then hiAt rs (k + 1) t else hiAt rs k t)) := by
            intro x y hx hy t ht
            obtain ⟨z1, z2⟩ := Z.out.2 t ht
            by_cases e : t = i
            · subst e; rw [if_pos rfl, if_pos (by omega), if_pos rfl, if_pos (by omega)]; exact ⟨hx, hy⟩
            · rw [if_neg e, if_neg e, z1, z2]
              by_cases l : t < i
              · rw [if_pos l, if_pos (by omega), if_pos l, if_pos (by omega)]; exact ⟨rfl, rfl⟩
              · rw [if_neg l, if_neg (by omega), if_neg l, if_neg (by omega)]; exact ⟨rfl, rfl⟩
          have F0 : Hid (loAt rs (k + 1) i = min (f i) rs[k]!.2[i]! ∧ hiAt rs (k + 1) i = max (h i) rs[k]!.2[i]!) := by
            obtain ⟨z1, z2⟩ := Z.out.2 i him
            rw [if_neg (by omega)] at z1 z2
            rw [z1, z2]; exact ⟨rfl, rfl⟩
          have ZS := Z.out.1
          generalize rs[k]!.2[i]! = x at *
          generalize f i = lo0 at *
          generalize h i = hi0 at *
          go_wp2
          go_region
          all_goals
            clear l0 l1 m0 m1 hx
            go_wp2
            refine ⟨⟨i + 1, _, _, by go_num, him, BxSt.set ZS.drew him _ _, ZN.out _ _ F0.out.1.symm F0.out.2.symm⟩, by simp [intOf]; omega⟩
        · have hii : ¬ (i : Int) < (m : Int) := by omega
          have YN : Hid (BxSt w1 wr gl gh cl ch m (loAt rs (k + 1)) (hiAt rs (k + 1))) := by
            obtain ⟨z1, z2⟩ := Z.out
            have e1 : tab f m = tab (loAt rs (k + 1)) m := tab_ext (fun t ht => by rw [(z2 t ht).1, if_pos (by omega)])
            have e2 : tab h m = tab (hiAt rs (k + 1)) m := tab_ext (fun t ht => by rw [(z2 t ht).2, if_pos (by omega)])
            exact ⟨e1 ▸ z1.low, e2 ▸ z1.high, z1.ne, z1.b1, z1.b2, z1.gb⟩
          clear Z
          go_wp2
          refine ⟨⟨k + 1, by go_num, hkn, YN⟩, by simp [intOf]; omega⟩
    · have hki : ¬ (k : Int) < (n : Int) := by omega
      have hkn2 : k = rs.length := by have := N.out; omega
      have YF := Y.out
      rw [hkn2] at YF
      obtain ⟨⟨q0, q1, q2, q3, q4, q5⟩, qf⟩ := reg0 (gb_trans OI.out.2 YF.gb)
      have f0 := qf 0 (by omega)
      have f1 := qf 1 (by omega)
      have f2 := qf 2 (by omega)
      have f3 := qf 3 (by omega)
      have f4 := qf 4 (by omega)
      have f5 := qf 5 (by omega)
      clear qf Y hkn2
      have hB : w.heap.size ≤ w.heap.size := Nat.le_refl _
      have z1 : w.heap.size + 1 ≤ w1.heap.size := by have := OI.out.2.size; rwa [World.size_alloc] at this
      have FIN : Hid (OutR w wr ⟨2, boxL rs m, boxH rs m, 0, srt (idsOf rs)⟩ (.slice (some ⟨gl, 0, none⟩) m cl) (.slice (some ⟨gh, 0, none⟩) m ch) (.slice (some ⟨gi, 0, none⟩) n ci) ∧ w.heap.size < gl ∧ w.heap.size < gh ∧ (Value.slice (some ⟨gi, 0, none⟩) n ci).ownBlock ≠ some w.heap.size) := by
        have o1 := YF.low
        have o2 := YF.high
        have o3 := OI.out.1.gb YF.gb
        have s1 := YF.b1
        have s2 := YF.b2
        rw [← BL.out.1] at o1
        rw [← BL.out.2] at o2
        refine ⟨⟨gb_trans GW YF.gb, o1.mono (by omega), o2.mono (by omega), o3.mono (by rw [World.size_alloc]; omega), ?_⟩, by omega, by omega, ?_⟩
        · intro g hg
          have hg' : gl = g := by simpa [Value.ownBlock] using hg
          subst hg'
          refine ⟨by simp [Value.ownBlock]; exact fun e => YF.ne e.symm, fun e => ?_⟩
          have := (World.ownsRow.lt OI.out.1 gl e).2
          omega
        · intro e
          have := (World.ownsRow.lt OI.out.1 w.heap.size e).1
          rw [World.size_alloc] at this; omega
      clear YF
      go_wp2
      refine bodyPost_ret (v := .tuple #[rv ⟨2, boxL rs m, boxH rs m, 0, srt (idsOf rs)⟩ (.slice (some ⟨gl, 0, none⟩) m cl) (.slice (some ⟨gh, 0, none⟩) m ch) (.slice (some ⟨gi, 0, none⟩) n ci), .int .i64 0]) (by simp [results, Try.results40, go_sem, q0, q1, q2, q3, q4, q5, hi, lo]) rfl ⟨_, _, _, rfl, ?_⟩
      obtain ⟨p0, p1, p2, p3⟩ := FIN.out
      have b1 : (Value.slice (some ⟨gl, 0, none⟩) m cl).ownBlock ≠ some w.heap.size := by simp [Value.ownBlock]; omega
      have b2 : (Value.slice (some ⟨gh, 0, none⟩) m ch).ownBlock ≠ some w.heap.size := by simp [Value.ownBlock]; omega
      exact (((((p0.set b1 b2 p3 _ _).set b1 b2 p3 _ _).set b1 b2 p3 _ _).set b1 b2 p3 _ _).set b1 b2 p3 _ _).set b1 b2 p3 _ _
theorem box_c {w : World} {v : Value} {rs : List Rw} (h : RdW w v rs) (d : Int) (hlen : rs.length ≤ 4611686018427387904) (hwf : ∀ i, i < rs.length → (Lit.int .i64 rs[i]!.1).wf = true) :
    Calls Try.prog 40 #[v, .int .i64 d] w fun e w' => ∃ vl vh vi, e = .returned (.tuple #[rv (boxR rs d) vl vh vi, .int .i64 (boxE rs d)]) ∧ OutR w w' (boxR rs d) vl vh vi := by
  by_cases hok : boxE rs d = 0
  · exact box_yes h d hlen hwf hok
  · exact box_no h d hlen hwf hok
end Go.Proofs.Ytmlincnmhjkjgaa
