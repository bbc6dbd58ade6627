import Derived.Test.YtbnljabeccebiabGreatKs4
import Derived.Test.YtbnljabeccebiabGreatKs10
/- vec.Box, of rows that may be. -/
namespace Go.Proofs.YtbnljabeccebiabGreat
open Go.RowKit Go.Sort Go.Maps

theorem boxE_ok {rs : List Rw} {d : Int} (h : boxE rs d = 0) : 1 ≤ d ∧ d ≤ 64 ∧ 1 ≤ rs.length ∧ idsE rs d = 0 := by
  unfold boxE at h; split at h
  · rename_i h1
    split at h
    · cases h
    · exact ⟨h1.1, h1.2, by omega, h⟩
  · cases h
theorem OutR.set {w W : World} {r : Reg} {vl vh vi : Value} (h : OutR w W r vl vh vi) (h1 : vl.ownBlock ≠ some w.heap.size) (h2 : vh.ownBlock ≠ some w.heap.size) (h3 : vi.ownBlock ≠ some w.heap.size) (i : Nat) (u : Value) : OutR w (W.setCell ⟨w.heap.size, i, none⟩ u) r vl vh vi :=
  ⟨gb_set h.1 (Nat.le_refl _) u, ownsRow_setCell_other h.2.1 h1 u, ownsRow_setCell_other h.2.2.1 h2 u, ownsRow_setCell_other h.2.2.2.1 h3 u, h.2.2.2.2⟩

set_option maxHeartbeats 4000000 in
set_option maxRecDepth 100000 in
theorem box_yes {w : World} {v : Value} {rs : List Rw} (h : RdW w v rs) (d : Int) (hlen : rs.length ≤ 4611686018427387904) (hwf : ∀ i, i < rs.length → (Lit.int .i64 rs[i]!.1).wf = true) (hok : boxE rs d = 0) :
    Calls Tryz.prog 60 #[v, .int .i64 d] w fun e w' => ∃ vl vh vi, e = .returned (.tuple #[rv (boxR rs d) vl vh vi, .int .i64 (boxE rs d)]) ∧ OutR w w' (boxR rs d) vl vh vi := by
  have ER : boxR rs d = ⟨2, boxL rs d.toNat, boxH rs d.toNat, 0, srt (idsOf rs)⟩ := by unfold boxR; rw [if_pos hok]
  rw [ER, hok]
  obtain ⟨d1, d2, r1, ie⟩ := boxE_ok hok
  obtain ⟨r2, rok⟩ := idsE_ok ie
  have G0 : Gb w (w.alloc z36) := gb_alloc (Below.refl _ _) _
  have C50 := idsOf_c (h.gb G0) d hlen hwf
  rw [ie] at C50
  have c34 := fun W => isDim_v d true (by simp; omega) W
  obtain ⟨m, hm⟩ : ∃ m : Nat, d = (m : Int) := ⟨d.toNat, by omega⟩
  subst hm
  have hVl : ∀ i, i < rs.length → rs[i]!.2.length = m ∧ allR rs[i]!.2 = true := by
    intro i hi
    have := chk_ok (rok i hi).1
    exact ⟨by omega, this.2.2.2⟩
  have VL : Hid (∀ i, i < rs.length → rs[i]!.2.length = m ∧ allR rs[i]!.2 = true) := hVl
  have HW : Hid (RdW w v rs) := h
  obtain ⟨a, cap, rfl, ha⟩ := h
  have A : Hid (∀ i, i < rs.length → ∃ b o u, a = some ⟨b, o, none⟩ ∧ w.cell? ⟨b, o + i * 2, none⟩ = some (.int .i64 rs[i]!.1) ∧ w.cell? ⟨b, o + i * 2 + 1, none⟩ = some u ∧ RdI w u rs[i]!.2) := ha
  obtain ⟨b, o, u, ea, _, h2, h3⟩ := ha 0 (by omega)
  have hV0 := (hVl 0 (by omega)).1
  rw [show o + 0 * 2 + 1 = o + 1 by omega] at h2
  have H3 : Hid (RdI w u rs[0]!.2) := h3
  obtain ⟨pv, cv, rfl, _⟩ := h3
  rw [hV0] at h2 H3
  subst ea
  rw [show (m : Int).toNat = m by omega]
  obtain ⟨n, hN⟩ : ∃ n, n = rs.length := ⟨_, rfl⟩
  have N : Hid (n = rs.length) := hN
  rw [← hN] at r1 r2 C50 ⊢
  have hn0 : 0 < n := by omega
  have n0 : ((n : Int) == 0) = false := by rw [beq_eq_false_iff_ne]; omega
  have L0 : Hid (rs[0]!.2.length = m) := hV0
  have BL : Hid (boxL rs m = tab (loAt rs rs.length) m ∧ boxH rs m = tab (hiAt rs rs.length) m) := ⟨rfl, rfl⟩
  clear hlen hwf hok ER rok hVl ha hV0 hN ie
  go_enter Tryz.func60, Tryz.ntmps60
  go_wp2_with fail
  refine (c34 _).mono ?_
  rintro e w' ⟨rfl, e2⟩
  subst e2
  go_wp2_with fail
  refine C50.mono ?_
  rintro e w1 ⟨vi, rfl, g1, k1, _⟩
  have hsl : (srt (idsOf rs)).length = n := by rw [srt_len]; unfold idsOf; rw [List.length_map]; exact N.out.symm
  obtain ⟨gi, ci, ei, _, _⟩ := own_form (k1 trivial) (by rw [hsl]; exact r1)
  rw [hsl] at ei
  have OI : Hid (Own w1 (w.alloc z36).heap.size vi (srt (idsOf rs)) ∧ Gb (w.alloc z36) w1) := ⟨k1 trivial, g1⟩
  subst ei
  clear hsl
  have GW : Gb w w1 := gb_trans G0 g1
  have x0 := gb_keeps GW h2
  have tok1 : True := trivial
  have CL := fun W' (g : Gb w1 W') => clone_c (H3.out.gb (gb_trans GW g)) (by have := L0.out; omega) (by have := L0.out; omega)
  clear C50 c34 k1
  go_wp2_with fail
  go_region_held3 (fun w' => w'.cell? ⟨b, o + 1, none⟩ = some (.slice pv m cv)) (first | (with_reducible exact gb_keeps (by assumption) (by assumption)) | exact x0)
    (first
      | (go_at_call 37; have _t := tok1; refine (CL _ (Below.refl _ _).drew).mono ?_; rintro e w2 ⟨v1, rfl, ho1, k1⟩; clear tok1)
      | (go_at_call 37; refine (CL _ (gb_trans (Below.refl _ _).drew k1)).mono ?_; rintro e w3 ⟨v2, rfl, ho2, k2⟩))
  obtain ⟨gl, cl, e1, bl1, bl2⟩ := own_form ho1 (by have := L0.out; omega)
  obtain ⟨gh, ch, e2, bh1, bh2⟩ := own_form ho2 (by have := L0.out; omega)
  rw [L0.out] at e1 e2
  subst e1 e2
  have s2 := k1.size
  simp only [World.size_drew] at bl1 s2
  have ST : Hid (BxSt w1 w3 gl gh cl ch m (loAt rs 0) (hiAt rs 0)) := by
    have hT : rs[0]!.2 = tab (loAt rs 0) m := by rw [← L0.out]; exact tab_of _
    have hT2 : rs[0]!.2 = tab (hiAt rs 0) m := by rw [← L0.out]; exact tab_of _
    refine ⟨(hT ▸ ho1).gb k2, (hT2 ▸ ho2).mono s2, by omega, bl1, by omega, gb_trans (gb_trans (Below.refl _ _).drew k1) k2⟩
  clear ho1 ho2 k1 k2 CL x0 bl1 bl2 bh1 bh2 s2
  go_wp2
  go_loopw [44] (fun iv w' => ∃ k : Nat, iv = .int .i64 (k : Int) ∧ k ≤ n ∧ Hid (BxSt w1 w' gl gh cl ch m (loAt rs k) (hiAt rs k))) (fun iv _ => n - (intOf iv).toNat)
  case atStart => exact ⟨0, rfl, Nat.zero_le _, ST⟩
  case round =>
    clear ST
    obtain ⟨k, rfl, hk, Y⟩ := hrel
    by_cases hkn : k < n
    · have hki : (k : Int) < (n : Int) := by omega
      have hkl : k < rs.length := by have := N.out; omega
      obtain ⟨b', o', u, ea, y0, y1, y2⟩ := A.out k hkl
      cases ea
      have GY := gb_trans GW Y.out.gb
      have y0 := gb_keeps GY y0
      have y1 := gb_keeps GY y1
      have Vk := VL.out k hkl
      obtain ⟨pk, ck, rfl, yk⟩ := y2
      rw [Vk.1] at y1 yk
      have AK : Hid (∀ i, i < m → ∃ b o, pk = some ⟨b, o, none⟩ ∧ w.cell? ⟨b, o + i, none⟩ = some (.int .i64 rs[k]!.2[i]!)) := yk
      generalize rs[k]!.1 = idk at *
      clear yk Vk hkl GY
      have Y2 : Hid (BxSt w1 (wr.alloc (.cells #[.int .i64 idk, .slice pk m ck] 49)) gl gh cl ch m (loAt rs k) (hiAt rs k)) := Y.out.alloc _
      have hkb : decide ((k : Int) < (n : Int)) = true := by simp; omega
      go_wp2
      go_loopw [51] (fun iv w' => ∃ i : Nat, ∃ f h : Nat → Int, iv = .int .i64 (i : Int) ∧ i ≤ m ∧ Hid (BxSt w1 w' gl gh cl ch m f h ∧ ∀ t, t < m → f t = (if t < i then loAt rs (k + 1) t else loAt rs k t) ∧ h t = (if t < i then hiAt rs (k + 1) t else hiAt rs k t))) (fun iv _ => m - (intOf iv).toNat)
      case atStart => exact ⟨0, _, _, rfl, Nat.zero_le _, Y2.out, fun t _ => ⟨by simp, by simp⟩⟩
      case round =>
        clear Y Y2 y0 y1
        obtain ⟨i, f, h, rfl, hi, Z⟩ := hrel
        by_cases him : i < m
        · have hii : (i : Int) < (m : Int) := by omega
          obtain ⟨bx', ox', ex, hx⟩ := AK.out i him
          subst ex
          have hx := gb_keeps (gb_trans GW Z.out.1.gb) hx
          obtain ⟨l0, l1⟩ := Z.out.1.low.at him
          obtain ⟨m0, m1⟩ := Z.out.1.high.at him
          have NE : Hid (gl ≠ gh) := Z.out.1.ne
          have ne' : gl ≠ gh := NE.out
          have ne2 : gh ≠ gl := fun e => NE.out e.symm
          have ZN : Hid (∀ x y : Int, x = loAt rs (k + 1) i → y = hiAt rs (k + 1) i → ∀ t, t < m → (if t = i then x else f t) = (if t < i + 1 then loAt rs (k + 1) t else loAt rs k t) ∧ (if t = i then y else h t) = (if t < i + 1 then hiAt rs (k + 1) t else hiAt rs k t)) := by
            intro x y hx hy t ht
            obtain ⟨z1, z2⟩ := Z.out.2 t ht
            by_cases e : t = i
            · subst e; rw [if_pos rfl, if_pos (by omega), if_pos rfl, if_pos (by omega)]; exact ⟨hx, hy⟩
            · rw [if_neg e, if_neg e, z1, z2]
              by_cases l : t < i
              · rw [if_pos l, if_pos (by omega), if_pos l, if_pos (by omega)]; exact ⟨rfl, rfl⟩
              · rw [if_neg l, if_neg (by omega), if_neg l, if_neg (by omega)]; exact ⟨rfl, rfl⟩
          have F0 : Hid (loAt rs (k + 1) i = min (f i) rs[k]!.2[i]! ∧ hiAt rs (k + 1) i = max (h i) rs[k]!.2[i]!) := by
            obtain ⟨z1, z2⟩ := Z.out.2 i him
            rw [if_neg (by omega)] at z1 z2
            rw [z1, z2]; exact ⟨rfl, rfl⟩
          have ZS := Z.out.1
          generalize rs[k]!.2[i]! = x at *
          generalize f i = lo0 at *
          generalize h i = hi0 at *
          go_wp2
          go_region
          all_goals
            clear l0 l1 m0 m1 hx
            go_wp2
            refine ⟨⟨i + 1, _, _, by go_num, him, BxSt.set ZS.drew him _ _, ZN.out _ _ F0.out.1.symm F0.out.2.symm⟩, by simp [intOf]; omega⟩
        · have hii : ¬ (i : Int) < (m : Int) := by omega
          have YN : Hid (BxSt w1 wr gl gh cl ch m (loAt rs (k + 1)) (hiAt rs (k + 1))) := by
            obtain ⟨z1, z2⟩ := Z.out
            have e1 : tab f m = tab (loAt rs (k + 1)) m := tab_ext (fun t ht => by rw [(z2 t ht).1, if_pos (by omega)])
            have e2 : tab h m = tab (hiAt rs (k + 1)) m := tab_ext (fun t ht => by rw [(z2 t ht).2, if_pos (by omega)])
            exact ⟨e1 ▸ z1.low, e2 ▸ z1.high, z1.ne, z1.b1, z1.b2, z1.gb⟩
          clear Z
          go_wp2
          refine ⟨⟨k + 1, by go_num, hkn, YN⟩, by simp [intOf]; omega⟩
    · have hki : ¬ (k : Int) < (n : Int) := by omega
      have hkn2 : k = rs.length := by have := N.out; omega
      have YF := Y.out
      rw [hkn2] at YF
      obtain ⟨⟨q0, q1, q2, q3, q4, q5⟩, qf⟩ := reg0 (gb_trans OI.out.2 YF.gb)
      have f0 := qf 0 (by omega)
      have f1 := qf 1 (by omega)
      have f2 := qf 2 (by omega)
      have f3 := qf 3 (by omega)
      have f4 := qf 4 (by omega)
      have f5 := qf 5 (by omega)
      clear qf Y hkn2
      have hB : w.heap.size ≤ w.heap.size := Nat.le_refl _
      have z1 : w.heap.size + 1 ≤ w1.heap.size := by have := OI.out.2.size; rwa [World.size_alloc] at this
      have FIN : Hid (OutR w wr ⟨2, boxL rs m, boxH rs m, 0, srt (idsOf rs)⟩ (.slice (some ⟨gl, 0, none⟩) m cl) (.slice (some ⟨gh, 0, none⟩) m ch) (.slice (some ⟨gi, 0, none⟩) n ci) ∧ w.heap.size < gl ∧ w.heap.size < gh ∧ (Value.slice (some ⟨gi, 0, none⟩) n ci).ownBlock ≠ some w.heap.size) := by
        have o1 := YF.low
        have o2 := YF.high
        have o3 := OI.out.1.gb YF.gb
        have s1 := YF.b1
        have s2 := YF.b2
        rw [← BL.out.1] at o1
        rw [← BL.out.2] at o2
        refine ⟨⟨gb_trans GW YF.gb, o1.mono (by omega), o2.mono (by omega), o3.mono (by rw [World.size_alloc]; omega), ?_⟩, by omega, by omega, ?_⟩
        · intro g hg
          have hg' : gl = g := by simpa [Value.ownBlock] using hg
          subst hg'
          refine ⟨by simp [Value.ownBlock]; exact fun e => YF.ne e.symm, fun e => ?_⟩
          have := (World.ownsRow.lt OI.out.1 gl e).2
          omega
        · intro e
          have := (World.ownsRow.lt OI.out.1 w.heap.size e).1
          rw [World.size_alloc] at this; omega
      clear YF
      go_wp2
      refine bodyPost_ret (v := .tuple #[rv ⟨2, boxL rs m, boxH rs m, 0, srt (idsOf rs)⟩ (.slice (some ⟨gl, 0, none⟩) m cl) (.slice (some ⟨gh, 0, none⟩) m ch) (.slice (some ⟨gi, 0, none⟩) n ci), .int .i64 0]) (by simp [results, Tryz.results60, go_sem, q0, q1, q2, q3, q4, q5, hi, lo]) rfl ⟨_, _, _, rfl, ?_⟩
      obtain ⟨p0, p1, p2, p3⟩ := FIN.out
      have b1 : (Value.slice (some ⟨gl, 0, none⟩) m cl).ownBlock ≠ some w.heap.size := by simp [Value.ownBlock]; omega
      have b2 : (Value.slice (some ⟨gh, 0, none⟩) m ch).ownBlock ≠ some w.heap.size := by simp [Value.ownBlock]; omega
      exact (((((p0.set b1 b2 p3 _ _).set b1 b2 p3 _ _).set b1 b2 p3 _ _).set b1 b2 p3 _ _).set b1 b2 p3 _ _).set b1 b2 p3 _ _
theorem box_c {w : World} {v : Value} {rs : List Rw} (h : RdW w v rs) (d : Int) (hlen : rs.length ≤ 4611686018427387904) (hwf : ∀ i, i < rs.length → (Lit.int .i64 rs[i]!.1).wf = true) :
    Calls Tryz.prog 60 #[v, .int .i64 d] w fun e w' => ∃ vl vh vi, e = .returned (.tuple #[rv (boxR rs d) vl vh vi, .int .i64 (boxE rs d)]) ∧ OutR w w' (boxR rs d) vl vh vi := by
  by_cases hok : boxE rs d = 0
  · exact box_yes h d hlen hwf hok
  · exact box_no h d hlen hwf hok
end Go.Proofs.YtbnljabeccebiabGreat

/- vec.Ball. -/
namespace Go.Proofs.YtbnljabeccebiabGreat
open Go.RowKit Go.Sort Go.Maps

/-- The greatest distance of the first k rows. -/
def radN (c : List Int) (rs : List Rw) : Nat → Nat
  | 0 => 0
  | k + 1 => if radN c rs k < dst c rs[k]!.2 then dst c rs[k]!.2 else radN c rs k
def ballE (c : List Int) (rs : List Rw) : Int := if chk c c.length = 0 then idsE rs c.length else chk c c.length
def ballR (c : List Int) (rs : List Rw) : Reg := if ballE c rs = 0 then ⟨3, c, [], radN c rs rs.length, srt (idsOf rs)⟩ else ⟨0, [], [], 0, []⟩
theorem ballE_ok {c : List Int} {rs : List Rw} (h : ballE c rs = 0) : chk c c.length = 0 ∧ idsE rs c.length = 0 := by
  unfold ballE at h; split at h
  · rename_i h1; exact ⟨h1, h⟩
  · rename_i h1; exact absurd h h1
theorem cmp3_gt (a b : Nat) : decide (cmp3 a b > 0) = decide (b < a) := by
  unfold cmp3
  by_cases h : a < b
  · rw [if_pos h, decide_eq_false (by omega), decide_eq_false (by omega)]
  · rw [if_neg h]
    by_cases h2 : a = b
    · rw [if_pos h2, decide_eq_false (by omega), decide_eq_false (by omega)]
    · rw [if_neg h2, decide_eq_true (by omega), decide_eq_true (by omega)]

end Go.Proofs.YtbnljabeccebiabGreat

/- What VecHolds asks of boxes and balls. -/
namespace Go.Proofs.YtbnljabeccebiabGreat
open Go.RowKit Go.Sort

theorem mnN_le (f : Nat → Int) (x : Int) : ∀ k j, j < k → mnN f x k ≤ f j
  | k + 1, j, h => by
    simp only [mnN]
    by_cases e : j = k
    · subst e; omega
    · have := mnN_le f x k j (by omega); omega
theorem mxN_ge (f : Nat → Int) (x : Int) : ∀ k j, j < k → f j ≤ mxN f x k
  | k + 1, j, h => by
    simp only [mxN]
    by_cases e : j = k
    · subst e; omega
    · have := mxN_ge f x k j (by omega); omega
theorem mnN_is (f : Nat → Int) (x : Int) : ∀ k, mnN f x k = x ∨ ∃ j, j < k ∧ mnN f x k = f j
  | 0 => .inl rfl
  | k + 1 => by
    simp only [mnN]
    rcases Int.le_total (mnN f x k) (f k) with h | h
    · rw [Int.min_eq_left h]
      rcases mnN_is f x k with e | ⟨j, hj, e⟩
      · exact .inl e
      · exact .inr ⟨j, by omega, e⟩
    · rw [Int.min_eq_right h]; exact .inr ⟨k, by omega, rfl⟩
theorem mxN_is (f : Nat → Int) (x : Int) : ∀ k, mxN f x k = x ∨ ∃ j, j < k ∧ mxN f x k = f j
  | 0 => .inl rfl
  | k + 1 => by
    simp only [mxN]
    rcases Int.le_total (mxN f x k) (f k) with h | h
    · rw [Int.max_eq_right h]; exact .inr ⟨k, by omega, rfl⟩
    · rw [Int.max_eq_left h]
      rcases mxN_is f x k with e | ⟨j, hj, e⟩
      · exact .inl e
      · exact .inr ⟨j, by omega, e⟩
theorem lo_is {rs : List Rw} (h : 1 ≤ rs.length) (i : Nat) : ∃ j, j < rs.length ∧ loAt rs rs.length i = rs[j]!.2[i]! := by
  rcases mnN_is (fun j => rs[j]!.2[i]!) rs[0]!.2[i]! rs.length with e | ⟨j, hj, e⟩
  · exact ⟨0, h, e⟩
  · exact ⟨j, hj, e⟩
theorem hi_is {rs : List Rw} (h : 1 ≤ rs.length) (i : Nat) : ∃ j, j < rs.length ∧ hiAt rs rs.length i = rs[j]!.2[i]! := by
  rcases mxN_is (fun j => rs[j]!.2[i]!) rs[0]!.2[i]! rs.length with e | ⟨j, hj, e⟩
  · exact ⟨0, h, e⟩
  · exact ⟨j, hj, e⟩
theorem lo_le {rs : List Rw} {j : Nat} (hj : j < rs.length) (i : Nat) : loAt rs rs.length i ≤ rs[j]!.2[i]! := mnN_le (fun j => rs[j]!.2[i]!) _ _ j hj
theorem hi_ge {rs : List Rw} {j : Nat} (hj : j < rs.length) (i : Nat) : rs[j]!.2[i]! ≤ hiAt rs rs.length i := mxN_ge (fun j => rs[j]!.2[i]!) _ _ j hj

theorem riseTo_of {l : List Int} : ∀ q, q ≤ l.length → (∀ i, i < l.length → okId l[i]! = true) → (∀ i, i + 1 < l.length → l[i]! < l[i + 1]!) → riseTo l q = true
  | 0, _, _, _ => rfl
  | q + 1, hq, h1, h2 => by
    simp only [riseTo, okAt]
    rw [riseTo_of q (by omega) h1 h2, h1 q (by omega)]
    cases q with
    | zero => rfl
    | succ p => rw [Nat.add_sub_cancel, decide_eq_true (h2 p (by omega))]; simp
theorem ids_nodup {rs : List Rw} (h : ∀ i, i < rs.length → ((idsOf rs).take i).contains rs[i]!.1 = false) : (idsOf rs).Pairwise (· ≠ ·) := by
  rw [List.pairwise_iff_getElem]
  intro i j hi hj hij e
  have hl : (idsOf rs).length = rs.length := by simp [idsOf]
  have h1 := h j (by omega)
  rw [List.contains_eq_mem, decide_eq_false_iff_not] at h1
  apply h1
  have e2 : rs[j]!.1 = (idsOf rs)[j] := by rw [getElem!_pos rs j (by omega)]; simp [idsOf]
  rw [e2, ← e]
  exact List.mem_take_iff_getElem.2 ⟨i, by omega, rfl⟩
theorem srt_rise {rs : List Rw} (h : ∀ i, i < rs.length → okId rs[i]!.1 = true ∧ ((idsOf rs).take i).contains rs[i]!.1 = false) : rise (srt (idsOf rs)) = true := by
  have hp : (srt (idsOf rs)).Perm (idsOf rs) := List.mergeSort_perm _ _
  have hs : (srt (idsOf rs)).Pairwise (fun x y => decide (x ≤ y) = true) := List.pairwise_mergeSort (by intro a b c h1 h2; simp at *; omega) (by intro a b; simp; omega) _
  have hn : (srt (idsOf rs)).Pairwise (· ≠ ·) := (hp.symm.pairwise_iff (fun h => Ne.symm h)).1 (ids_nodup fun i hi => (h i hi).2)
  refine riseTo_of _ (Nat.le_refl _) ?_ ?_
  · intro i hi
    have hm : (srt (idsOf rs))[i]! ∈ idsOf rs := by
      rw [getElem!_pos _ i hi]
      exact hp.mem_iff.1 (List.getElem_mem hi)
    obtain ⟨x, hx, e⟩ := List.mem_map.1 hm
    obtain ⟨j, hj, e2⟩ := List.getElem_of_mem hx
    have := (h j hj).1
    rw [getElem!_pos rs j hj, e2, e] at this
    exact this
  · intro i hi
    rw [getElem!_pos _ i (by omega), getElem!_pos _ (i + 1) hi]
    have h1 := List.pairwise_iff_getElem.1 hs i (i + 1) (by omega) hi (by omega)
    have h2 := List.pairwise_iff_getElem.1 hn i (i + 1) (by omega) hi (by omega)
    simp at h1
    omega
theorem allR_tab {f : Nat → Int} {m : Nat} (h : ∀ i, i < m → -2147483647 ≤ f i ∧ f i ≤ 2147483647) : allR (tab f m) = true := by
  unfold allR tab
  rw [List.all_eq_true]
  intro x hx
  obtain ⟨i, hi, e⟩ := List.mem_map.1 hx
  subst e
  exact (inR_iff _).2 (h i (List.mem_range.1 hi))
theorem below_of {l h : List Int} : ∀ q, (∀ i, i < q → l[i]! ≤ h[i]!) → below l h q = true
  | 0, _ => rfl
  | q + 1, k => by simp only [below]; rw [below_of q fun i hi => k i (by omega), decide_eq_true (k q (by omega))]; rfl
theorem chk_yes {l : List Int} {d : Int} (h1 : 1 ≤ d ∧ d ≤ 64 ∧ (l.length : Int) = d) (h2 : allR l = true) : chk l d = 0 := by
  unfold chk vErr; rw [if_pos h1, if_pos h2]
theorem gap_in {l h x : Int} (h1 : l ≤ x) (h2 : x ≤ h) : gap l h x = 0 := by unfold gap; split <;> (try split) <;> omega
theorem gap_low {l h x : Int} (h1 : x < l) : gap l h x ≠ 0 := by unfold gap; split <;> (try split) <;> omega
theorem sumN_all {f : Nat → Nat} : ∀ {n : Nat}, (∀ i, i < n → f i = 0) → sumN f n = 0
  | 0, _ => rfl
  | n + 1, h => by simp only [sumN]; rw [sumN_all fun i hi => h i (by omega), h n (by omega)]

/-- What the rows of a box are. -/
theorem rows_of {rs : List Rw} {m : Nat} (h : boxE rs (m : Int) = 0) : 1 ≤ m ∧ m ≤ 64 ∧ 1 ≤ rs.length ∧ rise (srt (idsOf rs)) = true ∧ rs.length ≤ 512 ∧ ∀ j, j < rs.length → rs[j]!.2.length = m ∧ allR rs[j]!.2 = true := by
  obtain ⟨d1, d2, d3, d4⟩ := boxE_ok h
  obtain ⟨r1, r2⟩ := idsE_ok d4
  refine ⟨by omega, by omega, d3, srt_rise fun i hi => (r2 i hi).2, r1, fun j hj => ?_⟩
  have := chk_ok (r2 j hj).1
  exact ⟨by omega, this.2.2.2⟩
theorem box_ck {rs : List Rw} {m : Nat} (h : boxE rs (m : Int) = 0) {f : Nat → Int} (hf : ∀ i, i < m → -2147483647 ≤ f i ∧ f i ≤ hiAt rs rs.length i) {j : Nat} (hj : j < rs.length) :
    ckB ⟨2, tab f m, boxH rs m, 0, srt (idsOf rs)⟩ rs[j]!.2 = 0 := by
  obtain ⟨m1, m2, n1, hr, _, hv⟩ := rows_of h
  obtain ⟨v1, v2⟩ := hv j hj
  have hH : ∀ i, i < m → -2147483647 ≤ hiAt rs rs.length i ∧ hiAt rs rs.length i ≤ 2147483647 := by
    intro i hi
    obtain ⟨t, ht, e⟩ := hi_is n1 i
    rw [e]
    obtain ⟨q1, q2⟩ := hv t ht
    exact allR_get q2 (by omega)
  have c1 : chk (tab f m) (m : Int) = 0 := chk_yes ⟨by omega, by omega, by rw [tab_len]⟩ (allR_tab fun i hi => ⟨(hf i hi).1, by have := (hf i hi).2; have := (hH i hi).2; omega⟩)
  have c2 : chk (boxH rs m) (m : Int) = 0 := chk_yes ⟨by omega, by omega, by unfold boxH; rw [tab_len]⟩ (allR_tab hH)
  have c3 : below (tab f m) (boxH rs m) (tab f m).length = true := by
    rw [tab_len]
    refine below_of m fun i hi => ?_
    unfold boxH
    rw [tab_get _ hi, tab_get _ hi]; exact (hf i hi).2
  have e1 : ckR ⟨2, tab f m, boxH rs m, 0, srt (idsOf rs)⟩ (m : Int) = 0 := by
    unfold ckR uses cornE
    rw [if_pos ⟨by omega, by omega⟩]
    simp [hr, c1, c2, c3]
  unfold ckB
  rw [v1, if_pos e1]
  exact chk_yes ⟨by omega, by omega, by omega⟩ v2
theorem box_in {rs : List Rw} {m : Nat} (h : boxE rs (m : Int) = 0) {j : Nat} (hj : j < rs.length) : ckB (boxR rs (m : Int)) rs[j]!.2 = 0 ∧ insV (boxR rs (m : Int)) rs[j]!.2 = true := by
  obtain ⟨m1, m2, n1, hr, _, hv⟩ := rows_of h
  have e : boxR rs (m : Int) = ⟨2, tab (loAt rs rs.length) m, boxH rs m, 0, srt (idsOf rs)⟩ := by unfold boxR; rw [if_pos h]; rfl
  rw [e]
  have c := box_ck h (f := loAt rs rs.length) (fun i hi => by
    obtain ⟨t, ht, e⟩ := lo_is n1 i
    obtain ⟨q1, q2⟩ := hv t ht
    have h1 := allR_get q2 (i := i) (by omega)
    have h2 := hi_ge ht i
    rw [e]; exact ⟨h1.1, h2⟩) hj
  refine ⟨c, ?_⟩
  unfold insV
  rw [c]
  have hb : bx (tab (loAt rs rs.length) m) (boxH rs m) rs[j]!.2 = 0 := by
    unfold bx bxN
    refine sumN_all fun i hi => ?_
    have hi : i < m := by have := (hv j hj).1; omega
    unfold boxH
    rw [tab_get _ hi, tab_get _ hi, gap_in (lo_le hj i) (hi_ge hj i)]
  unfold inV
  generalize rs[j]!.2 = x at hb ⊢
  simp [hb]
/-- The box, smaller in one coordinate. -/
def cutF (rs : List Rw) (p : Nat) (t : Nat) : Int := if t = p then loAt rs rs.length p + 1 else loAt rs rs.length t
def cutR (rs : List Rw) (m p : Nat) : Reg := ⟨2, tab (cutF rs p) m, boxH rs m, 0, srt (idsOf rs)⟩
theorem cut_ck {rs : List Rw} {m p : Nat} (h : boxE rs (m : Int) = 0) (hp : p < m) (hlt : loAt rs rs.length p < hiAt rs rs.length p) {j : Nat} (hj : j < rs.length) : ckB (cutR rs m p) rs[j]!.2 = 0 := by
  obtain ⟨m1, m2, n1, hr, _, hv⟩ := rows_of h
  refine box_ck h (fun i hi => ?_) hj
  obtain ⟨t, ht, e⟩ := lo_is n1 i
  obtain ⟨q1, q2⟩ := hv t ht
  have h1 := allR_get q2 (i := i) (by omega)
  have h2 := hi_ge ht i
  unfold cutF
  split
  · rename_i e1; subst e1
    omega
  · omega
theorem cut_out {rs : List Rw} {m p : Nat} (h : boxE rs (m : Int) = 0) (hp : p < m) (hlt : loAt rs rs.length p < hiAt rs rs.length p) : ∃ j, j < rs.length ∧ insV (cutR rs m p) rs[j]!.2 = false := by
  obtain ⟨m1, m2, n1, hr, _, hv⟩ := rows_of h
  obtain ⟨j, hj, e⟩ := lo_is n1 p
  refine ⟨j, hj, ?_⟩
  have c := cut_ck h hp hlt hj
  unfold insV
  rw [c]
  have hb : ¬ bx (tab (cutF rs p) m) (boxH rs m) rs[j]!.2 = 0 := by
    intro hb
    unfold bx bxN at hb
    have h1 := sumN_zero hb (i := p) (by have := (hv j hj).1; omega)
    unfold boxH at h1
    rw [tab_get _ hp, tab_get _ hp] at h1
    have h2 : cutF rs p p = loAt rs rs.length p + 1 := by unfold cutF; rw [if_pos rfl]
    rcases Nat.mul_eq_zero.1 h1 with h1 | h1 <;> exact gap_low (by rw [h2]; omega) h1
  unfold inV cutR
  generalize rs[j]!.2 = x at hb ⊢
  simp [hb]
theorem rad_mono {c : List Int} {rs : List Rw} : ∀ k j, j < k → dst c rs[j]!.2 ≤ radN c rs k
  | k + 1, j, h => by
    simp only [radN]
    by_cases e : j = k
    · subst e; split <;> omega
    · have := rad_mono (c := c) (rs := rs) k j (by omega)
      split <;> omega
theorem ball_in {c : List Int} {rs : List Rw} (h : ballE c rs = 0) {j : Nat} (hj : j < rs.length) : ckB (ballR c rs) rs[j]!.2 = 0 ∧ insV (ballR c rs) rs[j]!.2 = true := by
  obtain ⟨ce, ie⟩ := ballE_ok h
  obtain ⟨r1, r2⟩ := idsE_ok ie
  have hr := srt_rise fun i hi => (r2 i hi).2
  have v := chk_ok (r2 j hj).1
  have e : ballR c rs = ⟨3, c, [], radN c rs rs.length, srt (idsOf rs)⟩ := by unfold ballR; rw [if_pos h]
  rw [e]
  have vl : (rs[j]!.2.length : Int) = (c.length : Int) := by omega
  have k := chk_ok ce
  have e1 : ckR ⟨3, c, [], radN c rs rs.length, srt (idsOf rs)⟩ (c.length : Int) = 0 := by
    unfold ckR uses
    rw [if_pos ⟨by omega, by omega⟩]
    simp [hr, ce]
  have c1 : ckB ⟨3, c, [], radN c rs rs.length, srt (idsOf rs)⟩ rs[j]!.2 = 0 := by
    unfold ckB
    rw [vl, if_pos e1]
    exact (r2 j hj).1
  refine ⟨c1, ?_⟩
  unfold insV
  rw [c1]
  have := rad_mono (c := c) (rs := rs) rs.length j hj
  unfold inV
  generalize rs[j]!.2 = x at this ⊢
  simp [this]
end Go.Proofs.YtbnljabeccebiabGreat
