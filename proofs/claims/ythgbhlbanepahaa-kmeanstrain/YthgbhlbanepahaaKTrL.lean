/- KmeansTrain: the walk. -/
import Derived.Test.YthgbhlbanepahaaKLendV
import Derived.Test.YthgbhlbanepahaaKAwake
namespace Go.Proofs.Ythgbhlbanepahaa
open Go.RowKit Go.Maps Go.Sort

/-- What big tells of vectors that are not too long each. -/
def BigS (vs : Vs) (w : World) (e : Ending) (w' : World) : Prop := (∃ b, e = .returned (.bool b) ∧ (b = false → vs.length ≤ 65536 ∧ ∀ i, i < vs.length → vs[i]!.length ≤ 65536)) ∧ w = w'
set_option maxHeartbeats 1000000 in
set_option maxRecDepth 100000 in
theorem bigS_c {w : World} {v : Value} {vs : Vs} (h : RdV w v vs) (hlen : vs.length ≤ 4611686018427387904) (hrow : ∀ i, i < vs.length → vs[i]!.length ≤ 4611686018427387904) :
    Calls Try.prog 4 #[v] w fun e w' => BigS vs w e w' := by
  have V : Hid (RdV w v vs) := h
  have HR : Hid (∀ i, i < vs.length → vs[i]!.length ≤ 4611686018427387904) := hrow
  obtain ⟨a, cap, rfl, _⟩ := h
  obtain ⟨n, hN⟩ : ∃ n, n = vs.length := ⟨_, rfl⟩
  have N : Hid (n = vs.length) := hN
  rw [← hN] at V hlen ⊢
  clear hN hrow
  go_enter Try.func4, Try.ntmps4
  go_wp2
  go_loopw [3, 4] (fun sv iv w' => ∃ (q z : Nat), iv = .int .i64 (q : Int) ∧ q ≤ n ∧ sv = .int .i64 (z : Int) ∧ w = w' ∧ Hid (n ≤ z ∧ ∀ i, i < q → vs[i]!.length ≤ z)) (fun _ iv _ => n - (intOf iv).toNat)
  case atStart => exact ⟨0, n, rfl, Nat.zero_le _, rfl, rfl, Nat.le_refl _, fun i hi => absurd hi (Nat.not_lt_zero _)⟩
  case round =>
    obtain ⟨q, z, rfl, hq, rfl, rfl, X⟩ := hrel
    by_cases hqn : q < n
    · have hqi : (q : Int) < (n : Int) := by omega
      by_cases hz : (z : Int) ≤ 65536
      · have hql : q < vs.length := by have := N.out; omega
        obtain ⟨_, _, ev, hA⟩ := V.out
        obtain ⟨b, o, u, ea, k1, k2⟩ := hA q hql
        injection ev with ev1 ev2 ev3
        subst ev1
        subst ea
        have hm := HR.out q hql
        obtain ⟨pu, cu, eu, _⟩ := k2
        subst eu
        obtain ⟨m, hM⟩ : ∃ m, m = vs[q]!.length := ⟨_, rfl⟩
        rw [← hM] at k1 hm
        obtain ⟨y, hy⟩ : ∃ y : Nat, y = z + m := ⟨_, rfl⟩
        have hyb : y ≤ 9223372036854775807 := by omega
        have hyi : (z : Int) + (m : Int) = (y : Int) := by omega
        have XN : Hid (n ≤ y ∧ ∀ i, i < q + 1 → vs[i]!.length ≤ y) := ⟨by have := X.out.1; omega, fun i hi => by
          by_cases e : i = q
          · rw [e]; omega
          · have := X.out.2 i (by omega); omega⟩
        clear hA ev2 ev3 hql hM hy X
        go_wp2
        go_roundw
        case rel => exact ⟨q + 1, y, by first | rfl | go_num | simp, hqn, by first | rfl | go_num, by first | rfl | trivial, XN⟩
        case measure => simp [intOf]; omega
      · have hz2 : (65536 : Int) < (z : Int) := by omega
        go_wp2
        go_ret
        exact ⟨⟨true, by simp, fun e => by cases e⟩, by first | rfl | trivial⟩
    · have hqi : ¬ (q : Int) < (n : Int) := by omega
      by_cases hz : (65536 : Int) < (z : Int)
      · go_wp2
        go_ret
        exact ⟨⟨true, by simp, fun e => by cases e⟩, by first | rfl | trivial⟩
      · have F : Hid (vs.length ≤ 65536 ∧ ∀ i, i < vs.length → vs[i]!.length ≤ 65536) := by
          have h1 := X.out
          have h2 := N.out
          exact ⟨by omega, fun i hi => by have := h1.2 i (by omega); omega⟩
        clear X
        go_wp2
        go_ret
        exact ⟨⟨false, by simp, fun _ => F.out⟩, by first | rfl | trivial⟩

set_option maxRecDepth 100000 in
set_option maxHeartbeats 1000000 in
theorem ktrain_no {w : World} {lv : Value} {l : Vs} (hl : RdV w lv l) (hlen : l.length ≤ 4611686018427387904) (hrow : ∀ i, i < l.length → l[i]!.length ≤ 4611686018427387904) (k r x : Int) (hz : trainE l k r ≠ 0) :
    Calls Try.prog 3 #[lv, .int .i64 k, .int .i64 r, .int .u64 x] w fun e w' => e = .returned (.bool true) ∧ Gb w w' := by
  have cbig := bigS_c hl hlen hrow
  have L : Hid (RdV w lv l) := hl
  have ct := fun W (v : Value) (h : RdV W v l) => train_no_c h k r x hz
  have crt := fun W (g : Gb w W) => rtrain_no (L.out.gb g) k r x hz
  obtain ⟨al, cl, rfl, _⟩ := hl
  obtain ⟨n, hN⟩ : ∃ n, n = l.length := ⟨_, rfl⟩
  obtain ⟨m, hM⟩ : ∃ m, m = n + 1 := ⟨_, rfl⟩
  have NN : Hid (n = l.length ∧ m = n + 1) := ⟨hN, hM⟩
  rw [← hN] at L cbig ⊢
  simp only [← hN] at crt
  generalize trainE l k r = z at *
  clear hlen hrow hN hM
  go_enter Try.func3, Try.ntmps3
  go_wp2_with fail
  go_fit cbig
  rintro e w' ⟨⟨b, rfl, hb⟩, e2⟩
  subst e2
  clear cbig
  cases b with
  | true =>
    go_wp2
    go_ret
    exact ⟨rfl, Below.refl _ _⟩
  | false =>
    have BB : Hid (l.length ≤ 65536 ∧ ∀ i, i < l.length → l[i]!.length ≤ 65536) := hb rfl
    have cle := lendV_c L.out BB.out.1 BB.out.2
    rw [← NN.out.1, ← NN.out.2] at cle
    clear hb
    go_wp2_with fail
    go_fit cle
    rintro e w1 ⟨G, gs, gm, rfl, h1⟩
    have LV1 : Hid (LentV w w1 G l gs gm) := h1
    have rd1 := h1.rd
    rw [← NN.out.1, ← NN.out.2] at rd1
    have ct1 := ct w1 _ rd1
    clear cle h1 rd1
    go_wp2_with fail
    go_fit ct1
    rintro e w2 ⟨rfl, g2⟩
    have G2 : Hid (Gb w1 w2) := by first | exact g2 | exact g2.gb | (subst g2; exact Below.refl _ _)
    have cb := backV_c (LV1.out.gr G2.out) L.out BB.out.1 BB.out.2
    rw [← NN.out.1, ← NN.out.2] at cb
    clear ct1 g2
    go_wp2_with fail
    go_fit cb
    rintro e w3 ⟨rfl, k3⟩
    have G3 : Hid (Gb w w3) := k3.below (gb_trans LV1.out.lv.gb G2.out) (fun b ⟨i, hi, e⟩ => by have h1 := (LV1.out.lv.lent i (by have := NN.out; omega)).1.1; have h2 := LV1.out.lv.hG; omega)
    have cr3 := crt w3 G3.out
    clear cb k3
    go_wp2_with fail
    go_fit cr3
    rintro e w4 ⟨rfl, g4⟩
    have G4 : Hid (Gb w w4) := gb_trans G3.out g4
    have cs := rsameV_c (rdv_nil w4) (rdv_nil w4) (by decide) (fun i hi => absurd hi (Nat.not_lt_zero _))
    clear cr3 g4 crt
    go_wp2_with fail
    go_fit cs
    rintro e w5 ⟨rfl, g5⟩
    have G5 : Hid (Gb w w5) := gb_trans G4.out g5
    clear cs g5
    go_wp2
    refine wp_loop_rounds 1 ?_
    rw [rounds_succ]
    have ct5 := ct w5 _ (L.out.gb G5.out)
    clear ct
    go_wp2_with fail
    go_fit ct5
    rintro e w6 ⟨rfl, g6⟩
    have G6 : Hid (Gb w w6) := gb_trans G5.out (by first | exact g6 | exact g6.gb | (subst g6; exact Below.refl _ _))
    have aw := awake_c w6
    clear ct5 g6
    go_wp2_with fail
    go_fit aw
    rintro e w7 ⟨rfl, g7⟩
    have G7 : Hid (Gb w w7) := gb_trans G6.out g7
    have cs := rsameV_c (rdv_nil w7) (rdv_nil w7) (by decide) (fun i hi => absurd hi (Nat.not_lt_zero _))
    clear aw g7
    go_wp2_with fail
    go_fit cs
    rintro e w8 ⟨rfl, g8⟩
    have G8 : Hid (Gb w w8) := gb_trans G7.out g8
    clear cs g8
    go_wp2
    go_ret
    exact ⟨rfl, G8.out⟩

/-- What the spoiling leaves: the list of lists, and numbers in its blocks. -/
structure Sp (w W : World) (cb : Nat) (gs cp : Nat → Nat) (k d : Nat) : Prop where
  kp : Kp (Gs gs k) w W
  arr : ∀ i, i < k → ∃ f, Rn.Arr W (gs i) d (cp i) f
theorem Sp.set {w W : World} {cb : Nat} {gs cp : Nat → Nat} {k d : Nat} (h : Sp w W cb gs cp k d) {i t : Nat} (hi : i < k) (ht : t < d) (x : Int) : Sp w (W.setCell ⟨gs i, t, none⟩ (.int .i64 x)) cb gs cp k d := by
  refine ⟨h.kp.set (.inl ⟨i, hi, rfl⟩) _, fun j hj => ?_⟩
  obtain ⟨f, hf⟩ := h.arr j hj
  by_cases e : gs j = gs i
  · rw [← e]; exact ⟨_, hf.set ht x⟩
  · exact ⟨f, hf.other (by dsimp only; exact fun e' => e e'.symm) _⟩

set_option maxRecDepth 100000 in
set_option maxHeartbeats 1000000 in
theorem ktrain_yes {w : World} {lv : Value} {l : Vs} (hl : RdV w lv l) (hlen : l.length ≤ 4611686018427387904) (hrow : ∀ i, i < l.length → l[i]!.length ≤ 4611686018427387904) (k r : Nat) (x : Int) (hx : Rn.U x) (hz : trainE l (k : Int) (r : Int) = 0) :
    Calls Try.prog 3 #[lv, .int .i64 (k : Int), .int .i64 (r : Int), .int .u64 x] w fun e w' => e = .returned (.bool true) ∧ Gb w w' := by
  have cbig := bigS_c hl hlen hrow
  have L : Hid (RdV w lv l) := hl
  obtain ⟨d, hD⟩ : ∃ d, d = l[0]!.length := ⟨_, rfl⟩
  obtain ⟨T, hT⟩ : ∃ T, T = trainV l k r x := ⟨_, rfl⟩
  have ct := fun W (v : Value) (h : RdV W v l) => train_ok_c h x hx hz
  simp only [Int.toNat_natCast, ← hD, ← hT] at ct
  have crt := fun (P : Nat → Prop) W (hP : ∀ b, W.heap.size ≤ b → P b) (h : RdVP P W lv l) => rtrain_ok hP h x hz
  simp only [← hT] at crt
  have TT : Hid (T.length = k ∧ (∀ i, i < T.length → T[i]!.length = d) ∧ d ≤ 64 ∧ k ≤ 64) := by
    have h1 := (train_ok hz x r).2
    simp only [Int.toNat_natCast] at h1
    have e : roundsV l (drawnV l k x) r = T := by rw [hT]; rfl
    rw [e] at h1
    obtain ⟨q1, q2, q3, q4⟩ := trainE_zero.1 hz
    have h0 := q4.get (i := 0) (by omega)
    refine ⟨h1.2, fun i hi => ?_, by omega, by omega⟩
    have := h1.1.get hi
    omega
  obtain ⟨al, cl, rfl, _⟩ := hl
  obtain ⟨n, hN⟩ : ∃ n, n = l.length := ⟨_, rfl⟩
  obtain ⟨m, hM⟩ : ∃ m, m = n + 1 := ⟨_, rfl⟩
  have NN : Hid (n = l.length ∧ m = n + 1) := ⟨hN, hM⟩
  rw [← hN] at L cbig ⊢
  simp only [← hN] at crt
  have hk64 : k ≤ 64 := TT.out.2.2.2
  have hd64 : d ≤ 64 := TT.out.2.2.1
  clear hlen hrow hN hM hz hD hT
  go_enter Try.func3, Try.ntmps3
  go_wp2_with fail
  go_fit cbig
  rintro e w' ⟨⟨b, rfl, hb⟩, e2⟩
  subst e2
  clear cbig
  cases b with
  | true =>
    go_wp2
    go_ret
    exact ⟨rfl, Below.refl _ _⟩
  | false =>
    have BB : Hid (l.length ≤ 65536 ∧ ∀ i, i < l.length → l[i]!.length ≤ 65536) := hb rfl
    have cle := lendV_c L.out BB.out.1 BB.out.2
    rw [← NN.out.1, ← NN.out.2] at cle
    clear hb
    go_wp2_with fail
    go_fit cle
    rintro e w1 ⟨G, gs, gm, rfl, h1⟩
    have LV1 : Hid (LentV w w1 G l gs gm) := h1
    have rd1 := h1.rd
    rw [← NN.out.1, ← NN.out.2] at rd1
    have ct1 := ct w1 _ rd1
    clear cle h1 rd1
    go_wp2_with fail
    go_fit ct1
    rintro e w2 ⟨cv, rfl, ⟨cb, hs, cp, rfl, C2⟩, g2⟩
    have G2 : Hid (Gb w1 w2) := g2
    have CN2 : Hid (Cen w1.heap.size w2 cb hs cp k d (cenF T)) := C2
    have cbk := backV_c (LV1.out.gr G2.out) L.out BB.out.1 BB.out.2
    rw [← NN.out.1, ← NN.out.2] at cbk
    clear ct1 g2 C2
    go_wp2_with fail
    go_fit cbk
    rintro e w3 ⟨rfl, k3⟩
    have gsB : Hid (∀ i, i < n → w.heap.size ≤ gs i ∧ gs i < w1.heap.size) := fun i hi => by
      have hi' : i < l.length := by have := NN.out; omega
      have h1 := (LV1.out.lv.lent i hi').1
      have h2 := LV1.out.lv.hG
      have h3 := h1.1
      have h4 := h1.lt'
      omega
    have G3 : Hid (Gb w w3) := k3.below (gb_trans LV1.out.lv.gb G2.out) (fun b ⟨i, hi, e⟩ => by have := gsB.out i hi; omega)
    have CN3 : Hid (Cen w1.heap.size w3 cb hs cp k d (cenF T)) := CN2.out.kp k3 (fun ⟨i, hi, e⟩ => by have := gsB.out i hi; have := CN2.out.hB; omega) (fun j hj ⟨i, hi, e⟩ => by have := gsB.out i hi; have := CN2.out.base j hj; omega)
    have s13 : w.heap.size ≤ w1.heap.size ∧ w1.heap.size ≤ w2.heap.size ∧ w2.heap.size ≤ w3.heap.size := ⟨LV1.out.lv.gb.size, G2.out.size, k3.size⟩
    have SZ : Hid (w.heap.size ≤ w1.heap.size ∧ ∀ i, i < k → w1.heap.size ≤ hs i ∧ hs i < w3.heap.size) := ⟨s13.1, fun i hi => ⟨CN3.out.base i hi, (CN3.out.arr i hi).lt⟩⟩
    have cr3 := crt (fun b => b < w.heap.size ∨ w3.heap.size ≤ b) w3 (fun b hb => .inr hb) ((rdvp_of L.out (fun b hb => .inl hb)).gb G3.out)
    clear cbk k3 s13 crt
    go_wp2_with fail
    go_fit cr3
    rintro e w4 ⟨wv, rfl, rd4, g4⟩
    have G4 : Hid (Gb w w4) := gb_trans G3.out g4
    have G34 : Hid (Gb w3 w4) := g4
    have WV : Hid (RdVP (fun b => b < w.heap.size ∨ w3.heap.size ≤ b) w4 wv T) := rd4
    have cs := rsameV_c ((CN3.out.gb g4).rd TT.out.1 (fun i hi => TT.out.2.1 i (by rw [TT.out.1]; exact hi))) rd4.rd (by have := TT.out; omega) (fun i hi => by have := TT.out.2.1 i hi; omega)
    obtain ⟨aw, cw, ew, _⟩ := rd4
    rw [TT.out.1] at ew
    subst ew
    clear cr3 g4
    go_wp2_with fail
    go_fit cs
    rintro e w5 ⟨rfl, g5⟩
    have G35 : Hid (Gb w3 w5) := gb_trans G34.out g5
    have WV5 : Hid (RdVP (fun b => b < w.heap.size ∨ w3.heap.size ≤ b) w5 (.slice aw k cw) T) := WV.out.gb g5
    have CN5 : Hid (Cen w1.heap.size w5 cb hs cp k d (cenF T)) := CN3.out.gb G35.out
    have S0 : Hid (Sp w5 w5 cb hs cp k d) := ⟨Kp.refl _ _, fun i hi => ⟨_, CN5.out.arr i hi⟩⟩
    have NC : Hid (¬ Gs hs k cb) := fun ⟨i, hi, e⟩ => CN5.out.ne i hi e.symm
    clear cs g5
    go_wp2
    go_loopw [15] (fun iv W => ∃ p : Nat, iv = .int .i64 (p : Int) ∧ p ≤ k ∧ Hid (Sp w5 W cb hs cp k d)) (fun iv _ => k - (intOf iv).toNat)
    case atStart => exact ⟨0, rfl, Nat.zero_le _, S0⟩
    case round =>
      obtain ⟨p, rfl, hp, X⟩ := hrel
      by_cases hpk : p < k
      · have hpi : decide ((p : Int) < (k : Int)) = true := by rw [decide_eq_true_eq]; omega
        have hpp : (p : Int) < (k : Int) := by omega
        have C0 : Hid (w5.cell? ⟨cb, p, none⟩ = some (.slice (some ⟨hs p, 0, none⟩) d (cp p))) := CN5.out.row.cell hpk
        go_wp2
        go_loopw [16] (fun iv W => ∃ t : Nat, iv = .int .i64 (t : Int) ∧ t ≤ d ∧ Hid (Sp w5 W cb hs cp k d)) (fun iv _ => d - (intOf iv).toNat)
        case atStart => exact ⟨0, rfl, Nat.zero_le _, X⟩
        case round =>
          clear X
          obtain ⟨t, rfl, ht, Y⟩ := hrel
          have k1 := Y.out.kp.cell C0.out NC.out
          by_cases htd : t < d
          · have hti : (t : Int) < (d : Int) := by omega
            obtain ⟨f, hf⟩ := Y.out.arr p hpk
            have c0 := hf.cell htd
            have f0 := hf.frozen t
            have YN : Hid (Sp w5 (wr.setCell ⟨hs p, t, none⟩ (.int .i64 99)) cb hs cp k d) := Y.out.set hpk htd 99
            clear hf Y
            go_wp2
            go_roundw
            case rel => exact ⟨t + 1, by first | rfl | go_num | simp, htd, YN⟩
            case measure => simp [intOf]; omega
          · have hti : ¬ (t : Int) < (d : Int) := by omega
            go_wp2
            go_roundw
            case rel => exact ⟨p + 1, by first | rfl | go_num | simp, hpk, Y⟩
            case measure => simp [intOf]; omega
      · have hpi : ¬ (p : Int) < (k : Int) := by omega
        have G5 : Hid (Gb w w5) := gb_trans G3.out G35.out
        have GX : Hid (Gb w wr) := X.out.kp.below G5.out (fun b ⟨i, hi, e⟩ => by have := SZ.out.2 i hi; have := SZ.out.1; omega)
        have WX : Hid (RdVP (fun b => b < w.heap.size ∨ w3.heap.size ≤ b) wr (.slice aw k cw) T) := WV5.out.agree (fun b hb hP => X.out.kp.block b hb (fun ⟨i, hi, e⟩ => by have := SZ.out.2 i hi; have := SZ.out.1; omega))
        have ct5 := ct wr _ (L.out.gb GX.out)
        clear X ct
        go_wp2_with fail
        go_fit ct5
        rintro e w6 ⟨v6, rfl, ⟨cb6, hs6, cp6, rfl, C6⟩, g6⟩
        have G6 : Hid (Gb wr w6) := g6
        have CN6 : Hid (Cen wr.heap.size w6 cb6 hs6 cp6 k d (cenF T)) := C6
        have aw' := awake_c w6
        clear ct5 g6 C6
        go_wp2_with fail
        go_fit aw'
        rintro e w7 ⟨rfl, g7⟩
        have G7 : Hid (Gb w w7) := gb_trans GX.out (gb_trans G6.out g7)
        have cs := rsameV_c ((CN6.out.gb g7).rd TT.out.1 (fun i hi => TT.out.2.1 i (by rw [TT.out.1]; exact hi))) (WX.out.gb (gb_trans G6.out g7)).rd (by have := TT.out; omega) (fun i hi => by have := TT.out.2.1 i hi; omega)
        clear aw' g7
        go_wp2_with fail
        go_fit cs
        rintro e w8 ⟨rfl, g8⟩
        have G8 : Hid (Gb w w8) := gb_trans G7.out g8
        clear cs g8
        go_wp2
        go_ret
        exact ⟨rfl, G8.out⟩
end Go.Proofs.Ythgbhlbanepahaa
