/- The law CodecSpoilt. -/
import Derived.Test.YtgcinompidmliaaRCoSp
namespace Go.Proofs.YtgcinompidmliaaR
open Go.RowKit Go.Lib

theorem OwnB.set {W : World} {B g : Nat} {n cap : Nat} {l : List UInt8} (h : OwnB W B (.slice (some ⟨g, 0, none⟩) n cap) l) {a : Nat} {y : UInt8} {z : Int} (hz : (y.toNat : Int) = z) : OwnB (W.setCell ⟨g, a, none⟩ (.int .u8 z)) B (.slice (some ⟨g, 0, none⟩) n cap) (l.set a y) := by
  subst hz
  rcases h.2 with ⟨e, _⟩ | ⟨g', cap', cur, e, h1, h2, h3, h4, h5, h6⟩
  · cases e
  · cases e
    refine ⟨by simp, .inr ⟨g, cap, cur.setIfInBounds a (bv y), by rw [List.length_set], h1, heap_set0 h2, by rw [List.length_set]; exact h3, h4, by rw [Array.size_setIfInBounds]; exact h5, ?_⟩⟩
    rw [Array.toList_setIfInBounds, List.length_set, List.take_set, h6, List.map_set]
theorem OwnB.at' {W : World} {B g : Nat} {n cap : Nat} {l : List UInt8} (h : OwnB W B (.slice (some ⟨g, 0, none⟩) n cap) l) {a : Nat} (ha : a < l.length) : W.cell? ⟨g, a, none⟩ = some (.int .u8 (l[a]!.toNat : Int)) ∧ W.frozen? ⟨g, a, none⟩ = false ∧ B ≤ g := by
  have hr := h.rd
  obtain ⟨_, _, e, _, hc⟩ := hr
  cases e
  obtain ⟨b, o, e, k⟩ := hc a ha
  cases e
  rw [Nat.zero_add] at k
  rcases h.2 with ⟨e, _⟩ | ⟨g', cap', cur, e, h1, h2, _⟩
  · cases e
  · cases e
    exact ⟨k, by simp [World.frozen?, h2], h1⟩
theorem en_len (k : Nat) (t : List UInt8) : (enT k t).length = 9 + t.length := by unfold enT; simp only [List.length_append, leB_length]
theorem dcV_err {l : List UInt8} {z : Int} (h : dcE l = z) (h0 : z ≠ 0) : dcV l = .tuple #[.int .i64 0, .string (sb []), .int .i64 0, .int .i64 z] := by unfold dcV; rw [h, if_neg h0]
theorem ownB_form {W : World} {B : Nat} {v : Value} {l : List UInt8} (h : OwnB W B v l) (h0 : 0 < l.length) : ∃ g cap, v = .slice (some ⟨g, 0, none⟩) l.length cap := by
  rcases h.2 with ⟨_, e⟩ | ⟨g, cap, cur, e, _⟩
  · omega
  · exact ⟨g, cap, e⟩
set_option maxHeartbeats 4000000 in
set_option maxRecDepth 100000 in
theorem spoilt_law {w : World} {u : Value} {l : List UInt8} (k : Int) (t : List UInt8) (hu : RdB w u l) (hn : NilB u) (at' x : Int) (hx : 0 ≤ x ∧ x < 256) :
    Calls Try.prog 6 #[.int .i64 k, .string (sb t), u, .int .i64 at', .int .u8 x] w fun e w' => e = .returned (.bool true) ∧ Gb w w' := by
  have hsz := sb_size t
  have U : Hid (RdB w u l ∧ NilB u) := ⟨hu, hn⟩
  obtain ⟨a, cap, rfl, _⟩ := hu
  by_cases h1 : 524288 < t.length
  · clear U
    generalize sb t = s at *
    generalize l.length = n at *
    generalize t.length = m at *
    have h1' : (524288 : Int) < (m : Int) := by omega
    go_enter Try.func6, Try.ntmps6
    go_wp2
    go_ret
    exact ⟨rfl, Below.refl _ _⟩
  have h1' : ¬ (524288 : Int) < (t.length : Int) := by omega
  by_cases h2 : 524288 < l.length
  · clear U
    generalize sb t = s at *
    generalize l.length = n at *
    generalize t.length = m at *
    have h2' : (524288 : Int) < (n : Int) := by omega
    go_enter Try.func6, Try.ntmps6
    go_wp2
    go_ret
    exact ⟨rfl, Below.refl _ _⟩
  have h2' : ¬ (524288 : Int) < (l.length : Int) := by omega
  have cE := encode_c k t (by omega) w
  unfold enP at cE
  by_cases hz : enE k t.length = 0
  · rw [hz, if_pos rfl] at cE
    unfold enE at hz
    obtain ⟨hk, ht⟩ : ¬ (k < 1 ∨ 255 < k) ∧ ¬ 262144 < t.length := by
      by_cases hh : k < 1 ∨ 255 < k
      · rw [if_pos hh] at hz; omega
      · refine ⟨hh, fun h3 => ?_⟩
        rw [if_neg hh, if_pos h3] at hz; omega
    clear hz
    obtain ⟨m, rfl⟩ : ∃ m : Nat, k = (m : Int) := ⟨k.toNat, by omega⟩
    rw [show (m : Int).toNat = m by omega] at cE
    have DV : Hid (dcV (enT m t ++ l) = .tuple #[.int .i64 (m : Int), .string (sb t), .int .i64 ((9 + t.length : Nat) : Int), .int .i64 0]) := en_dec l (by omega) (by omega) (by omega)
    have EL : Hid ((enT m t).length = 9 + t.length) := en_len m t
    have BD : Hid (t.length ≤ 262144 ∧ l.length ≤ 524288 ∧ 1 ≤ m ∧ m ≤ 255) := ⟨by omega, by omega, by omega, by omega⟩
    have SPO : Hid (∀ (a : Nat) (y : UInt8), a < 9 + t.length → ¬ (1 ≤ a ∧ a ≤ 4) → y ≠ (enT m t ++ l)[a]! → dcE ((enT m t ++ l).set a y) = 162 ∨ dcE ((enT m t ++ l).set a y) = 160 ∧ a = 0) :=
      fun a y q1 q2 q3 => en_spoilt l BD.out.1 BD.out.2.2.1 BD.out.2.2.2 q1 q2 q3
    generalize enT m t = X at *
    generalize sb t = s at *
    obtain ⟨n, hN⟩ : ∃ n, n = t.length := ⟨_, rfl⟩
    rw [← hN] at DV EL BD SPO h1' hsz
    have BN : n ≤ 262144 := BD.out.1
    clear hN h1 h2 hk ht
    have LL : Hid (l.length ≤ 524288) := BD.out.2.1
    generalize hln : l.length = ln at *
    have LN : Hid (l.length = ln) := hln
    clear hln
    go_enter Try.func6, Try.ntmps6
    go_wp2_with fail
    refine cE.mono ?_
    rintro e w1 ⟨v1, rfl, g1, o1⟩
    obtain ⟨gx, cx, ev⟩ := ownB_form o1 (by rw [EL.out]; omega)
    rw [EL.out] at ev
    subst ev
    have o1r := o1.rd
    have o1n := o1.nilB
    have GU : Hid (∀ W, Gb w W → RdB W (.slice a ln cap) l ∧ NilB (.slice a ln cap)) := fun W g => ⟨U.out.1.gb g, U.out.2⟩
    have G1 : Hid (Gb w w1) := g1
    go_wp2_with (first
      | (at_builtin; refine app_L rfl _ _ rfl w.heap.size rfl (ownb_nil w1 w.heap.size) G1.out.size rfl o1r o1n (by rw [EL.out]; simp; omega) ?_; intro v2 w2 o2 g2; have G2 : Gb w w2 := below_grown' G1.out g2 (fun i e => by cases e))
      | (at_builtin; refine app_L rfl _ _ rfl w.heap.size rfl o2 G2.size rfl (GU.out _ G2).1 (GU.out _ G2).2 (by rw [List.nil_append, EL.out, LN.out]; have := LL.out; omega) ?_; intro v3 w3 o3 g3; have G3 : Gb w w3 := OwnB.gbg G2 o2 g3)
      | fail)
    rw [List.nil_append] at o3
    have cD := decode_c o3.rd (by rw [List.length_append, EL.out, LN.out]; have := LL.out; omega)
    rw [DV.out] at cD
    refine cD.mono ?_
    rintro e w4 ⟨rfl, g4⟩
    have o4 := o3.gb g4
    have G4 := gb_trans G3 g4
    by_cases a1 : at' < 0
    · clear o3 cD g3 g2 o2
      go_wp2_with fail
      refine (awake_c _).mono ?_
      rintro e w5 ⟨rfl, g5⟩
      go_wp2
      go_ret
      exact ⟨rfl, gb_trans G4 g5⟩
    have a1' : 0 ≤ at' := by omega
    by_cases a2 : ((9 + n : Nat) : Int) ≤ at'
    · clear o3 cD g3 g2 o2
      go_wp2_with fail
      refine (awake_c _).mono ?_
      rintro e w5 ⟨rfl, g5⟩
      go_wp2
      go_ret
      exact ⟨rfl, gb_trans G4 g5⟩
    have a2' : ¬ ((9 + n : Nat) : Int) ≤ at' := a2
    by_cases a3 : 1 ≤ at' ∧ at' ≤ 4
    · obtain ⟨a31, a32⟩ := a3
      clear o3 cD g3 g2 o2
      go_wp2_with fail
      refine (awake_c _).mono ?_
      rintro e w5 ⟨rfl, g5⟩
      go_wp2
      go_ret
      exact ⟨rfl, gb_trans G4 g5⟩
    by_cases a4 : x = 0
    · subst a4
      clear o3 cD g3 g2 o2
      by_cases a31 : 1 ≤ at'
      · have a32 : ¬ at' ≤ 4 := fun h => a3 ⟨a31, h⟩
        go_wp2_with fail
        refine (awake_c _).mono ?_
        rintro e w5 ⟨rfl, g5⟩
        go_wp2
        go_ret
        exact ⟨rfl, gb_trans G4 g5⟩
      · clear a3
        go_wp2_with fail
        refine (awake_c _).mono ?_
        rintro e w5 ⟨rfl, g5⟩
        go_wp2
        go_ret
        exact ⟨rfl, gb_trans G4 g5⟩
    have a4' : (x == 0) = false := by rw [beq_eq_false_iff_ne]; exact a4
    obtain ⟨b, rfl⟩ : ∃ b : Nat, at' = (b : Int) := ⟨at'.toNat, by omega⟩
    have hb1 : b < 9 + n := by omega
    have hb2 : ¬ (1 ≤ b ∧ b ≤ 4) := fun h => a3 ⟨by omega, by omega⟩
    have LY : Hid ((X ++ l).length = 9 + n + ln) := by unfold Hid; rw [List.length_append, EL.out, LN.out]
    obtain ⟨gy, cy, ey⟩ := ownB_form o4 (by rw [LY.out]; omega)
    rw [LY.out] at ey
    subst ey
    obtain ⟨q0, q1, q2⟩ := o4.at' (a := b) (by rw [LY.out]; omega)
    obtain ⟨xn, rfl⟩ : ∃ xn : Nat, x = (xn : Int) := ⟨x.toNat, by omega⟩
    have hy : (((X ++ l)[b]! ^^^ UInt8.ofNat xn).toNat : Int) = bits .xor .u8 ((X ++ l)[b]!.toNat : Int) (xn : Int) := by
      rw [u8_xor_nat _ _ (UInt8.toNat_lt _) (by omega), UInt8.toNat_xor]
      have : (UInt8.ofNat xn).toNat = xn := by simp; omega
      rw [this]
    have hne : ((X ++ l)[b]! ^^^ UInt8.ofNat xn) ≠ (X ++ l)[b]! := by
      intro e
      have e2 := congrArg UInt8.toNat e
      rw [UInt8.toNat_xor] at e2
      have e3 : (UInt8.ofNat xn).toNat = xn := by simp; omega
      rw [e3, Nat.xor_comm] at e2
      have e4 : xn = 0 := xor_can (c := (X ++ l)[b]!.toNat) (by rw [e2, Nat.zero_xor])
      omega
    have o5 := o4.set (a := b) hy
    have RES := SPO.out b _ hb1 hb2 hne
    have GS : Gb w (w4.setCell ⟨gy, b, none⟩ (.int .u8 (bits .xor .u8 ((X ++ l)[b]!.toNat : Int) (xn : Int)))) := gb_set G4 q2 _
    have cD2 := decode_c o5.rd (by rw [List.length_set, LY.out]; have := LL.out; omega)
    have DZ : Hid (∃ z, dcE ((X ++ l).set b ((X ++ l)[b]! ^^^ UInt8.ofNat xn)) = z ∧ (z = 162 ∨ z = 160 ∧ b = 0)) := ⟨_, rfl, RES⟩
    obtain ⟨z, hz1, hz2⟩ := DZ.out
    have RES : Hid (z = 162 ∨ z = 160 ∧ b = 0) := hz2
    rw [dcV_err hz1 (by omega)] at cD2
    have hbl : (b : Int) < ((9 + n + ln : Nat) : Int) := by omega
    have e0 : sb [] = ⟨#[]⟩ := rfl
    rw [e0] at cD2
    generalize ((X ++ l)[b]!.toNat : Int) = zz at *
    clear o3 cD g3 g2 o2 o5 hy hne hz1 hz2 DZ o4 q2
    by_cases a31 : 1 ≤ (b : Int)
    · have a32 : ¬ (b : Int) ≤ 4 := fun h => a3 ⟨a31, h⟩
      clear a3
      go_wp2_with fail
      refine cD2.mono ?_
      rintro e w6 ⟨rfl, g6⟩
      have G6 := gb_trans GS g6
      go_wp2_with fail
      refine (awake_c _).mono ?_
      rintro e w7 ⟨rfl, g7⟩
      rcases RES.out with hr | ⟨hr, hr0⟩
      · subst hr
        go_wp2
        go_ret
        exact ⟨rfl, gb_trans G6 g7⟩
      · subst hr
        subst hr0
        go_wp2
        go_ret
        exact ⟨rfl, gb_trans G6 g7⟩
    · clear a3
      go_wp2_with fail
      refine cD2.mono ?_
      rintro e w6 ⟨rfl, g6⟩
      have G6 := gb_trans GS g6
      go_wp2_with fail
      refine (awake_c _).mono ?_
      rintro e w7 ⟨rfl, g7⟩
      rcases RES.out with hr | ⟨hr, hr0⟩
      · subst hr
        go_wp2
        go_ret
        exact ⟨rfl, gb_trans G6 g7⟩
      · subst hr
        subst hr0
        go_wp2
        go_ret
        exact ⟨rfl, gb_trans G6 g7⟩
  · have EZ : Hid (enE k t.length ≠ 0) := hz
    rw [if_neg hz] at cE
    generalize enE k t.length = ee at *
    generalize sb t = s at *
    have hz' : (ee != 0) = true := by rw [bne_iff_ne]; exact hz
    clear hz EZ
    generalize t.length = m at *
    generalize l.length = ln at *
    go_enter Try.func6, Try.ntmps6
    go_wp2_with fail
    refine cE.mono ?_
    rintro e w1 ⟨v1, rfl, g1, o1⟩
    obtain ⟨a1, c1, ev, _⟩ := o1.rd
    simp only [List.length_nil] at ev
    subst ev
    go_wp2_with fail
    refine (awake_c _).mono ?_
    rintro e w2 ⟨rfl, g2⟩
    go_wp2
    go_ret
    exact ⟨rfl, gb_trans g1 g2⟩
end Go.Proofs.YtgcinompidmliaaR
