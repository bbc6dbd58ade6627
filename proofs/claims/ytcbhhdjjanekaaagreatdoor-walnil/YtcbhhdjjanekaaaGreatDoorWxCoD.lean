/- taker; a number that is taken; Decode. -/
import Derived.Test.YtcbhhdjjanekaaaGreatDoorWxCoT
namespace Go.Proofs.YtcbhhdjjanekaaaGreatDoor
open Go.RowKit

/-- The two closures. -/
def TK (bt bs : Nat) : Value := .func (.func 125) #[] #[.pointer (some ⟨bt, 0, none⟩), .pointer (some ⟨bs, 0, none⟩)]
def LF (bt bs : Nat) : Value := .func (.func 126) #[] #[.pointer (some ⟨bs, 0, none⟩), .pointer (some ⟨bt, 0, none⟩)]
theorem taker_c {w : World} {v : Value} {l : List UInt8} (h : RdB w v l) :
    Calls Tryz.prog 95 #[v] w fun e w' => ∃ bt bs, e = .returned (.tuple #[TK bt bs, LF bt bs]) ∧ TkAt w bt bs l false w' := by
  have g1 : Gb w (w.alloc (.cells #[v] 59)) := gb_alloc (Below.refl _ _) _
  have g2 : Gb w ((w.alloc (.cells #[v] 59)).alloc (.cells #[.bool false] 4)) := gb_alloc g1 _
  have H : Hid (TkAt w w.heap.size (w.heap.size + 1) l false ((w.alloc (.cells #[v] 59)).alloc (.cells #[.bool false] 4))) := by
    refine ⟨g2, Nat.le_refl _, Nat.le_succ _, ⟨v, ?_, h⟩, ?_⟩
    · rw [heap_alloc_old _ _ (by simp), heap_alloc_new]
    · have := heap_alloc_new (w.alloc (.cells #[v] 59)) (.cells #[.bool false] 4)
      rw [World.size_alloc] at this
      exact this
  obtain ⟨a, cap, rfl, _⟩ := h
  clear g1 g2
  generalize l.length = n at *
  go_enter Tryz.func95, Tryz.ntmps95
  go_wp2
  exact bodyPost_ret (v := .tuple #[TK w.heap.size (w.heap.size + 1), LF w.heap.size (w.heap.size + 1)]) (by simp [results, Tryz.results95, go_sem, TK, LF]) rfl ⟨_, _, rfl, H.out⟩
/-- Decode, plainly: the kind, the length, the check, the body; the error. -/
def dcK (l : List UInt8) : Nat := leN (tk 1 l)
def dcN (l : List UInt8) : Nat := leN (tk 4 (l.drop 1))
def dcC (l : List UInt8) : Nat := leN (tk 4 (l.drop 5))
def dcB (l : List UInt8) : List UInt8 := tk (dcN l) (l.drop 9)
def dcE (l : List UInt8) : Int := if l.length < 9 then 161 else if dcK l = 0 then 160 else if 262144 < dcN l then 2 else if l.length < 9 + dcN l then 161 else if crc (UInt8.ofNat (dcK l) :: dcB l) = (dcC l : Int) then 0 else 162
def dcV (l : List UInt8) : Value := if dcE l = 0 then .tuple #[.int .i64 (dcK l : Int), .string (sb (dcB l)), .int .i64 ((9 + dcN l : Nat) : Int), .int .i64 0] else .tuple #[.int .i64 0, .string (sb []), .int .i64 0, .int .i64 (dcE l)]
theorem tk_lt (n : Nat) (l : List UInt8) : leN (tk n l) < 256 ^ n := by have := leN_lt (tk n l); rwa [tk_length] at this
/-- take and number. -/
theorem tkn_c {w : World} {B : Nat} {v : Value} {n : Nat} {l : List UInt8} (h : OwnB w B v (tk n l)) (hn : n ≤ 4) :
    Calls Tryz.prog 96 #[v] w fun e w' => e = .returned (.int .u32 (leN (tk n l) : Int)) ∧ w = w' :=
  number_c h.rd (by rw [tk_length]; exact hn)
set_option maxHeartbeats 4000000 in
theorem decode_c {w : World} {v : Value} {l : List UInt8} (h : RdB w v l) (hl : l.length ≤ 4611686018427387904) :
    Calls Tryz.prog 80 #[v] w fun e w' => e = .returned (dcV l) ∧ Gb w w' := by
  have t0 := taker_c h
  obtain ⟨a, cap, rfl, _⟩ := h
  have HL : Hid (l.length ≤ 4611686018427387904) := hl
  have hK : dcK l < 256 := tk_lt 1 l
  have hN : dcN l < 4294967296 := tk_lt 4 _
  have hC : dcC l < 4294967296 := tk_lt 4 _
  have DK : Hid (leN (tk 1 l) = dcK l) := rfl
  have DN : Hid (leN (tk 4 (l.drop 1)) = dcN l) := rfl
  have DC : Hid (leN (tk 4 ((l.drop 1).drop 4)) = dcC l) := by unfold Hid dcC; rw [List.drop_drop]
  have DB : Hid (tk (dcN l) (((l.drop 1).drop 4).drop 4) = dcB l) := by unfold Hid dcB; rw [List.drop_drop, List.drop_drop]
  have SH3 : Hid ((((false || decide (l.length < 1)) || decide ((l.drop 1).length < 4)) || decide (((l.drop 1).drop 4).length < 4)) = decide (l.length < 9)) := by
    unfold Hid; simp only [List.length_drop, Bool.false_or, ← Bool.decide_or]; apply decide_eq_decide.2; omega
  have L3 : Hid ((((l.drop 1).drop 4).drop 4).length = l.length - 9) := by unfold Hid; simp only [List.length_drop]; omega
  have EE : Hid (dcE l = if l.length < 9 then 161 else if dcK l = 0 then 160 else if 262144 < dcN l then 2 else if l.length < 9 + dcN l then 161 else if crc (UInt8.ofNat (dcK l) :: dcB l) = (dcC l : Int) then 0 else 162) := rfl
  have VV : Hid (∀ z, dcE l = z → z ≠ 0 → dcV l = .tuple #[.int .i64 0, .string (sb []), .int .i64 0, .int .i64 z]) := by
    intro z hz h0; unfold dcV; rw [hz, if_neg h0]
  obtain ⟨n, hn⟩ : ∃ n, n = l.length := ⟨_, rfl⟩
  have NN : Hid (n = l.length) := hn
  rw [← hn] at t0 hl ⊢
  clear hn
  have VO : Hid (dcE l = 0 → dcV l = .tuple #[.int .i64 (dcK l : Int), .string (sb (dcB l)), .int .i64 ((9 + dcN l : Nat) : Int), .int .i64 0]) := by
    intro hz; unfold dcV; rw [hz, if_pos rfl]
  generalize dcK l = k at *
  generalize dcN l = m at *
  generalize dcC l = c at *
  go_enter Tryz.func80, Tryz.ntmps80
  go_wp2_with fail
  refine t0.mono ?_
  rintro e w1 ⟨bt, bs, rfl, T1⟩
  unfold TK LF
  go_wp2_with fail
  refine (take_c T1 1 (by decide) HL.out).mono ?_
  rintro e w2 ⟨v2, rfl, o2, T2, _⟩
  go_wp2_with fail
  refine (tkn_c o2 (by decide)).mono ?_
  rintro e w' ⟨rfl, rfl⟩
  rw [DK.out]
  go_wp2_with fail
  refine (take_c T2 4 (by decide) (by rw [List.length_drop]; have := HL.out; omega)).mono ?_
  rintro e w3 ⟨v3, rfl, o3, T3, _⟩
  go_wp2_with fail
  refine (tkn_c o3 (by decide)).mono ?_
  rintro e w' ⟨rfl, rfl⟩
  rw [DN.out]
  go_wp2_with fail
  refine (take_c T3 4 (by decide) (by simp only [List.length_drop]; have := HL.out; omega)).mono ?_
  rintro e w4 ⟨v4, rfl, o4, T4, _⟩
  go_wp2_with fail
  refine (tkn_c o4 (by decide)).mono ?_
  rintro e w' ⟨rfl, rfl⟩
  rw [DC.out]
  rw [SH3.out] at T4
  go_wp2_with fail
  refine (left_c T4).mono ?_
  rintro e w' ⟨rfl, rfl⟩
  rw [L3.out, ← NN.out]
  by_cases h9 : n < 9
  · have E : Hid (dcE l = 161) := by unfold Hid; rw [EE.out, if_pos (by have := NN.out; omega)]
    rw [if_pos (by simp; exact h9)]
    go_wp2
    exact bodyPost_ret (v := .tuple #[.int .i64 0, .string (sb []), .int .i64 0, .int .i64 161]) (by simp [results, Tryz.results80, go_sem]; rfl) rfl ⟨by rw [VV.out _ E.out (by decide)], T4.gb⟩
  rw [if_neg (by simp; omega)]
  have E9 : ¬ l.length < 9 := by have := NN.out; omega
  by_cases h0 : k = 0
  · have E : Hid (dcE l = 160) := by unfold Hid; rw [EE.out, if_neg E9, if_pos h0]
    subst h0
    clear E9
    go_wp2
    exact bodyPost_ret (v := .tuple #[.int .i64 0, .string (sb []), .int .i64 0, .int .i64 160]) (by simp [results, Tryz.results80, go_sem]; rfl) rfl ⟨by rw [VV.out _ E.out (by decide)], T4.gb⟩
  have hk0 : ((k : Int) == 0) = false := by rw [beq_eq_false_iff_ne]; omega
  by_cases hm : 262144 < m
  · have E : Hid (dcE l = 2) := by unfold Hid; rw [EE.out, if_neg E9, if_neg h0, if_pos hm]
    clear E9 h0
    have hm' : (262144 : Int) < (m : Int) := by omega
    go_wp2
    exact bodyPost_ret (v := .tuple #[.int .i64 0, .string (sb []), .int .i64 0, .int .i64 2]) (by simp [results, Tryz.results80, go_sem]; rfl) rfl ⟨by rw [VV.out _ E.out (by decide)], T4.gb⟩
  have hm' : ¬ (262144 : Int) < (m : Int) := by omega
  clear E9
  go_wp2_with fail
  refine (take_c T4 m (by omega) (by simp only [List.length_drop]; have := HL.out; omega)).mono ?_
  rintro e w5 ⟨v5, rfl, o5, T5, k5⟩
  rw [DB.out] at o5
  have S5 : Hid ((decide (l.length < 9) || decide ((((l.drop 1).drop 4).drop 4).length < m)) = decide (n < 9 + m)) := by
    unfold Hid; rw [L3.out, ← NN.out, ← Bool.decide_or]; apply decide_eq_decide.2; omega
  rw [S5.out] at T5
  have L5 : Hid (((((l.drop 1).drop 4).drop 4).drop m).length = n - (9 + m)) := by unfold Hid; rw [List.length_drop, L3.out, NN.out]; omega
  go_wp2_with fail
  refine (left_c T5).mono ?_
  rintro e w' ⟨rfl, rfl⟩
  rw [L5.out]
  by_cases h5 : n < 9 + m
  · have E : Hid (dcE l = 161) := by unfold Hid; rw [EE.out, if_neg (by have := NN.out; omega), if_neg h0, if_neg hm, if_pos (by have := NN.out; omega)]
    rw [if_pos (by simp; exact h5)]
    clear h0 hm
    go_wp2
    exact bodyPost_ret (v := .tuple #[.int .i64 0, .string (sb []), .int .i64 0, .int .i64 161]) (by simp [results, Tryz.results80, go_sem]; rfl) rfl ⟨by rw [VV.out _ E.out (by decide)], T5.gb⟩
  rw [if_neg (by simp; omega)]
  have EC : Hid (dcE l = if crc (UInt8.ofNat k :: dcB l) = (c : Int) then 0 else 162) := by unfold Hid; rw [EE.out, if_neg (by have := NN.out; omega), if_neg h0, if_neg hm, if_neg (by have := NN.out; omega)]
  have hlb : (dcB l).length ≤ 4611686018427387904 := by rw [← DB.out, tk_length]; omega
  have hx : (k : Int) = ((UInt8.ofNat k).toNat : Int) := by simp; omega
  have ck := checkOf_c o5.rd hlb (UInt8.ofNat k) hx
  have DV : Hid (dcE l = 0 → dcV l = .tuple #[.int .i64 (k : Int), .string (sb (dcB l)), .int .i64 ((n : Int) - ((n - (9 + m) : Nat) : Int)), .int .i64 0]) := by
    intro hz; rw [VO.out hz]; congr 6; omega
  clear hx h0 hm hlb
  generalize hr : crc (UInt8.ofNat k :: dcB l) = r at *
  clear hr
  go_wp2_with fail
  refine ck.mono ?_
  rintro e w6 ⟨rfl, g6⟩
  by_cases hc : r = (c : Int)
  · subst hc
    have E : Hid (dcE l = 0) := by unfold Hid; rw [EC.out, if_pos rfl]
    have o6 := o5.gb g6
    have gq : ∀ q, Gb w6 (w6.drewN q) := fun q => below_drewN (Below.refl _ _) q
    have hs := fun q => str_of (o6.gb (gq q)).rd
    have T6 := T5.later g6
    have lq : ∀ q, Calls Tryz.prog 126 #[.pointer (some ⟨bs, 0, none⟩), .pointer (some ⟨bt, 0, none⟩)] (w6.drewN q) fun e w' => e = .returned (.int .i64 ((n - (9 + m) : Nat) : Int)) ∧ w' = w6.drewN q := fun q => (left_c (T6.later (gq q))).mono fun e w' ⟨h1, h2⟩ => ⟨by rw [h1, L5.out, if_neg (by simp; omega)], h2.symm⟩
    have hu : n - (9 + m) ≤ n := Nat.sub_le _ _
    generalize n - (9 + m) = u at *
    go_wp2_with fail
    go_quiet (first | (go_at_call 126; exact Calls.quiet_of_same (lq _)))
    go_wp2
    exact bodyPost_ret (v := .tuple #[.int .i64 (k : Int), .string (sb (dcB l)), .int .i64 ((n : Int) - (u : Int)), .int .i64 0]) (by simp [results, Tryz.results80, go_sem]) rfl ⟨by rw [DV.out E.out], below_drewN (gb_trans T5.gb g6) _⟩
  · have E : Hid (dcE l = 162) := by unfold Hid; rw [EC.out, if_neg hc]
    have hc' : (r != (c : Int)) = true := by rw [bne_iff_ne]; exact hc
    clear hc
    go_wp2
    exact bodyPost_ret (v := .tuple #[.int .i64 0, .string (sb []), .int .i64 0, .int .i64 162]) (by simp [results, Tryz.results80, go_sem]; rfl) rfl ⟨by rw [VV.out _ E.out (by decide)], gb_trans T5.gb g6⟩
end Go.Proofs.YtcbhhdjjanekaaaGreatDoor
