/- The reference's get, Encode, Decode. -/
import Derived.Test.YtgcinompidmliaaRCxCoA
namespace Go.Proofs.YtgcinompidmliaaR
open Go.RowKit Go.Lib

/-- So many bytes from a place on. -/
def cut (l : List UInt8) (at_ n : Nat) : List UInt8 := (l.drop at_).take n
theorem cut_length {l : List UInt8} {a n : Nat} (h : a + n ≤ l.length) : (cut l a n).length = n := by simp [cut]; omega
theorem leN_cut {l : List UInt8} {a n : Nat} (h : a < l.length) : leN (cut l a (n + 1)) = l[a]!.toNat + 256 * leN (cut l (a + 1) n) := by
  unfold cut
  rw [List.drop_eq_getElem_cons h, List.take_succ_cons, leN, getElem!_pos l a h]
theorem cut_tk {l : List UInt8} {a n : Nat} (h : a + n ≤ l.length) : tk n (l.drop a) = cut l a n := by
  unfold tk cut; rw [List.length_drop, Nat.sub_eq_zero_of_le (by omega)]; simp
set_option maxHeartbeats 1000000 in
theorem get_c (s : ByteArray) (a n : Nat) (h : a + n ≤ s.size) (hn : n ≤ 4) (hs : s.size ≤ 4611686018427387904) (w : World) :
    Calls Try.prog 36 #[.string s, .int .i64 (a : Int), .int .i64 (n : Int)] w fun e w' => e = .returned (.int .i64 (leN (cut s.data.toList a n) : Int)) ∧ w = w' := by
  go_enter Try.func36, Try.ntmps36
  go_wp2
  go_loopw [7, 8] (fun vv iv w' => ∃ q : Nat, iv = .int .i64 ((q : Int) - 1) ∧ q ≤ n ∧ vv = .int .i64 (leN (cut s.data.toList (a + q) (n - q)) : Int) ∧ w = w') (fun _ iv _ => (intOf iv + 1).toNat)
  case atStart => exact ⟨n, rfl, Nat.le_refl _, by simp [cut, leN], rfl⟩
  case round =>
    obtain ⟨q, rfl, hq, rfl, rfl⟩ := hrel
    by_cases h0 : q = 0
    · subst h0
      go_wp2
      go_ret
      exact ⟨by simp, by first | rfl | trivial⟩
    · obtain ⟨p, rfl⟩ : ∃ p, q = p + 1 := ⟨q - 1, by omega⟩
      have hpi : a + p < s.size := by omega
      have hpl : a + p < s.data.toList.length := by simpa using hpi
      have S : Hid (leN (cut s.data.toList (a + p) (n - p)) = s.data.toList[a + p]!.toNat + 256 * leN (cut s.data.toList (a + (p + 1)) (n - (p + 1)))) := by
        have e : n - p = (n - (p + 1)) + 1 := by omega
        unfold Hid; rw [e, leN_cut hpl]; rfl
      have hb : leN (cut s.data.toList (a + (p + 1)) (n - (p + 1))) < 256 ^ (n - (p + 1)) := by
        have := leN_lt (cut s.data.toList (a + (p + 1)) (n - (p + 1))); rwa [cut_length (by simp; omega)] at this
      have hb2 : leN (cut s.data.toList (a + (p + 1)) (n - (p + 1))) < 16777216 := Nat.lt_of_lt_of_le hb (by
        have : n - (p + 1) ≤ 3 := by omega
        calc 256 ^ (n - (p + 1)) ≤ 256 ^ 3 := Nat.pow_le_pow_right (by decide) this
          _ = 16777216 := by decide)
      generalize leN (cut s.data.toList (a + (p + 1)) (n - (p + 1))) = y at *
      clear hb
      have hw : Hid (wrap64 (256 * (y : Int) + wrap64 (s[a + p].toNat : Int)) = ((s.data.toList[a + p]!.toNat + 256 * y : Nat) : Int)) := by
        have hx : s.data.toList[a + p]! = s[a + p] := by rw [getElem!_pos s.data.toList (a + p) hpl]; rfl
        have := s[a + p].toNat_lt
        rw [hx]
        unfold Hid wrap64; omega
      go_wp2
      exact ⟨⟨p, rfl, by omega, by rw [hw.out, S.out], trivial⟩, by simp [intOf]⟩
theorem cell_new1 (W : World) (v : Value) (t : TypeId) : (W.alloc (.cells #[v] t)).cell? ⟨W.heap.size, 0, none⟩ = some v := by simp [go_sem]
/-- append turns nothing that was there. -/
theorem OwnB.gbg {w1 w w' : World} {v : Value} {l : List UInt8} (g : Gb w1 w) (h : OwnB w w1.heap.size v l) (k : w.grownBy w' v.ownBlock) : Gb w1 w' :=
  below_grown' g k (fun i e => (h.lo i e).1)
set_option maxHeartbeats 2000000 in
theorem rencode_c (k : Int) (l : List UInt8) (hl : l.length ≤ 4611686018427387904) (w : World) :
    Calls Try.prog 8 #[.int .i64 k, .string (sb l)] w fun e w' => enP w w' e k l := by
  have hsz := sb_size l
  have SB : Hid (sb l = sb l) := rfl
  obtain ⟨s, hs⟩ : ∃ s, s = sb l := ⟨_, rfl⟩
  have SS : Hid (s = sb l) := hs
  rw [← hs] at hsz ⊢
  clear hs SB
  unfold enP
  by_cases h1 : k < 1 ∨ 255 < k
  · have E : enE k l.length = 160 := by unfold enE; rw [if_pos h1]
    rw [E]
    by_cases h0 : k < 1
    · clear h1 hl E
      go_enter Try.func8, Try.ntmps8
      go_wp2
      exact bodyPost_ret (v := .tuple #[.slice none 0 0, .int .i64 160]) (by simp [results, Try.results8, go_sem]) rfl ⟨_, rfl, Below.refl _ _, ownb_nil _ _⟩
    · have h2 : 255 < k := by omega
      clear h1 hl E
      go_enter Try.func8, Try.ntmps8
      go_wp2
      exact bodyPost_ret (v := .tuple #[.slice none 0 0, .int .i64 160]) (by simp [results, Try.results8, go_sem]) rfl ⟨_, rfl, Below.refl _ _, ownb_nil _ _⟩
  have hk1 : ¬ k < 1 := by omega
  have hk2 : ¬ 255 < k := by omega
  by_cases h2 : 262144 < l.length
  · have E : enE k l.length = 2 := by unfold enE; rw [if_neg h1, if_pos h2]
    rw [E]
    clear h1 E
    generalize l.length = n at *
    have h2' : (262144 : Int) < (n : Int) := by omega
    go_enter Try.func8, Try.ntmps8
    go_wp2
    exact bodyPost_ret (v := .tuple #[.slice none 0 0, .int .i64 2]) (by simp [results, Try.results8, go_sem]) rfl ⟨_, rfl, Below.refl _ _, ownb_nil _ _⟩
  have E : enE k l.length = 0 := by unfold enE; rw [if_neg h1, if_neg h2]
  rw [E, if_pos rfl]
  obtain ⟨m, rfl⟩ : ∃ m : Nat, k = (m : Int) := ⟨k.toNat, by omega⟩
  have hm : m < 256 := by omega
  have M : Hid ((m : Int).toNat = m) := by unfold Hid; omega
  have hx : ((UInt8.ofNat m).toNat : Int) = (m : Int) := by simp; omega
  have hU : U3 (crc (UInt8.ofNat m :: l)) := by unfold crc; exact u3_bits _ _ _
  have TT : Hid (enT m l = [] ++ leB m 1 ++ leB l.length 4 ++ leB (crc (UInt8.ofNat m :: l)).toNat 4 ++ l) := by unfold Hid enT; simp
  obtain ⟨cn, hcn⟩ : ∃ cn : Nat, crc (UInt8.ofNat m :: l) = (cn : Int) := ⟨(crc (UInt8.ofNat m :: l)).toNat, by unfold U3 at hU; omega⟩
  rw [hcn] at hU TT
  have CN : Hid ((cn : Int).toNat = cn) := by unfold Hid; omega
  rw [CN.out] at TT
  rw [M.out]
  have CR : Hid (crc (UInt8.ofNat m :: l) = (cn : Int)) := hcn
  have X : Hid (((UInt8.ofNat m).toNat : Int) = (m : Int)) := hx
  have hcl : cn < 4294967296 := by unfold U3 at hU; omega
  generalize hn : l.length = n at *
  have N : Hid (l.length = n) := hn
  have h2' : ¬ (262144 : Int) < (n : Int) := by omega
  have hn0 : n ≤ 262144 := by omega
  have hmi : (m : Int) < 256 := by omega
  clear hn hx h1 E hcn hU h2
  have n1 := rnumber_g (Below.refl _ w) (ownb_nil w w.heap.size) m 1 (by omega) (by simp)
  go_enter Try.func8, Try.ntmps8
  go_wp2_with fail
  refine n1.mono ?_
  rintro e w3 ⟨v3, rfl, o3, g3⟩
  have n2 := rnumber_g g3 o3 n 4 (by omega) (by simp [leB_length])
  go_wp2_with fail
  refine n2.mono ?_
  rintro e w4 ⟨v4, rfl, o4, g4⟩
  go_wp2_with (first
    | (at_builtin; refine app_B rfl _ _ rfl w4.heap.size rfl (ownb_nil _ _) (by simp) (by simp) X.out rfl (cell_new1 _ _ _) ?_; intro v5 w5 o5 g5)
    | (at_builtin; refine app_S rfl _ _ rfl w4.heap.size (m := l) rfl o5 (by have := g5.grown.size; simp at this; omega) rfl SS.out (by rw [N.out]; simp; omega) ?_; intro v6 w6 o6 g6)
    | fail)
  have G5 : Gb w4 w5 := below_grown' (gb_alloc (Below.refl _ w4) _) g5.grown (fun i e => by cases e)
  have G6 : Gb w4 w6 := OwnB.gbg G5 o5 g6
  refine (rsum_c o6.rd (by simp only [List.length_append, List.length_cons, List.length_nil]; rw [N.out]; omega)).mono ?_
  rintro e w' ⟨rfl, rfl⟩
  have CR2 : Hid (crc ([] ++ [UInt8.ofNat m] ++ l) = (cn : Int)) := CR.out
  rw [CR2.out]
  have n3 := rnumber_g (gb_trans g4 G6) (o4.gb G6) cn 4 (by omega) (by simp [leB_length])
  go_wp2_with fail
  refine n3.mono ?_
  rintro e w7 ⟨v7, rfl, o7, g7⟩
  go_wp2_with (first
    | (at_builtin; refine app_S rfl _ _ rfl w.heap.size (m := l) rfl o7 g7.size rfl SS.out (by rw [N.out]; simp [leB_length]; omega) ?_; intro v8 w8 o8 g8)
    | fail)
  refine bodyPost_ret (v := .tuple #[v8, .int .i64 0]) (by simp [results, Try.results8, go_sem]) rfl ⟨v8, rfl, OwnB.gbg g7 o7 g8, ?_⟩
  rw [TT.out]
  exact o8
set_option maxHeartbeats 2000000 in
set_option maxRecDepth 100000 in
theorem rdecode_c {w : World} {v : Value} {l : List UInt8} (h : RdB w v l) (hl : l.length ≤ 4611686018427387904) :
    Calls Try.prog 13 #[v] w fun e w' => e = .returned (dcV l) ∧ Gb w w' := by
  have hs := str_of h
  obtain ⟨a, cap, rfl, hcap, hcl⟩ := h
  have VV : Hid (∀ z, dcE l = z → z ≠ 0 → dcV l = .tuple #[.int .i64 0, .string (sb []), .int .i64 0, .int .i64 z]) := by
    intro z hz h0; unfold dcV; rw [hz, if_neg h0]
  have EE : Hid (dcE l = if l.length < 9 then 161 else if dcK l = 0 then 160 else if 262144 < dcN l then 2 else if l.length < 9 + dcN l then 161 else if crc (UInt8.ofNat (dcK l) :: dcB l) = (dcC l : Int) then 0 else 162) := rfl
  by_cases h9 : l.length < 9
  · have E : Hid (dcE l = 161) := by unfold Hid; rw [EE.out, if_pos h9]
    generalize l.length = n at *
    clear hcl hs
    go_enter Try.func13, Try.ntmps13
    go_wp2
    exact bodyPost_ret (v := .tuple #[.int .i64 0, .string (sb []), .int .i64 0, .int .i64 161]) (by simp [results, Try.results13, go_sem]; rfl) rfl ⟨by rw [VV.out _ E.out (by decide)], Below.refl _ _⟩
  obtain ⟨b, o, rfl, hc0⟩ := hcl 0 (by omega)
  rw [Nat.add_zero] at hc0
  have hsz := sb_size l
  have SS : Hid (∃ S, S = sb l) := ⟨_, rfl⟩
  obtain ⟨S, hS⟩ := SS
  have SL : Hid (S.data.toList = l) := by unfold Hid; rw [hS]; rfl
  have SZ : Hid (S = sb l) := hS
  rw [← hS] at hsz hs
  clear hS
  have L0 : Hid (l = l[0]! :: l.drop 1) := by
    unfold Hid
    cases l with
    | nil => simp at h9
    | cons x r => rfl
  have DK : Hid (dcK l = l[0]!.toNat) := by
    unfold Hid dcK
    rw [L0.out]
    simp [tk, leN]
  have DX : Hid (UInt8.ofNat (dcK l) = l[0]!) := by unfold Hid; rw [DK.out]; simp
  have DN : Hid (leN (cut l 1 4) = dcN l) := by unfold Hid dcN; rw [cut_tk (by omega)]
  have DC : Hid (leN (cut l 5 4) = dcC l) := by unfold Hid dcC; rw [cut_tk (by omega)]
  have gN := get_c S 1 4 (by omega) (by decide) (by omega)
  have gC := get_c S 5 4 (by omega) (by decide) (by omega)
  rw [SL.out, DN.out] at gN
  rw [SL.out, DC.out] at gC
  have hN : dcN l < 4294967296 := tk_lt 4 _
  have hC : dcC l < 4294967296 := tk_lt 4 _
  have hk : dcK l < 256 := tk_lt 1 l
  have X : Hid ((l[0]!.toNat : Int) = (dcK l : Int)) := by unfold Hid; rw [DK.out]
  have VO : Hid (dcE l = 0 → dcV l = .tuple #[.int .i64 (dcK l : Int), .string (sb (dcB l)), .int .i64 ((9 + dcN l : Nat) : Int), .int .i64 0]) := by
    intro hz; unfold dcV; rw [hz, if_pos rfl]
  rw [X.out] at hc0
  have BB : Hid (¬ l.length < 9 + dcN l → S.extract 9 (9 + dcN l) = sb (dcB l)) := by
    intro hh
    unfold dcB
    rw [cut_tk (by omega), SZ.out]
    apply ByteArray.ext
    apply Array.ext'
    simp [sb, cut, ByteArray.data_extract, List.extract_eq_take_drop]
  obtain ⟨n, hn⟩ : ∃ n, n = l.length := ⟨_, rfl⟩
  have NN : Hid (n = l.length) := hn
  rw [← hn] at hsz h9 hs hcap hl ⊢
  have hsz' : S.size = n := hsz
  generalize dcK l = k at *
  generalize hm : dcN l = m at *
  have MM : Hid (dcN l = m) := hm
  generalize dcC l = c at *
  clear hn hcl hm
  have hn9 : ¬ (n : Int) < 9 := by omega
  by_cases h0 : k = 0
  · have E : Hid (dcE l = 160) := by unfold Hid; rw [EE.out, if_neg (by have := NN.out; omega), if_pos h0]
    subst h0
    go_enter Try.func13, Try.ntmps13
    go_wp2_with fail
    refine (gN _).mono ?_
    rintro e w' ⟨rfl, rfl⟩
    go_wp2
    exact bodyPost_ret (v := .tuple #[.int .i64 0, .string (sb []), .int .i64 0, .int .i64 160]) (by simp [results, Try.results13, go_sem]; rfl) rfl ⟨by rw [VV.out _ E.out (by decide)], Below.refl _ _⟩
  have hk0 : ((k : Int) == 0) = false := by rw [beq_eq_false_iff_ne]; omega
  by_cases hm : 262144 < m
  · have E : Hid (dcE l = 2) := by unfold Hid; rw [EE.out, if_neg (by have := NN.out; omega), if_neg h0, if_pos hm]
    clear h0
    have hm' : (262144 : Int) < (m : Int) := by omega
    go_enter Try.func13, Try.ntmps13
    go_wp2_with fail
    refine (gN _).mono ?_
    rintro e w' ⟨rfl, rfl⟩
    go_wp2
    exact bodyPost_ret (v := .tuple #[.int .i64 0, .string (sb []), .int .i64 0, .int .i64 2]) (by simp [results, Try.results13, go_sem]; rfl) rfl ⟨by rw [VV.out _ E.out (by decide)], Below.refl _ _⟩
  have hm' : ¬ (262144 : Int) < (m : Int) := by omega
  by_cases h5 : n < 9 + m
  · have E : Hid (dcE l = 161) := by unfold Hid; rw [EE.out, if_neg (by have := NN.out; omega), if_neg h0, if_neg hm, if_pos (by have := NN.out; omega)]
    clear h0 hm
    have h5' : (n : Int) - 9 < (m : Int) := by omega
    go_enter Try.func13, Try.ntmps13
    go_wp2_with fail
    refine (gN _).mono ?_
    rintro e w' ⟨rfl, rfl⟩
    go_wp2
    exact bodyPost_ret (v := .tuple #[.int .i64 0, .string (sb []), .int .i64 0, .int .i64 161]) (by simp [results, Try.results13, go_sem]; rfl) rfl ⟨by rw [VV.out _ E.out (by decide)], Below.refl _ _⟩
  have EC : Hid (dcE l = if crc (UInt8.ofNat k :: dcB l) = (c : Int) then 0 else 162) := by unfold Hid; rw [EE.out, if_neg (by have := NN.out; omega), if_neg h0, if_neg hm, if_neg (by have := NN.out; omega)]
  have h5' : ¬ (n : Int) - 9 < (m : Int) := by omega
  have B2 : Hid (S.extract 9 (9 + m) = sb (dcB l)) := BB.out (by have := NN.out; omega)
  clear h0 hm
  go_enter Try.func13, Try.ntmps13
  go_wp2_with fail
  refine (gN _).mono ?_
  rintro e w' ⟨rfl, rfl⟩
  have hlb : (dcB l).length = m := by unfold dcB; rw [tk_length, MM.out]
  have LB : Hid ((dcB l).length = m) := hlb
  have DX2 : Hid (UInt8.ofNat k = l[0]!) := DX.out
  have DV : Hid (dcE l = 0 → dcV l = .tuple #[.int .i64 (k : Int), .string (sb (dcB l)), .int .i64 (9 + (m : Int)), .int .i64 0]) := by
    intro hz; rw [VO.out hz]; congr 6
  clear hlb
  go_wp2_with (first
    | (at_builtin; refine app_B rfl _ _ rfl w.heap.size rfl (ownb_nil _ _) (by simp) (by simp) X.out rfl (cell_new1 _ _ _) ?_; intro v5 w5 o5 g5)
    | (at_builtin; refine app_S rfl _ _ rfl w.heap.size (m := dcB l) rfl o5 (by have := g5.grown.size; simp at this; omega) rfl B2.out (by rw [LB.out]; simp; omega) ?_; intro v6 w6 o6 g6)
    | fail)
  have G5 : Gb w w5 := below_grown' (gb_alloc (Below.refl _ w) _) g5.grown (fun i e => by cases e)
  have G6 : Gb w w6 := OwnB.gbg G5 o5 g6
  refine (gC _).mono ?_
  rintro e w' ⟨rfl, rfl⟩
  go_wp2_with fail
  refine (rsum_c o6.rd (by simp only [List.length_append, List.length_cons, List.length_nil]; rw [LB.out]; omega)).mono ?_
  rintro e w' ⟨rfl, rfl⟩
  have CR : Hid (crc ([] ++ [l[0]!] ++ dcB l) = crc (UInt8.ofNat k :: dcB l)) := by unfold Hid; rw [DX2.out]; rfl
  rw [CR.out]
  have hr3 : U3 (crc (UInt8.ofNat k :: dcB l)) := by unfold crc; exact u3_bits _ _ _
  generalize crc (UInt8.ofNat k :: dcB l) = r at *
  obtain ⟨r0, r1⟩ := hr3
  have hcell := gb_keeps G6 hc0
  by_cases hc : r = (c : Int)
  · subst hc
    have E : Hid (dcE l = 0) := by unfold Hid; rw [EC.out, if_pos rfl]
    go_wp2
    exact bodyPost_ret (v := .tuple #[.int .i64 (k : Int), .string (sb (dcB l)), .int .i64 (9 + (m : Int)), .int .i64 0]) (by simp [results, Try.results13, go_sem, B2.out]) rfl ⟨by rw [DV.out E.out], G6⟩
  · have E : Hid (dcE l = 162) := by unfold Hid; rw [EC.out, if_neg hc]
    have hc' : ((c : Int) != r) = true := by rw [bne_iff_ne]; exact Ne.symm hc
    clear hc
    go_wp2
    exact bodyPost_ret (v := .tuple #[.int .i64 0, .string (sb []), .int .i64 0, .int .i64 162]) (by simp [results, Try.results13, go_sem]; rfl) rfl ⟨by rw [VV.out _ E.out (by decide)], G6⟩
end Go.Proofs.YtgcinompidmliaaR
