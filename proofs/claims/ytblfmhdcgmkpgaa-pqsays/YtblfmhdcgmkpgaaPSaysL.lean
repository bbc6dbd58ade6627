/- PqSays: the walk. -/
import Derived.Test.YtblfmhdcgmkpgaaPAny
namespace Go.Proofs.Ytblfmhdcgmkpgaa
open Go.RowKit Go.Maps

set_option maxHeartbeats 1000000 in
set_option maxRecDepth 100000 in
theorem says_long {w : World} {lv qv cv : Value} {l : Vs} {q code : List Int} (hl : RdVJ w lv l) (d m k r x : Int) (hq : RdJ w qv q) (hc : RdI w cv code) (hlong : 32768 < q.length ∨ 32768 < code.length) :
    Calls Try.prog 6 #[lv, .agg #[.int .i64 d, .int .i64 m, .int .i64 k, .int .i64 r, .int .u64 x], qv, cv] w fun e w' => e = .returned (.bool true) ∧ Gb w w' := by
  have GH : Gb w (w.alloc (.cells #[.int .i64 d, .int .i64 m, .int .i64 k, .int .i64 r, .int .u64 x] 25)) := gb_alloc (Below.refl _ _) _
  have cb := big_c (hl.gb GH).rd
  have G : Hid (Gb w (w.alloc (.cells #[.int .i64 d, .int .i64 m, .int .i64 k, .int .i64 r, .int .u64 x] 25))) := GH
  obtain ⟨al, cl, rfl, _⟩ := hl
  obtain ⟨⟨aq, cq, rfl, _⟩, _⟩ := hq
  obtain ⟨ac, cc, rfl, _⟩ := hc
  generalize l.length = n at *
  generalize q.length = nq at *
  generalize code.length = nc at *
  clear GH
  by_cases h1 : 32768 < nq
  · clear hlong
    go_enter Try.func6, Try.ntmps6
    go_wp2_with fail
    go_fit cb
    rintro e w1 ⟨⟨b, rfl⟩, e1⟩
    subst e1
    clear cb
    cases b with
    | true =>
      go_wp2
      go_ret
      exact ⟨rfl, G.out⟩
    | false =>
      go_wp2
      go_ret
      exact ⟨rfl, G.out⟩
  · have h2 : 32768 < nc := by omega
    clear hlong
    go_enter Try.func6, Try.ntmps6
    go_wp2_with fail
    go_fit cb
    rintro e w1 ⟨⟨b, rfl⟩, e1⟩
    subst e1
    clear cb
    cases b with
    | true =>
      go_wp2
      go_ret
      exact ⟨rfl, G.out⟩
    | false =>
      go_wp2
      go_ret
      exact ⟨rfl, G.out⟩
set_option maxHeartbeats 1000000 in
set_option maxRecDepth 100000 in
theorem says_no {w : World} {lv qv cv : Value} {l : Vs} {q code : List Int} (hl : RdVJ w lv l) (d m k r x : Int) (hq : RdJ w qv q) (hc : RdI w cv code) (h1 : q.length ≤ 32768) (h2 : code.length ≤ 32768) (hz : pqE l d m k r ≠ 0) :
    Calls Try.prog 6 #[lv, .agg #[.int .i64 d, .int .i64 m, .int .i64 k, .int .i64 r, .int .u64 x], qv, cv] w fun e w' => e = .returned (.bool true) ∧ Gb w w' := by
  have GH : Gb w (w.alloc (.cells #[.int .i64 d, .int .i64 m, .int .i64 k, .int .i64 r, .int .u64 x] 25)) := gb_alloc (Below.refl _ _) _
  have cb := big_c (hl.gb GH).rd
  have ct := lawtrain_no (hl.gb GH).rd d m k r x hz
  have hz' : (pqE l d m k r == 0) = false := by rw [beq_eq_false_iff_ne]; exact hz
  have G : Hid (Gb w (w.alloc (.cells #[.int .i64 d, .int .i64 m, .int .i64 k, .int .i64 r, .int .u64 x] 25))) := GH
  obtain ⟨al, cl, rfl, _⟩ := hl
  obtain ⟨⟨aq, cq, rfl, _⟩, _⟩ := hq
  obtain ⟨ac, cc, rfl, _⟩ := hc
  generalize pqE l d m k r = z at *
  generalize l.length = n at *
  generalize q.length = nq at *
  generalize code.length = nc at *
  clear GH
  go_enter Try.func6, Try.ntmps6
  go_wp2_with fail
  go_fit cb
  rintro e w1 ⟨⟨b, rfl⟩, e1⟩
  subst e1
  clear cb
  cases b with
  | true =>
    go_wp2
    go_ret
    exact ⟨rfl, G.out⟩
  | false =>
    go_wp2_with fail
    go_fit ct
    rintro e w2 ⟨rfl, g2⟩
    have G2 : Hid (Gb w w2) := gb_trans G.out g2
    clear ct g2
    go_wp2_with (go_at_call 12; refine (awake_c _).mono ?_; rintro e w3 ⟨rfl, g3⟩)
    go_ret
    exact ⟨rfl, gb_trans G2.out g3⟩

set_option maxHeartbeats 4000000 in
set_option maxRecDepth 100000 in
theorem says_ok {w : World} {lv qv cv : Value} {l : Vs} {q code : List Int} (hl : RdVJ w lv l) {m s k r : Nat} (T : TrOk l m s k r) (x : Int) (hx : Rn.U x) (hq : RdJ w qv q) (hc : RdI w cv code) (h1 : q.length ≤ 32768) (h2 : code.length ≤ 32768) :
    Calls Try.prog 6 #[lv, .agg #[.int .i64 ((m * s : Nat) : Int), .int .i64 (m : Int), .int .i64 (k : Int), .int .i64 (r : Int), .int .u64 x], qv, cv] w fun e w' => e = .returned (.bool true) ∧ Gb w w' := by
  have HX : Hid (RdVJ w lv l ∧ TrOk l m s k r ∧ RdJ w qv q ∧ RdI w cv code) := ⟨hl, T, hq, hc⟩
  have BK : Hid (Bks (booksV l m k r x) m s k) := T.bks x
  have DM : Hid ((decide (0 < (1 : Int))) = true) := by unfold Hid; decide
  obtain ⟨D, hD⟩ : ∃ D, D = m * s := ⟨_, rfl⟩
  have DD : Hid (D = m * s) := hD
  have GH : Gb w (w.alloc (.cells #[.int .i64 ((m * s : Nat) : Int), .int .i64 (m : Int), .int .i64 (k : Int), .int .i64 (r : Int), .int .u64 x] 25)) := gb_alloc (Below.refl _ _) _
  have cb := big_c (hl.gb GH).rd
  have ct := lawtrain_ok (hl.gb GH) T x hx
  have G : Hid (Gb w (w.alloc (.cells #[.int .i64 ((m * s : Nat) : Int), .int .i64 (m : Int), .int .i64 (k : Int), .int .i64 (r : Int), .int .u64 x] 25))) := GH
  obtain ⟨al, cl, rfl, _⟩ := hl
  obtain ⟨⟨aq, cq, rfl, _⟩, _⟩ := hq
  obtain ⟨ac, cc, rfl, _⟩ := hc
  obtain ⟨nl, hnl⟩ : ∃ n, n = l.length := ⟨_, rfl⟩
  obtain ⟨nq, hnq⟩ : ∃ n, n = q.length := ⟨_, rfl⟩
  obtain ⟨nc, hnc⟩ : ∃ n, n = code.length := ⟨_, rfl⟩
  have LEN : Hid (nl = l.length ∧ nq = q.length ∧ nc = code.length) := ⟨hnl, hnq, hnc⟩
  rw [← hnl] at HX cb ct
  rw [← hnq] at HX h1
  rw [← hnc] at HX h2
  rw [← hnl, ← hnq, ← hnc]
  rw [← hD] at cb ct G ⊢
  generalize booksV l m k r x = bs at *
  clear GH hnl hnq hnc hD T hx DM
  go_enter Try.func6, Try.ntmps6
  go_wp2_with fail
  go_fit cb
  rintro e w1 ⟨⟨b, rfl⟩, e1⟩
  subst e1
  clear cb
  cases b with
  | true =>
    go_wp2
    go_ret
    exact ⟨rfl, G.out⟩
  | false =>
    go_wp2_with fail
    go_fit ct
    rintro e w2 ⟨p, rfl, c2, g2⟩
    have G2 : Hid (Gb w w2) := gb_trans G.out g2
    have C2 : Hid (CodAt w2 p (m * s) bs) := by unfold Hid; rw [← DD.out]; exact c2
    clear ct g2 c2 G
    have cd := decode_any C2.out BK.out (HX.out.2.2.2.gb G2.out) (by have := LEN.out; omega)
    go_wp2_with fail
    go_fit cd
    rintro e w3 ⟨u3, z3, rfl, o3, g3⟩
    have O3 : Hid (DecO w2 w3 bs code u3 z3 ∧ Gb w2 w3 ∧ Gb w w3) := ⟨o3, g3, gb_trans G2.out g3⟩
    obtain ⟨a3, n3, c3, e3⟩ := o3.form
    subst e3
    have ctb := table_any (C2.out.gb O3.out.2.1) BK.out (HX.out.2.2.1.gb O3.out.2.2)
    clear cd o3 g3
    go_wp2_with fail
    go_fit ctb
    rintro e w4 ⟨u4, z4, rfl, o4, g4⟩
    have O4 : Hid (TabO w3 w4 bs (m * s) q u4 z4 ∧ Gb w3 w4 ∧ Gb w w4) := ⟨o4, g4, gb_trans O3.out.2.2 g4⟩
    obtain ⟨a4, n4, c4, e4⟩ := o4.form
    subst e4
    clear ctb o4 g4
    rcases O3.out.1 with ⟨hp, hz3, own3⟩ | ⟨hp, hz3, hu3⟩
    · rcases O4.out.1 with ⟨hk4, hz4, own4⟩ | ⟨hk4, hz4, hu4⟩
      · subst hz3 hz4
        have PP : Hid (Plc code (lensV bs) ∧ chk q ((m * s : Nat) : Int) = 0) := ⟨hp, hk4⟩
        have R3 : Hid (RdJ w3 (.slice a3 n3 c3) (decV bs code)) := own3.rdj
        have ds := dist_chk (decV_chk BK.out hp) hk4
        have hd := est_dst BK.out hp hk4
        have hle := dst_le (decV_chk BK.out hp) hk4
        have ce := est_in own4.rd (HX.out.2.2.2.gb O4.out.2.2) (by have := LEN.out; omega) (by rw [tab_lens]; exact hp) (tab_ok BK.out hk4) (dst (decV bs code) q) 0 (.inl ⟨by rw [hd]; omega, hd.symm, rfl⟩)
        clear own3 own4 hp hk4 hd hle
        obtain ⟨DS, hDS⟩ : ∃ DS, DS = dst (decV bs code) q := ⟨_, rfl⟩
        rw [← hDS] at ce ds
        clear hDS
        go_wp2_with fail
        go_fit ce
        rintro e w5 ⟨rfl, g5⟩
        have g5' : Gb w4 (w5.alloc (.cells #[.int .u64 (hi DS), .int .u64 (lo DS)] 51)) := gb_alloc g5 _
        have O5 : Hid (Gb w4 (w5.alloc (.cells #[.int .u64 (hi DS), .int .u64 (lo DS)] 51))) := g5'
        have A5 : Hid (At2 (w5.alloc (.cells #[.int .u64 (hi DS), .int .u64 (lo DS)] 51)) w5.heap.size DS) := At2.new w5 DS _
        have cd := rdist_c ((R3.out.gb (gb_trans O4.out.2.1 O5.out)).1) ((HX.out.2.2.1.gb (gb_trans O4.out.2.2 O5.out)).1)
        rw [ds.1, ds.2] at cd
        clear ce g5 g5' ds
        go_wp2_with fail
        go_fit cd
        rintro e w6 ⟨rfl, g6⟩
        have g6' : Gb (w5.alloc (.cells #[.int .u64 (hi DS), .int .u64 (lo DS)] 51)) (w6.alloc (.cells #[.int .u64 (hi DS), .int .u64 (lo DS)] 51)) := gb_alloc g6.gb _
        have O6 : Hid (Gb (w5.alloc (.cells #[.int .u64 (hi DS), .int .u64 (lo DS)] 51)) (w6.alloc (.cells #[.int .u64 (hi DS), .int .u64 (lo DS)] 51))) := g6'
        have A6 : Hid (At2 (w6.alloc (.cells #[.int .u64 (hi DS), .int .u64 (lo DS)] 51)) w6.heap.size DS) := At2.new w6 DS _
        have G26 : Hid (Gb w2 (w6.alloc (.cells #[.int .u64 (hi DS), .int .u64 (lo DS)] 51))) := gb_trans O3.out.2.1 (gb_trans O4.out.2.1 (gb_trans O5.out O6.out))
        have ce := encode_ok (C2.out.gb G26.out) BK.out (R3.out.gb (gb_trans O4.out.2.1 (gb_trans O5.out O6.out))) (decV_chk BK.out PP.out.1)
        clear cd g6 g6'
        go_wp2_with fail
        go_fit ce
        rintro e w7 ⟨u7, rfl, o7, g7⟩
        have O7 : Hid (Gb (w6.alloc (.cells #[.int .u64 (hi DS), .int .u64 (lo DS)] 51)) w7) := g7
        have cd := decode_ok (C2.out.gb (gb_trans G26.out O7.out)) BK.out o7.rd (encV_places BK.out (decV bs code))
        rw [said_again BK.out PP.out.1] at cd
        obtain ⟨a7, c7, e7, _⟩ := o7.rd
        subst e7
        generalize (encV bs (decV bs code)).length = n7 at *
        clear ce o7 g7
        go_wp2_with fail
        go_fit cd
        rintro e w8 ⟨u8, rfl, o8, g8⟩
        have O8 : Hid (Gb w7 w8) := g8
        have R8 : Hid (RdI w8 u8 (decV bs code)) := o8.rd
        obtain ⟨a8, c8, e8, _⟩ := o8.rd
        subst e8
        obtain ⟨s0, s1, _, _⟩ := A5.out
        obtain ⟨t0, t1, _, _⟩ := A6.out
        have s0 := gb_keeps (gb_trans O6.out (gb_trans O7.out O8.out)) s0
        have s1 := gb_keeps (gb_trans O6.out (gb_trans O7.out O8.out)) s1
        have t0 := gb_keeps (gb_trans O7.out O8.out) t0
        have t1 := gb_keeps (gb_trans O7.out O8.out) t1
        have ws := wd_same (hi DS) (lo DS)
        have G8 : Hid (Gb w w8) := gb_trans G2.out (gb_trans G26.out (gb_trans O7.out O8.out))
        have R38 : Hid (RdI w8 (.slice a3 n3 c3) (decV bs code)) := (R3.out.gb (gb_trans O4.out.2.1 (gb_trans O5.out (gb_trans O6.out (gb_trans O7.out O8.out))))).1
        have ci := fun W (g : Gb w8 W) => ints_c (R8.out.gb g) (R38.out.gb g) (by have := decV_len BK.out PP.out.1; have := BK.out.d64; omega)
        rw [decide_eq_true rfl] at ci
        generalize (decV bs code).length = n8 at *
        clear cd o8 g8
        go_wp2_with (first
          | (go_at_call 12; refine (awake_c _).mono ?_; rintro e w9 ⟨rfl, g9⟩; have s0 := gb_keeps g9 s0; have s1 := gb_keeps g9 s1; have t0 := gb_keeps g9 t0; have t1 := gb_keeps g9 t1)
          | (go_at_call 22; refine (ci _ g9).mono ?_; rintro e wA ⟨rfl, gA⟩))
        go_ret
        exact ⟨rfl, gb_trans G8.out (gb_trans g9 gA.gb)⟩
      · have hzb : (z4 == 0) = false := by rw [beq_eq_false_iff_ne, hz4]; exact hk4
        have hzn : ¬ z4 = 0 := by rw [hz4]; exact hk4
        have hzz : (z4 != 0) = true := by rw [bne_iff_ne]; exact hzn
        have G4 : Hid (Gb w w4) := O4.out.2.2
        subst hz3
        clear hz4 hk4 hp own3 O3 O4 hu4
        go_wp2_with (go_at_call 12; refine (awake_c _).mono ?_; rintro e w9 ⟨rfl, g9⟩)
        go_ret
        exact ⟨rfl, gb_trans G4.out g9⟩
    · have G4 : Hid (Gb w w4) := O4.out.2.2
      subst hz3
      clear hp hu3 O3 O4
      go_wp2_with (go_at_call 12; refine (awake_c _).mono ?_; rintro e w9 ⟨rfl, g9⟩)
      go_ret
      exact ⟨rfl, gb_trans G4.out g9⟩

theorem says_law {w : World} {lv qv cv : Value} {l : Vs} {q code : List Int} (hl : RdVJ w lv l) (d m k r x : Int) (hx : Rn.U x) (hq : RdJ w qv q) (hc : RdI w cv code) :
    Calls Try.prog 6 #[lv, .agg #[.int .i64 d, .int .i64 m, .int .i64 k, .int .i64 r, .int .u64 x], qv, cv] w fun e w' => e = .returned (.bool true) ∧ Gb w w' := by
  by_cases h1 : 32768 < q.length
  · exact says_long hl d m k r x hq hc (.inl h1)
  by_cases h2 : 32768 < code.length
  · exact says_long hl d m k r x hq hc (.inr h2)
  by_cases hz : pqE l d m k r = 0
  · obtain ⟨M, S, K, R, rfl, rfl, rfl, rfl, T⟩ := TrOk.of hz
    exact says_ok hl T x hx hq hc (by omega) (by omega)
  · exact says_no hl d m k r x hq hc (by omega) (by omega) hz
end Go.Proofs.Ytblfmhdcgmkpgaa
