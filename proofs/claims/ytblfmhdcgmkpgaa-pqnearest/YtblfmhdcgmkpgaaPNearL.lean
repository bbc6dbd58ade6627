/- PqNearest: the walk. -/
import Derived.Test.YtblfmhdcgmkpgaaPAny
import Derived.Test.YtblfmhdcgmkpgaaRLess
namespace Go.Proofs.Ytblfmhdcgmkpgaa
open Go.RowKit Go.Maps

set_option maxHeartbeats 1000000 in
set_option maxRecDepth 100000 in
theorem nearq_long {w : World} {lv vv cv : Value} {l : Vs} {v code : List Int} (hl : RdVJ w lv l) (d m k r x : Int) (hq : RdJ w vv v) (hc : RdI w cv code) (hlong : 32768 < v.length ∨ 32768 < code.length) :
    Calls Try.prog 7 #[lv, .agg #[.int .i64 d, .int .i64 m, .int .i64 k, .int .i64 r, .int .u64 x], vv, cv] w fun e w' => e = .returned (.bool true) ∧ Gb w w' := by
  have GH : Gb w (w.alloc (.cells #[.int .i64 d, .int .i64 m, .int .i64 k, .int .i64 r, .int .u64 x] 25)) := gb_alloc (Below.refl _ _) _
  have cb := big_c (hl.gb GH).rd
  have G : Hid (Gb w (w.alloc (.cells #[.int .i64 d, .int .i64 m, .int .i64 k, .int .i64 r, .int .u64 x] 25))) := GH
  obtain ⟨al, cl, rfl, _⟩ := hl
  obtain ⟨⟨aq, cq, rfl, _⟩, _⟩ := hq
  obtain ⟨ac, cc, rfl, _⟩ := hc
  generalize l.length = n at *
  generalize v.length = nq at *
  generalize code.length = nc at *
  clear GH
  by_cases h1 : 32768 < nq
  · clear hlong
    go_enter Try.func7, Try.ntmps7
    go_wp2_with fail
    go_fit cb
    rintro e w1 ⟨⟨b, rfl⟩, e1⟩
    subst e1
    clear cb
    cases b with
    | true =>
      go_wp2
      go_ret
      exact ⟨rfl, G.out⟩
    | false =>
      go_wp2
      go_ret
      exact ⟨rfl, G.out⟩
  · have h2 : 32768 < nc := by omega
    clear hlong
    go_enter Try.func7, Try.ntmps7
    go_wp2_with fail
    go_fit cb
    rintro e w1 ⟨⟨b, rfl⟩, e1⟩
    subst e1
    clear cb
    cases b with
    | true =>
      go_wp2
      go_ret
      exact ⟨rfl, G.out⟩
    | false =>
      go_wp2
      go_ret
      exact ⟨rfl, G.out⟩
set_option maxHeartbeats 1000000 in
set_option maxRecDepth 100000 in
theorem nearq_no {w : World} {lv vv cv : Value} {l : Vs} {v code : List Int} (hl : RdVJ w lv l) (d m k r x : Int) (hq : RdJ w vv v) (hc : RdI w cv code) (h1 : v.length ≤ 32768) (h2 : code.length ≤ 32768) (hz : pqE l d m k r ≠ 0) :
    Calls Try.prog 7 #[lv, .agg #[.int .i64 d, .int .i64 m, .int .i64 k, .int .i64 r, .int .u64 x], vv, cv] w fun e w' => e = .returned (.bool true) ∧ Gb w w' := by
  have GH : Gb w (w.alloc (.cells #[.int .i64 d, .int .i64 m, .int .i64 k, .int .i64 r, .int .u64 x] 25)) := gb_alloc (Below.refl _ _) _
  have cb := big_c (hl.gb GH).rd
  have ct := lawtrain_no (hl.gb GH).rd d m k r x hz
  have hz' : (pqE l d m k r == 0) = false := by rw [beq_eq_false_iff_ne]; exact hz
  have G : Hid (Gb w (w.alloc (.cells #[.int .i64 d, .int .i64 m, .int .i64 k, .int .i64 r, .int .u64 x] 25))) := GH
  obtain ⟨al, cl, rfl, _⟩ := hl
  obtain ⟨⟨aq, cq, rfl, _⟩, _⟩ := hq
  obtain ⟨ac, cc, rfl, _⟩ := hc
  generalize pqE l d m k r = z at *
  generalize l.length = n at *
  generalize v.length = nq at *
  generalize code.length = nc at *
  clear GH
  go_enter Try.func7, Try.ntmps7
  go_wp2_with fail
  go_fit cb
  rintro e w1 ⟨⟨b, rfl⟩, e1⟩
  subst e1
  clear cb
  cases b with
  | true =>
    go_wp2
    go_ret
    exact ⟨rfl, G.out⟩
  | false =>
    go_wp2_with fail
    go_fit ct
    rintro e w2 ⟨rfl, g2⟩
    have G2 : Hid (Gb w w2) := gb_trans G.out g2
    clear ct g2
    go_wp2_with (go_at_call 12; refine (awake_c _).mono ?_; rintro e w3 ⟨rfl, g3⟩)
    go_ret
    exact ⟨rfl, gb_trans G2.out g3⟩

set_option maxHeartbeats 4000000 in
set_option maxRecDepth 100000 in
theorem nearq_ok {w : World} {lv vv cv : Value} {l : Vs} {v code : List Int} (hl : RdVJ w lv l) {m s k r : Nat} (T : TrOk l m s k r) (x : Int) (hx : Rn.U x) (hq : RdJ w vv v) (hc : RdI w cv code) (h1 : v.length ≤ 32768) (h2 : code.length ≤ 32768) :
    Calls Try.prog 7 #[lv, .agg #[.int .i64 ((m * s : Nat) : Int), .int .i64 (m : Int), .int .i64 (k : Int), .int .i64 (r : Int), .int .u64 x], vv, cv] w fun e w' => e = .returned (.bool true) ∧ Gb w w' := by
  have HX : Hid (RdVJ w lv l ∧ TrOk l m s k r ∧ RdJ w vv v ∧ RdI w cv code) := ⟨hl, T, hq, hc⟩
  have BK : Hid (Bks (booksV l m k r x) m s k) := T.bks x
  have DM : Hid ((decide (0 < (1 : Int))) = true) := by unfold Hid; decide
  obtain ⟨D, hD⟩ : ∃ D, D = m * s := ⟨_, rfl⟩
  have DD : Hid (D = m * s) := hD
  have GH : Gb w (w.alloc (.cells #[.int .i64 ((m * s : Nat) : Int), .int .i64 (m : Int), .int .i64 (k : Int), .int .i64 (r : Int), .int .u64 x] 25)) := gb_alloc (Below.refl _ _) _
  have cb := big_c (hl.gb GH).rd
  have ct := lawtrain_ok (hl.gb GH) T x hx
  have G : Hid (Gb w (w.alloc (.cells #[.int .i64 ((m * s : Nat) : Int), .int .i64 (m : Int), .int .i64 (k : Int), .int .i64 (r : Int), .int .u64 x] 25))) := GH
  obtain ⟨al, cl, rfl, _⟩ := hl
  obtain ⟨⟨aq, cq, rfl, _⟩, _⟩ := hq
  obtain ⟨ac, cc, rfl, _⟩ := hc
  obtain ⟨nl, hnl⟩ : ∃ n, n = l.length := ⟨_, rfl⟩
  obtain ⟨nq, hnq⟩ : ∃ n, n = v.length := ⟨_, rfl⟩
  obtain ⟨nc, hnc⟩ : ∃ n, n = code.length := ⟨_, rfl⟩
  have LEN : Hid (nl = l.length ∧ nq = v.length ∧ nc = code.length) := ⟨hnl, hnq, hnc⟩
  rw [← hnl] at HX cb ct
  rw [← hnq] at HX h1
  rw [← hnc] at HX h2
  rw [← hnl, ← hnq, ← hnc]
  rw [← hD] at cb ct G ⊢
  clear hD
  obtain ⟨bs, hbs⟩ : ∃ bs, bs = booksV l m k r x := ⟨_, rfl⟩
  have SE : Hid (r = 0 → k = nl → ∀ q, q < l.length → decV bs (encV bs l[q]!) = l[q]!) := fun e1 e2 q hq => by
    rw [hbs]
    subst e1
    exact said_exactly HX.out.2.1 (by rw [e2]; exact hnl) x hq
  rw [← hbs] at BK ct
  clear hbs
  clear GH hnl hnq hnc T hx DM
  go_enter Try.func7, Try.ntmps7
  go_wp2_with fail
  go_fit cb
  rintro e w1 ⟨⟨b, rfl⟩, e1⟩
  subst e1
  clear cb
  cases b with
  | true =>
    go_wp2
    go_ret
    exact ⟨rfl, G.out⟩
  | false =>
    go_wp2_with fail
    go_fit ct
    rintro e w2 ⟨p, rfl, c2, g2⟩
    have G2 : Hid (Gb w w2) := gb_trans G.out g2
    have C2 : Hid (CodAt w2 p (m * s) bs) := by unfold Hid; rw [← DD.out]; exact c2
    clear ct c2 G
    have hn1 : 1 ≤ nl := by have h1 := HX.out.2.1.k1; have h2 := HX.out.2.1.kn; have h3 := LEN.out; omega
    have hn5 : nl ≤ 512 := by have h1 := HX.out.2.1.n512; have h3 := LEN.out; omega
    have hw0 : (w.alloc (.cells #[.int .i64 (D : Int), .int .i64 (m : Int), .int .i64 (k : Int), .int .i64 (r : Int), .int .u64 x] 25)).cell? ⟨w.heap.size, 2, none⟩ = some (.int .i64 (k : Int)) := by simp [go_sem]
    have hw1 : (w.alloc (.cells #[.int .i64 (D : Int), .int .i64 (m : Int), .int .i64 (k : Int), .int .i64 (r : Int), .int .u64 x] 25)).cell? ⟨w.heap.size, 3, none⟩ = some (.int .i64 (r : Int)) := by simp [go_sem]
    have HW : Hid (w2.cell? ⟨w.heap.size, 2, none⟩ = some (.int .i64 (k : Int)) ∧ w2.cell? ⟨w.heap.size, 3, none⟩ = some (.int .i64 (r : Int))) := ⟨gb_keeps g2 hw0, gb_keeps g2 hw1⟩
    clear g2 hw0 hw1
    by_cases hr : r = 0
    · by_cases hk : k = nl
      · have SX : Hid (∀ q, q < l.length → decV bs (encV bs l[q]!) = l[q]!) := SE.out hr hk
        subst hr hk
        clear SE
        go_wp2
        go_loopw [11] (fun iv W => ∃ q : Nat, iv = .int .i64 (q : Int) ∧ q ≤ k ∧ Hid (Gb w2 W)) (fun iv _ => k - (intOf iv).toNat)
        case atStart => exact ⟨0, rfl, Nat.zero_le _, Below.refl _ _⟩
        case round =>
          obtain ⟨q, rfl, hq, X2⟩ := hrel
          have y2 := gb_keeps X2.out HW.out.1
          have y3 := gb_keeps X2.out HW.out.2
          by_cases hqn : q < k
          · have hqi : (q : Int) < (k : Int) := by omega
            have hql : q < l.length := by have := LEN.out; omega
            obtain ⟨_, _, ev, hA⟩ := HX.out.1
            obtain ⟨b, o, ur, ea, k1, k2⟩ := hA q hql
            injection ev with ev1 ev2 ev3
            subst ev1 ea
            have kx := gb_keeps (gb_trans G2.out X2.out) k1
            clear k1
            have R2 : Hid (RdJ w ur l[q]!) := k2
            have ce := encode_ok (C2.out.gb X2.out) BK.out (k2.gb (gb_trans G2.out X2.out)) (HX.out.2.1.ok q hql)
            have sx := SX.out q hql
            have VL : Hid (l[q]!.length ≤ 64) := (chk_ok (HX.out.2.1.ok q hql)).2.1
            obtain ⟨⟨pu, cu, eu, _⟩, _⟩ := k2
            subst eu
            obtain ⟨nv, hnv⟩ : ∃ n, n = l[q]!.length := ⟨_, rfl⟩
            rw [← hnv] at kx R2 ce
            generalize l[q]! = V at *
            have KK : Hid (wr.cell? ⟨b, o + q, none⟩ = some (.slice pu nv cu)) := kx
            clear hA ev2 ev3 hnv
            go_wp2_with fail
            go_fit ce
            rintro e w5 ⟨u5, rfl, own5, g5⟩
            have G5 : Hid (Gb wr w5) := g5
            have cd := decode_ok (C2.out.gb (gb_trans X2.out G5.out)) BK.out own5.rd (encV_places BK.out V)
            rw [sx] at cd
            obtain ⟨a5, c5, e5, _⟩ := own5.rd
            subst e5
            generalize (encV bs V).length = n5 at *
            clear ce g5 own5 sx kx
            go_wp2_with fail
            go_fit cd
            rintro e w6 ⟨u6, rfl, o6, g6⟩
            have G6 : Hid (Gb wr w6) := gb_trans G5.out g6
            have ci := ints_c o6.rd (R2.out.gb (gb_trans G2.out (gb_trans X2.out G6.out))).1 (by have := VL.out; omega)
            rw [decide_eq_true rfl] at ci
            obtain ⟨a6, c6, e6, _⟩ := o6.rd
            subst e6
            generalize V.length = n6 at *
            have ky := gb_keeps G6.out KK.out
            clear cd g6 o6 y2 y3
            go_wp2_with (go_at_call 22; refine ci.mono ?_; rintro e w7 ⟨rfl, g7⟩)
            have XN : Hid (Gb w2 w7) := gb_trans X2.out (gb_trans G6.out g7.gb)
            clear ci ky g7 X2
            go_roundw
            case rel => exact ⟨q + 1, by first | rfl | go_num | simp, hqn, XN⟩
            case measure => simp [intOf]; omega
          · have hqi : ¬ (q : Int) < (k : Int) := by omega
            clear SX
            have ce := encode_any (C2.out.gb X2.out) BK.out (HX.out.2.2.1.gb (gb_trans G2.out X2.out))
            go_wp2_with fail
            go_fit ce
            rintro e w5 ⟨u5, z5, rfl, o5, g5⟩
            have G5 : Hid (Gb w2 w5) := gb_trans X2.out g5
            rcases o5 with ⟨hk5, hz5, own5⟩ | ⟨hk5, hz5, hu5⟩
            · subst hz5
              have cd := decode_ok (C2.out.gb G5.out) BK.out own5.rd (encV_places BK.out v)
              obtain ⟨a5, c5, e5, _⟩ := own5.rd
              subst e5
              generalize (encV bs v).length = n5 at *
              clear ce g5 own5
              go_wp2_with fail
              go_fit cd
              rintro e w6 ⟨u6, rfl, o6, g6⟩
              have G6 : Hid (Gb w2 w6) := gb_trans G5.out g6
              have R6 : Hid (RdI w6 u6 (decV bs (encV bs v))) := o6.rd
              obtain ⟨a6, c6, e6, _⟩ := o6.rd
              subst e6
              generalize (decV bs (encV bs v)).length = n6 at *
              have cd := decode_any (C2.out.gb G6.out) BK.out (HX.out.2.2.2.gb (gb_trans G2.out G6.out)) (by have := LEN.out; omega)
              clear o6 g6
              go_wp2_with fail
              go_fit cd
              rintro e w7 ⟨u7, z7, rfl, o7, g7⟩
              have G7 : Hid (Gb w2 w7 ∧ Gb w6 w7) := ⟨gb_trans G6.out g7, g7⟩
              rcases o7 with ⟨hp, hz7, own7⟩ | ⟨hp, hz7, hu7⟩
              · subst hz7
                have R7 : Hid (RdI w7 u7 (decV bs code)) := own7.rd
                obtain ⟨a7, c7, e7, _⟩ := own7.rd
                subst e7
                have d1 := dist_chk (decV_chk BK.out (encV_places BK.out v)) hk5
                have d2 := dist_chk (decV_chk BK.out hp) hk5
                have l1 := dst_le (decV_chk BK.out (encV_places BK.out v)) hk5
                have l2 := dst_le (decV_chk BK.out hp) hk5
                have le := nearest_code BK.out hp hk5
                generalize (decV bs code).length = n7 at *
                have cn := rdist_c (R6.out.gb G7.out.2) (HX.out.2.2.1.gb (gb_trans G2.out G7.out.1)).1
                have CF : Hid (∀ W, Gb w7 W → Calls Try.prog 26 #[.slice a7 n7 c7, .slice aq nq cq] W fun e w' => e = .returned (.tuple #[Wd (distV (decV bs code) v), .int .i64 (distE (decV bs code) v)]) ∧ Gr W w') := fun W g => rdist_c (R7.out.gb g) (HX.out.2.2.1.gb (gb_trans G2.out (gb_trans G7.out.1 g))).1
                rw [d1.1, d1.2] at cn
                rw [d2.1, d2.2] at CF
                have CL : Hid (∀ W, Calls Try.prog 27 #[Wd (dst (decV bs code) v), Wd (dst (decV bs (encV bs v)) v)] W fun e w' => e = .returned (.bool false) ∧ Gr W w') := fun W => by
                  have h := less_any (dst (decV bs code) v) (dst (decV bs (encV bs v)) v) (by omega) (by omega) W
                  rw [decide_eq_false (by omega)] at h
                  exact h
                generalize dst (decV bs code) v = DF at *
                generalize dst (decV bs (encV bs v)) v = DN at *
                clear d1 d2 l1 l2 le hp cd g7 own7 hk5
                go_wp2_with fail
                go_fit cn
                rintro e w8 ⟨rfl, g8⟩
                have g8' : Gb w7 (w8.alloc (.cells #[.int .u64 (hi DN), .int .u64 (lo DN)] 51)) := gb_alloc g8.gb _
                have O8 : Hid (Gb w7 (w8.alloc (.cells #[.int .u64 (hi DN), .int .u64 (lo DN)] 51))) := g8'
                have A8 : Hid (At2 (w8.alloc (.cells #[.int .u64 (hi DN), .int .u64 (lo DN)] 51)) w8.heap.size DN) := At2.new w8 DN _
                have cf := CF.out _ O8.out
                clear cn g8 g8'
                go_wp2_with fail
                go_fit cf
                rintro e wA ⟨rfl, gA⟩
                have gA' : Gb (w8.alloc (.cells #[.int .u64 (hi DN), .int .u64 (lo DN)] 51)) (wA.alloc (.cells #[.int .u64 (hi DF), .int .u64 (lo DF)] 51)) := gb_alloc gA.gb _
                have AA : Hid (At2 (wA.alloc (.cells #[.int .u64 (hi DF), .int .u64 (lo DF)] 51)) wA.heap.size DF) := At2.new wA DF _
                have GA : Hid (Gb w (wA.alloc (.cells #[.int .u64 (hi DF), .int .u64 (lo DF)] 51))) := gb_trans G2.out (gb_trans G7.out.1 (gb_trans O8.out gA'))
                obtain ⟨s0, s1, _, _⟩ := A8.out
                obtain ⟨t0, t1, _, _⟩ := AA.out
                have s0 := gb_keeps gA' s0
                have s1 := gb_keeps gA' s1
                clear cf gA gA'
                go_wp2_with (first
                  | (go_at_call 12; refine (awake_c _).mono ?_; rintro e w9 ⟨rfl, g9⟩; have s0 := gb_keeps g9 s0; have s1 := gb_keeps g9 s1; have t0 := gb_keeps g9 t0; have t1 := gb_keeps g9 t1)
                  | (go_at_call 27; refine (CL.out _).mono ?_; rintro e wB ⟨rfl, gB⟩))
                go_ret
                exact ⟨rfl, gb_trans GA.out (gb_trans g9 gB.gb)⟩
              · subst hz7 hu7
                have GE : Hid (Gb w w7) := gb_trans G2.out G7.out.1
                clear cd g7 hp hk5
                go_wp2_with (go_at_call 12; refine (awake_c _).mono ?_; rintro e w9 ⟨rfl, g9⟩)
                go_ret
                exact ⟨rfl, gb_trans GE.out g9⟩
            · have hzb : (z5 == 0) = false := by rw [beq_eq_false_iff_ne, hz5]; exact hk5
              have hzn : ¬ z5 = 0 := by rw [hz5]; exact hk5
              have hzz : (z5 != 0) = true := by rw [bne_iff_ne]; exact hzn
              subst hu5
              have cd := decode_no (C2.out.gb G5.out) (rdi_nil w5) (by decide) (fun h => by have h1 := h.1; have h2 := BK.out.len; have h3 := BK.out.m1; rw [lensV_len, List.length_nil] at h1; omega)
              clear ce g5 hz5 hk5
              go_wp2_with fail
              go_fit cd
              rintro e w6 ⟨rfl, e6⟩
              subst e6
              have cd := decode_any (C2.out.gb G5.out) BK.out (HX.out.2.2.2.gb (gb_trans G2.out G5.out)) (by have := LEN.out; omega)
              go_wp2_with fail
              go_fit cd
              rintro e w7 ⟨u7, z7, rfl, o7, g7⟩
              obtain ⟨a7, n7, c7, e7⟩ := o7.form
              subst e7
              have GE : Hid (Gb w w7) := gb_trans G2.out (gb_trans G5.out g7)
              clear cd g7 o7
              go_wp2_with (go_at_call 12; refine (awake_c _).mono ?_; rintro e w9 ⟨rfl, g9⟩)
              go_ret
              exact ⟨rfl, gb_trans GE.out g9⟩
      · have hkb : ((k : Int) == (nl : Int)) = false := by rw [beq_eq_false_iff_ne]; omega
        have hkn : ¬ (k : Int) = (nl : Int) := by omega
        subst hr
        clear SE
        go_wp2
        go_loopw [11] (fun iv W => iv = .int .i64 0 ∧ Hid (Gb w2 W)) (fun _ _ => 0)
        case atStart => exact ⟨rfl, Below.refl _ _⟩
        case round =>
          obtain ⟨rfl, X2⟩ := hrel
          have y2 := gb_keeps X2.out HW.out.1
          have y3 := gb_keeps X2.out HW.out.2
          have hn0 : (0 : Int) < (nl : Int) := by omega
          have ce := encode_any (C2.out.gb X2.out) BK.out (HX.out.2.2.1.gb (gb_trans G2.out X2.out))
          go_wp2_with fail
          go_fit ce
          rintro e w5 ⟨u5, z5, rfl, o5, g5⟩
          have G5 : Hid (Gb w2 w5) := gb_trans X2.out g5
          rcases o5 with ⟨hk5, hz5, own5⟩ | ⟨hk5, hz5, hu5⟩
          · subst hz5
            have cd := decode_ok (C2.out.gb G5.out) BK.out own5.rd (encV_places BK.out v)
            obtain ⟨a5, c5, e5, _⟩ := own5.rd
            subst e5
            generalize (encV bs v).length = n5 at *
            clear ce g5 own5
            go_wp2_with fail
            go_fit cd
            rintro e w6 ⟨u6, rfl, o6, g6⟩
            have G6 : Hid (Gb w2 w6) := gb_trans G5.out g6
            have R6 : Hid (RdI w6 u6 (decV bs (encV bs v))) := o6.rd
            obtain ⟨a6, c6, e6, _⟩ := o6.rd
            subst e6
            generalize (decV bs (encV bs v)).length = n6 at *
            have cd := decode_any (C2.out.gb G6.out) BK.out (HX.out.2.2.2.gb (gb_trans G2.out G6.out)) (by have := LEN.out; omega)
            clear o6 g6
            go_wp2_with fail
            go_fit cd
            rintro e w7 ⟨u7, z7, rfl, o7, g7⟩
            have G7 : Hid (Gb w2 w7 ∧ Gb w6 w7) := ⟨gb_trans G6.out g7, g7⟩
            rcases o7 with ⟨hp, hz7, own7⟩ | ⟨hp, hz7, hu7⟩
            · subst hz7
              have R7 : Hid (RdI w7 u7 (decV bs code)) := own7.rd
              obtain ⟨a7, c7, e7, _⟩ := own7.rd
              subst e7
              have d1 := dist_chk (decV_chk BK.out (encV_places BK.out v)) hk5
              have d2 := dist_chk (decV_chk BK.out hp) hk5
              have l1 := dst_le (decV_chk BK.out (encV_places BK.out v)) hk5
              have l2 := dst_le (decV_chk BK.out hp) hk5
              have le := nearest_code BK.out hp hk5
              generalize (decV bs code).length = n7 at *
              have cn := rdist_c (R6.out.gb G7.out.2) (HX.out.2.2.1.gb (gb_trans G2.out G7.out.1)).1
              have CF : Hid (∀ W, Gb w7 W → Calls Try.prog 26 #[.slice a7 n7 c7, .slice aq nq cq] W fun e w' => e = .returned (.tuple #[Wd (distV (decV bs code) v), .int .i64 (distE (decV bs code) v)]) ∧ Gr W w') := fun W g => rdist_c (R7.out.gb g) (HX.out.2.2.1.gb (gb_trans G2.out (gb_trans G7.out.1 g))).1
              rw [d1.1, d1.2] at cn
              rw [d2.1, d2.2] at CF
              have CL : Hid (∀ W, Calls Try.prog 27 #[Wd (dst (decV bs code) v), Wd (dst (decV bs (encV bs v)) v)] W fun e w' => e = .returned (.bool false) ∧ Gr W w') := fun W => by
                have h := less_any (dst (decV bs code) v) (dst (decV bs (encV bs v)) v) (by omega) (by omega) W
                rw [decide_eq_false (by omega)] at h
                exact h
              generalize dst (decV bs code) v = DF at *
              generalize dst (decV bs (encV bs v)) v = DN at *
              clear d1 d2 l1 l2 le hp cd g7 own7 hk5
              go_wp2_with fail
              go_fit cn
              rintro e w8 ⟨rfl, g8⟩
              have g8' : Gb w7 (w8.alloc (.cells #[.int .u64 (hi DN), .int .u64 (lo DN)] 51)) := gb_alloc g8.gb _
              have O8 : Hid (Gb w7 (w8.alloc (.cells #[.int .u64 (hi DN), .int .u64 (lo DN)] 51))) := g8'
              have A8 : Hid (At2 (w8.alloc (.cells #[.int .u64 (hi DN), .int .u64 (lo DN)] 51)) w8.heap.size DN) := At2.new w8 DN _
              have cf := CF.out _ O8.out
              clear cn g8 g8'
              go_wp2_with fail
              go_fit cf
              rintro e wA ⟨rfl, gA⟩
              have gA' : Gb (w8.alloc (.cells #[.int .u64 (hi DN), .int .u64 (lo DN)] 51)) (wA.alloc (.cells #[.int .u64 (hi DF), .int .u64 (lo DF)] 51)) := gb_alloc gA.gb _
              have AA : Hid (At2 (wA.alloc (.cells #[.int .u64 (hi DF), .int .u64 (lo DF)] 51)) wA.heap.size DF) := At2.new wA DF _
              have GA : Hid (Gb w (wA.alloc (.cells #[.int .u64 (hi DF), .int .u64 (lo DF)] 51))) := gb_trans G2.out (gb_trans G7.out.1 (gb_trans O8.out gA'))
              obtain ⟨s0, s1, _, _⟩ := A8.out
              obtain ⟨t0, t1, _, _⟩ := AA.out
              have s0 := gb_keeps gA' s0
              have s1 := gb_keeps gA' s1
              clear cf gA gA'
              go_wp2_with (first
                | (go_at_call 12; refine (awake_c _).mono ?_; rintro e w9 ⟨rfl, g9⟩; have s0 := gb_keeps g9 s0; have s1 := gb_keeps g9 s1; have t0 := gb_keeps g9 t0; have t1 := gb_keeps g9 t1)
                | (go_at_call 27; refine (CL.out _).mono ?_; rintro e wB ⟨rfl, gB⟩))
              go_ret
              exact ⟨rfl, gb_trans GA.out (gb_trans g9 gB.gb)⟩
            · subst hz7 hu7
              have GE : Hid (Gb w w7) := gb_trans G2.out G7.out.1
              clear cd g7 hp hk5
              go_wp2_with (go_at_call 12; refine (awake_c _).mono ?_; rintro e w9 ⟨rfl, g9⟩)
              go_ret
              exact ⟨rfl, gb_trans GE.out g9⟩
          · have hzb : (z5 == 0) = false := by rw [beq_eq_false_iff_ne, hz5]; exact hk5
            have hzn : ¬ z5 = 0 := by rw [hz5]; exact hk5
            have hzz : (z5 != 0) = true := by rw [bne_iff_ne]; exact hzn
            subst hu5
            have cd := decode_no (C2.out.gb G5.out) (rdi_nil w5) (by decide) (fun h => by have h1 := h.1; have h2 := BK.out.len; have h3 := BK.out.m1; rw [lensV_len, List.length_nil] at h1; omega)
            clear ce g5 hz5 hk5
            go_wp2_with fail
            go_fit cd
            rintro e w6 ⟨rfl, e6⟩
            subst e6
            have cd := decode_any (C2.out.gb G5.out) BK.out (HX.out.2.2.2.gb (gb_trans G2.out G5.out)) (by have := LEN.out; omega)
            go_wp2_with fail
            go_fit cd
            rintro e w7 ⟨u7, z7, rfl, o7, g7⟩
            obtain ⟨a7, n7, c7, e7⟩ := o7.form
            subst e7
            have GE : Hid (Gb w w7) := gb_trans G2.out (gb_trans G5.out g7)
            clear cd g7 o7
            go_wp2_with (go_at_call 12; refine (awake_c _).mono ?_; rintro e w9 ⟨rfl, g9⟩)
            go_ret
            exact ⟨rfl, gb_trans GE.out g9⟩
    · have hrb : ((r : Int) == 0) = false := by rw [beq_eq_false_iff_ne]; omega
      have hrn : ¬ (r : Int) = 0 := by omega
      clear SE
      go_wp2
      go_loopw [11] (fun iv W => iv = .int .i64 0 ∧ Hid (Gb w2 W)) (fun _ _ => 0)
      case atStart => exact ⟨rfl, Below.refl _ _⟩
      case round =>
        obtain ⟨rfl, X2⟩ := hrel
        have y2 := gb_keeps X2.out HW.out.1
        have y3 := gb_keeps X2.out HW.out.2
        have hn0 : (0 : Int) < (nl : Int) := by omega
        have ce := encode_any (C2.out.gb X2.out) BK.out (HX.out.2.2.1.gb (gb_trans G2.out X2.out))
        go_wp2_with fail
        go_fit ce
        rintro e w5 ⟨u5, z5, rfl, o5, g5⟩
        have G5 : Hid (Gb w2 w5) := gb_trans X2.out g5
        rcases o5 with ⟨hk5, hz5, own5⟩ | ⟨hk5, hz5, hu5⟩
        · subst hz5
          have cd := decode_ok (C2.out.gb G5.out) BK.out own5.rd (encV_places BK.out v)
          obtain ⟨a5, c5, e5, _⟩ := own5.rd
          subst e5
          generalize (encV bs v).length = n5 at *
          clear ce g5 own5
          go_wp2_with fail
          go_fit cd
          rintro e w6 ⟨u6, rfl, o6, g6⟩
          have G6 : Hid (Gb w2 w6) := gb_trans G5.out g6
          have R6 : Hid (RdI w6 u6 (decV bs (encV bs v))) := o6.rd
          obtain ⟨a6, c6, e6, _⟩ := o6.rd
          subst e6
          generalize (decV bs (encV bs v)).length = n6 at *
          have cd := decode_any (C2.out.gb G6.out) BK.out (HX.out.2.2.2.gb (gb_trans G2.out G6.out)) (by have := LEN.out; omega)
          clear o6 g6
          go_wp2_with fail
          go_fit cd
          rintro e w7 ⟨u7, z7, rfl, o7, g7⟩
          have G7 : Hid (Gb w2 w7 ∧ Gb w6 w7) := ⟨gb_trans G6.out g7, g7⟩
          rcases o7 with ⟨hp, hz7, own7⟩ | ⟨hp, hz7, hu7⟩
          · subst hz7
            have R7 : Hid (RdI w7 u7 (decV bs code)) := own7.rd
            obtain ⟨a7, c7, e7, _⟩ := own7.rd
            subst e7
            have d1 := dist_chk (decV_chk BK.out (encV_places BK.out v)) hk5
            have d2 := dist_chk (decV_chk BK.out hp) hk5
            have l1 := dst_le (decV_chk BK.out (encV_places BK.out v)) hk5
            have l2 := dst_le (decV_chk BK.out hp) hk5
            have le := nearest_code BK.out hp hk5
            generalize (decV bs code).length = n7 at *
            have cn := rdist_c (R6.out.gb G7.out.2) (HX.out.2.2.1.gb (gb_trans G2.out G7.out.1)).1
            have CF : Hid (∀ W, Gb w7 W → Calls Try.prog 26 #[.slice a7 n7 c7, .slice aq nq cq] W fun e w' => e = .returned (.tuple #[Wd (distV (decV bs code) v), .int .i64 (distE (decV bs code) v)]) ∧ Gr W w') := fun W g => rdist_c (R7.out.gb g) (HX.out.2.2.1.gb (gb_trans G2.out (gb_trans G7.out.1 g))).1
            rw [d1.1, d1.2] at cn
            rw [d2.1, d2.2] at CF
            have CL : Hid (∀ W, Calls Try.prog 27 #[Wd (dst (decV bs code) v), Wd (dst (decV bs (encV bs v)) v)] W fun e w' => e = .returned (.bool false) ∧ Gr W w') := fun W => by
              have h := less_any (dst (decV bs code) v) (dst (decV bs (encV bs v)) v) (by omega) (by omega) W
              rw [decide_eq_false (by omega)] at h
              exact h
            generalize dst (decV bs code) v = DF at *
            generalize dst (decV bs (encV bs v)) v = DN at *
            clear d1 d2 l1 l2 le hp cd g7 own7 hk5
            go_wp2_with fail
            go_fit cn
            rintro e w8 ⟨rfl, g8⟩
            have g8' : Gb w7 (w8.alloc (.cells #[.int .u64 (hi DN), .int .u64 (lo DN)] 51)) := gb_alloc g8.gb _
            have O8 : Hid (Gb w7 (w8.alloc (.cells #[.int .u64 (hi DN), .int .u64 (lo DN)] 51))) := g8'
            have A8 : Hid (At2 (w8.alloc (.cells #[.int .u64 (hi DN), .int .u64 (lo DN)] 51)) w8.heap.size DN) := At2.new w8 DN _
            have cf := CF.out _ O8.out
            clear cn g8 g8'
            go_wp2_with fail
            go_fit cf
            rintro e wA ⟨rfl, gA⟩
            have gA' : Gb (w8.alloc (.cells #[.int .u64 (hi DN), .int .u64 (lo DN)] 51)) (wA.alloc (.cells #[.int .u64 (hi DF), .int .u64 (lo DF)] 51)) := gb_alloc gA.gb _
            have AA : Hid (At2 (wA.alloc (.cells #[.int .u64 (hi DF), .int .u64 (lo DF)] 51)) wA.heap.size DF) := At2.new wA DF _
            have GA : Hid (Gb w (wA.alloc (.cells #[.int .u64 (hi DF), .int .u64 (lo DF)] 51))) := gb_trans G2.out (gb_trans G7.out.1 (gb_trans O8.out gA'))
            obtain ⟨s0, s1, _, _⟩ := A8.out
            obtain ⟨t0, t1, _, _⟩ := AA.out
            have s0 := gb_keeps gA' s0
            have s1 := gb_keeps gA' s1
            clear cf gA gA'
            go_wp2_with (first
              | (go_at_call 12; refine (awake_c _).mono ?_; rintro e w9 ⟨rfl, g9⟩; have s0 := gb_keeps g9 s0; have s1 := gb_keeps g9 s1; have t0 := gb_keeps g9 t0; have t1 := gb_keeps g9 t1)
              | (go_at_call 27; refine (CL.out _).mono ?_; rintro e wB ⟨rfl, gB⟩))
            go_ret
            exact ⟨rfl, gb_trans GA.out (gb_trans g9 gB.gb)⟩
          · subst hz7 hu7
            have GE : Hid (Gb w w7) := gb_trans G2.out G7.out.1
            clear cd g7 hp hk5
            go_wp2_with (go_at_call 12; refine (awake_c _).mono ?_; rintro e w9 ⟨rfl, g9⟩)
            go_ret
            exact ⟨rfl, gb_trans GE.out g9⟩
        · have hzb : (z5 == 0) = false := by rw [beq_eq_false_iff_ne, hz5]; exact hk5
          have hzn : ¬ z5 = 0 := by rw [hz5]; exact hk5
          have hzz : (z5 != 0) = true := by rw [bne_iff_ne]; exact hzn
          subst hu5
          have cd := decode_no (C2.out.gb G5.out) (rdi_nil w5) (by decide) (fun h => by have h1 := h.1; have h2 := BK.out.len; have h3 := BK.out.m1; rw [lensV_len, List.length_nil] at h1; omega)
          clear ce g5 hz5 hk5
          go_wp2_with fail
          go_fit cd
          rintro e w6 ⟨rfl, e6⟩
          subst e6
          have cd := decode_any (C2.out.gb G5.out) BK.out (HX.out.2.2.2.gb (gb_trans G2.out G5.out)) (by have := LEN.out; omega)
          go_wp2_with fail
          go_fit cd
          rintro e w7 ⟨u7, z7, rfl, o7, g7⟩
          obtain ⟨a7, n7, c7, e7⟩ := o7.form
          subst e7
          have GE : Hid (Gb w w7) := gb_trans G2.out (gb_trans G5.out g7)
          clear cd g7 o7
          go_wp2_with (go_at_call 12; refine (awake_c _).mono ?_; rintro e w9 ⟨rfl, g9⟩)
          go_ret
          exact ⟨rfl, gb_trans GE.out g9⟩

theorem nearq_law {w : World} {lv vv cv : Value} {l : Vs} {v code : List Int} (hl : RdVJ w lv l) (d m k r x : Int) (hx : Rn.U x) (hq : RdJ w vv v) (hc : RdI w cv code) :
    Calls Try.prog 7 #[lv, .agg #[.int .i64 d, .int .i64 m, .int .i64 k, .int .i64 r, .int .u64 x], vv, cv] w fun e w' => e = .returned (.bool true) ∧ Gb w w' := by
  by_cases h1 : 32768 < v.length
  · exact nearq_long hl d m k r x hq hc (.inl h1)
  by_cases h2 : 32768 < code.length
  · exact nearq_long hl d m k r x hq hc (.inr h2)
  by_cases hz : pqE l d m k r = 0
  · obtain ⟨M, S, K, R, rfl, rfl, rfl, rfl, T⟩ := TrOk.of hz
    exact nearq_ok hl T x hx hq hc (by omega) (by omega)
  · exact nearq_no hl d m k r x hq hc (by omega) (by omega) hz
end Go.Proofs.Ytblfmhdcgmkpgaa
