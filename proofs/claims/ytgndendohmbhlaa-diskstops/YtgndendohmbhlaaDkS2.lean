/- DiskStops: the walk. -/
import Derived.Test.YtgndendohmbhlaaDkS1
namespace Go.Proofs.Ytgndendohmbhlaa
open Go.RowKit Go.Lib Go.Maps

variable {w w0 W W' : World} {b b' : Nat} {q q' q2 : Dq} {F G : Nat → Prop}
theorem Two.new {r : Int} (h : StE w W b q) (c : NwOut W W' b' r) : Two w W' b q b' (nwQ r) := by
  obtain ⟨F, h⟩ := h
  refine ⟨F, _, h.gb c.2.2, ⟨c.2.1, gb_trans h.2.1 c.2.2, fun k hk => Nat.le_trans h.2.1.size hk.1⟩, fun k f g => ?_⟩
  have := h.1.lt k f
  omega
theorem Two.create (T : Two w W b q b' q') (ok : q.Ok) (hst : q.st < 100000) {x : By} (hx : x.length ≤ 65536) : Calls Try.prog 18 #[.pointer (some ⟨b, 0, none⟩), .string (sb x)] W fun e w' => e = .returned (.int .i64 (crE q x)) ∧ Hid (Two w w' b (q.create x) b' q') := T.call fun _ h _ => create_c h ok hst hx
theorem Two.syncDir (T : Two w W b q b' q') (ok : q.Ok) (hst : q.st < 100000) : Calls Try.prog 19 #[.pointer (some ⟨b, 0, none⟩)] W fun e w' => e = .returned (.int .i64 (rfE q)) ∧ Hid (Two w w' b q.syncDir b' q') := T.call fun _ h _ => syncDir_c h ok hst
theorem Two.stop (T : Two w W b q b' q') (ok : q.Ok) (n : Int) : Calls Try.prog 27 #[.pointer (some ⟨b, 0, none⟩), .int .i64 n] W fun e w' => e = .returned (.int .i64 (stE q n)) ∧ Hid (Two w w' b (q.stop n) b' q') := T.call fun _ h _ => stop_c h ok n
theorem Two.crash0 (T : Two w W b q b' q') (ok : q.Ok) (hst : q.st < 100000) : Calls Try.prog 17 #[.pointer (some ⟨b, 0, none⟩), .slice none 0 0] W fun e w' => e = .returned (.int .i64 0) ∧ Hid (Two w w' b (q.crash []) b' q') := T.call fun _ h _ => crash_c h ok hst (by simp) (fun _ _ => rdi_nil _)
theorem Two.steps (T : Two w W b q b' q') (ok : q.Ok) : Calls Try.prog 28 #[.pointer (some ⟨b, 0, none⟩)] W fun e w' => e = .returned (.int .i64 (q.st : Int)) ∧ w' = W := by
  obtain ⟨F, G, h1, _⟩ := T
  exact (steps_c h1.1 ok).mono fun e w' h => ⟨h.1, h.2.symm⟩
theorem Two.down (T : Two w W b q b' q') (ok : q.Ok) : Calls Try.prog 26 #[.pointer (some ⟨b, 0, none⟩)] W fun e w' => e = .returned (.bool (decide (q.lf = 0))) ∧ w' = W := by
  obtain ⟨F, G, h1, _⟩ := T
  exact (down_c h1.1 ok).mono fun e w' h => ⟨h.1, h.2.symm⟩
theorem Two.used (T : Two w W b q b' q') (ok : q.Ok) (hst : q.st < 100000) : Calls Try.prog 29 #[.pointer (some ⟨b, 0, none⟩)] W fun e w' => e = .returned (.int .i64 (usdO q : Int)) ∧ Hid (Gb W w') := by
  obtain ⟨F, G, h1, _⟩ := T
  exact used_c h1.1 ok hst
theorem Two.names (T : Two w W b q b' q') (ok : q.Ok) (hst : q.st < 100000) : Calls Try.prog 24 #[.pointer (some ⟨b, 0, none⟩)] W fun e w' => ∃ a c, e = .returned (.slice a (nmL q).length c) ∧ Hid (OwnT w' W.heap.size (.slice a (nmL q).length c) (nmL q) ∧ Gb W w') := by
  obtain ⟨F, G, h1, _⟩ := T
  refine (names_c h1.1 ok hst).mono ?_
  rintro e w' ⟨v, rfl, ho, g⟩
  obtain ⟨a, c, rfl⟩ := row_fm ho
  exact ⟨a, c, rfl, ho, g⟩
theorem Two.read (T : Two w W b q b' q') (ok : q.Ok) {x : By} (hx : KWfS x) : Calls Try.prog 21 #[.pointer (some ⟨b, 0, none⟩), .string (sb x)] W fun e w' => ∃ a c, e = .returned (.tuple #[.slice a (rdV q x).length c, .int .i64 (fiE q x)]) ∧ Hid (OwnB w' W.heap.size (.slice a (rdV q x).length c) (rdV q x) ∧ Gb W w') := by
  obtain ⟨F, G, h1, _⟩ := T
  refine (read_c h1.1 ok hx).mono ?_
  rintro e w' ⟨v, rfl, ho, g⟩
  obtain ⟨a, c, rfl⟩ := row_fm ho
  exact ⟨a, c, rfl, ho, g⟩
/-- A script of one call, made last of all. -/
theorem sks_one {x : OpP} {ya yb ca cb : _} (hF : ∀ k, F k → k < W.heap.size) (g : Gb w W) (hw : ∀ k, F k → w.heap.size ≤ k) (h1 : RdY w (.slice ya x.2.2.2.1.length yb) x.2.2.2.1) (h2 : RdI w (.slice ca x.2.2.2.2.2.length cb) x.2.2.2.2.2) (t : TypeId) :
    SkS F (W.alloc (.cells #[.int .i64 x.1, .string (sb x.2.1), .string (sb x.2.2.1), .slice ya x.2.2.2.1.length yb, .int .i64 x.2.2.2.2.1, .slice ca x.2.2.2.2.2.length cb] t)) (.slice (some ⟨W.heap.size, 0, none⟩) 1 1) [x] := by
  refine ⟨_, _, rfl, fun i hi => ⟨W.heap.size, 0, .slice ya x.2.2.2.1.length yb, .slice ca x.2.2.2.2.2.length cb, rfl, fun X k => ?_⟩⟩
  have hi0 : i = 0 := by simp at hi; omega
  subst hi0
  have e := (k.block W.heap.size (by simp) fun f => absurd (hF _ f) (Nat.lt_irrefl _)).trans (heap_alloc_new W _)
  have gX := kf_base (gb_alloc g _) hw k
  refine ⟨⟨?_, ?_, ?_, ?_, ?_, ?_⟩, h1.gb gX, h2.gb gX⟩ <;> simp [World.cell?, e]
theorem Two.play1 (T : Two w W' b q b' q') (gW : Gb W' W) (ok : q.Ok) (hst : q.st + 1 < 100000) {x : OpP} (hr : OpR x) (hs : OpS x) {ya yb ca cb : _} (h1 : RdY w (.slice ya x.2.2.2.1.length yb) x.2.2.2.1) (h2 : RdI w (.slice ca x.2.2.2.2.2.length cb) x.2.2.2.2.2) (t : TypeId) :
    Calls Try.prog 16 #[.pointer (some ⟨b, 0, none⟩), .slice (some ⟨W.heap.size, 0, none⟩) 1 1] (W.alloc (.cells #[.int .i64 x.1, .string (sb x.2.1), .string (sb x.2.2.1), .slice ya x.2.2.2.1.length yb, .int .i64 x.2.2.2.2.1, .slice ca x.2.2.2.2.2.length cb] t)) fun e w' => e = .returned (.tuple #[]) ∧ Hid (Two w w' b (q.play1 x) b' q') ∧ ∀ k, W'.heap.size ≤ k → k < W.heap.size → w'.heap[k]? = W.heap[k]? := by
  obtain ⟨F, G, k1, k2, k3⟩ := T
  have lt0 := k1.1.lt
  have k1 := k1.gb gW
  have k2 := k2.gb gW
  have ga : Gb W (W.alloc (.cells #[.int .i64 x.1, .string (sb x.2.1), .string (sb x.2.2.1), .slice ya x.2.2.2.1.length yb, .int .i64 x.2.2.2.2.1, .slice ca x.2.2.2.2.2.length cb] t)) := gb_alloc (Below.refl _ _) _
  refine (play_c (k1.1.gb ga) ok (sks_one k1.1.lt k1.2.1 k1.2.2 h1 h2 t) (fun i hi => ?_) (fun i hi => ?_) (by simp) (by simpa using hst)).mono ?_
  · have hi0 : i = 0 := by simp at hi; omega
    subst hi0; exact hr
  · have hi0 : i = 0 := by simp at hi; omega
    subst hi0; exact hs
  · rintro e w' ⟨rfl, o⟩
    exact ⟨rfl, Two.op (k1.gb ga) (k2.gb ga) k3 o, fun k h1 h2 => (o.2.block k (Nat.lt_of_lt_of_le h2 ga.size) fun f => absurd (lt0 k f) (by omega)).trans (ga.block k h2)⟩
def SsI (w : World) (b b' : Nat) (n : Int) (k : Nat) (W : World) : Prop := ∃ q1 q2, Two w W b q1 b' q2 ∧ WlS n q1 q2 ∧ q1.Ok ∧ q2.Ok ∧ q2.st ≤ k
theorem WlS.st {n : Int} {a c : Dq} (h : WlS n a c) : a.st = c.st := by rw [h.eq]; rfl
theorem SsI.round {n : Int} {k : Nat} {x : OpP} (h : SsI w b b' n k W') (gW : Gb W' W) (hk : k ≤ 1000) (hr : OpR x) (hs : OpS x) (h8 : x.1 ≠ 8) (h9 : x.1 ≠ 9) {ya yb ca cb : _} (h1 : RdY w (.slice ya x.2.2.2.1.length yb) x.2.2.2.1) (h2 : RdI w (.slice ca x.2.2.2.2.2.length cb) x.2.2.2.2.2) (t : TypeId) :
    ∃ s2 : Nat, Calls Try.prog 28 #[.pointer (some ⟨b', 0, none⟩)] W (fun e w' => e = .returned (.int .i64 (s2 : Int)) ∧ w' = W) ∧ ((s2 : Int) ≠ n → Calls Try.prog 16 #[.pointer (some ⟨b, 0, none⟩), .slice (some ⟨W.heap.size, 0, none⟩) 1 1] (W.alloc (.cells #[.int .i64 x.1, .string (sb x.2.1), .string (sb x.2.2.1), .slice ya x.2.2.2.1.length yb, .int .i64 x.2.2.2.2.1, .slice ca x.2.2.2.2.2.length cb] t)) fun e w' => e = .returned (.tuple #[]) ∧ (∀ k, W'.heap.size ≤ k → k < W.heap.size → w'.heap[k]? = W.heap[k]?) ∧ Hid (
      Calls Try.prog 16 #[.pointer (some ⟨b', 0, none⟩), .slice (some ⟨w'.heap.size, 0, none⟩) 1 1] (w'.alloc (.cells #[.int .i64 x.1, .string (sb x.2.1), .string (sb x.2.2.1), .slice ya x.2.2.2.1.length yb, .int .i64 x.2.2.2.2.1, .slice ca x.2.2.2.2.2.length cb] t)) fun e w' => e = .returned (.tuple #[]) ∧ Hid (SsI w b b' n (k + 1) w'))) := by
  obtain ⟨q1, q2, T, WS, o1, o2, hst⟩ := h
  refine ⟨q2.st, (T.gb gW).swap.steps o2, fun hne => ?_⟩
  have hs1 := WS.st
  refine (T.play1 gW o1 (by omega) hr hs h1 h2 t).mono ?_
  rintro e w' ⟨rfl, T', old⟩
  refine ⟨rfl, old, (T'.out.swap.play1 (Below.refl _ _) o2 (by omega) hr hs h1 h2 t).mono ?_⟩
  rintro e w'' ⟨rfl, T'', _⟩
  exact ⟨rfl, _, _, T''.out.swap, WS.play1 hne h8 h9, o1.play1 hr, o2.play1 hr, Nat.le_trans (play1_st q2 x) (by omega)⟩
set_option maxHeartbeats 8000000 in
set_option maxRecDepth 100000 in
theorem stops_law (w : World) (r n : Int) (hn : n ≤ 9223372036854775807) {v : Value} {ops : List OpP} (hs : RdS w v ops) (hr : ∀ i, i < ops.length → OpR ops[i]!) :
    Calls Try.prog 6 #[.int .i64 r, v, .int .i64 n] w fun e w' => e = .returned (.bool true) ∧ Gb w w' := by
  have cL := large_c hs
  have HS : Hid (RdS w v ops ∧ (∀ i, i < ops.length → OpR ops[i]!) ∧ n ≤ 9223372036854775807) := ⟨hs, hr, hn⟩
  obtain ⟨a, cap, rfl, _⟩ := id hs
  clear hr hs hn
  go_enter Try.func6, Try.ntmps6
  go_wp2_with fail
  refine cL.mono ?_
  rintro e w1 ⟨bl, rfl, hbl, g1⟩
  clear cL
  cases bl with
  | true =>
    clear HS hbl
    go_wp2
    go_ret
    exact ⟨rfl, g1⟩
  | false =>
  by_cases hn0 : n < 0
  · clear HS hbl
    go_wp2
    go_ret
    exact ⟨rfl, g1⟩
  by_cases hroom : ¬ (1 ≤ r ∧ r ≤ 4194304)
  · clear HS hbl
    go_wp2_with fail
    refine (new_no r hroom _).mono ?_
    rintro e w2 ⟨rfl, rfl⟩
    go_wp2_with fail
    refine (new_no r hroom _).mono ?_
    rintro e w2 ⟨rfl, rfl⟩
    go_wp2_with fail
    refine (awake_c _).mono ?_
    rintro e w3 ⟨rfl, g3⟩
    have g4 := gb_trans g1 g3
    clear g1 g3
    go_wp2
    go_ret
    exact ⟨rfl, g4⟩
  have hroom : 1 ≤ r ∧ r ≤ 4194304 := Decidable.not_not.1 hroom
  have LG : Hid (LgF ops ops.length) := hbl rfl
  have cN1 := new_c r hroom w1
  have cN2 := new_c r hroom
  have OKN : Hid ((nwQ r).Ok) := nwQ_ok hroom
  have G1 : Hid (Gb w w1) := g1
  clear g1 hbl hroom
  go_wp2_with fail
  refine cN1.mono ?_
  rintro e w2 ⟨b, rfl, N1⟩
  have S1 : Hid (StE w w2 b (nwQ r)) := StE.new G1.out N1
  clear N1 cN1
  go_wp2_with fail
  refine (cN2 w2).mono ?_
  rintro e w3 ⟨b', rfl, N2⟩
  have T0 : Two w w3 b (nwQ r) b' (nwQ r) := Two.new S1.out N2
  have c1 := T0.stop OKN.out n
  have es : stE (nwQ r) n = 0 := by unfold stE; rw [if_neg (show ¬ (nwQ r).lf = 0 by show ¬ (-1 : Int) = 0; decide), if_neg (by omega)]
  have eq1 : (nwQ r).stop n = (nwQ r).wl n := by unfold Dq.stop; rw [if_pos es]; rfl
  rw [es, eq1] at c1
  clear N2 cN2 T0 S1
  go_wp2_with fail
  refine c1.mono ?_
  rintro e w4 ⟨rfl, T1⟩
  have ST : Hid (SsI w b b' n 0 w4) := ⟨_, _, T1.out, ⟨by show (nwQ r).wl n = (nwQ r).wl (n - (0 : Nat)); rw [show n - ((0 : Nat) : Int) = n by omega], rfl, by show ((0 : Nat) : Int) ≤ n; omega⟩, by rw [← eq1]; exact OKN.out.stop HS.out.2.2, OKN.out, Nat.le_refl _⟩
  obtain ⟨N, hN⟩ : ∃ N, N = ops.length := ⟨_, rfl⟩
  have NN : Hid (N = ops.length) := hN
  have NB : Hid (N ≤ 1000) := by have := LG.out.1; unfold Hid; omega
  rw [← hN]
  clear c1 T1 es eq1 OKN G1 hN
  go_wp2
  go_loopw [11] (fun iv W => ∃ k : Nat, iv = .int .i64 (k : Int) ∧ k ≤ N ∧ Hid (SsI w b b' n k W)) (fun iv _ => N - (intOf iv).toNat)
  case atStart => exact ⟨0, rfl, Nat.zero_le _, ST.out⟩
  case round =>
    clear ST
    obtain ⟨k, rfl, hk, X⟩ := hrel
    by_cases hkn : k < N
    · have hki : (k : Int) < (N : Int) := by omega
      have hk9 : k < 1000 := by have := NB.out; omega
      have hko : k < ops.length := by have := NN.out; omega
      obtain ⟨a', cap', ea, hat⟩ := HS.out.1
      obtain ⟨g, o, vb, vc, e2, ⟨c0, c1, c2, c3, c4, c5⟩, hY, hI⟩ := hat k hko
      injection ea with ea1 ea2 ea3
      subst ea1
      subst ea3
      subst e2
      clear ea2 hat
      obtain ⟨⟨ya, yb, evb, _⟩, _⟩ := id hY
      obtain ⟨ca, cb, evc, _⟩ := id hI
      subst evb
      subst evc
      have gw : Gb w wr := by obtain ⟨_, _, T, _⟩ := X.out; exact T.base
      have c0 := gb_keeps gw c0
      have c1 := gb_keeps gw c1
      have c2 := gb_keeps gw c2
      have c3 := gb_keeps gw c3
      have c4 := gb_keeps gw c4
      have c5 := gb_keeps gw c5
      have hgw := cell_lt c0
      have hop := HS.out.2.1 k hko
      have hos := LG.out.2 k hko
      have NX : Hid (∀ o, SsI w b b' n (k + 1) (wr.alloc o)) := fun o => by
        obtain ⟨q1, q2, T, WS, o1, o2, hst⟩ := X.out
        exact ⟨q1, q2, T.gb (gb_alloc (Below.refl _ _) _), WS, o1, o2, by omega⟩
      by_cases k8 : ops[k]!.1 = 8
      · clear hop hos hY hI X HS
        rw [k8] at c0
        go_wp2
        go_roundw
        case rel => exact ⟨k + 1, by simp, hkn, NX.out _⟩
        case measure => simp [intOf]; omega
      have j8 : (ops[k]!.1 == 8) = false := by rw [beq_eq_false_iff_ne]; exact k8
      by_cases k9 : ops[k]!.1 = 9
      · clear hop hos hY hI X HS j8 k8
        rw [k9] at c0
        go_wp2
        go_roundw
        case rel => exact ⟨k + 1, by simp, hkn, NX.out _⟩
        case measure => simp [intOf]; omega
      have j9 : (ops[k]!.1 == 9) = false := by rw [beq_eq_false_iff_ne]; exact k9
      have XA : SsI w b b' n k (wr.alloc (.cells #[.int .i64 ops[k]!.1, .string (sb ops[k]!.2.1), .string (sb ops[k]!.2.2.1), .slice ya ops[k]!.2.2.2.1.length yb, .int .i64 ops[k]!.2.2.2.2.1, .slice ca ops[k]!.2.2.2.2.2.length cb] 36)) := by
        obtain ⟨q1, q2, T, WS, o1, o2, hst⟩ := X.out
        exact ⟨q1, q2, T.gb (gb_alloc (Below.refl _ _) _), WS, o1, o2, hst⟩
      obtain ⟨s2, cS, cP⟩ := X.out.round (gb_alloc (Below.refl _ wr) (.cells #[.int .i64 ops[k]!.1, .string (sb ops[k]!.2.1), .string (sb ops[k]!.2.2.1), .slice ya ops[k]!.2.2.2.1.length yb, .int .i64 ops[k]!.2.2.2.2.1, .slice ca ops[k]!.2.2.2.2.2.length cb] 36)) (by have := NB.out; omega) hop hos k8 k9 hY hI 36
      have XAH : Hid (SsI w b b' n k _) := XA
      have gA : Gb wr (wr.alloc (.cells #[.int .i64 ops[k]!.1, .string (sb ops[k]!.2.1), .string (sb ops[k]!.2.2.1), .slice ya ops[k]!.2.2.2.1.length yb, .int .i64 ops[k]!.2.2.2.2.1, .slice ca ops[k]!.2.2.2.2.2.length cb] 36)) := gb_alloc (Below.refl _ _) _
      have bk := heap_alloc_new wr (.cells #[.int .i64 ops[k]!.1, .string (sb ops[k]!.2.1), .string (sb ops[k]!.2.2.1), .slice ya ops[k]!.2.2.2.1.length yb, .int .i64 ops[k]!.2.2.2.2.1, .slice ca ops[k]!.2.2.2.2.2.length cb] 36)
      have hwl : w.heap.size ≤ wr.heap.size := gw.size
      clear hop hos hY hI X XA NX k8 k9 gw
      generalize sb ops[k]!.2.1 = s1 at *
      generalize sb ops[k]!.2.2.1 = s2' at *
      generalize ops[k]!.2.2.2.1.length = lb at *
      generalize ops[k]!.2.2.2.2.2.length = lc at *
      generalize ops[k]!.1 = kd at *
      generalize ops[k]!.2.2.2.2.1 = nn at *
      go_wp2_with fail
      refine cS.mono ?_
      rintro e w5 ⟨rfl, rfl⟩
      by_cases hsn : (s2 : Int) = n
      · have XT : Hid (SsI w b b' n N (wr.alloc (.cells #[.int .i64 kd, .string s1, .string s2', .slice ya lb yb, .int .i64 nn, .slice ca lc cb] 36))) := by
          obtain ⟨q1, q2, T, WS, o1, o2, hst⟩ := XAH.out
          exact ⟨q1, q2, T, WS, o1, o2, by omega⟩
        have hsb : ((s2 : Int) == n) = true := by rw [beq_iff_eq]; exact hsn
        clear cS cP XAH c0 c1 c2 c3 c4 c5 hgw j8 j9 gA bk HS hsn hki
        generalize hWT : wr.alloc (.cells #[.int .i64 kd, .string s1, .string s2', .slice ya lb yb, .int .i64 nn, .slice ca lc cb] 36) = wt at *
        clear hWT
        obtain ⟨q1, q2, T, WS, o1, o2, hst⟩ := XT.out
        have hB := NB.out
        have hs1 : q1.st = q2.st := WS.st
        have hle := WS.le
        have b1 : q1.st < 100000 := by omega
        have b2 : q2.st < 100000 := by omega
        have cS2 := T.swap.steps o2
        have cD := T.down o1
        have cS1 := T.steps o1
        rw [hs1] at cS1
        by_cases hd : (q2.st : Int) = n
        · have l1 : q1.lf = 0 := by rw [WS.eq]; show n - (q2.st : Int) = 0; omega
          rw [decide_eq_true l1] at cD
          have hdb : ((q2.st : Int) == n) = true := by rw [beq_iff_eq]; exact hd
          have eC : crE q1 [122] = 174 := by unfold crE; rw [if_pos l1]
          have eC2 : q1.create [122] = q1 := by unfold Dq.create; rw [if_neg (by rw [eC]; decide)]
          have eY : rfE q1 = 174 := by unfold rfE; rw [if_pos l1]
          have eY2 : q1.syncDir = q1 := by unfold Dq.syncDir; rw [if_pos l1]
          have eR : fiE q1 exA = 174 := by unfold fiE; rw [if_pos l1]
          have eR2 : rdV q1 exA = [] := by unfold rdV; rw [if_neg (by rw [eR]; decide)]
          have eN : nmL q1 = [] := by unfold nmL; rw [if_pos l1]
          have eU : usdO q1 = 0 := by unfold usdO; rw [if_pos l1]
          have eP : stE q1 1 = 174 := by unfold stE; rw [if_pos l1]
          have eP2 : q1.stop 1 = q1 := by unfold Dq.stop; rw [if_neg (by rw [eP]; decide)]
          have eK : q1.crash [] = q2.crash [] := WS.crash []
          have oK := o2.crash []
          have bK : (q2.crash []).st < 100000 := b2
          have cC := T.create o1 b1 (x := [122]) (by decide)
          rw [eC, eC2] at cC
          have FR : Hid ((∀ W, Two w W b q1 b' q2 → Calls Try.prog 19 #[.pointer (some ⟨b, 0, none⟩)] W fun e w' => e = .returned (.int .i64 174) ∧ Hid (Two w w' b q1 b' q2)) ∧
              (∀ W, Two w W b q1 b' q2 → Calls Try.prog 21 #[.pointer (some ⟨b, 0, none⟩), .string (sb exA)] W fun e w' => ∃ a c, e = .returned (.tuple #[.slice a 0 c, .int .i64 174]) ∧ Hid (Two w w' b q1 b' q2)) ∧
              (∀ W, Two w W b q1 b' q2 → Calls Try.prog 24 #[.pointer (some ⟨b, 0, none⟩)] W fun e w' => ∃ a c, e = .returned (.slice a 0 c) ∧ Hid (Two w w' b q1 b' q2)) ∧
              (∀ W, Two w W b q1 b' q2 → Calls Try.prog 29 #[.pointer (some ⟨b, 0, none⟩)] W fun e w' => e = .returned (.int .i64 0) ∧ Hid (Two w w' b q1 b' q2)) ∧
              (∀ W, Two w W b q1 b' q2 → Calls Try.prog 27 #[.pointer (some ⟨b, 0, none⟩), .int .i64 1] W fun e w' => e = .returned (.int .i64 174) ∧ Hid (Two w w' b q1 b' q2)) ∧
              (∀ W, Two w W b q1 b' q2 → Calls Try.prog 17 #[.pointer (some ⟨b, 0, none⟩), .slice none 0 0] W fun e w' => e = .returned (.int .i64 0) ∧ Hid (Two w w' b (q2.crash []) b' q2)) ∧
              (∀ W, Two w W b (q2.crash []) b' q2 → Calls Try.prog 17 #[.pointer (some ⟨b', 0, none⟩), .slice none 0 0] W fun e w' => e = .returned (.int .i64 0) ∧ Hid (Two w w' b (q2.crash []) b' (q2.crash [])))) := by
            refine ⟨fun W T => ?_, fun W T => ?_, fun W T => ?_, fun W T => ?_, fun W T => ?_, fun W T => ?_, fun W T => ?_⟩
            · have := T.syncDir o1 b1; rw [eY, eY2] at this; exact this
            · have := T.read o1 exA_wf
              rw [eR, eR2] at this
              refine this.mono ?_
              rintro e w' ⟨a, c, rfl, R⟩
              exact ⟨a, c, rfl, T.gb R.out.2⟩
            · have := T.names o1 b1
              rw [eN] at this
              refine this.mono ?_
              rintro e w' ⟨a, c, rfl, R⟩
              exact ⟨a, c, rfl, T.gb R.out.2⟩
            · have := T.used o1 b1
              rw [eU] at this
              refine this.mono ?_
              rintro e w' ⟨rfl, R⟩
              exact ⟨rfl, T.gb R.out⟩
            · have := T.stop o1 1; rw [eP, eP2] at this; exact this
            · have := T.crash0 o1 b1; rw [eK] at this; exact this
            · refine (T.swap.crash0 o2 b2).mono ?_
              rintro e w' ⟨rfl, T'⟩
              exact ⟨rfl, T'.out.swap⟩
          have FN : Hid (∀ W, Two w W b (q2.crash []) b' (q2.crash []) → Calls Try.prog 24 #[.pointer (some ⟨b, 0, none⟩)] W fun e w1 => ∃ a c, e = .returned (.slice a (nmL (q2.crash [])).length c) ∧ Hid (Calls Try.prog 24 #[.pointer (some ⟨b', 0, none⟩)] w1 fun e w2 => ∃ a' c', e = .returned (.slice a' (nmL (q2.crash [])).length c') ∧
              Hid (Calls Try.prog 25 #[.slice a (nmL (q2.crash [])).length c, .slice a' (nmL (q2.crash [])).length c'] w2 fun e w3 => e = .returned (.bool true) ∧ Hid (Calls Try.prog 29 #[.pointer (some ⟨b, 0, none⟩)] w3 fun e w4 => e = .returned (.int .i64 (usdO (q2.crash []) : Int)) ∧ Hid (Calls Try.prog 29 #[.pointer (some ⟨b', 0, none⟩)] w4 fun e w5 => e = .returned (.int .i64 (usdO (q2.crash []) : Int)) ∧ Gb w w5))))) := fun W T => by
            refine (T.names oK bK).mono ?_
            rintro e w1 ⟨a, c, rfl, R1⟩
            have T1 := T.gb R1.out.2
            refine ⟨a, c, rfl, (T1.swap.names oK bK).mono ?_⟩
            rintro e w2 ⟨a', c', rfl, R2⟩
            have T2 := T1.gb R2.out.2
            refine ⟨a', c', rfl, (texts_same (R1.out.1.gb R2.out.2) R2.out.1 (by
              have := oK.nmL
              have e : (nmL (q2.crash [])).length ≤ (q2.crash []).nm.length := by unfold nmL; split <;> simp [srtB_len, kys_length]
              omega)).mono ?_⟩
            rintro e w3 ⟨rfl, g3⟩
            have T3 := T2.gb g3
            refine ⟨rfl, (T3.used oK bK).mono ?_⟩
            rintro e w4 ⟨rfl, g4⟩
            have T4 := T3.gb g4.out
            refine ⟨rfl, (T4.swap.used oK bK).mono ?_⟩
            rintro e w5 ⟨rfl, g5⟩
            exact ⟨rfl, gb_trans T4.base g5.out⟩
          generalize (nmL (q2.crash [])).length = ln at *
          generalize (usdO (q2.crash []) : Int) = us at *
          clear WS o1 o2 hst hs1 hle b1 b2 T l1 eC eC2 eY eY2 eR eR2 eN eU eP eP2 eK oK bK XT
          go_wp2_with fail
          refine cS2.mono ?_
          rintro e w5 ⟨rfl, rfl⟩
          go_wp2_with fail
          refine cD.mono ?_
          rintro e w5 ⟨rfl, rfl⟩
          go_wp2_with fail
          refine cS1.mono ?_
          rintro e w5 ⟨rfl, rfl⟩
          go_wp2_with fail
          refine cS2.mono ?_
          rintro e w5 ⟨rfl, rfl⟩
          go_wp2_with fail
          refine cC.mono ?_
          rintro e w5 ⟨rfl, T⟩
          clear cC cS1 cS2 cD
          have cc := FR.out.1 _ T.out
          go_wp2_with fail
          refine cc.mono ?_
          rintro e w6 ⟨rfl, T⟩
          have cc := FR.out.2.1 _ T.out
          go_wp2_with fail
          refine cc.mono ?_
          rintro e w7 ⟨ra, rc, rfl, T⟩
          have cc := FR.out.2.2.1 _ T.out
          go_wp2_with fail
          refine cc.mono ?_
          rintro e w8 ⟨na, nc, rfl, T⟩
          have cc := FR.out.2.2.2.1 _ T.out
          go_wp2_with fail
          refine cc.mono ?_
          rintro e w9 ⟨rfl, T⟩
          have cc := FR.out.2.2.2.2.1 _ T.out
          go_wp2_with fail
          refine cc.mono ?_
          rintro e w10 ⟨rfl, T⟩
          have cc := FR.out.2.2.2.2.2.1 _ T.out
          go_wp2_with fail
          refine cc.mono ?_
          rintro e w11 ⟨rfl, T⟩
          have cc := FR.out.2.2.2.2.2.2 _ T.out
          go_wp2_with fail
          refine cc.mono ?_
          rintro e w12 ⟨rfl, T⟩
          go_wp2_with fail
          refine (awake_c _).mono ?_
          rintro e w13 ⟨rfl, gA⟩
          have cn := FN.out _ (T.out.gb gA)
          clear FR FN cc gA T
          go_wp2_with fail
          refine cn.mono ?_
          rintro e w14 ⟨xa, xc, rfl, cn⟩
          have cn := cn.out
          go_wp2_with fail
          refine cn.mono ?_
          rintro e w15 ⟨ya', yc', rfl, cn⟩
          have cn := cn.out
          go_wp2_with fail
          refine cn.mono ?_
          rintro e w16 ⟨rfl, cn⟩
          have cn := cn.out
          go_wp2_with fail
          refine cn.mono ?_
          rintro e w17 ⟨rfl, cn⟩
          have cn := cn.out
          go_wp2_with fail
          refine cn.mono ?_
          rintro e w18 ⟨rfl, gE⟩
          clear cn
          go_wp2
          go_ret
          exact ⟨rfl, gE⟩
        · have l1 : ¬ q1.lf = 0 := by rw [WS.eq]; show ¬ n - (q2.st : Int) = 0; omega
          rw [decide_eq_false l1] at cD
          have hdb : ((q2.st : Int) == n) = false := by rw [beq_eq_false_iff_ne]; exact hd
          have eN : nmL q1 = nmL q2 := WS.names hd
          have FN : Hid (∀ W, Two w W b q1 b' q2 → Calls Try.prog 24 #[.pointer (some ⟨b, 0, none⟩)] W fun e w1 => ∃ a c, e = .returned (.slice a (nmL q2).length c) ∧ Hid (Calls Try.prog 24 #[.pointer (some ⟨b', 0, none⟩)] w1 fun e w2 => ∃ a' c', e = .returned (.slice a' (nmL q2).length c') ∧
              Hid (Calls Try.prog 25 #[.slice a (nmL q2).length c, .slice a' (nmL q2).length c'] w2 fun e w3 => e = .returned (.bool true) ∧ Gb w w3))) := fun W T => by
            have cn := T.names o1 b1
            rw [eN] at cn
            refine cn.mono ?_
            rintro e w1 ⟨a, c, rfl, R1⟩
            have T1 := T.gb R1.out.2
            refine ⟨a, c, rfl, (T1.swap.names o2 b2).mono ?_⟩
            rintro e w2 ⟨a', c', rfl, R2⟩
            have T2 := T1.gb R2.out.2
            refine ⟨a', c', rfl, (texts_same (R1.out.1.gb R2.out.2) R2.out.1 (by
              have := o2.nmL
              have e : (nmL q2).length ≤ q2.nm.length := by unfold nmL; split <;> simp [srtB_len, kys_length]
              omega)).mono ?_⟩
            rintro e w3 ⟨rfl, g3⟩
            exact ⟨rfl, gb_trans T2.base g3⟩
          have TT : Hid (Two w wt b q1 b' q2) := T
          generalize (nmL q2).length = ln at *
          clear WS o1 o2 hst hs1 hle b1 b2 T l1 eN XT
          go_wp2_with fail
          refine cS2.mono ?_
          rintro e w5 ⟨rfl, rfl⟩
          go_wp2_with fail
          refine cD.mono ?_
          rintro e w5 ⟨rfl, rfl⟩
          go_wp2_with fail
          refine cS1.mono ?_
          rintro e w5 ⟨rfl, rfl⟩
          go_wp2_with fail
          refine cS2.mono ?_
          rintro e w5 ⟨rfl, rfl⟩
          go_wp2_with fail
          refine (awake_c _).mono ?_
          rintro e w13 ⟨rfl, gA⟩
          have cn := FN.out _ (TT.out.gb gA)
          clear FN gA TT cS1 cS2 cD
          go_wp2_with fail
          refine cn.mono ?_
          rintro e w14 ⟨xa, xc, rfl, cn⟩
          have cn := cn.out
          go_wp2_with fail
          refine cn.mono ?_
          rintro e w15 ⟨ya', yc', rfl, cn⟩
          have cn := cn.out
          go_wp2_with fail
          refine cn.mono ?_
          rintro e w16 ⟨rfl, gE⟩
          clear cn
          go_wp2
          go_ret
          exact ⟨rfl, gE⟩
      · have hsb : ((s2 : Int) == n) = false := by rw [beq_eq_false_iff_ne]; exact hsn
        have cP := cP hsn
        rw [World.size_alloc] at cP
        clear cS XAH hsn
        go_wp2_with fail
        refine cP.mono ?_
        rintro e w6 ⟨rfl, old, cQ⟩
        have cQ := cQ.out
        have bk6 := (old wr.heap.size (Nat.le_refl _) (by simp)).trans bk
        have v0 : w6.cell? ⟨wr.heap.size, 0, none⟩ = some (.int .i64 kd) := by simp [World.cell?, bk6]
        have v1 : w6.cell? ⟨wr.heap.size, 1, none⟩ = some (.string s1) := by simp [World.cell?, bk6]
        have v2 : w6.cell? ⟨wr.heap.size, 2, none⟩ = some (.string s2') := by simp [World.cell?, bk6]
        have v3 : w6.cell? ⟨wr.heap.size, 3, none⟩ = some (.slice ya lb yb) := by simp [World.cell?, bk6]
        have v4 : w6.cell? ⟨wr.heap.size, 4, none⟩ = some (.int .i64 nn) := by simp [World.cell?, bk6]
        have v5 : w6.cell? ⟨wr.heap.size, 5, none⟩ = some (.slice ca lc cb) := by simp [World.cell?, bk6]
        have hl6 := cell_lt v0
        clear cP old bk6 bk gA c0 c1 c2 c3 c4 c5
        go_wp2_with fail
        refine cQ.mono ?_
        rintro e w7 ⟨rfl, R⟩
        clear cQ v0 v1 v2 v3 v4 v5
        go_wp2
        go_roundw
        case rel => exact ⟨k + 1, by simp, hkn, R.out⟩
        case measure => simp [intOf]; omega
    · have e : k = N := by omega
      subst e
      have XT : Hid (SsI w b b' n k wr) := X.out
      have hki : ¬ (k : Int) < (k : Int) := by omega
      clear X HS
      generalize hWT : wr = wt at *
      obtain ⟨q1, q2, T, WS, o1, o2, hst⟩ := XT.out
      have hB := NB.out
      have hs1 : q1.st = q2.st := WS.st
      have hle := WS.le
      have b1 : q1.st < 100000 := by omega
      have b2 : q2.st < 100000 := by omega
      have cS2 := T.swap.steps o2
      have cD := T.down o1
      have cS1 := T.steps o1
      rw [hs1] at cS1
      by_cases hd : (q2.st : Int) = n
      · have l1 : q1.lf = 0 := by rw [WS.eq]; show n - (q2.st : Int) = 0; omega
        rw [decide_eq_true l1] at cD
        have hdb : ((q2.st : Int) == n) = true := by rw [beq_iff_eq]; exact hd
        have eC : crE q1 [122] = 174 := by unfold crE; rw [if_pos l1]
        have eC2 : q1.create [122] = q1 := by unfold Dq.create; rw [if_neg (by rw [eC]; decide)]
        have eY : rfE q1 = 174 := by unfold rfE; rw [if_pos l1]
        have eY2 : q1.syncDir = q1 := by unfold Dq.syncDir; rw [if_pos l1]
        have eR : fiE q1 exA = 174 := by unfold fiE; rw [if_pos l1]
        have eR2 : rdV q1 exA = [] := by unfold rdV; rw [if_neg (by rw [eR]; decide)]
        have eN : nmL q1 = [] := by unfold nmL; rw [if_pos l1]
        have eU : usdO q1 = 0 := by unfold usdO; rw [if_pos l1]
        have eP : stE q1 1 = 174 := by unfold stE; rw [if_pos l1]
        have eP2 : q1.stop 1 = q1 := by unfold Dq.stop; rw [if_neg (by rw [eP]; decide)]
        have eK : q1.crash [] = q2.crash [] := WS.crash []
        have oK := o2.crash []
        have bK : (q2.crash []).st < 100000 := b2
        have cC := T.create o1 b1 (x := [122]) (by decide)
        rw [eC, eC2] at cC
        have FR : Hid ((∀ W, Two w W b q1 b' q2 → Calls Try.prog 19 #[.pointer (some ⟨b, 0, none⟩)] W fun e w' => e = .returned (.int .i64 174) ∧ Hid (Two w w' b q1 b' q2)) ∧
            (∀ W, Two w W b q1 b' q2 → Calls Try.prog 21 #[.pointer (some ⟨b, 0, none⟩), .string (sb exA)] W fun e w' => ∃ a c, e = .returned (.tuple #[.slice a 0 c, .int .i64 174]) ∧ Hid (Two w w' b q1 b' q2)) ∧
            (∀ W, Two w W b q1 b' q2 → Calls Try.prog 24 #[.pointer (some ⟨b, 0, none⟩)] W fun e w' => ∃ a c, e = .returned (.slice a 0 c) ∧ Hid (Two w w' b q1 b' q2)) ∧
            (∀ W, Two w W b q1 b' q2 → Calls Try.prog 29 #[.pointer (some ⟨b, 0, none⟩)] W fun e w' => e = .returned (.int .i64 0) ∧ Hid (Two w w' b q1 b' q2)) ∧
            (∀ W, Two w W b q1 b' q2 → Calls Try.prog 27 #[.pointer (some ⟨b, 0, none⟩), .int .i64 1] W fun e w' => e = .returned (.int .i64 174) ∧ Hid (Two w w' b q1 b' q2)) ∧
            (∀ W, Two w W b q1 b' q2 → Calls Try.prog 17 #[.pointer (some ⟨b, 0, none⟩), .slice none 0 0] W fun e w' => e = .returned (.int .i64 0) ∧ Hid (Two w w' b (q2.crash []) b' q2)) ∧
            (∀ W, Two w W b (q2.crash []) b' q2 → Calls Try.prog 17 #[.pointer (some ⟨b', 0, none⟩), .slice none 0 0] W fun e w' => e = .returned (.int .i64 0) ∧ Hid (Two w w' b (q2.crash []) b' (q2.crash [])))) := by
          refine ⟨fun W T => ?_, fun W T => ?_, fun W T => ?_, fun W T => ?_, fun W T => ?_, fun W T => ?_, fun W T => ?_⟩
          · have := T.syncDir o1 b1; rw [eY, eY2] at this; exact this
          · have := T.read o1 exA_wf
            rw [eR, eR2] at this
            refine this.mono ?_
            rintro e w' ⟨a, c, rfl, R⟩
            exact ⟨a, c, rfl, T.gb R.out.2⟩
          · have := T.names o1 b1
            rw [eN] at this
            refine this.mono ?_
            rintro e w' ⟨a, c, rfl, R⟩
            exact ⟨a, c, rfl, T.gb R.out.2⟩
          · have := T.used o1 b1
            rw [eU] at this
            refine this.mono ?_
            rintro e w' ⟨rfl, R⟩
            exact ⟨rfl, T.gb R.out⟩
          · have := T.stop o1 1; rw [eP, eP2] at this; exact this
          · have := T.crash0 o1 b1; rw [eK] at this; exact this
          · refine (T.swap.crash0 o2 b2).mono ?_
            rintro e w' ⟨rfl, T'⟩
            exact ⟨rfl, T'.out.swap⟩
        have FN : Hid (∀ W, Two w W b (q2.crash []) b' (q2.crash []) → Calls Try.prog 24 #[.pointer (some ⟨b, 0, none⟩)] W fun e w1 => ∃ a c, e = .returned (.slice a (nmL (q2.crash [])).length c) ∧ Hid (Calls Try.prog 24 #[.pointer (some ⟨b', 0, none⟩)] w1 fun e w2 => ∃ a' c', e = .returned (.slice a' (nmL (q2.crash [])).length c') ∧
            Hid (Calls Try.prog 25 #[.slice a (nmL (q2.crash [])).length c, .slice a' (nmL (q2.crash [])).length c'] w2 fun e w3 => e = .returned (.bool true) ∧ Hid (Calls Try.prog 29 #[.pointer (some ⟨b, 0, none⟩)] w3 fun e w4 => e = .returned (.int .i64 (usdO (q2.crash []) : Int)) ∧ Hid (Calls Try.prog 29 #[.pointer (some ⟨b', 0, none⟩)] w4 fun e w5 => e = .returned (.int .i64 (usdO (q2.crash []) : Int)) ∧ Gb w w5))))) := fun W T => by
          refine (T.names oK bK).mono ?_
          rintro e w1 ⟨a, c, rfl, R1⟩
          have T1 := T.gb R1.out.2
          refine ⟨a, c, rfl, (T1.swap.names oK bK).mono ?_⟩
          rintro e w2 ⟨a', c', rfl, R2⟩
          have T2 := T1.gb R2.out.2
          refine ⟨a', c', rfl, (texts_same (R1.out.1.gb R2.out.2) R2.out.1 (by
            have := oK.nmL
            have e : (nmL (q2.crash [])).length ≤ (q2.crash []).nm.length := by unfold nmL; split <;> simp [srtB_len, kys_length]
            omega)).mono ?_⟩
          rintro e w3 ⟨rfl, g3⟩
          have T3 := T2.gb g3
          refine ⟨rfl, (T3.used oK bK).mono ?_⟩
          rintro e w4 ⟨rfl, g4⟩
          have T4 := T3.gb g4.out
          refine ⟨rfl, (T4.swap.used oK bK).mono ?_⟩
          rintro e w5 ⟨rfl, g5⟩
          exact ⟨rfl, gb_trans T4.base g5.out⟩
        generalize (nmL (q2.crash [])).length = ln at *
        generalize (usdO (q2.crash []) : Int) = us at *
        clear WS o1 o2 hst hs1 hle b1 b2 T l1 eC eC2 eY eY2 eR eR2 eN eU eP eP2 eK oK bK XT
        go_wp2_with fail
        refine cS2.mono ?_
        rintro e w5 ⟨rfl, rfl⟩
        go_wp2_with fail
        refine cD.mono ?_
        rintro e w5 ⟨rfl, rfl⟩
        go_wp2_with fail
        refine cS1.mono ?_
        rintro e w5 ⟨rfl, rfl⟩
        go_wp2_with fail
        refine cS2.mono ?_
        rintro e w5 ⟨rfl, rfl⟩
        go_wp2_with fail
        refine cC.mono ?_
        rintro e w5 ⟨rfl, T⟩
        clear cC cS1 cS2 cD
        have cc := FR.out.1 _ T.out
        go_wp2_with fail
        refine cc.mono ?_
        rintro e w6 ⟨rfl, T⟩
        have cc := FR.out.2.1 _ T.out
        go_wp2_with fail
        refine cc.mono ?_
        rintro e w7 ⟨ra, rc, rfl, T⟩
        have cc := FR.out.2.2.1 _ T.out
        go_wp2_with fail
        refine cc.mono ?_
        rintro e w8 ⟨na, nc, rfl, T⟩
        have cc := FR.out.2.2.2.1 _ T.out
        go_wp2_with fail
        refine cc.mono ?_
        rintro e w9 ⟨rfl, T⟩
        have cc := FR.out.2.2.2.2.1 _ T.out
        go_wp2_with fail
        refine cc.mono ?_
        rintro e w10 ⟨rfl, T⟩
        have cc := FR.out.2.2.2.2.2.1 _ T.out
        go_wp2_with fail
        refine cc.mono ?_
        rintro e w11 ⟨rfl, T⟩
        have cc := FR.out.2.2.2.2.2.2 _ T.out
        go_wp2_with fail
        refine cc.mono ?_
        rintro e w12 ⟨rfl, T⟩
        go_wp2_with fail
        refine (awake_c _).mono ?_
        rintro e w13 ⟨rfl, gA⟩
        have cn := FN.out _ (T.out.gb gA)
        clear FR FN cc gA T
        go_wp2_with fail
        refine cn.mono ?_
        rintro e w14 ⟨xa, xc, rfl, cn⟩
        have cn := cn.out
        go_wp2_with fail
        refine cn.mono ?_
        rintro e w15 ⟨ya', yc', rfl, cn⟩
        have cn := cn.out
        go_wp2_with fail
        refine cn.mono ?_
        rintro e w16 ⟨rfl, cn⟩
        have cn := cn.out
        go_wp2_with fail
        refine cn.mono ?_
        rintro e w17 ⟨rfl, cn⟩
        have cn := cn.out
        go_wp2_with fail
        refine cn.mono ?_
        rintro e w18 ⟨rfl, gE⟩
        clear cn
        go_wp2
        go_ret
        exact ⟨rfl, gE⟩
      · have l1 : ¬ q1.lf = 0 := by rw [WS.eq]; show ¬ n - (q2.st : Int) = 0; omega
        rw [decide_eq_false l1] at cD
        have hdb : ((q2.st : Int) == n) = false := by rw [beq_eq_false_iff_ne]; exact hd
        have eN : nmL q1 = nmL q2 := WS.names hd
        have FN : Hid (∀ W, Two w W b q1 b' q2 → Calls Try.prog 24 #[.pointer (some ⟨b, 0, none⟩)] W fun e w1 => ∃ a c, e = .returned (.slice a (nmL q2).length c) ∧ Hid (Calls Try.prog 24 #[.pointer (some ⟨b', 0, none⟩)] w1 fun e w2 => ∃ a' c', e = .returned (.slice a' (nmL q2).length c') ∧
            Hid (Calls Try.prog 25 #[.slice a (nmL q2).length c, .slice a' (nmL q2).length c'] w2 fun e w3 => e = .returned (.bool true) ∧ Gb w w3))) := fun W T => by
          have cn := T.names o1 b1
          rw [eN] at cn
          refine cn.mono ?_
          rintro e w1 ⟨a, c, rfl, R1⟩
          have T1 := T.gb R1.out.2
          refine ⟨a, c, rfl, (T1.swap.names o2 b2).mono ?_⟩
          rintro e w2 ⟨a', c', rfl, R2⟩
          have T2 := T1.gb R2.out.2
          refine ⟨a', c', rfl, (texts_same (R1.out.1.gb R2.out.2) R2.out.1 (by
            have := o2.nmL
            have e : (nmL q2).length ≤ q2.nm.length := by unfold nmL; split <;> simp [srtB_len, kys_length]
            omega)).mono ?_⟩
          rintro e w3 ⟨rfl, g3⟩
          exact ⟨rfl, gb_trans T2.base g3⟩
        have TT : Hid (Two w wt b q1 b' q2) := T
        generalize (nmL q2).length = ln at *
        clear WS o1 o2 hst hs1 hle b1 b2 T l1 eN XT
        go_wp2_with fail
        refine cS2.mono ?_
        rintro e w5 ⟨rfl, rfl⟩
        go_wp2_with fail
        refine cD.mono ?_
        rintro e w5 ⟨rfl, rfl⟩
        go_wp2_with fail
        refine cS1.mono ?_
        rintro e w5 ⟨rfl, rfl⟩
        go_wp2_with fail
        refine cS2.mono ?_
        rintro e w5 ⟨rfl, rfl⟩
        go_wp2_with fail
        refine (awake_c _).mono ?_
        rintro e w13 ⟨rfl, gA⟩
        have cn := FN.out _ (TT.out.gb gA)
        clear FN gA TT cS1 cS2 cD
        go_wp2_with fail
        refine cn.mono ?_
        rintro e w14 ⟨xa, xc, rfl, cn⟩
        have cn := cn.out
        go_wp2_with fail
        refine cn.mono ?_
        rintro e w15 ⟨ya', yc', rfl, cn⟩
        have cn := cn.out
        go_wp2_with fail
        refine cn.mono ?_
        rintro e w16 ⟨rfl, gE⟩
        clear cn
        go_wp2
        go_ret
        exact ⟨rfl, gE⟩
end Go.Proofs.Ytgndendohmbhlaa
