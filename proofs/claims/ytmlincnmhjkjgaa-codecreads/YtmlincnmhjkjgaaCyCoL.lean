/- GetChange. -/
import Derived.Test.YtmlincnmhjkjgaaCyCoK
namespace Go.Proofs.Ytmlincnmhjkjgaa
open Go.RowKit Go.Lib

/-- What GetChange reads: the kind, the id, how many coordinates, these; how many bytes there must be; is it a change's text? -/
def gK (l : List UInt8) : Nat := leN (tk 1 l)
def gI (l : List UInt8) : Nat := leN (tk 4 (l.drop 1))
def gD (l : List UInt8) : Nat := leN (tk 1 (l.drop 5))
def gV (l : List UInt8) : List Int := if gK l = 1 then vecOf (gD l) (l.drop 6) else []
def gL (l : List UInt8) : Nat := if gK l = 1 then 6 + 4 * gD l else 5
def GOk (l : List UInt8) : Prop := l.length = gL l ∧ chE (gK l : Int) (gI l : Int) (gV l) = 0
open Classical in
/-- What GetChange tells. -/
noncomputable def gcP (l : List UInt8) (w w' : World) (e : Ending) : Prop :=
  if GOk l then ∃ v', e = .returned (.tuple #[Ch (gK l : Int) (gI l : Int) v', .int .i64 0]) ∧ Own w' w.heap.size v' (gV l) ∧ Gb w w'
  else e = .returned (.tuple #[Ch 0 0 (.slice none 0 0), .int .i64 161]) ∧ Gb w w'
/-- The change under way: it lies in block cb, the answer in block rb. -/
structure GcI (w w0 : World) (bt bs cb : Nat) (l : List UInt8) (sh : Bool) (k i : Int) (v : Value) (W : World) : Prop where
  tk : TkAt w0 bt bs l sh W
  l1 : bt < cb
  l2 : bs < cb
  cb : W.heap[cb]? = some (.cells #[.int .i64 k, .int .i64 i, v] 25 (0, 0))
  rb : w0.heap[w.heap.size]? = some (.cells #[.int .i64 0, .int .i64 0, .slice none 0 0] 25 (0, 0))
  gb : Gb w w0
theorem GcI.size {w w0 : World} {bt bs cb : Nat} {l : List UInt8} {sh : Bool} {k i : Int} {v : Value} {W : World} (h : GcI w w0 bt bs cb l sh k i v W) : cb < W.heap.size ∧ bt < W.heap.size ∧ bs < W.heap.size ∧ w.heap.size < w0.heap.size ∧ w.heap.size < cb := by
  have h1 := (Array.getElem?_eq_some_iff.1 h.cb).1
  have h2 := (Array.getElem?_eq_some_iff.1 h.rb).1
  have := h.l1; have := h.l2; have := h.tk.tl
  omega
theorem GcI.take {w w0 : World} {bt bs cb : Nat} {l l' : List UInt8} {sh sh' : Bool} {k i : Int} {v : Value} {W W' : World} (h : GcI w w0 bt bs cb l sh k i v W) (t : TkAt w0 bt bs l' sh' W') (p : Kp2 bt bs W W') : GcI w w0 bt bs cb l' sh' k i v W' :=
  ⟨t, h.l1, h.l2, (p.blk _ h.size.1 (by have := h.l1; omega) (by have := h.l2; omega)).trans h.cb, h.rb, h.gb⟩
theorem TkAt.set {w0 : World} {bt bs : Nat} {l : List UInt8} {sh : Bool} {w : World} (h : TkAt w0 bt bs l sh w) {p : Addr} (h0 : w0.heap.size ≤ p.block) (h1 : bt ≠ p.block) (h2 : bs ≠ p.block) (x : Value) : TkAt w0 bt bs l sh (w.setCell p x) := by
  obtain ⟨v, t1, t2⟩ := h.txt
  exact ⟨gb_set h.gb h0 x, h.tl, h.sl, ⟨v, (Below.heap_setCell _ _ _ _ h1).trans t1, t2⟩, (Below.heap_setCell _ _ _ _ h2).trans h.sht⟩
theorem GcI.set {w w0 : World} {bt bs cb : Nat} {l : List UInt8} {sh : Bool} {k i k' i' : Int} {v v' : Value} {W : World} (h : GcI w w0 bt bs cb l sh k i v W) (o : Nat) (x : Value)
    (e : (#[.int .i64 k, .int .i64 i, v] : Array Value).setIfInBounds o x = #[.int .i64 k', .int .i64 i', v']) : GcI w w0 bt bs cb l sh k' i' v' (W.setCell ⟨cb, o, none⟩ x) :=
  ⟨h.tk.set (by show w0.heap.size ≤ cb; have := h.tk.tl; have := h.l1; omega) (by show bt ≠ cb; have := h.l1; omega) (by show bs ≠ cb; have := h.l2; omega) x, h.l1, h.l2, by rw [heap_set0 h.cb, e], h.rb, h.gb⟩
theorem cells3 {W : World} {b : Nat} {x y z : Value} {t : TypeId} (h : W.heap[b]? = some (.cells #[x, y, z] t (0, 0))) :
    W.cell? ⟨b, 0, none⟩ = some x ∧ W.cell? ⟨b, 1, none⟩ = some y ∧ W.cell? ⟨b, 2, none⟩ = some z ∧ W.frozen? ⟨b, 0, none⟩ = false ∧ W.frozen? ⟨b, 1, none⟩ = false ∧ W.frozen? ⟨b, 2, none⟩ = false :=
  ⟨by simp [World.cell?, h], by simp [World.cell?, h], by simp [World.cell?, h], by simp [World.frozen?, h], by simp [World.frozen?, h], by simp [World.frozen?, h]⟩
theorem GcI.fin {w w0 : World} {bt bs cb : Nat} {l : List UInt8} {sh : Bool} {k i : Int} {v : Value} {W W' : World} (h : GcI w w0 bt bs cb l sh k i v W) (g : Gb W W') :
    W'.heap[cb]? = some (.cells #[.int .i64 k, .int .i64 i, v] 25 (0, 0)) ∧ W'.heap[w.heap.size]? = some (.cells #[.int .i64 0, .int .i64 0, .slice none 0 0] 25 (0, 0)) := by
  have z := h.size
  have e := (h.tk.gb.block _ z.2.2.2.1).trans h.rb
  exact ⟨(g.block _ z.1).trans h.cb, (g.block _ (Array.getElem?_eq_some_iff.1 e).1).trans e⟩
theorem set3 {W : World} {b : Nat} {x y z : Value} {t : TypeId} (h : W.heap[b]? = some (.cells #[x, y, z] t (0, 0))) (x' y' z' : Value) :
    (((W.setCell ⟨b, 0, none⟩ x').setCell ⟨b, 1, none⟩ y').setCell ⟨b, 2, none⟩ z').heap[b]? = some (.cells #[x', y', z'] t (0, 0)) := by
  have h1 := heap_set0 (o := 0) (x := x') h
  have h2 := heap_set0 (o := 1) (x := y') h1
  rw [heap_set0 (o := 2) (x := z') h2]
  rfl
theorem gb_set3 {w W : World} (g : Gb w W) {b : Nat} (hb : w.heap.size ≤ b) (x y z : Value) : Gb w (((W.setCell ⟨b, 0, none⟩ x).setCell ⟨b, 1, none⟩ y).setCell ⟨b, 2, none⟩ z) := gb_set (gb_set (gb_set g hb x) hb y) hb z
theorem GcI.all {w w0 : World} {bt bs cb : Nat} {l : List UInt8} {sh : Bool} {k i : Int} {v : Value} {W W' : World} (h : GcI w w0 bt bs cb l sh k i v W) (g : Gb W W') : Gb w W' := gb_trans h.gb (gb_trans h.tk.gb g)
theorem own_set3 {w : World} {B : Nat} {v : Value} {l : List Int} (h : Own w B v l) {b : Nat} (hb : b < B) (x y z : Value) : Own (((w.setCell ⟨b, 0, none⟩ x).setCell ⟨b, 1, none⟩ y).setCell ⟨b, 2, none⟩ z) B v l :=
  ownsRow_setCell_below (ownsRow_setCell_below (ownsRow_setCell_below h (a := ⟨b, 0, none⟩) hb x) (a := ⟨b, 1, none⟩) hb y) (a := ⟨b, 2, none⟩) hb z
set_option maxHeartbeats 4000000 in
set_option maxRecDepth 100000 in
theorem getChange_c (l : List UInt8) (hl : l.length ≤ 4611686018427387904) (w : World) :
    Calls Try.prog 4 #[.string (sb l)] w fun e w' => gcP l w w' e := by
  have WA : Hid (∃ wA, wA = w.alloc (.cells #[.int .i64 0, .int .i64 0, .slice none 0 0] 25)) := ⟨_, rfl⟩
  obtain ⟨wA, hA⟩ := WA
  have GA : Gb w wA := by rw [hA]; exact gb_alloc (Below.refl _ w) _
  have RA : wA.heap[w.heap.size]? = some (.cells #[.int .i64 0, .int .i64 0, .slice none 0 0] 25 (0, 0)) := by rw [hA]; exact heap_alloc_new _ _
  have hcv := conv_bytes wA l
  have G1 := gb_bytes wA 5 (sb l)
  have R1 := rdb_bytes wA l
  generalize bytesWorld wA 5 (sb l) = w1 at *
  generalize grownCap wA l.length 0 5 = gc at *
  generalize sb l = s at *
  have t0 := taker_c R1
  have FF : Hid (Gb w w1 ∧ w1.heap[w.heap.size]? = some (.cells #[.int .i64 0, .int .i64 0, .slice none 0 0] 25 (0, 0))) := ⟨gb_trans GA G1, (G1.block _ (Array.getElem?_eq_some_iff.1 RA).1).trans RA⟩
  clear GA RA G1 R1
  have HL : Hid (l.length ≤ 4611686018427387904) := hl
  obtain ⟨n, hN⟩ : ∃ n, n = l.length := ⟨_, rfl⟩
  have NN : Hid (n = l.length) := hN
  rw [← hN] at hcv t0
  clear hl hN
  have hK : gK l < 256 := tk_lt 1 l
  have hI : gI l < 4294967296 := tk_lt 4 _
  have hD : gD l < 256 := tk_lt 1 _
  have DK : Hid (leN (tk 1 l) = gK l) := rfl
  have DI : Hid (leN (tk 4 (l.drop 1)) = gI l) := rfl
  have DD : Hid (leN (tk 1 ((l.drop 1).drop 4)) = gD l) := by unfold Hid gD; rw [List.drop_drop]
  subst hA
  simp only [World.size_alloc] at hcv t0
  go_enter Try.func4, Try.ntmps4
  go_wp2_with fail
  refine t0.mono ?_
  rintro e w2 ⟨bt, bs, rfl, T2⟩
  unfold TK LF
  have l1 := T2.cells.2.2.1
  have l2 := T2.cells.2.2.2.1
  have CB := heap_alloc_new w2 (.cells #[.int .i64 0, .int .i64 0, .slice none 0 0] 25)
  have I0 : GcI w w1 bt bs w2.heap.size l false 0 0 (.slice none 0 0) (w2.alloc (.cells #[.int .i64 0, .int .i64 0, .slice none 0 0] 25)) :=
    ⟨T2.later (gb_alloc (Below.refl _ _) _), l1, l2, CB, FF.out.2, FF.out.1⟩
  clear CB
  go_wp2_with fail
  refine (take_c I0.tk 1 (by decide) HL.out).mono ?_
  rintro e w3 ⟨v3, rfl, o3, T3, K3⟩
  have I3 := I0.take T3 K3
  go_wp2_with fail
  refine (tkn_c o3 (by decide)).mono ?_
  rintro e w' ⟨rfl, rfl⟩
  rw [DK.out]
  obtain ⟨c0, c1, c2, f0, f1, f2⟩ := cells3 I3.cb
  generalize hk : gK l = k at *
  have KK : Hid (gK l = k) := hk
  clear hk
  have I4 := I3.set 0 (.int .i64 (k : Int)) (k' := (k : Int)) (i' := 0) (v' := .slice none 0 0) rfl
  go_wp2_with fail
  refine (take_c I4.tk 4 (by decide) (by rw [List.length_drop]; have := HL.out; omega)).mono ?_
  rintro e w4 ⟨v4, rfl, o4, T4, K4⟩
  have I5 := I4.take T4 K4
  clear I3 I4 K4 K3 c0 c1 c2 f0 f1 f2
  go_wp2_with fail
  refine (tkn_c o4 (by decide)).mono ?_
  rintro e w' ⟨rfl, rfl⟩
  rw [DI.out]
  obtain ⟨c0, c1, c2, f0, f1, f2⟩ := cells3 I5.cb
  generalize hi : gI l = i at *
  have II : Hid (gI l = i) := hi
  clear hi
  have I6 := I5.set 1 (.int .i64 (i : Int)) (k' := (k : Int)) (i' := (i : Int)) (v' := .slice none 0 0) rfl
  by_cases hk1 : k = 1
  · subst hk1
    have VV : Hid (gV l = vecOf (gD l) (l.drop 6)) := by unfold Hid gV; rw [if_pos KK.out]
    have LL : Hid (gL l = 6 + 4 * gD l) := by unfold Hid gL; rw [if_pos KK.out]
    go_wp2_with fail
    refine (take_c I6.tk 1 (by decide) (by simp only [List.length_drop]; have := HL.out; omega)).mono ?_
    rintro e w5 ⟨v5, rfl, o5, T5, K5⟩
    have I7 := I6.take T5 K5
    clear I5 I6 K5 c0 c1 c2 f0 f1 f2
    go_wp2_with fail
    refine (tkn_c o5 (by decide)).mono ?_
    rintro e w' ⟨rfl, rfl⟩
    rw [DD.out]
    generalize hd : gD l = d at *
    clear hd
    have vc := vector_c I7.tk d (by omega) (by simp only [List.length_drop]; have := HL.out; omega)
    unfold TK at vc
    go_wp2_with fail
    refine vc.mono ?_
    rintro e w6 ⟨v6, rfl, o6, T6, K6⟩
    have I8 := I7.take T6 K6
    have E6 : Hid (((l.drop 1).drop 4).drop 1 = l.drop 6) := by unfold Hid; simp only [List.drop_drop]
    rw [E6.out] at o6 T6 I8
    rw [← VV.out] at o6
    obtain ⟨a6, k6, e6, _⟩ := o6.rd
    generalize hlv : (gV l).length = nv at *
    subst e6
    have LV : Hid ((gV l).length = nv) := hlv
    clear hlv
    obtain ⟨c0, c1, c2, f0, f1, f2⟩ := cells3 I8.cb
    have I9 := I8.set 2 (.slice a6 nv k6) (k' := 1) (i' := (i : Int)) (v' := .slice a6 nv k6) rfl
    have SZ := I7.size
    have o9 : Own (w6.setCell ⟨w2.heap.size, 2, none⟩ (.slice a6 nv k6)) w5.heap.size (.slice a6 nv k6) (gV l) := ownsRow_setCell_below o6 (a := ⟨w2.heap.size, 2, none⟩) SZ.1 (.slice a6 nv k6)
    have LFT : Hid ((if ((((false || decide (l.length < 1)) || decide ((l.drop 1).length < 4)) || decide (((l.drop 1).drop 4).length < 1)) || decide ((l.drop 6).length < 4 * d)) = true then (-1 : Int) else ((((l.drop 6).drop (4 * d)).length : Nat) : Int)) = (if n < gL l then (-1 : Int) else ((n - gL l : Nat) : Int))) := by
      unfold Hid
      simp only [List.length_drop, Bool.false_or, ← Bool.decide_or, decide_eq_true_eq]
      rw [LL.out, NN.out]
      by_cases h : l.length < 6 + 4 * d
      · rw [if_pos (by omega), if_pos h]
      · rw [if_neg (by omega), if_neg h]; omega
    clear I7 K6 T5 T4 T3 VV
    have VV : Hid (gV l = gV l) := rfl
    have hleft := (left_c I9.tk)
    rw [LFT.out] at hleft
    by_cases hn : n = gL l
    · have L0 : Hid ((if n < gL l then (-1 : Int) else ((n - gL l : Nat) : Int)) = 0) := by unfold Hid; rw [if_neg (by omega), hn, Nat.sub_self]; rfl
      rw [L0.out] at hleft
      have CK := checkChange_c (w := w6.setCell ⟨w2.heap.size, 2, none⟩ (.slice a6 nv k6)) (1 : Int) (i : Int) o9.rd
      by_cases hz : chE (1 : Int) (i : Int) (gV l) = 0
      · have OK : Hid (GOk l) := ⟨by have := NN.out; omega, by rw [KK.out, II.out, VV.out]; exact hz⟩
        rw [hz] at CK
        unfold Ch at CK
        go_wp2_with fail
        refine hleft.mono ?_
        rintro e w' ⟨rfl, rfl⟩
        go_wp2_with fail
        refine CK.mono ?_
        rintro e w8 ⟨rfl, g8⟩
        obtain ⟨C8, R8⟩ := I9.fin g8
        obtain ⟨x0, x1, x2, y0, y1, y2⟩ := cells3 C8
        obtain ⟨r0, r1, r2, q0, q1, q2⟩ := cells3 R8
        go_wp2
        have hA := set3 R8 (.int .i64 1) (.int .i64 (i : Int)) (.slice a6 nv k6)
        obtain ⟨z0, z1, z2, _⟩ := cells3 hA
        refine bodyPost_ret (v := .tuple #[Ch 1 (i : Int) (.slice a6 nv k6), .int .i64 0]) (by simp [results, Try.results4, go_sem, Ch, z0, z1, z2]) rfl ?_
        unfold gcP
        rw [if_pos OK.out]
        exact ⟨(.slice a6 nv k6), by rw [KK.out, II.out]; rfl, (own_set3 (o9.gb g8) (by omega) _ _ _).mono (by omega), gb_set3 (I9.all g8) (Nat.le_refl _) _ _ _⟩
      · have OK : Hid (¬ GOk l) := fun h => hz (by have := h.2; rw [KK.out, II.out, VV.out] at this; exact this)
        unfold Ch at CK
        generalize chE (1 : Int) (i : Int) (gV l) = z at *
        have hz' : (z != 0) = true := by rw [bne_iff_ne]; exact hz
        clear hz
        go_wp2_with fail
        refine hleft.mono ?_
        rintro e w' ⟨rfl, rfl⟩
        go_wp2_with fail
        refine CK.mono ?_
        rintro e w8 ⟨rfl, g8⟩
        obtain ⟨C8, R8⟩ := I9.fin g8
        obtain ⟨r0, r1, r2, q0, q1, q2⟩ := cells3 R8
        go_wp2
        have hA := set3 R8 (.int .i64 0) (.int .i64 0) (.slice none 0 0)
        obtain ⟨z0, z1, z2, _⟩ := cells3 hA
        refine bodyPost_ret (v := .tuple #[Ch 0 0 (.slice none 0 0), .int .i64 161]) (by simp [results, Try.results4, go_sem, Ch, z0, z1, z2]) rfl ?_
        unfold gcP
        rw [if_neg OK.out]
        exact ⟨rfl, gb_set3 (I9.all g8) (Nat.le_refl _) _ _ _⟩
    · have OK : Hid (¬ GOk l) := fun h => hn (by have := h.1; have := NN.out; omega)
      have L0 : Hid ((if n < gL l then (-1 : Int) else ((n - gL l : Nat) : Int)) ≠ 0) := by unfold Hid; split <;> omega
      generalize (if n < gL l then (-1 : Int) else ((n - gL l : Nat) : Int)) = z at *
      have hz' : (z != 0) = true := by rw [bne_iff_ne]; exact L0.out
      go_wp2_with fail
      refine hleft.mono ?_
      rintro e w' ⟨rfl, rfl⟩
      obtain ⟨C8, R8⟩ := I9.fin (Below.refl _ _)
      obtain ⟨r0, r1, r2, q0, q1, q2⟩ := cells3 R8
      go_wp2
      have hA := set3 R8 (.int .i64 0) (.int .i64 0) (.slice none 0 0)
      obtain ⟨z0, z1, z2, _⟩ := cells3 hA
      refine bodyPost_ret (v := .tuple #[Ch 0 0 (.slice none 0 0), .int .i64 161]) (by simp [results, Try.results4, go_sem, Ch, z0, z1, z2]) rfl ?_
      unfold gcP
      rw [if_neg OK.out]
      exact ⟨rfl, gb_set3 (I9.all (Below.refl _ _)) (Nat.le_refl _) _ _ _⟩
  · have VV : Hid (gV l = []) := by unfold Hid gV; rw [if_neg (by rw [KK.out]; exact hk1)]
    have LL : Hid (gL l = 5) := by unfold Hid gL; rw [if_neg (by rw [KK.out]; exact hk1)]
    have hk1' : ((k : Int) == 1) = false := by rw [beq_eq_false_iff_ne]; omega
    have LFT : Hid ((if ((false || decide (l.length < 1)) || decide ((l.drop 1).length < 4)) = true then (-1 : Int) else ((((l.drop 1).drop 4).length : Nat) : Int)) = (if n < gL l then (-1 : Int) else ((n - gL l : Nat) : Int))) := by
      unfold Hid
      simp only [List.length_drop, Bool.false_or, ← Bool.decide_or, decide_eq_true_eq]
      rw [LL.out, NN.out]
      by_cases h : l.length < 5
      · rw [if_pos (by omega), if_pos h]
      · rw [if_neg (by omega), if_neg h]; omega
    have hleft := (left_c I6.tk)
    rw [LFT.out] at hleft
    by_cases hn : n = gL l
    · have L0 : Hid ((if n < gL l then (-1 : Int) else ((n - gL l : Nat) : Int)) = 0) := by unfold Hid; rw [if_neg (by omega), hn, Nat.sub_self]; rfl
      rw [L0.out] at hleft
      have CK := checkChange_c (w := w4.setCell ⟨w2.heap.size, 1, none⟩ (.int .i64 (i : Int))) (k : Int) (i : Int) (rdi_nil _)
      by_cases hz : chE (k : Int) (i : Int) [] = 0
      · have OK : Hid (GOk l) := ⟨by have := NN.out; omega, by rw [KK.out, II.out, VV.out]; exact hz⟩
        rw [hz] at CK
        unfold Ch at CK
        go_wp2_with fail
        refine hleft.mono ?_
        rintro e w' ⟨rfl, rfl⟩
        go_wp2_with fail
        refine CK.mono ?_
        rintro e w8 ⟨rfl, g8⟩
        obtain ⟨C8, R8⟩ := I6.fin g8
        obtain ⟨x0, x1, x2, y0, y1, y2⟩ := cells3 C8
        obtain ⟨r0, r1, r2, q0, q1, q2⟩ := cells3 R8
        go_wp2
        have hA := set3 R8 (.int .i64 (k : Int)) (.int .i64 (i : Int)) (.slice none 0 0)
        obtain ⟨z0, z1, z2, _⟩ := cells3 hA
        refine bodyPost_ret (v := .tuple #[Ch (k : Int) (i : Int) (.slice none 0 0), .int .i64 0]) (by simp [results, Try.results4, go_sem, Ch, z0, z1, z2]) rfl ?_
        unfold gcP
        rw [if_pos OK.out]
        exact ⟨(.slice none 0 0), by rw [KK.out, II.out], by rw [VV.out]; exact ⟨by simp, .inl ⟨rfl, rfl⟩⟩, gb_set3 (I6.all g8) (Nat.le_refl _) _ _ _⟩
      · have OK : Hid (¬ GOk l) := fun h => hz (by have := h.2; rw [KK.out, II.out, VV.out] at this; exact this)
        unfold Ch at CK
        generalize chE (k : Int) (i : Int) [] = z at *
        have hz' : (z != 0) = true := by rw [bne_iff_ne]; exact hz
        clear hz
        go_wp2_with fail
        refine hleft.mono ?_
        rintro e w' ⟨rfl, rfl⟩
        go_wp2_with fail
        refine CK.mono ?_
        rintro e w8 ⟨rfl, g8⟩
        obtain ⟨C8, R8⟩ := I6.fin g8
        obtain ⟨r0, r1, r2, q0, q1, q2⟩ := cells3 R8
        go_wp2
        have hA := set3 R8 (.int .i64 0) (.int .i64 0) (.slice none 0 0)
        obtain ⟨z0, z1, z2, _⟩ := cells3 hA
        refine bodyPost_ret (v := .tuple #[Ch 0 0 (.slice none 0 0), .int .i64 161]) (by simp [results, Try.results4, go_sem, Ch, z0, z1, z2]) rfl ?_
        unfold gcP
        rw [if_neg OK.out]
        exact ⟨rfl, gb_set3 (I6.all g8) (Nat.le_refl _) _ _ _⟩
    · have OK : Hid (¬ GOk l) := fun h => hn (by have := h.1; have := NN.out; omega)
      have L0 : Hid ((if n < gL l then (-1 : Int) else ((n - gL l : Nat) : Int)) ≠ 0) := by unfold Hid; split <;> omega
      generalize (if n < gL l then (-1 : Int) else ((n - gL l : Nat) : Int)) = z at *
      have hz' : (z != 0) = true := by rw [bne_iff_ne]; exact L0.out
      go_wp2_with fail
      refine hleft.mono ?_
      rintro e w' ⟨rfl, rfl⟩
      obtain ⟨C8, R8⟩ := I6.fin (Below.refl _ _)
      obtain ⟨r0, r1, r2, q0, q1, q2⟩ := cells3 R8
      go_wp2
      have hA := set3 R8 (.int .i64 0) (.int .i64 0) (.slice none 0 0)
      obtain ⟨z0, z1, z2, _⟩ := cells3 hA
      refine bodyPost_ret (v := .tuple #[Ch 0 0 (.slice none 0 0), .int .i64 161]) (by simp [results, Try.results4, go_sem, Ch, z0, z1, z2]) rfl ?_
      unfold gcP
      rw [if_neg OK.out]
      exact ⟨rfl, gb_set3 (I6.all (Below.refl _ _)) (Nat.le_refl _) _ _ _⟩
end Go.Proofs.Ytmlincnmhjkjgaa
