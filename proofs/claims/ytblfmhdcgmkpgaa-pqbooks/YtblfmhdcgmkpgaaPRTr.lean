/- The reference's Train. -/
import Derived.Test.YtblfmhdcgmkpgaaPRPart
import Derived.Test.YtblfmhdcgmkpgaaPTrain
import Derived.Test.YtblfmhdcgmkpgaaKRefN
namespace Go.Proofs.Ytblfmhdcgmkpgaa
open Go.RowKit Go.Maps Go.Sort

/-- The reference's coder in memory. -/
def MCod (w : World) (p d m : Nat) (bs : List Vs) : Prop := w.cell? ⟨p, 0, none⟩ = some (.int .i64 (d : Int)) ∧ w.cell? ⟨p, 1, none⟩ = some (.int .i64 (m : Int)) ∧ ∃ bv, w.cell? ⟨p, 2, none⟩ = some bv ∧ RdB w bv bs
theorem MCod.gb {w w' : World} {p d m : Nat} {bs : List Vs} (h : MCod w p d m bs) (g : Gb w w') : MCod w' p d m bs := by
  obtain ⟨h1, h2, bv, h3, h4⟩ := h
  exact ⟨gb_keeps g h1, gb_keeps g h2, bv, gb_keeps g h3, h4.gb g⟩
theorem RdIP.mono {P Q : Nat → Prop} {W : World} {u : Value} {x : List Int} (h : RdIP P W u x) (g : ∀ b, b < W.heap.size → P b → Q b) : RdIP Q W u x := by
  obtain ⟨a, cap, e, h⟩ := h
  refine ⟨a, cap, e, fun i hi => ?_⟩
  obtain ⟨b, o, e1, hp, e2⟩ := h i hi
  exact ⟨b, o, e1, g b (World.block_lt_of_cell? W _ e2) hp, e2⟩
theorem RdVP.mono {P Q : Nat → Prop} {W : World} {v : Value} {vs : Vs} (h : RdVP P W v vs) (g : ∀ b, b < W.heap.size → P b → Q b) : RdVP Q W v vs := by
  obtain ⟨a, cap, e, h⟩ := h
  refine ⟨a, cap, e, fun i hi => ?_⟩
  obtain ⟨b, o, u, e1, hp, e2, e3⟩ := h i hi
  exact ⟨b, o, u, e1, g b (World.block_lt_of_cell? W _ e2) hp, e2, e3.mono g⟩
/-- Neither the coder's block nor that of its row of books. -/
def NB (pb : Nat) (bv : Value) (b : Nat) : Prop := b ≠ pb ∧ ¬ bv.ownBlock = some b
/-- A coder of the reference with q books in the making. -/
structure RtS (w0 W : World) (pb : Nat) (d m : Int) (q : Nat) (bv : Value) (bs : List Vs) : Prop where
  box : W.heap[pb]? = some (.cells #[.int .i64 d, .int .i64 m, bv] 38 (0, 0))
  lt : pb < w0.heap.size
  kp : Kp (fun b => b = pb) w0 W
  own : ∃ xs, W.ownsRow w0.heap.size 22 1 bv q xs ∧ ∀ i, i < q → ∃ u, xs[i]? = some u ∧ RdVP (NB pb bv) W u bs[i]!
theorem box3_cell {W : World} {pb : Nat} {x y z : Value} {t : TypeId} (h : W.heap[pb]? = some (.cells #[x, y, z] t (0, 0))) : W.cell? ⟨pb, 0, none⟩ = some x ∧ W.cell? ⟨pb, 1, none⟩ = some y ∧ W.cell? ⟨pb, 2, none⟩ = some z ∧ W.frozen? ⟨pb, 2, none⟩ = false := by
  refine ⟨?_, ?_, ?_, ?_⟩
  · simp [World.cell?, h]
  · simp [World.cell?, h]
  · simp [World.cell?, h]
  · simp [World.frozen?, h]
theorem RtS.gb {w0 W W' : World} {pb : Nat} {d m : Int} {q : Nat} {bv : Value} {bs : List Vs} (h : RtS w0 W pb d m q bv bs) (g : Gb W W') : RtS w0 W' pb d m q bv bs := by
  obtain ⟨xs, h1, h2⟩ := h.own
  refine ⟨by rw [g.block pb (Array.getElem?_eq_some_iff.1 h.box).1]; exact h.box, h.lt, h.kp.trans (Kp.gb g), xs, h1.kept (row := none) ⟨g.os, g.tape, g.output, g.size, fun k hk _ => g.block k hk⟩ (by cases hv : bv.ownBlock <;> simp), fun i hi => ?_⟩
  obtain ⟨u, e, o⟩ := h2 i hi
  exact ⟨u, e, o.gb g⟩
theorem RtS.nb {w0 W : World} {pb : Nat} {d m : Int} {q : Nat} {bv : Value} {bs : List Vs} (h : RtS w0 W pb d m q bv bs) : (∀ b, b < w0.heap.size → b ≠ pb → NB pb bv b) ∧ ∀ b, W.heap.size ≤ b → NB pb bv b := by
  obtain ⟨xs, h1, _⟩ := h.own
  have h2 := h.lt
  have h3 := h.kp.size
  exact ⟨fun b hb hn => ⟨hn, fun e => by have := (h1.lt b e).1; omega⟩, fun b hb => ⟨by omega, fun e => by have := (h1.lt b e).2; omega⟩⟩
theorem RtS.next {w0 w2 W4 : World} {pb : Nat} {d m : Int} {q : Nat} {bv v4 u : Value} {bs : List Vs} {xs : List Value} (h : RtS w0 w2 pb d m q bv bs) (o2 : RdVP (NB pb bv) w2 u bs[q]!)
    (h3 : w2.ownsRow w0.heap.size 22 1 bv q xs) (hx : ∀ i, i < q → ∃ u, xs[i]? = some u ∧ RdVP (NB pb bv) w2 u bs[i]!)
    (hown : W4.ownsRow w0.heap.size 22 1 v4 (q + 1) (xs ++ [u])) (hg : (w2.alloc (.cells #[u] 22)).grownBy W4 bv.ownBlock) (hloc : v4.ownBlock = bv.ownBlock ∨ v4.ownBlock = some (w2.alloc (.cells #[u] 22)).heap.size) :
    W4.heap[pb]? = some (.cells #[.int .i64 d, .int .i64 m, bv] 38 (0, 0)) ∧ RtS w0 (W4.setCell ⟨pb, 2, none⟩ v4) pb d m (q + 1) v4 bs := by
  have hA : Gb w2 (w2.alloc (.cells #[u] 22)) := gb_alloc (Below.refl _ _) _
  have h5 := h.gb hA
  have kpA : Kp (fun b => bv.ownBlock = some b) (w2.alloc (.cells #[u] 22)) W4 := ⟨hg.os, hg.tape, hg.output, hg.size, fun b hb hn => hg.block b hb (fun e => hn e.symm)⟩
  have npb : ¬ bv.ownBlock = some pb := fun e => by have := (h3.lt pb e).1; have := h.lt; omega
  have box4 : W4.heap[pb]? = some (.cells #[.int .i64 d, .int .i64 m, bv] 38 (0, 0)) := by
    rw [kpA.block pb (Array.getElem?_eq_some_iff.1 h5.box).1 npb]; exact h5.box
  have k5 : Kp (fun b => b = pb) W4 (W4.setCell ⟨pb, 2, none⟩ v4) := (Kp.refl (fun b => b = pb) W4).set (p := ⟨pb, 2, none⟩) (.inl rfl) v4
  have k4 : Kp (fun b => b = pb) w0 W4 := ⟨kpA.os.trans h5.kp.os, kpA.tape.trans h5.kp.tape, kpA.output.trans h5.kp.output, Nat.le_trans h5.kp.size kpA.size, fun b hb hn => (kpA.block b (Nat.lt_of_lt_of_le hb h5.kp.size) (fun e => by have := (h3.lt b e).1; omega)).trans (h5.kp.block b hb hn)⟩
  have o5 : ∀ {u' : Value} {cs : Vs}, RdVP (NB pb bv) w2 u' cs → RdVP (NB pb v4) (W4.setCell ⟨pb, 2, none⟩ v4) u' cs := fun {u' cs} o => by
    have o1 : RdVP (fun b => NB pb bv b ∧ NB pb v4 b ∧ b < w2.heap.size) w2 u' cs := o.mono (fun b hb hp => ⟨hp, ⟨hp.1, fun e => by
      rcases hloc with h' | h'
      · exact hp.2 (by rw [← h']; exact e)
      · rw [h'] at e
        have : (w2.alloc (.cells #[u] 22)).heap.size = b := by injection e
        rw [World.size_alloc] at this
        omega⟩, hb⟩)
    have o2 := (o1.gb hA).agree (W' := W4) (fun k hk hp => kpA.block k hk hp.1.2)
    have o3 := o2.agree (W' := W4.setCell ⟨pb, 2, none⟩ v4) (fun k hk hp => k5.block k hk hp.1.1)
    exact o3.mono (fun b _ hp => hp.2.1)
  refine ⟨box4, ⟨?_, h.lt, k4.trans k5, xs ++ [u], ?_, fun i hi' => ?_⟩⟩
  · simp [World.setCell, Array.getElem?_modify, box4]
  · refine hown.kept (row := some pb) ⟨k5.os, k5.tape, k5.output, k5.size, fun b hb hn => k5.block b hb (fun e => hn (by rw [e]))⟩ (.inr fun e => ?_)
    have := (hown.lt pb e).1
    have := h.lt
    omega
  · have hl := h3.1
    by_cases e : i < q
    · obtain ⟨u', e1, e2⟩ := hx i e
      exact ⟨u', by rw [List.getElem?_append_left (by omega)]; exact e1, o5 e2⟩
    · have e' : i = q := by omega
      subst e'
      exact ⟨u, by rw [List.getElem?_append_right (by omega), show i - xs.length = 0 by omega]; rfl, o5 o2⟩
theorem owns_form {W : World} {B n : Nat} {t : TypeId} {v : Value} {xs : List Value} (h : W.ownsRow B t 1 v n xs) : ∃ a c, v = .slice a n c := by
  rcases h.2 with ⟨rfl, h0⟩ | ⟨g', cap', cur', e, _⟩
  · exact ⟨none, 0, by rw [h0]⟩
  · exact ⟨_, _, e⟩
theorem RtS.cod {w0 W : World} {pb d m : Nat} {bv : Value} {bs : List Vs} (h : RtS w0 W pb (d : Int) (m : Int) m bv bs) (hm : bs.length = m) (hm1 : 1 ≤ m) : MCod W pb d m bs := by
  obtain ⟨xs, h1, h2⟩ := h.own
  refine ⟨(box3_cell h.box).1, (box3_cell h.box).2.1, bv, (box3_cell h.box).2.2.1, ?_⟩
  rcases h1.2 with ⟨_, h0⟩ | ⟨b, cap, cur, rfl, _⟩
  · omega
  · refine ⟨_, cap, by rw [hm], fun i hi => ?_⟩
    obtain ⟨u, e, o⟩ := h2 i (by omega)
    have c1 := World.ownsRow.cells h1 (g := b) rfl i _ e
    rw [Addr.add_lit] at c1
    exact ⟨b, 0, u, rfl, c1, o.rd⟩

set_option maxHeartbeats 4000000 in
set_option maxRecDepth 100000 in
theorem rtrainq_ok {w : World} {lv : Value} {l : Vs} (hl : RdVJ w lv l) {m s k r : Nat} (T : TrOk l m s k r) (x : Int) (hx : Rn.U x) :
    Calls Try.prog 13 #[lv, .int .i64 ((m * s : Nat) : Int), .int .i64 (m : Int), .int .i64 (k : Int), .int .i64 (r : Int), .int .u64 x] w fun e w' => ∃ p, e = .returned (.pointer (some ⟨p, 0, none⟩)) ∧ MCod w' p (m * s) m (booksV l m k r x) ∧ Gb w w' := by
  have TT : Hid (TrOk l m s k r) := T
  have L : Hid (RdVJ w lv l) := hl
  obtain ⟨al, cl, rfl, _⟩ := hl
  have hm8 : m ≤ 8 := T.m8
  have hn5 : l.length ≤ 512 := T.n512
  obtain ⟨d, hd⟩ : ∃ d, d = m * s := ⟨_, rfl⟩
  rw [← hd]
  obtain ⟨n, hN⟩ : ∃ n, n = l.length := ⟨_, rfl⟩
  have N : Hid (n = l.length) := hN
  rw [← hN] at L hn5 ⊢
  obtain ⟨W0, hW0⟩ : ∃ W0, W0 = w.alloc (.cells #[.int .i64 (d : Int), .int .i64 (m : Int), .slice none 0 0] 38) := ⟨_, rfl⟩
  obtain ⟨pb, hpb⟩ : ∃ pb, pb = w.heap.size := ⟨_, rfl⟩
  have PB : Hid (pb = w.heap.size) := hpb
  have X0 : Hid (RtS W0 W0 pb (d : Int) (m : Int) 0 (.slice none 0 0) (booksV l m k r x)) := by
    refine ⟨?_, ?_, Kp.refl _ _, [], World.ownsRow_nil _ _ _ _, fun i hi => absurd hi (Nat.not_lt_zero _)⟩
    · rw [hW0, hpb]; exact heap_new _ _
    · rw [hW0, hpb, World.size_alloc]; omega
  have GW : Hid (Gb w W0) := by unfold Hid; rw [hW0]; exact gb_alloc (Below.refl _ _) _
  have GA : Hid (∀ W bv q, RtS W0 W pb (d : Int) (m : Int) q bv (booksV l m k r x) → Gb w W) := fun W bv q h => h.kp.below GW.out (fun b e => by have h1 := PB.out; omega)
  obtain ⟨j0, hj0, hy0, hy1, hy2⟩ := info_parts' Try.infoV
  have JJ : Hid (Try.prog.info? 40 = some j0 ∧ j0.zero = some (.slice none 0 0) ∧ j0.size = 1 ∧ j0.bytes = 24) := ⟨hj0, hy0, hy1, hy2⟩
  obtain ⟨i0, hi0, hz0, hz1, hz2⟩ := info_partsB
  have II : Hid (Try.prog.info? 22 = some i0 ∧ i0.zero = some (.slice none 0 0) ∧ i0.size = 1 ∧ i0.bytes = 24) := ⟨hi0, hz0, hz1, hz2⟩
  obtain ⟨hx1, hx2⟩ := hx
  clear hd T hN hj0 hy0 hy1 hy2 hi0 hz0 hz1 hz2
  go_enter Try.func13, Try.ntmps13
  go_wp2_with fail
  rw [← hW0, ← hpb]
  clear hW0 hpb
  go_loopw [14] (fun iv W => ∃ q : Nat, iv = .int .i64 (q : Int) ∧ q ≤ m ∧ ∃ bv, Hid (RtS W0 W pb (d : Int) (m : Int) q bv (booksV l m k r x))) (fun iv _ => m - (intOf iv).toNat)
  case atStart => exact ⟨0, rfl, Nat.zero_le _, _, X0⟩
  case round =>
    clear X0
    obtain ⟨q, rfl, hq, bv, X⟩ := hrel
    by_cases hqn : q < m
    · have hqi : (q : Int) < (m : Int) := by omega
      have hq8 : q < 8 := by omega
      have CC := TT.out.cut hqn
      have KT : Hid (∀ W cv, Gb wr W → RdVP (NB pb bv) W cv (cutV l m q) → Calls Try.prog 31 #[cv, .int .i64 (k : Int), .int .i64 (r : Int), .int .u64 (seedAt x q)] W fun e w' => ∃ v', e = .returned (.tuple #[v', .int .i64 0]) ∧ RdVP (NB pb bv) w' v' (booksV l m k r x)[q]! ∧ Gb W w') := by
        intro W cv g h
        have c := rtrain_ok (P := NB pb bv) (k := k) (r := r) (fun b hb => X.out.nb.2 b (Nat.le_trans g.size hb)) h (seedAt x q) CC.2.2
        rw [booksV_get l k r x hqn]
        exact c
      have PO : Hid (∀ b, b < w.heap.size → NB pb bv b) := fun b hb => X.out.nb.1 b (by have := GW.out.size; omega) (by have := PB.out; omega)
      have SD : Hid (IntKind.u64.wrap (x + (q : Int)) = seedAt x q) := rfl
      clear CC
      obtain ⟨wq, hwq⟩ : ∃ wq, wq = wr := ⟨_, rfl⟩
      subst hwq
      go_wp2
      go_loopw [15, 16] (fun cv iv W => ∃ j : Nat, iv = .int .i64 (j : Int) ∧ j ≤ n ∧ Hid (Gb wq W ∧ OwnV (NB pb bv) wq W wq.heap.size cv ((cutV l m q).take j))) (fun _ iv _ => n - (intOf iv).toNat)
      case atStart => exact ⟨0, rfl, Nat.zero_le _, Below.refl _ _, by rw [List.take_zero]; exact ownV_nil _ _ _ _⟩
      case round =>
        obtain ⟨j, rfl, hj, Y⟩ := hrel
        have GQ : Hid (Gb w wq) := GA.out wq _ _ X.out
        by_cases hjn : j < n
        · have hji : (j : Int) < (n : Int) := by omega
          have hjl : j < l.length := by have := N.out; omega
          obtain ⟨_, _, ev, hA⟩ := L.out
          obtain ⟨b, o, ur, ea, k1, k2⟩ := hA j hjl
          injection ev with ev1 ev2 ev3
          subst ev1 ea
          have kx := gb_keeps (gb_trans GQ.out Y.out.1) k1
          have R2 : Hid (RdJ w ur l[j]!) := k2
          have cp := rpart_c (k2.gb (gb_trans GQ.out Y.out.1)) TT.out.m8 hqn (TT.out.ok j hjl)
          have CT : Hid ((cutV l m q).take (j + 1) = (cutV l m q).take j ++ [partV l[j]! m q] ∧ ((cutV l m q).take j).length = j) := ⟨cutV_take l m q hjl, by rw [List.length_take, cutV_len]; omega⟩
          obtain ⟨⟨pu, cu, eu, _⟩, _⟩ := k2
          subst eu
          generalize l[j]!.length = lj at *
          clear hA ev2 ev3 k1
          go_wp2_with fail
          go_fit cp
          rintro e w2 ⟨⟨a2, c2, rfl, r2⟩, e2⟩
          subst e2
          have P2 : Hid (RdIP (NB pb bv) wq (.slice a2 s c2) (partV l[j]! m q)) := (rdip_of (r2 w R2.out) PO.out).gb GQ.out
          obtain ⟨xs, hown, hcells⟩ := Y.out.2
          rw [CT.out.2] at hown
          have HC : Hid (∀ i, i < ((cutV l m q).take j).length → ∃ u, xs[i]? = some u ∧ RdZ (NB pb bv) wq wr u ((cutV l m q).take j)[i]!) := hcells
          have GY : Hid (Gb wq wr) := Y.out.1
          clear hcells Y cp r2 kx
          go_wp2_with (first
            | (at_builtin; refine wpList_append_own_at _ rfl _ _ 22 rfl wq.heap.size 40 j0 (.slice none 0 0) 1 24 Try.underlying22 JJ.out.1 JJ.out.2.1 JJ.out.2.2.1 JJ.out.2.2.2 rfl (by decide) u15 j xs rfl (hown.alloc _) ⟨wr.heap.size, 0, none⟩ 1 1 [.slice a2 s c2] rfl rfl (cell_one_new _ _ _) (by simp [Value.oneCell']) (by simp only [maxLen]; omega) (by omega) (by have h2 := GY.out.size; simp; omega) ?_; intro v5 w5 hown5 hgrow5 hnil5 hloc5)
            | go_in)
          have XN : Hid (Gb wq w5 ∧ OwnV (NB pb bv) wq w5 wq.heap.size v5 ((cutV l m q).take (j + 1))) := by
            have G5 : Gb wq w5 := below_grown (gb_alloc GY.out _) hgrow5 (fun j e => (hown.lt j e).1) (gb_alloc GY.out _).size
            refine ⟨G5, ?_⟩
            rw [CT.out.1]
            have kp : ∀ u x, RdZ (NB pb bv) wq wr u x → RdZ (NB pb bv) wq w5 u x := fun u x r => (r.gb (gb_alloc (Below.refl _ _) _)).kept hgrow5 (fun k cur e => row_type hown k cur e)
            refine OwnV.push (xs := xs) (fun i hi => ?_) (by have := hown.1; rw [CT.out.2]; omega) (u := .slice a2 s c2) ?_ (by rw [CT.out.2]; exact hown5)
            · obtain ⟨u, e, r⟩ := HC.out i hi
              exact ⟨u, e, kp u _ r⟩
            · exact .inl P2.out
          clear hown hown5 hgrow5 hnil5 hloc5
          go_roundw
          case rel => exact ⟨j + 1, by first | rfl | go_num | simp, hjn, XN⟩
          case measure => simp [intOf]; omega
        · have hji : ¬ (j : Int) < (n : Int) := by omega
          have YE : Hid (Gb wq wr ∧ RdVP (NB pb bv) wr u15 (cutV l m q)) := by
            have h := Y.out
            rw [List.take_of_length_le (by rw [cutV_len]; have := N.out; omega)] at h
            exact ⟨h.1, h.2.rd h.1 (fun b hb => X.out.nb.2 b hb)⟩
          have ct := KT.out wr u15 YE.out.1 YE.out.2
          clear Y
          go_wp2_with fail
          go_fit ct
          rintro e w3 ⟨v3, rfl, o3, g3⟩
          have X3 : Hid (RtS W0 w3 pb (d : Int) (m : Int) q bv (booksV l m k r x)) := X.out.gb (gb_trans YE.out.1 g3)
          have O3 : Hid (RdVP (NB pb bv) w3 v3 (booksV l m k r x)[q]!) := o3
          obtain ⟨a3, c3, e3, _⟩ := o3
          subst e3
          obtain ⟨xs, hown, hcells⟩ := X3.out.own
          have HC : Hid (∀ i, i < q → ∃ u, xs[i]? = some u ∧ RdVP (NB pb bv) w3 u (booksV l m k r x)[i]!) := hcells
          obtain ⟨ba, bn, bc, eb⟩ : ∃ a n c, bv = .slice a n c := by
            rcases hown.2 with ⟨rfl, _⟩ | ⟨g', cap', cur', rfl, _⟩
            · exact ⟨_, _, _, rfl⟩
            · exact ⟨_, _, _, rfl⟩
          subst eb
          have l3 := (box3_cell X3.out.box).2.2.1
          have hs3 := X3.out.kp.size
          generalize (booksV l m k r x)[q]!.length = n3 at *
          have FIN : Hid (∀ v4 W4, W4.ownsRow W0.heap.size 22 1 v4 (q + 1) (xs ++ [.slice a3 n3 c3]) → (w3.alloc (.cells #[.slice a3 n3 c3] 22)).grownBy W4 (Value.slice ba bn bc).ownBlock → (v4.ownBlock = (Value.slice ba bn bc).ownBlock ∨ v4.ownBlock = some (w3.alloc (.cells #[.slice a3 n3 c3] 22)).heap.size) → _) := fun v4 W4 h1 h2 h3 => X3.out.next O3.out hown HC.out h1 h2 h3
          clear ct g3 hcells KT YE X
          go_wp2_with (first
            | (at_builtin; refine wpList_append_own_at _ rfl _ _ 35 rfl W0.heap.size 22 i0 (.slice none 0 0) 1 24 Try.underlying35 II.out.1 II.out.2.1 II.out.2.2.1 II.out.2.2.2 rfl (by decide) (.slice ba bn bc) q xs rfl (hown.alloc _) ⟨w3.heap.size, 0, none⟩ 1 1 [.slice a3 n3 c3] rfl rfl (cell_one_new _ _ _) (by simp [Value.oneCell']) (by simp only [maxLen]; omega) (by omega) (by simp; omega) ?_; intro v5 w5 hown5 hgrow5 hnil5 hloc5; obtain ⟨box5, XN⟩ := FIN.out v5 w5 hown5 hgrow5 hloc5; obtain ⟨_, _, l5, f5⟩ := box3_cell box5; obtain ⟨a5, k5, e5⟩ := owns_form hown5; subst e5)
            | go_in)
          have XX : Hid _ := XN
          clear hown hown5 hgrow5 hnil5 hloc5 XN FIN l5 f5 l3 box5
          go_roundw
          case rel => exact ⟨q + 1, by first | rfl | go_num | simp, hqn, _, XX⟩
          case measure => simp [intOf]; omega
    · have hqi : ¬ (q : Int) < (m : Int) := by omega
      have E : Hid (MCod wr pb d m (booksV l m k r x) ∧ Gb w wr) := by
        have h := X.out
        rw [show q = m by omega] at h
        exact ⟨h.cod (booksV_len _ _ _ _ _) TT.out.m1, GA.out wr _ _ h⟩
      clear X
      go_wp2
      go_ret
      exact ⟨pb, rfl, E.out.1, E.out.2⟩
end Go.Proofs.Ytblfmhdcgmkpgaa
