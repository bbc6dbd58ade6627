/- pq.Train. -/
import Derived.Test.YtblfmhdcgmkpgaaPBook
namespace Go.Proofs.Ytblfmhdcgmkpgaa
open Go.RowKit Go.Maps Go.Sort

/-- An append in a region that draws, by its run. -/
theorem app_run {o : Oper} {a : Act} {w : World} {K : Act → World → Prop} {Q : Exit → Act → World → Prop} (_hgd : o.guard = none) (s x : Operand) (t : TypeId)
    (ho : o.op = .call { callee := .builtin .append, args := #[s, x], argTypes := #[t, t] }) (h : ∃ v1 v2 v' w', a.eval s = v1 ∧ a.eval x = v2 ∧ (Builtin.append_ #[t, t] o.type #[v1, v2]).run Try.prog w = .ok v' w' ∧ K (a.put o.dst v') w') :
    Oper.wp Try.prog o a w K Q := by
  obtain ⟨v1, v2, v', w', hs, hx, hr, h⟩ := h
  unfold Oper.wp execOp
  simp only [ho, resolve, invoke, builtin, Sem.run_bind, Sem.run_pure, Result.andThen_ok, List.map_toArray, List.map_cons, List.map_nil, hs, hx, hr]
  exact h
/-- The slice v reads as these books. -/
def RdB (w : World) (v : Value) (bs : List Vs) : Prop := ∃ a cap, v = .slice a bs.length cap ∧ ∀ i, i < bs.length → ∃ b o u, a = some ⟨b, o, none⟩ ∧ w.cell? ⟨b, o + i, none⟩ = some u ∧ RdV w u bs[i]!
theorem RdB.gb {w w' : World} {v : Value} {bs : List Vs} (h : RdB w v bs) (g : Gb w w') : RdB w' v bs := by
  obtain ⟨a, cap, e, h⟩ := h
  refine ⟨a, cap, e, fun i hi => ?_⟩
  obtain ⟨b, o, u, e1, e2, e3⟩ := h i hi
  exact ⟨b, o, u, e1, gb_keeps g e2, e3.gb g⟩
/-- A coder in memory. -/
def CodAt (w : World) (p : Nat) (d : Nat) (bs : List Vs) : Prop := w.cell? ⟨p, 0, none⟩ = some (.int .i64 (d : Int)) ∧ ∃ bv, w.cell? ⟨p, 1, none⟩ = some bv ∧ RdB w bv bs
theorem CodAt.gb {w w' : World} {p d : Nat} {bs : List Vs} (h : CodAt w p d bs) (g : Gb w w') : CodAt w' p d bs := by
  obtain ⟨h1, bv, h2, h3⟩ := h
  exact ⟨gb_keeps g h1, bv, gb_keeps g h2, h3.gb g⟩

theorem OutC.kp {w0 W W' : World} {u : Value} {k d : Nat} {cs : Vs} {S : Nat → Prop} (h : OutC w0 W u k d cs) (g : Kp S W W') (hS : ∀ b cur t, S b → W.heap[b]? = some (.cells cur t (0, 0)) → t ≠ 3 ∧ t ≠ 40) : OutC w0 W' u k d cs := by
  obtain ⟨cb, gs, cp, e, h⟩ := h
  refine ⟨cb, gs, cp, e, h.kp g (fun hs => ?_) (fun i hi hs => ?_)⟩
  · obtain ⟨cur, hc, _⟩ := h.row
    exact (hS cb _ _ hs hc).2 rfl
  · obtain ⟨cur, hc, _⟩ := h.arr i hi
    exact (hS _ _ _ hs hc).1 rfl
theorem OutC.gb {w0 W W' : World} {u : Value} {k d : Nat} {cs : Vs} (h : OutC w0 W u k d cs) (g : Gb W W') : OutC w0 W' u k d cs := h.kp (S := fun _ => False) (Kp.gb g) (fun _ _ _ h => h.elim)
theorem OutC.mono {w0 w1 W : World} {u : Value} {k d : Nat} {cs : Vs} (h : OutC w1 W u k d cs) (hl : w0.heap.size ≤ w1.heap.size) : OutC w0 W u k d cs := by
  obtain ⟨cb, gs, cp, e, h⟩ := h
  exact ⟨cb, gs, cp, e, h.row, h.arr, fun i hi => Nat.le_trans hl (h.base i hi), Nat.le_trans hl h.hB, h.ne, h.inj⟩
theorem outC_rdv {w w' : World} {v : Value} {k d : Nat} {cs : Vs} (h : OutC w w' v k d cs) (hk : cs.length = k) (hd : VsOk cs (d : Int)) : RdV w' v cs := by
  obtain ⟨cb, gs, cp, rfl, h⟩ := h
  exact h.rd hk (fun i hi => by have := hd.get (i := i) (by omega); omega)
/-- A coder with q books in the making. -/
structure TrS (w0 W : World) (pb : Nat) (d : Int) (q : Nat) (bv : Value) (bs : List Vs) (k s : Nat) : Prop where
  box : W.heap[pb]? = some (.cells #[.int .i64 d, bv] 64 (0, 0))
  lt : pb < w0.heap.size
  kp : Kp (fun b => b = pb) w0 W
  own : ∃ xs, W.ownsRow w0.heap.size 22 1 bv q xs ∧ ∀ i, i < q → ∃ u, xs[i]? = some u ∧ OutC w0 W u k s bs[i]!
theorem TrS.gb {w0 W W' : World} {pb : Nat} {d : Int} {q : Nat} {bv : Value} {bs : List Vs} {k s : Nat} (h : TrS w0 W pb d q bv bs k s) (g : Gb W W') : TrS w0 W' pb d q bv bs k s := by
  obtain ⟨xs, h1, h2⟩ := h.own
  refine ⟨by rw [g.block pb (Array.getElem?_eq_some_iff.1 h.box).1]; exact h.box, h.lt, h.kp.trans (Kp.gb g), xs, h1.kept (row := none) ⟨g.os, g.tape, g.output, g.size, fun k hk _ => g.block k hk⟩ (by cases hv : bv.ownBlock <;> simp), fun i hi => ?_⟩
  obtain ⟨u, e, o⟩ := h2 i hi
  exact ⟨u, e, o.gb g⟩
theorem box2_cell {W : World} {pb : Nat} {x y : Value} {t : TypeId} (h : W.heap[pb]? = some (.cells #[x, y] t (0, 0))) : W.cell? ⟨pb, 0, none⟩ = some x ∧ W.cell? ⟨pb, 1, none⟩ = some y ∧ W.frozen? ⟨pb, 1, none⟩ = false := by
  refine ⟨?_, ?_, ?_⟩
  · simp [World.cell?, h]
  · simp [World.cell?, h]
  · simp [World.frozen?, h]
theorem heap_new (w : World) (o : Obj) : (w.alloc o).heap[w.heap.size]? = some o := by
  show (w.heap.push o)[w.heap.size]? = some o
  exact Array.getElem?_push_size
theorem info_partsB : ∃ i, Try.prog.info? 22 = some i ∧ i.zero = some (.slice none 0 0) ∧ i.size = 1 ∧ i.bytes = 24 := by
  have h : (Try.prog.info? 22).map (fun i => (i.zero, i.size, i.bytes)) = some (some (.slice none 0 0), 1, 24) := by kernel_rfl
  exact info_parts' h
theorem TrS.next {w0 W w2 : World} {pb : Nat} {d : Int} {q : Nat} {bv : Value} {bs : List Vs} {k s : Nat} (h : TrS w0 W pb d q bv bs k s) (hq : q ≤ 8) {u : Value} (o2 : OutC W w2 u k s bs[q]!) (g2 : Gb W w2) :
    ∃ v4 W4 a4 n4 c4, (Builtin.append_ #[35, 35] 35 #[bv, .slice (some ⟨w2.heap.size, 0, none⟩) 1 1]).run Try.prog (w2.alloc (.cells #[u] 22)) = .ok v4 W4 ∧ v4 = .slice a4 n4 c4 ∧ w2.cell? ⟨pb, 1, none⟩ = some bv ∧ (w2.alloc (.cells #[u] 22)).cell? ⟨pb, 1, none⟩ = some bv ∧ W4.cell? ⟨pb, 1, none⟩ = some bv ∧ W4.frozen? ⟨pb, 1, none⟩ = false ∧ Hid (TrS w0 (W4.setCell ⟨pb, 1, none⟩ v4) pb d (q + 1) v4 bs k s) := by
  have h2 := h.gb g2
  obtain ⟨xs, h3, h4⟩ := h2.own
  obtain ⟨i0, hi, hz0, hz1, hz2⟩ := info_partsB
  have hu : u.oneCell' = true := by obtain ⟨cb, gs, cp, rfl, _⟩ := o2; rfl
  have s0 := h2.kp.size
  obtain ⟨v4, W4, hr, hown, hg, _, _⟩ := run_append_own_at (P := Try.prog) (w2.alloc (.cells #[u] 22)) w0.heap.size 35 35 22 i0 (.slice none 0 0) 1 24 Try.underlying35 hi hz0 hz1 hz2 rfl (by decide)
    bv q xs (World.ownsRow.alloc h3 _) ⟨w2.heap.size, 0, none⟩ 1 1 [u] rfl (cell_one_new _ _ _) (by simpa using hu) (by simp only [maxLen]; omega) (by omega) (by rw [World.size_alloc]; omega)
  have hA : Gb w2 (w2.alloc (.cells #[u] 22)) := gb_alloc (Below.refl _ _) _
  have h5 := h2.gb hA
  have tB : ∀ b, bv.ownBlock = some b → ∃ cur, (w2.alloc (.cells #[u] 22)).heap[b]? = some (.cells cur 22 (0, 0)) := fun b e => by
    obtain ⟨_, r, _⟩ := h5.own
    rcases r.2 with ⟨rfl, _⟩ | ⟨g', cap', cur', rfl, _, hh', _⟩
    · cases e
    · cases e; exact ⟨_, hh'⟩
  have kpA : Kp (fun b => bv.ownBlock = some b) (w2.alloc (.cells #[u] 22)) W4 := ⟨hg.os, hg.tape, hg.output, hg.size, fun b hb hn => hg.block b hb (fun e => hn e.symm)⟩
  have npb : ¬ bv.ownBlock = some pb := fun e => by
    obtain ⟨cur, hc⟩ := tB pb e
    rw [h5.box] at hc
    simp at hc
  have box4 : W4.heap[pb]? = some (.cells #[.int .i64 d, bv] 64 (0, 0)) := by
    rw [kpA.block pb (Array.getElem?_eq_some_iff.1 h5.box).1 npb]; exact h5.box
  have o4 : ∀ {u' : Value} {cs : Vs}, OutC w0 w2 u' k s cs → OutC w0 W4 u' k s cs := fun o => (o.gb hA).kp kpA (fun b cur t hb hc => by
    obtain ⟨cur', hc'⟩ := tB b hb
    rw [hc] at hc'
    have : t = 22 := by simp at hc'; exact hc'.2
    rw [this]; decide)
  have k5 : Kp (fun b => b = pb) W4 (W4.setCell ⟨pb, 1, none⟩ v4) := (Kp.refl (fun b => b = pb) W4).set (p := ⟨pb, 1, none⟩) (.inl rfl) v4
  have o5 : ∀ {u' : Value} {cs : Vs}, OutC w0 w2 u' k s cs → OutC w0 (W4.setCell ⟨pb, 1, none⟩ v4) u' k s cs := fun o => (o4 o).kp k5 (fun b cur t hb hc => by
    rw [hb, box4] at hc
    have : t = 64 := by simp at hc; exact hc.2.symm
    rw [this]; decide)
  obtain ⟨a4, c4, ev⟩ : ∃ a c, v4 = .slice a (q + 1) c := by
    rcases hown.2 with ⟨_, h0⟩ | ⟨g', cap', cur', e, _⟩
    · omega
    · exact ⟨_, _, e⟩
  refine ⟨v4, W4, a4, q + 1, c4, hr, ev, (box2_cell h2.box).2.1, (box2_cell h5.box).2.1, (box2_cell box4).2.1, (box2_cell box4).2.2, ⟨?_, h.lt, ?_, xs ++ [u], ?_, fun i hi' => ?_⟩⟩
  · simp [World.setCell, Array.getElem?_modify, box4]
  · have k4 : Kp (fun b => b = pb) w0 W4 := ⟨kpA.os.trans h5.kp.os, kpA.tape.trans h5.kp.tape, kpA.output.trans h5.kp.output, Nat.le_trans h5.kp.size kpA.size, fun b hb hn => (kpA.block b (Nat.lt_of_lt_of_le hb h5.kp.size) (fun e => by have := (h3.lt b e).1; omega)).trans (h5.kp.block b hb hn)⟩
    exact k4.trans k5
  · refine hown.kept (row := some pb) ⟨k5.os, k5.tape, k5.output, k5.size, fun b hb hn => k5.block b hb (fun e => hn (by rw [e]))⟩ (.inr fun e => ?_)
    rcases hown.2 with ⟨rfl, h0⟩ | ⟨g', cap', cur', rfl, _, hh', _⟩
    · cases e
    · cases e
      rw [box4] at hh'
      simp at hh'
  · by_cases e : i < q
    · obtain ⟨u', e1, e2⟩ := h4 i e
      have hl := h3.1
      exact ⟨u', by rw [List.getElem?_append_left (by omega)]; exact e1, o5 e2⟩
    · have e' : i = q := by omega
      subst e'
      have hl := h3.1
      refine ⟨u, by rw [List.getElem?_append_right (by omega), show i - xs.length = 0 by omega]; rfl, o5 (o2.mono h.kp.size)⟩
theorem TrS.cod {w0 W : World} {pb d m : Nat} {bv : Value} {bs : List Vs} {k s : Nat} (h : TrS w0 W pb (d : Int) m bv bs k s) (hb : Bks bs m s k) : CodAt W pb d bs := by
  obtain ⟨xs, h1, h2⟩ := h.own
  refine ⟨(box2_cell h.box).1, bv, (box2_cell h.box).2.1, ?_⟩
  have hm := hb.len
  have hm1 := hb.m1
  rcases h1.2 with ⟨_, h0⟩ | ⟨b, cap, cur, rfl, _⟩
  · omega
  · refine ⟨_, cap, by rw [hm], fun i hi => ?_⟩
    obtain ⟨u, e, o⟩ := h2 i (by omega)
    have c1 := World.ownsRow.cells h1 (g := b) rfl i _ e
    rw [Addr.add_lit] at c1
    have hbk := hb.bk i (by omega)
    exact ⟨b, 0, u, rfl, c1, outC_rdv o hbk.1 hbk.2⟩

set_option maxHeartbeats 1000000 in
theorem ptrain_no {w : World} {lv : Value} {l : Vs} (hl : RdV w lv l) (d m k r x : Int) (hz : pqE l d m k r ≠ 0) :
    Calls Try.prog 28 #[lv, .int .i64 d, .int .i64 m, .int .i64 k, .int .i64 r, .int .u64 x] w fun e w' => e = .returned (.tuple #[.pointer none, .int .i64 (pqE l d m k r)]) ∧ w = w' := by
  have ck := pcheck_c hl d m k r
  have hz' : (pqE l d m k r == 0) = false := by rw [beq_eq_false_iff_ne]; exact hz
  obtain ⟨al, cl, rfl, _⟩ := hl
  generalize pqE l d m k r = z at *
  generalize l.length = nl at *
  go_enter Try.func28, Try.ntmps28
  go_wp2_with (go_at_call 46; refine ck.mono ?_; rintro e w' ⟨rfl, e2⟩; subst e2)
  go_ret2
  exact ⟨rfl, rfl⟩

set_option maxHeartbeats 2000000 in
set_option maxRecDepth 100000 in
theorem ptrain_ok {w : World} {lv : Value} {l : Vs} (hl : RdVJ w lv l) {m s k r : Nat} (T : TrOk l m s k r) (x : Int) (hx : Rn.U x) :
    Calls Try.prog 28 #[lv, .int .i64 ((m * s : Nat) : Int), .int .i64 (m : Int), .int .i64 (k : Int), .int .i64 (r : Int), .int .u64 x] w fun e w' => ∃ p, e = .returned (.tuple #[.pointer (some ⟨p, 0, none⟩), .int .i64 0]) ∧ CodAt w' p (m * s) (booksV l m k r x) ∧ Gb w w' := by
  have ck := pcheck_c hl.rd ((m * s : Nat) : Int) (m : Int) (k : Int) (r : Int)
  rw [T.pqE] at ck
  have TT : Hid (TrOk l m s k r ∧ Rn.U x) := ⟨T, hx⟩
  have L : Hid (RdVJ w lv l) := hl
  obtain ⟨al, cl, rfl, _⟩ := hl
  have hm8 : m ≤ 8 := T.m8
  obtain ⟨d, hd⟩ : ∃ d, d = m * s := ⟨_, rfl⟩
  have D : Hid (d = m * s) := hd
  rw [← hd] at ck ⊢
  generalize l.length = n at ck L ⊢
  have cm := bookMaker_c al n cl (m : Int) (k : Int) (r : Int) x w
  obtain ⟨WB, hWB⟩ : ∃ WB, WB = ((((w.alloc (.cells #[.slice al n cl] 22)).alloc (.cells #[.int .i64 (m : Int)] 3)).alloc (.cells #[.int .i64 (k : Int)] 3)).alloc (.cells #[.int .i64 (r : Int)] 3)).alloc (.cells #[.int .u64 x] 23) := ⟨_, rfl⟩
  have BX : Hid (Gb w WB ∧ Boxed WB w.heap.size 22 (.slice al n cl) ∧ Boxed WB (w.heap.size + 1) 3 (.int .i64 (m : Int)) ∧ Boxed WB (w.heap.size + 1 + 1) 3 (.int .i64 (k : Int)) ∧ Boxed WB (w.heap.size + 1 + 1 + 1) 3 (.int .i64 (r : Int)) ∧ Boxed WB (w.heap.size + 1 + 1 + 1 + 1) 23 (.int .u64 x)) := by
    unfold Hid
    rw [hWB]
    have b1 := Boxed.new (w.alloc (.cells #[.slice al n cl] 22)) 3 (.int .i64 (m : Int))
    have b2 := Boxed.new ((w.alloc (.cells #[.slice al n cl] 22)).alloc (.cells #[.int .i64 (m : Int)] 3)) 3 (.int .i64 (k : Int))
    have b3 := Boxed.new (((w.alloc (.cells #[.slice al n cl] 22)).alloc (.cells #[.int .i64 (m : Int)] 3)).alloc (.cells #[.int .i64 (k : Int)] 3)) 3 (.int .i64 (r : Int))
    have b4 := Boxed.new ((((w.alloc (.cells #[.slice al n cl] 22)).alloc (.cells #[.int .i64 (m : Int)] 3)).alloc (.cells #[.int .i64 (k : Int)] 3)).alloc (.cells #[.int .i64 (r : Int)] 3)) 23 (.int .u64 x)
    simp only [World.size_alloc] at b1 b2 b3 b4
    exact ⟨gb_alloc (gb_alloc (gb_alloc (gb_alloc (gb_alloc (Below.refl _ _) _) _) _) _) _, ((((Boxed.new w 22 (.slice al n cl)).alloc _).alloc _).alloc _).alloc _, ((b1.alloc _).alloc _).alloc _, (b2.alloc _).alloc _, b3.alloc _, b4⟩
  rw [← hWB] at cm
  obtain ⟨W0, hW0⟩ : ∃ W0, W0 = WB.alloc (.cells #[.int .i64 (d : Int), .slice none 0 0] 64) := ⟨_, rfl⟩
  have X0 : Hid (TrS W0 W0 WB.heap.size (d : Int) 0 (.slice none 0 0) (booksV l m k r x) k s) := by
    refine ⟨?_, ?_, Kp.refl _ _, [], World.ownsRow_nil _ _ _ _, fun i hi => absurd hi (Nat.not_lt_zero _)⟩
    · rw [hW0]; exact heap_new _ _
    · rw [hW0, World.size_alloc]; omega
  have GW : Hid (Gb WB W0) := by unfold Hid; rw [hW0]; exact gb_alloc (Below.refl _ _) _
  clear hd T hx
  go_enter Try.func28, Try.ntmps28
  go_wp2_with fail
  go_fit ck
  rintro e w' ⟨rfl, e2⟩
  subst e2
  clear ck
  go_wp2_with fail
  go_fit cm
  rintro e w' ⟨rfl, e2⟩
  rw [e2]
  clear cm hWB e2 w'
  go_wp2_with fail
  rw [← hW0]
  clear hW0
  obtain ⟨pb, hpb⟩ : ∃ pb, pb = WB.heap.size := ⟨_, rfl⟩
  have PB : Hid (pb = WB.heap.size) := hpb
  rw [← hpb] at X0 ⊢
  clear hpb
  have GA : Hid (∀ W bv q, TrS W0 W pb (d : Int) q bv (booksV l m k r x) k s → Gb w W) := fun W bv q h => h.kp.below (gb_trans BX.out.1 GW.out) (fun b e => by have h1 := PB.out; have h2 := BX.out.1.size; omega)
  go_loopw [37] (fun iv W => ∃ q : Nat, iv = .int .i64 (q : Int) ∧ q ≤ m ∧ ∃ bv, Hid (TrS W0 W pb (d : Int) q bv (booksV l m k r x) k s)) (fun iv _ => m - (intOf iv).toNat)
  case atStart => exact ⟨0, rfl, Nat.zero_le _, _, X0⟩
  case round =>
    clear X0
    obtain ⟨q, rfl, hq, bv, X⟩ := hrel
    by_cases hqn : q < m
    · have hqi : (q : Int) < (m : Int) := by omega
      obtain ⟨ba, bn, bc, eb⟩ : ∃ a n c, bv = .slice a n c := by
        obtain ⟨xs, h1, _⟩ := X.out.own
        rcases h1.2 with ⟨rfl, _⟩ | ⟨g', cap', cur', rfl, _⟩
        · exact ⟨_, _, _, rfl⟩
        · exact ⟨_, _, _, rfl⟩
      subst eb
      have bx : ∀ {b : Nat} {t : TypeId} {v : Value}, Boxed WB b t v → Boxed wr.drew b t v := fun {b t v} hb => by
        have hlt : b < WB.heap.size := Boxed.lt hb
        have h1 := GW.out.block b hlt
        have h2 := X.out.kp.block b (Nat.lt_of_lt_of_le hlt GW.out.size) (by have := PB.out; omega)
        exact (h2.trans h1).trans hb
      have XD : Hid (TrS W0 wr.drew pb (d : Int) q (.slice ba bn bc) (booksV l m k r x) k s) := X.out.gb (Below.refl _ _).drew
      have ct := book_c (w := wr.drew) (L.out.gb (GA.out wr _ _ X.out).drew) TT.out.1 hqn x TT.out.2 (bx BX.out.2.1) (bx BX.out.2.2.1) (bx BX.out.2.2.2.1) (bx BX.out.2.2.2.2.1) (bx BX.out.2.2.2.2.2)
      rw [← booksV_get l k r x hqn] at ct
      have FIN : Hid (∀ w2 u, OutC wr.drew w2 u k s (booksV l m k r x)[q]! → Gb wr.drew w2 → _) := fun w2 u o2 g2 => XD.out.next (by omega) o2 g2
      have l0 : wr.cell? ⟨pb, 1, none⟩ = some (.slice ba bn bc) := (box2_cell X.out.box).2.1
      clear X XD bx
      go_wp2_with fail
      refine wp_region_held_drew (S := fun _ => True) (by kernel_rfl) (trivial) (fun hHeld => ?_)
      refine wpAnyH_take (i := 0) (v := ?_) rfl (by kernel_rfl) (by kernel_rfl) (by kernel_rfl) (fun _ _ _ h => h) (Or.inl ⟨by rfl, ?_⟩) (by assumption) ?_
      rotate_left 1
      · (intro w hSw; (skip); go_simp; try with_reducible rfl)
      try simp only [Act.put, List.getElem_toArray, List.getElem_cons_zero, List.setIfInBounds_toArray, List.set_cons_zero, List.set_cons_succ]
      refine wpAnyH_take (i := 1) (v := ?_) rfl (by kernel_rfl) (by kernel_rfl) (by kernel_rfl) (fun _ _ _ h => h) (Or.inl ⟨by rfl, ?_⟩) (by assumption) ?_
      rotate_left 1
      · (intro w hSw; (skip); go_simp; try with_reducible rfl)
      try simp only [Act.put, List.getElem_toArray, List.getElem_cons_zero, List.getElem_cons_succ, List.setIfInBounds_toArray, List.set_cons_zero, List.set_cons_succ]
      refine wpAnyH_take (i := 2) (v := ?_) rfl (by kernel_rfl) (by kernel_rfl) (by kernel_rfl) (fun _ _ _ h => h) (Or.inl ⟨by rfl, ?_⟩) (by assumption) ?_
      rotate_left 1
      · (intro w hSw; (skip); go_simp; try with_reducible rfl)
      try simp only [Act.put, List.getElem_toArray, List.getElem_cons_zero, List.getElem_cons_succ, List.setIfInBounds_toArray, List.set_cons_zero, List.set_cons_succ]
      refine wpAnyH_take (i := 3) (v := ?_) rfl (by kernel_rfl) (by kernel_rfl) (by kernel_rfl) (fun _ _ _ h => h) (Or.inl ⟨by rfl, ?_⟩) (by assumption) ?_
      rotate_left 1
      · (intro w hSw; (skip); go_simp; try with_reducible rfl)
      try simp only [Act.put, List.getElem_toArray, List.getElem_cons_zero, List.getElem_cons_succ, List.setIfInBounds_toArray, List.set_cons_zero, List.set_cons_succ]
      refine wpAnyH_take (i := 5) (v := ?_) rfl (by kernel_rfl) (by kernel_rfl) (by kernel_rfl) (fun _ _ _ h => h) (Or.inl ⟨by rfl, ?_⟩) (by assumption) ?_
      rotate_left 1
      · (intro w hSw; (skip); go_simp; try with_reducible rfl)
      try simp only [Act.put, List.getElem_toArray, List.getElem_cons_zero, List.getElem_cons_succ, List.setIfInBounds_toArray, List.set_cons_zero, List.set_cons_succ]
      refine wpAnyH_take (i := 6) (v := ?_) rfl (by kernel_rfl) (by kernel_rfl) (by kernel_rfl) (fun _ _ _ h => h) (Or.inl ⟨by rfl, ?_⟩) (by assumption) ?_
      rotate_left 1
      · (intro w hSw; (skip); go_simp; try with_reducible rfl)
      try simp only [Act.put, List.getElem_toArray, List.getElem_cons_zero, List.getElem_cons_succ, List.setIfInBounds_toArray, List.set_cons_zero, List.set_cons_succ]
      refine wpAnyH_ready (rs := [4, 7]) (by kernel_rfl) (by simp) ?_
      refine AllReadyH.cons rfl (fun K hK => ?_) (AllReadyH.cons rfl (fun K hK => ?_) AllReadyH.nil)
      · go_simp
        refine hK.out _ _ trivial (fun hHeld => ?_)
        clear hK K
        try simp only [Act.put, List.getElem_toArray, List.getElem_cons_zero, List.getElem_cons_succ, List.setIfInBounds_toArray, List.set_cons_zero, List.set_cons_succ]
        refine wpAnyH_ready (rs := [7]) (by kernel_rfl) (by simp) ?_
        refine AllReadyH.cons rfl (fun K hK => ?_) AllReadyH.nil
        go_simp
        go_fit ct
        rintro e w2 ⟨u2, rfl, o2, g2⟩
        obtain ⟨cb2, gs2, cp2, eu2, _⟩ := id o2
        subst eu2
        obtain ⟨v4, W4, a4, n4, c4, hrun, ev4, l2, l3, l4, f4, XN⟩ := FIN.out w2 _ o2 g2
        subst ev4
        clear ct FIN o2 g2
        refine hK.out _ _ (trivial) (fun hHeld => ?_)
        clear hK K
        try simp only [Act.put, List.getElem_toArray, List.getElem_cons_zero, List.getElem_cons_succ, List.setIfInBounds_toArray, List.set_cons_zero, List.set_cons_succ]
        refine wpAnyH_ready (rs := [8]) (by kernel_rfl) (by simp) ?_
        refine AllReadyH.cons rfl (fun K hK => ?_) AllReadyH.nil
        go_simp
        refine hK.out _ _ (trivial) (fun hHeld => ?_)
        clear hK K
        try simp only [Act.put, List.getElem_toArray, List.getElem_cons_zero, List.getElem_cons_succ, List.setIfInBounds_toArray, List.set_cons_zero, List.set_cons_succ]
        refine wpAnyH_ready (rs := [9]) (by kernel_rfl) (by simp) ?_
        refine AllReadyH.cons rfl (fun K hK => ?_) AllReadyH.nil
        refine app_run (by rfl) _ _ _ (by rfl) ⟨.slice ba bn bc, .slice (some ⟨w2.heap.size, 0, none⟩) 1 1, _, _, (by go_simp), (by go_simp), hrun, ?_⟩
        refine hK.out _ _ trivial (fun hHeld => ?_)
        clear hK K
        try simp only [Act.put, List.getElem_toArray, List.getElem_cons_zero, List.getElem_cons_succ, List.setIfInBounds_toArray, List.set_cons_zero, List.set_cons_succ]
        refine wpAnyH_take (i := 10) (v := ?_) rfl (by kernel_rfl) (by kernel_rfl) (by kernel_rfl) (fun _ _ _ h => h) (Or.inl ⟨by rfl, ?_⟩) (by assumption) ?_
        rotate_left 1
        · (intro w hSw; (skip); go_simp; try with_reducible rfl)
        try simp only [Act.put, List.getElem_toArray, List.getElem_cons_zero, List.getElem_cons_succ, List.setIfInBounds_toArray, List.set_cons_zero, List.set_cons_succ]
        refine wpAnyH_take (i := 11) (v := ?_) rfl (by kernel_rfl) (by kernel_rfl) (by kernel_rfl) (fun _ _ _ h => h) (Or.inl ⟨by rfl, ?_⟩) (by assumption) ?_
        rotate_left 1
        · (intro w hSw; (skip); go_simp; try with_reducible rfl)
        try simp only [Act.put, List.getElem_toArray, List.getElem_cons_zero, List.getElem_cons_succ, List.setIfInBounds_toArray, List.set_cons_zero, List.set_cons_succ]
        refine wpAnyH_ready (rs := [12]) (by kernel_rfl) (by simp) ?_
        refine AllReadyH.cons rfl (fun K hK => ?_) AllReadyH.nil
        go_simp
        refine hK.out _ _ (trivial) (fun hHeld => ?_)
        clear hK K
        try simp only [Act.put, List.getElem_toArray, List.getElem_cons_zero, List.getElem_cons_succ, List.setIfInBounds_toArray, List.set_cons_zero, List.set_cons_succ]
        refine wpAnyH_done (by kernel_rfl) ?_ _
        clear hrun hHeld l2 l3 l4 f4
        go_wp2
        go_roundw
        case rel => exact ⟨q + 1, by first | rfl | go_num, hqn, ⟨_, XN⟩⟩
        case measure => simp [intOf]; omega
      · go_simp
        go_fit ct
        rintro e w2 ⟨u2, rfl, o2, g2⟩
        obtain ⟨cb2, gs2, cp2, eu2, _⟩ := id o2
        subst eu2
        obtain ⟨v4, W4, a4, n4, c4, hrun, ev4, l2, l3, l4, f4, XN⟩ := FIN.out w2 _ o2 g2
        subst ev4
        clear ct FIN o2 g2
        refine hK.out _ _ trivial (fun hHeld => ?_)
        clear hK K
        try simp only [Act.put, List.getElem_toArray, List.getElem_cons_zero, List.getElem_cons_succ, List.setIfInBounds_toArray, List.set_cons_zero, List.set_cons_succ]
        refine wpAnyH_ready (rs := [4, 8]) (by kernel_rfl) (by simp) ?_
        refine AllReadyH.cons rfl (fun K hK => ?_) (AllReadyH.cons rfl (fun K hK => ?_) AllReadyH.nil)
        · go_simp
          refine hK.out _ _ trivial (fun hHeld => ?_)
          clear hK K
          try simp only [Act.put, List.getElem_toArray, List.getElem_cons_zero, List.getElem_cons_succ, List.setIfInBounds_toArray, List.set_cons_zero, List.set_cons_succ]
          refine wpAnyH_ready (rs := [8]) (by kernel_rfl) (by simp) ?_
          refine AllReadyH.cons rfl (fun K hK => ?_) AllReadyH.nil
          go_simp
          refine hK.out _ _ (trivial) (fun hHeld => ?_)
          clear hK K
          try simp only [Act.put, List.getElem_toArray, List.getElem_cons_zero, List.getElem_cons_succ, List.setIfInBounds_toArray, List.set_cons_zero, List.set_cons_succ]
          refine wpAnyH_ready (rs := [9]) (by kernel_rfl) (by simp) ?_
          refine AllReadyH.cons rfl (fun K hK => ?_) AllReadyH.nil
          refine app_run (by rfl) _ _ _ (by rfl) ⟨.slice ba bn bc, .slice (some ⟨w2.heap.size, 0, none⟩) 1 1, _, _, (by go_simp), (by go_simp), hrun, ?_⟩
          refine hK.out _ _ trivial (fun hHeld => ?_)
          clear hK K
          try simp only [Act.put, List.getElem_toArray, List.getElem_cons_zero, List.getElem_cons_succ, List.setIfInBounds_toArray, List.set_cons_zero, List.set_cons_succ]
          refine wpAnyH_take (i := 10) (v := ?_) rfl (by kernel_rfl) (by kernel_rfl) (by kernel_rfl) (fun _ _ _ h => h) (Or.inl ⟨by rfl, ?_⟩) (by assumption) ?_
          rotate_left 1
          · (intro w hSw; (skip); go_simp; try with_reducible rfl)
          try simp only [Act.put, List.getElem_toArray, List.getElem_cons_zero, List.getElem_cons_succ, List.setIfInBounds_toArray, List.set_cons_zero, List.set_cons_succ]
          refine wpAnyH_take (i := 11) (v := ?_) rfl (by kernel_rfl) (by kernel_rfl) (by kernel_rfl) (fun _ _ _ h => h) (Or.inl ⟨by rfl, ?_⟩) (by assumption) ?_
          rotate_left 1
          · (intro w hSw; (skip); go_simp; try with_reducible rfl)
          try simp only [Act.put, List.getElem_toArray, List.getElem_cons_zero, List.getElem_cons_succ, List.setIfInBounds_toArray, List.set_cons_zero, List.set_cons_succ]
          refine wpAnyH_ready (rs := [12]) (by kernel_rfl) (by simp) ?_
          refine AllReadyH.cons rfl (fun K hK => ?_) AllReadyH.nil
          go_simp
          refine hK.out _ _ (trivial) (fun hHeld => ?_)
          clear hK K
          try simp only [Act.put, List.getElem_toArray, List.getElem_cons_zero, List.getElem_cons_succ, List.setIfInBounds_toArray, List.set_cons_zero, List.set_cons_succ]
          refine wpAnyH_done (by kernel_rfl) ?_ _
          clear hrun hHeld l2 l3 l4 f4
          go_wp2
          go_roundw
          case rel => exact ⟨q + 1, by first | rfl | go_num, hqn, ⟨_, XN⟩⟩
          case measure => simp [intOf]; omega
        · go_simp
          refine hK.out _ _ trivial (fun hHeld => ?_)
          clear hK K
          try simp only [Act.put, List.getElem_toArray, List.getElem_cons_zero, List.getElem_cons_succ, List.setIfInBounds_toArray, List.set_cons_zero, List.set_cons_succ]
          refine wpAnyH_ready (rs := [4]) (by kernel_rfl) (by simp) ?_
          refine AllReadyH.cons rfl (fun K hK => ?_) AllReadyH.nil
          go_simp
          refine hK.out _ _ (trivial) (fun hHeld => ?_)
          clear hK K
          try simp only [Act.put, List.getElem_toArray, List.getElem_cons_zero, List.getElem_cons_succ, List.setIfInBounds_toArray, List.set_cons_zero, List.set_cons_succ]
          refine wpAnyH_ready (rs := [9]) (by kernel_rfl) (by simp) ?_
          refine AllReadyH.cons rfl (fun K hK => ?_) AllReadyH.nil
          refine app_run (by rfl) _ _ _ (by rfl) ⟨.slice ba bn bc, .slice (some ⟨w2.heap.size, 0, none⟩) 1 1, _, _, (by go_simp), (by go_simp), hrun, ?_⟩
          refine hK.out _ _ trivial (fun hHeld => ?_)
          clear hK K
          try simp only [Act.put, List.getElem_toArray, List.getElem_cons_zero, List.getElem_cons_succ, List.setIfInBounds_toArray, List.set_cons_zero, List.set_cons_succ]
          refine wpAnyH_take (i := 10) (v := ?_) rfl (by kernel_rfl) (by kernel_rfl) (by kernel_rfl) (fun _ _ _ h => h) (Or.inl ⟨by rfl, ?_⟩) (by assumption) ?_
          rotate_left 1
          · (intro w hSw; (skip); go_simp; try with_reducible rfl)
          try simp only [Act.put, List.getElem_toArray, List.getElem_cons_zero, List.getElem_cons_succ, List.setIfInBounds_toArray, List.set_cons_zero, List.set_cons_succ]
          refine wpAnyH_take (i := 11) (v := ?_) rfl (by kernel_rfl) (by kernel_rfl) (by kernel_rfl) (fun _ _ _ h => h) (Or.inl ⟨by rfl, ?_⟩) (by assumption) ?_
          rotate_left 1
          · (intro w hSw; (skip); go_simp; try with_reducible rfl)
          try simp only [Act.put, List.getElem_toArray, List.getElem_cons_zero, List.getElem_cons_succ, List.setIfInBounds_toArray, List.set_cons_zero, List.set_cons_succ]
          refine wpAnyH_ready (rs := [12]) (by kernel_rfl) (by simp) ?_
          refine AllReadyH.cons rfl (fun K hK => ?_) AllReadyH.nil
          go_simp
          refine hK.out _ _ (trivial) (fun hHeld => ?_)
          clear hK K
          try simp only [Act.put, List.getElem_toArray, List.getElem_cons_zero, List.getElem_cons_succ, List.setIfInBounds_toArray, List.set_cons_zero, List.set_cons_succ]
          refine wpAnyH_done (by kernel_rfl) ?_ _
          clear hrun hHeld l2 l3 l4 f4
          go_wp2
          go_roundw
          case rel => exact ⟨q + 1, by first | rfl | go_num, hqn, ⟨_, XN⟩⟩
          case measure => simp [intOf]; omega
    · have hqi : ¬ (q : Int) < (m : Int) := by omega
      have E : Hid (CodAt wr pb d (booksV l m k r x) ∧ Gb w wr) := by
        have h := X.out
        rw [show q = m by omega] at h
        exact ⟨h.cod (TT.out.1.bks x), GA.out wr _ _ h⟩
      clear X
      go_wp2
      go_ret2
      exact ⟨pb, rfl, E.out.1, E.out.2⟩
end Go.Proofs.Ytblfmhdcgmkpgaa
