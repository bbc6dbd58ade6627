/- KmeansFair: the walk. -/
import Derived.Test.YtgglofeliffgbaaKRef
import Derived.Test.YtgglofeliffgbaaRDist
import Derived.Test.YtgglofeliffgbaaKAwake
import Derived.Test.YtgglofeliffgbaaKBig
import Derived.Deep.Upon
namespace Go.Proofs.Ytgglofeliffgbaa
open Go.RowKit Go.Maps

/-- What the region holds while it draws. -/
structure Fs (w W : World) (a b : Addr) (u v : Value) (B9 pd : Nat) : Prop where
  gb : Gb w W
  ca : W.cell? a = some u
  cb : W.cell? b = some v
  at2 : At2 W B9 pd
  la : a.block < w.heap.size
  lb : b.block < w.heap.size
theorem Fs.gr {w W W' : World} {a b : Addr} {u v : Value} {B9 pd : Nat} (h : Fs w W a b u v B9 pd) (g : Gr W W') : Fs w W' a b u v B9 pd := ⟨gb_trans h.gb g.gb, g.keeps h.ca, g.keeps h.cb, h.at2.gr g, h.la, h.lb⟩
theorem Fs.alloc {w W : World} {a b : Addr} {u v : Value} {B9 pd : Nat} (h : Fs w W a b u v B9 pd) (x y : Value) (t : TypeId) : Fs w (W.alloc (.cells #[x, y] t)) a b u v B9 pd := h.gr ((Gr.refl _).alloc _ _)
theorem Fs.set {w W : World} {a b : Addr} {u v : Value} {B9 pd B : Nat} (h : Fs w W a b u v B9 pd) (hB : w.heap.size ≤ B) (hne : B ≠ B9) (x y : Value) : Fs w ((W.setCell ⟨B, 0, none⟩ x).setCell ⟨B, 1, none⟩ y) a b u v B9 pd := by
  have far : ∀ {p : Addr} {z : Value}, p.block ≠ B → W.cell? p = some z → ((W.setCell ⟨B, 0, none⟩ x).setCell ⟨B, 1, none⟩ y).cell? p = some z := fun {p z} hp hc => by
    refine (World.cell?_of_block (Below.heap_setCell _ _ _ _ (by dsimp only; exact hp))).trans ?_
    exact (World.cell?_of_block (Below.heap_setCell _ _ _ _ (by dsimp only; exact hp))).trans hc
  have ff : ∀ {p : Addr}, p.block ≠ B → ((W.setCell ⟨B, 0, none⟩ x).setCell ⟨B, 1, none⟩ y).frozen? p = W.frozen? p := fun {p} hp =>
    (World.frozen?_of_block (Below.heap_setCell _ _ _ _ (by dsimp only; exact hp))).trans (World.frozen?_of_block (Below.heap_setCell _ _ _ _ (by dsimp only; exact hp)))
  have ha := h.la
  have hb := h.lb
  refine ⟨gb_set (gb_set h.gb (by dsimp only; exact hB) _) (by dsimp only; exact hB) _, far (by omega) h.ca, far (by omega) h.cb, ⟨far (Ne.symm hne) h.at2.c0, far (Ne.symm hne) h.at2.c1, (ff (Ne.symm hne)).trans h.at2.f0, (ff (Ne.symm hne)).trans h.at2.f1⟩, h.la, h.lb⟩
theorem _root_.Go.Below.trans_size {w W W' : World} (h : Gb w W) (g : Gr W W') : w.heap.size ≤ W'.heap.size := Nat.le_trans h.size g.size
theorem wd_ne_same (a b : Int) (W : World) : (binOp .neq 34 (.agg #[.int .u64 a, .int .u64 b]) (.agg #[.int .u64 a, .int .u64 b])).run Try.prog W = .ok (.bool false) W := by
  have u24 := Try.underlying23
  have a24 := Try.isAgg23
  have z24 := Try.sizeOf23
  have hS : Try.prog.underlying 34 = some (.struct (Try.prog.fieldsOf 34)) := by kernel_rfl
  have hp : Try.prog.stoodInHeld 34 = false := by kernel_rfl
  have h : (Op.equalIn 10000 34 (.agg #[.int .u64 a, .int .u64 b]) (.agg #[.int .u64 a, .int .u64 b])).run Try.prog W = .ok true W := by
    rw [show (10000 : Nat) = 9999 + 1 from rfl, run_equalIn_agg W 9999 34 _ _ hS hp]
    simp only [Program.fieldsOf, Try.underlying34]
    go_simp
  rw [run_neq_struct, h]; rfl
/-- A centre more costs no more. -/
theorem near_more {cs : Vs} {m v : List Int} (h : 1 ≤ cs.length) : (nearP (cs ++ [m]) v).2 ≤ (nearP cs v).2 := by
  have e : (nearP cs v).2 = dst cs[(nearP cs v).1]! v := nearTo_is cs v _
  have hl := nearP_lt h v
  have e2 : (cs ++ [m])[(nearP cs v).1]! = cs[(nearP cs v).1]! := by
    rw [getElem!_pos (cs ++ [m]) _ (by rw [List.length_append]; omega), List.getElem_append_left hl, ← getElem!_pos cs _ hl]
  rw [e, ← e2]
  exact nearTo_least _ _ _ _ (by rw [List.length_append]; simp; omega)
theorem cost_more {cs l : Vs} {m : List Int} (h : 1 ≤ cs.length) : ∀ q, costTo (cs ++ [m]) l q ≤ costTo cs l q
  | 0 => Nat.le_refl _
  | q + 1 => by
    have h1 := cost_more (l := l) (m := m) h q
    have h2 := near_more (m := m) (v := l[q]!) h
    rw [costTo, costTo]; omega

/-- Block b holds the two words of s. -/
def Wb (W : World) (b s : Nat) : Prop := W.heap[b]? = some (.cells #[.int .u64 (hi s), .int .u64 (lo s)] 34 (0, 0))
theorem Wb.blk {W : World} {b s : Nat} (h : Wb W b s) : W.heap[b]? = some (.cells #[.int .u64 (hi s), .int .u64 (lo s)] 34 (0, 0)) := h
theorem Wb.at2 {W : World} {b s : Nat} (h : Wb W b s) : At2 W b s := by
  have e : W.heap[b]? = some (.cells #[.int .u64 (hi s), .int .u64 (lo s)] 34 (0, 0)) := h
  exact ⟨by simp [World.cell?, e], by simp [World.cell?, e], by simp [World.frozen?, e], by simp [World.frozen?, e]⟩
theorem Wb.lt {W : World} {b s : Nat} (h : Wb W b s) : b < W.heap.size := (Array.getElem?_eq_some_iff.1 h).1
theorem Wb.block {W W' : World} {b s : Nat} (h : Wb W b s) (e : W'.heap[b]? = W.heap[b]?) : At2 W' b s := Wb.at2 (e.trans h)
theorem Wb.alloc {W : World} {b s : Nat} (h : Wb W b s) (x : Value) (t : TypeId) : Wb (W.alloc (.cells #[x] t)) b s := (Below.heap_alloc W _ b h.lt).trans h
/-- The walk stops here. -/
def Stop (p : Prop) : Prop := p
theorem stop_at {p : Prop} (h : Stop p) : p := h
/-- What a cell holds. -/
def cellu (W : World) (b o : Nat) (j : Nat) : Value := (W.cell? ⟨b, o + j, none⟩).getD undef
theorem cellu_at {w : World} {b o n cap : Nat} {cs : Vs} (h : RdV w (.slice (some ⟨b, o, none⟩) n cap) cs) {i : Nat} (hi : i < cs.length) : w.cell? ⟨b, o + i, none⟩ = some (cellu w b o i) ∧ RdI w (cellu w b o i) cs[i]! := by
  obtain ⟨b', o', u, e, h1, h2⟩ := cen_at h hi
  cases e
  unfold cellu
  rw [h1]
  exact ⟨rfl, h2⟩
theorem rangeu_some {n j : Nat} {f : Nat → Value} {u : Value} (h : ((List.range n).map f)[j]? = some u) : j < n ∧ u = f j := by
  rw [List.getElem?_map] at h
  by_cases hj : j < n
  · rw [List.getElem?_range hj] at h
    simp at h
    exact ⟨hj, h.symm⟩
  · rw [List.getElem?_eq_none (by simp; omega)] at h
    cases h
theorem rangeu_get {n j : Nat} (f : Nat → Value) (hj : j < n) : ((List.range n).map f)[j]? = some (f j) := by
  rw [List.getElem?_map, List.getElem?_range hj]; rfl
theorem app_vs (W : World) (a : Option Addr) (c : Nat) : (Builtin.append_ #[22, 22] 22 #[.slice none 0 0, .slice a 0 c]).run Try.prog W = .ok (.slice none 0 0) W := by
  obtain ⟨i0, hi, hz0, hz1, hz2⟩ := info_parts' Try.infoV
  cases a with
  | none => exact run_append_nothing W 22 22 22 30 i0 Try.underlying22 hi none 0 0 (Nat.le_refl _) _ (Src.ofNil W Try.underlying22 c)
  | some A => exact run_append_nothing W 22 22 22 30 i0 Try.underlying22 hi none 0 0 (Nat.le_refl _) _ (Src.ofSlice W Try.underlying22 A 0 c [] (by simp) (fun j u hj => by simp at hj) (fun u hu => by simp at hu))
theorem list_run {ops : Array Oper} {rest : List Oper} {o : Oper} {a : Act} {w w' : World} {Q : Exit → Act → World → Prop} {v1 v2 v' : Value} (hgd : o.guard = none) (s x : Operand) (t : TypeId)
    (ho : o.op = .call { callee := .builtin .append, args := #[s, x], argTypes := #[t, t] }) (hs : a.eval s = v1) (hx : a.eval x = v2) (hr : (Builtin.append_ #[t, t] o.type #[v1, v2]).run Try.prog w = .ok v' w') (h : wpList Try.prog ops Q rest (a.put o.dst v') w') :
    wpList Try.prog ops Q (o :: rest) a w := by
  refine wpList_plain hgd fun K hK => ?_
  unfold Oper.wp execOp
  simp only [ho, resolve, invoke, builtin, Sem.run_bind, Sem.run_pure, Result.andThen_ok, List.map_toArray, List.map_cons, List.map_nil, hs, hx, hr]
  exact hK _ _ h
theorem rdv_own {W : World} {B : Nat} {v : Value} {xs : Vs} {us : List Value} (h : W.ownsRow B 30 1 v xs.length us) (hx : ∀ i, i < xs.length → ∃ u, us[i]? = some u ∧ RdI W u xs[i]!) : RdV W v xs := by
  rcases h.2 with ⟨rfl, h0⟩ | ⟨g, cap, cur, rfl, _⟩
  · have : xs = [] := List.eq_nil_of_length_eq_zero h0
    subst this; exact rdv_nil _
  · refine ⟨_, cap, rfl, fun i hi => ?_⟩
    obtain ⟨u, h1, h2⟩ := hx i hi
    have := World.ownsRow.cells h (g := g) rfl i u h1
    rw [Addr.add_lit] at this
    exact ⟨g, 0, u, rfl, this, h2⟩

set_option maxRecDepth 100000 in
set_option maxHeartbeats 4000000 in
theorem fair_law {w : World} {u v t : Value} {cs l : Vs} {x : List Int} (hu : RdV w u cs) (hv : RdI w v x) (ht : RdV w t l) :
    Calls Try.prog 6 #[u, v, t] w fun e w' => e = .returned (.bool true) ∧ Gb w w' := by
  have b1 := big_c hu
  have b2 := big_c ht
  have U : Hid (RdV w u cs) := hu
  have V : Hid (RdI w v x) := hv
  have T : Hid (RdV w t l) := ht
  obtain ⟨pu, cu, rfl, _⟩ := hu
  obtain ⟨pv, cv, rfl, _⟩ := hv
  obtain ⟨pt, ct, rfl, _⟩ := ht
  obtain ⟨n, hn⟩ : ∃ n, n = cs.length := ⟨_, rfl⟩
  have N : Hid (n = cs.length) := hn
  obtain ⟨m, hm⟩ : ∃ m, m = l.length := ⟨_, rfl⟩
  have M : Hid (m = l.length) := hm
  rw [← hn] at U b1 ⊢
  rw [← hm] at T b2 ⊢
  clear hn hm
  generalize x.length = nx at *
  obtain ⟨i0, hi0, hz0, hz1, hz2⟩ := info_parts' Try.infoV
  have II : Hid (Try.prog.info? 30 = some i0 ∧ i0.zero = some (.slice none 0 0) ∧ i0.size = 1 ∧ i0.bytes = 24) := ⟨hi0, hz0, hz1, hz2⟩
  clear hi0 hz0 hz1 hz2
  go_enter Try.func6, Try.ntmps6
  go_wp2_with fail
  refine b1.mono ?_
  rintro e w' ⟨⟨b, rfl, hb1⟩, e2⟩
  subst e2
  clear b1
  cases b with
  | true =>
    clear b2
    go_wp2
    go_ret
    exact ⟨rfl, Below.refl _ _⟩
  | false =>
    go_wp2_with fail
    refine b2.mono ?_
    rintro e w' ⟨⟨b, rfl, hb2⟩, e2⟩
    subst e2
    clear b2
    cases b with
    | true =>
      go_wp2
      go_ret
      exact ⟨rfl, Below.refl _ _⟩
    | false =>
      have hn16 := hb1 (by first | rfl | trivial)
      have hm16 := hb2 (by first | rfl | trivial)
      clear hb1 hb2
      by_cases hbig : (65536 : Int) < (nx : Int)
      · go_wp2
        go_ret
        exact ⟨rfl, Below.refl _ _⟩
      · go_wp2
        go_loopw [7] (fun iv W => ∃ q : Nat, iv = .int .i64 (q : Int) ∧ q ≤ m ∧ Gb w W) (fun iv _ => m - (intOf iv).toNat)
        case atStart => exact ⟨0, rfl, Nat.zero_le _, Below.refl _ _⟩
        case round =>
          obtain ⟨q, rfl, hq, gW⟩ := hrel
          by_cases hqn : q < m
          · have hqi : decide ((q : Int) < (m : Int)) = true := by rw [decide_eq_true_eq]; omega
            have hqp : (q : Int) < (m : Int) := by omega
            have hql : q < l.length := by have := M.out; omega
            obtain ⟨b1, o1, u1, ea, y1, y2⟩ := cen_at T.out hql
            subst ea
            have x0 := gb_keeps gW y1
            have cn := near_c (U.out.gb gW) (y2.gb gW)
            have LQ : Hid (RdI w u1 l[q]!) := y2
            obtain ⟨p1, c1, rfl, _⟩ := y2
            by_cases hz : nearE cs l[q]! = 0
            · have hcz : cenE cs = 0 := by
                unfold nearE at hz; split at hz
                · assumption
                · rename_i h; exact absurd hz h
              have hxz : chk l[q]! (cs[0]!.length : Int) = 0 := by unfold nearE at hz; rwa [if_pos hcz] at hz
              obtain ⟨⟨hc1, hc2⟩, hc3⟩ := cenE_zero.1 hcz
              rw [if_pos hz, if_pos hz, hz] at cn
              have DD : Hid (∀ k, k < cs.length → distE cs[k]! l[q]! = 0 ∧ distV cs[k]! l[q]! = dst cs[k]! l[q]! ∧ dst cs[k]! l[q]! < 340282366920938463463374607431768211456) := fun k hk => ⟨(near_dist hc3 hxz hk).1, (near_dist hc3 hxz hk).2, Nat.lt_of_le_of_lt (dst_le (hc3 k hk) hxz) (by decide)⟩
              have PB : Hid ((nearP cs l[q]!).2 < 340282366920938463463374607431768211456 ∧ (∀ k, k < cs.length → (nearP cs l[q]!).2 ≤ dst cs[k]! l[q]!) ∧ (∀ k, k < (nearP cs l[q]!).1 → (nearP cs l[q]!).2 < dst cs[k]! l[q]!) ∧ (nearP cs l[q]!).2 = dst cs[(nearP cs l[q]!).1]! l[q]!) :=
                ⟨Nat.lt_of_le_of_lt (near_le hc3 hc1 hxz) (by decide), fun k hk => nearTo_least _ _ _ _ (by omega), fun k hk => nearTo_first _ _ _ _ hk, nearTo_is _ _ _⟩
              generalize nearP cs l[q]! = p at *
              obtain ⟨pp, pd⟩ := p
              dsimp only at cn PB
              clear hz hcz hxz hc1 hc2 hc3 y1
              generalize l[q]!.length = nl at *
              go_wp2_with fail
              refine cn.mono ?_
              rintro e w2 ⟨rfl, g2⟩
              have hS : At2 (w2.alloc (.cells #[.int .u64 (hi pd), .int .u64 (lo pd)] 34)) w2.heap.size pd := At2.new w2 pd _
              have GG : Gb w (w2.alloc (.cells #[.int .u64 (hi pd), .int .u64 (lo pd)] 34)) := gb_alloc (gb_trans gW g2.gb) _
              clear cn g2 gW x0
              go_wp2
              generalize w2.heap.size = B9 at *
              go_loopw [11] (fun iv W => ∃ k : Nat, iv = .int .i64 (k : Int) ∧ k ≤ n ∧ Gb w W ∧ At2 W B9 pd) (fun iv _ => n - (intOf iv).toNat)
              case atStart => exact ⟨0, rfl, Nat.zero_le _, GG, hS⟩
              case round =>
                clear hS GG
                obtain ⟨k, rfl, hk, gV, hA⟩ := hrel
                by_cases hkn : k < n
                · have hkp : (k : Int) < (n : Int) := by omega
                  have hkl : k < cs.length := by have := N.out; omega
                  obtain ⟨b2, o2, u2, eb, z1, z2⟩ := cen_at U.out hkl
                  subst eb
                  obtain ⟨b1', o1', u1', ea, z3, z4⟩ := cen_at T.out hql
                  cases ea
                  have c19 := fun W (g : Gb w W) => rdist_c (z2.gb g) (z4.gb g)
                  rw [(DD.out k hkl).1, (DD.out k hkl).2.1] at c19
                  have y0 := gb_keeps gV z1
                  have y1 := gb_keeps gV z3
                  obtain ⟨p2, c2, rfl, _⟩ := z2
                  obtain ⟨p3, c3, rfl, _⟩ := z4
                  have hsb := (DD.out k hkl).2.2
                  have hle := PB.out.2.1 k hkl
                  have hfi := PB.out.2.2.1 k
                  have heq : k = pp → pd = dst cs[k]! l[q]! := fun e => by rw [e]; exact PB.out.2.2.2
                  generalize dst cs[k]! l[q]! = s at *
                  generalize cs[k]!.length = nk at *
                  generalize l[q]!.length = nq at *
                  have GV : Hid (Gb w wr) := gV
                  have PBB : Hid (pd < 340282366920938463463374607431768211456) := PB.out.1
                  have FS0 : Fs w wr.drew ⟨b2, o2 + k, none⟩ ⟨b1, o1 + q, none⟩ (.slice p2 nk c2) (.slice p3 nq c3) B9 pd := ⟨gb_trans GV.out (Below.refl _ _).drew, y0, y1, ⟨hA.c0, hA.c1, hA.f0, hA.f1⟩, World.block_lt_of_cell? w _ z1, World.block_lt_of_cell? w _ z3⟩
                  clear z1 z3 gV y0 y1 hA
                  go_wp2
                  refine wp_region_held_drew (S := fun w' => Fs w w' ⟨b2, o2 + k, none⟩ ⟨b1, o1 + q, none⟩ (.slice p2 nk c2) (.slice p3 nq c3) B9 pd) (by kernel_rfl) (FS0) (fun hHeld => ?_)
                  refine wpAnyH_take (i := 0) (v := ?_) rfl (by kernel_rfl) (by kernel_rfl) (by kernel_rfl) (fun _ _ _ h => h) (Or.inl ⟨by rfl, ?_⟩) (by assumption) ?_
                  rotate_left 1
                  · (intro w hSw; (obtain ⟨s1, s2, s3, s4, s5, s6⟩ := hSw); go_simp; try with_reducible rfl)
                  try simp only [Act.put, List.getElem_toArray, List.getElem_cons_zero, List.setIfInBounds_toArray, List.set_cons_zero, List.set_cons_succ]
                  refine wpAnyH_take (i := 1) (v := ?_) rfl (by kernel_rfl) (by kernel_rfl) (by kernel_rfl) (fun _ _ _ h => h) (Or.inl ⟨by rfl, ?_⟩) (by assumption) ?_
                  rotate_left 1
                  · (intro w hSw; (obtain ⟨s1, s2, s3, s4, s5, s6⟩ := hSw); go_simp; try with_reducible rfl)
                  try simp only [Act.put, List.getElem_toArray, List.getElem_cons_zero, List.getElem_cons_succ, List.setIfInBounds_toArray, List.set_cons_zero, List.set_cons_succ]
                  refine wpAnyH_take (i := 2) (v := ?_) rfl (by kernel_rfl) (by kernel_rfl) (by kernel_rfl) (fun _ _ _ h => h) (Or.inl ⟨by rfl, ?_⟩) (by assumption) ?_
                  rotate_left 1
                  · (intro w hSw; (obtain ⟨s1, s2, s3, s4, s5, s6⟩ := hSw); go_simp; try with_reducible rfl)
                  try simp only [Act.put, List.getElem_toArray, List.getElem_cons_zero, List.getElem_cons_succ, List.setIfInBounds_toArray, List.set_cons_zero, List.set_cons_succ]
                  refine wpAnyH_take (i := 3) (v := ?_) rfl (by kernel_rfl) (by kernel_rfl) (by kernel_rfl) (fun _ _ _ h => h) (Or.inl ⟨by rfl, ?_⟩) (by assumption) ?_
                  rotate_left 1
                  · (intro w hSw; (obtain ⟨s1, s2, s3, s4, s5, s6⟩ := hSw); go_simp; try with_reducible rfl)
                  try simp only [Act.put, List.getElem_toArray, List.getElem_cons_zero, List.getElem_cons_succ, List.setIfInBounds_toArray, List.set_cons_zero, List.set_cons_succ]
                  refine wpAnyH_take (i := 4) (v := ?_) rfl (by kernel_rfl) (by kernel_rfl) (by kernel_rfl) (fun _ _ _ h => h) (Or.inl ⟨by rfl, ?_⟩) (by assumption) ?_
                  rotate_left 1
                  · (intro w hSw; (obtain ⟨s1, s2, s3, s4, s5, s6⟩ := hSw); go_simp; try with_reducible rfl)
                  try simp only [Act.put, List.getElem_toArray, List.getElem_cons_zero, List.getElem_cons_succ, List.setIfInBounds_toArray, List.set_cons_zero, List.set_cons_succ]
                  refine wpAnyH_take (i := 5) (v := ?_) rfl (by kernel_rfl) (by kernel_rfl) (by kernel_rfl) (fun _ _ _ h => h) (Or.inl ⟨by rfl, ?_⟩) (by assumption) ?_
                  rotate_left 1
                  · (intro w hSw; (obtain ⟨s1, s2, s3, s4, s5, s6⟩ := hSw); go_simp; try with_reducible rfl)
                  try simp only [Act.put, List.getElem_toArray, List.getElem_cons_zero, List.getElem_cons_succ, List.setIfInBounds_toArray, List.set_cons_zero, List.set_cons_succ]
                  refine wpAnyH_take (i := 6) (v := ?_) rfl (by kernel_rfl) (by kernel_rfl) (by kernel_rfl) (fun _ _ _ h => h) (Or.inl ⟨by rfl, ?_⟩) (by assumption) ?_
                  rotate_left 1
                  · (intro w hSw; (obtain ⟨s1, s2, s3, s4, s5, s6⟩ := hSw); go_simp; try with_reducible rfl)
                  try simp only [Act.put, List.getElem_toArray, List.getElem_cons_zero, List.getElem_cons_succ, List.setIfInBounds_toArray, List.set_cons_zero, List.set_cons_succ]
                  refine wpAnyH_take (i := 7) (v := ?_) rfl (by kernel_rfl) (by kernel_rfl) (by kernel_rfl) (fun _ _ _ h => h) (Or.inl ⟨by rfl, ?_⟩) (by assumption) ?_
                  rotate_left 1
                  · (intro w hSw; (obtain ⟨s1, s2, s3, s4, s5, s6⟩ := hSw); go_simp; try with_reducible rfl)
                  try simp only [Act.put, List.getElem_toArray, List.getElem_cons_zero, List.getElem_cons_succ, List.setIfInBounds_toArray, List.set_cons_zero, List.set_cons_succ]
                  refine wpAnyH_ready (rs := [8, 12]) (by kernel_rfl) (by simp) ?_
                  refine AllReadyH.cons rfl (fun K hK => ?_) (AllReadyH.cons rfl (fun K hK => ?_) AllReadyH.nil)
                  · have hHeldC := hHeld
                    go_simp
                    refine (c19 _ hHeld.gb).mono ?_
                    rintro e w4 ⟨rfl, g4⟩
                    refine hK.out _ _ (hHeld.gr g4) (fun hHeld => ?_)
                    clear hK K
                    try simp only [Act.put, List.getElem_toArray, List.getElem_cons_zero, List.getElem_cons_succ, List.setIfInBounds_toArray, List.set_cons_zero, List.set_cons_succ]
                    refine wpAnyH_take (i := 9) (v := ?_) rfl (by kernel_rfl) (by kernel_rfl) (by kernel_rfl) (fun _ _ _ h => h) (Or.inl ⟨by rfl, ?_⟩) (by assumption) ?_
                    rotate_left 1
                    · (intro w hSw; (obtain ⟨s1, s2, s3, s4, s5, s6⟩ := hSw); go_simp; try with_reducible rfl)
                    try simp only [Act.put, List.getElem_toArray, List.getElem_cons_zero, List.getElem_cons_succ, List.setIfInBounds_toArray, List.set_cons_zero, List.set_cons_succ]
                    refine wpAnyH_take (i := 10) (v := ?_) rfl (by kernel_rfl) (by kernel_rfl) (by kernel_rfl) (fun _ _ _ h => h) (Or.inl ⟨by rfl, ?_⟩) (by assumption) ?_
                    rotate_left 1
                    · (intro w hSw; (obtain ⟨s1, s2, s3, s4, s5, s6⟩ := hSw); go_simp; try with_reducible rfl)
                    try simp only [Act.put, List.getElem_toArray, List.getElem_cons_zero, List.getElem_cons_succ, List.setIfInBounds_toArray, List.set_cons_zero, List.set_cons_succ]
                    refine wpAnyH_take (i := 11) (v := ?_) rfl (by kernel_rfl) (by kernel_rfl) (by kernel_rfl) (fun _ _ _ h => h) (Or.inl ⟨by rfl, ?_⟩) (by assumption) ?_
                    rotate_left 1
                    · (intro w hSw; (obtain ⟨s1, s2, s3, s4, s5, s6⟩ := hSw); go_simp; try with_reducible rfl)
                    try simp only [Act.put, List.getElem_toArray, List.getElem_cons_zero, List.getElem_cons_succ, List.setIfInBounds_toArray, List.set_cons_zero, List.set_cons_succ]
                    refine wpAnyH_ready (rs := [12]) (by kernel_rfl) (by simp) ?_
                    refine AllReadyH.cons rfl (fun K hK => ?_) AllReadyH.nil
                    go_simp
                    refine hK.out _ _ (hHeld.alloc _ _ _) (fun hHeld => ?_)
                    clear hK K
                    try simp only [Act.put, List.getElem_toArray, List.getElem_cons_zero, List.getElem_cons_succ, List.setIfInBounds_toArray, List.set_cons_zero, List.set_cons_succ]
                    have hH4 := hHeldC.gr g4
                    refine wpAnyH_ready (rs := [13]) (by kernel_rfl) (by simp) ?_
                    refine AllReadyH.cons rfl (fun K hK => ?_) AllReadyH.nil
                    go_simp
                    refine hK.out _ _ (hH4.alloc _ _ _) (fun hHeld => ?_)
                    clear hK K
                    try simp only [Act.put, List.getElem_toArray, List.getElem_cons_zero, List.getElem_cons_succ, List.setIfInBounds_toArray, List.set_cons_zero, List.set_cons_succ]
                    refine wpAnyH_take (i := 14) (v := ?_) rfl (by kernel_rfl) (by kernel_rfl) (by kernel_rfl) (fun _ _ _ h => h) (Or.inl ⟨by rfl, ?_⟩) (by assumption) ?_
                    rotate_left 1
                    · (intro w hSw; (obtain ⟨s1, s2, s3, s4, s5, s6⟩ := hSw); go_simp; try with_reducible rfl)
                    try simp only [Act.put, List.getElem_toArray, List.getElem_cons_zero, List.getElem_cons_succ, List.setIfInBounds_toArray, List.set_cons_zero, List.set_cons_succ]
                    refine wpAnyH_done (by kernel_rfl) ?_ _
                    have F0 : At2 (w4.alloc (.cells #[.int .u64 (hi s), .int .u64 (lo s)] 34)) w4.heap.size s := At2.new w4 s _
                    clear hHeldC g4 hH4
                    generalize w4.heap.size = B12 at *

                    have F1 := hHeld.at2
                    have F2 := hHeld.gb
                    generalize w4.alloc (.cells #[.int .u64 (hi s), .int .u64 (lo s)] 34) = W9 at *
                    clear hHeld
                    rcases Nat.lt_trichotomy k pp with hc | hc | hc
                    · have hd : pd < s := hfi hc
                      have hnl : decide (s < pd) = false := decide_eq_false (by omega)
                      have cl := fun W => less_any s pd hsb PBB.out W
                      simp only [hnl] at cl
                      have hne : decide (s = pd) = false := decide_eq_false (by omega)
                      have ce := wd_eq s pd
                      simp only [hne] at ce
                      have hci : (k : Int) < (pp : Int) := by omega
                      have hce : ((k : Int) == (pp : Int)) = false := by rw [beq_eq_false_iff_ne]; omega
                      obtain ⟨m0, m1, m2, m3⟩ := F0
                      obtain ⟨n0, n1, n2, n3⟩ := F1
                      clear hfi heq hle hc hd hnl hne
                      go_wp2_with (go_at_call 20; refine (cl _).mono ?_; rintro e w6 ⟨rfl, g6⟩; have m0 := g6.keeps m0; have m1 := g6.keeps m1; have n0 := g6.keeps n0; have n1 := g6.keeps n1)
                      have H6 : At2 w6 B9 pd := ⟨n0, n1, (g6.froz _).trans n2, (g6.froz _).trans n3⟩
                      exact ⟨⟨k + 1, by go_num, hkn, gb_trans F2 g6.gb, H6⟩, by simp [intOf]; omega⟩
                    · have hd : pd = s := heq hc
                      have hnl : decide (s < pd) = false := decide_eq_false (by omega)
                      have cl := fun W => less_any s pd hsb PBB.out W
                      simp only [hnl] at cl
                      have cn := wd_ne_same (hi pd) (lo pd)
                      have hci : ¬ (k : Int) < (pp : Int) := by omega
                      have hce : ((k : Int) == (pp : Int)) = true := by rw [beq_iff_eq]; omega
                      rw [← hd] at cl F0
                      obtain ⟨m0, m1, m2, m3⟩ := F0
                      obtain ⟨n0, n1, n2, n3⟩ := F1
                      subst hc
                      clear hfi heq hle hd hnl hsb
                      go_wp2_with (go_at_call 20; refine (cl _).mono ?_; rintro e w6 ⟨rfl, g6⟩; have m0 := g6.keeps m0; have m1 := g6.keeps m1; have n0 := g6.keeps n0; have n1 := g6.keeps n1)
                      have H6 : At2 w6 B9 pd := ⟨n0, n1, (g6.froz _).trans n2, (g6.froz _).trans n3⟩
                      exact ⟨⟨k + 1, by go_num, hkn, gb_trans F2 g6.gb, H6⟩, by simp [intOf]; omega⟩
                    · have hnl : decide (s < pd) = false := decide_eq_false (by omega)
                      have cl := fun W => less_any s pd hsb PBB.out W
                      simp only [hnl] at cl
                      have hci : ¬ (k : Int) < (pp : Int) := by omega
                      have hce : ((k : Int) == (pp : Int)) = false := by rw [beq_eq_false_iff_ne]; omega
                      obtain ⟨m0, m1, m2, m3⟩ := F0
                      obtain ⟨n0, n1, n2, n3⟩ := F1
                      clear hfi heq hle hc hnl
                      go_wp2_with (go_at_call 20; refine (cl _).mono ?_; rintro e w6 ⟨rfl, g6⟩; have m0 := g6.keeps m0; have m1 := g6.keeps m1; have n0 := g6.keeps n0; have n1 := g6.keeps n1)
                      have H6 : At2 w6 B9 pd := ⟨n0, n1, (g6.froz _).trans n2, (g6.froz _).trans n3⟩
                      exact ⟨⟨k + 1, by go_num, hkn, gb_trans F2 g6.gb, H6⟩, by simp [intOf]; omega⟩
                  · have hHeldC := hHeld
                    go_simp
                    refine hK.out _ _ (hHeld.alloc _ _ _) (fun hHeld => ?_)
                    clear hK K
                    try simp only [Act.put, List.getElem_toArray, List.getElem_cons_zero, List.getElem_cons_succ, List.setIfInBounds_toArray, List.set_cons_zero, List.set_cons_succ]
                    refine wpAnyH_ready (rs := [8]) (by kernel_rfl) (by simp) ?_
                    refine AllReadyH.cons rfl (fun K hK => ?_) AllReadyH.nil
                    go_simp
                    refine (c19 _ hHeld.gb).mono ?_
                    rintro e w4 ⟨rfl, g4⟩
                    refine hK.out _ _ (hHeld.gr g4) (fun hHeld => ?_)
                    clear hK K
                    try simp only [Act.put, List.getElem_toArray, List.getElem_cons_zero, List.getElem_cons_succ, List.setIfInBounds_toArray, List.set_cons_zero, List.set_cons_succ]
                    refine wpAnyH_take (i := 9) (v := ?_) rfl (by kernel_rfl) (by kernel_rfl) (by kernel_rfl) (fun _ _ _ h => h) (Or.inl ⟨by rfl, ?_⟩) (by assumption) ?_
                    rotate_left 1
                    · (intro w hSw; (obtain ⟨s1, s2, s3, s4, s5, s6⟩ := hSw); go_simp; try with_reducible rfl)
                    try simp only [Act.put, List.getElem_toArray, List.getElem_cons_zero, List.getElem_cons_succ, List.setIfInBounds_toArray, List.set_cons_zero, List.set_cons_succ]
                    refine wpAnyH_take (i := 10) (v := ?_) rfl (by kernel_rfl) (by kernel_rfl) (by kernel_rfl) (fun _ _ _ h => h) (Or.inl ⟨by rfl, ?_⟩) (by assumption) ?_
                    rotate_left 1
                    · (intro w hSw; (obtain ⟨s1, s2, s3, s4, s5, s6⟩ := hSw); go_simp; try with_reducible rfl)
                    try simp only [Act.put, List.getElem_toArray, List.getElem_cons_zero, List.getElem_cons_succ, List.setIfInBounds_toArray, List.set_cons_zero, List.set_cons_succ]
                    refine wpAnyH_take (i := 11) (v := ?_) rfl (by kernel_rfl) (by kernel_rfl) (by kernel_rfl) (fun _ _ _ h => h) (Or.inl ⟨by rfl, ?_⟩) (by assumption) ?_
                    rotate_left 1
                    · (intro w hSw; (obtain ⟨s1, s2, s3, s4, s5, s6⟩ := hSw); go_simp; try with_reducible rfl)
                    try simp only [Act.put, List.getElem_toArray, List.getElem_cons_zero, List.getElem_cons_succ, List.setIfInBounds_toArray, List.set_cons_zero, List.set_cons_succ]
                    have A4 : At2 w4 wr.heap.size 0 := (show At2 (wr.drew.alloc (.cells #[.int .u64 0, .int .u64 0] 34)) wr.heap.size 0 from At2.new wr.drew 0 _).gr g4
                    have A5 := A4.set s
                    have hB9 : wr.heap.size ≠ B9 := fun e => by have := cell_lt hHeldC.at2.c0; dsimp only at this; rw [← e] at this; exact absurd this (Nat.lt_irrefl _)
                    obtain ⟨a0, a1, a2, a3⟩ := A4
                    refine wpAnyH_ready (rs := [13]) (by kernel_rfl) (by simp) ?_
                    refine AllReadyH.cons rfl (fun K hK => ?_) AllReadyH.nil
                    go_simp
                    refine hK.out _ _ (hHeld.set hHeldC.gb.size hB9 _ _) (fun hHeld => ?_)
                    clear hK K
                    try simp only [Act.put, List.getElem_toArray, List.getElem_cons_zero, List.getElem_cons_succ, List.setIfInBounds_toArray, List.set_cons_zero, List.set_cons_succ]
                    refine wpAnyH_take (i := 14) (v := ?_) rfl (by kernel_rfl) (by kernel_rfl) (by kernel_rfl) (fun _ _ _ h => h) (Or.inl ⟨by rfl, ?_⟩) (by assumption) ?_
                    rotate_left 1
                    · (intro w hSw; (obtain ⟨s1, s2, s3, s4, s5, s6⟩ := hSw); go_simp; try with_reducible rfl)
                    try simp only [Act.put, List.getElem_toArray, List.getElem_cons_zero, List.getElem_cons_succ, List.setIfInBounds_toArray, List.set_cons_zero, List.set_cons_succ]
                    refine wpAnyH_done (by kernel_rfl) ?_ _
                    have F0 : At2 ((w4.setCell ⟨wr.heap.size, 0, none⟩ (.int .u64 (hi s))).setCell ⟨wr.heap.size, 1, none⟩ (.int .u64 (lo s))) wr.heap.size s := A5
                    clear A5 a0 a1 a2 a3 hHeldC g4 hB9
                    generalize wr.heap.size = B12 at *

                    have F1 := hHeld.at2
                    have F2 := hHeld.gb
                    generalize (w4.setCell ⟨B12, 0, none⟩ (.int .u64 (hi s))).setCell ⟨B12, 1, none⟩ (.int .u64 (lo s)) = W9 at *
                    clear hHeld
                    rcases Nat.lt_trichotomy k pp with hc | hc | hc
                    · have hd : pd < s := hfi hc
                      have hnl : decide (s < pd) = false := decide_eq_false (by omega)
                      have cl := fun W => less_any s pd hsb PBB.out W
                      simp only [hnl] at cl
                      have hne : decide (s = pd) = false := decide_eq_false (by omega)
                      have ce := wd_eq s pd
                      simp only [hne] at ce
                      have hci : (k : Int) < (pp : Int) := by omega
                      have hce : ((k : Int) == (pp : Int)) = false := by rw [beq_eq_false_iff_ne]; omega
                      obtain ⟨m0, m1, m2, m3⟩ := F0
                      obtain ⟨n0, n1, n2, n3⟩ := F1
                      clear hfi heq hle hc hd hnl hne
                      go_wp2_with (go_at_call 20; refine (cl _).mono ?_; rintro e w6 ⟨rfl, g6⟩; have m0 := g6.keeps m0; have m1 := g6.keeps m1; have n0 := g6.keeps n0; have n1 := g6.keeps n1)
                      have H6 : At2 w6 B9 pd := ⟨n0, n1, (g6.froz _).trans n2, (g6.froz _).trans n3⟩
                      exact ⟨⟨k + 1, by go_num, hkn, gb_trans F2 g6.gb, H6⟩, by simp [intOf]; omega⟩
                    · have hd : pd = s := heq hc
                      have hnl : decide (s < pd) = false := decide_eq_false (by omega)
                      have cl := fun W => less_any s pd hsb PBB.out W
                      simp only [hnl] at cl
                      have cn := wd_ne_same (hi pd) (lo pd)
                      have hci : ¬ (k : Int) < (pp : Int) := by omega
                      have hce : ((k : Int) == (pp : Int)) = true := by rw [beq_iff_eq]; omega
                      rw [← hd] at cl F0
                      obtain ⟨m0, m1, m2, m3⟩ := F0
                      obtain ⟨n0, n1, n2, n3⟩ := F1
                      subst hc
                      clear hfi heq hle hd hnl hsb
                      go_wp2_with (go_at_call 20; refine (cl _).mono ?_; rintro e w6 ⟨rfl, g6⟩; have m0 := g6.keeps m0; have m1 := g6.keeps m1; have n0 := g6.keeps n0; have n1 := g6.keeps n1)
                      have H6 : At2 w6 B9 pd := ⟨n0, n1, (g6.froz _).trans n2, (g6.froz _).trans n3⟩
                      exact ⟨⟨k + 1, by go_num, hkn, gb_trans F2 g6.gb, H6⟩, by simp [intOf]; omega⟩
                    · have hnl : decide (s < pd) = false := decide_eq_false (by omega)
                      have cl := fun W => less_any s pd hsb PBB.out W
                      simp only [hnl] at cl
                      have hci : ¬ (k : Int) < (pp : Int) := by omega
                      have hce : ((k : Int) == (pp : Int)) = false := by rw [beq_eq_false_iff_ne]; omega
                      obtain ⟨m0, m1, m2, m3⟩ := F0
                      obtain ⟨n0, n1, n2, n3⟩ := F1
                      clear hfi heq hle hc hnl
                      go_wp2_with (go_at_call 20; refine (cl _).mono ?_; rintro e w6 ⟨rfl, g6⟩; have m0 := g6.keeps m0; have m1 := g6.keeps m1; have n0 := g6.keeps n0; have n1 := g6.keeps n1)
                      have H6 : At2 w6 B9 pd := ⟨n0, n1, (g6.froz _).trans n2, (g6.froz _).trans n3⟩
                      exact ⟨⟨k + 1, by go_num, hkn, gb_trans F2 g6.gb, H6⟩, by simp [intOf]; omega⟩
                · have hkp : ¬ (k : Int) < (n : Int) := by omega
                  clear hqi
                  go_wp2
                  exact ⟨⟨q + 1, by go_num, hqn, gV⟩, by simp [intOf]; omega⟩
            · have hz' : (nearE cs l[q]! == 0) = false := by rw [beq_eq_false_iff_ne]; exact hz
              rw [if_neg hz, if_neg hz] at cn
              generalize nearE cs l[q]! = ze at *
              generalize l[q]!.length = nl at *
              have GW : Hid (Gb w wr) := gW
              clear gW y1 hqi LQ
              go_wp2_with fail
              refine cn.mono ?_
              rintro e w2 ⟨rfl, g2⟩
              have G2 : Gb w (w2.alloc (.cells #[.int .u64 (hi 0), .int .u64 (lo 0)] 34)) := gb_alloc (gb_trans GW.out g2.gb) _
              clear cn g2
              go_wp2
              exact ⟨⟨q + 1, by go_num, hqn, G2⟩, by simp [intOf]; omega⟩
          · have hqp : ¬ (q : Int) < (m : Int) := by omega
            have c5 := cost_c (U.out.gb gW) (T.out.gb gW)
            have GW : Hid (Gb w wr) := gW
            have CM : Hid (costE cs l = 0 → costE (cs ++ [x]) l = 0 → costTo (cs ++ [x]) l l.length ≤ costTo cs l l.length ∧ costTo cs l l.length < 340282366920938463463374607431768211456) := fun e1 e2 => by
              obtain ⟨⟨⟨a1, a2⟩, a3⟩, a4, a5⟩ := costE_zero.1 e1
              have := costTo_le a3 a1 a5 l.length (Nat.le_refl _)
              exact ⟨cost_more a1 _, by omega⟩
            generalize hC1 : (if costE cs l = 0 then costTo cs l l.length else 0) = C1 at *
            generalize hE1 : costE cs l = E1 at *
            have H1 : Hid ((if E1 = 0 then costTo cs l l.length else 0) = C1) := hC1
            clear hC1 hE1 gW
            go_wp2_with fail
            refine c5.mono ?_
            rintro e w2 ⟨rfl, g2⟩
            clear c5
            have S3 : Wb (w2.alloc (.cells #[.int .u64 (hi C1), .int .u64 (lo C1)] 34)) w2.heap.size C1 := World.alloc_heap_new w2 _
            have G3 : Gb w (w2.alloc (.cells #[.int .u64 (hi C1), .int .u64 (lo C1)] 34)) := gb_alloc (gb_trans GW.out g2.gb) _
            clear g2
            by_cases hn0 : n = 0
            · have cs0 : cs = [] := List.eq_nil_of_length_eq_zero (by have := N.out; omega)
              have hap := app_vs (w2.alloc (.cells #[.int .u64 (hi C1), .int .u64 (lo C1)] 34)) pu cu
              subst hn0
              go_wp2_with (at_builtin; refine stop_at ?_)
              unfold Stop
              refine list_run (by rfl) _ _ _ (by rfl) (by rfl) (by rfl) hap ?_
              clear hap
              have S4 := S3
              have g4 := G3
              clear S3 G3
              generalize w2.alloc (.cells #[.int .u64 (hi C1), .int .u64 (lo C1)] 34) = w4 at *
              obtain ⟨us, hus0⟩ : ∃ us : List Value, us = [] := ⟨_, rfl⟩
              have r4 : w4.ownsRow w.heap.size 30 1 (.slice none 0 0) 0 us := by rw [hus0]; exact World.ownsRow_nil _ _ _ _
              have hus : ∀ i, i < 0 → ∃ u, us[i]? = some u ∧ RdI w u cs[i]! := fun i hi => absurd hi (Nat.not_lt_zero _)
              clear hus0 cs0
              have FIN : Hid (∀ v' W', W'.ownsRow w.heap.size 30 1 v' (0 + 1) (us ++ [.slice pv nx cv]) → (w4.alloc (.cells #[.slice pv nx cv] 30)).grownBy W' (Value.slice none 0 0).ownBlock → RdV W' v' (cs ++ [x]) ∧ Gb w W' ∧ At2 W' w2.heap.size C1) := fun v' W' hr hg => by
                have gW' : Gb w W' := below_grown (gb_alloc g4 _) hg (fun g e => (World.ownsRow.lt r4 g e).1) (by rw [World.size_alloc]; have := g4.size; omega)
                have hul : us.length = 0 := by have := r4.1; omega
                have hnb : some w2.heap.size ≠ (Value.slice none 0 0).ownBlock := fun e => by
                  rcases r4.2 with ⟨e2, _⟩ | ⟨g, c, cur, e2, _, h2, _⟩
                  · rw [e2] at e; simp [Value.ownBlock] at e
                  · rw [e2] at e
                    simp only [Value.ownBlock, Option.some.injEq] at e
                    rw [← e] at h2
                    have h3 := S4.blk
                    rw [h3] at h2
                    injection h2 with h2
                    injection h2 with _ h2
                    exact absurd h2 (by decide)
                refine ⟨rdv_own (us := us ++ [.slice pv nx cv]) (by rw [List.length_append, ← N.out]; exact hr) (fun i hi => ?_), gW', ?_⟩
                · rw [List.length_append] at hi
                  by_cases e : i < cs.length
                  · obtain ⟨u', h1, h2⟩ := hus i (by have := N.out; omega)
                    refine ⟨u', by rw [List.getElem?_append_left (by have := N.out; omega)]; exact h1, ?_⟩
                    rw [getElem!_pos (cs ++ [x]) i (by rw [List.length_append]; exact hi), List.getElem_append_left e, ← getElem!_pos cs i e]
                    exact h2.gb gW'
                  · have e' : i = cs.length := by simp at hi; omega
                    subst e'
                    have e2 : (cs ++ [x])[cs.length]! = x := by rw [getElem!_pos _ _ (by simp)]; simp
                    rw [e2]
                    exact ⟨_, by rw [List.getElem?_append_right (by have := N.out; omega), show cs.length - us.length = 0 by have := N.out; omega]; rfl, V.out.gb gW'⟩
                · have hb := hg.block w2.heap.size (by rw [World.size_alloc]; have := S4.at2.c0; have := cell_lt this; dsimp only at this; omega) hnb
                  exact (S4.alloc (.slice pv nx cv) 30).block hb
              have hw0 : w.heap.size ≤ w4.heap.size := g4.size
              have II' := II.out
              go_wp2_with (at_builtin; refine stop_at ?_)
              unfold Stop
              refine wpList_append_own_at _ (by rfl) _ _ 22 (by rfl) w.heap.size 30 i0 (.slice none 0 0) 1 24 Try.underlying22 II'.1 II'.2.1 II'.2.2.1 II'.2.2.2 rfl (by decide) (.slice none 0 0) 0 us (by rfl) (World.ownsRow.alloc r4 _) ⟨w4.heap.size, 0, none⟩ 1 1 [.slice pv nx cv] (by rfl) rfl (cell_one_new _ _ _) (by simp [Value.oneCell']) (by unfold maxLen; omega) (by omega) (by rw [World.size_alloc]; omega) ?_
              intro v5 w5 hown5 hgrow5 hnil5 hloc5
              obtain ⟨R5, G5, A5⟩ := FIN.out v5 w5 hown5 hgrow5
              have c6 := cost_c R5 (T.out.gb G5)
              have G5H : Hid (Gb w w5) := G5
              obtain ⟨p5, k5, e5, _⟩ := R5
              subst e5
              clear hown5 hgrow5 hnil5 hloc5 FIN r4 hus S4 g4 G5
              generalize (cs ++ [x]).length = n5 at *
              generalize hC2 : (if costE (cs ++ [x]) l = 0 then costTo (cs ++ [x]) l l.length else 0) = C2 at *
              generalize hE2 : costE (cs ++ [x]) l = E2 at *
              have H2 : Hid ((if E2 = 0 then costTo (cs ++ [x]) l l.length else 0) = C2) := hC2
              clear hC2 hE2
              go_wp2_with fail
              refine c6.mono ?_
              rintro e w6 ⟨rfl, g6⟩
              clear c6
              have A6 := (A5.gr g6).gr ((Gr.refl w6).alloc #[.int .u64 (hi C2), .int .u64 (lo C2)] 34)
              have B6 : At2 (w6.alloc (.cells #[.int .u64 (hi C2), .int .u64 (lo C2)] 34)) w6.heap.size C2 := At2.new w6 C2 _
              have G6 : Hid (Gb w (w6.alloc (.cells #[.int .u64 (hi C2), .int .u64 (lo C2)] 34))) := gb_alloc (gb_trans G5H.out g6.gb) _
              clear A5 g6
              by_cases hx1 : E1 = 0
              · by_cases hx2 : E2 = 0
                · have cm := CM.out hx1 hx2
                  have h1 := H1.out
                  have h2 := H2.out
                  rw [if_pos hx1] at h1
                  rw [if_pos hx2] at h2
                  rw [h1, h2] at cm
                  have cl := fun W => less_any C1 C2 cm.2 (Nat.lt_of_le_of_lt cm.1 cm.2) W
                  have hnl : decide (C1 < C2) = false := decide_eq_false (by omega)
                  simp only [hnl] at cl
                  obtain ⟨a0, a1, a2, a3⟩ := A6
                  obtain ⟨b0, b1', b2, b3⟩ := B6
                  clear cm h1 h2 hnl H1 H2 CM
                  go_wp2_with (first
                    | (go_at_call 14; refine (awake_c _).mono ?_; rintro e w7 ⟨rfl, g7⟩; have a0 := gb_keeps g7 a0; have a1 := gb_keeps g7 a1; have b0 := gb_keeps g7 b0; have b1' := gb_keeps g7 b1')
                    | (go_at_call 20; refine (cl _).mono ?_; rintro e w8 ⟨rfl, g8⟩))
                  go_ret
                  exact ⟨rfl, gb_trans G6.out (gb_trans g7 g8.gb)⟩
                · have hx2' : (E2 == 0) = false := by rw [beq_eq_false_iff_ne]; exact hx2
                  clear H1 H2 CM A6 B6
                  go_wp2_with (go_at_call 14; refine (awake_c _).mono ?_; rintro e w7 ⟨rfl, g7⟩)
                  go_ret
                  exact ⟨rfl, gb_trans G6.out g7⟩
              · have hx1' : (E1 == 0) = false := by rw [beq_eq_false_iff_ne]; exact hx1
                clear H1 H2 CM A6 B6
                go_wp2_with (go_at_call 14; refine (awake_c _).mono ?_; rintro e w7 ⟨rfl, g7⟩)
                go_ret
                exact ⟨rfl, gb_trans G6.out g7⟩
            · obtain ⟨b, o, epu⟩ : ∃ b o, pu = some ⟨b, o, none⟩ := by obtain ⟨b', o', _, e, _⟩ := cen_at U.out (i := 0) (by have := N.out; omega); exact ⟨b', o', e⟩
              subst epu
              have hnews : ∀ j u, ((List.range n).map (cellu w b o))[j]? = some u → (w2.alloc (.cells #[.int .u64 (hi C1), .int .u64 (lo C1)] 34)).cell? ((⟨b, o, none⟩ : Addr).add j) = some u := fun j u hj => by
                obtain ⟨h1, rfl⟩ := rangeu_some hj
                rw [Addr.add_lit]
                exact gb_keeps G3 (cellu_at U.out (by have := N.out; omega)).1
              have hone : ∀ u ∈ (List.range n).map (cellu w b o), u.oneCell' = true := fun u hu => by
                obtain ⟨j, hj, rfl⟩ := List.mem_map.1 hu
                obtain ⟨_, p, c, e, _⟩ := cellu_at U.out (i := j) (by have := List.mem_range.1 hj; have := N.out; omega)
                rw [e]; rfl
              have II' := II.out
              have hG3 := G3.size
              go_wp2_with (at_builtin; refine stop_at ?_)
              unfold Stop
              refine wpList_append_own_at _ (by rfl) _ _ 22 (by rfl) w.heap.size 30 i0 (.slice none 0 0) 1 24 Try.underlying22 II'.1 II'.2.1 II'.2.2.1 II'.2.2.2 rfl (by decide) (.slice none 0 0) 0 [] (by rfl) (World.ownsRow_nil _ _ _ _) ⟨b, o, none⟩ n cu ((List.range n).map (cellu w b o)) (by rfl) (by simp) hnews hone (by unfold maxLen; omega) (by omega) hG3 ?_
              intro va w4 hown4 hgrow4 hnil4 hloc4
              obtain ⟨us, hus0⟩ : ∃ us : List Value, us = (List.range n).map (cellu w b o) := ⟨_, rfl⟩
              have r4 : w4.ownsRow w.heap.size 30 1 va n us := by rw [hus0]; simpa using hown4
              have hus : ∀ i, i < n → ∃ u, us[i]? = some u ∧ RdI w u cs[i]! := fun i hi => ⟨_, by rw [hus0]; exact rangeu_get _ hi, (cellu_at U.out (by have := N.out; omega)).2⟩
              have g4 : Gb w w4 := below_grown G3 hgrow4 (fun k e => by simp [Value.ownBlock] at e) G3.size
              have S4 : Wb w4 w2.heap.size C1 := (hgrow4.block _ S3.lt (by simp [Value.ownBlock])).trans S3
              clear hus0 hown4 hgrow4 hnil4 hloc4 S3 G3 hnews hone hG3
              obtain ⟨nv, pa, ca, ea⟩ : ∃ nv pa ca, va = .slice pa nv ca := by rcases r4.2 with ⟨e, _⟩ | ⟨g, c, cur, e, _⟩ <;> exact ⟨_, _, _, e⟩
              subst ea
              have FIN : Hid (∀ v' W', W'.ownsRow w.heap.size 30 1 v' (n + 1) (us ++ [.slice pv nx cv]) → (w4.alloc (.cells #[.slice pv nx cv] 30)).grownBy W' (Value.slice pa nv ca).ownBlock → RdV W' v' (cs ++ [x]) ∧ Gb w W' ∧ At2 W' w2.heap.size C1) := fun v' W' hr hg => by
                have gW' : Gb w W' := below_grown (gb_alloc g4 _) hg (fun g e => (World.ownsRow.lt r4 g e).1) (by rw [World.size_alloc]; have := g4.size; omega)
                have hul : us.length = n := by have := r4.1; omega
                have hnb : some w2.heap.size ≠ (Value.slice pa nv ca).ownBlock := fun e => by
                  rcases r4.2 with ⟨e2, _⟩ | ⟨g, c, cur, e2, _, h2, _⟩
                  · rw [e2] at e; simp [Value.ownBlock] at e
                  · rw [e2] at e
                    simp only [Value.ownBlock, Option.some.injEq] at e
                    rw [← e] at h2
                    have h3 := S4.blk
                    rw [h3] at h2
                    injection h2 with h2
                    injection h2 with _ h2
                    exact absurd h2 (by decide)
                refine ⟨rdv_own (us := us ++ [.slice pv nx cv]) (by rw [List.length_append, ← N.out]; exact hr) (fun i hi => ?_), gW', ?_⟩
                · rw [List.length_append] at hi
                  by_cases e : i < cs.length
                  · obtain ⟨u', h1, h2⟩ := hus i (by have := N.out; omega)
                    refine ⟨u', by rw [List.getElem?_append_left (by have := N.out; omega)]; exact h1, ?_⟩
                    rw [getElem!_pos (cs ++ [x]) i (by rw [List.length_append]; exact hi), List.getElem_append_left e, ← getElem!_pos cs i e]
                    exact h2.gb gW'
                  · have e' : i = cs.length := by simp at hi; omega
                    subst e'
                    have e2 : (cs ++ [x])[cs.length]! = x := by rw [getElem!_pos _ _ (by simp)]; simp
                    rw [e2]
                    exact ⟨_, by rw [List.getElem?_append_right (by have := N.out; omega), show cs.length - us.length = 0 by have := N.out; omega]; rfl, V.out.gb gW'⟩
                · have hb := hg.block w2.heap.size (by rw [World.size_alloc]; have := S4.at2.c0; have := cell_lt this; dsimp only at this; omega) hnb
                  exact (S4.alloc (.slice pv nx cv) 30).block hb
              have hw0 : w.heap.size ≤ w4.heap.size := g4.size
              have II' := II.out
              go_wp2_with (at_builtin; refine stop_at ?_)
              unfold Stop
              refine wpList_append_own_at _ (by rfl) _ _ 22 (by rfl) w.heap.size 30 i0 (.slice none 0 0) 1 24 Try.underlying22 II'.1 II'.2.1 II'.2.2.1 II'.2.2.2 rfl (by decide) (.slice pa nv ca) n us (by rfl) (World.ownsRow.alloc r4 _) ⟨w4.heap.size, 0, none⟩ 1 1 [.slice pv nx cv] (by rfl) rfl (cell_one_new _ _ _) (by simp [Value.oneCell']) (by unfold maxLen; omega) (by omega) (by rw [World.size_alloc]; omega) ?_
              intro v5 w5 hown5 hgrow5 hnil5 hloc5
              obtain ⟨R5, G5, A5⟩ := FIN.out v5 w5 hown5 hgrow5
              have c6 := cost_c R5 (T.out.gb G5)
              have G5H : Hid (Gb w w5) := G5
              obtain ⟨p5, k5, e5, _⟩ := R5
              subst e5
              clear hown5 hgrow5 hnil5 hloc5 FIN r4 hus S4 g4 G5
              generalize (cs ++ [x]).length = n5 at *
              generalize hC2 : (if costE (cs ++ [x]) l = 0 then costTo (cs ++ [x]) l l.length else 0) = C2 at *
              generalize hE2 : costE (cs ++ [x]) l = E2 at *
              have H2 : Hid ((if E2 = 0 then costTo (cs ++ [x]) l l.length else 0) = C2) := hC2
              clear hC2 hE2
              go_wp2_with fail
              refine c6.mono ?_
              rintro e w6 ⟨rfl, g6⟩
              clear c6
              have A6 := (A5.gr g6).gr ((Gr.refl w6).alloc #[.int .u64 (hi C2), .int .u64 (lo C2)] 34)
              have B6 : At2 (w6.alloc (.cells #[.int .u64 (hi C2), .int .u64 (lo C2)] 34)) w6.heap.size C2 := At2.new w6 C2 _
              have G6 : Hid (Gb w (w6.alloc (.cells #[.int .u64 (hi C2), .int .u64 (lo C2)] 34))) := gb_alloc (gb_trans G5H.out g6.gb) _
              clear A5 g6
              by_cases hx1 : E1 = 0
              · by_cases hx2 : E2 = 0
                · have cm := CM.out hx1 hx2
                  have h1 := H1.out
                  have h2 := H2.out
                  rw [if_pos hx1] at h1
                  rw [if_pos hx2] at h2
                  rw [h1, h2] at cm
                  have cl := fun W => less_any C1 C2 cm.2 (Nat.lt_of_le_of_lt cm.1 cm.2) W
                  have hnl : decide (C1 < C2) = false := decide_eq_false (by omega)
                  simp only [hnl] at cl
                  obtain ⟨a0, a1, a2, a3⟩ := A6
                  obtain ⟨b0, b1', b2, b3⟩ := B6
                  clear cm h1 h2 hnl H1 H2 CM
                  go_wp2_with (first
                    | (go_at_call 14; refine (awake_c _).mono ?_; rintro e w7 ⟨rfl, g7⟩; have a0 := gb_keeps g7 a0; have a1 := gb_keeps g7 a1; have b0 := gb_keeps g7 b0; have b1' := gb_keeps g7 b1')
                    | (go_at_call 20; refine (cl _).mono ?_; rintro e w8 ⟨rfl, g8⟩))
                  go_ret
                  exact ⟨rfl, gb_trans G6.out (gb_trans g7 g8.gb)⟩
                · have hx2' : (E2 == 0) = false := by rw [beq_eq_false_iff_ne]; exact hx2
                  clear H1 H2 CM A6 B6
                  go_wp2_with (go_at_call 14; refine (awake_c _).mono ?_; rintro e w7 ⟨rfl, g7⟩)
                  go_ret
                  exact ⟨rfl, gb_trans G6.out g7⟩
              · have hx1' : (E1 == 0) = false := by rw [beq_eq_false_iff_ne]; exact hx1
                clear H1 H2 CM A6 B6
                go_wp2_with (go_at_call 14; refine (awake_c _).mono ?_; rintro e w7 ⟨rfl, g7⟩)
                go_ret
                exact ⟨rfl, gb_trans G6.out g7⟩
end Go.Proofs.Ytgglofeliffgbaa
