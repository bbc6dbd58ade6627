/- The reference's Clone: the walk. -/
import Derived.Test.YtkagnoinifffdaaRx35
namespace Go.Proofs.Ytkagnoinifffdaa
open Go.RowKit Go.Lib Go.Maps

variable {w w' W X : World} {p P : Nat} {q q' : Dq} {nu : List Int} {r : Rf} {L : List (Value × Nat)} {fv nv sv cv : Value} {F G B : Nat → Prop}
set_option maxHeartbeats 8000000 in
set_option maxRecDepth 100000 in
theorem rclone_r (h : RfD w p q G B) (ok : q.Ok) (hi : q.Inj) (hst : q.st < 10000) : Calls Try.prog 14 #[.pointer (some ⟨p, 0, none⟩)] w fun e w' => e = .returned (.pointer (some ⟨w.heap.size, 0, none⟩)) ∧ RfC w w' w.heap.size q B := by
  obtain ⟨nu, r, L, fv, nv, sv, cv, h, hr, hG, hB⟩ := h
  obtain ⟨⟨c0, c1, c2, c3, c4, c5, c6⟩, _⟩ := h.cells
  have hp := h.lt
  have ln := hr.nm.len hi.now.ks
  have l1 := ok.nmL
  have l2 := hr.sf.len (hi.at_ 0).ks
  have l3 := ok.sfL
  have l4 := hr.cl
  have l5 := hr.le
  obtain ⟨fa, fc, rfl⟩ := row_fm h.fls
  obtain ⟨ca, cc, rfl⟩ := row_fm h.chs
  obtain ⟨na, nc, en⟩ := row_fm h.nms
  obtain ⟨sa, sc, es⟩ := row_fm h.sfs
  have W0 : Hid (Cl1 w q L nv sv (.slice ca r.ch.length cc) 0 none 0 (w.alloc (.cells #[.int .i64 q.room, .slice none 0 0, nv, sv, .slice ca r.ch.length cc, .int .i64 (q.st : Int), .int .i64 q.lf] 68))) := ⟨heap_alloc_new _ _, World.ownsRow_nil _ _ _ _, fun k e => by simp [Value.ownBlock] at e, gb_alloc (Below.refl _ _) _⟩
  have RD1 : Hid (∀ i fa' fc' X, Cl1 w q L nv sv (.slice ca r.ch.length cc) i fa' fc' X → X.cell? ⟨p, 1, none⟩ = some (.slice fa L.length fc) ∧ X.cell? ⟨w.heap.size, 1, none⟩ = some (.slice fa' i fc') ∧ p < X.heap.size ∧ w.heap.size < X.heap.size) := fun i fa' fc' X hC => by
    obtain ⟨h1, _, _, g⟩ := hC
    unfold dkO at h1
    exact ⟨(h.g g).cells.1.2.1, by simp [World.cell?, h1], (h.g g).lt, (Array.getElem?_eq_some_iff.1 h1).1⟩
  have RE1 : Hid (∀ i, i < L.length → ∃ g, fa = some ⟨g, 0, none⟩ ∧ ∃ b m c, ∀ fa' fc' X, Cl1 w q L nv sv (.slice ca r.ch.length cc) i fa' fc' X → (X.cell? ⟨g, i * 2, none⟩ = some (.slice b m c) ∧ X.cell? ⟨g, i * 2 + 1, none⟩ = some (.int .i64 (L[i]!.2 : Int)) ∧ g < X.heap.size) ∧
      ∃ ax c4 W4, (Builtin.append_ #[64, 64] 64 #[.slice fa' i fc', .slice (some ⟨X.heap.size, 0, none⟩) 1 1]).run Try.prog (X.drew.alloc (.cells #[.slice b m c, .int .i64 (L[i]!.2 : Int)] 78)) = .ok (.slice ax (i + 1) c4) W4 ∧
        (∃ z, W4.cell? ⟨w.heap.size, 1, none⟩ = some z) ∧ W4.frozen? ⟨w.heap.size, 1, none⟩ = false ∧ w.heap.size < W4.heap.size ∧ Hid (Cl1 w q L nv sv (.slice ca r.ch.length cc) (i + 1) ax c4 (W4.setCell ⟨w.heap.size, 1, none⟩ (.slice ax (i + 1) c4)))) := fun i hil => by
    obtain ⟨a, cap, ev, ha⟩ := h.files
    obtain ⟨g, e1, k1, k2, _, b, c, eb⟩ := ha i (by rw [← h.len]; exact hil)
    have b2 := (h.byt i hil).2.1
    rw [← b2] at k2
    have e3 : a = fa := (Value.slice.inj ev).1.symm
    refine ⟨g, by rw [← e3, e1], b, _, c, fun fa' fc' X hC => ⟨⟨?_, gb_keeps hC.2.2.2 k2, cell_lt (gb_keeps hC.2.2.2 k2)⟩, cl1_next hC hil (by rw [h.len]; omega) eb⟩⟩
    have := gb_keeps hC.2.2.2 k1
    exact this.trans (congrArg some eb)
  have WN : Hid (∀ fa' fc' X, Cl1 w q L nv sv (.slice ca r.ch.length cc) L.length fa' fc' X → X.cell? ⟨p, 2, none⟩ = some nv ∧ Calls Try.prog 42 #[nv, .string ByteArray.empty] X fun e X2 => ∃ b m d, e = .returned (.slice b m d) ∧ (∃ z, X2.cell? ⟨w.heap.size, 2, none⟩ = some z) ∧ X2.frozen? ⟨w.heap.size, 2, none⟩ = false ∧ w.heap.size < X2.heap.size ∧
      (X2.setCell ⟨w.heap.size, 2, none⟩ (.slice b m d)).cell? ⟨p, 3, none⟩ = some sv ∧ p < X2.heap.size ∧ Hid (Calls Try.prog 42 #[sv, .string ByteArray.empty] (X2.setCell ⟨w.heap.size, 2, none⟩ (.slice b m d)) fun e X3 => ∃ b' m' d', e = .returned (.slice b' m' d') ∧ (∃ z, X3.cell? ⟨w.heap.size, 3, none⟩ = some z) ∧ X3.frozen? ⟨w.heap.size, 3, none⟩ = false ∧ w.heap.size < X3.heap.size ∧
        (∃ z, (X3.setCell ⟨w.heap.size, 3, none⟩ (.slice b' m' d')).cell? ⟨w.heap.size, 4, none⟩ = some z) ∧ (X3.setCell ⟨w.heap.size, 3, none⟩ (.slice b' m' d')).frozen? ⟨w.heap.size, 4, none⟩ = false ∧ Hid (Cl2 w q r L (.slice fa' L.length fc') (.slice b m d) (.slice b' m' d') 0 none 0 ((X3.setCell ⟨w.heap.size, 3, none⟩ (.slice b' m' d')).setCell ⟨w.heap.size, 4, none⟩ (.slice none 0 0))))) := fun fa' fc' X hC => by
    obtain ⟨h1, hf, hfk, g⟩ := hC
    unfold dkO at h1
    have hX := h.g g
    have hPX : w.heap.size < X.heap.size := (Array.getElem?_eq_some_iff.1 h1).1
    have np : w.heap.size ≠ p := by omega
    refine ⟨hX.cells.1.2.2.1, (rwithout_c (x := []) hX.nms (by omega)).mono ?_⟩
    rintro e X2 ⟨v', rfl, o, g2⟩
    obtain ⟨b, d, e⟩ := row_fm o
    subst e
    have blk2 := (g2.block _ hPX).trans h1
    have gX2 := gb_trans g g2
    have s2 := g2.size
    have gX2s : Gb w (X2.setCell ⟨w.heap.size, 2, none⟩ (.slice b (woR r.nm []).length d)) := gb_set gX2 (Nat.le_refl _) _
    have blk2s : (X2.setCell ⟨w.heap.size, 2, none⟩ (.slice b (woR r.nm []).length d)).heap[w.heap.size]? = some (.cells #[.int .i64 q.room, .slice fa' L.length fc', .slice b (woR r.nm []).length d, sv, .slice ca r.ch.length cc, .int .i64 (q.st : Int), .int .i64 q.lf] 68 (0, 0)) := by rw [heap_set0 blk2]; rfl
    refine ⟨b, _, d, rfl, ⟨_, by simp [World.cell?, blk2]; rfl⟩, by simp [World.frozen?, blk2], by omega, (World.cell?_setCell_far _ _ _ _ np).trans (h.g gX2).cells.1.2.2.2.1, (h.g gX2).lt, ?_⟩
    refine (rwithout_c (x := []) (h.g gX2s).sfs (by omega)).mono ?_
    rintro e X3 ⟨v'', rfl, o3, g3⟩
    obtain ⟨b', d', e⟩ := row_fm o3
    subst e
    have sz2 : (X2.setCell ⟨w.heap.size, 2, none⟩ (.slice b (woR r.nm []).length d)).heap.size = X2.heap.size := World.size_setCell _ _ _
    have blk3 := (g3.block w.heap.size (by omega)).trans blk2s
    have s3 := g3.size
    have gX3 := gb_trans gX2s g3
    have blk4 : (X3.setCell ⟨w.heap.size, 3, none⟩ (.slice b' (woR r.sf []).length d')).heap[w.heap.size]? = some (.cells #[.int .i64 q.room, .slice fa' L.length fc', .slice b (woR r.nm []).length d, .slice b' (woR r.sf []).length d', .slice ca r.ch.length cc, .int .i64 (q.st : Int), .int .i64 q.lf] 68 (0, 0)) := by rw [heap_set0 blk3]; rfl
    have k3 : ∀ k, k ≠ w.heap.size → ((X3.setCell ⟨w.heap.size, 3, none⟩ (.slice b' (woR r.sf []).length d')).setCell ⟨w.heap.size, 4, none⟩ (.slice none 0 0)).heap[k]? = X3.heap[k]? := fun k hk => by rw [Below.heap_setCell _ _ _ _ hk, Below.heap_setCell _ _ _ _ hk]
    have k2 : ∀ k, k < X2.heap.size → k ≠ w.heap.size → ((X3.setCell ⟨w.heap.size, 3, none⟩ (.slice b' (woR r.sf []).length d')).setCell ⟨w.heap.size, 4, none⟩ (.slice none 0 0)).heap[k]? = X2.heap[k]? := fun k hk hne => (k3 k hne).trans ((g3.block k (by omega)).trans (Below.heap_setCell _ _ _ _ hne))
    refine ⟨b', _, d', rfl, ⟨_, by simp [World.cell?, blk3]; rfl⟩, by simp [World.frozen?, blk3], by omega, ⟨_, by simp [World.cell?, blk4]; rfl⟩, by simp [World.frozen?, blk4], ?_⟩
    refine ⟨by rw [heap_set0 blk4]; rfl, ?_, hfk, ?_, ?_, World.ownsRow_nil _ _ _ _, fun k e => by simp [Value.ownBlock] at e, gb_set (gb_set gX3 (Nat.le_refl _) _) (Nat.le_refl _) _⟩
    · rw [List.take_length] at hf
      refine row_same hf fun k e => ?_
      have lt := (World.ownsRow.lt hf k e).2
      have := hfk k e
      exact (k2 k (by omega) (by omega)).trans (g2.block k lt)
    · have o' := o.mono (show w.heap.size + 1 ≤ X.heap.size from hPX)
      refine row_same o' fun k e => ?_
      have lt := World.ownsRow.lt o' k e
      exact k2 k lt.2 (by omega)
    · have o' := o3.mono (show w.heap.size + 1 ≤ _ by rw [sz2]; omega)
      refine row_same o' fun k e => ?_
      have lt := World.ownsRow.lt o' k e
      exact k3 k (by omega)
  have RD2 : Hid (∀ (u1 u2 u3 : Value) i ca' cc' X, Cl2 w q r L u1 u2 u3 i ca' cc' X → X.cell? ⟨p, 4, none⟩ = some (.slice ca r.ch.length cc) ∧ X.cell? ⟨w.heap.size, 4, none⟩ = some (.slice ca' i cc') ∧ p < X.heap.size ∧ w.heap.size < X.heap.size) := fun u1 u2 u3 i fa' fc' X hC => by
    obtain ⟨h1, _, _, _, _, _, _, g⟩ := hC
    unfold dkO at h1
    exact ⟨(h.g g).cells.1.2.2.2.2.1, by simp [World.cell?, h1], (h.g g).lt, (Array.getElem?_eq_some_iff.1 h1).1⟩
  have RE2 : Hid (∀ i, i < r.ch.length → ∃ g, ca = some ⟨g, 0, none⟩ ∧ ∀ (u1 u2 u3 : Value) ca' cc' X, Cl2 w q r L u1 u2 u3 i ca' cc' X → (X.cell? ⟨g, i * 4, none⟩ = some (.int .i64 r.ch[i]!.1) ∧ X.cell? ⟨g, i * 4 + 1, none⟩ = some (.string (sb r.ch[i]!.2.1)) ∧ X.cell? ⟨g, i * 4 + 2, none⟩ = some (.string (sb r.ch[i]!.2.2.1)) ∧ X.cell? ⟨g, i * 4 + 3, none⟩ = some (.int .i64 (r.ch[i]!.2.2.2 : Int)) ∧ g < X.heap.size) ∧
      ∃ ax c4 W4, (Builtin.append_ #[66, 66] 66 #[.slice ca' i cc', .slice (some ⟨X.heap.size, 0, none⟩) 1 1]).run Try.prog (ChW X.drew r.ch[i]!.1 (sb r.ch[i]!.2.1) (sb r.ch[i]!.2.2.1) (r.ch[i]!.2.2.2 : Int)) = .ok (.slice ax (i + 1) c4) W4 ∧
        (∃ z, W4.cell? ⟨w.heap.size, 4, none⟩ = some z) ∧ W4.frozen? ⟨w.heap.size, 4, none⟩ = false ∧ w.heap.size < W4.heap.size ∧ Hid (Cl2 w q r L u1 u2 u3 (i + 1) ax c4 (W4.setCell ⟨w.heap.size, 4, none⟩ (.slice ax (i + 1) c4)))) := fun i hil => by
    rcases id h.chs.2 with ⟨e, e0⟩ | ⟨g, cap', cur, e, _⟩
    · omega
    · obtain ⟨e1, _, _⟩ := Value.slice.inj e
      refine ⟨g, e1, fun u1 u2 u3 ca' cc' X hC => ⟨?_, cl2_next hC hil (by omega)⟩⟩
      have gX := hC.2.2.2.2.2.2.2
      have key : ∀ j u, (rcV r.ch[i]!)[j]? = some u → j < 4 → X.cell? ⟨g, i * 4 + j, none⟩ = some u := fun j u hj hj4 => by
        have := World.ownsRow.cells h.chs (g := g) (by rw [e1]; rfl) (i * 4 + j) u (by rw [fm_get rcV 4 (fun _ => rfl) r.ch i j hil hj4]; exact hj)
        rw [Addr.add_lit, Nat.zero_add] at this
        exact gb_keeps gX this
      have k0 := key 0 _ rfl (by omega)
      exact ⟨k0, key 1 _ rfl (by omega), key 2 _ rfl (by omega), key 3 _ rfl (by omega), cell_lt k0⟩
  have FI : Hid (∀ (u1 u2 u3 : Value) ca' cc' X, Cl2 w q r L u1 u2 u3 r.ch.length ca' cc' X → RfC w X w.heap.size q B) := fun u1 u2 u3 ca' cc' X hC => cl_end hC h hr ok hB
  have hL : L.length ≤ 10000 := by rw [h.len]; omega
  have hC : r.ch.length ≤ 10000 := by omega
  clear h hr hG hB ok hi hst ln l1 l2 l3 l4 l5
  subst en
  subst es
  generalize hnL : L.length = nL at *
  generalize hnC : r.ch.length = nC at *
  generalize r.nm.length = m1 at *
  generalize r.sf.length = m2 at *
  have W0' : Hid _ := W0.out
  generalize hq5 : (q.st : Int) = q5 at *
  go_enter Try.func14, Try.ntmps14
  go_wp2
  generalize (w.alloc (.cells #[.int .i64 q.room, .slice none 0 0, .slice na m1 nc, .slice sa m2 sc, .slice ca nC cc, .int .i64 q5, .int .i64 q.lf] 68)) = X0 at *
  --@a
  go_loopw [4] (fun iv W => ∃ i : Nat, ∃ fa' fc', iv = .int .i64 (i : Int) ∧ i ≤ nL ∧ Hid (Cl1 w q L (.slice na m1 nc) (.slice sa m2 sc) (.slice ca nC cc) i fa' fc' W)) (fun iv _ => nL - (intOf iv).toNat)
  case atStart => exact ⟨0, none, 0, rfl, Nat.zero_le _, W0.out⟩
  case round =>
    clear W0 W0'
    obtain ⟨i, fa', fc', rfl, hiL, X⟩ := hrel
    obtain ⟨x1, x2, x3, x4⟩ := RD1.out _ _ _ _ X.out
    by_cases hi : i < nL
    · have hii : (i : Int) < (nL : Int) := by omega
      obtain ⟨g, rfl, b, m, c, EE⟩ := RE1.out i hi
      obtain ⟨⟨y0, y1, y2⟩, ax, c4, W4, hr, ⟨z, z1⟩, z2, z3, N1⟩ := EE _ _ _ X.out
      clear EE RD1 RE1 WN RD2 RE2 FI X
      generalize (L[i]!.2 : Int) = s1 at *
      go_wp2
      go_region_law (refine step_append_run rfl (.tmp 20) (.tmp 28) 64 rfl _ _ (by simp [Act.eval]) (by simp [Act.eval]) hr ?_)
      all_goals
        go_wp2
        exact ⟨⟨i + 1, ax, c4, by simp, hi, N1.out⟩, by simp [intOf]; omega⟩
    · obtain rfl : i = nL := by omega
      have hii : ¬ (i : Int) < (i : Int) := by omega
      obtain ⟨v2, CW⟩ := WN.out _ _ _ X.out
      clear RD1 RE1 WN X
      go_wp2_with fail
      refine CW.mono ?_
      rintro e X2 ⟨b, m, d, rfl, ⟨z, z1⟩, z2, z3, z4, z5, CW2⟩
      have CW2 := CW2.out
      clear CW
      go_wp2_with fail
      refine CW2.mono ?_
      rintro e X3 ⟨b', m', d', rfl, ⟨zz, w1⟩, w2, w3, ⟨zz2, w4⟩, w5, C2⟩
      clear CW2
      go_wp2
      generalize (X3.setCell ⟨w.heap.size, 3, none⟩ (.slice b' m' d')).setCell ⟨w.heap.size, 4, none⟩ (.slice none 0 0) = X4 at *
      clear w1 w2 w3 w4 w5 z1 z2 z3 z4 z5 x1 x2 x3 x4 v2
      have C2 : Hid _ := C2.out
      go_loopw [5] (fun iv W => ∃ k : Nat, ∃ ca' cc', iv = .int .i64 (k : Int) ∧ k ≤ nC ∧ Hid (Cl2 w q r L (.slice fa' i fc') (.slice b m d) (.slice b' m' d') k ca' cc' W)) (fun iv _ => nC - (intOf iv).toNat)
      case atStart => exact ⟨0, none, 0, rfl, Nat.zero_le _, C2.out⟩
      case round =>
        clear C2
        obtain ⟨k, ca', cc', rfl, hkC, Y⟩ := hrel
        obtain ⟨x1, x2, x3, x4⟩ := RD2.out _ _ _ _ _ _ _ Y.out
        by_cases hk : k < nC
        · have hki : (k : Int) < (nC : Int) := by omega
          obtain ⟨g, rfl, EE⟩ := RE2.out k hk
          obtain ⟨⟨y0, y1, y2, y3, y4⟩, ax, c4, W4, hr, ⟨z, z1⟩, z2, z3, N1⟩ := EE _ _ _ _ _ _ Y.out
          clear EE RD2 RE2 FI Y
          generalize sb r.ch[k]!.2.1 = s1 at *
          generalize sb r.ch[k]!.2.2.1 = s2 at *
          generalize (r.ch[k]!.2.2.2 : Int) = s3 at *
          generalize r.ch[k]!.1 = s0 at *
          go_wp2
          go_region_law (refine step_append_run rfl (.tmp 54) (.tmp 62) 66 rfl _ _ (by simp [Act.eval]) (by simp [Act.eval]) hr ?_)
          all_goals
            go_wp2
            exact ⟨⟨k + 1, ax, c4, by simp, hk, N1.out⟩, by simp [intOf]; omega⟩
        · obtain rfl : k = nC := by omega
          have hki : ¬ (k : Int) < (k : Int) := by omega
          have FF := FI.out _ _ _ _ _ _ Y.out
          have FF : Hid _ := FF
          clear RD2 RE2 FI Y
          go_wp2
          go_ret
          exact ⟨rfl, FF.out⟩
end Go.Proofs.Ytkagnoinifffdaa
