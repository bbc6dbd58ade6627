import Derived.Test.YtdmdjmliggjbjaaGreatCtCG
import Derived.Test.YtdmdjmliggjbjaaGreatCt29
/- cert.seenOf. -/
namespace Go.Proofs.YtdmdjmliggjbjaaGreat
open Go.RowKit Go.Sort Go.Maps

theorem seenR_next {g : Int → Int} {rs : List Rw} {q : Nat} (hq : q < rs.length) : seenR g (rs.take (q + 1)) = if g rs[q]!.1 = 1 then seenR g (rs.take q) ++ [rs[q]!] else seenR g (rs.take q) := by
  unfold seenR
  rw [List.take_succ_eq_append_getElem hq, List.filter_append, getElem!_pos rs q hq]
  by_cases h : g rs[q].1 = 1
  · rw [if_pos h]; simp [h]
  · rw [if_neg h]; simp [h]
theorem seenR_len {g : Int → Int} (rs : List Rw) (q : Nat) : (seenR g (rs.take q)).length ≤ q := by
  unfold seenR
  have h1 := List.length_filter_le (fun r : Rw => g r.1 == 1) (rs.take q)
  rw [List.length_take] at h1
  omega
def SeeOut (g : Int → Int) (rs : List Rw) (w : World) (e : Ending) (w' : World) : Prop := ∃ v', e = .returned v' ∧ OwnW w w' w.heap.size v' (seenR g rs) ∧ Gb w w'
theorem happend_new {w W w1 : World} {v : Value} {m : Nat} {o : Obj} {B : Nat} {xs : List Value} (g : Gb w W) (hB : w.heap.size ≤ B) (h1 : W.ownsRow B 46 2 v m xs) (hg : (W.alloc o).grownBy w1 v.ownBlock) : Gb w w1 := by
  refine below_grown (gb_alloc g o) hg (fun k e => ?_) (gb_alloc g o).size
  have := (h1.lt k e).1
  omega
set_option maxRecDepth 100000 in
set_option maxHeartbeats 2000000 in
theorem seen_c {w : World} {v : Value} {rs : List Rw} {M : Nat} {ks : List Int} {g : Int → Int} (hv : RdW w v rs) (hM : MapA Tryz.prog 3 w M ks (fun x => .int .i64 (g x))) (hk : ∀ i, i < rs.length → rs[i]!.1 ∈ ks ∧ KWf rs[i]!.1) (hn : rs.length ≤ 100000) :
    Calls Tryz.prog 41 #[v, .map (some M)] w fun e w' => SeeOut g rs w e w' := by
  have HM : Hid (MapA Tryz.prog 3 w M ks (fun x => .int .i64 (g x))) := hM
  have HK : Hid (∀ i, i < rs.length → rs[i]!.1 ∈ ks ∧ KWf rs[i]!.1) := hk
  obtain ⟨av, cv, rfl, aV⟩ := hv
  have AV : Hid (∀ i, i < rs.length → ∃ b o u, av = some ⟨b, o, none⟩ ∧ w.cell? ⟨b, o + i * 2, none⟩ = some (.int .i64 rs[i]!.1) ∧ w.cell? ⟨b, o + i * 2 + 1, none⟩ = some u ∧ RdI w u rs[i]!.2) := aV
  obtain ⟨n, hN⟩ : ∃ n, n = rs.length := ⟨_, rfl⟩
  have NN : Hid (n = rs.length) := hN
  rw [← hN] at hn ⊢
  clear aV hN hM hk
  obtain ⟨i0, hi0, hz0, hz1, hz2⟩ := info_partsW
  have II : Hid (Tryz.prog.info? 46 = some i0 ∧ i0.zero = some (.agg #[.int .i64 0, .slice none 0 0]) ∧ i0.size = 2 ∧ i0.bytes = 32) := ⟨hi0, hz0, hz1, hz2⟩
  clear hi0 hz0 hz1 hz2
  go_enter Tryz.func41, Tryz.ntmps41
  go_wp2
  go_loopw [5, 10] (fun sv iv W => ∃ q : Nat, iv = .int .i64 (q : Int) ∧ q ≤ n ∧ Hid (Gb w W ∧ OwnW w W w.heap.size sv (seenR g (rs.take q)))) (fun _ iv _ => n - (intOf iv).toNat)
  case atStart => exact ⟨0, rfl, Nat.zero_le _, Below.refl _ _, by rw [List.take_zero]; exact ownW_nil _ _ _⟩
  case round =>
    obtain ⟨q, rfl, hq, X⟩ := hrel
    by_cases hqn : q < n
    · have hqi : (q : Int) < (n : Int) := by omega
      have hm : q < rs.length := by have := NN.out; omega
      obtain ⟨b, o, u, rfl, c1, c2, c3⟩ := AV.out q hm
      have c1 := gb_keeps X.out.1 c1
      have c2 := gb_keeps X.out.1 c2
      obtain ⟨hxk, hxw⟩ := HK.out q hm
      have C3 : Hid (RdI w u rs[q]!.2) := c3
      obtain ⟨pu, cu, rfl, zu⟩ := c3
      have SR : Hid (seenR g (rs.take (q + 1)) = if g rs[q]!.1 = 1 then seenR g (rs.take q) ++ [rs[q]!] else seenR g (rs.take q)) := seenR_next hm
      obtain ⟨W1, hW1⟩ : ∃ W1, W1 = wr.alloc (.cells #[.int .i64 rs[q]!.1, .slice pu rs[q]!.2.length cu] 46) := ⟨_, rfl⟩
      have G1 : Hid (Gb w W1) := by unfold Hid; rw [hW1]; exact gb_alloc X.out.1 _
      have G2 : Hid (Gb wr W1) := by unfold Hid; rw [hW1]; exact gb_alloc (Below.refl _ _) _
      have lk := (HM.out.same ((G1.out.block M HM.out.lt))).look Tryz.underlying3 Tryz.underlying69 (gzero3 W1) hxw
      rw [if_pos hxk] at lk
      have LE := seenR_len (g := g) rs q
      by_cases hg : g rs[q]!.1 = 1
      · rw [if_pos hg] at SR
        rw [hg] at lk
        obtain ⟨xs, hown, hcells⟩ := X.out.2.gb G2.out
        have CW : Hid (CellsW w xs (seenR g (rs.take q))) := hcells
        have HL : Hid ((seenR g (rs.take q)).length ≤ q ∧ q ≤ 100000) := ⟨LE, by omega⟩
        obtain ⟨x, hx⟩ : ∃ x, x = rs[q]!.1 := ⟨_, rfl⟩
        have HX : Hid (x = rs[q]!.1) := hx
        obtain ⟨p, hp⟩ : ∃ p, p = (seenR g (rs.take q)).length := ⟨_, rfl⟩
        have HP : Hid (p = (seenR g (rs.take q)).length) := hp
        obtain ⟨nx, hnx⟩ : ∃ nx, nx = rs[q]!.2.length := ⟨_, rfl⟩
        rw [← hp] at hown LE HL
        rw [← hx] at lk c1 hxw hxk
        rw [← hx, ← hnx] at hW1
        rw [← hnx] at c2 C3
        have GX : Hid (Gb w wr) := X.out.1
        have SZ := X.out.1.size
        clear hx hp hg hxk hxw zu hm hcells hnx X
        subst hW1
        go_wp2_with (first
          | (at_builtin; refine wpList_append_own_at _ rfl _ _ 22 rfl w.heap.size 46 i0 (.agg #[.int .i64 0, .slice none 0 0]) 2 32 Tryz.underlying22 II.out.1 II.out.2.1 II.out.2.2.1 II.out.2.2.2 rfl (by decide) u5 p xs rfl (hown.alloc _) ⟨wr.heap.size + 1, 0, none⟩ 1 1 [.int .i64 x, .slice pu nx cu] rfl rfl (by first | exact two_cells _ _ _ _ | (have h2 := two_cells (wr.alloc (.cells #[.int .i64 x, .slice pu nx cu] 46)) (.int .i64 x) (.slice pu nx cu) 46; simpa using h2)) (by simp [Value.oneCell']) (by have := HL.out; simp only [maxLen]; omega) (by have := HL.out; omega) (by rw [World.size_alloc, World.size_alloc]; have := SZ; omega) ?_; intro v5 w5 hown5 hgrow5 hnil5 hloc5)
          | go_in)
        have XN : Hid (Gb w w5 ∧ OwnW w w5 w.heap.size v5 (seenR g (rs.take (q + 1)))) := by
          refine ⟨happend_new G1.out (Nat.le_refl _) hown hgrow5, ?_⟩
          rw [SR.out]
          refine ⟨xs ++ [.int .i64 rs[q]!.1, .slice pu nx cu], ?_, ?_⟩
          · rw [List.length_append, ← HP.out, ← HX.out]; exact hown5
          · exact CW.out.snoc (by have := hown.1; rw [← HP.out]; exact this) C3.out
        clear hown hown5 hgrow5 hnil5 hloc5 c1 c2 CW
        go_wp2
        go_roundw
        case rel => exact ⟨q + 1, by first | rfl | go_num, hqn, XN.out⟩
        case measure => simp [intOf]; omega
      · rw [if_neg hg] at SR
        have XN : Hid (Gb w W1 ∧ OwnW w W1 w.heap.size u5 (seenR g (rs.take (q + 1)))) := ⟨G1.out, by rw [SR.out]; exact X.out.2.gb G2.out⟩
        have hg' : (g rs[q]!.1 == 1) = false := by rw [beq_eq_false_iff_ne]; exact hg
        generalize g rs[q]!.1 = z at *
        generalize rs[q]!.1 = x at *
        generalize rs[q]!.2.length = nx at *
        clear X hg hxk hxw C3 zu hm SR LE
        subst hW1
        go_wp2
        go_roundw
        case rel => exact ⟨q + 1, by first | rfl | go_num, hqn, XN.out⟩
        case measure => simp [intOf]; omega
    · have hqi : ¬ (q : Int) < (n : Int) := by omega
      have FO : Hid (SeeOut g rs w (.returned u5) wr) := by
        have h1 := X.out
        rw [List.take_of_length_le (by have := NN.out; omega)] at h1
        exact ⟨u5, rfl, h1.2, h1.1⟩
      clear X
      go_wp2
      go_ret
      exact FO.out
end Go.Proofs.YtdmdjmliggjbjaaGreat

/- slices.IndexFunc and slices.ContainsFunc at regions, with whatever closure. -/
namespace Go.Proofs.YtdmdjmliggjbjaaGreat
open Go.RowKit Go.Sort

/-- A closure that tells p of a region. -/
def RegF (w : World) (fq : Nat) (fv : Array Value) (l : List Reg) (p : Reg → Bool) : Prop :=
  (∀ args W, (callFunc fq args).run Tryz.prog W = .ok (.enter fq args) W) ∧ ∀ r ∈ l, ∀ W, Gb w W → ∀ v, RdR W v r → Calls Tryz.prog fq (#[v] ++ fv) W fun e W' => e = .returned (.bool (p r)) ∧ Gb W W'
def IxR (l : List Reg) (p : Reg → Bool) (w : World) (e : Ending) (w' : World) : Prop := (∃ z : Int, e = .returned (.int .i64 z) ∧ (0 ≤ z ↔ l.any p = true)) ∧ Gb w w'
theorem any_yes {l : List Reg} {p : Reg → Bool} {q : Nat} (hq : q < l.length) (h : p l[q] = true) : l.any p = true := List.any_eq_true.2 ⟨_, List.getElem_mem hq, h⟩
theorem any_no {l : List Reg} {p : Reg → Bool} (h : ∀ q (hq : q < l.length), p l[q] = false) : l.any p = false := by
  rw [List.any_eq_false]
  intro x hx
  obtain ⟨q, hq, rfl⟩ := List.mem_iff_getElem.1 hx
  rw [h q hq]; decide
def NoneTo (l : List Reg) (p : Reg → Bool) (q : Nat) : Prop := ∀ t (ht : t < l.length), t < q → p l[t] = false
set_option maxRecDepth 100000 in
set_option maxHeartbeats 1000000 in
theorem indexR_c {w : World} {v : Value} {l : List Reg} {fq : Nat} {fv : Array Value} {p : Reg → Bool} (hv : RdL w v l) (hn : l.length ≤ 4611686018427387904) (hf : RegF w fq fv l p) :
    Calls Tryz.prog 91 #[v, .func (.func fq) #[] fv] w fun e w' => IxR l p w e w' := by
  obtain ⟨a, cap, rfl, ha⟩ := hv
  have HA : Hid (∀ i (hi' : i < l.length), ∃ b o vl vh vi, a = some ⟨b, o, none⟩ ∧
    w.cell? ⟨b, o + i * 6, none⟩ = some (.int .i64 l[i].S) ∧ w.cell? ⟨b, o + i * 6 + 1, none⟩ = some vl ∧ w.cell? ⟨b, o + i * 6 + 2, none⟩ = some vh ∧ w.cell? ⟨b, o + i * 6 + 3, none⟩ = some (.int .u64 (hi l[i].R)) ∧
    w.cell? ⟨b, o + i * 6 + 4, none⟩ = some (.int .u64 (lo l[i].R)) ∧ w.cell? ⟨b, o + i * 6 + 5, none⟩ = some vi ∧ RdI w vl l[i].L ∧ RdI w vh l[i].H ∧ RdI w vi l[i].I) := ha
  have HF : Hid (RegF w fq fv l p) := hf
  have eg := hf.1
  obtain ⟨n, hN⟩ : ∃ n, n = l.length := ⟨_, rfl⟩
  have N : Hid (n = l.length) := hN
  rw [← hN] at hn ⊢
  clear ha hN hf
  go_enter Tryz.func91, Tryz.ntmps91
  go_wp2
  go_loopw [8] (fun iv W => ∃ q : Nat, iv = .int .i64 (q : Int) ∧ q ≤ n ∧ Hid (NoneTo l p q ∧ Gb w W)) (fun iv _ => n - (intOf iv).toNat)
  case atStart => exact ⟨0, rfl, Nat.zero_le _, fun t _ h => absurd h (Nat.not_lt_zero _), Below.refl _ _⟩
  case round =>
    obtain ⟨q, rfl, hq, X⟩ := hrel
    by_cases hqn : q < n
    · have hqi : (q : Int) < (n : Int) := by omega
      have hm : q < l.length := by have := N.out; omega
      have HM : Hid (q < l.length) := hm
      obtain ⟨b, o, x1, x2, x3, rfl, a0, a1, a2, a3, a4, a5, r1, r2, r3⟩ := HA.out q hm
      have cF := HF.out.2 l[q] (List.getElem_mem hm) wr X.out.2 (rv l[q] x1 x2 x3) ⟨x1, x2, x3, rfl, r1.gb X.out.2, r2.gb X.out.2, r3.gb X.out.2⟩
      have a0 := gb_keeps X.out.2 a0
      have a1 := gb_keeps X.out.2 a1
      have a2 := gb_keeps X.out.2 a2
      have a3 := gb_keeps X.out.2 a3
      have a4 := gb_keeps X.out.2 a4
      have a5 := gb_keeps X.out.2 a5
      obtain ⟨u1, u2, e, z0⟩ := r1; subst e
      obtain ⟨u3, u4, e, z1⟩ := r2; subst e
      obtain ⟨u5, u6, e, z2⟩ := r3; subst e
      obtain ⟨pb, hpb⟩ : ∃ pb, pb = p l[q] := ⟨_, rfl⟩
      have PB : Hid (∀ h : q < l.length, pb = p l[q]) := fun _ => hpb
      rw [← hpb] at cF
      dsimp only [rv] at cF
      generalize l[q].S = S at *
      generalize hi l[q].R = R1 at *
      generalize lo l[q].R = R2 at *
      generalize l[q].L.length = n1 at *
      generalize l[q].H.length = n2 at *
      generalize l[q].I.length = n3 at *
      clear z0 z1 z2 hm hpb
      cases pb with
      | true =>
        have FO : Hid (∀ W, Gb wr W → IxR l p w (.returned (.int .i64 (q : Int))) W) := fun W hg => ⟨⟨q, rfl, fun _ => any_yes HM.out (PB.out HM.out).symm, fun _ => by omega⟩, gb_trans X.out.2 hg⟩
        clear X
        go_wp2_with fail
        go_fit cF
        rintro e w' ⟨rfl, hg⟩
        have FF := FO.out _ hg
        clear cF a0 a1 a2 a3 a4 a5 hg FO
        go_wp2
        go_ret
        exact FF
      | false =>
        have FO : Hid (∀ W, Gb wr W → NoneTo l p (q + 1) ∧ Gb w W) := fun W hg => ⟨fun t ht h => by
          by_cases e : t = q
          · subst e; exact (PB.out ht).symm
          · exact X.out.1 t ht (by omega), gb_trans X.out.2 hg⟩
        clear X
        go_wp2_with fail
        go_fit cF
        rintro e w' ⟨rfl, hg⟩
        have FF : Hid _ := FO.out _ hg
        clear cF a0 a1 a2 a3 a4 a5 hg FO
        go_wp2
        go_roundw
        case rel => exact ⟨q + 1, by first | rfl | go_num, hqn, FF.out⟩
        case measure => simp [intOf]; omega
    · have hqi : ¬ (q : Int) < (n : Int) := by omega
      have FO : Hid (IxR l p w (.returned (.int .i64 (-1))) wr) := ⟨⟨-1, rfl, fun h => absurd h (by decide), fun h => by rw [any_no (fun t ht => X.out.1 t ht (by have := N.out; omega))] at h; cases h⟩, X.out.2⟩
      clear X
      go_wp2
      go_ret
      exact FO.out
set_option maxHeartbeats 1000000 in
theorem containsR_c {w : World} {v : Value} {l : List Reg} {fq : Nat} {fv : Array Value} {p : Reg → Bool} (hv : RdL w v l) (hn : l.length ≤ 4611686018427387904) (hf : RegF w fq fv l p) :
    Calls Tryz.prog 61 #[v, .func (.func fq) #[] fv] w fun e w' => e = .returned (.bool (l.any p)) ∧ Gb w w' := by
  have c := indexR_c hv hn hf
  obtain ⟨a, cap, rfl, zz⟩ := hv
  clear hf zz
  generalize l.length = n at *
  go_enter Tryz.func61, Tryz.ntmps61
  go_wp2_with fail
  go_fit c
  rintro e w' ⟨⟨z, rfl, hz⟩, hg⟩
  have HZ : Hid (decide (0 ≤ z) = l.any p) := by
    unfold Hid
    cases h : l.any p with
    | true => exact decide_eq_true (hz.2 h)
    | false => exact decide_eq_false (fun h0 => by rw [hz.1 h0] at h; cases h)
  clear c hz
  go_wp2
  go_ret
  exact ⟨by rw [← HZ.out]; rfl, hg⟩
end Go.Proofs.YtdmdjmliggjbjaaGreat
