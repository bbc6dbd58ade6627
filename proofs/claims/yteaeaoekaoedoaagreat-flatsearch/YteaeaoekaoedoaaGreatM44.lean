/- The reference's First and TopK. -/
import Derived.Test.YteaeaoekaoedoaaGreatG34
import Derived.Test.YteaeaoekaoedoaaGreatIds
import Derived.Test.YteaeaoekaoedoaaGreatBoxY
namespace Go.Proofs.YteaeaoekaoedoaaGreat
open Go.RowKit Go.Sort Go.Maps

set_option maxHeartbeats 1000000 in
theorem rfirst_c {w : World} {v : Value} {L : List Tk.Ht} (ho : Tk.Own w v L.toArray) (hL : L.length ≤ 4000) (k : Nat) (hk : k ≤ 64) :
    Calls Tryz.prog 33 #[v, .int .i64 (k : Int)] w fun e w' => ∃ v', e = .returned v' ∧ Tk.Rd w' v' (L.take k) ∧ Gb w w' := by
  by_cases h : k < L.length
  · obtain ⟨g, cap, rfl, hcap, lies⟩ := own_sl ho (by omega)
    have RD : Hid (Tk.Rd w (.slice (some ⟨g, 0, none⟩) k cap) (L.take k)) := rd_take lies rfl (Nat.le_of_lt h)
    generalize L.length = n at *
    have hi : (k : Int) < (n : Int) := by omega
    have hc : k ≤ cap := by omega
    have hci : (k : Int) ≤ (cap : Int) := by omega
    clear ho lies
    go_enter Tryz.func33, Tryz.ntmps33
    go_wp2
    go_ret
    exact ⟨_, rfl, RD.out, Below.refl _ _⟩
  · have RD : Hid (Tk.Rd w v (L.take k)) := by
      rw [List.take_of_length_le (by omega)]
      exact Tk.own_rd ho
    obtain ⟨a, c, rfl⟩ := own_fm ho rfl
    generalize L.length = n at *
    have hi : ¬ (k : Int) < (n : Int) := by omega
    clear ho
    go_enter Tryz.func33, Tryz.ntmps33
    go_wp2
    go_ret
    exact ⟨_, rfl, RD.out, Below.refl _ _⟩
set_option maxHeartbeats 1000000 in
theorem rtop_c {w : World} {v u : Value} {rs : List Rw} {q : List Int} (hv : RdW w v rs) (hu : RdI w u q) (hlen : rs.length ≤ 4611686018427387904) (k : Int) :
    Calls Tryz.prog 14 #[v, u, .int .i64 k] w fun e w' => ∃ v', e = .returned (.tuple #[v', .int .i64 (topE rs q k)]) ∧ Gb w w' ∧
      (topE rs q k ≠ 0 → v' = .slice none 0 0) ∧ (topE rs q k = 0 → Tk.Rd w' v' (Tk.firsts k.toNat (hitsOf q rs))) := by
  have ca := rask_c hv hu hlen
  by_cases hz : askE rs q = 0
  · rw [hz] at ca
    have ch := fun W (g : Gb w W) => rhits_c (hv.gb g) (hu.gb g) hz
    have hfew := (askE_zero.1 hz).2.few
    have hLn : (Tk.srt (hitsOf q rs)).length ≤ 4000 := by rw [Tk.srt_len, hitsOf_len]; omega
    have ht : topE rs q k = if 1 ≤ k ∧ k ≤ 64 then 0 else 1 := by unfold topE; rw [if_pos hz]
    rw [ht]
    unfold Tk.firsts
    generalize Tk.srt (hitsOf q rs) = L at *
    obtain ⟨av, cv, rfl, _⟩ := hv
    obtain ⟨au, cu, rfl, _⟩ := hu
    generalize rs.length = n at *
    generalize q.length = m at *
    clear hfew hz ht
    by_cases hk : 1 ≤ k ∧ k ≤ 64
    · rw [if_pos hk]
      obtain ⟨K, rfl⟩ := Int.eq_ofNat_of_zero_le (show 0 ≤ k by omega)
      have k1 : ¬ (K : Int) < 1 := by omega
      have k2 : ¬ 64 < (K : Int) := by omega
      have hK : K ≤ 64 := by omega
      clear hk
      go_enter Tryz.func14, Tryz.ntmps14
      go_wp2_with fail
      refine ca.mono ?_
      rintro e w1 ⟨rfl, g1⟩
      clear ca
      go_wp2_with fail
      refine (ch w1 g1.gb).mono ?_
      rintro e w2 ⟨vl, rfl, o2, g2, _⟩
      have G2 : Hid (Gb w w2) := gb_trans g1.gb g2
      have cf := rfirst_c o2 hLn K hK
      obtain ⟨xa, xc, exv⟩ : ∃ xa xc, vl = .slice xa L.length xc := own_fm o2 rfl
      subst exv
      clear ch g1 g2 o2
      go_wp2_with fail
      refine cf.mono ?_
      rintro e w3 ⟨v3, rfl, rd3, g3⟩
      obtain ⟨x3, c3, e3, _⟩ := rd3.form
      subst e3
      have G3 : Gb w w3 := gb_trans G2.out g3
      clear cf g3
      go_wp2
      go_ret2
      exact ⟨_, rfl, G3, fun h => absurd rfl h, fun _ => by simpa using rd3⟩
    · rw [if_neg hk]
      go_enter Tryz.func14, Tryz.ntmps14
      go_wp2_with fail
      refine ca.mono ?_
      rintro e w1 ⟨rfl, g1⟩
      have G1 := g1.gb
      clear ca ch g1
      by_cases h1 : k < 1
      · go_wp2
        go_ret2
        exact ⟨_, rfl, G1, fun _ => rfl, fun h => absurd h (by decide)⟩
      · have h2 : 64 < k := by omega
        go_wp2
        go_ret2
        exact ⟨_, rfl, G1, fun _ => rfl, fun h => absurd h (by decide)⟩
  · have ht : topE rs q k = askE rs q := by unfold topE; rw [if_neg hz]
    have hz' : (askE rs q == 0) = false := by rw [beq_eq_false_iff_ne]; exact hz
    rw [ht]
    obtain ⟨av, cv, rfl, _⟩ := hv
    obtain ⟨au, cu, rfl, _⟩ := hu
    generalize rs.length = n at *
    generalize q.length = m at *
    generalize askE rs q = z at *
    clear ht
    go_enter Tryz.func14, Tryz.ntmps14
    go_wp2_with fail
    refine ca.mono ?_
    rintro e w1 ⟨rfl, g1⟩
    have G1 := g1.gb
    go_wp2
    go_ret2
    exact ⟨_, rfl, G1, fun _ => rfl, fun h => absurd h hz⟩
end Go.Proofs.YteaeaoekaoedoaaGreat

/- theodolitekeep.Vectors, of rows that are not too long each: the sum. -/
namespace Go.Proofs.YteaeaoekaoedoaaGreat
open Go.RowKit Go.Sort

/-- How many coordinates rows have in all. -/
def coords (rs : List Rw) : Nat := (rs.map fun r => r.2.length).sum
theorem coords_snoc {rs : List Rw} {q : Nat} (hq : q < rs.length) : coords (rs.take (q + 1)) = coords (rs.take q) + rs[q]!.2.length := by
  unfold coords
  rw [List.take_succ_eq_append_getElem hq, List.map_append, List.sum_append, getElem!_pos rs q hq]
  simp
theorem coords_le {rs : List Rw} (q : Nat) : coords (rs.take q) ≤ coords rs := by
  have h : coords rs = coords (rs.take q) + coords (rs.drop q) := by
    unfold coords
    rw [← List.sum_append, ← List.map_append, List.take_append_drop]
  omega
theorem coords_row {rs : List Rw} {i : Nat} (hi : i < rs.length) : rs[i]!.2.length ≤ coords rs := by
  have h1 := coords_snoc hi
  have h2 := coords_le (rs := rs) (i + 1)
  omega
set_option maxHeartbeats 1000000 in
set_option maxRecDepth 100000 in
theorem vects_b {w : World} {v : Value} {rs : List Rw} (h : RdW w v rs) (most : Nat) (hlen : rs.length ≤ 4611686018427387904) (hmost : most ≤ 4611686018427387903) (hrow : ∀ i, i < rs.length → rs[i]!.2.length ≤ 4611686018427387904) :
    Calls Tryz.prog 28 #[v, .int .i64 (most : Int)] w fun e w' => (∃ z : Int, e = .returned (.int .i64 z) ∧ (z ≤ (most : Int) → rs.length + coords rs ≤ most)) ∧ w = w' := by
  obtain ⟨a, cap, rfl, ha⟩ := h
  have A : Hid (∀ i, i < rs.length → ∃ b o u, a = some ⟨b, o, none⟩ ∧ w.cell? ⟨b, o + i * 2, none⟩ = some (.int .i64 rs[i]!.1) ∧ w.cell? ⟨b, o + i * 2 + 1, none⟩ = some u ∧ RdI w u rs[i]!.2) := ha
  obtain ⟨n, hN⟩ : ∃ n, n = rs.length := ⟨_, rfl⟩
  have N : Hid (n = rs.length) := hN
  have HS : Hid (∀ i, i < rs.length → rs[i]!.2.length ≤ 4611686018427387904) := hrow
  rw [← hN] at hlen ⊢
  clear ha hN hrow
  go_enter Tryz.func28, Tryz.ntmps28
  go_wp2
  go_loopw [5, 6] (fun zv iv w' => ∃ (q z : Nat), zv = .int .i64 (z : Int) ∧ iv = .int .i64 (q : Int) ∧ q ≤ n ∧ Hid (z = n + coords (rs.take q)) ∧ w = w') (fun _ iv _ => n - (intOf iv).toNat)
  case atStart => exact ⟨0, n, rfl, rfl, Nat.zero_le _, by unfold Hid; simp [coords], rfl⟩
  case round =>
    obtain ⟨q, z, rfl, rfl, hq, Z, rfl⟩ := hrel
    by_cases hqn : q < n
    · have hqi : (q : Int) < (n : Int) := by omega
      by_cases hz : (z : Int) ≤ (most : Int)
      · have hql : q < rs.length := by have := N.out; omega
        obtain ⟨b, o, u, ea, hc, hd, hr⟩ := A.out q hql
        obtain ⟨pu, cu, eu, _⟩ := hr
        subst ea; subst eu
        have hs := coords_snoc hql
        have hZ := Z.out
        have hS := HS.out q hql
        generalize rs[q]!.2.length = k at *
        generalize rs[q]!.1 = x at *
        obtain ⟨y, hy⟩ : ∃ y : Nat, y = z + k := ⟨_, rfl⟩
        have Y : Hid (y = n + coords (rs.take (q + 1))) := by unfold Hid; omega
        have hyb : y ≤ 9223372036854775807 := by omega
        have hyi : (z : Int) + (k : Int) = (y : Int) := by omega
        clear hql hs hZ hS hy Z
        go_wp2
        go_roundw
        case rel => exact ⟨q + 1, y, by first | rfl | go_num, by simp, hqn, Y, by first | rfl | trivial⟩
        case measure => simp [intOf]; omega
      · go_wp2
        go_ret
        exact ⟨⟨_, rfl, fun h => by omega⟩, by first | rfl | trivial⟩
    · have hqi : ¬ (q : Int) < (n : Int) := by omega
      have hZ := Z.out
      rw [List.take_of_length_le (by have := N.out; omega)] at hZ
      have F : Hid ((z : Int) ≤ (most : Int) → n + coords rs ≤ most) := fun h => by omega
      clear Z hZ
      go_wp2
      go_ret
      exact ⟨⟨_, rfl, F.out⟩, by first | rfl | trivial⟩
end Go.Proofs.YteaeaoekaoedoaaGreat

/- theodolitekeep.Ints; the law's own box and ball. -/
namespace Go.Proofs.YteaeaoekaoedoaaGreat
open Go.RowKit Go.Sort

theorem take_snoc {l : List Int} {q : Nat} (h : q < l.length) : l.take (q + 1) = l.take q ++ [l[q]!] := by
  rw [List.take_succ_eq_append_getElem h, getElem!_pos l q h]

set_option maxHeartbeats 2000000 in
set_option maxRecDepth 100000 in
theorem ints_c {w : World} {u v : Value} {l m : List Int} (hu : RdI w u l) (hv : RdI w v m) (hlen : l.length ≤ 4611686018427387904) :
    Calls Tryz.prog 32 #[u, v] w fun e w' => e = .returned (.bool (decide (l = m))) ∧ Gr w w' := by
  obtain ⟨a, ca, rfl, ha⟩ := hu
  obtain ⟨b, cb, rfl, hb⟩ := hv
  by_cases hlm : l.length = m.length
  · have A : Hid (∀ i, i < l.length → ∃ b o, a = some ⟨b, o, none⟩ ∧ w.cell? ⟨b, o + i, none⟩ = some (.int .i64 l[i]!)) := ha
    have B : Hid (∀ i, i < m.length → ∃ b' o, b = some ⟨b', o, none⟩ ∧ w.cell? ⟨b', o + i, none⟩ = some (.int .i64 m[i]!)) := hb
    have L : Hid (l.length = m.length) := hlm
    rw [← hlm]
    obtain ⟨n, hN⟩ : ∃ n, n = l.length := ⟨_, rfl⟩
    have N : Hid (n = l.length) := hN
    rw [← hN] at hlen ⊢
    clear ha hb hlm hN
    go_enter Tryz.func32, Tryz.ntmps32
    go_wp2
    go_loopw [5] (fun iv w' => ∃ q : Nat, iv = .int .i64 (q : Int) ∧ q ≤ n ∧ Hid (l.take q = m.take q ∧ Gr w w')) (fun iv _ => n - (intOf iv).toNat)
    case atStart => exact ⟨0, rfl, Nat.zero_le _, ⟨by simp, Gr.refl _⟩⟩
    case round =>
      obtain ⟨q, rfl, hq, X⟩ := hrel
      by_cases hqn : q < n
      · have hql : q < l.length := by have := N.out; omega
        have hqm : q < m.length := by have := L.out; omega
        obtain ⟨b1, o1, ea, h1⟩ := A.out q hql
        obtain ⟨b2, o2, eb, h2⟩ := B.out q hqm
        subst ea; subst eb
        have h1 := X.out.2.keeps h1
        have h2 := X.out.2.keeps h2
        by_cases hxy : l[q]! = m[q]!
        · have R : Hid (l.take (q + 1) = m.take (q + 1)) := by unfold Hid; rw [take_snoc hql, take_snoc hqm, X.out.1, hxy]
          rw [hxy] at h1
          generalize m[q]! = x at *
          clear hxy hql hqm
          go_wp2
          go_quiet (fail)
          go_wp2
          go_roundw
          case rel => exact ⟨q + 1, by simp, hqn, R.out, X.out.2.drewN _⟩
          case measure => simp [intOf]; omega
        · have R : Hid (decide (l = m) = false) := decide_eq_false (fun e => hxy (by rw [e]))
          have hne : (l[q]! == m[q]!) = false := by rw [beq_eq_false_iff_ne]; exact hxy
          generalize l[q]! = x at *
          generalize m[q]! = y at *
          clear hxy hql hqm
          go_wp2
          go_quiet (fail)
          go_wp2
          go_ret
          exact ⟨by rw [R.out]; rfl, X.out.2.drewN _⟩
      · have R : Hid (decide (l = m) = true) := by
          have e := X.out.1
          have h1 := N.out
          have h2 := L.out
          rw [List.take_of_length_le (by omega), List.take_of_length_le (by omega)] at e
          exact decide_eq_true e
        go_wp2
        go_ret
        exact ⟨by rw [R.out]; rfl, X.out.2⟩
  · have R : Hid (decide (l = m) = false) := decide_eq_false (fun e => hlm (by rw [e]))
    have hne : ((l.length : Int) == (m.length : Int)) = false := by rw [beq_eq_false_iff_ne]; omega
    generalize l.length = n1 at *
    generalize m.length = n2 at *
    clear ha hb hlm
    go_enter Tryz.func32, Tryz.ntmps32
    go_wp2
    go_ret
    exact ⟨by rw [R.out]; rfl, Gr.refl _⟩
theorem ints_v {w : World} {u v : Value} {l m : List Int} (hu : RdI w u l) (hv : RdI w v m) (hlen : l.length ≤ 4611686018427387904) (r : Bool) (hr : decide (l = m) = r) :
    Calls Tryz.prog 32 #[u, v] w fun e w' => e = .returned (.bool r) ∧ Gr w w' := by
  subst hr; exact ints_c hu hv hlen

theorem rdi_two (W : World) (x y : Int) : RdI (W.alloc (.cells #[.int .i64 x, .int .i64 y] 3)) (.slice (some ⟨W.heap.size, 0, none⟩) 2 2) [x, y] := by
  refine ⟨_, 2, rfl, fun i hi => ⟨W.heap.size, 0, rfl, ?_⟩⟩
  have : i = 0 ∨ i = 1 := by simp at hi; omega
  rcases this with rfl | rfl <;> simp [go_sem]
theorem rdi_one (W : World) (x : Int) : RdI (W.alloc (.cells #[.int .i64 x] 3)) (.slice (some ⟨W.heap.size, 0, none⟩) 1 1) [x] := by
  refine ⟨_, 1, rfl, fun i hi => ⟨W.heap.size, 0, rfl, ?_⟩⟩
  have : i = 0 := by simp at hi; omega
  subst this; simp [go_sem]
end Go.Proofs.YteaeaoekaoedoaaGreat
