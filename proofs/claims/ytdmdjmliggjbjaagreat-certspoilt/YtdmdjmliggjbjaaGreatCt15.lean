import Derived.Test.YtdmdjmliggjbjaaGreatCt6
import Derived.Test.YtdmdjmliggjbjaaGreatCt14
import Derived.Deep.RegionWith
import Derived.BigQuiet
import Derived.Laws.AppendOwnNone
/- The reference's find. -/
namespace Go.Proofs.YtdmdjmliggjbjaaGreat
open Go.RowKit Go.Sort

/-- Where the row of an id stands: nowhere, or there. -/
def Fnd (rs : List Rw) (x z : Int) : Prop := (z = -1 ∧ ∀ i, i < rs.length → rs[i]!.1 ≠ x) ∨ ∃ i : Nat, z = (i : Int) ∧ i < rs.length ∧ rs[i]!.1 = x
set_option maxRecDepth 100000 in
set_option maxHeartbeats 1000000 in
theorem rfind_c {w : World} {v : Value} {rs : List Rw} (h : RdW w v rs) (hlen : rs.length ≤ 4611686018427387904) (x : Int) :
    Calls Tryz.prog 47 #[v, .int .i64 x] w fun e w' => (∃ z : Int, e = .returned (.int .i64 z) ∧ Fnd rs x z) ∧ w = w' := by
  obtain ⟨a, cap, rfl, ha⟩ := h
  have A : Hid (∀ i, i < rs.length → ∃ b o u, a = some ⟨b, o, none⟩ ∧ w.cell? ⟨b, o + i * 2, none⟩ = some (.int .i64 rs[i]!.1) ∧ w.cell? ⟨b, o + i * 2 + 1, none⟩ = some u ∧ RdI w u rs[i]!.2) := ha
  obtain ⟨n, hN⟩ : ∃ n, n = rs.length := ⟨_, rfl⟩
  have N : Hid (n = rs.length) := hN
  rw [← hN] at hlen ⊢
  clear ha hN
  go_enter Tryz.func47, Tryz.ntmps47
  go_wp2
  go_loopw [5] (fun iv w' => ∃ q : Nat, iv = .int .i64 (q : Int) ∧ q ≤ n ∧ Hid (∀ i, i < q → rs[i]!.1 ≠ x) ∧ w = w') (fun iv _ => n - (intOf iv).toNat)
  case atStart => exact ⟨0, rfl, Nat.zero_le _, fun i hi => absurd hi (Nat.not_lt_zero _), rfl⟩
  case round =>
    obtain ⟨q, rfl, hq, X, rfl⟩ := hrel
    by_cases hqn : q < n
    · have hqi : (q : Int) < (n : Int) := by omega
      have hql : q < rs.length := by have := N.out; omega
      obtain ⟨b, o, u, ea, hc, _, _⟩ := A.out q hql
      subst ea
      by_cases hx : rs[q]!.1 = x
      · have F : Hid (Fnd rs x (q : Int)) := .inr ⟨q, rfl, hql, hx⟩
        rw [hx] at hc
        clear hql X hx
        go_wp2
        go_ret
        exact ⟨⟨_, rfl, F.out⟩, by first | rfl | trivial⟩
      · have R : Hid (∀ i, i < q + 1 → rs[i]!.1 ≠ x) := fun i hi => by
          by_cases e : i = q
          · rw [e]; exact hx
          · exact X.out i (by omega)
        have hx' : (rs[q]!.1 == x) = false := by rw [beq_eq_false_iff_ne]; exact hx
        generalize rs[q]!.1 = y at hc hx hx'
        clear hql X
        go_wp2
        go_roundw
        case rel => exact ⟨q + 1, by simp, hqn, R, by first | rfl | trivial⟩
        case measure => simp [intOf]; omega
    · have hqi : ¬ (q : Int) < (n : Int) := by omega
      have F : Hid (Fnd rs x (-1)) := .inl ⟨rfl, fun i hi => X.out i (by have := N.out; omega)⟩
      clear X
      go_wp2
      go_ret
      exact ⟨⟨_, rfl, F.out⟩, by first | rfl | trivial⟩
end Go.Proofs.YtdmdjmliggjbjaaGreat

/- What the walks over Times lean on. -/
namespace Go.Proofs.YtdmdjmliggjbjaaGreat
open Go.RowKit

theorem Gr.undrew {w w' : World} (g : Gr w.drew w') : Gr w w' := (Gr.refl w).drew.trans g
/-- plus, its answer under names. -/
theorem plus_ex (n : Nat) (hn : n < 340282366920938463463374607431768211456) (o : Bool) (k v : Nat) (hk : k ≤ 14) (hv : v < 8589934592) (w : World) :
    Calls Tryz.prog 121 #[Nm n o, .int .i64 (k : Int), .int .i64 (v : Int)] w fun e w' => ∃ q : Nat, ∃ p : Bool, e = .returned (Nm q p) ∧ q < 340282366920938463463374607431768211456 ∧
      Hid (q = (n + v * 65536 ^ k) % 340282366920938463463374607431768211456 ∧ p = (o || decide (340282366920938463463374607431768211456 ≤ n + v * 65536 ^ k))) ∧ Gr w w' := by
  refine (plus_any n hn o k v hk hv w).mono ?_
  rintro e w' ⟨rfl, g⟩
  exact ⟨_, _, rfl, Nat.mod_lt _ (by omega), ⟨rfl, rfl⟩, g⟩
/-- What is left of a number that is added to part by part, and whether it was ever too great. -/
theorem sum_step (Y d : Nat) (ov : Bool) (q q' : Nat) (p p' : Bool) (hq : q = Y % 340282366920938463463374607431768211456) (hp : p = (ov || decide (340282366920938463463374607431768211456 ≤ Y)))
    (hq' : q' = (q + d) % 340282366920938463463374607431768211456) (hp' : p' = (p || decide (340282366920938463463374607431768211456 ≤ q + d))) :
    q' = (Y + d) % 340282366920938463463374607431768211456 ∧ p' = (ov || decide (340282366920938463463374607431768211456 ≤ Y + d)) := by
  subst hq hp hq' hp'
  refine ⟨by omega, ?_⟩
  by_cases h : 340282366920938463463374607431768211456 ≤ Y
  · rw [decide_eq_true h, decide_eq_true (show 340282366920938463463374607431768211456 ≤ Y + d by omega)]; simp
  · rw [Nat.mod_eq_of_lt (by omega), decide_eq_false h]; simp
theorem NumAt.zero (w : World) (t : TypeId) : NumAt (w.alloc (.cells #[.int .i64 0, .int .i64 0, .int .i64 0, .int .i64 0, .int .i64 0, .int .i64 0, .int .i64 0, .int .i64 0, .bool false] t)) w.heap.size 0 false := NumAt.new w 0 false t
theorem NumAt.drew {w : World} {B n : Nat} {o : Bool} (h : NumAt w B n o) : NumAt w.drew B n o := h.call (Gr.refl _).drew

end Go.Proofs.YtdmdjmliggjbjaaGreat

/- The reference's Times, as a contract. -/
namespace Go.Proofs.YtdmdjmliggjbjaaGreat
open Go.RowKit

theorem plus_sum (n : Nat) (hn : n < 340282366920938463463374607431768211456) (o : Bool) (i k v : Nat) (hk : i + k ≤ 14) (hv : v < 8589934592) (w : World) :
    Calls Tryz.prog 121 #[Nm n o, .int .i64 ((i : Int) + (k : Int)), .int .i64 (v : Int)] w fun e w' => ∃ q : Nat, ∃ p : Bool, e = .returned (Nm q p) ∧ q < 340282366920938463463374607431768211456 ∧
      Hid (q = (n + v * 65536 ^ (i + k)) % 340282366920938463463374607431768211456 ∧ p = (o || decide (340282366920938463463374607431768211456 ≤ n + v * 65536 ^ (i + k)))) ∧ Gr w w' := by
  have := plus_ex n hn o (i + k) v hk hv w
  rw [Int.natCast_add] at this; exact this
/-- One digit's product more. -/
theorem times_step (n m i k e f v Y : Nat) (hf : f = m / 65536 ^ k % 65536) (hv : v = e * f) (hY : Y = n % 65536 ^ i * m + e * 65536 ^ i * (m % 65536 ^ k)) :
    Y + v * 65536 ^ (i + k) = n % 65536 ^ i * m + e * 65536 ^ i * (m % 65536 ^ (k + 1)) := by
  subst hY hv
  rw [Nat.pow_succ, Nat.mod_mul, ← hf, Nat.mul_add, Nat.pow_add, Nat.add_assoc]
  congr 2
  rw [Nat.mul_mul_mul_comm, Nat.mul_comm f, Nat.mul_assoc e]
theorem times_row (n m i e Y : Nat) (hm : m < 340282366920938463463374607431768211456) (he : e = n / 65536 ^ i % 65536) (hY : Y = n % 65536 ^ i * m + e * 65536 ^ i * (m % 65536 ^ 8)) : Y = n % 65536 ^ (i + 1) * m := by
  subst hY
  rw [Nat.mod_eq_of_lt (show m < 65536 ^ 8 from hm), Nat.pow_succ, Nat.mod_mul, ← he, Nat.add_mul, Nat.mul_comm e]

set_option maxHeartbeats 4000000 in
theorem times_false (n m : Nat) (hn : n < 340282366920938463463374607431768211456) (hm : m < 340282366920938463463374607431768211456) (o2 : Bool) (w : World) :
    Calls Tryz.prog 104 #[Nm n false, Nm m o2] w fun e w' =>
      e = .returned (Nm (n * m % 340282366920938463463374607431768211456) (o2 || decide (340282366920938463463374607431768211456 ≤ n * m))) ∧ Gr w w' := by
  have n0 := NumAt.new w n false 105
  have n1 := NumAt.new (w.alloc (.cells #[.int .i64 (dd n 0), .int .i64 (dd n 1), .int .i64 (dd n 2), .int .i64 (dd n 3), .int .i64 (dd n 4), .int .i64 (dd n 5), .int .i64 (dd n 6), .int .i64 (dd n 7), .bool false] 105)) m o2 105
  have n2 := NumAt.zero ((w.alloc (.cells #[.int .i64 (dd n 0), .int .i64 (dd n 1), .int .i64 (dd n 2), .int .i64 (dd n 3), .int .i64 (dd n 4), .int .i64 (dd n 5), .int .i64 (dd n 6), .int .i64 (dd n 7), .bool false] 105)).alloc (.cells #[.int .i64 (dd m 0), .int .i64 (dd m 1), .int .i64 (dd m 2), .int .i64 (dd m 3), .int .i64 (dd m 4), .int .i64 (dd m 5), .int .i64 (dd m 6), .int .i64 (dd m 7), .bool o2] 105)) 105
  have n3 := NumAt.new (((w.alloc (.cells #[.int .i64 (dd n 0), .int .i64 (dd n 1), .int .i64 (dd n 2), .int .i64 (dd n 3), .int .i64 (dd n 4), .int .i64 (dd n 5), .int .i64 (dd n 6), .int .i64 (dd n 7), .bool false] 105)).alloc (.cells #[.int .i64 (dd m 0), .int .i64 (dd m 1), .int .i64 (dd m 2), .int .i64 (dd m 3), .int .i64 (dd m 4), .int .i64 (dd m 5), .int .i64 (dd m 6), .int .i64 (dd m 7), .bool o2] 105)).alloc (.cells #[.int .i64 0, .int .i64 0, .int .i64 0, .int .i64 0, .int .i64 0, .int .i64 0, .int .i64 0, .int .i64 0, .bool false] 105)) 0 o2 105
  simp only [World.size_alloc] at n1 n2 n3
  go_enter Tryz.func104, Tryz.ntmps104
  go_wp2
  go_loopw [6] (fun iv w' => ∃ i Y q : Nat, ∃ p : Bool, iv = .int .i64 (i : Int) ∧ i ≤ 8 ∧ q < 340282366920938463463374607431768211456 ∧ Hid (Y = n % 65536 ^ i * m) ∧ Hid (q = Y % 340282366920938463463374607431768211456 ∧ p = (o2 || decide (340282366920938463463374607431768211456 ≤ Y))) ∧ Gr w w' ∧ NumAt w' w.heap.size n false ∧ NumAt w' (w.heap.size + 1) m o2 ∧ NumAt w' (w.heap.size + 1 + 1) 0 false ∧ NumAt w' (w.heap.size + 1 + 1 + 1) q p) (fun iv _ => 8 - (intOf iv).toNat)
  case atStart =>
    refine ⟨0, 0, 0, o2, rfl, by omega, by omega, by show 0 = n % 65536 ^ 0 * m; rw [Nat.pow_zero, Nat.mod_one, Nat.zero_mul], ⟨rfl, by rw [decide_eq_false (by omega)]; simp⟩, ((((Gr.refl _).alloc _ _).alloc _ _).alloc _ _).alloc _ _, ((n0.call ((Gr.refl _).alloc _ _)).call ((Gr.refl _).alloc _ _)).call ((Gr.refl _).alloc _ _), (n1.call ((Gr.refl _).alloc _ _)).call ((Gr.refl _).alloc _ _), n2.call ((Gr.refl _).alloc _ _), n3⟩
  case round =>
    clear n0 n1 n2 n3
    obtain ⟨i, Y, q, p, rfl, hi8, hq, HY, X, hG, hN, hM, hR, hO⟩ := hrel
    by_cases hi : i < 8
    · obtain ⟨e, he, he1, he2⟩ := dd_nat n i
      have E2 : Hid (e = n / 65536 ^ i % 65536) := he2
      have hcn := hN.d i hi
      rw [he] at hcn
      clear he he2
      have hib : decide ((i : Int) < 8) = true := by simp; omega
      go_wp2
      go_loopw [7] (fun kv w' => ∃ k Y q : Nat, ∃ p : Bool, kv = .int .i64 (k : Int) ∧ k ≤ 8 ∧ q < 340282366920938463463374607431768211456 ∧ Hid (Y = n % 65536 ^ i * m + e * 65536 ^ i * (m % 65536 ^ k)) ∧ Hid (q = Y % 340282366920938463463374607431768211456 ∧ p = (o2 || decide (340282366920938463463374607431768211456 ≤ Y))) ∧ Gr w w' ∧ NumAt w' w.heap.size n false ∧ NumAt w' (w.heap.size + 1) m o2 ∧ NumAt w' (w.heap.size + 1 + 1) 0 false ∧ NumAt w' (w.heap.size + 1 + 1 + 1) q p) (fun kv _ => 8 - (intOf kv).toNat)
      case atStart =>
        exact ⟨0, Y, q, p, rfl, by omega, hq, by unfold Hid; rw [Nat.pow_zero, Nat.mod_one, Nat.mul_zero, Nat.add_zero]; exact HY.out, X, hG, hN, hM, hR, hO⟩
      case round =>
        clear HY X hG hN hM hR hO hcn hq
        obtain ⟨k, Y, q, p, rfl, hk8, hq, HY, X, hG, hN, hM, hR, hO⟩ := hrel
        by_cases hk : k < 8
        · obtain ⟨f, hf, hf1, hf2⟩ := dd_nat m k
          have hcn := hN.d i hi
          have hcm := hM.d k hk
          obtain ⟨e', he', he1', he2'⟩ := dd_nat n i
          obtain rfl : e' = e := by rw [he2', E2.out]
          rw [he'] at hcn
          rw [hf] at hcm
          have hvb : e' * f ≤ 65535 * 65535 := Nat.mul_le_mul (by omega) (by omega)
          obtain ⟨v, hv⟩ : ∃ v : Nat, v = e' * f := ⟨_, rfl⟩
          have hvI : (e' : Int) * (f : Int) = (v : Int) := by rw [hv, Int.natCast_mul]
          have hvb' : v < 4294967296 := by omega
          have HS : Hid (Y + v * 65536 ^ (i + k) = n % 65536 ^ i * m + e' * 65536 ^ i * (m % 65536 ^ (k + 1))) := times_step n m i k e' f v Y hf2 hv HY.out
          obtain ⟨c0, c1, c2, c3, c4, c5, c6, c7, c8⟩ := hO.cells
          have fo := hO.f 8 (by omega)
          clear hf hf2 he' he2' hv hvb HY
          by_cases hbig : 0 < v ∧ 8 ≤ i + k
          · obtain ⟨hv0, hik⟩ := hbig
            have X' : Hid (q = (Y + v * 65536 ^ (i + k)) % 340282366920938463463374607431768211456 ∧ true = (o2 || decide (340282366920938463463374607431768211456 ≤ Y + v * 65536 ^ (i + k)))) := by
              obtain ⟨x1, x2⟩ := X.out
              obtain ⟨p1, p2⟩ := pow_past (i + k) hik v q hq hv0
              refine ⟨by rw [← p1, x1]; omega, ?_⟩
              have : 340282366920938463463374607431768211456 ≤ Y + v * 65536 ^ (i + k) := by omega
              rw [decide_eq_true this]; simp
            go_wp2
            go_quiet (fail)
            go_wp2
            refine ⟨⟨k + 1, Y + v * 65536 ^ (i + k), q, true, by go_num, by omega, hq, HS, X', (hG.drewN _).setCell (by dsimp only; omega) _, ?_, ?_, ?_, ?_⟩, by simp [intOf]; omega⟩
            · exact (hN.call ((Gr.refl _).drewN _)).far _ _ (by omega) _
            · exact (hM.call ((Gr.refl _).drewN _)).far _ _ (by omega) _
            · exact (hR.call ((Gr.refl _).drewN _)).far _ _ (by omega) _
            · exact (hO.call ((Gr.refl _).drewN _)).setOver true
          · by_cases hv0 : 0 < v
            · have hik : i + k < 8 := by omega
              clear hbig
              go_wp2
              go_quiet (fail)
              go_wp2_with (go_at_call 121; refine (plus_sum q hq p i k v (by omega) (by omega) _).mono ?_; rintro _ w2 ⟨q', p', rfl, hq', Z, g2⟩; have hO2 := (hO.call ((Gr.refl _).drewN _)).call g2; obtain ⟨d0, d1, d2, d3, d4, d5, d6, d7, d8⟩ := hO2.cells; obtain ⟨f0, f1, f2, f3, f4, f5, f6, f7, f8⟩ := hO2.open9)
              go_roundw
              case measure => simp [intOf]; omega
              refine ⟨k + 1, Y + v * 65536 ^ (i + k), q', p', by go_num, by omega, hq', HS, ?_, ((hG.drewN _).trans g2).store9 (by omega) _ _ _ _ _ _ _ _ _, ?_, ?_, ?_, hO2.store q' p'⟩
              · exact sum_step Y (v * 65536 ^ (i + k)) _ q q' p p' X.out.1 X.out.2 Z.out.1 Z.out.2
              · have hN2 := (hN.call ((Gr.refl _).drewN _)).call g2
                exact (((((((((hN2.far _ _ (by omega) _).far _ _ (by omega) _).far _ _ (by omega) _).far _ _ (by omega) _).far _ _ (by omega) _).far _ _ (by omega) _).far _ _ (by omega) _).far _ _ (by omega) _).far _ _ (by omega) _)
              · have hM2 := (hM.call ((Gr.refl _).drewN _)).call g2
                exact (((((((((hM2.far _ _ (by omega) _).far _ _ (by omega) _).far _ _ (by omega) _).far _ _ (by omega) _).far _ _ (by omega) _).far _ _ (by omega) _).far _ _ (by omega) _).far _ _ (by omega) _).far _ _ (by omega) _)
              · have hR2 := (hR.call ((Gr.refl _).drewN _)).call g2
                exact (((((((((hR2.far _ _ (by omega) _).far _ _ (by omega) _).far _ _ (by omega) _).far _ _ (by omega) _).far _ _ (by omega) _).far _ _ (by omega) _).far _ _ (by omega) _).far _ _ (by omega) _).far _ _ (by omega) _)
            · have hv1 : v ≤ 0 := by omega
              clear hbig
              go_wp2
              go_quiet (fail)
              go_wp2_with (go_at_call 121; refine (plus_sum q hq p i k v (by omega) (by omega) _).mono ?_; rintro _ w2 ⟨q', p', rfl, hq', Z, g2⟩; have hO2 := (hO.call ((Gr.refl _).drewN _)).call g2; obtain ⟨d0, d1, d2, d3, d4, d5, d6, d7, d8⟩ := hO2.cells; obtain ⟨f0, f1, f2, f3, f4, f5, f6, f7, f8⟩ := hO2.open9)
              go_roundw
              case measure => simp [intOf]; omega
              refine ⟨k + 1, Y + v * 65536 ^ (i + k), q', p', by go_num, by omega, hq', HS, ?_, ((hG.drewN _).trans g2).store9 (by omega) _ _ _ _ _ _ _ _ _, ?_, ?_, ?_, hO2.store q' p'⟩
              · exact sum_step Y (v * 65536 ^ (i + k)) _ q q' p p' X.out.1 X.out.2 Z.out.1 Z.out.2
              · have hN2 := (hN.call ((Gr.refl _).drewN _)).call g2
                exact (((((((((hN2.far _ _ (by omega) _).far _ _ (by omega) _).far _ _ (by omega) _).far _ _ (by omega) _).far _ _ (by omega) _).far _ _ (by omega) _).far _ _ (by omega) _).far _ _ (by omega) _).far _ _ (by omega) _)
              · have hM2 := (hM.call ((Gr.refl _).drewN _)).call g2
                exact (((((((((hM2.far _ _ (by omega) _).far _ _ (by omega) _).far _ _ (by omega) _).far _ _ (by omega) _).far _ _ (by omega) _).far _ _ (by omega) _).far _ _ (by omega) _).far _ _ (by omega) _).far _ _ (by omega) _)
              · have hR2 := (hR.call ((Gr.refl _).drewN _)).call g2
                exact (((((((((hR2.far _ _ (by omega) _).far _ _ (by omega) _).far _ _ (by omega) _).far _ _ (by omega) _).far _ _ (by omega) _).far _ _ (by omega) _).far _ _ (by omega) _).far _ _ (by omega) _).far _ _ (by omega) _)
        · have hk9 : k = 8 := by omega
          have HY' : Hid (Y = n % 65536 ^ (i + 1) * m) := times_row n m i e Y hm E2.out (by rw [HY.out, hk9])
          clear HY hk9
          go_wp2
          refine ⟨⟨i + 1, Y, q, p, by go_num, by omega, hq, HY', X, hG, hN, hM, hR, hO⟩, by simp [intOf]; omega⟩
    · have hi9 : i = 8 := by omega
      obtain ⟨r0, r1, r2, r3, r4, r5, r6, r7, r8⟩ := hR.cells
      obtain ⟨f0, f1, f2, f3, f4, f5, f6, f7, f8⟩ := hR.open9
      obtain ⟨c0, c1, c2, c3, c4, c5, c6, c7, c8⟩ := hO.cells
      have E : Hid (q = n * m % 340282366920938463463374607431768211456 ∧ p = (o2 || decide (340282366920938463463374607431768211456 ≤ n * m))) := by
        have h1 := HY.out
        rw [hi9, Nat.mod_eq_of_lt (show n < 65536 ^ 8 from hn)] at h1
        have h2 := X.out
        rw [h1] at h2
        exact h2
      clear HY X hi9 hN hM hR hO
      go_wp2
      exact bodyPost_ret (v := Nm q p) (by simp [results, Tryz.results104, go_sem, r0, r1, r2, r3, r4, r5, r6, r7, r8]) rfl ⟨by rw [← E.out.1, ← E.out.2], hG.store9 (by omega) _ _ _ _ _ _ _ _ _⟩

end Go.Proofs.YtdmdjmliggjbjaaGreat

/- Rows in a list of the call's own. -/
namespace Go.Proofs.YtdmdjmliggjbjaaGreat
open Go.RowKit Go.Sort Go.Maps

theorem Tryz.infoW : (Tryz.prog.info? 46).map (fun i => (i.zero, i.size, i.bytes)) = some (some (.agg #[.int .i64 0, .slice none 0 0]), 2, 32) := by kernel_rfl
theorem info_partsW : ∃ i0, Tryz.prog.info? 46 = some i0 ∧ i0.zero = some (.agg #[.int .i64 0, .slice none 0 0]) ∧ i0.size = 2 ∧ i0.bytes = 32 := by
  obtain ⟨i, hi, hzz⟩ := Option.map_eq_some_iff.1 Tryz.infoW
  simp only [Prod.mk.injEq] at hzz
  exact ⟨i, hi, hzz.1, hzz.2.1, hzz.2.2⟩
/-- The cells xs are these rows'; their vectors are read in w. -/
def CellsW (w : World) (xs : List Value) (rs : List Rw) : Prop := ∀ i, i < rs.length → xs[i * 2]? = some (.int .i64 rs[i]!.1) ∧ ∃ u, xs[i * 2 + 1]? = some u ∧ RdI w u rs[i]!.2
theorem CellsW.gb {w w' : World} {xs : List Value} {rs : List Rw} (h : CellsW w xs rs) (g : Gb w w') : CellsW w' xs rs := fun i hi => by
  obtain ⟨h1, u, h2, h3⟩ := h i hi
  exact ⟨h1, u, h2, h3.gb g⟩
theorem CellsW.snoc {w : World} {xs : List Value} {rs : List Rw} {r : Rw} {u : Value} (h : CellsW w xs rs) (hl : xs.length = rs.length * 2) (hu : RdI w u r.2) : CellsW w (xs ++ [.int .i64 r.1, u]) (rs ++ [r]) := fun i hi => by
  rw [List.length_append] at hi
  by_cases e : i < rs.length
  · rw [getElem!_pos (rs ++ [r]) i (by rw [List.length_append]; exact hi), List.getElem_append_left e, ← getElem!_pos rs i e, List.getElem?_append_left (by omega), List.getElem?_append_left (by omega)]
    exact h i e
  · have e' : i = rs.length := by simp at hi; omega
    subst e'
    have e2 : (rs ++ [r])[rs.length]! = r := by rw [getElem!_pos _ _ (by simp)]; simp
    rw [e2, List.getElem?_append_right (by omega), List.getElem?_append_right (by omega), hl]
    exact ⟨by simp, u, by rw [show rs.length * 2 + 1 - rs.length * 2 = 1 by omega]; rfl, hu⟩
/-- The call owns, in blocks from B on, a slice v of these rows, whose vectors are read in w. -/
def OwnW (w W : World) (B : Nat) (v : Value) (rs : List Rw) : Prop := ∃ xs, W.ownsRow B 46 2 v rs.length xs ∧ CellsW w xs rs
theorem ownW_nil (w W : World) (B : Nat) : OwnW w W B (.slice none 0 0) [] := ⟨[], World.ownsRow_nil W B _ _, fun _ hi => absurd hi (Nat.not_lt_zero _)⟩
theorem OwnW.kept {w W W' : World} {B : Nat} {v : Value} {rs : List Rw} {row : Option Nat} (h : OwnW w W B v rs) (hg : W.grownBy W' row) (hne : v.ownBlock = none ∨ v.ownBlock ≠ row) : OwnW w W' B v rs := by
  obtain ⟨xs, h1, h2⟩ := h
  exact ⟨xs, h1.kept hg hne, h2⟩
theorem OwnW.gb {w W W' : World} {B : Nat} {v : Value} {rs : List Rw} (h : OwnW w W B v rs) (g : Gb W W') : OwnW w W' B v rs :=
  h.kept (row := none) ⟨g.os, g.tape, g.output, g.size, fun k hk _ => g.block k hk⟩ (by cases hv : v.ownBlock <;> simp)
theorem OwnW.rdw {w W : World} {B : Nat} {v : Value} {rs : List Rw} (h : OwnW w W B v rs) (g : Gb w W) : RdW W v rs := by
  obtain ⟨xs, h, hx⟩ := h
  rcases h.2 with ⟨rfl, h0⟩ | ⟨b, cap, cur, rfl, _⟩
  · have : rs = [] := List.eq_nil_of_length_eq_zero h0
    subst this
    exact ⟨none, 0, rfl, fun i hi => absurd hi (Nat.not_lt_zero _)⟩
  · refine ⟨_, cap, rfl, fun i hi => ?_⟩
    obtain ⟨h1, u, h2, h3⟩ := hx i hi
    have c1 := World.ownsRow.cells h (g := b) rfl (i * 2) _ h1
    have c2 := World.ownsRow.cells h (g := b) rfl (i * 2 + 1) _ h2
    rw [Addr.add_lit] at c1 c2
    exact ⟨b, 0, u, rfl, c1, by rw [Nat.add_assoc]; exact c2, h3.gb g⟩
theorem OwnW.form {w W : World} {B : Nat} {v : Value} {rs : List Rw} (h : OwnW w W B v rs) : ∃ a cap, v = .slice a rs.length cap := by
  obtain ⟨xs, h, _⟩ := h
  rcases h.2 with ⟨rfl, h0⟩ | ⟨b, cap, cur, rfl, _⟩
  · exact ⟨none, 0, by rw [h0]⟩
  · exact ⟨_, cap, rfl⟩
theorem two_cells (w : World) (x y : Value) (t : TypeId) : ∀ j u, [x, y][j]? = some u → (w.alloc (.cells #[x, y] t)).cell? ((⟨w.heap.size, 0, none⟩ : Addr).add j) = some u := by
  intro j u hj
  rw [Addr.add_lit]
  rcases j with _ | _ | j <;> simp at hj
  · subst hj; simp [go_sem]
  · subst hj; simp [go_sem]
/-- A list of numbers and a list of rows never share a block. -/
theorem own_neW {w W : World} {B B' : Nat} {u v : Value} {x : List Int} {rs : List Rw} (h : Own W B u x) (r : OwnW w W B' v rs) : u.ownBlock = none ∨ u.ownBlock ≠ v.ownBlock := by
  obtain ⟨xs, r, _⟩ := r
  rcases h.2 with ⟨rfl, _⟩ | ⟨g, cap, cur, rfl, _, hh, _⟩
  · exact .inl rfl
  · refine .inr fun e => ?_
    rcases r.2 with ⟨rfl, _⟩ | ⟨g', cap', cur', rfl, _, hh', _⟩
    · cases e
    · cases e
      rw [hh] at hh'
      simp at hh'
theorem neW_own {w W : World} {B B' : Nat} {u v : Value} {x : List Int} {rs : List Rw} (h : Own W B u x) (r : OwnW w W B' v rs) : v.ownBlock = none ∨ v.ownBlock ≠ u.ownBlock := by
  rcases own_neW h r with e | e
  · rw [e]
    cases hv : v.ownBlock with
    | none => exact .inl rfl
    | some g => exact .inr (by simp)
  · exact .inr fun e' => e e'.symm
end Go.Proofs.YtdmdjmliggjbjaaGreat
