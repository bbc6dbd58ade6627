import Derived.Test.YtbnljabeccebiabGreatKs43
import Derived.BigQuiet
import Derived.Test.YtbnljabeccebiabGreatKs10
import Derived.Test.YtbnljabeccebiabGreatKs42
/- The reference's Times, as a contract. -/
namespace Go.Proofs.YtbnljabeccebiabGreat
open Go.RowKit

theorem plus_sum (n : Nat) (hn : n < 340282366920938463463374607431768211456) (o : Bool) (i k v : Nat) (hk : i + k ≤ 14) (hv : v < 8589934592) (w : World) :
    Calls Tryz.prog 136 #[Nm n o, .int .i64 ((i : Int) + (k : Int)), .int .i64 (v : Int)] w fun e w' => ∃ q : Nat, ∃ p : Bool, e = .returned (Nm q p) ∧ q < 340282366920938463463374607431768211456 ∧
      Hid (q = (n + v * 65536 ^ (i + k)) % 340282366920938463463374607431768211456 ∧ p = (o || decide (340282366920938463463374607431768211456 ≤ n + v * 65536 ^ (i + k)))) ∧ Gr w w' := by
  have := plus_ex n hn o (i + k) v hk hv w
  rw [Int.natCast_add] at this; exact this
/-- One digit's product more. -/
theorem times_step (n m i k e f v Y : Nat) (hf : f = m / 65536 ^ k % 65536) (hv : v = e * f) (hY : Y = n % 65536 ^ i * m + e * 65536 ^ i * (m % 65536 ^ k)) :
    Y + v * 65536 ^ (i + k) = n % 65536 ^ i * m + e * 65536 ^ i * (m % 65536 ^ (k + 1)) := by
  subst hY hv
  rw [Nat.pow_succ, Nat.mod_mul, ← hf, Nat.mul_add, Nat.pow_add, Nat.add_assoc]
  congr 2
  rw [Nat.mul_mul_mul_comm, Nat.mul_comm f, Nat.mul_assoc e]
theorem times_row (n m i e Y : Nat) (hm : m < 340282366920938463463374607431768211456) (he : e = n / 65536 ^ i % 65536) (hY : Y = n % 65536 ^ i * m + e * 65536 ^ i * (m % 65536 ^ 8)) : Y = n % 65536 ^ (i + 1) * m := by
  subst hY
  rw [Nat.mod_eq_of_lt (show m < 65536 ^ 8 from hm), Nat.pow_succ, Nat.mod_mul, ← he, Nat.add_mul, Nat.mul_comm e]

set_option maxHeartbeats 4000000 in
theorem times_false (n m : Nat) (hn : n < 340282366920938463463374607431768211456) (hm : m < 340282366920938463463374607431768211456) (o2 : Bool) (w : World) :
    Calls Tryz.prog 94 #[Nm n false, Nm m o2] w fun e w' =>
      e = .returned (Nm (n * m % 340282366920938463463374607431768211456) (o2 || decide (340282366920938463463374607431768211456 ≤ n * m))) ∧ Gr w w' := by
  have n0 := NumAt.new w n false 115
  have n1 := NumAt.new (w.alloc (.cells #[.int .i64 (dd n 0), .int .i64 (dd n 1), .int .i64 (dd n 2), .int .i64 (dd n 3), .int .i64 (dd n 4), .int .i64 (dd n 5), .int .i64 (dd n 6), .int .i64 (dd n 7), .bool false] 115)) m o2 115
  have n2 := NumAt.zero ((w.alloc (.cells #[.int .i64 (dd n 0), .int .i64 (dd n 1), .int .i64 (dd n 2), .int .i64 (dd n 3), .int .i64 (dd n 4), .int .i64 (dd n 5), .int .i64 (dd n 6), .int .i64 (dd n 7), .bool false] 115)).alloc (.cells #[.int .i64 (dd m 0), .int .i64 (dd m 1), .int .i64 (dd m 2), .int .i64 (dd m 3), .int .i64 (dd m 4), .int .i64 (dd m 5), .int .i64 (dd m 6), .int .i64 (dd m 7), .bool o2] 115)) 115
  have n3 := NumAt.new (((w.alloc (.cells #[.int .i64 (dd n 0), .int .i64 (dd n 1), .int .i64 (dd n 2), .int .i64 (dd n 3), .int .i64 (dd n 4), .int .i64 (dd n 5), .int .i64 (dd n 6), .int .i64 (dd n 7), .bool false] 115)).alloc (.cells #[.int .i64 (dd m 0), .int .i64 (dd m 1), .int .i64 (dd m 2), .int .i64 (dd m 3), .int .i64 (dd m 4), .int .i64 (dd m 5), .int .i64 (dd m 6), .int .i64 (dd m 7), .bool o2] 115)).alloc (.cells #[.int .i64 0, .int .i64 0, .int .i64 0, .int .i64 0, .int .i64 0, .int .i64 0, .int .i64 0, .int .i64 0, .bool false] 115)) 0 o2 115
  simp only [World.size_alloc] at n1 n2 n3
  go_enter Tryz.func94, Tryz.ntmps94
  go_wp2
  go_loopw [6] (fun iv w' => ∃ i Y q : Nat, ∃ p : Bool, iv = .int .i64 (i : Int) ∧ i ≤ 8 ∧ q < 340282366920938463463374607431768211456 ∧ Hid (Y = n % 65536 ^ i * m) ∧ Hid (q = Y % 340282366920938463463374607431768211456 ∧ p = (o2 || decide (340282366920938463463374607431768211456 ≤ Y))) ∧ Gr w w' ∧ NumAt w' w.heap.size n false ∧ NumAt w' (w.heap.size + 1) m o2 ∧ NumAt w' (w.heap.size + 1 + 1) 0 false ∧ NumAt w' (w.heap.size + 1 + 1 + 1) q p) (fun iv _ => 8 - (intOf iv).toNat)
  case atStart =>
    refine ⟨0, 0, 0, o2, rfl, by omega, by omega, by show 0 = n % 65536 ^ 0 * m; rw [Nat.pow_zero, Nat.mod_one, Nat.zero_mul], ⟨rfl, by rw [decide_eq_false (by omega)]; simp⟩, ((((Gr.refl _).alloc _ _).alloc _ _).alloc _ _).alloc _ _, ((n0.call ((Gr.refl _).alloc _ _)).call ((Gr.refl _).alloc _ _)).call ((Gr.refl _).alloc _ _), (n1.call ((Gr.refl _).alloc _ _)).call ((Gr.refl _).alloc _ _), n2.call ((Gr.refl _).alloc _ _), n3⟩
  case round =>
    clear n0 n1 n2 n3
    obtain ⟨i, Y, q, p, rfl, hi8, hq, HY, X, hG, hN, hM, hR, hO⟩ := hrel
    by_cases hi : i < 8
    · obtain ⟨e, he, he1, he2⟩ := dd_nat n i
      have E2 : Hid (e = n / 65536 ^ i % 65536) := he2
      have hcn := hN.d i hi
      rw [he] at hcn
      clear he he2
      have hib : decide ((i : Int) < 8) = true := by simp; omega
      go_wp2
      go_loopw [7] (fun kv w' => ∃ k Y q : Nat, ∃ p : Bool, kv = .int .i64 (k : Int) ∧ k ≤ 8 ∧ q < 340282366920938463463374607431768211456 ∧ Hid (Y = n % 65536 ^ i * m + e * 65536 ^ i * (m % 65536 ^ k)) ∧ Hid (q = Y % 340282366920938463463374607431768211456 ∧ p = (o2 || decide (340282366920938463463374607431768211456 ≤ Y))) ∧ Gr w w' ∧ NumAt w' w.heap.size n false ∧ NumAt w' (w.heap.size + 1) m o2 ∧ NumAt w' (w.heap.size + 1 + 1) 0 false ∧ NumAt w' (w.heap.size + 1 + 1 + 1) q p) (fun kv _ => 8 - (intOf kv).toNat)
      case atStart =>
        exact ⟨0, Y, q, p, rfl, by omega, hq, by unfold Hid; rw [Nat.pow_zero, Nat.mod_one, Nat.mul_zero, Nat.add_zero]; exact HY.out, X, hG, hN, hM, hR, hO⟩
      case round =>
        clear HY X hG hN hM hR hO hcn hq
        obtain ⟨k, Y, q, p, rfl, hk8, hq, HY, X, hG, hN, hM, hR, hO⟩ := hrel
        by_cases hk : k < 8
        · obtain ⟨f, hf, hf1, hf2⟩ := dd_nat m k
          have hcn := hN.d i hi
          have hcm := hM.d k hk
          obtain ⟨e', he', he1', he2'⟩ := dd_nat n i
          obtain rfl : e' = e := by rw [he2', E2.out]
          rw [he'] at hcn
          rw [hf] at hcm
          have hvb : e' * f ≤ 65535 * 65535 := Nat.mul_le_mul (by omega) (by omega)
          obtain ⟨v, hv⟩ : ∃ v : Nat, v = e' * f := ⟨_, rfl⟩
          have hvI : (e' : Int) * (f : Int) = (v : Int) := by rw [hv, Int.natCast_mul]
          have hvb' : v < 4294967296 := by omega
          have HS : Hid (Y + v * 65536 ^ (i + k) = n % 65536 ^ i * m + e' * 65536 ^ i * (m % 65536 ^ (k + 1))) := times_step n m i k e' f v Y hf2 hv HY.out
          obtain ⟨c0, c1, c2, c3, c4, c5, c6, c7, c8⟩ := hO.cells
          have fo := hO.f 8 (by omega)
          clear hf hf2 he' he2' hv hvb HY
          by_cases hbig : 0 < v ∧ 8 ≤ i + k
          · obtain ⟨hv0, hik⟩ := hbig
            have X' : Hid (q = (Y + v * 65536 ^ (i + k)) % 340282366920938463463374607431768211456 ∧ true = (o2 || decide (340282366920938463463374607431768211456 ≤ Y + v * 65536 ^ (i + k)))) := by
              obtain ⟨x1, x2⟩ := X.out
              obtain ⟨p1, p2⟩ := pow_past (i + k) hik v q hq hv0
              refine ⟨by rw [← p1, x1]; omega, ?_⟩
              have : 340282366920938463463374607431768211456 ≤ Y + v * 65536 ^ (i + k) := by omega
              rw [decide_eq_true this]; simp
            go_wp2
            go_quiet (fail)
            go_wp2
            refine ⟨⟨k + 1, Y + v * 65536 ^ (i + k), q, true, by go_num, by omega, hq, HS, X', (hG.drewN _).setCell (by dsimp only; omega) _, ?_, ?_, ?_, ?_⟩, by simp [intOf]; omega⟩
            · exact (hN.call ((Gr.refl _).drewN _)).far _ _ (by omega) _
            · exact (hM.call ((Gr.refl _).drewN _)).far _ _ (by omega) _
            · exact (hR.call ((Gr.refl _).drewN _)).far _ _ (by omega) _
            · exact (hO.call ((Gr.refl _).drewN _)).setOver true
          · by_cases hv0 : 0 < v
            · have hik : i + k < 8 := by omega
              clear hbig
              go_wp2
              go_quiet (fail)
              go_wp2_with (go_at_call 136; refine (plus_sum q hq p i k v (by omega) (by omega) _).mono ?_; rintro _ w2 ⟨q', p', rfl, hq', Z, g2⟩; have hO2 := (hO.call ((Gr.refl _).drewN _)).call g2; obtain ⟨d0, d1, d2, d3, d4, d5, d6, d7, d8⟩ := hO2.cells; obtain ⟨f0, f1, f2, f3, f4, f5, f6, f7, f8⟩ := hO2.open9)
              go_roundw
              case measure => simp [intOf]; omega
              refine ⟨k + 1, Y + v * 65536 ^ (i + k), q', p', by go_num, by omega, hq', HS, ?_, ((hG.drewN _).trans g2).store9 (by omega) _ _ _ _ _ _ _ _ _, ?_, ?_, ?_, hO2.store q' p'⟩
              · exact sum_step Y (v * 65536 ^ (i + k)) _ q q' p p' X.out.1 X.out.2 Z.out.1 Z.out.2
              · have hN2 := (hN.call ((Gr.refl _).drewN _)).call g2
                exact (((((((((hN2.far _ _ (by omega) _).far _ _ (by omega) _).far _ _ (by omega) _).far _ _ (by omega) _).far _ _ (by omega) _).far _ _ (by omega) _).far _ _ (by omega) _).far _ _ (by omega) _).far _ _ (by omega) _)
              · have hM2 := (hM.call ((Gr.refl _).drewN _)).call g2
                exact (((((((((hM2.far _ _ (by omega) _).far _ _ (by omega) _).far _ _ (by omega) _).far _ _ (by omega) _).far _ _ (by omega) _).far _ _ (by omega) _).far _ _ (by omega) _).far _ _ (by omega) _).far _ _ (by omega) _)
              · have hR2 := (hR.call ((Gr.refl _).drewN _)).call g2
                exact (((((((((hR2.far _ _ (by omega) _).far _ _ (by omega) _).far _ _ (by omega) _).far _ _ (by omega) _).far _ _ (by omega) _).far _ _ (by omega) _).far _ _ (by omega) _).far _ _ (by omega) _).far _ _ (by omega) _)
            · have hv1 : v ≤ 0 := by omega
              clear hbig
              go_wp2
              go_quiet (fail)
              go_wp2_with (go_at_call 136; refine (plus_sum q hq p i k v (by omega) (by omega) _).mono ?_; rintro _ w2 ⟨q', p', rfl, hq', Z, g2⟩; have hO2 := (hO.call ((Gr.refl _).drewN _)).call g2; obtain ⟨d0, d1, d2, d3, d4, d5, d6, d7, d8⟩ := hO2.cells; obtain ⟨f0, f1, f2, f3, f4, f5, f6, f7, f8⟩ := hO2.open9)
              go_roundw
              case measure => simp [intOf]; omega
              refine ⟨k + 1, Y + v * 65536 ^ (i + k), q', p', by go_num, by omega, hq', HS, ?_, ((hG.drewN _).trans g2).store9 (by omega) _ _ _ _ _ _ _ _ _, ?_, ?_, ?_, hO2.store q' p'⟩
              · exact sum_step Y (v * 65536 ^ (i + k)) _ q q' p p' X.out.1 X.out.2 Z.out.1 Z.out.2
              · have hN2 := (hN.call ((Gr.refl _).drewN _)).call g2
                exact (((((((((hN2.far _ _ (by omega) _).far _ _ (by omega) _).far _ _ (by omega) _).far _ _ (by omega) _).far _ _ (by omega) _).far _ _ (by omega) _).far _ _ (by omega) _).far _ _ (by omega) _).far _ _ (by omega) _)
              · have hM2 := (hM.call ((Gr.refl _).drewN _)).call g2
                exact (((((((((hM2.far _ _ (by omega) _).far _ _ (by omega) _).far _ _ (by omega) _).far _ _ (by omega) _).far _ _ (by omega) _).far _ _ (by omega) _).far _ _ (by omega) _).far _ _ (by omega) _).far _ _ (by omega) _)
              · have hR2 := (hR.call ((Gr.refl _).drewN _)).call g2
                exact (((((((((hR2.far _ _ (by omega) _).far _ _ (by omega) _).far _ _ (by omega) _).far _ _ (by omega) _).far _ _ (by omega) _).far _ _ (by omega) _).far _ _ (by omega) _).far _ _ (by omega) _).far _ _ (by omega) _)
        · have hk9 : k = 8 := by omega
          have HY' : Hid (Y = n % 65536 ^ (i + 1) * m) := times_row n m i e Y hm E2.out (by rw [HY.out, hk9])
          clear HY hk9
          go_wp2
          refine ⟨⟨i + 1, Y, q, p, by go_num, by omega, hq, HY', X, hG, hN, hM, hR, hO⟩, by simp [intOf]; omega⟩
    · have hi9 : i = 8 := by omega
      obtain ⟨r0, r1, r2, r3, r4, r5, r6, r7, r8⟩ := hR.cells
      obtain ⟨f0, f1, f2, f3, f4, f5, f6, f7, f8⟩ := hR.open9
      obtain ⟨c0, c1, c2, c3, c4, c5, c6, c7, c8⟩ := hO.cells
      have E : Hid (q = n * m % 340282366920938463463374607431768211456 ∧ p = (o2 || decide (340282366920938463463374607431768211456 ≤ n * m))) := by
        have h1 := HY.out
        rw [hi9, Nat.mod_eq_of_lt (show n < 65536 ^ 8 from hn)] at h1
        have h2 := X.out
        rw [h1] at h2
        exact h2
      clear HY X hi9 hN hM hR hO
      go_wp2
      exact bodyPost_ret (v := Nm q p) (by simp [results, Tryz.results94, go_sem, r0, r1, r2, r3, r4, r5, r6, r7, r8]) rfl ⟨by rw [← E.out.1, ← E.out.2], hG.store9 (by omega) _ _ _ _ _ _ _ _ _⟩

end Go.Proofs.YtbnljabeccebiabGreat

/- The reference's Mul, as a contract. -/
namespace Go.Proofs.YtbnljabeccebiabGreat
open Go.RowKit

theorem of_small (x : Nat) (h : x < 18446744073709551616) (w : World) :
    Calls Tryz.prog 51 #[.agg #[.int .u64 0, .int .u64 (x : Int)]] w fun e w' => e = .returned (Nm x false) ∧ Gr w w' := by
  rw [small_wd x h]; exact of_any x (by omega) w
theorem times_ok (n m : Nat) (hn : n < 340282366920938463463374607431768211456) (hm : m < 340282366920938463463374607431768211456) (h : n * m < 340282366920938463463374607431768211456) (w : World) :
    Calls Tryz.prog 94 #[Nm n false, Nm m false] w fun e w' => e = .returned (Nm (n * m) false) ∧ Gr w w' := by
  have := times_false n m hn hm false w
  rw [Nat.mod_eq_of_lt h, decide_eq_false (by omega)] at this
  exact this
set_option maxHeartbeats 1000000 in
theorem rmul_any (x y : Nat) (hx : x < 18446744073709551616) (hy : y < 18446744073709551616) (w : World) :
    Calls Tryz.prog 56 #[.int .u64 (x : Int), .int .u64 (y : Int)] w fun e w' => e = .returned (Wd (x * y)) ∧ Gr w w' := by
  have hxy := mul_lt x y hx hy
  go_enter Tryz.func56, Tryz.ntmps56
  go_wp2_with fail
  refine (of_small x hx _).mono ?_
  rintro e w1 ⟨rfl, g1⟩
  go_wp2_with fail
  refine (of_small y hy _).mono ?_
  rintro e w2 ⟨rfl, g2⟩
  go_wp2_with fail
  refine (times_ok x y (by omega) (by omega) hxy _).mono ?_
  rintro e w3 ⟨rfl, g3⟩
  go_wp2_with fail
  refine (wide_any (x * y) hxy false _).mono ?_
  rintro e w4 ⟨rfl, g4⟩
  have G := ((g1.trans g2).trans g3).trans g4
  obtain ⟨v0, v1, v2, v3⟩ := G.var2
  go_wp2
  exact bodyPost_ret (v := Wd (x * y)) (by simp [results, Tryz.results56, go_sem, v0, v1]) rfl ⟨rfl, ((((Gr.refl _).alloc _ _).trans G).setCell (by dsimp only; omega) _).setCell (by dsimp only; omega) _⟩

end Go.Proofs.YtbnljabeccebiabGreat

/- theodoliteref03.Root. -/
namespace Go.Proofs.YtbnljabeccebiabGreat
open Go.RowKit

theorem rless_v (a b : Nat) (ha : a < 340282366920938463463374607431768211456) (hb : b < 340282366920938463463374607431768211456) (r : Bool) (h : decide (a < b) = r) (w : World) :
    Calls Tryz.prog 24 #[Wd a, Wd b] w fun e w' => e = .returned (.bool r) ∧ Gr w w' := by
  subst h; exact less_any a b ha hb w
set_option maxHeartbeats 2000000 in
theorem rroot_c (a : Nat) (ha : a < 340282366920938463463374607431768211456) (w : World) :
    Calls Tryz.prog 54 #[Wd a] w fun e w' => e = .returned (.int .u64 (rt a : Int)) ∧ Gr w w' := by
  go_enter Tryz.func54, Tryz.ntmps54
  go_wp2
  go_loopw [3, 4] (fun lv hv w' => ∃ x y : Nat, lv = .int .u64 (x : Int) ∧ hv = .int .u64 (y : Int) ∧ x ≤ y ∧ y < 18446744073709551616 ∧ Hid (x * x ≤ a ∧ a < (y + 1) * (y + 1)) ∧ Gr (w.alloc (.cells #[.int .u64 (hi a), .int .u64 (lo a)] 58)) w') (fun lv hv _ => (intOf hv - intOf lv).toNat)
  case atStart => exact ⟨0, 18446744073709551615, by simp, by simp, by omega, by omega, ⟨by omega, by omega⟩, Gr.refl _⟩
  case round =>
    obtain ⟨x, y, rfl, rfl, hxy, hy, X, hg⟩ := hrel
    obtain ⟨c0, c1, _, _⟩ := hg.var2
    by_cases hc : x < y
    · have hci : (x : Int) < (y : Int) := by omega
      obtain ⟨k, hk⟩ : ∃ k : Nat, k = x + (y - x) / 2 := ⟨_, rfl⟩
      obtain ⟨m, hm⟩ : ∃ m : Nat, m = k + 1 := ⟨_, rfl⟩
      have e1 : (x : Int) + ((y : Int) - (x : Int)) / 2 = (k : Int) := by omega
      have e2 : (k : Int) + 1 = (m : Int) := by omega
      have K : Hid (k = x + (y - x) / 2 ∧ m = k + 1 ∧ x < m ∧ m ≤ y) := ⟨hk, hm, by omega, by omega⟩
      have hm1 : m < 18446744073709551616 := by omega
      have hk1 : k < 18446744073709551616 := by omega
      have hmm := mul_lt m m hm1 hm1
      clear hk hm
      by_cases hlt : a < m * m
      · have cl := fun W => rless_v a (m * m) ha hmm true (decide_eq_true hlt) W
        have R : Hid (a < (m - 1 + 1) * (m - 1 + 1)) := by
          have := K.out.2.2.1
          unfold Hid; rw [Nat.sub_add_cancel (by omega)]; exact hlt
        clear hlt
        go_wp2
        go_region_held3 (fun w' => w'.cell? ⟨w.heap.size, 0, none⟩ = some (.int .u64 (hi a)) ∧ w'.cell? ⟨w.heap.size, 1, none⟩ = some (.int .u64 (lo a))) (first | (with_reducible exact call_keeps2 (by assumption) (by assumption)) | exact ⟨c0, c1⟩)
          (first
            | (go_at_call 56; refine (rmul_any m m hm1 hm1 _).mono ?_; rintro e w1 ⟨rfl, g1⟩)
            | (go_at_call 24; refine (cl _).mono ?_; rintro e w2 ⟨rfl, g2⟩))
        all_goals
          have hG := (hg.drew.trans g1).trans g2
          have hm0 : 1 ≤ m := by have := K.out; omega
          clear c0 c1 hg g1 g2
          go_wp2
          refine ⟨⟨x, m - 1, by go_num, ?_, ?_, by omega, ⟨X.out.1, R.out⟩, hG⟩, ?_⟩
          · rw [Int.natCast_sub hm0]; rfl
          · have := K.out; omega
          · have := K.out; simp [intOf]; omega
      · have cl := fun W => rless_v a (m * m) ha hmm false (decide_eq_false hlt) W
        have R : Hid (m * m ≤ a) := by unfold Hid; omega
        clear hlt
        go_wp2
        go_region_held3 (fun w' => w'.cell? ⟨w.heap.size, 0, none⟩ = some (.int .u64 (hi a)) ∧ w'.cell? ⟨w.heap.size, 1, none⟩ = some (.int .u64 (lo a))) (first | (with_reducible exact call_keeps2 (by assumption) (by assumption)) | exact ⟨c0, c1⟩)
          (first
            | (go_at_call 56; refine (rmul_any m m hm1 hm1 _).mono ?_; rintro e w1 ⟨rfl, g1⟩)
            | (go_at_call 24; refine (cl _).mono ?_; rintro e w2 ⟨rfl, g2⟩))
        all_goals
          have hG := (hg.drew.trans g1).trans g2
          clear c0 c1 hg g1 g2
          go_wp2
          refine ⟨⟨m, y, rfl, by go_num, ?_, hy, ⟨R.out, X.out.2⟩, hG⟩, ?_⟩
          · have := K.out; omega
          · have := K.out; simp [intOf]; omega
    · have hci : ¬ (x : Int) < (y : Int) := by omega
      have E : Hid (x = rt a) := by
        have h1 := X.out
        rw [show y = x by omega] at h1
        exact root_one h1
      go_wp2
      go_ret
      exact ⟨by rw [← E.out]; rfl, ((Gr.refl _).alloc _ _).trans hg⟩
end Go.Proofs.YtbnljabeccebiabGreat

/- The reference's In and Inside. -/
namespace Go.Proofs.YtbnljabeccebiabGreat
open Go.RowKit

theorem bxN_succ (l h a : List Int) (q : Nat) : bxN l h a (q + 1) = bxN l h a q + gap l[q]! h[q]! a[q]! * gap l[q]! h[q]! a[q]! := rfl
theorem bxN_mono (l h a : List Int) {p q : Nat} (hpq : p ≤ q) : bxN l h a p ≤ bxN l h a q := by
  induction q with
  | zero => have : p = 0 := by omega
            subst this; exact Nat.le_refl _
  | succ q ih =>
    by_cases e : p = q + 1
    · subst e; exact Nat.le_refl _
    · rw [bxN_succ]; have := ih (by omega); omega
theorem bx_no {l h a : List Int} {q : Nat} (hq : q < a.length) (hg : gap l[q]! h[q]! a[q]! ≠ 0) : decide (bx l h a = 0) = false := by
  rw [decide_eq_false_iff_not]
  intro e
  have h1 := bxN_mono l h a (show q + 1 ≤ a.length by omega)
  rw [bxN_succ] at h1
  have h2 : 0 < gap l[q]! h[q]! a[q]! * gap l[q]! h[q]! a[q]! := Nat.mul_pos (by omega) (by omega)
  unfold bx at e
  omega

end Go.Proofs.YtbnljabeccebiabGreat

/- The reference's region: one whose rows lie in it. -/
namespace Go.Proofs.YtbnljabeccebiabGreat
open Go.RowKit Go.Sort

theorem ckB_of {r : Reg} {a : List Int} {d : Int} (h : ckR r d = 0) (ha : chk a d = 0) : ckB r a = 0 := by
  have e : (a.length : Int) = d := (chk_ok ha).2.2.1.symm
  unfold ckB
  rw [e, if_pos h, ha]
end Go.Proofs.YtbnljabeccebiabGreat
