import Derived.Test.YtblfmhdcgmkpgaaPcPREnc
import Derived.Test.YtblfmhdcgmkpgaaPcPRDec
import Derived.Test.YtblfmhdcgmkpgaaPcPRTab
import Derived.Test.YtblfmhdcgmkpgaaPc44
import Derived.Test.YtblfmhdcgmkpgaaPcPTab2
import Derived.Test.YtblfmhdcgmkpgaaPc41
import Derived.BigQuiet
/- Two calls whose answers read the same. -/
namespace Go.Proofs.Ytblfmhdcgmkpgaa
open Go.RowKit Go.Maps

/-- Two calls whose answers read the same numbers, with the same error. -/
def TwoI (P : World → Prop) (Q : World → Prop) (f g : FuncId) (p q v : Value) : Prop := ∃ (z : Int) (X : List Int), X.length ≤ 4096 ∧
  (∀ W, P W → Calls Try.prog f #[p, v] W fun e w' => ∃ a n c, e = .returned (.tuple #[.slice a n c, .int .i64 z]) ∧ RdI w' (.slice a n c) X ∧ Gb W w') ∧
  (∀ W, Q W → Calls Try.prog g #[q, v] W fun e w' => ∃ a n c, e = .returned (.tuple #[.slice a n c, .int .i64 z]) ∧ RdI w' (.slice a n c) X ∧ Gb W w')
def TwoT (P : World → Prop) (Q : World → Prop) (f g : FuncId) (p q v : Value) : Prop := ∃ (z : Int) (X : List (List Nat)), (X.length ≤ 4096 ∧ ∀ i, i < X.length → X[i]!.length ≤ 4096) ∧
  (∀ W, P W → Calls Try.prog f #[p, v] W fun e w' => ∃ a n c, e = .returned (.tuple #[.slice a n c, .int .i64 z]) ∧ RdT w' (.slice a n c) X ∧ Gb W w') ∧
  (∀ W, Q W → Calls Try.prog g #[q, v] W fun e w' => ∃ a n c, e = .returned (.tuple #[.slice a n c, .int .i64 z]) ∧ RdT w' (.slice a n c) X ∧ Gb W w')
theorem two_enc {bs : List Vs} {m s k p q : Nat} {v : Value} {x : List Int} (hb : Bks bs m s k) :
    TwoI (fun W => CodAt W p (m * s) bs ∧ RdJ W v x) (fun W => MCod W q (m * s) m bs ∧ RdJ W v x) 16 17 (.pointer (some ⟨p, 0, none⟩)) (.pointer (some ⟨q, 0, none⟩)) v := by
  by_cases h : chk x ((m * s : Nat) : Int) = 0
  · refine ⟨0, encV bs x, by rw [encV_len, hb.len]; have := hb.m8; omega, fun W hW => ?_, fun W hW => ?_⟩
    · refine (encode_ok hW.1 hb hW.2 h).mono ?_
      rintro e w' ⟨u, rfl, o, g⟩
      obtain ⟨a, c, rfl, _⟩ := o.rd
      exact ⟨_, _, _, rfl, o.rd, g⟩
    · refine (rencode_ok hW.1 hb hW.2 h).mono ?_
      rintro e w' ⟨u, rfl, o, g⟩
      obtain ⟨a, c, rfl, _⟩ := o.rd
      exact ⟨_, _, _, rfl, o.rd, g⟩
  · refine ⟨chk x ((m * s : Nat) : Int), [], Nat.zero_le _, fun W hW => ?_, fun W hW => ?_⟩
    · refine (encode_no hW.1 hW.2.1 h).mono ?_
      rintro e w' ⟨rfl, rfl⟩
      exact ⟨_, _, _, rfl, rdi_nil _, Below.refl _ _⟩
    · refine (rencode_no hW.1 hW.2.1 h).mono ?_
      rintro e w' ⟨rfl, rfl⟩
      exact ⟨_, _, _, rfl, rdi_nil _, Below.refl _ _⟩
theorem two_tab {bs : List Vs} {m s k p q : Nat} {v : Value} {x : List Int} (hb : Bks bs m s k) :
    TwoT (fun W => CodAt W p (m * s) bs ∧ RdJ W v x) (fun W => MCod W q (m * s) m bs ∧ RdJ W v x) 20 21 (.pointer (some ⟨p, 0, none⟩)) (.pointer (some ⟨q, 0, none⟩)) v := by
  by_cases h : chk x ((m * s : Nat) : Int) = 0
  · refine ⟨0, tabV bs x, ⟨by rw [tabV_len, hb.len]; have := hb.m8; omega, fun i hi => ?_⟩, fun W hW => ?_, fun W hW => ?_⟩
    · rw [tabV_len] at hi
      rw [tabV_get bs x hi, List.length_map, (hb.bk i (by rw [← hb.len]; exact hi)).1]
      have := hb.k16
      omega
    · refine (table_ok hW.1 hb hW.2 h).mono ?_
      rintro e w' ⟨u, rfl, o, g⟩
      obtain ⟨a, c, rfl, _⟩ := o.rd
      exact ⟨_, _, _, rfl, o.rd, g⟩
    · refine (rtable_ok hW.1 hb hW.2 h).mono ?_
      rintro e w' ⟨u, rfl, o, g⟩
      obtain ⟨a, c, rfl, _⟩ := o.rd
      exact ⟨_, _, _, rfl, o.rd, g⟩
  · have rn : ∀ W, RdT W (.slice none 0 0) [] := fun W => ⟨none, 0, rfl, fun i hi => absurd hi (Nat.not_lt_zero _)⟩
    refine ⟨chk x ((m * s : Nat) : Int), [], ⟨Nat.zero_le _, fun i hi => absurd hi (Nat.not_lt_zero _)⟩, fun W hW => ?_, fun W hW => ?_⟩
    · refine (table_no hW.1 hW.2.1 h).mono ?_
      rintro e w' ⟨rfl, rfl⟩
      exact ⟨_, _, _, rfl, rn _, Below.refl _ _⟩
    · refine (rtable_no hW.1 hW.2.1 h).mono ?_
      rintro e w' ⟨rfl, rfl⟩
      exact ⟨_, _, _, rfl, rn _, Below.refl _ _⟩
theorem two_dec {bs : List Vs} {m s k p q : Nat} {v : Value} {code : List Int} (hb : Bks bs m s k) (hl : code.length ≤ 4611686018427387904) :
    TwoI (fun W => CodAt W p (m * s) bs ∧ RdI W v code) (fun W => MCod W q (m * s) m bs ∧ RdI W v code) 18 19 (.pointer (some ⟨p, 0, none⟩)) (.pointer (some ⟨q, 0, none⟩)) v := by
  by_cases h : Plc code (lensV bs)
  · refine ⟨0, decV bs code, by rw [decV_len hb h]; have := hb.d64; omega, fun W hW => ?_, fun W hW => ?_⟩
    · refine (decode_ok hW.1 hb hW.2 h).mono ?_
      rintro e w' ⟨u, rfl, o, g⟩
      obtain ⟨a, c, rfl, _⟩ := o.rd
      exact ⟨_, _, _, rfl, o.rd, g⟩
    · refine (rdecode_any hW.1 hb hW.2 hl).mono ?_
      rintro e w' ⟨u, z, rfl, o, g⟩
      rcases o with ⟨_, rfl, o⟩ | ⟨hn, _, _⟩
      · obtain ⟨a, c, rfl, _⟩ := o.rd
        exact ⟨_, _, _, rfl, o.rd, g⟩
      · exact absurd h hn
  · refine ⟨101, [], Nat.zero_le _, fun W hW => ?_, fun W hW => ?_⟩
    · refine (decode_no hW.1 hW.2 hl h).mono ?_
      rintro e w' ⟨rfl, rfl⟩
      exact ⟨_, _, _, rfl, rdi_nil _, Below.refl _ _⟩
    · refine (rdecode_any hW.1 hb hW.2 hl).mono ?_
      rintro e w' ⟨u, z, rfl, o, g⟩
      rcases o with ⟨hp, _, _⟩ | ⟨_, rfl, rfl⟩
      · exact absurd hp h
      · exact ⟨_, _, _, rfl, rdi_nil _, g⟩
end Go.Proofs.Ytblfmhdcgmkpgaa

/- The reference's Same: two tables. -/
namespace Go.Proofs.Ytblfmhdcgmkpgaa
open Go.RowKit Go.Maps Go.Sort

theorem rdt_at {w : World} {a : Option Addr} {n cap : Nat} {t : List (List Nat)} (h : RdT w (.slice a n cap) t) {i : Nat} (hi : i < t.length) : ∃ b o u, a = some ⟨b, o, none⟩ ∧ w.cell? ⟨b, o + i, none⟩ = some u ∧ RdN w u t[i]! := by
  obtain ⟨_, _, e, h⟩ := h
  cases e
  exact h i hi
theorem rdn_at {w : World} {a : Option Addr} {n cap : Nat} {t : List Nat} (h : RdN w (.slice a n cap) t) {i : Nat} (hi : i < t.length) : ∃ b o, a = some ⟨b, o, none⟩ ∧ w.cell? ⟨b, o + i * 2, none⟩ = some (.int .u64 (Go.Proofs.Ytblfmhdcgmkpgaa.hi t[i]!)) ∧ w.cell? ⟨b, o + i * 2 + 1, none⟩ = some (.int .u64 (lo t[i]!)) := by
  obtain ⟨_, _, e, h⟩ := h
  cases e
  exact h i hi
theorem wd_ne (a b : Int) (W : World) : (binOp .neq 51 (.agg #[.int .u64 a, .int .u64 b]) (.agg #[.int .u64 a, .int .u64 b])).run Try.prog W = .ok (.bool false) W := by
  have u24 := Try.underlying23
  have a24 := Try.isAgg23
  have z24 := Try.sizeOf23
  have hS : Try.prog.underlying 51 = some (.struct (Try.prog.fieldsOf 51)) := by kernel_rfl
  have hp : Try.prog.stoodInHeld 51 = false := by kernel_rfl
  have h : (Op.equalIn 10000 51 (.agg #[.int .u64 a, .int .u64 b]) (.agg #[.int .u64 a, .int .u64 b])).run Try.prog W = .ok true W := by
    rw [show (10000 : Nat) = 9999 + 1 from rfl, run_equalIn_agg W 9999 51 _ _ hS hp]
    simp only [Program.fieldsOf, Try.underlying51]
    go_simp
  rw [run_neq_struct, h]; rfl

set_option maxHeartbeats 2000000 in
set_option maxRecDepth 100000 in
theorem rsameT_c {w : World} {u v : Value} {t : List (List Nat)} (hu : RdT w u t) (hv : RdT w v t) (hn : t.length ≤ 4096) (hl : ∀ i, i < t.length → t[i]!.length ≤ 4096) :
    Calls Try.prog 23 #[u, v] w fun e w' => e = .returned (.bool true) ∧ Gb w w' := by
  have HX : Hid (RdT w u t ∧ RdT w v t ∧ ∀ i, i < t.length → t[i]!.length ≤ 4096) := ⟨hu, hv, hl⟩
  obtain ⟨ua, uc, rfl, _⟩ := hu
  obtain ⟨va, vc, rfl, _⟩ := hv
  obtain ⟨n, hN⟩ : ∃ n, n = t.length := ⟨_, rfl⟩
  have N : Hid (n = t.length) := hN
  rw [← hN] at hn HX ⊢
  clear hN hl
  go_enter Try.func23, Try.ntmps23
  go_wp2
  go_loopw [5] (fun iv W => ∃ q : Nat, iv = .int .i64 (q : Int) ∧ q ≤ n ∧ Hid (Gb w W)) (fun iv _ => n - (intOf iv).toNat)
  case atStart => exact ⟨0, rfl, Nat.zero_le _, Below.refl _ _⟩
  case round =>
    obtain ⟨q, rfl, hq, X⟩ := hrel
    by_cases hqn : q < n
    · have hqi : (q : Int) < (n : Int) := by omega
      have hqt : q < t.length := by have := N.out; omega
      obtain ⟨b, o, x1, ea, k1, r1⟩ := rdt_at HX.out.1 hqt
      subst ea
      obtain ⟨b', o', x2, ea, k2, r2⟩ := rdt_at HX.out.2.1 hqt
      subst ea
      have R1 : Hid (RdN w x1 t[q]! ∧ RdN w x2 t[q]! ∧ t[q]!.length ≤ 4096) := ⟨r1, r2, HX.out.2.2 q (by have := N.out; omega)⟩
      obtain ⟨p1, c1, e1, _⟩ := r1
      subst e1
      obtain ⟨p2, c2, e2, _⟩ := r2
      subst e2
      obtain ⟨nt, hnt⟩ : ∃ k, k = t[q]!.length := ⟨_, rfl⟩
      rw [← hnt] at k1 k2 R1
      have NT : Hid (nt = t[q]!.length) := hnt
      have hn4 : nt ≤ 4096 := R1.out.2.2
      generalize t[q]! = tq at *
      have KK : Hid (w.cell? ⟨b, o + q, none⟩ = some (.slice p1 nt c1) ∧ w.cell? ⟨b', o' + q, none⟩ = some (.slice p2 nt c2)) := ⟨k1, k2⟩
      have y1 := gb_keeps X.out k1
      have y2 := gb_keeps X.out k2
      clear k1 k2 hnt hqt
      go_wp2
      go_quiet (fail)
      have X1 : Hid (Gb w (wr.drewN nq)) := gb_trans X.out (below_drewN (Below.refl _ _) _)
      generalize wr.drewN nq = wx at X1 ⊢
      clear nq y1 y2 X
      go_wp2
      go_loopw [6] (fun iv W => ∃ j : Nat, iv = .int .i64 (j : Int) ∧ j ≤ nt ∧ Hid (Gb w W)) (fun iv _ => nt - (intOf iv).toNat)
      case atStart => exact ⟨0, rfl, Nat.zero_le _, X1⟩
      case round =>
        clear X1
        obtain ⟨j, rfl, hj, Y⟩ := hrel
        have y1 := gb_keeps Y.out KK.out.1
        have y2 := gb_keeps Y.out KK.out.2
        by_cases hjn : j < nt
        · have hji : (j : Int) < (nt : Int) := by omega
          have hjt : j < tq.length := by have := NT.out; omega
          obtain ⟨b3, o3, ea, m1, m2⟩ := rdn_at R1.out.1 hjt
          subst ea
          obtain ⟨b4, o4, ea, m3, m4⟩ := rdn_at R1.out.2.1 hjt
          subst ea
          generalize tq[j]! = z at *
          have z1 := gb_keeps Y.out m1
          have z2 := gb_keeps Y.out m2
          have z3 := gb_keeps Y.out m3
          have z4 := gb_keeps Y.out m4
          have ws := wd_ne (hi z) (lo z)
          clear m1 m2 m3 m4 hjt
          go_wp2
          go_quiet (fail)
          have YN : Hid (Gb w (wr.drewN nq)) := gb_trans Y.out (below_drewN (Below.refl _ _) _)
          clear y1 y2 z1 z2 z3 z4 ws Y
          go_wp2
          go_roundw
          case rel => exact ⟨j + 1, by first | rfl | go_num | simp, hjn, YN⟩
          case measure => simp [intOf]; omega
        · have hji : ¬ (j : Int) < (nt : Int) := by omega
          go_wp2
          go_roundw
          case rel => exact ⟨q + 1, by first | rfl | go_num | simp, hqn, Y⟩
          case measure => simp [intOf]; omega
    · have hqi : ¬ (q : Int) < (n : Int) := by omega
      go_wp2
      go_ret
      exact ⟨rfl, X.out⟩
end Go.Proofs.Ytblfmhdcgmkpgaa
