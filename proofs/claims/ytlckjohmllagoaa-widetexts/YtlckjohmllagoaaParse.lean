/- wide.Parse, as a contract. -/
import Derived.Test.YtlckjohmllagoaaDig
import Derived.Deep.RegionWith
namespace Go.Proofs.Ytlckjohmllagoaa
open Go.RowKit

set_option maxHeartbeats 1000000 in
theorem parse_bad (s : ByteArray) (w : World) (hs : s.size ≤ maxLen) (hf : formB s.data.toList = false) :
    Calls Try.prog 18 #[.string s] w fun e w' => e = .returned (.tuple #[.agg #[.int .u64 0, .int .u64 0], .int .i64 11]) ∧ Gr w w' := by
  go_enter Try.func18, Try.ntmps18
  go_wp2_with (go_at_call 31; refine (isForm_any s _ hs).mono ?_; rintro e w1 ⟨rfl, rfl⟩)
  exact bodyPost_ret (v := .tuple #[.agg #[.int .u64 0, .int .u64 0], .int .i64 11]) (by simp [results, Try.results18, go_sem]) rfl ⟨rfl, by repeat (first | exact Gr.refl _ | apply Gr.alloc | refine Gr.setCell ?_ (by simp) _)⟩

theorem wrap_dig (c : Nat) (h0 : 48 ≤ (c : Int)) (h1 : (c : Int) ≤ 57) : IntKind.u8.wrap ((c : Int) - 48) = ((c - 48 : Nat) : Int) := by
  rw [IntKind.wrap_u8]; omega
theorem wdi_ok (a c : Nat) (h0 : 48 ≤ (c : Int)) (h1 : (c : Int) ≤ 57) (h : 10 * a + (c - 48) < 340282366920938463463374607431768211456) (w : World) :
    Calls Try.prog 32 #[.agg #[.int .u64 (hi a), .int .u64 (lo a)], .int .u8 (IntKind.u8.wrap ((c : Int) - 48))] w fun e w' => e = .returned (.tuple #[.agg #[.int .u64 (hi (10 * a + (c - 48))), .int .u64 (lo (10 * a + (c - 48)))], .int .i64 0]) ∧ Gr w w' := by
  rw [wrap_dig c h0 h1]
  exact withDigit_ok a (c - 48) (by omega) h w
theorem wdi_no (a c : Nat) (h0 : 48 ≤ (c : Int)) (h1 : (c : Int) ≤ 57) (ha : a < 340282366920938463463374607431768211456) (h : 340282366920938463463374607431768211456 ≤ 10 * a + (c - 48)) (w : World) :
    Calls Try.prog 32 #[.agg #[.int .u64 (hi a), .int .u64 (lo a)], .int .u8 (IntKind.u8.wrap ((c : Int) - 48))] w fun e w' => e = .returned (.tuple #[.agg #[.int .u64 0, .int .u64 0], .int .i64 10]) ∧ Gr w w' := by
  rw [wrap_dig c h0 h1]
  exact withDigit_no a (c - 48) (by omega) ha h w

set_option maxHeartbeats 1000000 in
theorem parse_go (s : ByteArray) (w : World) (hs : s.size ≤ maxLen) (hf : formB s.data.toList = true) :
    Calls Try.prog 18 #[.string s] w fun e w' =>
      (val s.data.toList < 340282366920938463463374607431768211456 → e = .returned (.tuple #[Wd (val s.data.toList), .int .i64 0])) ∧
      (340282366920938463463374607431768211456 ≤ val s.data.toList → e = .returned (.tuple #[.agg #[.int .u64 0, .int .u64 0], .int .i64 10])) ∧ Gr w w' := by
  have hsz : s.size ≤ 39 := by
    unfold formB at hf; simp at hf; omega
  have hall : s.data.toList.all isDig = true := by
    unfold formB at hf; simp only [Bool.and_eq_true] at hf; exact hf.2
  have ALL : Hid (s.data.toList.all isDig = true) := hall
  clear hall
  go_enter Try.func18, Try.ntmps18
  go_wp2_with (go_at_call 31; refine (isForm_any s _ hs).mono ?_; rintro e w1 ⟨rfl, rfl⟩)
  go_loopw [13] (fun i w' => ∃ k v : Nat, k ≤ s.size ∧ i = .int .i64 (k : Int) ∧ Hid (v = val (s.data.toList.take k)) ∧ v < 340282366920938463463374607431768211456 ∧ Gr (w.alloc (.cells #[.int .u64 0, .int .u64 0] 24)) w' ∧ w'.cell? ⟨w.heap.size + 1, 0, none⟩ = some (.int .u64 (hi v)) ∧ w'.cell? ⟨w.heap.size + 1, 1, none⟩ = some (.int .u64 (lo v)) ∧ w'.frozen? ⟨w.heap.size + 1, 0, none⟩ = false ∧ w'.frozen? ⟨w.heap.size + 1, 1, none⟩ = false) (fun i _ => s.size - (intOf i).toNat)
  case atStart => exact ⟨0, 0, Nat.zero_le _, rfl, rfl, by omega, (Gr.refl _).alloc _ _, by simp [go_sem]; rfl, by simp [go_sem]; rfl, by simp [go_sem], by simp [go_sem]⟩
  case round =>
    obtain ⟨k, v, hk, rfl, V, hv, hg, c0, c1, f0, f1⟩ := hrel
    obtain ⟨r0, r1, g0, g1⟩ := hg.var2
    by_cases hlt : k < s.size
    · have hd := all_at s k hlt ALL.out
      obtain ⟨d1, d2⟩ := (isDig_iff _).1 hd
      have hn : val (s.data.toList.take (k + 1)) = 10 * v + (s[k].toNat - 48) := by rw [take_snoc s k hlt, val_snoc, ← V.out]
      have hle := val_take_le s.data.toList (k + 1)
      by_cases hb : 10 * v + (s[k].toNat - 48) < 340282366920938463463374607431768211456
      · have N : Hid (10 * v + (s[k].toNat - 48) = val (s.data.toList.take (k + 1))) := hn.symm
        clear hn hle hd
        go_wp2
        go_region_with (go_at_call 32; refine (wdi_ok v s[k].toNat d1 d2 hb _).mono ?_; rintro e w2 ⟨rfl, hg2⟩; have e0 := hg2.keeps (p := ⟨w.heap.size + 1, 0, none⟩) c0; have e1 := hg2.keeps (p := ⟨w.heap.size + 1, 1, none⟩) c1; have e2 := (hg2.froz ⟨w.heap.size + 1, 0, none⟩).trans f0; have e3 := (hg2.froz ⟨w.heap.size + 1, 1, none⟩).trans f1)
        all_goals
          go_wp2
          go_roundw
          case rel =>
            refine ⟨k + 1, 10 * v + (s[k].toNat - 48), hlt, by go_num, N, hb, ?_, ?_, ?_, ?_, ?_⟩
            · repeat (first | exact (hg.drew).trans hg2 | refine Gr.setCell ?_ (by simp) _)
            · simp [go_sem, e0]
            · simp [go_sem, e1]
            · simp [go_sem, e2]
            · simp [go_sem, e3]
          case measure => simp [intOf]; omega
      · have N : Hid (340282366920938463463374607431768211456 ≤ val s.data.toList) := by unfold Hid; omega
        have hb' : 340282366920938463463374607431768211456 ≤ 10 * v + (s[k].toNat - 48) := by omega
        clear hn hle hd hb
        go_wp2
        go_region_with (go_at_call 32; refine (wdi_no v s[k].toNat d1 d2 hv hb' _).mono ?_; rintro e w2 ⟨rfl, hg2⟩; have e0 := hg2.keeps (p := ⟨w.heap.size + 1, 0, none⟩) c0; have e1 := hg2.keeps (p := ⟨w.heap.size + 1, 1, none⟩) c1; have e2 := (hg2.froz ⟨w.heap.size + 1, 0, none⟩).trans f0; have e3 := (hg2.froz ⟨w.heap.size + 1, 1, none⟩).trans f1; have e4 := hg2.keeps (p := ⟨w.heap.size, 0, none⟩) r0; have e5 := hg2.keeps (p := ⟨w.heap.size, 1, none⟩) r1; have e6 := (hg2.froz ⟨w.heap.size, 0, none⟩).trans g0; have e7 := (hg2.froz ⟨w.heap.size, 1, none⟩).trans g1)
        all_goals
          go_wp2
          refine bodyPost_ret (v := .tuple #[.agg #[.int .u64 0, .int .u64 0], .int .i64 10]) (by simp [results, Try.results18, go_sem, e4, e5]) rfl ⟨fun hx => by have := N.out; omega, fun _ => rfl, ?_⟩
          repeat (first | exact ((Gr.refl _).alloc _ _).trans ((hg.drew).trans hg2) | refine Gr.setCell ?_ (by simp) _)
    · have hks : val (s.data.toList.take k) = val s.data.toList := by rw [List.take_of_length_le (by rw [len_list]; omega)]
      have N : Hid (v = val s.data.toList) := V.out.trans hks
      clear hks
      go_wp2
      refine bodyPost_ret (v := .tuple #[Wd v, .int .i64 0]) (by simp [results, Try.results18, go_sem, r0, r1]) rfl ⟨fun _ => by rw [← N.out], fun hx => by have := N.out; omega, ?_⟩
      repeat (first | exact ((Gr.refl _).alloc _ _).trans hg | refine Gr.setCell ?_ (by simp) _)

end Go.Proofs.Ytlckjohmllagoaa
