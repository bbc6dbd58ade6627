/- law07's plays. -/
import Derived.Test.YtbnljabeccebiaaGreatKnKdTw
namespace Go.Proofs.YtbnljabeccebiaaGreat
open Go.RowKit Go.Sort

/-- What a call leaves of the rows. -/
def playRw (m : Nat) (rs : List Rw) (o : Opv) : List Rw := if o.1.1 = 1 then (if putE m rs o.2.1 = 0 then putRw rs o.2.1 else rs) else if o.1.1 = 2 then delRw rs o.1.2.1 else rs
set_option maxRecDepth 100000 in
set_option maxHeartbeats 2000000 in
theorem plays_c {w0 W : World} {tb m leaf : Nat} {rs : List Rw} {u : Value} {ops : List Opv} (h : TrW w0 tb m leaf rs W) (hu : RdO w0 u ops) (hn : ops.length ≤ 9223372036854775807) :
    Calls Tryz.prog 18 #[.pointer (some ⟨tb, 0, none⟩), u] W fun e W' => e = .returned (.tuple #[]) ∧ TrW w0 tb m leaf (ops.foldl (playRw m) rs) W' := by
  have TT : Hid (TrW w0 tb m leaf rs W) := h
  have O : Hid (RdO w0 u ops) := hu
  obtain ⟨au, cu, rfl, _⟩ := hu
  obtain ⟨n, hN⟩ : ∃ n, n = ops.length := ⟨_, rfl⟩
  have N : Hid (n = ops.length) := hN
  rw [← hN] at O hn ⊢
  clear hN h
  go_enter Tryz.func18, Tryz.ntmps18
  go_wp2
  go_loopw [4] (fun iv W' => ∃ i : Nat, iv = .int .i64 (i : Int) ∧ i ≤ n ∧ Hid (TrW w0 tb m leaf ((ops.take i).foldl (playRw m) rs) W')) (fun iv _ => n - (intOf iv).toNat)
  case atStart => exact ⟨0, rfl, Nat.zero_le _, TT⟩
  case round =>
    clear TT
    obtain ⟨i, rfl, hi, TI⟩ := hrel
    by_cases hin : i < n
    · have hii : (i : Int) < (n : Int) := by omega
      have hil : i < ops.length := by rw [← N.out]; exact hin
      obtain ⟨a, cap, ea, hO⟩ := O.out
      obtain ⟨b, o, rv, qv, e0, ⟨c0, c1, _, _, c4, c5, _⟩, hr, _⟩ := hO i hil
      injection ea with ea1 ea2 ea3
      subst ea1 ea3 e0
      have go := TI.out.old
      have d0 := gb_keeps go c0
      have d1 := gb_keeps go c1
      have d4 := gb_keeps go c4
      have d5 := gb_keeps go c5
      have st : (ops.take (i + 1)).foldl (playRw m) rs = playRw m ((ops.take i).foldl (playRw m) rs) ops[i]! := by
        rw [List.take_succ_eq_append_getElem hil, List.foldl_append, getElem!_pos ops i hil]; rfl
      have cP := trw_put TI.out ops[i]!.2.1.1 hr
      have cD := trw_del TI.out ops[i]!.1.2.1
      have NX : Hid (∀ W', TrW w0 tb m leaf (playRw m ((ops.take i).foldl (playRw m) rs) ops[i]!) W' → TrW w0 tb m leaf ((ops.take (i + 1)).foldl (playRw m) rs) W') := by
        intro W' h
        rw [st]; exact h
      generalize (ops.take i).foldl (playRw m) rs = rsi at *
      generalize ops[i]! = op at *
      obtain ⟨⟨kd, id, kk, bg⟩, ⟨xi, xl⟩, ql⟩ := op
      dsimp only at d0 d1 d4 d5 cP cD hr
      obtain ⟨ar, cr, er, _⟩ := hr.rd0
      subst er
      clear ea2 hO c0 c1 c4 c5 st hil go hr
      by_cases h1 : kd = 1
      · subst h1
        have NZ : Hid (∀ W', TrW w0 tb m leaf (if putE m rsi (xi, xl) = 0 then putRw rsi (xi, xl) else rsi) W' → TrW w0 tb m leaf ((ops.take (i + 1)).foldl (playRw m) rs) W') := fun W' h => NX.out W' (by unfold playRw; exact h)
        generalize putE m rsi (xi, xl) = z at *
        clear cD NX TI
        go_wp2_with fail
        refine cP.mono ?_
        rintro e w4 ⟨rfl, T4⟩
        have TN : Hid (TrW w0 tb m leaf ((ops.take (i + 1)).foldl (playRw m) rs) w4) := NZ.out _ T4
        clear cP T4 NZ d0 d1 d4 d5
        go_wp2
        go_roundw
        case rel => exact ⟨i + 1, by first | rfl | go_num, hin, TN⟩
        case measure => simp [intOf]; omega
      · by_cases h2 : kd = 2
        · subst h2
          have NZ : Hid (∀ W', TrW w0 tb m leaf (delRw rsi id) W' → TrW w0 tb m leaf ((ops.take (i + 1)).foldl (playRw m) rs) W') := fun W' h => NX.out W' (by unfold playRw; exact h)
          clear cP NX TI
          go_wp2_with fail
          refine cD.mono ?_
          rintro e w4 ⟨rfl, T4⟩
          have TN : Hid (TrW w0 tb m leaf ((ops.take (i + 1)).foldl (playRw m) rs) w4) := NZ.out _ T4
          clear cD T4 NZ d0 d1 d4 d5
          go_wp2
          go_roundw
          case rel => exact ⟨i + 1, by first | rfl | go_num, hin, TN⟩
          case measure => simp [intOf]; omega
        · have TN : Hid (TrW w0 tb m leaf ((ops.take (i + 1)).foldl (playRw m) rs) wr) := NX.out _ (by
            unfold playRw
            dsimp only
            rw [if_neg h1, if_neg h2]
            exact TI.out)
          have h1b : (kd == 1) = false := by rw [beq_eq_false_iff_ne]; exact h1
          have h2b : (kd == 2) = false := by rw [beq_eq_false_iff_ne]; exact h2
          clear cP cD NX TI
          go_wp2
          go_roundw
          case rel => exact ⟨i + 1, by first | rfl | go_num, hin, TN⟩
          case measure => simp [intOf]; omega
    · have hii : ¬ (i : Int) < (n : Int) := by omega
      have TN : Hid (TrW w0 tb m leaf (ops.foldl (playRw m) rs) wr) := by
        have h := TI.out
        have e : i = n := by omega
        rw [e, N.out, List.take_length] at h
        exact h
      clear TI
      go_wp2
      refine bodyPost_end (v := .tuple #[]) (by simp [results, Tryz.results18, go_sem]) rfl ⟨rfl, ?_⟩
      exact TN.out
end Go.Proofs.YtbnljabeccebiaaGreat
