/- The reference's Parse, as a contract. -/
import Derived.Test.YtlckjohmllagoaaTenth
import Derived.Test.YtlckjohmllagoaaParse
import Derived.Deep.RegionWith
namespace Go.Proofs.Ytlckjohmllagoaa
open Go.RowKit

set_option maxHeartbeats 2000000 in
theorem rparse_head (s : ByteArray) (w : World) (hs : s.size ≤ maxLen) (hb : s.size < 1 ∨ 39 < s.size) :
    Calls Try.prog 19 #[.string s] w fun e w' => e = .returned (.tuple #[.agg #[.int .u64 0, .int .u64 0], .int .i64 11]) ∧ Gr w w' := by
  unfold maxLen at hs
  rcases hb with hb | hb
  all_goals
    go_enter Try.func19, Try.ntmps19
    go_wp2
    exact bodyPost_ret (v := .tuple #[.agg #[.int .u64 0, .int .u64 0], .int .i64 11]) (by simp [results, Try.results19, go_sem]) rfl ⟨rfl, (Gr.refl _).alloc _ _⟩

set_option maxHeartbeats 2000000 in
theorem rparse_nought (s : ByteArray) (w : World) (h1 : 1 < s.size) (h2 : s.size ≤ 39) (h3 : ((s[0]'(by omega)).toNat : Int) = 48) :
    Calls Try.prog 19 #[.string s] w fun e w' => e = .returned (.tuple #[.agg #[.int .u64 0, .int .u64 0], .int .i64 11]) ∧ Gr w w' := by
  have hb : (((s[0]'(by omega)).toNat : Int) == 48) = true := by simpa using h3
  clear h3
  go_enter Try.func19, Try.ntmps19
  go_wp2
  exact bodyPost_ret (v := .tuple #[.agg #[.int .u64 0, .int .u64 0], .int .i64 11]) (by simp [results, Try.results19, go_sem]) rfl ⟨rfl, (Gr.refl _).alloc _ _⟩

/-- Times ten, its answer under names. -/
theorem times_ten (n : Nat) (hn : n < 340282366920938463463374607431768211456) (o : Bool) (w : World) :
    Calls Try.prog 30 #[Nm n o, Nm 10 false] w fun e w' => ∃ q : Nat, ∃ p : Bool, e = .returned (Nm q p) ∧ q < 340282366920938463463374607431768211456 ∧ Hid (q = n * 10 % 340282366920938463463374607431768211456 ∧ p = (o || decide (340282366920938463463374607431768211456 ≤ n * 10))) ∧ Gr w w' := by
  refine (times_any n 10 hn (by omega) o false w).mono ?_
  rintro e w' ⟨rfl, g⟩
  exact ⟨_, _, rfl, Nat.mod_lt _ (by omega), ⟨rfl, by simp⟩, g⟩
theorem sum_dig (n d : Nat) (hn : n < 340282366920938463463374607431768211456) (hd : d < 65536) (o : Bool) (w : World) :
    Calls Try.prog 24 #[Nm n o, Nm d false] w fun e w' => ∃ q : Nat, ∃ p : Bool, e = .returned (Nm q p) ∧ q < 340282366920938463463374607431768211456 ∧ Hid (q = (n + d) % 340282366920938463463374607431768211456 ∧ p = (o || decide (340282366920938463463374607431768211456 ≤ n + d))) ∧ Gr w w' := by
  refine (sum_any n d hn (by omega) o false w).mono ?_
  rintro e w' ⟨rfl, g⟩
  exact ⟨_, _, rfl, Nat.mod_lt _ (by omega), ⟨rfl, by simp⟩, g⟩
/-- One digit more: what is left of the number, and whether it was ever too great. -/
theorem dig_step (v d q q1 q2 : Nat) (p p1 p2 : Bool) (h : q = v % 340282366920938463463374607431768211456 ∧ p = decide (340282366920938463463374607431768211456 ≤ v)) (h1 : q1 = q * 10 % 340282366920938463463374607431768211456 ∧ p1 = (p || decide (340282366920938463463374607431768211456 ≤ q * 10))) (h2 : q2 = (q1 + d) % 340282366920938463463374607431768211456 ∧ p2 = (p1 || decide (340282366920938463463374607431768211456 ≤ q1 + d))) :
    q2 = (10 * v + d) % 340282366920938463463374607431768211456 ∧ p2 = decide (340282366920938463463374607431768211456 ≤ 10 * v + d) := by
  obtain ⟨rfl, rfl⟩ := h
  obtain ⟨rfl, rfl⟩ := h1
  obtain ⟨rfl, rfl⟩ := h2
  refine ⟨by omega, ?_⟩
  rw [Bool.eq_iff_iff]
  simp only [Bool.or_eq_true, decide_eq_true_eq]
  omega
theorem small_ten (w : World) : Calls Try.prog 33 #[.int .i64 10] w fun e w' => e = .returned (Nm 10 false) ∧ Gr w w' := small_any 10 (by omega) w

/-- Whether a text has digits alone, and the number that it says. -/
def allDig (s : ByteArray) : Bool := s.data.toList.all isDig
def valOf (s : ByteArray) : Nat := val s.data.toList
theorem small_dig (c : Nat) (h0 : 48 ≤ (c : Int)) (h1 : (c : Int) ≤ 57) (w : World) :
    Calls Try.prog 33 #[.int .i64 (IntKind.i64.wrap (IntKind.u8.wrap ((c : Int) - 48)))] w fun e w' => e = .returned (Nm (c - 48) false) ∧ Gr w w' := by
  have e : IntKind.i64.wrap (IntKind.u8.wrap ((c : Int) - 48)) = ((c - 48 : Nat) : Int) := by rw [wrap_dig c h0 h1, IntKind.wrap_i64]; omega
  rw [e]; exact small_any (c - 48) (by omega) w

end Go.Proofs.Ytlckjohmllagoaa
