/- A script that came in; work. -/
import Derived.Test.YtjediopfnjkihaaDoorStep
namespace Go.Proofs.YtjediopfnjkihaaDoor
open Go.RowKit Go.Shelf

/-- The i-th call of a script. -/
def OpAt (w : World) (a : Option Addr) (n : Nat) (K N : Nat → Int) : Prop :=
  ∀ i, i < n → ∃ b o, a = some ⟨b, o, none⟩ ∧ w.cell? ⟨b, o + i * 2, none⟩ = some (.int .i64 (K i)) ∧ w.cell? ⟨b, o + i * 2 + 1, none⟩ = some (.int .i64 (N i))

set_option maxRecDepth 100000 in
set_option maxHeartbeats 2000000 in
theorem work_c (a : Option Addr) (n cap : Nat) (K N : Nat → Int) (w : World) (h : OpAt w a n K N) (hn : n ≤ 1000) :
    Calls Tryd.prog 6 #[.slice a n cap] w fun e w' => ∃ m : Int, e = .returned (.int .i64 m) ∧ w = w' := by
  go_enter Tryd.func6, Tryd.ntmps6
  go_wp2
  go_loopw [3, 4] (fun u v wr => ∃ m k : Nat, u = .int .i64 m ∧ v = .int .i64 k ∧ k ≤ n ∧ m ≤ 1114112 ∧ w = wr) (fun _ v _ => n - (intOf v).toNat)
  case atStart => exact ⟨0, 0, rfl, rfl, Nat.zero_le _, by decide, rfl⟩
  case round =>
    obtain ⟨m, k, rfl, rfl, hk, hm, rfl⟩ := hrel
    by_cases hlt : k < n
    · have hlt' : (k : Int) < n := by omega
      by_cases hm2 : m ≤ 1048576
      · have hm2' : (m : Int) ≤ 1048576 := by omega
        obtain ⟨b, o, rfl, c0, c1⟩ := h k hlt
        clear h
        generalize hK : K k = kk at *
        generalize hN : N k = nn at *
        clear hK hN K N
        by_cases h3 : kk = 3
        · by_cases h0 : 0 < nn
          · by_cases h6 : nn ≤ 65536
            · obtain ⟨j, rfl⟩ : ∃ j : Nat, nn = j := ⟨nn.toNat, by omega⟩
              subst h3
              go_wp2
              go_roundw
              case rel => exact ⟨m + j, k + 1, by simp, by simp, by omega, by omega, trivial⟩
              case measure => simp [intOf]; omega
            · subst h3
              go_wp2
              go_roundw
              case rel => exact ⟨m, k + 1, rfl, by simp, by omega, by omega, trivial⟩
              case measure => simp [intOf]; omega
          · subst h3
            go_wp2
            go_roundw
            case rel => exact ⟨m, k + 1, rfl, by simp, by omega, by omega, trivial⟩
            case measure => simp [intOf]; omega
        · go_wp2
          go_roundw
          case rel => exact ⟨m, k + 1, rfl, by simp, by omega, by omega, trivial⟩
          case measure => simp [intOf]; omega
      · have hm2' : ¬ (m : Int) ≤ 1048576 := by omega
        go_wp2
        go_ret
        exact ⟨⟨(m : Int), rfl⟩, rfl⟩
    · obtain rfl : k = n := by omega
      have hlt' : ¬ (k : Int) < k := by omega
      go_wp2
      go_ret
      exact ⟨⟨(m : Int), rfl⟩, rfl⟩

end Go.Proofs.YtjediopfnjkihaaDoor
