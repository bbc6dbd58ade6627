/- PqEstimates: the walk. -/
import Derived.Test.YtblfmhdcgmkpgaaPREst
import Derived.Test.YtblfmhdcgmkpgaaPOpen
namespace Go.Proofs.Ytblfmhdcgmkpgaa
open Go.RowKit Go.Maps

set_option maxHeartbeats 1000000 in
set_option maxRecDepth 100000 in
theorem est_law {w : World} {tv cv : Value} {t : List (List Nat)} {code : List Int} (ht : RdT w tv t) (hok : TabOk t) (hc : RdI w cv code) :
    Calls Try.prog 5 #[tv, cv] w fun e w' => e = .returned (.bool true) ∧ Gb w w' := by
  have HX : Hid (RdT w tv t ∧ RdI w cv code) := ⟨ht, hc⟩
  have AN : Hid (code.length ≤ 32768 → ∃ (v : Nat) (z : Int), (∀ W, Gb w W → Calls Try.prog 24 #[tv, cv] W fun e w' => e = .returned (.tuple #[Wd v, .int .i64 z]) ∧ Gb W w') ∧ (∀ W, Gb w W → Calls Try.prog 25 #[tv, cv] W fun e w' => e = .returned (.tuple #[Wd v, .int .i64 z]) ∧ Gb W w')) := fun hl => by
    by_cases hp : Plc code (lensV t)
    · by_cases hs : estTo t code code.length < 340282366920938463463374607431768211456
      · exact ⟨_, _, fun W g => est_in (ht.gb g) (hc.gb g) (by omega) hp hok _ _ (.inl ⟨hs, rfl, rfl⟩), fun W g => rest_c (ht.gb g) (hc.gb g) (by omega) hok _ _ (.inr (.inl ⟨hp, hs, rfl, rfl⟩))⟩
      · exact ⟨_, _, fun W g => est_in (ht.gb g) (hc.gb g) (by omega) hp hok _ _ (.inr ⟨by omega, rfl, rfl⟩), fun W g => rest_c (ht.gb g) (hc.gb g) (by omega) hok _ _ (.inr (.inr ⟨hp, by omega, rfl, rfl⟩))⟩
    · exact ⟨_, _, fun W g => est_no (ht.gb g) (hc.gb g) (by omega) hp, fun W g => rest_c (ht.gb g) (hc.gb g) (by omega) hok _ _ (.inl ⟨hp, rfl, rfl⟩)⟩
  obtain ⟨ca, cc, rfl, _⟩ := hc
  obtain ⟨ta, tc, rfl, _⟩ := ht
  clear hok
  by_cases h1 : 1000 < t.length
  · clear HX AN
    generalize code.length = n at *
    generalize t.length = n' at *
    go_enter Try.func5, Try.ntmps5
    go_wp2
    go_ret
    exact ⟨rfl, Below.refl _ _⟩
  by_cases h2 : 32768 < code.length
  · clear HX AN
    generalize code.length = n at *
    generalize t.length = n' at *
    go_enter Try.func5, Try.ntmps5
    go_wp2
    go_ret
    exact ⟨rfl, Below.refl _ _⟩
  obtain ⟨v, z, ce, cr⟩ := AN.out (by omega)
  have ce := ce w (Below.refl _ _)
  have CR : Hid (∀ W, Gb w W → Calls Try.prog 25 #[.slice ta t.length tc, .slice ca code.length cc] W fun e w' => e = .returned (.tuple #[Wd v, .int .i64 z]) ∧ Gb W w') := cr
  clear AN HX cr
  generalize code.length = n at *
  generalize t.length = n' at *
  go_enter Try.func5, Try.ntmps5
  go_wp2_with fail
  go_fit ce
  rintro e w1 ⟨rfl, g1⟩
  have G1 : Hid (Gb w (w1.alloc (.cells #[.int .u64 (hi v), .int .u64 (lo v)] 51))) := gb_alloc g1 _
  have A1 : Hid (At2 (w1.alloc (.cells #[.int .u64 (hi v), .int .u64 (lo v)] 51)) w1.heap.size v) := At2.new w1 v _
  have cr := CR.out _ G1.out
  clear ce g1
  go_wp2_with fail
  go_fit cr
  rintro e w2 ⟨rfl, g2⟩
  have A2 : At2 (w2.alloc (.cells #[.int .u64 (hi v), .int .u64 (lo v)] 51)) w2.heap.size v := At2.new w2 v _
  obtain ⟨a0, a1, _, _⟩ := A1.out
  obtain ⟨b0, b1, _, _⟩ := A2
  have gA : Gb (w1.alloc (.cells #[.int .u64 (hi v), .int .u64 (lo v)] 51)) (w2.alloc (.cells #[.int .u64 (hi v), .int .u64 (lo v)] 51)) := gb_alloc g2 _
  have a0 := gb_keeps gA a0
  have a1 := gb_keeps gA a1
  have G2 : Hid (Gb w (w2.alloc (.cells #[.int .u64 (hi v), .int .u64 (lo v)] 51))) := gb_trans G1.out gA
  have ws := wd_same (hi v) (lo v)
  clear cr g2 gA
  go_wp2_with (go_at_call 12; refine (awake_c _).mono ?_; rintro e w3 ⟨rfl, g3⟩; have a0 := gb_keeps g3 a0; have a1 := gb_keeps g3 a1; have b0 := gb_keeps g3 b0; have b1 := gb_keeps g3 b1)
  go_ret
  exact ⟨rfl, gb_trans G2.out g3⟩
end Go.Proofs.Ytblfmhdcgmkpgaa
