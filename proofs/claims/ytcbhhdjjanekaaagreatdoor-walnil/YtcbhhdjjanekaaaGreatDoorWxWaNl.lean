/- WalNil: the walk. -/
import Derived.Test.YtcbhhdjjanekaaaGreatDoorWxWaZ
namespace Go.Proofs.YtcbhhdjjanekaaaGreatDoor
open Go.RowKit Go.Lib Go.Maps

variable {w w' W W' : World}
set_option maxHeartbeats 4000000 in
set_option maxRecDepth 100000 in
theorem nil_law (w : World) (s : ByteArray) (n : Int) (hG : Gl w) : Calls Tryz.prog 7 #[.string s, .int .i64 n] w fun e w' => e = .returned (.bool true) ∧ Gb w w' := by
  have cA := wawake_c w hG
  have cU : Hid (∀ W, Gb w W → Calls Tryz.prog 24 #[.pointer none, .int .i64 n] W fun e w' => e = .returned (.int .i64 3) ∧ Hid (Gb w w')) := fun W g => (wcut_nil n W).mono fun e w' k => ⟨k.1, gb_trans g k.2⟩
  clear hG
  by_cases hs : (262144 : Int) < (s.size : Int)
  · go_enter Tryz.func7, Tryz.ntmps7
    go_wp2_with fail
    refine cA.mono ?_
    rintro e w1 ⟨rfl, g1⟩
    go_wp2
    go_ret
    exact ⟨rfl, g1⟩
  · go_enter Tryz.func7, Tryz.ntmps7
    go_wp2_with fail
    refine (wopen_nil w).mono ?_
    rintro e v1 ⟨rfl, rfl⟩
    go_wp2_with fail
    refine (wapp_nil s w).mono ?_
    rintro e v2 ⟨rfl, rfl⟩
    go_wp2_with fail
    refine cA.mono ?_
    rintro e w1 ⟨rfl, g1⟩
    have cU := cU.out w1 g1
    clear cA g1
    go_wp2_with fail
    refine (wsync_nil w1).mono ?_
    rintro e v3 ⟨rfl, rfl⟩
    go_wp2_with fail
    refine cU.mono ?_
    rintro e w2 ⟨rfl, g2⟩
    clear cU
    go_wp2_with fail
    refine (wsynced_nil w2).mono ?_
    rintro e v4 ⟨rfl, rfl⟩
    go_wp2_with fail
    refine (wlast_nil w2).mono ?_
    rintro e v5 ⟨rfl, rfl⟩
    go_wp2_with fail
    refine (wfirst_nil w2).mono ?_
    rintro e v6 ⟨rfl, rfl⟩
    go_wp2
    go_ret
    exact ⟨rfl, g2.out⟩
end Go.Proofs.YtcbhhdjjanekaaaGreatDoor
