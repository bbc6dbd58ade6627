/- VecRegions, whatever comes in. -/
import Derived.Test.YtnhaloeeaejedaaRegions
namespace Go.Proofs.Ytnhaloeeaejedaa
open Go.RowKit Go.Sort Go.Maps

set_option maxHeartbeats 4000000 in
theorem regions_any {w : World} {v u : Value} {r : Reg} {a : List Int} (hv : RdR w v r) (hu : RdI w u a) (hR : r.R < 340282366920938463463374607431768211456) (d : Int) :
    Calls Try.prog 4 #[v, u, .int .i64 d] w fun e w' => e = .returned (.bool true) ∧ Gb w w' := by
  by_cases hb : bg r = true
  · have HV : Hid (RdR w v r) := hv
    obtain ⟨vl, vh, vi, rfl, hL, hH, hI⟩ := hv
    have G0 : Gr w (w.alloc (rc r vl vh vi)) := (Gr.refl _).alloc _ _
    have C16 := big_c (HV.out.gb G0.gb)
    rw [hb] at C16
    obtain ⟨pa, ca, rfl, _⟩ := hu
    clear HV hL hH hI hR hb
    obtain ⟨S, L, H, R, I⟩ := r
    generalize a.length = na at *
    go_enter Try.func4, Try.ntmps4
    go_wp2_with fail
    refine C16.mono ?_
    rintro e w1 ⟨rfl, g1⟩
    go_wp2
    go_ret
    exact ⟨rfl, (G0.trans g1).gb⟩
  · have hb' : bg r = false := by simpa using hb
    by_cases ha : a.length ≤ 65536
    · exact regions_in hv hu hb' ha hR d
    · have HV : Hid (RdR w v r) := hv
      obtain ⟨vl, vh, vi, rfl, hL, hH, hI⟩ := hv
      have G0 : Gr w (w.alloc (rc r vl vh vi)) := (Gr.refl _).alloc _ _
      have C16 := big_c (HV.out.gb G0.gb)
      rw [hb'] at C16
      obtain ⟨pa, ca, rfl, _⟩ := hu
      have ha' : (65536 : Int) < a.length := by omega
      clear HV hL hH hI hR hb hb' ha
      obtain ⟨S, L, H, R, I⟩ := r
      generalize a.length = na at *
      go_enter Try.func4, Try.ntmps4
      go_wp2_with fail
      refine C16.mono ?_
      rintro e w1 ⟨rfl, g1⟩
      go_wp2
      go_ret
      exact ⟨rfl, (G0.trans g1).gb⟩

end Go.Proofs.Ytnhaloeeaejedaa
