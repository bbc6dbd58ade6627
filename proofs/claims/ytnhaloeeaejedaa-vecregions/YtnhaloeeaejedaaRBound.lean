/- The reference's Near and Bound. -/
import Derived.Test.YtnhaloeeaejedaaRNear
import Derived.Test.YtnhaloeeaejedaaRNearB
namespace Go.Proofs.Ytnhaloeeaejedaa
open Go.RowKit

theorem rnear_c {w : World} {v u : Value} {r : Reg} {a : List Int} (hv : RdR w v r) (hu : RdI w u a) (h0 : ckB r a = 0) (hR : r.R < 340282366920938463463374607431768211456) :
    Calls Try.prog 47 #[v, u] w fun e w' => e = .returned (Wd (bdV r a)) ∧ Gr w w' := by
  by_cases s2 : r.S = 2
  · exact rnear_box hv hu h0 s2
  by_cases s3 : r.S = 3
  · exact rnear_ball hv hu h0 hR s3
  · exact rnear_all hv hu s2 s3

set_option maxHeartbeats 8000000 in
theorem rbound_c {w : World} {v u : Value} {r : Reg} {a : List Int} (hv : RdR w v r) (hu : RdI w u a) (hlen : r.I.length ≤ 4611686018427387904) (hR : r.R < 340282366920938463463374607431768211456) :
    Calls Try.prog 21 #[v, u] w fun e w' => e = .returned (.tuple #[Wd (bndV r a), .int .i64 (ckB r a)]) ∧ Gr w w' := by
  have HV : Hid (RdR w v r) := hv
  obtain ⟨vl, vh, vi, rfl, hL, hH, hI⟩ := hv
  have G00 : Gr w (w.alloc (rc r vl vh vi)) := (Gr.refl _).alloc _ _
  have G01 : Gr (w.alloc (rc r vl vh vi)) ((w.alloc (rc r vl vh vi)).alloc (.cells #[.int .u64 0, .int .u64 0] 26)) := (Gr.refl _).alloc _ _
  have G0 := G00.trans G01
  have RA : Hid (RegAt ((w.alloc (rc r vl vh vi)).alloc (.cells #[.int .u64 0, .int .u64 0] 26)) w.heap.size r vl vh vi) := (RegAt.new w r vl vh vi).gb G01.gb
  have AA : Hid (At2 ((w.alloc (rc r vl vh vi)).alloc (.cells #[.int .u64 0, .int .u64 0] 26)) (w.heap.size + 1) 0) := by
    have h1 := At2.new (w.alloc (rc r vl vh vi)) 0 26
    rw [World.size_alloc] at h1
    exact h1
  clear G00 G01
  have C1 := fun x hx => rckR_v (HV.out.gb G0.gb) hlen (a.length : Int) x hx
  have C2 := fun W' (g : Gr ((w.alloc (rc r vl vh vi)).alloc (.cells #[.int .u64 0, .int .u64 0] 26)) W') x hx => rcheck_v (hu.gb (G0.trans g).gb) (a.length : Int) x hx
  have C3 := fun W' (g : Gr ((w.alloc (rc r vl vh vi)).alloc (.cells #[.int .u64 0, .int .u64 0] 26)) W') (h0 : ckB r a = 0) => rnear_c (HV.out.gb (G0.trans g).gb) (hu.gb (G0.trans g).gb) h0 hR
  have E : Hid (ckB r a = if ckR r a.length = 0 then chk a a.length else ckR r a.length) := rfl
  have F : Hid (bndV r a = if ckB r a = 0 then bdV r a else 0) := rfl
  obtain ⟨pa, ca, rfl, _⟩ := hu
  generalize bndV r a = res at *
  generalize ckB r a = eb at *
  by_cases h1 : ckR r a.length = 0
  · rw [if_pos h1] at E
    have c1 := C1 _ h1
    have c2 := fun W' g => C2 W' g eb E.out.symm
    by_cases h2 : eb = 0
    · have c3 := fun W' g => C3 W' g h2
      have F2 : Hid (res = bdV r a) := by unfold Hid; rw [F.out, if_pos h2]
      generalize bdV r a = iv at *
      subst h2
      clear C1 C2 C3 E F h1 HV hlen hL hH hI hR
      obtain ⟨S, L, H, R, I⟩ := r
      generalize a.length = n at *
      go_enter Try.func21, Try.ntmps21
      go_wp2_with fail
      refine c1.mono ?_
      rintro e w1 ⟨rfl, g1⟩
      go_wp2_with fail
      refine (c2 _ g1).mono ?_
      rintro e w' ⟨rfl, e2⟩
      subst e2
      obtain ⟨q0, q1, q2, q3, q4, q5⟩ := RA.out.gb g1.gb
      dsimp only at q0 q1 q2 q3 q4 q5
      go_wp2_with fail
      refine (c3 _ g1).mono ?_
      rintro e w2 ⟨rfl, g2⟩
      have A1 := AA.out.gr (g1.trans g2)
      obtain ⟨u0, u1, _, _⟩ := A1.set iv
      obtain ⟨r0, r1, r2, r3⟩ := A1
      go_wp2
      exact bodyPost_ret (v := .tuple #[Wd iv, .int .i64 0]) (by simp [results, Try.results21, go_sem, u0, u1]) rfl ⟨by rw [F2.out], (((G0.trans g1).trans g2).setCell (by simp) _).setCell (by simp) _⟩
    · have h2' : (eb == 0) = false := by rw [beq_eq_false_iff_ne]; exact h2
      have F2 : res = 0 := by rw [F.out, if_neg h2]
      subst F2
      clear C1 C2 C3 E F h1 HV hlen hL hH hI hR RA
      obtain ⟨S, L, H, R, I⟩ := r
      generalize a.length = n at *
      go_enter Try.func21, Try.ntmps21
      go_wp2_with fail
      refine c1.mono ?_
      rintro e w1 ⟨rfl, g1⟩
      go_wp2_with fail
      refine (c2 _ g1).mono ?_
      rintro e w' ⟨rfl, e2⟩
      subst e2
      have A1 := AA.out.gr g1
      obtain ⟨u0, u1, _, _⟩ := A1.set 0
      simp only [show hi 0 = 0 from rfl, show lo 0 = 0 from rfl] at u0 u1
      obtain ⟨r0, r1, r2, r3⟩ := A1
      go_wp2
      exact bodyPost_ret (v := .tuple #[Wd 0, .int .i64 eb]) (by simp [results, Try.results21, go_sem, u0, u1, hi, lo]) rfl ⟨rfl, ((G0.trans g1).setCell (by simp) _).setCell (by simp) _⟩
  · rw [if_neg h1] at E
    have c1 := C1 _ E.out.symm
    have h2 : ¬ eb = 0 := by rw [E.out]; exact h1
    have h2' : (eb == 0) = false := by rw [beq_eq_false_iff_ne]; exact h2
    have F2 : res = 0 := by rw [F.out, if_neg h2]
    subst F2
    clear C1 C2 C3 E F h1 HV hlen hL hH hI hR RA
    obtain ⟨S, L, H, R, I⟩ := r
    generalize a.length = n at *
    go_enter Try.func21, Try.ntmps21
    go_wp2_with fail
    refine c1.mono ?_
    rintro e w1 ⟨rfl, g1⟩
    have A1 := AA.out.gr g1
    obtain ⟨u0, u1, _, _⟩ := A1.set 0
    simp only [show hi 0 = 0 from rfl, show lo 0 = 0 from rfl] at u0 u1
    obtain ⟨r0, r1, r2, r3⟩ := A1
    go_wp2
    exact bodyPost_ret (v := .tuple #[Wd 0, .int .i64 eb]) (by simp [results, Try.results21, go_sem, u0, u1, hi, lo]) rfl ⟨rfl, ((G0.trans g1).setCell (by simp) _).setCell (by simp) _⟩

end Go.Proofs.Ytnhaloeeaejedaa
