/- No disk, no log; what Cut refuses. -/
import Derived.Test.YtcbhhdjjanekaaaGreatDoorWxWaQ
import Derived.Deep.OwnRows
namespace Go.Proofs.YtcbhhdjjanekaaaGreatDoor
open Go.RowKit Go.Lib Go.Maps

variable {w w0 w' W W' w1 w2 : World} {a b : Nat} {L L' Li : Lg} {q q' : Dq} {E E' F G : Nat → Prop}
theorem wopen_nil (w : World) : Calls Tryz.prog 21 #[.pointer none] w fun e w' => e = .returned (.tuple #[.pointer none, .slice none 0 0, .int .i64 3]) ∧ w = w' := by
  go_enter Tryz.func21, Tryz.ntmps21
  go_wp2
  exact bodyPost_ret (v := .tuple #[.pointer none, .slice none 0 0, .int .i64 3]) (by simp [results, Tryz.results21, go_sem]) rfl ⟨rfl, rfl⟩
theorem wn (w : World) : Calls Tryz.prog 39 #[.pointer none] w fun e w' => e = .returned (.bool true) ∧ w = w' := (wnone_nil w).mono fun _e _w' h => ⟨h.1, h.2.symm⟩
theorem wapp_nil (s : ByteArray) (w : World) : Calls Tryz.prog 22 #[.pointer none, .string s] w fun e w' => e = .returned (.tuple #[.int .i64 0, .int .i64 3]) ∧ w = w' := by
  go_enter Tryz.func22, Tryz.ntmps22
  go_wp2_with fail
  refine (wn w).mono ?_
  rintro e v1 ⟨rfl, rfl⟩
  go_wp2
  exact bodyPost_ret (v := .tuple #[.int .i64 0, .int .i64 3]) (by simp [results, Tryz.results22, go_sem]) rfl ⟨rfl, rfl⟩
theorem wsync_nil (w : World) : Calls Tryz.prog 23 #[.pointer none] w fun e w' => e = .returned (.int .i64 3) ∧ w = w' := by
  go_enter Tryz.func23, Tryz.ntmps23
  go_wp2_with fail
  refine (wn w).mono ?_
  rintro e v1 ⟨rfl, rfl⟩
  go_wp2
  go_ret
  exact ⟨rfl, rfl⟩
theorem wlast_nil (w : World) : Calls Tryz.prog 20 #[.pointer none] w fun e w' => e = .returned (.int .i64 0) ∧ w = w' := by
  go_enter Tryz.func20, Tryz.ntmps20
  go_wp2_with fail
  refine (wn w).mono ?_
  rintro e v1 ⟨rfl, rfl⟩
  go_wp2
  go_ret
  exact ⟨rfl, rfl⟩
theorem wfirst_nil (w : World) : Calls Tryz.prog 18 #[.pointer none] w fun e w' => e = .returned (.int .i64 0) ∧ w = w' := by
  go_enter Tryz.func18, Tryz.ntmps18
  go_wp2_with fail
  refine (wn w).mono ?_
  rintro e v1 ⟨rfl, rfl⟩
  go_wp2
  go_ret
  exact ⟨rfl, rfl⟩
theorem wsynced_nil (w : World) : Calls Tryz.prog 19 #[.pointer none] w fun e w' => e = .returned (.int .i64 0) ∧ w = w' := by
  go_enter Tryz.func19, Tryz.ntmps19
  go_wp2_with fail
  refine (wn w).mono ?_
  rintro e v1 ⟨rfl, rfl⟩
  go_wp2
  go_ret
  exact ⟨rfl, rfl⟩
theorem wcut_nil (n : Int) (w : World) : Calls Tryz.prog 24 #[.pointer none, .int .i64 n] w fun e w' => e = .returned (.int .i64 3) ∧ Gb w w' := by
  have g0 : Hid (Gb w (w.alloc (.cells #[.int .i64 n] 3))) := gb_alloc (Below.refl _ _) _
  go_enter Tryz.func24, Tryz.ntmps24
  go_wp2_with fail
  refine (wn _).mono ?_
  rintro e v1 ⟨rfl, rfl⟩
  go_wp2
  go_ret
  exact ⟨rfl, g0.out⟩
set_option maxRecDepth 100000 in
theorem wcut_hi (h : WaAt w a b L q E) (hne : L.sg ≠ []) (hlen : L.sg.length ≤ 900000) (hs : Sml L.cur.2) {n : Int} (h0 : 0 ≤ n) (h1 : L.lst < n) : Calls Tryz.prog 24 #[.pointer (some ⟨a, 0, none⟩), .int .i64 n] w fun e w' => e = .returned (.int .i64 180) ∧ Gb w w' := by
  have g0 : Gb w (w.alloc (.cells #[.int .i64 n] 3)) := gb_alloc (Below.refl _ _) _
  have cN : Hid (Calls Tryz.prog 39 #[.pointer (some ⟨a, 0, none⟩)] (w.alloc (.cells #[.int .i64 n] 3)) fun e w' => e = .returned (.bool false) ∧ w.alloc (.cells #[.int .i64 n] 3) = w') := (wnone_c (h.gb g0)).mono fun e w' h => ⟨h.1, h.2.symm⟩
  have cL : Hid (∀ X, Gb (w.alloc (.cells #[.int .i64 n] 3)) X → Calls Tryz.prog 20 #[.pointer (some ⟨a, 0, none⟩)] X fun e w' => e = .returned (.int .i64 L.lst) ∧ w'.cell? ⟨w.heap.size, 0, none⟩ = some (.int .i64 n) ∧ w.heap.size < w'.heap.size ∧ Gb w w') := fun X gX => by
    refine (wlast_c (h.gb (gb_trans g0 gX)) hne (by omega) hs).mono ?_
    rintro e w' ⟨rfl, g⟩
    have c0 : (w.alloc (.cells #[.int .i64 n] 3)).cell? ⟨w.heap.size, 0, none⟩ = some (.int .i64 n) := by simp [go_sem]
    have k := gb_keeps (gb_trans gX g) c0
    exact ⟨rfl, k, cell_lt k, gb_trans g0 (gb_trans gX g)⟩
  have kk : (w.alloc (.cells #[.int .i64 n] 3)).cell? ⟨w.heap.size, 0, none⟩ = some (.int .i64 n) := by simp [go_sem]
  have GD : Hid (Gb (w.alloc (.cells #[.int .i64 n] 3)) (w.alloc (.cells #[.int .i64 n] 3)).drew) := (Below.refl _ _).drew
  have GE : Hid (Gb (w.alloc (.cells #[.int .i64 n] 3)) (w.alloc (.cells #[.int .i64 n] 3))) := Below.refl _ _
  have n0 : decide (n < 0) = false := decide_eq_false (by omega)
  have n1 : decide (L.lst < n) = true := decide_eq_true h1
  clear h hne hlen hs g0
  generalize L.lst = ls at *
  go_enter Tryz.func24, Tryz.ntmps24
  go_wp2_with fail
  refine cN.out.mono ?_
  rintro e v1 ⟨rfl, rfl⟩
  go_wp2
  go_region_held3 (fun w' => w'.cell? ⟨w.heap.size, 0, none⟩ = some (.int .i64 n)) (first | exact kk | exact k1) (first
    | (go_at_call 20; refine (cL.out _ (by first | exact GD.out | exact GE.out)).mono ?_; rintro e w1 ⟨rfl, k1, s1, g1⟩))
  all_goals
    go_wp2
    go_ret
    exact ⟨rfl, g1⟩
end Go.Proofs.YtcbhhdjjanekaaaGreatDoor
