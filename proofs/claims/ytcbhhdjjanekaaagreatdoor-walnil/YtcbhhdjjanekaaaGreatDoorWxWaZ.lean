/- law18.awake; WalNil. -/
import Derived.Test.YtcbhhdjjanekaaaGreatDoorWxWaR
import Derived.Test.YtcbhhdjjanekaaaGreatDoorWxWaY
namespace Go.Proofs.YtcbhhdjjanekaaaGreatDoor
open Go.RowKit Go.Lib Go.Maps

variable {w w0 w' W W' w1 w2 : World} {a b : Nat} {L L' Li : Lg} {q q' : Dq} {E E' F G : Nat → Prop}
theorem kf_base (g : Gb w0 w) (hF : ∀ k, F k → w0.heap.size ≤ k) {X : World} (k : Kf F w X) : Gb w0 X :=
  ⟨k.os.trans g.os, k.tape.trans g.tape, k.output.trans g.output, Nat.le_trans g.size k.size, fun j hj => (k.block j (Nat.lt_of_lt_of_le hj g.size) fun f => by have := hF j f; omega).trans (g.block j hj)⟩
/-- A log and its disk of the call's own. -/
def AwS (w W : World) (a b : Nat) (L : Lg) (q : Dq) : Prop := ∃ E, WaAt W a b L q E ∧ Gb w W ∧ ∀ j, E j → w.heap.size ≤ j
def AwD (w W : World) (b : Nat) (q : Dq) : Prop := ∃ F, DkAt W b q F ∧ Gb w W ∧ ∀ j, F j → w.heap.size ≤ j
theorem AwS.gb (h : AwS w W a b L q) (g : Gb W W') : AwS w W' a b L q := by
  obtain ⟨E, h1, h2, h3⟩ := h
  exact ⟨E, h1.gb g, gb_trans h2 g, h3⟩
theorem AwS.base (h : AwS w W a b L q) : Gb w W := by obtain ⟨_, _, h, _⟩ := h; exact h
theorem AwS.dk (h : AwS w W a b L q) : AwD w W b q := by
  obtain ⟨E, ⟨F, sv, h1, _, _, ⟨_, _, hs⟩, _⟩, h2, h3⟩ := h
  exact ⟨F, h1, h2, fun j f => h3 j (hs j f)⟩
theorem AwS.call (h : AwS w W a b L q) (hG : Gl w) {f : FuncId} {args : Array Value} {R : Ending → Prop} (c : ∀ E, WaAt W a b L q E → GlK E W → Calls Tryz.prog f args W fun e w' => R e ∧ WaOut W w' a b L' q' E) : Calls Tryz.prog f args W fun e w' => R e ∧ Hid (AwS w w' a b L' q') := by
  obtain ⟨E, h1, h2, h3⟩ := h
  refine (c E h1 fun X k => hG.gb (kf_base h2 h3 k)).mono ?_
  rintro e w' ⟨hr, o1, o2⟩
  exact ⟨hr, _, o1, kf_base h2 h3 o2, fun j e => e.elim (h3 j) fun e => Nat.le_trans h2.size e.1⟩
theorem AwS.quiet (h : AwS w W a b L q) {f : FuncId} {args : Array Value} {R : Ending → Prop} (c : ∀ E, WaAt W a b L q E → Calls Tryz.prog f args W fun e w' => R e ∧ Gb W w') : Calls Tryz.prog f args W fun e w' => R e ∧ Hid (AwS w w' a b L q) ∧ Gb W w' := by
  obtain ⟨E, h1, h2, h3⟩ := h
  exact (c E h1).mono fun e w' k => ⟨k.1, AwS.gb ⟨E, h1, h2, h3⟩ k.2, k.2⟩
theorem AwD.crash (h : AwD w W b q) (ok : q.Ok) (hst : q.st < 100000) : Calls Tryz.prog 14 #[.pointer (some ⟨b, 0, none⟩), .slice none 0 0] W fun e w' => e = .returned (.int .i64 0) ∧ Hid (AwD w w' b (q.crash [])) := by
  obtain ⟨F, h1, h2, h3⟩ := h
  refine (crash_c h1 ok hst (cs := []) (by simp) fun _ _ => ⟨none, 0, rfl, fun i hi => absurd hi (Nat.not_lt_zero _)⟩).mono ?_
  rintro e w' ⟨rfl, o1, o2⟩
  exact ⟨rfl, _, o1, kf_base h2 h3 o2, fun j e => e.elim (h3 j) fun e => Nat.le_trans h2.size e.1⟩
/-- Open, where no error comes. -/
theorem AwD.open_ (h : AwD w W b q) (hG : Gl w) (ok : q.Ok) (hst : q.st < 70000) (hF : FsOk q) {rs : List Rec} (e : wOpen q = (0, rs, L', q')) :
    Calls Tryz.prog 21 #[.pointer (some ⟨b, 0, none⟩)] W fun e w' => ∃ a ax cx, e = .returned (.tuple #[.pointer (some ⟨a, 0, none⟩), .slice ax rs.length cx, .int .i64 0]) ∧ Hid (AwS w w' a b L' q') ∧ Hid (OwRc w' w.heap.size (.slice ax rs.length cx) rs) := by
  obtain ⟨F, h1, h2, h3⟩ := h
  refine (wopen_c h1 ok hst (fun X k => hG.gb (kf_base h2 h3 k)) hF).mono ?_
  rintro e' w' ⟨_, k⟩
  rw [e] at k
  obtain ⟨ax, cx, rfl, E', k1, k2, k3, k4, _⟩ := k rfl
  have s := h2.size
  exact ⟨_, ax, cx, rfl, ⟨E', k1, kf_base h2 h3 k3, fun j e => by
    rcases Nat.lt_or_ge j W.heap.size with hj | hj
    · exact h3 j (k2 j e hj)
    · omega⟩, World.ownsRow.mono k4 s⟩
theorem app_a : wApp (Ls 0 0 0, y3) [97] = (1, 0, Ls 1 10 0, y4) := by
  have := Ls_app (k := 0) (sz := 0) (sy := 0) (q := y3) (d := [97]) (r := ra) (by decide) (by omega) rfl y_a3
  rw [r_len.1] at this
  exact this
theorem app_b : wApp (Ls 1 10 0, y4) [98] = (2, 0, Ls 2 20 0, y5) := by
  have := Ls_app (k := 1) (sz := 10) (sy := 0) (q := y4) (d := [98]) (r := rb) (by decide) (by omega) rfl y_a4
  rw [r_len.2.1] at this
  exact this
theorem app_c : wApp (Ls 2 20 2, y7) [99] = (3, 0, Ls 3 30 2, y8) := by
  have := Ls_app (k := 2) (sz := 20) (sy := 2) (q := y7) (d := [99]) (r := rc) (by decide) (by omega) rfl y_a7
  rw [r_len.2.2] at this
  exact this
theorem syn_b : wSync (Ls 2 20 0, y5) = (0, Ls 2 20 2, y7) := Ls_sync y_s5 y_d5
theorem Ls_cur (k : Int) (sz : Nat) (sy : Int) : (Ls k sz sy).sg ≠ [] ∧ (Ls k sz sy).sg.length = 1 ∧ (Ls k sz sy).cur = (1, k + 1) ∧ (Ls k sz sy).sz = sz := ⟨by show [_] ≠ []; simp, rfl, rfl, rfl⟩
theorem AwS.app {k : Int} {sz : Nat} {sy : Int} (h : AwS w W a b (Ls k sz sy) q) (hG : Gl w) (ok : q.Ok) (hst : q.st < 1000) (hk : 0 ≤ k ∧ k ≤ 1000) (hz : sz ≤ 100000) {d : By} (hd : d.length ≤ 1000000) {m e : Int} (ew : wApp (Ls k sz sy, q) d = (m, e, L', q')) :
    Calls Tryz.prog 22 #[.pointer (some ⟨a, 0, none⟩), .string (sb d)] W fun e' w' => e' = .returned (.tuple #[.int .i64 m, .int .i64 e]) ∧ Hid (AwS w w' a b L' q') := by
  obtain ⟨c1, c2, c3, c4⟩ := Ls_cur k sz sy
  refine h.call hG (R := fun e' => e' = .returned (.tuple #[.int .i64 m, .int .i64 e])) fun E A GK => ?_
  have := wapp_c A ok (by omega) c1 (by omega) (by rw [c3]; unfold Sml; omega) (by rw [c3]; show _ ≤ k + 1 ∧ k + 1 ≤ _; omega) (by omega) GK (d := d) (by omega)
  rw [ew] at this
  exact this
theorem big_strN (n : Nat) (hn : n ≤ 100000) (w : World) : ∃ W v z, (Instr.makeSlice 59 (.int .i64 (n : Int)) (.int .i64 (n : Int))).run Tryz.prog w = .ok v W ∧ (convert 59 9 v).run Tryz.prog W = .ok (.string (sb z)) W ∧ z.length = n ∧ Gb w W := by
  have hmk := run_make_row' (P := Tryz.prog) 59 5 (.int .u8 0) 1 Tryz.underlying59 Tryz.infoB rfl .i64 .i64 n (by omega) (by omega) w
  refine ⟨_, _, List.replicate n 0, hmk, str_of ?_, by rw [List.length_replicate], gb_alloc (Below.refl _ _) _⟩
  refine ⟨_, _, by rw [List.length_replicate], by rw [List.length_replicate]; exact Nat.le_refl _, fun i hi => ⟨_, _, rfl, ?_⟩⟩
  rw [List.length_replicate] at hi
  have h5 := made5 n
  have e : (madeCells #[Value.int .u8 0] n)[i]? = some (bv 0) := by
    rw [← Array.getElem?_toList, h5, List.getElem?_replicate, if_pos hi]
  simp only [World.cell?, heap_alloc_new, Nat.zero_add]
  rw [getElem!_pos _ i (by rw [List.length_replicate]; exact hi), List.getElem_replicate]
  simpa [bv] using e
theorem big_str (w : World) : ∃ W v z, (Instr.makeSlice 59 (.int .i64 65537) (.int .i64 65537)).run Tryz.prog w = .ok v W ∧ (convert 59 9 v).run Tryz.prog W = .ok (.string (sb z)) W ∧ z.length = 65537 ∧ Gb w W := big_strN 65537 (by omega) w
theorem room_c (w : World) : Calls Tryz.prog 10 #[] w fun e w' => ∃ b, e = .returned (.pointer (some ⟨b, 0, none⟩)) ∧ Hid (AwD w w' b (nwQ 4194304)) := by
  have cN := new_c 4194304 (by omega) w
  go_enter Tryz.func10, Tryz.ntmps10
  go_wp2_with fail
  refine cN.mono ?_
  rintro e w1 ⟨b, rfl, _, D, g⟩
  go_wp2
  go_ret
  exact ⟨b, rfl, _, D, g, fun j h => h.1⟩
theorem two_cells {ax : Option Addr} {cx B : Nat} (h : OwRc W B (.slice ax 2 cx) [(1, [97]), (2, [98])]) : ∃ g, ax = some ⟨g, 0, none⟩ ∧ ∀ X, Gb W X → X.cell? ⟨g, 0, none⟩ = some (.int .i64 1) ∧ X.cell? ⟨g, 1, none⟩ = some (.string ⟨#[97]⟩) ∧ X.cell? ⟨g, 2, none⟩ = some (.int .i64 2) ∧ X.cell? ⟨g, 3, none⟩ = some (.string ⟨#[98]⟩) ∧ g < X.heap.size := by
  rcases id h.2 with ⟨e, e0⟩ | ⟨g, cap, cur, e, _⟩
  · cases e0
  · cases e
    have c := fun j u hj => World.ownsRow.cells h (g := g) rfl j u hj
    have c0 := c 0 (.int .i64 1) rfl
    have c1 := c 1 (.string (sb [97])) rfl
    have c2 := c 2 (.int .i64 2) rfl
    have c3 := c 3 (.string (sb [98])) rfl
    rw [Addr.add_lit] at c0 c1 c2 c3
    exact ⟨g, rfl, fun X gX => ⟨gb_keeps gX c0, gb_keeps gX c1, gb_keeps gX c2, gb_keeps gX c3, cell_lt (gb_keeps gX c0)⟩⟩
set_option maxHeartbeats 4000000 in
set_option maxRecDepth 100000 in
theorem wawake_c (w : World) (hG : Gl w) : Calls Tryz.prog 9 #[] w fun e w' => e = .returned (.bool true) ∧ Gb w w' := by
  obtain ⟨o0, o3, o4, o5, o7, o8, o9⟩ := y_ok
  obtain ⟨s0, s3, s4, s5, s7, s8, s9⟩ := y_st
  have GG : Hid (Gl w) := hG
  have cR := room_c w
  have cO : Hid (∀ b W, AwD w W b (nwQ 4194304) → Calls Tryz.prog 21 #[.pointer (some ⟨b, 0, none⟩)] W fun e w' => ∃ a ax cx, e = .returned (.tuple #[.pointer (some ⟨a, 0, none⟩), .slice ax 0 cx, .int .i64 0]) ∧ Hid (AwS w w' a b (Ls 0 0 0) y3)) := fun b W D => by
    refine (D.open_ GG.out o0 (by omega) fsok_new y_open).mono ?_
    rintro e w' ⟨a, ax, cx, rfl, h, _⟩
    exact ⟨a, ax, cx, rfl, h⟩
  have cA : Hid (∀ a b W, AwS w W a b (Ls 0 0 0) y3 → Calls Tryz.prog 22 #[.pointer (some ⟨a, 0, none⟩), .string ⟨#[97]⟩] W fun e' w' => e' = .returned (.tuple #[.int .i64 1, .int .i64 0]) ∧ Hid (AwS w w' a b (Ls 1 10 0) y4)) := fun a b W h => h.app GG.out o3 s3 (by omega) (by omega) (d := [97]) (by decide) app_a
  have cB : Hid (∀ a b W, AwS w W a b (Ls 1 10 0) y4 → Calls Tryz.prog 22 #[.pointer (some ⟨a, 0, none⟩), .string ⟨#[98]⟩] W fun e' w' => e' = .returned (.tuple #[.int .i64 2, .int .i64 0]) ∧ Hid (AwS w w' a b (Ls 2 20 0) y5)) := fun a b W h => h.app GG.out o4 s4 (by omega) (by omega) (d := [98]) (by decide) app_b
  have cS : Hid (∀ a b W, AwS w W a b (Ls 2 20 0) y5 → Calls Tryz.prog 23 #[.pointer (some ⟨a, 0, none⟩)] W fun e' w' => e' = .returned (.int .i64 0) ∧ Hid (AwS w w' a b (Ls 2 20 2) y7)) := fun a b W h => by
    obtain ⟨c1, c2, c3, c4⟩ := Ls_cur 2 20 0
    refine h.call GG.out (R := fun e' => e' = .returned (.int .i64 0)) fun E A GK => ?_
    have := wsync_c A o5 (by omega) c1 (by omega) (by rw [c3]; unfold Sml; omega) (by rw [c3]; unfold Sml; show _ ≤ (2 : Int) + 1 ∧ (2 : Int) + 1 ≤ _; omega) GK
    rw [syn_b] at this
    exact this
  have cY : Hid (∀ a b W, AwS w W a b (Ls 2 20 2) y7 → Calls Tryz.prog 19 #[.pointer (some ⟨a, 0, none⟩)] W fun e' w' => e' = .returned (.int .i64 2) ∧ W = w') := fun a b W h => by
    obtain ⟨E, A, _⟩ := h
    exact (wsynced_c A).mono fun e w' k => ⟨k.1, k.2.symm⟩
  have cZ : Hid (∀ a b W z, AwS w W a b (Ls 2 20 2) y7 → z.length = 65537 → Calls Tryz.prog 22 #[.pointer (some ⟨a, 0, none⟩), .string (sb z)] W fun e' w' => e' = .returned (.tuple #[.int .i64 0, .int .i64 2]) ∧ Hid (AwS w w' a b (Ls 2 20 2) y7)) := fun a b W z h hz =>
    h.app GG.out o7 s7 (by omega) (by omega) (d := z) (by omega) (by unfold wApp; rw [if_pos (by omega)])
  have cC : Hid (∀ a b W, AwS w W a b (Ls 2 20 2) y7 → Calls Tryz.prog 22 #[.pointer (some ⟨a, 0, none⟩), .string ⟨#[99]⟩] W fun e' w' => e' = .returned (.tuple #[.int .i64 3, .int .i64 0]) ∧ Hid (AwD w w' b y8)) := fun a b W h => (h.app GG.out o7 s7 (by omega) (by omega) (d := [99]) (by decide) app_c).mono fun e w' k => ⟨k.1, k.2.out.dk⟩
  have cK : Hid (∀ b W, AwD w W b y8 → Calls Tryz.prog 14 #[.pointer (some ⟨b, 0, none⟩), .slice none 0 0] W fun e' w' => e' = .returned (.int .i64 0) ∧ Hid (AwD w w' b y9)) := fun b W h => h.crash o8 (by omega)
  have cP : Hid (∀ b W, AwD w W b y9 → Calls Tryz.prog 21 #[.pointer (some ⟨b, 0, none⟩)] W fun e w' => ∃ a g cx, e = .returned (.tuple #[.pointer (some ⟨a, 0, none⟩), .slice (some ⟨g, 0, none⟩) 2 cx, .int .i64 0]) ∧ Hid (AwS w w' a b (Ls 2 20 2) ((y9.sync n1).syncDir)) ∧ Hid (∀ X, Gb w' X → X.cell? ⟨g, 0, none⟩ = some (.int .i64 1) ∧ X.cell? ⟨g, 1, none⟩ = some (.string ⟨#[97]⟩) ∧ X.cell? ⟨g, 2, none⟩ = some (.int .i64 2) ∧ X.cell? ⟨g, 3, none⟩ = some (.string ⟨#[98]⟩) ∧ g < X.heap.size)) := fun b W D => by
    refine (D.open_ GG.out o9 (by omega) fsok_y9 y_open2).mono ?_
    rintro e w' ⟨a, ax, cx, rfl, h, ho⟩
    obtain ⟨g, rfl, k⟩ := two_cells ho.out
    exact ⟨a, g, cx, rfl, h, k⟩
  have cL : Hid (∀ a b W, AwS w W a b (Ls 2 20 2) ((y9.sync n1).syncDir) → Calls Tryz.prog 20 #[.pointer (some ⟨a, 0, none⟩)] W fun e' w' => e' = .returned (.int .i64 2) ∧ Hid (AwS w w' a b (Ls 2 20 2) ((y9.sync n1).syncDir)) ∧ Gb W w') := fun a b W h => by
    obtain ⟨c1, c2, c3, c4⟩ := Ls_cur 2 20 2
    exact h.quiet (R := fun e' => e' = .returned (.int .i64 2)) fun E A => wlast_c A c1 (by omega) (by rw [c3]; unfold Sml; show _ ≤ (2 : Int) + 1 ∧ (2 : Int) + 1 ≤ _; omega)
  have cU : Hid (∀ a b W, AwS w W a b (Ls 2 20 2) ((y9.sync n1).syncDir) → Calls Tryz.prog 24 #[.pointer (some ⟨a, 0, none⟩), .int .i64 9] W fun e' w' => e' = .returned (.int .i64 180) ∧ Hid (Gb w w')) := fun a b W h => by
    obtain ⟨c1, c2, c3, c4⟩ := Ls_cur 2 20 2
    have hb := h.base
    obtain ⟨E, A, _⟩ := h
    refine (wcut_hi A c1 (by omega) (by rw [c3]; unfold Sml; show _ ≤ (2 : Int) + 1 ∧ (2 : Int) + 1 ≤ _; omega) (n := 9) (by omega) (by show (2 : Int) + 1 - 1 < 9; omega)).mono fun e w' k => ⟨k.1, gb_trans hb k.2⟩
  have cM := big_str
  clear o0 o3 o4 o5 o7 o8 o9 s0 s3 s4 s5 s7 s8 s9 hG GG
  go_enter Tryz.func9, Tryz.ntmps9
  go_wp2_with fail
  refine cR.mono ?_
  rintro e w1 ⟨b, rfl, D1⟩
  have cO := cO.out b w1 D1.out
  clear cR D1
  go_wp2_with fail
  refine cO.mono ?_
  rintro e w2 ⟨a, ax, cx, rfl, A2⟩
  have cA := cA.out a b w2 A2.out
  clear cO A2
  go_wp2_with fail
  refine cA.mono ?_
  rintro e w3 ⟨rfl, A3⟩
  have cB := cB.out a b w3 A3.out
  clear cA A3
  go_wp2_with fail
  refine cB.mono ?_
  rintro e w4 ⟨rfl, A4⟩
  have cS := cS.out a b w4 A4.out
  clear cB A4
  go_wp2_with fail
  refine cS.mono ?_
  rintro e w5 ⟨rfl, A5⟩
  have cY := cY.out a b w5 A5.out
  clear cS
  go_wp2_with fail
  refine cY.mono ?_
  rintro e w6 ⟨rfl, rfl⟩
  obtain ⟨W7, v7, z7, hm, hc, hz, g7⟩ := cM w5
  have cZ := cZ.out a b W7 z7 (A5.out.gb g7) hz
  clear cY A5 cM hz g7
  generalize sb z7 = s7 at *
  go_wp2_with fail
  refine cZ.mono ?_
  rintro e w8 ⟨rfl, A8⟩
  have cC := cC.out a b w8 A8.out
  clear cZ A8 hm hc
  go_wp2_with fail
  refine cC.mono ?_
  rintro e w9 ⟨rfl, D9⟩
  have cK := cK.out b w9 D9.out
  clear cC D9
  go_wp2_with fail
  refine cK.mono ?_
  rintro e wa ⟨rfl, Da⟩
  have cP := cP.out b wa Da.out
  clear cK Da
  go_wp2_with fail
  refine cP.mono ?_
  rintro e wb ⟨m, g, cy, rfl, Ab, CC⟩
  have cL := cL.out m b wb Ab.out
  obtain ⟨p0, p1, p2, p3, pg⟩ := CC.out wb (Below.refl _ _)
  clear cP Ab
  go_wp2_with fail
  refine cL.mono ?_
  rintro e wc ⟨rfl, Ac, gc⟩
  have cU := cU.out m b wc Ac.out
  clear cL Ac CC
  go_wp2_with fail
  refine cU.mono ?_
  rintro e wd ⟨rfl, gd⟩
  clear cU
  go_wp2
  go_ret
  exact ⟨rfl, gd.out⟩
end Go.Proofs.YtcbhhdjjanekaaaGreatDoor
