/- take. -/
import Derived.Test.YtcbhhdjjanekaaaGreatDoorWxWaN
import Derived.Test.YtcbhhdjjanekaaaGreatDoorWxWaK
namespace Go.Proofs.YtcbhhdjjanekaaaGreatDoor
open Go.RowKit Go.Lib Go.Maps

variable {w w' W W' w1 w2 : World} {a b : Nat} {L L' Li : Lg} {q q' : Dq} {E E' F G : Nat → Prop}
def slN : Value → Nat
  | .slice _ n _ => n
  | _ => 0
theorem dcE_zero {l : By} (h : dcE l = 0) : 9 + dcN l ≤ l.length := by
  unfold dcE at h
  split at h
  · omega
  split at h
  · omega
  split at h
  · omega
  split at h
  · omega
  · omega
theorem takeF_no {f : Nat} {l : By} (h : dcE (l.drop L.sz) ≠ 0) : L.takeF (f + 1) l = ([], L) := by unfold Lg.takeF; rw [if_neg h]
theorem takeF_yes {f : Nat} {l : By} (h : dcE (l.drop L.sz) = 0) : L.takeF (f + 1) l = ((L.cur.2, dcB (l.drop L.sz)) :: ((L.count (9 + dcN (l.drop L.sz))).takeF f l).1, ((L.count (9 + dcN (l.drop L.sz))).takeF f l).2) := by
  show (if dcE (l.drop L.sz) = 0 then _ else _) = _
  rw [if_pos h]
theorem count_len (hne : L.sg ≠ []) (n : Nat) : (L.count n).sg.length = L.sg.length := by
  show (L.sg.dropLast ++ [(L.cur.1, L.cur.2 + 1)]).length = _
  have := List.length_pos_iff.2 hne
  simp; omega
/-- What take leaves: the log, its records apart from whatever its calls turn. -/
def TkO (w W : World) (a b : Nat) (L : Lg) (q : Dq) (E : Nat → Prop) (rv : Value) (rs : List Rec) : Prop := ∃ E', WaAt W a b L q E' ∧ (∀ j, E' j → j < w.heap.size → E j) ∧ Kf E w W ∧ OwRc W w.heap.size rv rs ∧ ∀ j, rv.ownBlock = some j → ¬ E' j
def TkI (w : World) (a b : Nat) (L : Lg) (q : Dq) (E : Nat → Prop) (l : By) (n : Nat) (rv : Value) (W : World) : Prop := ∃ rs Li f, (L.takeF (l.length + 1) l = (rs ++ (Li.takeF f l).1, (Li.takeF f l).2)) ∧ l.length < Li.sz + f ∧ Li.sz ≤ l.length ∧ Li.sg.length = L.sg.length ∧ Li.cur.2 = L.cur.2 + rs.length ∧ rs.length * 9 ≤ Li.sz ∧ rs.length = n ∧ TkO w W a b Li q E rv rs
theorem TkO.gb {rv : Value} {rs : List Rec} (h : TkO w W a b L q E rv rs) (g : Gb W W') : TkO w W' a b L q E rv rs := by
  obtain ⟨E', h1, h2, h3, h4, h5⟩ := h
  exact ⟨E', h1.gb g, h2, h3.then (Kf.gb g E) fun _ _ e => e, row_same h4 fun k e => g.block k (World.ownsRow.lt h4 k e).2, h5⟩
/-- A record appended: the records' own row alone turns. -/
theorem TkO.app {rv rv' : Value} {rs rs' : List Rec} (h : TkO w W a b L q E rv rs) (hg : W.grownBy W' rv.ownBlock) (ho : OwRc W' w.heap.size rv' rs') (hb : ∀ k, rv'.ownBlock = some k → rv.ownBlock = some k ∨ W.heap.size ≤ k) : TkO w W' a b L q E rv' rs' := by
  obtain ⟨E', h1, h2, h3, h4, h5⟩ := h
  have k : Kf (fun j => rv.ownBlock = some j) W W' := Kf.grown hg fun j e => e
  refine ⟨E', h1.kp k fun j e => h5 j e, h2, h3.then k fun j hj e => ?_, ho, fun j e => ?_⟩
  · have := (World.ownsRow.lt h4 j e).1
    omega
  · rcases hb j e with e' | e'
    · exact h5 j e'
    · exact fun f => by have := h1.lt j f; omega
/-- A call of the log. -/
theorem TkO.out {rv : Value} {rs : List Rec} (h : TkO w W a b L q E rv rs) {f : FuncId} {args : Array Value} {R : Ending → Prop} (c : ∀ E', WaAt W a b L q E' → Calls Tryz.prog f args W fun e w' => R e ∧ WaOut W w' a b L' q' E') : Calls Tryz.prog f args W fun e w' => R e ∧ TkO w w' a b L' q' E rv rs := by
  obtain ⟨E', h1, h2, h3, h4, h5⟩ := h
  refine (c E' h1).mono ?_
  rintro e w' ⟨hr, o1, o2⟩
  have s := h3.size
  refine ⟨hr, Nw E' W w', o1, fun j e hj => e.elim (fun e => h2 j e hj) fun e => by omega, h3.then o2 fun j hj e => h2 j e hj, row_same h4 fun k e => o2.block k (World.ownsRow.lt h4 k e).2 (h5 k e), fun j e f => f.elim (h5 j e) fun f => by have := (World.ownsRow.lt h4 j e).2; omega⟩
theorem TkO.at_ {rv : Value} {rs : List Rec} (h : TkO w W a b L q E rv rs) : ∃ E', WaAt W a b L q E' := by obtain ⟨E', h, _⟩ := h; exact ⟨E', h⟩
theorem TkO.setA {rv : Value} {rs : List Rec} (h : TkO w W a b L q E rv rs) {i : Nat} {v : Value} (hl : ∀ sv, (lgC b sv L).setIfInBounds i v = lgC b sv L') (hs : L'.sg = L.sg) : TkO w (W.setCell ⟨a, i, none⟩ v) a b L' q E rv rs := by
  obtain ⟨E', h1, h2, h3, h4, h5⟩ := h
  have hE := h1.inE
  have k := (Kf.refl (fun j => j = a) W).set (p := ⟨a, i, none⟩) (fun _ => rfl) v
  refine ⟨E', h1.setA hl hs, h2, h3.then k fun j hj e => h2 j (e ▸ hE) hj, row_same h4 fun j e => k.block j (World.ownsRow.lt h4 j e).2 fun e' => h5 j e (e' ▸ hE), h5⟩
theorem TkO.wa {rv : Value} {rs : List Rec} (h : TkO w W a b L q E rv rs) (hE : ∀ j, E j → j < w.heap.size) : WaOut w W a b L q E := by
  obtain ⟨E', h1, h2, h3, h4, h5⟩ := h
  refine ⟨h1.mono (fun j e => ?_) fun j e => e.elim (fun e => Nat.lt_of_lt_of_le (hE j e) h3.size) fun e => e.2, h3⟩
  rcases Nat.lt_or_ge j w.heap.size with hj | hj
  · exact .inl (h2 j e hj)
  · exact .inr ⟨hj, h1.lt j e⟩
set_option maxRecDepth 100000 in
set_option maxHeartbeats 4000000 in
theorem wtake_c (h : WaAt w a b L q E) (hne : L.sg ≠ []) (hlen : L.sg.length ≤ 900000) (hs2 : -4000000000000000000 ≤ L.cur.2 ∧ L.cur.2 ≤ 4000000000000000000) (hz : L.sz = 0) {ao : Option Addr} {c : Nat} {l : By} (hU : ∀ X, Kf E w X → RdB X (.slice ao l.length c) l) (hc : l.length ≤ c) (hl : l.length ≤ 4194304) :
    Calls Tryz.prog 63 #[.pointer (some ⟨a, 0, none⟩), .slice ao l.length c] w fun e w' => ∃ ax cx, e = .returned (.slice ax (L.take l).1.length cx) ∧ Hid (TkO w w' a b (L.take l).2 q E (.slice ax (L.take l).1.length cx) (L.take l).1) := by
  have ST : Hid (TkI w a b L q E l 0 (.slice none 0 0) w) := ⟨[], L, l.length + 1, by simp, by omega, by omega, rfl, by simp, by simp, rfl, E, h, fun _ e _ => e, Kf.refl _ _, owrc_nil _ _, fun j e => by cases e⟩
  have U : Hid (∀ X, Kf E w X → RdB X (.slice ao l.length c) l) := hU
  have FT : (L.take l).1 = (L.takeF (l.length + 1) l).1 ∧ (L.take l).2 = { (L.takeF (l.length + 1) l).2 with tn := decide ((L.takeF (l.length + 1) l).2.sz < l.length) } := ⟨rfl, rfl⟩
  have NB : Hid (l.length ≤ 4194304 ∧ l.length ≤ c ∧ L.sg ≠ [] ∧ L.sg.length ≤ 900000 ∧ (-4000000000000000000 ≤ L.cur.2 ∧ L.cur.2 ≤ 4000000000000000000)) := ⟨hl, hc, hne, hlen, hs2⟩
  obtain ⟨N, hN⟩ : ∃ N, N = l.length := ⟨_, rfl⟩
  have NN : Hid (N = l.length) := hN
  have hN4 : N ≤ 4194304 := by omega
  have hNc : N ≤ c := by omega
  rw [← hN]
  clear hU h hc hl hne hlen hs2 hz hN
  go_enter Tryz.func63, Tryz.ntmps63
  go_wp2
  go_loopw [5] (fun rv W => ∃ ax n cx, rv = .slice ax n cx ∧ n ≤ N ∧ Hid (TkI w a b L q E l n (.slice ax n cx) W)) (fun rv _ => N + 1 - slN rv)
  case atStart => exact ⟨none, 0, 0, rfl, Nat.zero_le _, ST.out⟩
  case round =>
    clear ST
    obtain ⟨ax, n, cx, rfl, hn, X⟩ := hrel
    obtain ⟨rs, Li, f, e1, e2, e3, e4, e5, e6, e7, O⟩ := X.out
    obtain ⟨nb1, nb2, nb3, nb4, nb5, nb6⟩ := NB.out
    have hNl := NN.out
    have rdW := U.out wr (by obtain ⟨_, _, _, k, _⟩ := O; exact k)
    obtain ⟨_, _, eU, _, hcl⟩ := rdW
    cases eU
    have rdD : RdB wr (.slice (Option.map (fun x => x.add Li.sz) ao) (N - Li.sz) (c - Li.sz)) (l.drop Li.sz) := by
      have := rdb_drop hcl e3 nb2
      rwa [← hNl] at this
    have hLne : Li.sg ≠ [] := fun e => by rw [e] at e4; exact nb3 (List.length_eq_zero_iff.1 e4.symm)
    have RD1 : Hid (c - Li.sz = 0 → RdB wr (.slice ao (N - Li.sz) 0) (l.drop Li.sz)) := fun e => ⟨ao, 0, by rw [List.length_drop, hNl], by rw [List.length_drop]; omega, fun i hi => by rw [List.length_drop] at hi; omega⟩
    have RD2 : Hid (RdB wr (.slice (Option.map (fun x => x.add Li.sz) ao) (N - Li.sz) (c - Li.sz)) (l.drop Li.sz)) := rdD
    have D : Hid (∀ u, RdB wr u (l.drop Li.sz) → Calls Tryz.prog 80 #[u] wr fun e w1 => e = .returned (dcV (l.drop Li.sz)) ∧ (w1.cell? ⟨a, 2, none⟩ = some (.int .i64 (Li.sz : Int)) ∧ w1.cell? ⟨a, 3, none⟩ = some (.bool Li.tn) ∧ w1.frozen? ⟨a, 3, none⟩ = false ∧ a < w1.heap.size) ∧
        Hid (dcE (l.drop Li.sz) ≠ 0 → ∃ n', n = n' ∧ n' = (L.take l).1.length ∧ TkO w (w1.setCell ⟨a, 3, none⟩ (.bool (decide (Li.sz < N)))) a b (L.take l).2 q E (.slice ax n' cx) (L.take l).1) ∧
        Hid (dcE (l.drop Li.sz) = 0 → n + 1 ≤ N ∧ Calls Tryz.prog 40 #[.pointer (some ⟨a, 0, none⟩)] w1 fun e w2 => ∃ g o, e = .returned (.pointer (some ⟨g, o, none⟩)) ∧ (w2.cell? ⟨g, o + 1, none⟩ = some (.int .i64 Li.cur.2) ∧ g < w2.heap.size) ∧
          ∃ ax' cx' W3, (Builtin.append_ #[44, 44] 44 #[.slice ax n cx, .slice (some ⟨w2.heap.size, 0, none⟩) 1 1]).run Tryz.prog (w2.alloc (.cells #[.int .i64 Li.cur.2, .string (sb (dcB (l.drop Li.sz)))] 51)) = .ok (.slice ax' (n + 1) cx') W3 ∧
            Hid (Calls Tryz.prog 47 #[.pointer (some ⟨a, 0, none⟩), .int .i64 ((9 + dcN (l.drop Li.sz) : Nat) : Int)] W3 fun e w4 => e = .returned (.tuple #[]) ∧ Hid (TkI w a b L q E l (n + 1) (.slice ax' (n + 1) cx') w4)))) := fun u hu => by
      refine (decode_c hu (by rw [List.length_drop]; omega)).mono ?_
      rintro e w1 ⟨rfl, g1⟩
      have O1 := O.gb g1
      obtain ⟨E1, A1⟩ := O1.at_
      obtain ⟨_, _, ⟨_, _, k2, k3, _⟩, fz, ha1⟩ := A1.cells
      refine ⟨rfl, ⟨k2, k3, fz 3, ha1⟩, fun hd => ?_, fun hd => ?_⟩
      · obtain ⟨f', rfl⟩ : ∃ f', f = f' + 1 := ⟨f - 1, by omega⟩
        rw [takeF_no hd, List.append_nil] at e1
        have t1 : (L.take l).1 = rs := by rw [FT.1, e1]
        have t2 : (L.take l).2 = { Li with tn := decide (Li.sz < l.length) } := by rw [FT.2, e1]
        have ed : decide (Li.sz < N) = decide (Li.sz < l.length) := by rw [hNl]
        refine ⟨n, rfl, by rw [t1]; exact e7.symm, ?_⟩
        rw [t1, t2, ed]
        exact O1.setA (fun sv => rfl) rfl
      · have du := dcE_zero hd
        rw [List.length_drop] at du
        refine ⟨by omega, ?_⟩
        refine (wcurrent_c A1 hLne (by omega)).mono ?_
        rintro e w2 ⟨⟨g, o, rfl, C⟩, g2⟩
        refine ⟨g, o, rfl, ⟨C.2.1, C.2.2.2.1⟩, ?_⟩
        have O2 := (O1.gb g2).gb (gb_alloc (Below.refl _ w2) (.cells #[.int .i64 Li.cur.2, .string (sb (dcB (l.drop Li.sz)))] 51))
        have hs := O2
        obtain ⟨_, _, _, kf, ho, _⟩ := hs
        have rd1 : RdRc (w2.alloc (.cells #[.int .i64 Li.cur.2, .string (sb (dcB (l.drop Li.sz)))] 51)) (.slice (some ⟨w2.heap.size, 0, none⟩) 1 1) [(Li.cur.2, dcB (l.drop Li.sz))] := by
          refine ⟨_, _, rfl, .inr ⟨_, rfl, fun j x hj => ?_⟩⟩
          rw [Addr.add_lit]
          rcases j with _ | _ | j
          · simp [rcV] at hj; subst hj; simp [go_sem]
          · simp [rcV] at hj; subst hj; simp [go_sem]
          · simp [rcV] at hj
        obtain ⟨ax', cx', W3, hr, ho3, hg3, hb3⟩ := appRc_run ho rd1 kf.size (by simp; omega)
        rw [List.length_singleton, e7] at hr ho3 hb3
        refine ⟨ax', cx', W3, hr, ?_⟩
        have O3 : TkO w W3 a b Li q E (.slice ax' (n + 1) cx') (rs ++ [(Li.cur.2, dcB (l.drop Li.sz))]) := O2.app hg3 ho3 hb3
        have hcu : Sml Li.cur.2 := by unfold Sml; rw [e5]; omega
        refine (O3.out (R := fun e => e = .returned (.tuple #[])) (L' := Li.count (9 + dcN (l.drop Li.sz))) (q' := q) fun E' A => wcount_c A hLne (by omega) hcu (by omega) (by omega)).mono ?_
        rintro e w4 ⟨rfl, O4⟩
        obtain ⟨f', rfl⟩ : ∃ f', f = f' + 1 := ⟨f - 1, by omega⟩
        rw [takeF_yes hd] at e1
        refine ⟨rfl, _, Li.count (9 + dcN (l.drop Li.sz)), f', by rw [e1]; simp, ?_, ?_, ?_, ?_, ?_, by simp [e7], O4⟩
        · show l.length < Li.sz + _ + f'; omega
        · show Li.sz + _ ≤ l.length; omega
        · rw [count_len hLne, e4]
        · rw [cur_count]; show Li.cur.2 + 1 = _; rw [e5]; simp; omega
        · show _ ≤ Li.sz + _; simp; omega
    obtain ⟨E0, A0⟩ := O.at_
    obtain ⟨_, _, ⟨_, _, k2, _⟩, _, ha⟩ := A0.cells
    have hsz : (Li.sz : Int) ≤ (N : Int) := by omega
    have hszc : Li.sz ≤ c := by omega
    have hsz0 : (0 : Int) ≤ (Li.sz : Int) := by omega
    have hszN : Li.sz ≤ N := by omega
    clear X O e1 e2 e3 e4 e5 e6 e7 nb1 nb2 nb3 nb4 nb5 nb6 hNl hcl rdD hLne A0 U NB FT
    by_cases hd : dcE (l.drop Li.sz) = 0
    · have ev : dcV (l.drop Li.sz) = .tuple #[.int .i64 (dcK (l.drop Li.sz) : Int), .string (sb (dcB (l.drop Li.sz))), .int .i64 ((9 + dcN (l.drop Li.sz) : Nat) : Int), .int .i64 0] := by unfold dcV; rw [if_pos hd]
      rw [ev] at D
      have HD : Hid (dcE (l.drop Li.sz) = 0) := hd
      have du0 := dcE_zero hd
      rw [List.length_drop, ← NN.out] at du0
      have hlt : Li.sz < c := by omega
      have hlt0 : ¬ c - Li.sz = 0 := by omega
      have hlt1 : ¬ c ≤ Li.sz := by omega
      have hlti : (Li.sz : Int) < (c : Int) := by omega
      clear du0
      clear hd ev
      generalize dcK (l.drop Li.sz) = dk at *
      generalize sb (dcB (l.drop Li.sz)) = sd at *
      generalize 9 + dcN (l.drop Li.sz) = du at *
      generalize Li.cur.2 = cx2 at *
      generalize hszz : Li.sz = sz at *
      go_wp2_with fail
      all_goals
        refine (D.out _ (by first | exact RD2.out | exact RD1.out (by omega))).mono ?_
        rintro e w1 ⟨rfl, ⟨m2, m3, mf, ha1⟩, _, CU⟩
        obtain ⟨hn1, CC⟩ := CU.out HD.out
        clear D CU RD1 RD2
        go_wp2_with fail
        refine CC.mono ?_
        rintro e w2 ⟨g, o, rfl, ⟨cg, hg⟩, ax', cx', W3, hr, CO⟩
        clear CC
        go_wp2_with (first | (at_builtin; refine wpl_append rfl (.tmp 24) (.tmp 32) 44 rfl _ _ rfl rfl hr ?_) | fail)
        refine CO.out.mono ?_
        rintro e w4 ⟨rfl, I4⟩
        clear CO hr
        go_wp2
        exact ⟨⟨ax', n + 1, cx', rfl, hn1, I4⟩, by simp [slN]; omega⟩
    · have ev : dcV (l.drop Li.sz) = .tuple #[.int .i64 0, .string (sb []), .int .i64 0, .int .i64 (dcE (l.drop Li.sz))] := by unfold dcV; rw [if_neg hd]
      rw [ev] at D
      have bd : (dcE (l.drop Li.sz) == 0) = false := by rw [beq_eq_false_iff_ne]; exact hd
      have HD : Hid (dcE (l.drop Li.sz) ≠ 0) := hd
      clear ev
      generalize sb [] = sd at *
      go_wp2_with fail
      all_goals
        refine (D.out _ (by first | exact RD2.out | exact RD1.out (by omega))).mono ?_
        rintro e w1 ⟨rfl, ⟨m2, m3, mf, ha1⟩, FI, _⟩
        have FF := FI.out HD.out
        have F2 : Hid (∃ n', n = n' ∧ n' = (L.take l).1.length ∧ TkO w (w1.setCell ⟨a, 3, none⟩ (.bool (decide (Li.sz < N)))) a b (L.take l).2 q E (.slice ax n' cx) (L.take l).1) := FF
        clear D FI FF RD1 RD2
        go_wp2
        go_ret
        obtain ⟨n', rfl, en, T⟩ := F2.out
        rw [en] at T ⊢
        exact ⟨ax, cx, rfl, T⟩
end Go.Proofs.YtcbhhdjjanekaaaGreatDoor
