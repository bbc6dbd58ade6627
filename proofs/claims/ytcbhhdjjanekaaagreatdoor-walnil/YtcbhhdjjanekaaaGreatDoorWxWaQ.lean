/- Open; what Cut refuses; no disk, no log. -/
import Derived.Test.YtcbhhdjjanekaaaGreatDoorWxWaP
namespace Go.Proofs.YtcbhhdjjanekaaaGreatDoor
open Go.RowKit Go.Lib Go.Maps

variable {w w0 w' W W' w1 w2 : World} {a b : Nat} {L L' Li : Lg} {q q' : Dq} {E E' F G : Nat → Prop}
/-- A last segment that may go on. -/
def CurOk (L : Lg) : Prop := L.sg ≠ [] ∧ (-1000000000000000000 ≤ L.cur.1 ∧ L.cur.1 ≤ 1000000000000000000) ∧ (-1000000000000000000 ≤ L.cur.2 ∧ L.cur.2 ≤ 1000000000001000000) ∧ L.sz ≤ 4194304
theorem readF_ok (ok : q.Ok) : ∀ (fl : List Int) (L : Lg) (rs : List Rec), (∀ f ∈ fl, -1000000000000000000 ≤ f ∧ f ≤ 1000000000000000000) → (Lg.readF q fl L rs).1 = 0 → (Lg.readF q fl L rs).2.2.sg.length = L.sg.length + fl.length ∧ ((fl ≠ [] ∨ CurOk L) → CurOk (Lg.readF q fl L rs).2.2)
  | [], L, rs, _, _ => ⟨rfl, fun h => h.elim (fun h => absurd rfl h) id⟩
  | f :: t, L, rs, hf, h => by
    rw [readF_cons] at h ⊢
    by_cases ef : fiE q (sgN f) = 0
    · rw [if_pos ef] at h ⊢
      have hal : (L.add f).sg.length = L.sg.length + 1 := by show (L.sg ++ [_]).length = _; simp
      have hane : (L.add f).sg ≠ [] := fun e => by rw [e] at hal; simp at hal
      have RL := rdV_le ok (sgN f)
      have hac := add_cur L f
      obtain ⟨t1, t2, t3, t4, t5⟩ := take_len (L := L.add f) (b := rdV q (sgN f)) hane rfl
      obtain ⟨i1, i2⟩ := readF_ok ok t _ (rs ++ ((L.add f).take (rdV q (sgN f))).1) (fun x hx => hf x (List.mem_cons_of_mem _ hx)) h
      refine ⟨by rw [i1, t2, hal, List.length_cons]; omega, fun _ => i2 (.inr ⟨fun e => by rw [e, hal] at t2; simp at t2, ?_, ?_, by omega⟩)⟩
      · rw [t4, hac]; exact hf f List.mem_cons_self
      · rw [t5, hac]
        have hb := hf f List.mem_cons_self
        show _ ≤ f + _ ∧ f + _ ≤ _
        omega
    · rw [if_neg ef] at h
      exact absurd h ef
theorem wTidy_ok (ok : q.Ok) (h : (wTidy (L, q)).1 = 0) : (wTidy (L, q)).2.2.Ok ∧ (wTidy (L, q)).2.2.st ≤ q.st + 2 ∧ (wTidy (L, q)).2.1.sg.length ≤ L.sg.length + 1 ∧ ((L.sg ≠ [] → CurOk L) → CurOk (wTidy (L, q)).2.1) := by
  have one : CurOk (L.add 1) := by
    have hc := add_cur L 1
    refine ⟨by show L.sg ++ [_] ≠ []; simp, by rw [hc]; omega, by rw [hc]; show _ ≤ (1 : Int) ∧ (1 : Int) ≤ _; omega, Nat.zero_le _⟩
  have hb : ∀ q' : Dq, q'.Ok → (wBegin (L, q') 1).1 = 0 → (wBegin (L, q') 1).2.2.Ok ∧ (wBegin (L, q') 1).2.2.st ≤ q'.st + 1 ∧ (wBegin (L, q') 1).2.1.sg.length ≤ L.sg.length + 1 ∧ CurOk (wBegin (L, q') 1).2.1 := fun q' ok' h' => by
    have f := wBegin_ok (L := L) ok' 1
    refine ⟨f.1, f.2, ?_⟩
    unfold wBegin at h' ⊢
    split at h'
    · rename_i e
      rw [if_pos e]
      exact ⟨by show (L.sg ++ [_]).length ≤ _; simp, one⟩
    · rename_i e
      exact absurd h' e
  rw [wTidy_eq] at h ⊢
  dsimp only at h ⊢
  split at h
  · rename_i hs
    rw [if_pos hs]
    split at h
    · rename_i ef
      rw [if_pos ef]
      have st := remove_st q sprN
      split at h
      · rename_i he
        rw [if_pos he]
        obtain ⟨b1, b2, b3, b4⟩ := hb _ (ok.remove _) h
        exact ⟨b1, by omega, b3, fun _ => b4⟩
      · rename_i he
        rw [if_neg he]
        exact ⟨ok.remove _, by show (q.remove sprN).st ≤ _; omega, by show L.sg.length ≤ _; omega, fun k => k he⟩
    · rename_i ef
      exact absurd h ef
  · rename_i hs
    rw [if_neg hs]
    split at h
    · rename_i he
      rw [if_pos he]
      obtain ⟨b1, b2, b3, b4⟩ := hb _ ok h
      exact ⟨b1, by omega, b3, fun _ => b4⟩
    · rename_i he
      rw [if_neg he]
      exact ⟨ok, by show q.st ≤ _; omega, by show L.sg.length ≤ _; omega, fun k => k he⟩
theorem CurOk.sml (h : CurOk L) : Sml L.cur.1 ∧ Sml L.cur.2 := by
  obtain ⟨_, h1, h2, _⟩ := h
  unfold Sml
  omega
theorem TkO.dk {rv : Value} {rs : List Rec} (h : TkO w W a b L q F rv rs) (hF : ∀ j, F j → j < w.heap.size) : DkOut w W b q F := by
  obtain ⟨E', ⟨F', sv, ⟨ks, fm, nb, sn, cv, fv, h1, h2, h3, h4⟩, _, _, ⟨_, _, hs⟩, hl⟩, k2, k3, _, _⟩ := h
  have s := k3.size
  have e : ∀ j, F' j → Nw F w W j := fun j f => by
    rcases Nat.lt_or_ge j w.heap.size with hj | hj
    · exact .inl (k2 j (hs j f) hj)
    · exact .inr ⟨hj, hl j (hs j f)⟩
  exact ⟨⟨ks, fm, nb, sn, cv, fv, h1.kp (fun _ _ _ => rfl) fun j f _ => e j f, h2, h3, fun j f => f.elim (fun f => Nat.lt_of_lt_of_le (hF j f) s) fun f => f.2⟩, k3⟩
/-- Names that may be a log's: their numbers. -/
def FsOk (q : Dq) : Prop := (∀ f ∈ fsts (nmL q), -1000000000000000000 ≤ f ∧ f ≤ 1000000000000000000) ∧ (fsts (nmL q)).length ≤ 200
theorem dkAt_lt (h : DkAt w b q F) : ∀ k, F k → k < w.heap.size := by obtain ⟨_, _, _, _, _, _, _, _, _, h4⟩ := h; exact h4
theorem TkO.base {rv : Value} {rs : List Rec} (h : TkO w1 W a b L q E rv rs) (g : Gb w w1) (hE : ∀ j, E j → j < w.heap.size → F j) : TkO w W a b L q F rv rs := by
  obtain ⟨E', h1, h2, h3, h4, h5⟩ := h
  have s := g.size
  exact ⟨E', h1, fun j e hj => hE j (h2 j e (by omega)) hj, (Kf.gb g F).then h3 fun j hj e => hE j e hj, World.ownsRow.mono h4 s, h5⟩
theorem wOpen_eq (q : Dq) : wOpen q = if (Lg.readF q (fsts (nmL q)) L00 []).1 = 0 then
    (if (wTidy ((Lg.readF q (fsts (nmL q)) L00 []).2.2, q)).1 = 0 then ((wSync (wTidy ((Lg.readF q (fsts (nmL q)) L00 []).2.2, q)).2).1, (Lg.readF q (fsts (nmL q)) L00 []).2.1, (wSync (wTidy ((Lg.readF q (fsts (nmL q)) L00 []).2.2, q)).2).2)
     else ((wTidy ((Lg.readF q (fsts (nmL q)) L00 []).2.2, q)).1, (Lg.readF q (fsts (nmL q)) L00 []).2.1, (wTidy ((Lg.readF q (fsts (nmL q)) L00 []).2.2, q)).2))
  else ((Lg.readF q (fsts (nmL q)) L00 []).1, (Lg.readF q (fsts (nmL q)) L00 []).2.1, (Lg.readF q (fsts (nmL q)) L00 []).2.2, q) := rfl
set_option maxRecDepth 100000 in
set_option maxHeartbeats 4000000 in
theorem wopen_c (D : DkAt w b q F) (ok : q.Ok) (hst : q.st < 70000) (hG : GlK F w) (hF : FsOk q) :
    Calls Tryz.prog 21 #[.pointer (some ⟨b, 0, none⟩)] w fun e w' => ((wOpen q).1 ≠ 0 → e = .returned (.tuple #[.pointer none, .slice none 0 0, .int .i64 (wOpen q).1]) ∧ DkOut w w' b (wOpen q).2.2.2 F) ∧
      ((wOpen q).1 = 0 → ∃ ax cx, e = .returned (.tuple #[.pointer (some ⟨w.heap.size, 0, none⟩), .slice ax (wOpen q).2.1.length cx, .int .i64 0]) ∧ TkO w w' w.heap.size b (wOpen q).2.2.1 (wOpen q).2.2.2 F (.slice ax (wOpen q).2.1.length cx) (wOpen q).2.1) := by
  have hFl := dkAt_lt D
  have ga := gb_alloc (Below.refl w.heap.size w) (.cells #[.pointer (some ⟨b, 0, none⟩), .slice none 0 0, .int .i64 0, .bool false, .int .i64 0] 78)
  have nl := nmL_le ok
  have C : Hid (Calls Tryz.prog 41 #[.pointer (some ⟨w.heap.size, 0, none⟩)] (w.alloc (.cells #[.pointer (some ⟨b, 0, none⟩), .slice none 0 0, .int .i64 0, .bool false, .int .i64 0] 78)) fun e w2 => ∃ ax cx, e = .returned (.tuple #[.slice ax (Lg.readF q (fsts (nmL q)) L00 []).2.1.length cx, .int .i64 (Lg.readF q (fsts (nmL q)) L00 []).1]) ∧
      Hid ((Lg.readF q (fsts (nmL q)) L00 []).1 ≠ 0 → DkOut w w2 b q F) ∧
      Hid ((Lg.readF q (fsts (nmL q)) L00 []).1 = 0 → Calls Tryz.prog 42 #[.pointer (some ⟨w.heap.size, 0, none⟩)] w2 fun e w3 => e = .returned (.int .i64 (wTidy ((Lg.readF q (fsts (nmL q)) L00 []).2.2, q)).1) ∧
        Hid ((wTidy ((Lg.readF q (fsts (nmL q)) L00 []).2.2, q)).1 ≠ 0 → DkOut w w3 b (wTidy ((Lg.readF q (fsts (nmL q)) L00 []).2.2, q)).2.2 F) ∧
        Hid ((wTidy ((Lg.readF q (fsts (nmL q)) L00 []).2.2, q)).1 = 0 → Calls Tryz.prog 23 #[.pointer (some ⟨w.heap.size, 0, none⟩)] w3 fun e w4 => e = .returned (.int .i64 (wSync (wTidy ((Lg.readF q (fsts (nmL q)) L00 []).2.2, q)).2).1) ∧
          Hid (DkOut w w4 b (wSync (wTidy ((Lg.readF q (fsts (nmL q)) L00 []).2.2, q)).2).2.2 F) ∧
          Hid (TkO w w4 w.heap.size b (wSync (wTidy ((Lg.readF q (fsts (nmL q)) L00 []).2.2, q)).2).2.1 (wSync (wTidy ((Lg.readF q (fsts (nmL q)) L00 []).2.2, q)).2).2.2 F (.slice ax (Lg.readF q (fsts (nmL q)) L00 []).2.1.length cx) (Lg.readF q (fsts (nmL q)) L00 []).2.1)))) := by
    have A1 : WaAt (w.alloc (.cells #[.pointer (some ⟨b, 0, none⟩), .slice none 0 0, .int .i64 0, .bool false, .int .i64 0] 78)) w.heap.size b L00 q (fun j => F j ∨ j = w.heap.size) :=
      ⟨F, .slice none 0 0, D.gb ga, heap_alloc_new _ _, .inl ⟨rfl, rfl⟩, ⟨.inr rfl, fun f => by have := hFl _ f; omega, fun j f => .inl f⟩, fun j e => by
        have hs : (w.alloc (.cells #[.pointer (some ⟨b, 0, none⟩), .slice none 0 0, .int .i64 0, .bool false, .int .i64 0] 78)).heap.size = w.heap.size + 1 := by simp
        rcases e with e | e
        · have := hFl j e; omega
        · omega⟩
    have hb : ∀ j, (F j ∨ j = w.heap.size) → j < w.heap.size → F j := fun j e hj => e.elim id fun e => by omega
    have GK : GlK (fun j => F j ∨ j = w.heap.size) (w.alloc (.cells #[.pointer (some ⟨b, 0, none⟩), .slice none 0 0, .int .i64 0, .bool false, .int .i64 0] 78)) := fun X k => hG X ((Kf.gb ga F).then k fun j hj e => hb j e hj)
    refine (wread_c A1 ok (by omega) GK hF.1 hF.2).mono ?_
    rintro e w2 ⟨ax, cx, rfl, O2⟩
    refine ⟨ax, cx, rfl, fun _ => (O2.out.base ga hb).dk hFl, fun er => ?_⟩
    obtain ⟨r1, r2⟩ := readF_ok ok (fsts (nmL q)) L00 [] hF.1 er
    have rne : (Lg.readF q (fsts (nmL q)) L00 []).2.2.sg ≠ [] → CurOk (Lg.readF q (fsts (nmL q)) L00 []).2.2 := fun hne => r2 (.inl fun e => hne (by
      apply List.length_eq_zero_iff.1
      rw [r1, e]; rfl))
    have rlen : (Lg.readF q (fsts (nmL q)) L00 []).2.2.sg.length ≤ 200 := by rw [r1]; have := hF.2; show 0 + _ ≤ _; omega
    have glk : ∀ {W a L q rv rs}, TkO (w.alloc (.cells #[.pointer (some ⟨b, 0, none⟩), .slice none 0 0, .int .i64 0, .bool false, .int .i64 0] 78)) W a b L q (fun j => F j ∨ j = w.heap.size) rv rs → ∀ E', (∀ j, E' j → j < (w.alloc (.cells #[.pointer (some ⟨b, 0, none⟩), .slice none 0 0, .int .i64 0, .bool false, .int .i64 0] 78)).heap.size → (F j ∨ j = w.heap.size)) → GlK E' W := fun O E' h X k => by
      obtain ⟨_, _, _, k3, _⟩ := O
      exact GK X (k3.then k fun j hj e => h j e hj)
    generalize Lg.readF q (fsts (nmL q)) L00 [] = r at *
    obtain ⟨re, rr, rl⟩ := r
    have rlen : rl.sg.length ≤ 200 := rlen
    have O2' := O2.out
    obtain ⟨E2, a2, b2, c2, d2, f2⟩ := id O2'
    refine (wtidy_c a2 ok (by omega) (by show rl.sg.length ≤ _; omega) (glk O2' E2 b2)).mono ?_
    rintro e w3 ⟨rfl, o3⟩
    have O3 : TkO (w.alloc (.cells #[.pointer (some ⟨b, 0, none⟩), .slice none 0 0, .int .i64 0, .bool false, .int .i64 0] 78)) w3 w.heap.size b (wTidy (rl, q)).2.1 (wTidy (rl, q)).2.2 (fun j => F j ∨ j = w.heap.size) (.slice ax rr.length cx) rr :=
      ⟨Nw E2 w2 w3, o3.1, fun j e hj => e.elim (fun e => b2 j e hj) fun e => by have := c2.size; omega, c2.then o3.2 fun j hj e => b2 j e hj, row_same d2 fun k e => o3.2.block k (World.ownsRow.lt d2 k e).2 (f2 k e), fun j e f => f.elim (f2 j e) fun f => by have := (World.ownsRow.lt d2 j e).2; omega⟩
    refine ⟨rfl, fun _ => (O3.base ga hb).dk hFl, fun et => ?_⟩
    obtain ⟨t1, t2, t3, t4⟩ := wTidy_ok (L := rl) ok et
    have tc := t4 rne
    obtain ⟨E3, a3, b3, c3, d3, f3⟩ := id O3
    refine (wsync_c a3 t1 (by omega) tc.1 (by show (wTidy (rl, q)).2.1.sg.length ≤ _; have : rl.sg.length ≤ 200 := rlen; omega) tc.sml.1 tc.sml.2 (glk O3 E3 b3)).mono ?_
    rintro e w4 ⟨rfl, o4⟩
    have O4 : TkO (w.alloc (.cells #[.pointer (some ⟨b, 0, none⟩), .slice none 0 0, .int .i64 0, .bool false, .int .i64 0] 78)) w4 w.heap.size b (wSync (wTidy (rl, q)).2).2.1 (wSync (wTidy (rl, q)).2).2.2 (fun j => F j ∨ j = w.heap.size) (.slice ax rr.length cx) rr :=
      ⟨Nw E3 w3 w4, o4.1, fun j e hj => e.elim (fun e => b3 j e hj) fun e => by have := c3.size; omega, c3.then o4.2 fun j hj e => b3 j e hj, row_same d3 fun k e => o4.2.block k (World.ownsRow.lt d3 k e).2 (f3 k e), fun j e f => f.elim (f3 j e) fun f => by have := (World.ownsRow.lt d3 j e).2; omega⟩
    exact ⟨rfl, (O4.base ga hb).dk hFl, O4.base ga hb⟩
  rw [wOpen_eq]
  clear D ok hst hG hF hFl ga nl
  generalize Lg.readF q (fsts (nmL q)) L00 [] = r at *
  obtain ⟨re, rr, rl⟩ := r
  generalize wTidy (rl, q) = t at *
  obtain ⟨te, tl⟩ := t
  generalize wSync tl = y at *
  obtain ⟨ye, yl⟩ := y
  simp only at C ⊢
  generalize hrn : rr.length = rn at *
  by_cases er : re = 0
  case neg =>
    rw [if_neg er]
    have br : (re == 0) = false := by rw [beq_eq_false_iff_ne]; exact er
    go_enter Tryz.func21, Tryz.ntmps21
    go_wp2_with fail
    refine C.out.mono ?_
    rintro e w2 ⟨ax, cx, rfl, K1, C2⟩
    clear C
    have K := K1.out er
    clear K1 C2
    go_wp2
    exact bodyPost_ret (v := .tuple #[.pointer none, .slice none 0 0, .int .i64 re]) (by simp [results, Tryz.results21, go_sem]) rfl ⟨fun _ => ⟨rfl, K⟩, fun e => absurd e er⟩
  subst er
  rw [if_pos rfl]
  by_cases et : te = 0
  case neg =>
    rw [if_neg et]
    have bt : (te == 0) = false := by rw [beq_eq_false_iff_ne]; exact et
    go_enter Tryz.func21, Tryz.ntmps21
    go_wp2_with fail
    refine C.out.mono ?_
    rintro e w2 ⟨ax, cx, rfl, K1, C2⟩
    clear C
    have C3 := C2.out (by trivial)
    clear K1 C2
    go_wp2_with fail
    refine C3.mono ?_
    rintro e w3 ⟨rfl, K2, C4⟩
    have K := K2.out et
    clear C3 K2 C4
    go_wp2
    exact bodyPost_ret (v := .tuple #[.pointer none, .slice none 0 0, .int .i64 te]) (by simp [results, Tryz.results21, go_sem]) rfl ⟨fun _ => ⟨rfl, K⟩, fun e => absurd e et⟩
  subst et
  rw [if_pos rfl]
  by_cases ey : ye = 0
  case neg =>
    have by_ : (ye == 0) = false := by rw [beq_eq_false_iff_ne]; exact ey
    go_enter Tryz.func21, Tryz.ntmps21
    go_wp2_with fail
    refine C.out.mono ?_
    rintro e w2 ⟨ax, cx, rfl, K1, C2⟩
    clear C
    have C3 := C2.out (by trivial)
    clear K1 C2
    go_wp2_with fail
    refine C3.mono ?_
    rintro e w3 ⟨rfl, K2, C4⟩
    have C5 := C4.out (by trivial)
    clear C3 K2 C4
    go_wp2_with fail
    refine C5.mono ?_
    rintro e w4 ⟨rfl, K, _⟩
    clear C5
    go_wp2
    exact bodyPost_ret (v := .tuple #[.pointer none, .slice none 0 0, .int .i64 ye]) (by simp [results, Tryz.results21, go_sem]) rfl ⟨fun _ => ⟨rfl, K.out⟩, fun e => absurd e ey⟩
  subst ey
  go_enter Tryz.func21, Tryz.ntmps21
  go_wp2_with fail
  refine C.out.mono ?_
  rintro e w2 ⟨ax, cx, rfl, K1, C2⟩
  clear C
  have C3 := C2.out (by trivial)
  clear K1 C2
  go_wp2_with fail
  refine C3.mono ?_
  rintro e w3 ⟨rfl, K2, C4⟩
  have C5 := C4.out (by trivial)
  clear C3 K2 C4
  go_wp2_with fail
  refine C5.mono ?_
  rintro e w4 ⟨rfl, _, K⟩
  clear C5
  go_wp2
  exact bodyPost_ret (v := .tuple #[.pointer (some ⟨w.heap.size, 0, none⟩), .slice ax rn cx, .int .i64 0]) (by simp [results, Tryz.results21, go_sem]) rfl ⟨fun e => absurd rfl e, fun _ => ⟨ax, cx, by show _ = Ending.returned (.tuple #[_, .slice ax rr.length cx, _]); rw [hrn], by show TkO _ _ _ _ _ _ _ (.slice ax rr.length cx) rr; rw [hrn]; exact K.out⟩⟩
end Go.Proofs.YtcbhhdjjanekaaaGreatDoor
