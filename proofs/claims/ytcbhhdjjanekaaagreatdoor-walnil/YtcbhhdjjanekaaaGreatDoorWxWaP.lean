/- read. -/
import Derived.Test.YtcbhhdjjanekaaaGreatDoorWxWaO
namespace Go.Proofs.YtcbhhdjjanekaaaGreatDoor
open Go.RowKit Go.Lib Go.Maps

variable {w w0 w' W W' w1 w2 : World} {a b : Nat} {L L' Li : Lg} {q q' : Dq} {E E' F G : Nat → Prop}
theorem takeF_len (b : By) : ∀ (f : Nat) (L : Lg), L.sg ≠ [] → L.sz ≤ b.length → (L.takeF f b).1.length * 9 + L.sz ≤ b.length ∧ (L.takeF f b).2.sg.length = L.sg.length ∧ (L.takeF f b).2.sz ≤ b.length ∧ (L.takeF f b).2.cur.1 = L.cur.1 ∧ (L.takeF f b).2.cur.2 = L.cur.2 + (L.takeF f b).1.length
  | 0, L, _, h => ⟨by show 0 * 9 + L.sz ≤ _; omega, rfl, h, rfl, by show L.cur.2 = L.cur.2 + ((0 : Nat) : Int); omega⟩
  | f + 1, L, hne, h => by
    by_cases hd : dcE (b.drop L.sz) = 0
    · rw [takeF_yes hd]
      have du := dcE_zero hd
      rw [List.length_drop] at du
      have hne2 : (L.count (9 + dcN (b.drop L.sz))).sg ≠ [] := by simp [Lg.count]
      have hsz : (L.count (9 + dcN (b.drop L.sz))).sz = L.sz + (9 + dcN (b.drop L.sz)) := rfl
      obtain ⟨i1, i2, i3, i4, i5⟩ := takeF_len b f (L.count (9 + dcN (b.drop L.sz))) hne2 (by rw [hsz]; omega)
      rw [hsz] at i1
      refine ⟨by rw [List.length_cons]; omega, by rw [i2, count_len hne], i3, by rw [i4, cur_count], ?_⟩
      rw [i5, cur_count, List.length_cons]
      show L.cur.2 + 1 + _ = _
      omega
    · rw [takeF_no hd]
      exact ⟨by show 0 * 9 + L.sz ≤ _; omega, rfl, h, rfl, by show L.cur.2 = L.cur.2 + ((0 : Nat) : Int); omega⟩
theorem take_len {b : By} (hne : L.sg ≠ []) (h : L.sz = 0) : (L.take b).1.length * 9 ≤ b.length ∧ (L.take b).2.sg.length = L.sg.length ∧ (L.take b).2.sz ≤ b.length ∧ (L.take b).2.cur.1 = L.cur.1 ∧ (L.take b).2.cur.2 = L.cur.2 + (L.take b).1.length := by
  obtain ⟨i1, i2, i3, i4, i5⟩ := takeF_len b (b.length + 1) L hne (by omega)
  exact ⟨by show (L.takeF (b.length + 1) b).1.length * 9 ≤ _; omega, i2, i3, i4, i5⟩
theorem add_cur (L : Lg) (f : Int) : (L.add f).cur = (f, f) := by
  show (L.sg ++ [(f, f)]).getLastD (0, 0) = _
  simp
theorem TkO.glk {rv : Value} {rs : List Rec} (h : TkO w W a b L q E rv rs) (hG : GlK E w) : ∃ E', WaAt W a b L q E' ∧ GlK E' W ∧ (∀ j, E' j → j < w.heap.size → E j) ∧ Kf E w W ∧ OwRc W w.heap.size rv rs ∧ ∀ j, rv.ownBlock = some j → ¬ E' j := by
  obtain ⟨E', h1, h2, h3, h4, h5⟩ := h
  exact ⟨E', h1, fun X k => hG X (h3.then k fun j hj e => h2 j e hj), h2, h3, h4, h5⟩
/-- What was taken is appended to what was there. -/
theorem TkO.more {rv rv2 : Value} {rs rs2 : List Rec} {L2 : Lg} (h2 : ∀ j, E' j → j < w.heap.size → E j) (h3 : Kf E w W) (h4 : OwRc W w.heap.size rv rs) (h5 : ∀ j, rv.ownBlock = some j → ¬ E' j) (k : TkO W W' a b L2 q E' rv2 rs2) (hb : rs.length + rs2.length ≤ 100000000) :
    ∃ ax c W3, (Builtin.append_ #[44, 44] 44 #[rv, rv2]).run Tryz.prog W' = .ok (.slice ax (rs.length + rs2.length) c) W3 ∧ TkO w W3 a b L2 q E (.slice ax (rs.length + rs2.length) c) (rs ++ rs2) := by
  obtain ⟨E2, k1, k2, k3, k4, k5⟩ := k
  have ho : OwRc W' w.heap.size rv rs := row_same h4 fun j e => k3.block j (World.ownsRow.lt h4 j e).2 (h5 j e)
  have s := h3.size
  have s2 := k3.size
  have T2 : TkO w W' a b L2 q E rv rs := ⟨E2, k1, fun j e hj => h2 j (k2 j e (by omega)) hj, h3.then k3 fun j hj e => h2 j e hj, ho, fun j e f => by
    have := (World.ownsRow.lt h4 j e).2
    exact h5 j e (k2 j f this)⟩
  obtain ⟨ax, c, W3, hr, ho3, hg, hb3⟩ := appRc_run ho k4.rd (by omega) hb
  exact ⟨ax, c, W3, hr, T2.app hg ho3 hb3⟩
theorem readF_cons (q : Dq) (f : Int) (t : List Int) (L : Lg) (rs : List Rec) : Lg.readF q (f :: t) L rs = if fiE q (sgN f) = 0 then Lg.readF q t ((L.add f).take (rdV q (sgN f))).2 (rs ++ ((L.add f).take (rdV q (sgN f))).1) else (fiE q (sgN f), [], L.add f) := rfl
def L00 : Lg := ⟨[], 0, false, 0⟩
/-- So many files were read. -/
def RdJ (w : World) (a b : Nat) (q : Dq) (E : Nat → Prop) (fl : List Int) (i : Nat) (n : Nat) (rv : Value) (W : World) : Prop := ∃ rs Li, Lg.readF q fl L00 [] = Lg.readF q (fl.drop i) Li rs ∧ Li.sg.length = i ∧ rs.length ≤ i * 466034 ∧ rs.length = n ∧ TkO w W a b Li q E rv rs
set_option maxRecDepth 100000 in
set_option maxHeartbeats 4000000 in
theorem wread_c (h : WaAt w a b L00 q E) (ok : q.Ok) (hst : q.st < 80000) (hG : GlK E w) (hF : ∀ f ∈ fsts (nmL q), -1000000000000000000 ≤ f ∧ f ≤ 1000000000000000000) (hn : (fsts (nmL q)).length ≤ 200) :
    Calls Tryz.prog 41 #[.pointer (some ⟨a, 0, none⟩)] w fun e w' => ∃ ax cx, e = .returned (.tuple #[.slice ax (Lg.readF q (fsts (nmL q)) L00 []).2.1.length cx, .int .i64 (Lg.readF q (fsts (nmL q)) L00 []).1]) ∧ Hid (TkO w w' a b (Lg.readF q (fsts (nmL q)) L00 []).2.2 q E (.slice ax (Lg.readF q (fsts (nmL q)) L00 []).2.1.length cx) (Lg.readF q (fsts (nmL q)) L00 []).2.1) := by
  obtain ⟨k0, ha⟩ := h.a0
  have hE := h.lt
  have nl := nmL_le ok
  have T : Hid (Calls Tryz.prog 25 #[.pointer (some ⟨b, 0, none⟩)] w fun e w1 => ∃ ao c, e = .returned (.slice ao (nmL q).length c) ∧ Hid (Calls Tryz.prog 60 #[.slice ao (nmL q).length c] w1 fun e w2 => ∃ fa fc, e = .returned (.slice fa (fsts (nmL q)).length fc) ∧ Hid (OwnI w2 w.heap.size (.slice fa (fsts (nmL q)).length fc) (fsts (nmL q)) ∧ Gb w w2))) := by
    refine (names_q h ok (by omega)).mono ?_
    rintro e w1 ⟨ao, c, rfl, ho, g1⟩
    refine ⟨ao, c, rfl, ?_⟩
    refine (firsts_c ho (by omega) (fun x hx => ?_) (hG.at_ (Kf.gb g1 E))).mono ?_
    · unfold nmL at hx
      split at hx
      · simp at hx
      · have hk := (srtB_perm _).mem_iff.1 hx
        obtain ⟨y, hy, e⟩ := List.mem_map.1 hk
        have := (nmOk_len (ok.nmB y hy)).2
        rw [e] at this
        omega
    · rintro e w2 ⟨fa, fc, rfl, hf, g2⟩
      exact ⟨fa, fc, rfl, World.ownsRow.mono hf g1.size, gb_trans g1 g2⟩
  have H0 : Hid (WaAt w a b L00 q E) := h
  have HG : Hid (GlK E w) := hG
  have HB : Hid (q.Ok ∧ q.st < 80000 ∧ (∀ f ∈ fsts (nmL q), -1000000000000000000 ≤ f ∧ f ≤ 1000000000000000000) ∧ (fsts (nmL q)).length ≤ 200 ∧ ∀ j, E j → j < w.heap.size) := ⟨ok, hst, hF, hn, hE⟩
  clear h hG ok hst hF hE nl
  generalize fsts (nmL q) = fl at *
  generalize (nmL q).length = nn at *
  obtain ⟨N, hN⟩ : ∃ N, N = fl.length := ⟨_, rfl⟩
  have NN : Hid (N = fl.length) := hN
  have hN2 : N ≤ 200 := by omega
  rw [← hN] at T
  clear hN hn
  go_enter Tryz.func41, Tryz.ntmps41
  go_wp2_with fail
  refine T.out.mono ?_
  rintro e v1 ⟨ao, c, rfl, T2⟩
  clear T
  go_wp2_with fail
  refine T2.out.mono ?_
  rintro e B0 ⟨fa, fc, rfl, R0⟩
  clear T2
  have ST : Hid (RdJ B0 a b q E fl 0 0 (.slice none 0 0) B0) := ⟨[], L00, by rw [List.drop_zero], rfl, Nat.zero_le _, rfl, E, H0.out.gb R0.out.2, fun _ e _ => e, Kf.refl _ _, owrc_nil _ _, fun j e => by cases e⟩
  have FC : Hid (∀ i, i < N → ∃ g, fa = some ⟨g, 0, none⟩ ∧ ∀ X, Kf E B0 X → X.cell? ⟨g, i, none⟩ = some (.int .i64 fl[i]!) ∧ g < X.heap.size) := fun i hi => by
    have hi' : i < fl.length := by have := NN.out; omega
    rcases id R0.out.1.2 with ⟨e, e0⟩ | ⟨g, cap, cur, e, hg, _⟩
    · omega
    · have eg : fa = some ⟨g, 0, none⟩ := (Value.slice.inj e).1
      refine ⟨g, eg, fun X k => ?_⟩
      have hl := World.ownsRow.lt R0.out.1 g (by rw [eg]; rfl)
      have hb := k.block g hl.2 fun f => by have := HB.out.2.2.2.2 g f; omega
      have := World.ownsRow.cells R0.out.1 (g := g) (by rw [eg]; rfl) i (.int .i64 fl[i]!) (by rw [List.getElem?_map, List.getElem?_eq_getElem hi', getElem!_pos fl i hi']; rfl)
      rw [Addr.add_lit, Nat.zero_add] at this
      exact ⟨(World.cell?_of_block (a := ⟨g, i, none⟩) hb).trans this, Nat.lt_of_lt_of_le hl.2 k.size⟩
  go_wp2
  go_loopw [4, 16] (fun rv iv W => ∃ i n : Nat, iv = .int .i64 (i : Int) ∧ i ≤ N ∧ ∃ ax cx, rv = .slice ax n cx ∧ Hid (RdJ B0 a b q E fl i n (.slice ax n cx) W)) (fun _ iv _ => N - (intOf iv).toNat)
  case atStart => exact ⟨0, 0, rfl, Nat.zero_le _, none, 0, rfl, ST.out⟩
  case round =>
    clear ST
    obtain ⟨i, n, rfl, hi, ax, cx, rfl, X⟩ := hrel
    by_cases hiN : i < N
    · have hii : (i : Int) < (N : Int) := by omega
      have hil : i < fl.length := by have := NN.out; omega
      obtain ⟨rs, Li, e1, e2, e3, e4, O⟩ := X.out
      obtain ⟨ok, hst, hF, hn, hE⟩ := HB.out
      obtain ⟨g0, rfl, kg⟩ := FC.out i hiN
      obtain ⟨kc, kg1⟩ := kg wr (by obtain ⟨_, _, _, k, _⟩ := O; exact k)
      have hfm : fl[i]! ∈ fl := by rw [getElem!_pos fl i hil]; exact List.getElem_mem hil
      have hfb := hF _ hfm
      have hfs : Sml fl[i]! := by unfold Sml; omega
      have hsB := R0.out.2.size
      have hEB : ∀ j, E j → j < B0.heap.size := fun j e => Nat.lt_of_lt_of_le (hE j e) hsB
      have GB : GlK E B0 := fun Y kY => HG.out Y ((Kf.gb R0.out.2 E).then kY fun _ _ e => e)
      have hdrop : fl.drop i = fl[i]! :: fl.drop (i + 1) := by rw [getElem!_pos fl i hil]; exact List.drop_eq_getElem_cons hil
      rw [hdrop, readF_cons] at e1
      have hcn : (Li.add fl[i]!).cn = sgN fl[i]! := by unfold Lg.cn; rw [add_cur]
      have hac := add_cur Li fl[i]!
      have hal : (Li.add fl[i]!).sg.length = i + 1 := by show (Li.sg ++ [_]).length = _; simp [e2]
      have hane : (Li.add fl[i]!).sg ≠ [] := fun e => by rw [e] at hal; simp at hal
      have RL := rdV_le ok (sgN fl[i]!)
      obtain ⟨tl1, tl2, tl3, tl4, tl5⟩ := take_len (L := Li.add fl[i]!) (b := rdV q (sgN fl[i]!)) hane rfl
      have C : Hid (Calls Tryz.prog 61 #[.pointer (some ⟨a, 0, none⟩), .int .i64 fl[i]!] wr fun e w3 => e = .returned (.tuple #[]) ∧ (w3.cell? ⟨a, 0, none⟩ = some (.pointer (some ⟨b, 0, none⟩)) ∧ a < w3.heap.size) ∧
          ∃ g o, CNm w3 a b (Li.add fl[i]!) g o fun Z => Calls Tryz.prog 62 #[.pointer (some ⟨b, 0, none⟩), .string (sb (Li.add fl[i]!).cn)] Z fun e w4 => ∃ ao c, e = .returned (.tuple #[.slice ao (rdV q (sgN fl[i]!)).length c, .int .i64 (fiE q (sgN fl[i]!))]) ∧ (w4.cell? ⟨a, 0, none⟩ = some (.pointer (some ⟨b, 0, none⟩)) ∧ a < w4.heap.size) ∧
            (w4.cell? ⟨g, o, none⟩ = some (.int .i64 (Li.add fl[i]!).cur.1) ∧ w4.cell? ⟨g, o + 1, none⟩ = some (.int .i64 (Li.add fl[i]!).cur.2) ∧ g < w4.heap.size) ∧
            Hid (fiE q (sgN fl[i]!) ≠ 0 → ∃ z r0, z = (0 : Nat) ∧ Lg.readF q fl L00 [] = (r0, [], Li.add fl[i]!) ∧ r0 = fiE q (sgN fl[i]!) ∧ TkO w w4 a b (Li.add fl[i]!) q E (.slice none 0 0) []) ∧
            Hid (fiE q (sgN fl[i]!) = 0 → Calls Tryz.prog 63 #[.pointer (some ⟨a, 0, none⟩), .slice ao (rdV q (sgN fl[i]!)).length c] w4 fun e w5 => ∃ ax2 cx2, e = .returned (.slice ax2 ((Li.add fl[i]!).take (rdV q (sgN fl[i]!))).1.length cx2) ∧
              ∃ ax3 cx3 W3, (Builtin.append_ #[44, 44] 44 #[.slice ax n cx, .slice ax2 ((Li.add fl[i]!).take (rdV q (sgN fl[i]!))).1.length cx2]).run Tryz.prog w5 = .ok (.slice ax3 (n + ((Li.add fl[i]!).take (rdV q (sgN fl[i]!))).1.length) cx3) W3 ∧
                Hid (RdJ B0 a b q E fl (i + 1) (n + ((Li.add fl[i]!).take (rdV q (sgN fl[i]!))).1.length) (.slice ax3 (n + ((Li.add fl[i]!).take (rdV q (sgN fl[i]!))).1.length) cx3) W3))) := by
        refine (O.out (R := fun e => e = .returned (.tuple #[])) (L' := Li.add fl[i]!) (q' := q) fun E' A => wadd_c A (by omega) _).mono ?_
        rintro e w3 ⟨rfl, O3⟩
        obtain ⟨E3, A3, GK3, h2, h3, h4, h5⟩ := O3.glk GB
        refine ⟨rfl, A3.a0, ?_⟩
        refine cur_name A3 hane (by omega) (by rw [hac]; exact hfs) GK3 fun g o cb ⟨c1, c2, cg⟩ Z gZ => ?_
        have AZ := A3.gb gZ
        rw [hcn]
        refine (read_q AZ ok (sgN_wf hfs)).mono ?_
        rintro e w4 ⟨ao, c, rfl, ho, g4⟩
        have g34 := gb_trans gZ g4
        have A4 := A3.gb g34
        have hcc : (rdV q (sgN fl[i]!)).length ≤ c := by
          obtain ⟨_, _, e, h, _⟩ := own_form ho
          obtain ⟨_, _, e3⟩ := Value.slice.inj e
          omega
        refine ⟨ao, c, rfl, A4.a0, ⟨gb_keeps g34 c1, gb_keeps g34 c2, Nat.lt_of_lt_of_le cg g34.size⟩, fun ef => ?_, fun ef => ?_⟩
        · rw [if_neg ef] at e1
          refine ⟨0, _, rfl, e1, rfl, E3, A4, fun j e hj => h2 j e (Nat.lt_of_lt_of_le hj hsB), ((Kf.gb R0.out.2 E).then h3 fun _ _ e => e).then (Kf.gb g34 E) fun _ _ e => e, owrc_nil _ _, fun j e => by cases e⟩
        · rw [if_pos ef] at e1
          have s3 := h3.size
          have s34 := g34.size
          have h34 : Kf E3 w3 w4 := Kf.gb g34 E3
          refine (wtake_c A4 hane (by omega) (by rw [hac]; show _ ≤ fl[i]! ∧ fl[i]! ≤ _; omega) rfl (fun X kX => (ho.kf kX AZ.lt).rd) hcc RL).mono ?_
          rintro e w5 ⟨ax2, cx2, rfl, T5⟩
          refine ⟨ax2, cx2, rfl, ?_⟩
          have k4 : OwRc w4 B0.heap.size (.slice ax n cx) rs := row_same h4 fun j e => g34.block j (World.ownsRow.lt h4 j e).2
          obtain ⟨ax3, cx3, W3, hr, O6⟩ := TkO.more (w := B0) (E := E) h2 (h3.then (Kf.gb g34 E) fun _ _ e => e) k4 h5 T5.out (by omega)
          rw [e4] at hr O6
          refine ⟨ax3, cx3, W3, hr, _, _, e1, by rw [tl2, hal], ?_, by rw [List.length_append, e4], O6⟩
          rw [List.length_append, Nat.add_mul]
          omega
      have hwa : a < wr.heap.size := by obtain ⟨_, A⟩ := O.at_; exact A.a0.2
      clear X O e1 e2 e3 e4 hdrop hcn hal hane RL tl1 tl2 tl3 tl4 tl5 FC HB R0 H0 HG ok hst hF hn hE kg hfm hfb hfs hsB hEB GB
      generalize ((Li.add fl[i]!).take (rdV q (sgN fl[i]!))).1.length = m at *
      generalize (rdV q (sgN fl[i]!)).length = rn at *
      generalize hef : fiE q (sgN fl[i]!) = ef at *
      generalize fl[i]! = f at *
      by_cases e0 : ef = 0
      · subst e0
        go_wp2_with fail
        refine C.out.mono ?_
        rintro e w3 ⟨rfl, ⟨k0', ha'⟩, g, o, ⟨kg, kh, kl⟩, T1, T2, T3⟩
        have G0 : Hid (Gb w3 w3) := Below.refl _ _
        have GD : Hid (Gb w3 w3.drew) := (Below.refl _ w3).drew
        clear C
        generalize hcf : (Li.add f).cur.1 = cf at *
        generalize hcx : (Li.add f).cur.2 = cx' at *
        go_wp2
        go_region_held3 (fun w' => w'.cell? ⟨a, 0, none⟩ = some (.pointer (some ⟨b, 0, none⟩)) ∧ w'.cell? ⟨g, o, none⟩ = some (.int .i64 cf) ∧ w'.cell? ⟨g, o + 1, none⟩ = some (.int .i64 cx')) (first | exact ⟨k0', kg, kh⟩ | exact ⟨d0, c1, c2⟩ | exact ⟨d1, n1, n2⟩ | exact ⟨d2, m1, m2⟩) (first
          | (go_at_call 40; refine (T1.out _ (by first | exact GD.out | exact G0.out)).mono ?_; rintro e w4 ⟨rfl, c1, c2, cg, d0, s1, g1⟩)
          | (go_at_call 46; refine (T2.out _ g1).mono ?_; rintro e w5 ⟨rfl, n1, n2, ng, d1, s2, g2⟩)
          | (go_at_call 62; refine (T3.out _ g2).mono ?_; rintro e w6 ⟨ao', c', rfl, ⟨d2, s3⟩, ⟨m1, m2, mg⟩, _, T4⟩))
        all_goals
          have T5 := T4.out (by trivial)
          clear T1 T2 T3 T4
          go_wp2_with fail
          refine T5.mono ?_
          rintro e w7 ⟨ax2, cx2, rfl, ax3, cx3, W3, hr, J⟩
          clear T5
          go_wp2_with (first | (at_builtin; refine wpl_append rfl (.tmp 39) (.tmp 42) 44 rfl _ _ rfl rfl hr ?_) | fail)
          exact ⟨⟨i + 1, n + m, by simp, hiN, ax3, cx3, rfl, J⟩, by simp [intOf]; omega⟩
      · have bf : (ef == 0) = false := by rw [beq_eq_false_iff_ne]; exact e0
        go_wp2_with fail
        refine C.out.mono ?_
        rintro e w3 ⟨rfl, ⟨k0', ha'⟩, g, o, ⟨kg, kh, kl⟩, T1, T2, T3⟩
        have G0 : Hid (Gb w3 w3) := Below.refl _ _
        have GD : Hid (Gb w3 w3.drew) := (Below.refl _ w3).drew
        clear C
        generalize hcf : (Li.add f).cur.1 = cf at *
        generalize hcx : (Li.add f).cur.2 = cx' at *
        go_wp2
        go_region_held3 (fun w' => w'.cell? ⟨a, 0, none⟩ = some (.pointer (some ⟨b, 0, none⟩)) ∧ w'.cell? ⟨g, o, none⟩ = some (.int .i64 cf) ∧ w'.cell? ⟨g, o + 1, none⟩ = some (.int .i64 cx')) (first | exact ⟨k0', kg, kh⟩ | exact ⟨d0, c1, c2⟩ | exact ⟨d1, n1, n2⟩ | exact ⟨d2, m1, m2⟩) (first
          | (go_at_call 40; refine (T1.out _ (by first | exact GD.out | exact G0.out)).mono ?_; rintro e w4 ⟨rfl, c1, c2, cg, d0, s1, g1⟩)
          | (go_at_call 46; refine (T2.out _ g1).mono ?_; rintro e w5 ⟨rfl, n1, n2, ng, d1, s2, g2⟩)
          | (go_at_call 62; refine (T3.out _ g2).mono ?_; rintro e w6 ⟨ao', c', rfl, ⟨d2, s3⟩, ⟨m1, m2, mg⟩, T4, _⟩))
        all_goals
          have T5 : Hid _ := T4.out e0
          clear T1 T2 T3 T4
          go_wp2
          obtain ⟨z, r0, hz, er, rfl, TT⟩ := T5.out
          refine bodyPost_ret (v := .tuple #[.slice none 0 0, .int .i64 _]) (by simp [results, Tryz.results41, go_sem]; rfl) rfl ?_
          rw [er]
          exact ⟨none, 0, rfl, TT⟩
    · have e : i = N := by omega
      subst e
      have hii : ¬ (i : Int) < (i : Int) := by omega
      have FIN : Hid (∃ n', n = n' ∧ n' = (Lg.readF q fl L00 []).2.1.length ∧ (Lg.readF q fl L00 []).1 = 0 ∧ TkO w wr a b (Lg.readF q fl L00 []).2.2 q E (.slice ax n' cx) (Lg.readF q fl L00 []).2.1) := by
        obtain ⟨rs, Li, e1, e2, e3, e4, E2, k1, k2, k3, k4, k5⟩ := X.out
        have hd : fl.drop i = [] := List.drop_of_length_le (by have := NN.out; omega)
        rw [hd] at e1
        have e1 : Lg.readF q fl L00 [] = (0, rs, Li) := e1
        rw [e1]
        have hsB := R0.out.2.size
        exact ⟨n, rfl, e4.symm, rfl, E2, k1, fun j e hj => k2 j e (Nat.lt_of_lt_of_le hj hsB), (Kf.gb R0.out.2 E).then k3 fun _ _ e => e, World.ownsRow.mono k4 hsB, k5⟩
      clear X FC HB R0 H0 HG NN
      go_wp2
      obtain ⟨n', rfl, en, ez, TT⟩ := FIN.out
      refine bodyPost_ret (v := .tuple #[.slice ax n cx, .int .i64 0]) (by simp [results, Tryz.results41, go_sem]) rfl ?_
      rw [ez]
      rw [en] at TT ⊢
      exact ⟨ax, cx, rfl, TT⟩
end Go.Proofs.YtcbhhdjjanekaaaGreatDoor
