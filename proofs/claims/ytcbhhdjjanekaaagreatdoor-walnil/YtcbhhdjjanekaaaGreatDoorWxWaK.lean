/- Append. -/
import Derived.Test.YtcbhhdjjanekaaaGreatDoorWxWaJ
namespace Go.Proofs.YtcbhhdjjanekaaaGreatDoor
open Go.RowKit Go.Lib Go.Maps

variable {w w' W W' w1 w2 w3 w4 w5 : World} {a b : Nat} {L L' : Lg} {q q' : Dq} {E F G : Nat → Prop}
/-- What roll and ready make of the segments. -/
def Lk (L L' : Lg) : Prop := (L'.sg = L.sg ∨ L'.sg = L.sg ++ [(L.cur.2, L.cur.2)]) ∧ L'.sz ≤ L.sz
theorem Lk.self (L : Lg) : Lk L L := ⟨.inl rfl, Nat.le_refl _⟩
theorem wRoll_ok (ok : q.Ok) (L : Lg) : (wRoll (L, q)).2.2.Ok ∧ (wRoll (L, q)).2.2.st ≤ q.st + 4 ∧ Lk L (wRoll (L, q)).2.1 := by
  show (if L.sz = 0 then wMend (L, q) else if fiE q L.cn = 0 then wBegin (L, q.sync L.cn) L.cur.2 else (fiE q L.cn, L, q)).2.2.Ok ∧ (if L.sz = 0 then wMend (L, q) else if fiE q L.cn = 0 then wBegin (L, q.sync L.cn) L.cur.2 else (fiE q L.cn, L, q)).2.2.st ≤ _ ∧ Lk L (if L.sz = 0 then wMend (L, q) else if fiE q L.cn = 0 then wBegin (L, q.sync L.cn) L.cur.2 else (fiE q L.cn, L, q)).2.1
  split
  · obtain ⟨f1, f2, f3, f4, f5⟩ := wMend_ok ok L
    exact ⟨f1, f2, .inl f4, by rw [f5]; exact Nat.le_refl _⟩
  split
  · have s := sync_st q L.cn
    have f := wBegin_ok (L := L) (ok.sync L.cn) L.cur.2
    refine ⟨f.1, by omega, ?_⟩
    unfold wBegin
    split
    · exact ⟨.inr rfl, Nat.zero_le _⟩
    · exact Lk.self L
  · exact ⟨ok, by show q.st ≤ _; omega, Lk.self L⟩
theorem wReady_ok (ok : q.Ok) (L : Lg) : (wReady (L, q)).2.2.Ok ∧ (wReady (L, q)).2.2.st ≤ q.st + 8 ∧ Lk L (wReady (L, q)).2.1 := by
  by_cases e : L.tn = true ∧ wFull (L, q) = false
  · rw [wReady_tn e]
    obtain ⟨f1, f2, f3, f4, f5⟩ := wMend_ok ok L
    split
    · rename_i e173
      have e' := f3 (by rw [e173]; decide)
      have hr := wRoll_ok f1 (wMend (L, q)).2.1
      rw [e'] at hr
      have e2 : (wMend (L, q)).2 = (L, (wMend (L, q)).2.2) := Prod.ext e' rfl
      rw [e2]
      exact ⟨hr.1, by omega, hr.2.2⟩
    · exact ⟨f1, by omega, .inl f4, by rw [f5]; exact Nat.le_refl _⟩
  by_cases e2 : L.tn = true ∨ wFull (L, q) = true
  · rw [wReady_or e e2]
    obtain ⟨f1, f2, f3⟩ := wRoll_ok ok L
    exact ⟨f1, by omega, f3⟩
  · rw [wReady_no e e2]
    exact ⟨ok, by show q.st ≤ _; omega, Lk.self L⟩
theorem Lk.cur (h : Lk L L') (hne : L.sg ≠ []) (h1 : Sml L.cur.1) (h2 : Sml L.cur.2) : L'.sg ≠ [] ∧ L'.sg.length ≤ L.sg.length + 1 ∧ Sml L'.cur.1 ∧ Sml L'.cur.2 ∧ L'.cur.2 = L.cur.2 := by
  rcases h.1 with e | e
  · have ec : L'.cur = L.cur := by unfold Lg.cur; rw [e]
    rw [ec, e]
    exact ⟨hne, by omega, h1, h2, rfl⟩
  · have ec : L'.cur = (L.cur.2, L.cur.2) := by
      show L'.sg.getLastD (0, 0) = _
      rw [e]; simp
    rw [ec, e]
    exact ⟨by simp, by simp, h2, h2, rfl⟩
theorem enT_len (k : Nat) (l : By) : (enT k l).length = 9 + l.length := by
  unfold enT
  simp only [List.length_append, leB_length]
theorem cur_count (L : Lg) (n : Nat) : (L.count n).cur = (L.cur.1, L.cur.2 + 1) := by
  show (L.sg.dropLast ++ [(L.cur.1, L.cur.2 + 1)]).getLastD (0, 0) = _
  simp
set_option maxRecDepth 100000 in
set_option maxHeartbeats 4000000 in
theorem wapp_c (h : WaAt w a b L q E) (ok : q.Ok) (hst : q.st < 60000) (hne : L.sg ≠ []) (hlen : L.sg.length ≤ 800000) (hs : Sml L.cur.1) (hs2 : -4000000000000000000 ≤ L.cur.2 ∧ L.cur.2 ≤ 4000000000000000000) (hz : L.sz ≤ 4000000000000000000) (hG : GlK E w) {d : By} (hd : d.length ≤ 4611686018427387904) :
    Calls Tryz.prog 22 #[.pointer (some ⟨a, 0, none⟩), .string (sb d)] w fun e w' => e = .returned (.tuple #[.int .i64 (wApp (L, q) d).1, .int .i64 (wApp (L, q) d).2.1]) ∧ WaOut w w' a b (wApp (L, q) d).2.2.1 (wApp (L, q) d).2.2.2 E := by
  have cN : Calls Tryz.prog 39 #[.pointer (some ⟨a, 0, none⟩)] w fun e w' => e = .returned (.bool false) ∧ w = w' := (wnone_c h).mono fun e w' h => ⟨h.1, h.2.symm⟩
  have hE := h.lt
  have hEa : E a := h.inE
  have hzd := sb_size d
  by_cases hbig : 65536 < d.length
  · have FIN : wApp (L, q) d = (0, 2, L, q) := by unfold wApp; rw [if_pos hbig]
    rw [FIN]
    have O : Hid (WaOut w w a b L q E) := WaOut.self h
    have hbi : (65536 : Int) < ((sb d).size : Int) := by omega
    clear FIN h ok hst hne hlen hs hs2 hz hG hE
    generalize sb d = s at *
    go_enter Tryz.func22, Tryz.ntmps22
    go_wp2_with fail
    refine cN.mono ?_
    rintro e v1 ⟨rfl, rfl⟩
    go_wp2
    exact bodyPost_ret (v := .tuple #[.int .i64 0, .int .i64 2]) (by simp [results, Tryz.results22, go_sem]) rfl ⟨rfl, O.out⟩
  have hbi : ¬ (65536 : Int) < ((sb d).size : Int) := by omega
  have hs2' : Sml L.cur.2 := by unfold Sml; omega
  obtain ⟨f1, f2, f3⟩ := wReady_ok ok L
  obtain ⟨n1, n2, n3, n4, n5⟩ := f3.cur hne hs hs2'
  have n6 := f3.2
  have lenb := enT_len 1 d
  have cR : Hid (Calls Tryz.prog 43 #[.int .i64 1, .string (sb d)] w fun e w1 => ∃ ao c, e = .returned (.tuple #[.slice ao (enT 1 d).length c, .int .i64 0]) ∧
      Hid (Calls Tryz.prog 44 #[.pointer (some ⟨a, 0, none⟩)] w1 fun e w2 => e = .returned (.int .i64 (wReady (L, q)).1) ∧ (w2.cell? ⟨a, 0, none⟩ = some (.pointer (some ⟨b, 0, none⟩)) ∧ a < w2.heap.size) ∧ Hid (WaOut w w2 a b (wReady (L, q)).2.1 (wReady (L, q)).2.2 E) ∧
        Hid (∃ g o, CNm w2 a b (wReady (L, q)).2.1 g o fun Z => Calls Tryz.prog 45 #[.pointer (some ⟨b, 0, none⟩), .string (sb (wReady (L, q)).2.1.cn), .slice ao (enT 1 d).length c] Z fun e w3 => e = .returned (.int .i64 (apE (wReady (L, q)).2.2 (wReady (L, q)).2.1.cn (enT 1 d).length)) ∧ (w3.cell? ⟨a, 0, none⟩ = some (.pointer (some ⟨b, 0, none⟩)) ∧ a < w3.heap.size) ∧ (w3.cell? ⟨g, o, none⟩ = some (.int .i64 (wReady (L, q)).2.1.cur.1) ∧ w3.cell? ⟨g, o + 1, none⟩ = some (.int .i64 (wReady (L, q)).2.1.cur.2) ∧ g < w3.heap.size) ∧
          Hid (WaOut w w3 a b (wReady (L, q)).2.1 ((wReady (L, q)).2.2.append (wReady (L, q)).2.1.cn (enT 1 d)) E) ∧
          Hid (Calls Tryz.prog 47 #[.pointer (some ⟨a, 0, none⟩), .int .i64 ((enT 1 d).length : Int)] w3 fun e w4 => e = .returned (.tuple #[]) ∧
            Hid (Calls Tryz.prog 20 #[.pointer (some ⟨a, 0, none⟩)] w4 fun e w5 => e = .returned (.int .i64 ((wReady (L, q)).2.1.count (enT 1 d).length).lst) ∧ Hid (WaOut w w5 a b ((wReady (L, q)).2.1.count (enT 1 d).length) ((wReady (L, q)).2.2.append (wReady (L, q)).2.1.cn (enT 1 d)) E)))))) := by
    refine (encode_c 1 d (by omega) w).mono ?_
    rintro e w1 ⟨v, rfl, g1, ho⟩
    have e0 : enE 1 d.length = 0 := by unfold enE; rw [if_neg (by omega), if_neg (by omega)]
    rw [e0, if_pos rfl] at ho
    rw [e0]
    have ho : OwnB w1 w.heap.size v (enT 1 d) := ho
    obtain ⟨ao, c, rfl⟩ := row_fm ho
    refine ⟨ao, c, rfl, ?_⟩
    have h1 := h.gb g1
    have GX : GlK E w1 := fun Y kY => hG Y ((Kf.gb g1 E).then kY fun _ _ e => e)
    refine (wready_c h1 ok (by omega) hne (by omega) hs hs2' (by omega) GX).mono ?_
    rintro e w2 ⟨rfl, o2⟩
    have O2 := o2.pre g1 hE
    have ho2 : OwnB w2 w.heap.size (.slice ao (enT 1 d).length c) (enT 1 d) := ho.kf o2.2 hE
    refine ⟨rfl, O2.a0, O2, ?_⟩
    generalize (wReady (L, q)).2.1 = L2 at *
    generalize (wReady (L, q)).2.2 = q2 at *
    refine cur_name O2.1 n1 (by omega) n3 (hG.out O2.2) fun g o cb ⟨c1, c2, cg⟩ Z gZ => ?_
    have OZ := O2.gb gZ
    have hu : AgB Z (.slice ao (enT 1 d).length c) (enT 1 d) := by
      have := (ho2.gb gZ).agTake (k := (enT 1 d).length) (Nat.le_refl _)
      rwa [List.take_length] at this
    refine (OZ.1.dkg (R := fun e => e = .returned (.int .i64 (apE q2 L2.cn (enT 1 d).length))) fun F k => append_c k f1 (by omega) (sgN_wf n3) hu (by omega)).mono ?_
    rintro e w3 ⟨rfl, o3, B3⟩
    have s3 := o3.2.size
    have O3 := OZ.trans hE o3
    have eb := B3 g (cb.gb gZ)
    refine ⟨rfl, O3.a0, ⟨(World.cell?_of_block (a := ⟨g, o, none⟩) eb).trans (gb_keeps gZ c1), (World.cell?_of_block (a := ⟨g, o + 1, none⟩) eb).trans (gb_keeps gZ c2), Nat.lt_of_lt_of_le (Nat.lt_of_lt_of_le cg gZ.size) s3⟩, O3, ?_⟩
    refine (wcount_c O3.1 n1 (by omega) n4 (by omega) (n := (enT 1 d).length) (by omega)).mono ?_
    rintro e w4 ⟨rfl, o4⟩
    have O4 := O3.trans hE o4
    refine ⟨rfl, ?_⟩
    have hc := cur_count L2 (enT 1 d).length
    refine (wlast_c O4.1 ?_ ?_ ?_).mono ?_
    · simp [Lg.count]
    · show (L2.sg.dropLast ++ [(L2.cur.1, L2.cur.2 + 1)]).length ≤ _
      simp; omega
    · rw [hc]; unfold Sml; show _ ≤ L2.cur.2 + 1 ∧ L2.cur.2 + 1 ≤ _; omega
    · rintro e w5 ⟨rfl, g5⟩
      exact ⟨rfl, O4.gb g5⟩
  have FIN : wApp (L, q) d = if (wReady (L, q)).1 = 0 then (if apE (wReady (L, q)).2.2 (wReady (L, q)).2.1.cn (enT 1 d).length = 0 then (((wReady (L, q)).2.1.count (enT 1 d).length).lst, 0, (wReady (L, q)).2.1.count (enT 1 d).length, (wReady (L, q)).2.2.append (wReady (L, q)).2.1.cn (enT 1 d)) else (0, apE (wReady (L, q)).2.2 (wReady (L, q)).2.1.cn (enT 1 d).length, (wReady (L, q)).2)) else (0, (wReady (L, q)).1, (wReady (L, q)).2) := by unfold wApp; rw [if_neg hbig]
  have AO : apE (wReady (L, q)).2.2 (wReady (L, q)).2.1.cn (enT 1 d).length ≠ 0 → (wReady (L, q)).2.2.append (wReady (L, q)).2.1.cn (enT 1 d) = (wReady (L, q)).2.2 := fun e => app_off e rfl
  rw [FIN]
  clear FIN h ok hst hne hlen hs hs2 hs2' hz hG hE f1 f2 f3 n1 n2 n3 n4 n5 n6
  generalize wReady (L, q) = r at *
  obtain ⟨r1, L2, q2⟩ := r
  generalize hlb : (enT 1 d).length = lb at *
  generalize enT 1 d = eb at *
  generalize sb d = s at *
  simp only at cR AO ⊢
  clear lenb hlb hd hbig hzd
  by_cases e1 : r1 = 0
  · subst e1
    rw [if_pos rfl]
    by_cases e2 : apE q2 L2.cn lb = 0
    · rw [if_pos e2]
      rw [e2] at cR
      clear AO e2
      go_enter Tryz.func22, Tryz.ntmps22
      go_wp2_with fail
      refine cN.mono ?_
      rintro e v1 ⟨rfl, rfl⟩
      go_wp2_with fail
      refine cR.out.mono ?_
      rintro e w1 ⟨ao, c, rfl, R1⟩
      clear cR cN
      go_wp2_with fail
      refine R1.out.mono ?_
      rintro e w2 ⟨rfl, ⟨k0, ha⟩, O2, R2⟩
      obtain ⟨g, o, ⟨kg, kh, kl⟩, T1, T2, T3⟩ := R2.out
      have G0 : Hid (Gb w2 w2) := Below.refl _ _
      have GD : Hid (Gb w2 w2.drew) := (Below.refl _ w2).drew
      clear R1 R2 O2
      generalize hcf : L2.cur.1 = cf at *
      generalize hcx : L2.cur.2 = cx at *
      go_wp2
      go_region_held3 (fun w' => w'.cell? ⟨a, 0, none⟩ = some (.pointer (some ⟨b, 0, none⟩)) ∧ w'.cell? ⟨g, o, none⟩ = some (.int .i64 cf) ∧ w'.cell? ⟨g, o + 1, none⟩ = some (.int .i64 cx)) (first | exact ⟨k0, kg, kh⟩ | exact ⟨d0, c1, c2⟩ | exact ⟨d1, n1, n2⟩ | exact ⟨d2, m1, m2⟩) (first
        | (go_at_call 40; refine (T1.out _ (by first | exact GD.out | exact G0.out)).mono ?_; rintro e w3 ⟨rfl, c1, c2, cg, d0, s1, g1⟩)
        | (go_at_call 46; refine (T2.out _ g1).mono ?_; rintro e w4 ⟨rfl, n1, n2, ng, d1, s2, g2⟩)
        | (go_at_call 45; refine (T3.out _ g2).mono ?_; rintro e w5 ⟨rfl, ⟨d2, s3⟩, ⟨m1, m2, mg⟩, O3, T4⟩))
      all_goals
        clear T1 T2 T3 O3
        go_wp2_with fail
        refine T4.out.mono ?_
        rintro e w6 ⟨rfl, T5⟩
        clear T4
        go_wp2_with fail
        refine T5.out.mono ?_
        rintro e w7 ⟨rfl, O⟩
        clear T5
        go_wp2
        exact bodyPost_ret (v := .tuple #[.int .i64 (L2.count lb).lst, .int .i64 0]) (by simp [results, Tryz.results22, go_sem]) rfl ⟨rfl, O.out⟩
    · rw [if_neg e2]
      have b2 : (apE q2 L2.cn lb == 0) = false := by rw [beq_eq_false_iff_ne]; exact e2
      rw [AO e2] at cR
      clear AO
      go_enter Tryz.func22, Tryz.ntmps22
      go_wp2_with fail
      refine cN.mono ?_
      rintro e v1 ⟨rfl, rfl⟩
      go_wp2_with fail
      refine cR.out.mono ?_
      rintro e w1 ⟨ao, c, rfl, R1⟩
      clear cR cN
      go_wp2_with fail
      refine R1.out.mono ?_
      rintro e w2 ⟨rfl, ⟨k0, ha⟩, O2, R2⟩
      obtain ⟨g, o, ⟨kg, kh, kl⟩, T1, T2, T3⟩ := R2.out
      have G0 : Hid (Gb w2 w2) := Below.refl _ _
      have GD : Hid (Gb w2 w2.drew) := (Below.refl _ w2).drew
      clear R1 R2 O2
      generalize hcf : L2.cur.1 = cf at *
      generalize hcx : L2.cur.2 = cx at *
      go_wp2
      go_region_held3 (fun w' => w'.cell? ⟨a, 0, none⟩ = some (.pointer (some ⟨b, 0, none⟩)) ∧ w'.cell? ⟨g, o, none⟩ = some (.int .i64 cf) ∧ w'.cell? ⟨g, o + 1, none⟩ = some (.int .i64 cx)) (first | exact ⟨k0, kg, kh⟩ | exact ⟨d0, c1, c2⟩ | exact ⟨d1, n1, n2⟩ | exact ⟨d2, m1, m2⟩) (first
        | (go_at_call 40; refine (T1.out _ (by first | exact GD.out | exact G0.out)).mono ?_; rintro e w3 ⟨rfl, c1, c2, cg, d0, s1, g1⟩)
        | (go_at_call 46; refine (T2.out _ g1).mono ?_; rintro e w4 ⟨rfl, n1, n2, ng, d1, s2, g2⟩)
        | (go_at_call 45; refine (T3.out _ g2).mono ?_; rintro e w5 ⟨rfl, ⟨d2, s3⟩, ⟨m1, m2, mg⟩, O3, T4⟩))
      all_goals
        clear T1 T2 T3 T4
        go_wp2
        exact bodyPost_ret (v := .tuple #[.int .i64 0, .int .i64 (apE q2 L2.cn lb)]) (by simp [results, Tryz.results22, go_sem]) rfl ⟨rfl, O3.out⟩
  · rw [if_neg e1]
    have b1 : (r1 == 0) = false := by rw [beq_eq_false_iff_ne]; exact e1
    go_enter Tryz.func22, Tryz.ntmps22
    go_wp2_with fail
    refine cN.mono ?_
    rintro e v1 ⟨rfl, rfl⟩
    go_wp2_with fail
    refine cR.out.mono ?_
    rintro e w1 ⟨ao, c, rfl, R1⟩
    clear cR cN
    go_wp2_with fail
    refine R1.out.mono ?_
    rintro e w2 ⟨rfl, _, O2, R2⟩
    clear R1 R2
    go_wp2
    exact bodyPost_ret (v := .tuple #[.int .i64 0, .int .i64 r1]) (by simp [results, Tryz.results22, go_sem]) rfl ⟨rfl, O2.out⟩
end Go.Proofs.YtcbhhdjjanekaaaGreatDoor
