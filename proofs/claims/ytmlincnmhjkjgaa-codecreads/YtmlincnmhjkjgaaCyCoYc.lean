/- The reference's GetChange. -/
import Derived.Test.YtmlincnmhjkjgaaCyCoY
import Derived.Test.YtmlincnmhjkjgaaCyCoQ
import Derived.Test.YtmlincnmhjkjgaaCyCoL
import Derived.Test.YtmlincnmhjkjgaaCyCoZ
namespace Go.Proofs.Ytmlincnmhjkjgaa
open Go.RowKit Go.Lib

theorem heap_other {W : World} {b c o : Nat} {x : Value} (h : b ≠ c) : (W.setCell ⟨c, o, none⟩ x).heap[b]? = W.heap[b]? := Below.heap_setCell _ _ _ _ h
theorem wc_facts (w : World) (x y : Value) : ((w.alloc (.cells #[.int .i64 0, .int .i64 0, .slice none 0 0] 25)).alloc (.cells #[x, y, .slice none 0 0] 25)).heap[w.heap.size]? = some (.cells #[.int .i64 0, .int .i64 0, .slice none 0 0] 25 (0, 0)) ∧
    ((w.alloc (.cells #[.int .i64 0, .int .i64 0, .slice none 0 0] 25)).alloc (.cells #[x, y, .slice none 0 0] 25)).heap[w.heap.size + 1]? = some (.cells #[x, y, .slice none 0 0] 25 (0, 0)) ∧
    ((w.alloc (.cells #[.int .i64 0, .int .i64 0, .slice none 0 0] 25)).alloc (.cells #[x, y, .slice none 0 0] 25)).heap.size = w.heap.size + 2 ∧
    Gb w ((w.alloc (.cells #[.int .i64 0, .int .i64 0, .slice none 0 0] 25)).alloc (.cells #[x, y, .slice none 0 0] 25)) := by
  refine ⟨by rw [heap_alloc_old _ _ (by simp), heap_alloc_new], ?_, by simp, gb_alloc (gb_alloc (Below.refl _ _) _) _⟩
  have := heap_alloc_new (w.alloc (.cells #[.int .i64 0, .int .i64 0, .slice none 0 0] 25)) (.cells #[x, y, .slice none 0 0] 25)
  rw [World.size_alloc] at this
  exact this
theorem gok_len {l : List UInt8} (h : GOk l) : 5 ≤ l.length := by have := h.1; unfold gL at this; split at this <;> omega
theorem sb_inj2 {l m : List UInt8} (h : sb l = sb m) : l = m := sb_inj h
set_option maxHeartbeats 4000000 in
set_option maxRecDepth 100000 in
theorem rgetChange_c (l : List UInt8) (hl : l.length ≤ 1048576) (w : World) :
    Calls Try.prog 5 #[.string (sb l)] w fun e w' => gcP l w w' e := by
  have hsz := sb_size l
  have SS : Hid (∃ S, S = sb l) := ⟨_, rfl⟩
  obtain ⟨S, hS⟩ := SS
  have SL : Hid (S.data.toList = l) := by unfold Hid; rw [hS]; rfl
  have SE : Hid (S = sb l) := hS
  rw [← hS] at hsz ⊢
  clear hS
  have R0 : Hid (((w.alloc (.cells #[.int .i64 0, .int .i64 0, .slice none 0 0] 25)).alloc (.cells #[.int .i64 0, .int .i64 0, .slice none 0 0] 25)).heap[w.heap.size]? = some (.cells #[.int .i64 0, .int .i64 0, .slice none 0 0] 25 (0, 0))) := by
    unfold Hid; rw [heap_alloc_old _ _ (by simp), heap_alloc_new]
  have C0 : Hid (((w.alloc (.cells #[.int .i64 0, .int .i64 0, .slice none 0 0] 25)).alloc (.cells #[.int .i64 0, .int .i64 0, .slice none 0 0] 25)).heap[w.heap.size + 1]? = some (.cells #[.int .i64 0, .int .i64 0, .slice none 0 0] 25 (0, 0))) := by
    have := heap_alloc_new (w.alloc (.cells #[.int .i64 0, .int .i64 0, .slice none 0 0] 25)) (.cells #[.int .i64 0, .int .i64 0, .slice none 0 0] 25)
    rw [World.size_alloc] at this
    exact this
  have G0 : Hid (Gb w ((w.alloc (.cells #[.int .i64 0, .int .i64 0, .slice none 0 0] 25)).alloc (.cells #[.int .i64 0, .int .i64 0, .slice none 0 0] 25))) := gb_alloc (gb_alloc (Below.refl _ _) _) _
  have SZ0 : Hid (((w.alloc (.cells #[.int .i64 0, .int .i64 0, .slice none 0 0] 25)).alloc (.cells #[.int .i64 0, .int .i64 0, .slice none 0 0] 25)).heap.size = w.heap.size + 2) := by unfold Hid; simp
  obtain ⟨n, hN⟩ : ∃ n, n = l.length := ⟨_, rfl⟩
  have N : Hid (n = l.length) := hN
  rw [← hN] at hsz hl
  clear hN
  by_cases h5 : n < 5
  · have NO : ¬ GOk l := fun h => by have := gok_len h; have := N.out; omega
    have hsn : S.size = n := hsz
    have h5i : (n : Int) < 5 := by omega
    have cP := fun W => rputChange_c 0 0 (rdi_nil W)
    have e0 : pcV 0 0 [] = .tuple #[.string ⟨#[]⟩, .int .i64 160] := rfl
    rw [e0] at cP
    unfold Ch at cP
    clear e0 hl
    go_enter Try.func5, Try.ntmps5
    go_wp2_with fail
    refine (cP _).mono ?_
    rintro e W5 ⟨rfl, g5⟩
    have R5 : W5.heap[w.heap.size]? = some (.cells #[.int .i64 0, .int .i64 0, .slice none 0 0] 25 (0, 0)) := (g5.block _ (by rw [SZ0.out]; omega)).trans R0.out
    have G5 := gb_trans G0.out g5
    obtain ⟨r0, r1, r2, q0, q1, q2⟩ := cells3 R5
    go_wp2
    have hA := set3 R5 (.int .i64 0) (.int .i64 0) (.slice none 0 0)
    obtain ⟨z0, z1, z2, _⟩ := cells3 hA
    refine bodyPost_ret (v := .tuple #[Ch 0 0 (.slice none 0 0), .int .i64 161]) (by simp [results, Try.results5, go_sem, Ch, z0, z1, z2]) rfl ?_
    unfold gcP
    rw [if_neg NO]
    exact ⟨rfl, gb_set3 G5 (Nat.le_refl _) _ _ _⟩
  have h5i : (5 : Int) ≤ (n : Int) := by omega
  have h0s : 0 < S.size := by omega
  have hS0 : (S[0].toNat : Int) = (gK l : Int) := by
    have e1 : gK l = l[0]!.toNat := by
      unfold gK
      rw [tk_pre (by have := N.out; omega)]
      cases l with
      | nil => have := N.out; simp at this; omega
      | cons x r => simp [leN]
    have e2 : S[0] = l[0]! := by
      have e3 : S.data.toList[0]! = S[0] := by rw [getElem!_pos S.data.toList 0 (by simpa using h0s)]; rfl
      rw [← e3, SL.out]
    rw [e1, e2]
  have gI4 := get_c S 1 4 (by omega) (by decide) (by omega)
  have DI : Hid (leN (cut l 1 4) = gI l) := by unfold Hid gI; rw [cut_tk (by have := N.out; omega)]
  rw [SL.out, DI.out] at gI4
  have hI : gI l < 4294967296 := tk_lt 4 _
  have hK : gK l < 256 := tk_lt 1 l
  by_cases h6 : gK l = 1 ∧ n = 6 + 4 * gD l
  · obtain ⟨k1, hn6⟩ := h6
    have h5s : 5 < S.size := by omega
    have hS5 : (S[5].toNat : Int) = (gD l : Int) := by
      have hl5 : 5 < l.length := by have := N.out; omega
      have e1 : gD l = l[5]!.toNat := by
        unfold gD
        have e0 : (l.drop 5).take 1 = [l[5]!] := by rw [List.drop_eq_getElem_cons hl5, getElem!_pos l 5 hl5]; rfl
        rw [tk_pre (by rw [List.length_drop]; omega), e0]
        simp [leN]
      have e2 : S[5] = l[5]! := by
        have e3 : S.data.toList[5]! = S[5] := by rw [getElem!_pos S.data.toList 5 (by simpa using h5s)]; rfl
        rw [← e3, SL.out]
      rw [e1, e2]
    have hD : gD l < 256 := tk_lt 1 _
    have cc := coords_c S 6 (gD l) (by omega) (by omega) (by omega)
    have VV : Hid (vecOf (gD l) (l.drop 6) = gV l) := by unfold Hid gV; rw [if_pos k1]
    rw [SL.out, VV.out] at cc
    have GL : Hid (l.length = gL l) := by unfold Hid gL; rw [if_pos k1, ← N.out, hn6]
    have KK : Hid (gK l = 1) := k1
    rw [k1] at hS0
    generalize hi : gI l = i at *
    have II : Hid (gI l = i) := hi
    generalize gD l = d at *
    have hn6i : (n : Int) = 6 + 4 * (d : Int) := by omega
    clear hi k1 hK hn6
    go_enter Try.func5, Try.ntmps5
    clear R0 C0 G0 SZ0
    go_wp2_with fail
    refine (gI4 _).mono ?_
    rintro e w' ⟨rfl, rfl⟩
    obtain ⟨b1, b2, b3, b4⟩ := wc_facts w (.int .i64 1) (.int .i64 (i : Int))
    have c1 := cc ((w.alloc (.cells #[.int .i64 0, .int .i64 0, .slice none 0 0] 25)).alloc (.cells #[.int .i64 1, .int .i64 (i : Int), .slice none 0 0] 25))
    have BF : Hid (∀ W, Gb ((w.alloc (.cells #[.int .i64 0, .int .i64 0, .slice none 0 0] 25)).alloc (.cells #[.int .i64 1, .int .i64 (i : Int), .slice none 0 0] 25)) W → W.heap[w.heap.size]? = some (.cells #[.int .i64 0, .int .i64 0, .slice none 0 0] 25 (0, 0)) ∧ W.heap[w.heap.size + 1]? = some (.cells #[.int .i64 1, .int .i64 (i : Int), .slice none 0 0] 25 (0, 0)) ∧ Gb w W) :=
      fun W g => ⟨(g.block _ (by rw [b3]; omega)).trans b1, (g.block _ (by rw [b3]; omega)).trans b2, gb_trans b4 g⟩
    have B3 : Hid (((w.alloc (.cells #[.int .i64 0, .int .i64 0, .slice none 0 0] 25)).alloc (.cells #[.int .i64 1, .int .i64 (i : Int), .slice none 0 0] 25)).heap.size = w.heap.size + 2) := b3
    clear b1 b2 b3 b4 cc gI4
    go_wp2_with fail
    refine c1.mono ?_
    rintro e W3 ⟨v, rfl, o3, g3⟩
    rw [B3.out] at o3
    obtain ⟨r3, k3, G3⟩ := BF.out _ g3
    have S3 := (Array.getElem?_eq_some_iff.1 k3).1
    obtain ⟨av, cv, ev⟩ : ∃ a c, v = .slice a (gV l).length c := by obtain ⟨x1, x2, x3, _⟩ := o3.rd; exact ⟨x1, x2, x3⟩
    generalize hnv : (gV l).length = nv at *
    subst ev
    obtain ⟨x0, x1, x2, y0, y1, y2⟩ := cells3 k3
    have k4 := heap_set0 (o := 2) (x := .slice av nv cv) k3
    have r4 := (heap_other (b := w.heap.size) (c := w.heap.size + 1) (o := 2) (x := .slice av nv cv) (by omega)).trans r3
    have G4 := gb_set G3 (p := ⟨w.heap.size + 1, 2, none⟩) (Nat.le_succ _) (.slice av nv cv)
    have o4 : Own (W3.setCell ⟨w.heap.size + 1, 2, none⟩ (.slice av nv cv)) (w.heap.size + 2) (.slice av nv cv) (gV l) := ownsRow_setCell_below o3 (a := ⟨w.heap.size + 1, 2, none⟩) (by show w.heap.size + 1 < w.heap.size + 2; omega) _
    have k4 : (W3.setCell ⟨w.heap.size + 1, 2, none⟩ (.slice av nv cv)).heap[w.heap.size + 1]? = some (.cells #[.int .i64 1, .int .i64 (i : Int), .slice av nv cv] 25 (0, 0)) := k4
    have cP := rputChange_c 1 (i : Int) o4.rd
    clear c1 r3
    unfold Ch at cP
    by_cases hz : chE 1 (i : Int) (gV l) = 0
    · have OK : GOk l := ⟨GL.out, by rw [KK.out, II.out]; exact hz⟩
      have OKH : Hid (GOk l) := OK
      have hT := chT_gok OK
      rw [KK.out, II.out] at hT
      have hpv : pcV 1 (i : Int) (gV l) = .tuple #[.string S, .int .i64 0] := by
        unfold pcV
        rw [hz, if_pos rfl, SE.out]
        have hT : chT 1 (i : Int) (gV l) = l := hT
        rw [hT]
      rw [hpv] at cP
      clear hz hpv hT OK
      go_wp2_with fail
      refine cP.mono ?_
      rintro e W5 ⟨rfl, g5⟩
      have K5 := (g5.block _ (Array.getElem?_eq_some_iff.1 k4).1).trans k4
      have R5 := (g5.block _ (Array.getElem?_eq_some_iff.1 r4).1).trans r4
      have G5 := gb_trans G4 g5
      have O5 := o4.gb g5
      clear x0 x1 x2 y0 y1 y2 k4 r4 G4 o4 o3 G3 g3 g5 cP k3
      obtain ⟨x0, x1, x2, y0, y1, y2⟩ := cells3 K5
      obtain ⟨r0, r1, r2, q0, q1, q2⟩ := cells3 R5
      go_wp2
      have hA := set3 R5 (.int .i64 1) (.int .i64 (i : Int)) (.slice av nv cv)
      obtain ⟨z0, z1, z2, _⟩ := cells3 hA
      refine bodyPost_ret (v := .tuple #[Ch 1 (i : Int) (.slice av nv cv), .int .i64 0]) (by simp [results, Try.results5, go_sem, Ch, z0, z1, z2]) rfl ?_
      unfold gcP
      rw [if_pos OKH.out]
      exact ⟨.slice av nv cv, by rw [KK.out, II.out]; rfl, (own_set3 O5 (by omega) _ _ _).mono (by omega), gb_set3 G5 (Nat.le_refl _) _ _ _⟩
    · have NO : ¬ GOk l := fun h => hz (by have := h.2; rw [KK.out, II.out] at this; exact this)
      have NOH : Hid (¬ GOk l) := NO
      obtain ⟨S1, e1, hpv⟩ : ∃ S e, pcV 1 (i : Int) (gV l) = .tuple #[.string S, .int .i64 e] := ⟨_, _, rfl⟩
      have he : Hid (e1 = chE 1 (i : Int) (gV l)) := by
        unfold pcV at hpv
        injection hpv with hpv
        have h1 := congrArg (fun a : Array Value => a.toList) hpv
        simp at h1
        exact h1.2.symm
      rw [hpv] at cP
      have he' : (e1 != 0) = true := by rw [bne_iff_ne, he.out]; exact hz
      clear hz hpv NO he
      go_wp2_with fail
      refine cP.mono ?_
      rintro e W5 ⟨rfl, g5⟩
      have R5 := (g5.block _ (Array.getElem?_eq_some_iff.1 r4).1).trans r4
      have G5 := gb_trans G4 g5
      have NO := NOH.out
      clear x0 x1 x2 y0 y1 y2 k4 r4 G4 o4 o3 G3 g3 g5 cP k3
      obtain ⟨r0, r1, r2, q0, q1, q2⟩ := cells3 R5
      go_wp2
      have hA := set3 R5 (.int .i64 0) (.int .i64 0) (.slice none 0 0)
      obtain ⟨z0, z1, z2, _⟩ := cells3 hA
      refine bodyPost_ret (v := .tuple #[Ch 0 0 (.slice none 0 0), .int .i64 161]) (by simp [results, Try.results5, go_sem, Ch, z0, z1, z2]) rfl ?_
      unfold gcP
      rw [if_neg NO]
      exact ⟨rfl, gb_set3 G5 (Nat.le_refl _) _ _ _⟩
  · have NOL : Hid (gK l = 1 → ¬ GOk l) := fun k1 h => h6 ⟨k1, by have := h.1; unfold gL at this; rw [if_pos k1] at this; have := N.out; omega⟩
    generalize hi : gI l = i at *
    have II : Hid (gI l = i) := hi
    clear hi R0 C0 G0 SZ0
    by_cases k1 : gK l = 1
    · have NOH : Hid (¬ GOk l) := NOL.out k1
      rw [k1] at hS0
      have cz : chE 1 (i : Int) [] ≠ 0 := by
        unfold chE
        rw [if_neg (by decide)]
        split
        · decide
        · decide
      obtain ⟨S1, e1, hpv⟩ : ∃ S e, pcV 1 (i : Int) [] = .tuple #[.string S, .int .i64 e] := ⟨_, _, rfl⟩
      have he : Hid (e1 = chE 1 (i : Int) []) := by
        unfold pcV at hpv
        injection hpv with hpv
        have h1 := congrArg (fun a : Array Value => a.toList) hpv
        simp at h1
        exact h1.2.symm
      have cP := fun W => rputChange_c 1 (i : Int) (rdi_nil W)
      rw [hpv] at cP
      unfold Ch at cP
      have he' : (e1 != 0) = true := by rw [bne_iff_ne, he.out]; exact cz
      clear cz hpv he
      by_cases n6 : (6 : Int) ≤ (n : Int)
      · have h5s : 5 < S.size := by omega
        have hD : gD l < 256 := tk_lt 1 _
        have hS5 : (S[5].toNat : Int) = (gD l : Int) := by
          have hl5 : 5 < l.length := by have := N.out; omega
          have e1 : gD l = l[5]!.toNat := by
            unfold gD
            have e0 : (l.drop 5).take 1 = [l[5]!] := by rw [List.drop_eq_getElem_cons hl5, getElem!_pos l 5 hl5]; rfl
            rw [tk_pre (by rw [List.length_drop]; omega), e0]
            simp [leN]
          have e2 : S[5] = l[5]! := by
            have e3 : S.data.toList[5]! = S[5] := by rw [getElem!_pos S.data.toList 5 (by simpa using h5s)]; rfl
            rw [← e3, SL.out]
          rw [e1, e2]
        have hne : ((n : Int) == 6 + 4 * (gD l : Int)) = false := by rw [beq_eq_false_iff_ne]; intro e; exact h6 ⟨k1, by omega⟩
        generalize gD l = d at *
        clear h6 k1 hK
        go_enter Try.func5, Try.ntmps5
        go_wp2_with fail
        refine (gI4 _).mono ?_
        rintro e w' ⟨rfl, rfl⟩
        obtain ⟨b1, b2, b3, b4⟩ := wc_facts w (.int .i64 1) (.int .i64 (i : Int))
        have k4 : Hid (((w.alloc (.cells #[.int .i64 0, .int .i64 0, .slice none 0 0] 25)).alloc (.cells #[.int .i64 1, .int .i64 (i : Int), .slice none 0 0] 25)).heap[w.heap.size + 1]? = some (.cells #[.int .i64 1, .int .i64 (i : Int), .slice none 0 0] 25 (0, 0))) := b2
        have r4 : Hid (((w.alloc (.cells #[.int .i64 0, .int .i64 0, .slice none 0 0] 25)).alloc (.cells #[.int .i64 1, .int .i64 (i : Int), .slice none 0 0] 25)).heap[w.heap.size]? = some (.cells #[.int .i64 0, .int .i64 0, .slice none 0 0] 25 (0, 0))) := b1
        have G4 : Hid (Gb w ((w.alloc (.cells #[.int .i64 0, .int .i64 0, .slice none 0 0] 25)).alloc (.cells #[.int .i64 1, .int .i64 (i : Int), .slice none 0 0] 25))) := b4
        clear b1 b2 b3 b4 gI4
        go_wp2_with fail
        refine (cP _).mono ?_
        rintro e W5 ⟨rfl, g5⟩
        have K5 := (g5.block _ (Array.getElem?_eq_some_iff.1 k4.out).1).trans k4.out
        have R5 := (g5.block _ (Array.getElem?_eq_some_iff.1 r4.out).1).trans r4.out
        have G5 := gb_trans G4.out g5
        clear k4 r4 G4 g5 cP
        have NO := NOH.out
        obtain ⟨r0, r1, r2, q0, q1, q2⟩ := cells3 R5
        go_wp2
        have hA := set3 R5 (.int .i64 0) (.int .i64 0) (.slice none 0 0)
        obtain ⟨z0, z1, z2, _⟩ := cells3 hA
        refine bodyPost_ret (v := .tuple #[Ch 0 0 (.slice none 0 0), .int .i64 161]) (by simp [results, Try.results5, go_sem, Ch, z0, z1, z2]) rfl ?_
        unfold gcP
        rw [if_neg NO]
        exact ⟨rfl, gb_set3 G5 (Nat.le_refl _) _ _ _⟩
      · clear h6 k1 hK
        go_enter Try.func5, Try.ntmps5
        go_wp2_with fail
        refine (gI4 _).mono ?_
        rintro e w' ⟨rfl, rfl⟩
        obtain ⟨b1, b2, b3, b4⟩ := wc_facts w (.int .i64 1) (.int .i64 (i : Int))
        have k4 : Hid (((w.alloc (.cells #[.int .i64 0, .int .i64 0, .slice none 0 0] 25)).alloc (.cells #[.int .i64 1, .int .i64 (i : Int), .slice none 0 0] 25)).heap[w.heap.size + 1]? = some (.cells #[.int .i64 1, .int .i64 (i : Int), .slice none 0 0] 25 (0, 0))) := b2
        have r4 : Hid (((w.alloc (.cells #[.int .i64 0, .int .i64 0, .slice none 0 0] 25)).alloc (.cells #[.int .i64 1, .int .i64 (i : Int), .slice none 0 0] 25)).heap[w.heap.size]? = some (.cells #[.int .i64 0, .int .i64 0, .slice none 0 0] 25 (0, 0))) := b1
        have G4 : Hid (Gb w ((w.alloc (.cells #[.int .i64 0, .int .i64 0, .slice none 0 0] 25)).alloc (.cells #[.int .i64 1, .int .i64 (i : Int), .slice none 0 0] 25))) := b4
        clear b1 b2 b3 b4 gI4
        go_wp2_with fail
        refine (cP _).mono ?_
        rintro e W5 ⟨rfl, g5⟩
        have K5 := (g5.block _ (Array.getElem?_eq_some_iff.1 k4.out).1).trans k4.out
        have R5 := (g5.block _ (Array.getElem?_eq_some_iff.1 r4.out).1).trans r4.out
        have G5 := gb_trans G4.out g5
        clear k4 r4 G4 g5 cP
        have NO := NOH.out
        obtain ⟨r0, r1, r2, q0, q1, q2⟩ := cells3 R5
        go_wp2
        have hA := set3 R5 (.int .i64 0) (.int .i64 0) (.slice none 0 0)
        obtain ⟨z0, z1, z2, _⟩ := cells3 hA
        refine bodyPost_ret (v := .tuple #[Ch 0 0 (.slice none 0 0), .int .i64 161]) (by simp [results, Try.results5, go_sem, Ch, z0, z1, z2]) rfl ?_
        unfold gcP
        rw [if_neg NO]
        exact ⟨rfl, gb_set3 G5 (Nat.le_refl _) _ _ _⟩
    · have hk1' : ((gK l : Int) == 1) = false := by rw [beq_eq_false_iff_ne]; omega
      have VV : Hid (gV l = []) := by unfold Hid gV; rw [if_neg k1]
      have GL : Hid (gL l = 5) := by unfold Hid gL; rw [if_neg k1]
      generalize hkk : gK l = k at *
      have KK : Hid (gK l = k) := hkk
      clear hkk h6
      by_cases hz : chE (k : Int) (i : Int) [] = 0
      · have hpv : pcV (k : Int) (i : Int) [] = .tuple #[.string (sb (chT (k : Int) (i : Int) [])), .int .i64 0] := by unfold pcV; rw [hz, if_pos rfl]
        have cP := fun W => rputChange_c (k : Int) (i : Int) (rdi_nil W)
        rw [hpv] at cP
        unfold Ch at cP
        have hT5 : (chT (k : Int) (i : Int) []).length = 5 := by
          obtain ⟨_, hh⟩ := chE_zero hz
          rcases hh with ⟨e, _⟩ | ⟨e, _⟩
          · exact absurd e (by omega)
          · unfold chT; rw [if_neg (by omega)]; simp only [List.length_append, leB_length, List.length_nil]
        by_cases hn5 : n = 5
        · have OK : GOk l := ⟨by rw [GL.out, ← N.out, hn5], by rw [KK.out, II.out, VV.out]; exact hz⟩
          have OKH : Hid (GOk l) := OK
          have hT := chT_gok OK
          rw [KK.out, II.out, VV.out] at hT
          rw [hT, ← SE.out] at cP
          clear hz hpv hT OK hT5
          go_enter Try.func5, Try.ntmps5
          go_wp2_with fail
          refine (gI4 _).mono ?_
          rintro e w' ⟨rfl, rfl⟩
          obtain ⟨b1, b2, b3, b4⟩ := wc_facts w (.int .i64 (k : Int)) (.int .i64 (i : Int))
          have k4 : Hid (((w.alloc (.cells #[.int .i64 0, .int .i64 0, .slice none 0 0] 25)).alloc (.cells #[.int .i64 (k : Int), .int .i64 (i : Int), .slice none 0 0] 25)).heap[w.heap.size + 1]? = some (.cells #[.int .i64 (k : Int), .int .i64 (i : Int), .slice none 0 0] 25 (0, 0))) := b2
          have r4 : Hid (((w.alloc (.cells #[.int .i64 0, .int .i64 0, .slice none 0 0] 25)).alloc (.cells #[.int .i64 (k : Int), .int .i64 (i : Int), .slice none 0 0] 25)).heap[w.heap.size]? = some (.cells #[.int .i64 0, .int .i64 0, .slice none 0 0] 25 (0, 0))) := b1
          have G4 : Hid (Gb w ((w.alloc (.cells #[.int .i64 0, .int .i64 0, .slice none 0 0] 25)).alloc (.cells #[.int .i64 (k : Int), .int .i64 (i : Int), .slice none 0 0] 25))) := b4
          clear b1 b2 b3 b4 gI4
          go_wp2_with fail
          refine (cP _).mono ?_
          rintro e W5 ⟨rfl, g5⟩
          have K5 := (g5.block _ (Array.getElem?_eq_some_iff.1 k4.out).1).trans k4.out
          have R5 := (g5.block _ (Array.getElem?_eq_some_iff.1 r4.out).1).trans r4.out
          have G5 := gb_trans G4.out g5
          clear k4 r4 G4 g5 cP
          obtain ⟨x0, x1, x2, y0, y1, y2⟩ := cells3 K5
          obtain ⟨r0, r1, r2, q0, q1, q2⟩ := cells3 R5
          go_wp2
          have hA := set3 R5 (.int .i64 (k : Int)) (.int .i64 (i : Int)) (.slice none 0 0)
          obtain ⟨z0, z1, z2, _⟩ := cells3 hA
          refine bodyPost_ret (v := .tuple #[Ch (k : Int) (i : Int) (.slice none 0 0), .int .i64 0]) (by simp [results, Try.results5, go_sem, Ch, z0, z1, z2]) rfl ?_
          unfold gcP
          rw [if_pos OKH.out]
          exact ⟨.slice none 0 0, by rw [KK.out, II.out], by rw [VV.out]; exact own_nilI _ _, gb_set3 G5 (Nat.le_refl _) _ _ _⟩
        · have NOH : Hid (¬ GOk l) := fun h => hn5 (by have := h.1; rw [GL.out] at this; have := N.out; omega)
          have hne : ((sb (chT (k : Int) (i : Int) [])).toList == S.toList) = false := by
            rw [beq_eq_false_iff_ne]
            intro e
            rw [ByteArray.toList_eq, ByteArray.toList_eq, SL.out] at e
            have e : chT (k : Int) (i : Int) [] = l := e
            rw [e] at hT5
            have := N.out
            omega
          generalize sb (chT (k : Int) (i : Int) []) = S1 at *
          clear hz hpv hT5
          go_enter Try.func5, Try.ntmps5
          go_wp2_with fail
          refine (gI4 _).mono ?_
          rintro e w' ⟨rfl, rfl⟩
          obtain ⟨b1, b2, b3, b4⟩ := wc_facts w (.int .i64 (k : Int)) (.int .i64 (i : Int))
          have k4 : Hid (((w.alloc (.cells #[.int .i64 0, .int .i64 0, .slice none 0 0] 25)).alloc (.cells #[.int .i64 (k : Int), .int .i64 (i : Int), .slice none 0 0] 25)).heap[w.heap.size + 1]? = some (.cells #[.int .i64 (k : Int), .int .i64 (i : Int), .slice none 0 0] 25 (0, 0))) := b2
          have r4 : Hid (((w.alloc (.cells #[.int .i64 0, .int .i64 0, .slice none 0 0] 25)).alloc (.cells #[.int .i64 (k : Int), .int .i64 (i : Int), .slice none 0 0] 25)).heap[w.heap.size]? = some (.cells #[.int .i64 0, .int .i64 0, .slice none 0 0] 25 (0, 0))) := b1
          have G4 : Hid (Gb w ((w.alloc (.cells #[.int .i64 0, .int .i64 0, .slice none 0 0] 25)).alloc (.cells #[.int .i64 (k : Int), .int .i64 (i : Int), .slice none 0 0] 25))) := b4
          clear b1 b2 b3 b4 gI4
          go_wp2_with fail
          refine (cP _).mono ?_
          rintro e W5 ⟨rfl, g5⟩
          have K5 := (g5.block _ (Array.getElem?_eq_some_iff.1 k4.out).1).trans k4.out
          have R5 := (g5.block _ (Array.getElem?_eq_some_iff.1 r4.out).1).trans r4.out
          have G5 := gb_trans G4.out g5
          clear k4 r4 G4 g5 cP
          have NO := NOH.out
          obtain ⟨r0, r1, r2, q0, q1, q2⟩ := cells3 R5
          go_wp2
          have hA := set3 R5 (.int .i64 0) (.int .i64 0) (.slice none 0 0)
          obtain ⟨z0, z1, z2, _⟩ := cells3 hA
          refine bodyPost_ret (v := .tuple #[Ch 0 0 (.slice none 0 0), .int .i64 161]) (by simp [results, Try.results5, go_sem, Ch, z0, z1, z2]) rfl ?_
          unfold gcP
          rw [if_neg NO]
          exact ⟨rfl, gb_set3 G5 (Nat.le_refl _) _ _ _⟩
      · have NOH : Hid (¬ GOk l) := fun h => hz (by have := h.2; rw [KK.out, II.out, VV.out] at this; exact this)
        obtain ⟨S1, e1, hpv⟩ : ∃ S e, pcV (k : Int) (i : Int) [] = .tuple #[.string S, .int .i64 e] := ⟨_, _, rfl⟩
        have he : Hid (e1 = chE (k : Int) (i : Int) []) := by
          unfold pcV at hpv
          injection hpv with hpv
          have h1 := congrArg (fun a : Array Value => a.toList) hpv
          simp at h1
          exact h1.2.symm
        have cP := fun W => rputChange_c (k : Int) (i : Int) (rdi_nil W)
        rw [hpv] at cP
        unfold Ch at cP
        have he' : (e1 != 0) = true := by rw [bne_iff_ne, he.out]; exact hz
        clear hz hpv he
        go_enter Try.func5, Try.ntmps5
        go_wp2_with fail
        refine (gI4 _).mono ?_
        rintro e w' ⟨rfl, rfl⟩
        obtain ⟨b1, b2, b3, b4⟩ := wc_facts w (.int .i64 (k : Int)) (.int .i64 (i : Int))
        have k4 : Hid (((w.alloc (.cells #[.int .i64 0, .int .i64 0, .slice none 0 0] 25)).alloc (.cells #[.int .i64 (k : Int), .int .i64 (i : Int), .slice none 0 0] 25)).heap[w.heap.size + 1]? = some (.cells #[.int .i64 (k : Int), .int .i64 (i : Int), .slice none 0 0] 25 (0, 0))) := b2
        have r4 : Hid (((w.alloc (.cells #[.int .i64 0, .int .i64 0, .slice none 0 0] 25)).alloc (.cells #[.int .i64 (k : Int), .int .i64 (i : Int), .slice none 0 0] 25)).heap[w.heap.size]? = some (.cells #[.int .i64 0, .int .i64 0, .slice none 0 0] 25 (0, 0))) := b1
        have G4 : Hid (Gb w ((w.alloc (.cells #[.int .i64 0, .int .i64 0, .slice none 0 0] 25)).alloc (.cells #[.int .i64 (k : Int), .int .i64 (i : Int), .slice none 0 0] 25))) := b4
        clear b1 b2 b3 b4 gI4
        go_wp2_with fail
        refine (cP _).mono ?_
        rintro e W5 ⟨rfl, g5⟩
        have K5 := (g5.block _ (Array.getElem?_eq_some_iff.1 k4.out).1).trans k4.out
        have R5 := (g5.block _ (Array.getElem?_eq_some_iff.1 r4.out).1).trans r4.out
        have G5 := gb_trans G4.out g5
        clear k4 r4 G4 g5 cP
        have NO := NOH.out
        obtain ⟨r0, r1, r2, q0, q1, q2⟩ := cells3 R5
        go_wp2
        have hA := set3 R5 (.int .i64 0) (.int .i64 0) (.slice none 0 0)
        obtain ⟨z0, z1, z2, _⟩ := cells3 hA
        refine bodyPost_ret (v := .tuple #[Ch 0 0 (.slice none 0 0), .int .i64 161]) (by simp [results, Try.results5, go_sem, Ch, z0, z1, z2]) rfl ?_
        unfold gcP
        rw [if_neg NO]
        exact ⟨rfl, gb_set3 G5 (Nat.le_refl _) _ _ _⟩
end Go.Proofs.Ytmlincnmhjkjgaa
