import Derived.Test.YtdmdjmliggjbjaaGreatCt13
import Derived.BigQuiet
import Derived.Test.YtdmdjmliggjbjaaGreatCt4
import Derived.Test.YtdmdjmliggjbjaaGreatCt1
import Derived.Deep.QuietTactic
/- The reference's Wide and Add, as contracts. -/
namespace Go.Proofs.YtdmdjmliggjbjaaGreat
open Go.RowKit

set_option maxHeartbeats 2000000 in
theorem wide_any (n : Nat) (hn : n < 340282366920938463463374607431768211456) (o : Bool) (w : World) :
    Calls Tryz.prog 105 #[Nm n o] w fun e w' => e = .returned (Wd n) ∧ Gr w w' := by
  have n0 := ((NumAt.new w n o 105).call ((Gr.refl _).alloc #[.int .u64 0, .int .u64 0] 41)).call ((Gr.refl _).alloc #[.int .u64 0, .int .u64 0] 41)
  go_enter Tryz.func105, Tryz.ntmps105
  go_wp2
  go_loopw [4] (fun iv w' => ∃ z : Int, ∃ k x y : Nat, iv = .int .i64 z ∧ z = (k : Int) - 1 ∧ k ≤ 4 ∧ Hid (x = n / 18446744073709551616 / 65536 ^ k ∧ y = n % 18446744073709551616 / 65536 ^ k) ∧ Gr (((w.alloc (.cells #[.int .i64 (dd n 0), .int .i64 (dd n 1), .int .i64 (dd n 2), .int .i64 (dd n 3), .int .i64 (dd n 4), .int .i64 (dd n 5), .int .i64 (dd n 6), .int .i64 (dd n 7), .bool o] 105)).alloc (.cells #[.int .u64 0, .int .u64 0] 41))) w' ∧ NumAt w' w.heap.size n o ∧ w'.cell? ⟨w.heap.size + 1 + 1, 0, none⟩ = some (.int .u64 (x : Int)) ∧ w'.cell? ⟨w.heap.size + 1 + 1, 1, none⟩ = some (.int .u64 (y : Int)) ∧ w'.frozen? ⟨w.heap.size + 1 + 1, 0, none⟩ = false ∧ w'.frozen? ⟨w.heap.size + 1 + 1, 1, none⟩ = false) (fun iv _ => (intOf iv + 1).toNat)
  case atStart =>
    refine ⟨3, 4, 0, 0, rfl, by omega, by omega, ?_, (Gr.refl _).alloc _ _, n0, by simp [go_sem], by simp [go_sem], by simp [go_sem], by simp [go_sem]⟩
    show 0 = n / 18446744073709551616 / 65536 ^ 4 ∧ 0 = n % 18446744073709551616 / 65536 ^ 4
    simp only [Nat.reducePow]; omega
  case round =>
    clear n0
    obtain ⟨z, k, x, y, rfl, hz, hk, X, hG, hN, c0, c1, f0, f1⟩ := hrel
    cases k with
    | zero =>
      have hz' : z < 0 := by omega
      have E : Hid ((x : Int) = hi n ∧ (y : Int) = lo n) := by
        have := X.out
        simp at this
        obtain ⟨h1, h2⟩ := this
        subst h1 h2; exact ⟨rfl, rfl⟩
      have V := hG.var2
      simp only [World.size_alloc] at V
      obtain ⟨v0, v1, v2, v3⟩ := V
      clear hz X hN
      go_wp2
      refine bodyPost_ret (v := Wd n) ?_ rfl ⟨rfl, ?_⟩
      · rw [Wd, ← E.out.1, ← E.out.2]; simp [results, Tryz.results105, go_sem, v0, v1]
      · exact (((((Gr.refl _).alloc _ _).alloc _ _).trans hG).setCell (by simp) _).setCell (by simp) _
    | succ t =>
      have hzt : z = (t : Int) := by omega
      subst hzt
      obtain ⟨e, he, he1, he2⟩ := dd_nat n t
      obtain ⟨f, hf, hf1, hf2⟩ := dd_nat n (4 + t)
      have ca := hN.d t (by omega)
      have cb := hN.d (4 + t) (by omega)
      rw [he] at ca; rw [hf] at cb
      have hnb : w.heap.size + 1 + 1 ≠ w.heap.size := by omega
      have hx : x < 281474976710656 ∧ y < 281474976710656 := by
        obtain ⟨h1, h2⟩ := X.out
        have ht : t = 0 ∨ t = 1 ∨ t = 2 ∨ t = 3 := by omega
        rcases ht with rfl | rfl | rfl | rfl <;> (simp only [Nat.reduceAdd, Nat.reducePow] at h1 h2; omega)
      obtain ⟨x1, y1⟩ := hx
      have X' : Hid (65536 * x + f = n / 18446744073709551616 / 65536 ^ t ∧ 65536 * y + e = n % 18446744073709551616 / 65536 ^ t) := by
        obtain ⟨h1, h2⟩ := X.out
        have ht : t = 0 ∨ t = 1 ∨ t = 2 ∨ t = 3 := by omega
        unfold Hid
        rcases ht with rfl | rfl | rfl | rfl <;> (simp only [Nat.reduceAdd, Nat.reducePow] at *; omega)
      clear he he2 hf hf2 X hz
      go_wp2
      go_region
      go_wp2
      go_region
      go_wp2
      refine ⟨⟨(t : Int) - 1, t, 65536 * x + f, 65536 * y + e, by go_num, rfl, by omega, X', ?_, ?_, ?_, ?_, ?_, ?_⟩, by simp [intOf]⟩
      · exact (((hG.setCell (by simp) _).drew.setCell (by simp) _).drew)
      · exact ((hN.far _ _ hnb _).far _ _ hnb _).call ((Gr.refl _).drew.drew)
      · simp [go_sem, c0]
      · simp [go_sem, c1]
      · simp [go_sem, f0]
      · simp [go_sem, f1]

end Go.Proofs.YtdmdjmliggjbjaaGreat

/- container/heap's down, Push and Fix. -/
namespace Go.Proofs.YtdmdjmliggjbjaaGreat.Tk
open Go.RowKit Go.Sort
attribute [local go_sem ↓] Go.wp_at_zero Go.wp_at_succ

set_option maxHeartbeats 4000000 in
set_option maxRecDepth 100000 in
theorem down_c {w : World} {hb g n cap : Nat} {k : Int} {d : Array Ht} (h : Hp w hb k (.slice (some ⟨g, 0, none⟩) n cap) d) (hs : d.size = n) (hn : n ≤ 4000) (j : Nat) (hj : j < n) (hu : DownInv d j) :
    Calls Tryz.prog 109 #[.iface 118 (.pointer (some ⟨hb, 1, none⟩)), .int .i64 j, .int .i64 n] w fun e w' => (∃ b, e = .returned (.bool b)) ∧ Fixed w w' hb g n cap k d := by
  have H : Hid (Hp w hb k (.slice (some ⟨g, 0, none⟩) n cap) d ∧ DownInv d j ∧ d.size = n) := ⟨h, hu, hs⟩
  clear h hu hs
  go_enter Tryz.func109, Tryz.ntmps109
  go_wp2
  go_loopw [7] (fun iv w' => ∃ (q : Nat) (d' : Array Ht), iv = .int .i64 (q : Int) ∧ q < n ∧ Hid (d'.toList.Perm d.toList ∧ DownInv d' q ∧ Hp w' hb k (.slice (some ⟨g, 0, none⟩) n cap) d' ∧ Kp (fun b => b = g) w w')) (fun iv _ => n - (intOf iv).toNat)
  case atStart => exact ⟨j, d, rfl, hj, List.Perm.refl _, H.out.2.1, H.out.1, Kp.refl _ _⟩
  case round =>
    clear hj
    obtain ⟨q, d', rfl, hq, X⟩ := hrel
    have hcell : wr.cell? ⟨hb, 1, none⟩ = some (.slice (some ⟨g, 0, none⟩) n cap) := X.out.2.2.1.cell1
    have hs' : Hid (d'.size = n) := by have := X.out.1.length_eq; have := H.out.2.2; simp at *; unfold Hid; omega
    obtain ⟨c1, hc1⟩ : ∃ c1 : Nat, c1 = 2 * q + 1 := ⟨_, rfl⟩
    have e1 : 2 * (q : Int) + 1 = (c1 : Int) := by omega
    have C1 : Hid (c1 = 2 * q + 1) := hc1
    by_cases h1 : n ≤ c1
    · have h1' : (n : Int) ≤ (c1 : Int) := by omega
      clear hc1
      go_wp2
      go_ret
      refine ⟨⟨_, rfl⟩, d', X.out.1, down_stop0 X.out.2.1 ?_, X.out.2.2.1, X.out.2.2.2⟩
      have := hs'.out; have := C1.out; omega
    have h1' : (c1 : Int) < (n : Int) := by omega
    have h1n : c1 < n := by omega
    by_cases h2 : n ≤ c1 + 1
    · have h2' : (n : Int) ≤ (c1 : Int) + 1 := by omega
      have hch : Hid (Child d' q c1) := by
        have s1 := hs'.out; have s2 := C1.out; subst s2
        exact child_one (by omega) (by omega)
      clear hc1 h1 h2
      have hne : q ≠ c1 := by have := C1.out; omega
      have Z : Hid (Hp wr hb k (.slice (some ⟨g, 0, none⟩) n cap) d' ∧ Kp (fun b => b = g) w wr) := X.out.2.2
      have hm := inv_less hb _ wr Z.out.1.cell1
      have hl := less73n Z.out.1.own hs'.out h1n hq
      obtain ⟨t, ht⟩ : ∃ t, t = hlt d'[q]! d'[c1]! := ⟨_, rfl⟩
      rw [← ht] at hl
      have T : Hid (t = hlt d'[q]! d'[c1]!) := ht
      clear ht
      cases t with
      | false =>
        go_wp2_with fail
        refine hl.mono ?_
        rintro e v1 ⟨rfl, g1⟩
        clear hm hl
        go_wp2
        go_ret
        exact ⟨⟨_, rfl⟩, d', X.out.1, down_stop1 X.out.2.1 hch.out T.out.symm, Z.out.1.gr g1.gr, Z.out.2.trans (Kp.of_gr g1.gr)⟩
      | true =>
        go_wp2_with fail
        refine hl.mono ?_
        rintro e v1 ⟨rfl, g1⟩
        have H1 := Z.out.1.gr g1.gr
        have hm1 := inv_swap hb _ v1 H1.cell1
        have hsw := swap74n H1 hs'.out hq h1n hne
        clear H1 hm hl
        go_wp2_with fail
        refine hsw.mono ?_
        rintro e v2 ⟨rfl, h2, k2⟩
        have h2' : Hid (Hp v2 hb k (.slice (some ⟨g, 0, none⟩) n cap) (swp d' q c1)) := h2
        clear h2 hsw hm1
        go_wp2
        go_roundw
        case rel => exact ⟨c1, swp d' q c1, rfl, h1n, (swp_perm d' _ _ (by have := hs'.out; omega) (by have := hs'.out; omega)).trans X.out.1, down_step X.out.2.1 hch.out T.out.symm, h2'.out, (Z.out.2.trans (Kp.of_gr g1.gr)).trans k2⟩
        case measure => have := C1.out; simp [intOf]; omega
    obtain ⟨c2, hc2⟩ : ∃ c2 : Nat, c2 = c1 + 1 := ⟨_, rfl⟩
    have e2 : (c1 : Int) + 1 = (c2 : Int) := by omega
    have h2n : c2 < n := by omega
    have h2' : (c2 : Int) < (n : Int) := by omega
    have C2 : Hid (c2 = c1 + 1) := hc2
    clear hc1 h1 h2 hc2
    have hm := inv_less hb _ wr hcell
    have hl := less73n X.out.2.2.1.own hs'.out h2n h1n
    obtain ⟨t, ht⟩ : ∃ t, t = hlt d'[c1]! d'[c2]! := ⟨_, rfl⟩
    rw [← ht] at hl
    have T0 : Hid (t = hlt d'[c1]! d'[c2]!) := ht
    clear ht
    cases t with
    | false =>
      have hch : Hid (Child d' q c1) := by
        have s1 := hs'.out; have s2 := C1.out; have s3 := C2.out; have s4 := T0.out; subst s2; subst s3
        exact child_l (by omega) s4.symm
      have hne : q ≠ c1 := by have := C1.out; omega
      go_wp2_with fail
      refine hl.mono ?_
      rintro e w1 ⟨rfl, g0⟩
      have Z : Hid (Hp w1 hb k (.slice (some ⟨g, 0, none⟩) n cap) d' ∧ Kp (fun b => b = g) w w1) := ⟨X.out.2.2.1.gr g0.gr, X.out.2.2.2.trans (Kp.of_gr g0.gr)⟩
      clear hl hm hcell
      have hm := inv_less hb _ w1 Z.out.1.cell1
      have hl := less73n Z.out.1.own hs'.out h1n hq
      obtain ⟨t, ht⟩ : ∃ t, t = hlt d'[q]! d'[c1]! := ⟨_, rfl⟩
      rw [← ht] at hl
      have T : Hid (t = hlt d'[q]! d'[c1]!) := ht
      clear ht
      cases t with
      | false =>
        go_wp2_with fail
        refine hl.mono ?_
        rintro e v1 ⟨rfl, g1⟩
        clear hm hl
        go_wp2
        go_ret
        exact ⟨⟨_, rfl⟩, d', X.out.1, down_stop1 X.out.2.1 hch.out T.out.symm, Z.out.1.gr g1.gr, Z.out.2.trans (Kp.of_gr g1.gr)⟩
      | true =>
        go_wp2_with fail
        refine hl.mono ?_
        rintro e v1 ⟨rfl, g1⟩
        have H1 := Z.out.1.gr g1.gr
        have hm1 := inv_swap hb _ v1 H1.cell1
        have hsw := swap74n H1 hs'.out hq h1n hne
        clear H1 hm hl
        go_wp2_with fail
        refine hsw.mono ?_
        rintro e v2 ⟨rfl, h2, k2⟩
        have h2' : Hid (Hp v2 hb k (.slice (some ⟨g, 0, none⟩) n cap) (swp d' q c1)) := h2
        clear h2 hsw hm1
        go_wp2
        go_roundw
        case rel => exact ⟨c1, swp d' q c1, rfl, h1n, (swp_perm d' _ _ (by have := hs'.out; omega) (by have := hs'.out; omega)).trans X.out.1, down_step X.out.2.1 hch.out T.out.symm, h2'.out, (Z.out.2.trans (Kp.of_gr g1.gr)).trans k2⟩
        case measure => have := C1.out; simp [intOf]; omega
    | true =>
      have hch : Hid (Child d' q c2) := by
        have s1 := hs'.out; have s2 := C1.out; have s3 := C2.out; have s4 := T0.out; subst s2; subst s3
        exact child_r (by omega) s4.symm
      have hne : q ≠ c2 := by have := C1.out; have := C2.out; omega
      go_wp2_with fail
      refine hl.mono ?_
      rintro e w1 ⟨rfl, g0⟩
      have Z : Hid (Hp w1 hb k (.slice (some ⟨g, 0, none⟩) n cap) d' ∧ Kp (fun b => b = g) w w1) := ⟨X.out.2.2.1.gr g0.gr, X.out.2.2.2.trans (Kp.of_gr g0.gr)⟩
      clear hl hm hcell
      have hm := inv_less hb _ w1 Z.out.1.cell1
      have hl := less73n Z.out.1.own hs'.out h2n hq
      obtain ⟨t, ht⟩ : ∃ t, t = hlt d'[q]! d'[c2]! := ⟨_, rfl⟩
      rw [← ht] at hl
      have T : Hid (t = hlt d'[q]! d'[c2]!) := ht
      clear ht
      cases t with
      | false =>
        go_wp2_with fail
        refine hl.mono ?_
        rintro e v1 ⟨rfl, g1⟩
        clear hm hl
        go_wp2
        go_ret
        exact ⟨⟨_, rfl⟩, d', X.out.1, down_stop1 X.out.2.1 hch.out T.out.symm, Z.out.1.gr g1.gr, Z.out.2.trans (Kp.of_gr g1.gr)⟩
      | true =>
        go_wp2_with fail
        refine hl.mono ?_
        rintro e v1 ⟨rfl, g1⟩
        have H1 := Z.out.1.gr g1.gr
        have hm1 := inv_swap hb _ v1 H1.cell1
        have hsw := swap74n H1 hs'.out hq h2n hne
        clear H1 hm hl
        go_wp2_with fail
        refine hsw.mono ?_
        rintro e v2 ⟨rfl, h2, k2⟩
        have h2' : Hid (Hp v2 hb k (.slice (some ⟨g, 0, none⟩) n cap) (swp d' q c2)) := h2
        clear h2 hsw hm1
        go_wp2
        go_roundw
        case rel => exact ⟨c2, swp d' q c2, rfl, h2n, (swp_perm d' _ _ (by have := hs'.out; omega) (by have := hs'.out; omega)).trans X.out.1, down_step X.out.2.1 hch.out T.out.symm, h2'.out, (Z.out.2.trans (Kp.of_gr g1.gr)).trans k2⟩
        case measure => have := C1.out; have := C2.out; simp [intOf]; omega
end Go.Proofs.YtdmdjmliggjbjaaGreat.Tk

/- container/heap's Push and Fix. -/
namespace Go.Proofs.YtdmdjmliggjbjaaGreat.Tk
open Go.RowKit Go.Sort

theorem Kp.trans' {S T : Nat → Prop} {a b c : World} (h : Kp S a b) (k : Kp T b c) (hT : ∀ i, i < a.heap.size → T i → S i) : Kp S a c :=
  ⟨k.os.trans h.os, k.tape.trans h.tape, k.output.trans h.output, Nat.le_trans h.size k.size, fun i hi hn => (k.block i (Nat.lt_of_lt_of_le hi h.size) (fun t => hn (hT i hi t))).trans (h.block i hi hn)⟩

/-- What a heap is behind a hit more. -/
def More (w w' : World) (hb : Nat) (k : Int) (v : Value) (d : Array Ht) (x : Ht) : Prop :=
  ∃ g cap d', d'.toList.Perm (d.toList ++ [x]) ∧ MaxH d' ∧ Hp w' hb k (.slice (some ⟨g, 0, none⟩) (d.size + 1) cap) d' ∧ Kp (fun b => b = hb ∨ some b = v.ownBlock) w w' ∧ (v.ownBlock = some g ∨ w.heap.size ≤ g)

set_option maxHeartbeats 2000000 in
set_option maxRecDepth 100000 in
theorem push25 {w : World} {hb : Nat} {k : Int} {v : Value} {d : Array Ht} (h : Hp w hb k v d) (hm : MaxH d) (hn : d.size ≤ 3000) (x : Ht) :
    Calls Tryz.prog 83 #[.iface 118 (.pointer (some ⟨hb, 1, none⟩)), .iface 43 (hv x)] w fun e w' => e = .returned (.tuple #[]) ∧ More w w' hb k v d x := by
  have H : Hid (Hp w hb k v d ∧ MaxH d) := ⟨h, hm⟩
  have hp := push75 h (by omega) x
  have hi := inv_push hb w
  obtain ⟨n, hN⟩ : ∃ n, n = d.size := ⟨_, rfl⟩
  have N : Hid (n = d.size) := hN
  rw [← hN] at hn
  clear h hm hN
  go_enter Tryz.func83, Tryz.ntmps83
  go_wp2_with fail
  refine hp.mono ?_
  rintro e w1 ⟨rfl, g, cap, h1, k1, hg⟩
  have hu := up_push H.out.2 x
  have e1 := N.out
  have X : Hid (Hp w1 hb k (.slice (some ⟨g, 0, none⟩) (n + 1) cap) (d.push x) ∧ UpInv (d.push x) n ∧ (d.push x).size = n + 1) := ⟨by rw [e1]; exact h1, by rw [e1]; exact hu, by rw [Array.size_push, e1]⟩
  have K1 : Hid (Kp (fun b => b = hb ∨ some b = v.ownBlock) w w1 ∧ (v.ownBlock = some g ∨ w.heap.size ≤ g)) := ⟨k1, hg⟩
  clear hp hi h1 k1 hg hu e1
  have hi := inv_len hb _ w1 X.out.1.cell1
  go_wp2_with fail
  refine (len72 _ _ _ _).mono ?_
  rintro e w2 ⟨rfl, e2⟩
  subst e2
  have e3 : ((n + 1 : Nat) : Int) - 1 = (n : Int) := by omega
  clear hi
  go_wp2_with fail
  refine (up_c X.out.1 X.out.2.2 (by omega) n (by omega) X.out.2.1).mono ?_
  rintro e w3 ⟨rfl, d', p1, p2, p3, p4⟩
  have Y : Hid (d'.toList.Perm (d.push x).toList ∧ MaxH d' ∧ Hp w3 hb k (.slice (some ⟨g, 0, none⟩) (n + 1) cap) d' ∧ Kp (fun b => b = g) w2 w3) := ⟨p1, p2, p3, p4⟩
  clear p1 p2 p3 p4
  go_wp2
  go_end0
  obtain ⟨p1, p2, p3, p4⟩ := Y.out
  obtain ⟨k1, hg⟩ := K1.out
  refine ⟨rfl, g, cap, d', by simpa using p1, p2, by rw [← N.out]; exact p3, k1.trans' p4 ?_, hg⟩
  rintro i hi rfl
  rcases hg with hg | hg
  · exact .inr hg.symm
  · omega

set_option maxHeartbeats 2000000 in
set_option maxRecDepth 100000 in
theorem fix26 {w : World} {hb g n cap : Nat} {k : Int} {d : Array Ht} (h : Hp w hb k (.slice (some ⟨g, 0, none⟩) n cap) d) (hs : d.size = n) (hn : n ≤ 4000) (hn0 : 0 < n) (hu : DownInv d 0) :
    Calls Tryz.prog 86 #[.iface 118 (.pointer (some ⟨hb, 1, none⟩)), .int .i64 0] w fun e w' => e = .returned (.tuple #[]) ∧ Fixed w w' hb g n cap k d := by
  have H : Hid (Hp w hb k (.slice (some ⟨g, 0, none⟩) n cap) d ∧ DownInv d 0 ∧ d.size = n) := ⟨h, hu, hs⟩
  have hi := inv_len hb _ w h.cell1
  clear h hs hu
  go_enter Tryz.func86, Tryz.ntmps86
  go_wp2_with fail
  refine (len72 _ _ _ _).mono ?_
  rintro e w2 ⟨rfl, e2⟩
  subst e2
  clear hi
  go_wp2_with fail
  refine (down_c H.out.1 H.out.2.2 hn 0 hn0 H.out.2.1).mono ?_
  rintro e w3 ⟨⟨b, rfl⟩, d', p1, p2, p3, p4⟩
  have Y : Hid (d'.toList.Perm d.toList ∧ MaxH d' ∧ Hp w3 hb k (.slice (some ⟨g, 0, none⟩) n cap) d' ∧ Kp (fun b => b = g) w2 w3) := ⟨p1, p2, p3, p4⟩
  clear p1 p2 p3 p4
  cases b with
  | true =>
    go_wp2
    go_end0
    exact ⟨rfl, d', Y.out⟩
  | false =>
    go_wp2_with fail
    refine (up_c (d := d') Y.out.2.2.1 (by have := Y.out.1.length_eq; have := H.out.2.2; simp at *; omega) hn 0 hn0 ⟨fun i h0 h1 _ => Y.out.2.1 i h0 h1, fun _ _ _ _ h0 => absurd h0 (Nat.lt_irrefl _)⟩).mono ?_
    rintro e w4 ⟨rfl, d'', p1, p2, p3, p4⟩
    have Y2 : Hid (d''.toList.Perm d'.toList ∧ MaxH d'' ∧ Hp w4 hb k (.slice (some ⟨g, 0, none⟩) n cap) d'' ∧ Kp (fun b => b = g) w3 w4) := ⟨p1, p2, p3, p4⟩
    clear p1 p2 p3 p4
    go_wp2
    go_end0
    exact ⟨rfl, d'', Y2.out.1.trans Y.out.1, Y2.out.2.1, Y2.out.2.2.1, Y.out.2.2.2.trans Y2.out.2.2.2⟩
end Go.Proofs.YtdmdjmliggjbjaaGreat.Tk

/- The heap's own calls: New, Len, Full, Worst, Offer. -/
namespace Go.Proofs.YtdmdjmliggjbjaaGreat.Tk
open Go.RowKit Go.Sort
attribute [local go_sem ↓] Go.wp_at_zero Go.wp_at_succ

set_option maxHeartbeats 1000000 in
theorem new_lo (k : Int) (hk : k < 1) (w : World) : Calls Tryz.prog 55 #[.int .i64 k] w fun e w' => e = .returned (.tuple #[.pointer none, .int .i64 1]) ∧ w' = w := by
  go_enter Tryz.func55, Tryz.ntmps55
  go_wp2
  go_ret2
  exact ⟨rfl, rfl⟩
set_option maxHeartbeats 1000000 in
theorem new_hi (k : Int) (hk : 64 < k) (w : World) : Calls Tryz.prog 55 #[.int .i64 k] w fun e w' => e = .returned (.tuple #[.pointer none, .int .i64 1]) ∧ w' = w := by
  have h0 : ¬ k < 1 := by omega
  go_enter Tryz.func55, Tryz.ntmps55
  go_wp2
  go_ret2
  exact ⟨rfl, rfl⟩
set_option maxHeartbeats 1000000 in
theorem new_ok (k : Int) (h1 : 1 ≤ k) (h2 : k ≤ 64) (w : World) : Calls Tryz.prog 55 #[.int .i64 k] w fun e w' => e = .returned (.tuple #[.pointer (some ⟨w.heap.size, 0, none⟩), .int .i64 0]) ∧ w' = w.alloc (.cells #[.int .i64 k, .slice none 0 0] 115) := by
  have h0 : ¬ k < 1 := by omega
  have h3 : ¬ 64 < k := by omega
  go_enter Tryz.func55, Tryz.ntmps55
  go_wp2
  go_ret2
  exact ⟨rfl, rfl⟩
theorem new_hp (k : Int) (w : World) : Hp (w.alloc (.cells #[.int .i64 k, .slice none 0 0] 115)) w.heap.size k (.slice none 0 0) #[] :=
  ⟨heap_alloc_new w _, own_nil _, by simp [Value.ownBlock]⟩

theorem Hp.form {w : World} {hb : Nat} {k : Int} {v : Value} {d : Array Ht} (h : Hp w hb k v d) : ∃ a cap, v = .slice a d.size cap := by
  rcases h.own.2 with ⟨rfl, h0⟩ | ⟨g, cap, cur, rfl, _⟩
  · exact ⟨none, 0, by rw [h0]⟩
  · exact ⟨_, _, rfl⟩

set_option maxHeartbeats 1000000 in
theorem len17 {w : World} {hb : Nat} {k : Int} {v : Value} {d : Array Ht} (h : Hp w hb k v d) : Calls Tryz.prog 108 #[.pointer (some ⟨hb, 0, none⟩)] w fun e w' => e = .returned (.int .i64 (d.size : Nat)) ∧ w' = w := by
  have c1 := h.cell1
  obtain ⟨a, cap, rfl⟩ := h.form
  clear h
  generalize d.size = n at c1 ⊢
  go_enter Tryz.func108, Tryz.ntmps108
  go_wp2
  go_ret
  exact ⟨rfl, rfl⟩
theorem len17_nil (w : World) : Calls Tryz.prog 108 #[.pointer none] w fun e w' => e = .returned (.int .i64 0) ∧ w' = w := by
  go_enter Tryz.func108, Tryz.ntmps108
  go_wp2
  go_ret
  exact ⟨rfl, rfl⟩

set_option maxHeartbeats 1000000 in
theorem worst15_none (p : Value) (w : World) (hl : ∀ W, Gr w W → Calls Tryz.prog 108 #[p] W fun e w' => e = .returned (.int .i64 0) ∧ w' = W) :
    Calls Tryz.prog 84 #[p] w fun e w' => e = .returned (.tuple #[hv ⟨0, 0, 0⟩, .bool false]) ∧ Gr w w' := by
  go_enter Tryz.func84, Tryz.ntmps84
  go_wp2_with fail
  refine (hl _ (by go_grown)).mono ?_
  rintro e w' ⟨rfl, rfl⟩
  clear hl
  go_wp2
  refine bodyPost_ret (v := .tuple #[hv ⟨0, 0, 0⟩, .bool false]) (by simp [results, Tryz.results84, go_sem]) rfl ?_
  exact ⟨rfl, by go_grown⟩

set_option maxHeartbeats 1000000 in
theorem worst15 {w : World} {hb : Nat} {k : Int} {v : Value} {d : Array Ht} (h : Hp w hb k v d) (hd : 0 < d.size) (hn : d.size ≤ 4000) : Calls Tryz.prog 84 #[.pointer (some ⟨hb, 0, none⟩)] w fun e w' => e = .returned (.tuple #[hv d[0]!, .bool true]) ∧ Gr w w' := by
  obtain ⟨g, cap, cur, rfl, _⟩ := own_form h.own hd
  have hA : Hid (Hp (w.alloc (.cells #[.int .i64 0, .int .u64 0, .int .u64 0] 43)) hb k (.slice (some ⟨g, 0, none⟩) d.size cap) d) := h.gr (by go_grown)
  have hl := len17 hA.out
  have c1 := hA.out.cell1
  have cc := own_cell hA.out.own hd
  rw [Nat.zero_mul] at cc
  obtain ⟨x0, x1, x2⟩ := cc
  generalize d[0]! = x at *
  obtain ⟨n, hN⟩ : ∃ n, n = d.size := ⟨_, rfl⟩
  rw [← hN] at *
  clear h hN hA
  go_enter Tryz.func84, Tryz.ntmps84
  go_wp2_with fail
  refine hl.mono ?_
  rintro e w' ⟨rfl, rfl⟩
  clear hl
  go_wp2
  refine bodyPost_ret (v := .tuple #[hv x, .bool true]) (by simp [results, Tryz.results84, go_sem]) rfl ?_
  exact ⟨rfl, by go_grown⟩
end Go.Proofs.YtdmdjmliggjbjaaGreat.Tk

/- slices.IsSorted at numbers. -/
namespace Go.Proofs.YtdmdjmliggjbjaaGreat
open Go.RowKit Go.Sort

/-- Numbers that do not fall. -/
def sortB (l : List Int) : Prop := ∀ i, i + 1 < l.length → ¬ l[i + 1]! < l[i]!
theorem less_c (x y : Int) (r : Bool) (hr : decide (x < y) = r) (w : World) : Calls Tryz.prog 60 #[.int .i64 x, .int .i64 y] w fun e w' => e = .returned (.bool r) ∧ w' = w := by
  subst hr
  have c1 := Tk.isNaN_c x w
  go_enter Tryz.func60, Tryz.ntmps60
  go_wp2_with fail
  refine c1.mono ?_
  rintro e w' ⟨rfl, rfl⟩
  go_wp2
  all_goals (go_ret; exact ⟨rfl, rfl⟩)
def srtFrom (l : List Int) (q : Nat) : Prop := ∀ i, q ≤ i + 1 → i + 1 < l.length → ¬ l[i + 1]! < l[i]!
def SrtOut (l : List Int) (w : World) (e : Ending) (w' : World) : Prop := (∃ r : Bool, e = .returned (.bool r) ∧ (r = true ↔ sortB l)) ∧ Gb w w'
set_option maxRecDepth 100000 in
set_option maxHeartbeats 1000000 in
theorem isSorted_c {w : World} {v : Value} {l : List Int} (h : RdI w v l) (hn : l.length ≤ 4611686018427387904) :
    Calls Tryz.prog 35 #[v] w fun e w' => SrtOut l w e w' := by
  obtain ⟨a, cap, rfl, ha⟩ := h
  have HA : Hid (∀ i, i < l.length → ∃ b o, a = some ⟨b, o, none⟩ ∧ w.cell? ⟨b, o + i, none⟩ = some (.int .i64 l[i]!)) := ha
  obtain ⟨n, hN⟩ : ∃ n, n = l.length := ⟨_, rfl⟩
  have N : Hid (n = l.length) := hN
  rw [← hN] at hn ⊢
  clear ha hN
  go_enter Tryz.func35, Tryz.ntmps35
  go_wp2
  go_loopw [3] (fun iv W => ∃ q : Nat, iv = .int .i64 ((q : Int) - 1) ∧ q ≤ n ∧ Hid (srtFrom l q ∧ Gb w W)) (fun iv _ => (intOf iv).toNat)
  case atStart => exact ⟨n, rfl, Nat.le_refl _, fun i h1 h2 => by have := N.out; omega, Below.refl _ _⟩
  case round =>
    obtain ⟨q, rfl, hq, X⟩ := hrel
    by_cases hqn : 1 < q
    · obtain ⟨m, hm⟩ : ∃ m, m = q - 1 := ⟨_, rfl⟩
      obtain ⟨p, hp⟩ : ∃ p, p = m - 1 := ⟨_, rfl⟩
      have MP : Hid (q = m + 1 ∧ m = p + 1) := ⟨by omega, by omega⟩
      have e1 : (q : Int) - 1 = (m : Int) := by omega
      have hqi : (0 : Int) < (m : Int) := by omega
      have e2 : (m : Int) - 1 = (p : Int) := by omega
      have e3 : IntKind.i64.wrap (p : Int) = (p : Int) := by
        unfold IntKind.wrap IntKind.signed IntKind.bits
        simp
        omega
      have hp1 : (m : Int) < (n : Int) := by omega
      have hp0 : (p : Int) < (n : Int) := by omega
      obtain ⟨b, o, rfl, c1⟩ := HA.out m (by have := N.out; omega)
      obtain ⟨_, _, e, c0⟩ := HA.out p (by have := N.out; omega)
      injection e with e; injection e with e4 e5; subst e4; subst e5
      have c1 := gb_keeps X.out.2 c1
      have c0 := gb_keeps X.out.2 c0
      obtain ⟨x, hx⟩ : ∃ x, x = l[m]! := ⟨_, rfl⟩
      obtain ⟨y, hy⟩ : ∃ y, y = l[p]! := ⟨_, rfl⟩
      have XY : Hid (x = l[p + 1]! ∧ y = l[p]!) := ⟨by rw [← MP.out.2]; exact hx, hy⟩
      rw [← hx] at c1
      rw [← hy] at c0
      rw [e1]
      have HQ : Hid (1 < q ∧ q ≤ n) := ⟨hqn, hq⟩
      clear hx hy hm hp e1 hqn hq
      by_cases hlt : x < y
      · have cl := fun W => less_c x y true (decide_eq_true hlt) W
        have FO : Hid (∀ W, Gb wr W → SrtOut l w (.returned (.bool false)) W) := fun W hg => ⟨⟨false, rfl, fun h => (by cases h), fun h => absurd hlt (by rw [XY.out.1, XY.out.2]; exact h p (by have := N.out; have := MP.out; have := HQ.out; omega))⟩, gb_trans X.out.2 hg⟩
        clear hlt X
        go_wp2_with fail
        go_quiet ((go_at_call 60; exact Calls.quiet_of_same (cl _)))
        have FF := FO.out _ (below_drewN (Below.refl _ _) nq)
        clear FO cl c0 c1
        go_wp2
        go_ret
        exact FF
      · have cl := fun W => less_c x y false (decide_eq_false hlt) W
        have FO : Hid (∀ W, Gb wr W → srtFrom l m ∧ Gb w W) := fun W hg => ⟨fun i h1 h2 => by
          by_cases e : i = p
          · subst e; rw [← XY.out.1, ← XY.out.2]; exact hlt
          · exact X.out.1 i (by have := MP.out; omega) h2, gb_trans X.out.2 hg⟩
        clear hlt X
        go_wp2_with fail
        go_quiet ((go_at_call 60; exact Calls.quiet_of_same (cl _)))
        have FF : Hid _ := FO.out _ (below_drewN (Below.refl _ _) nq)
        clear FO cl c0 c1
        go_wp2
        go_roundw
        case rel => exact ⟨m, by first | rfl | go_num | (rw [e2]), by have := MP.out; have := HQ.out; omega, FF.out⟩
        case measure => have := MP.out; simp [intOf]; omega
    · have hqi : ¬ (0 : Int) < (q : Int) - 1 := by omega
      have FO : Hid (SrtOut l w (.returned (.bool true)) wr) := ⟨⟨true, rfl, fun _ i hi' => X.out.1 i (by omega) hi', fun _ => rfl⟩, X.out.2⟩
      clear X
      go_wp2
      go_ret
      exact FO.out
end Go.Proofs.YtdmdjmliggjbjaaGreat
