/- container/heap's up. -/
import Derived.Test.YtepjbdklljlecabGreatVs8
namespace Go.Proofs.YtepjbdklljlecabGreat.Tk
open Go.RowKit Go.Sort
attribute [local go_sem ↓] Go.wp_at_zero Go.wp_at_succ

theorem Hp.kp {S : Nat → Prop} {w w' : World} {hb : Nat} {k : Int} {v : Value} {d : Array Ht} (h : Hp w hb k v d) (K : Kp S w w') (h1 : ¬ S hb) (h2 : ∀ g, v.ownBlock = some g → ¬ S g) : Hp w' hb k v d :=
  ⟨by rw [K.block hb h.lt h1]; exact h.blk, own_kp h.own K h2, h.ne⟩
theorem less73n {w : World} {g n cap : Nat} {d : Array Ht} (h : Own w (.slice (some ⟨g, 0, none⟩) n cap) d) (hs : d.size = n) {i j : Nat} (hi : i < n) (hj : j < n) :
    Calls Tryz.prog 210 #[.slice (some ⟨g, 0, none⟩) n cap, .int .i64 i, .int .i64 j] w fun e w' => e = .returned (.bool (hlt d[j]! d[i]!)) ∧ Gw w w' := by
  subst hs; exact less73 h hi hj
/-- The heap behind Swap. -/
theorem swap74n {w : World} {hb g n cap : Nat} {k : Int} {d : Array Ht} (h : Hp w hb k (.slice (some ⟨g, 0, none⟩) n cap) d) (hs : d.size = n) {i j : Nat} (hi : i < n) (hj : j < n) (hne : i ≠ j) :
    Calls Tryz.prog 211 #[.slice (some ⟨g, 0, none⟩) n cap, .int .i64 i, .int .i64 j] w fun e w' => e = .returned (.tuple #[]) ∧ Hp w' hb k (.slice (some ⟨g, 0, none⟩) n cap) (swp d i j) ∧ Kp (fun k => k = g) w w' := by
  subst hs
  refine (swap74 h.own hi hj hne).mono ?_
  rintro e w' ⟨rfl, ho, hk⟩
  refine ⟨rfl, ⟨?_, ho, h.ne⟩, hk⟩
  rw [hk.block hb h.lt (by have := h.ne; simp [Value.ownBlock] at this; omega)]
  exact h.blk

/-- What up and down leave: the same hits, a heap. -/
def Fixed (w w' : World) (hb g n cap : Nat) (k : Int) (d : Array Ht) : Prop :=
  ∃ d', d'.toList.Perm d.toList ∧ MaxH d' ∧ Hp w' hb k (.slice (some ⟨g, 0, none⟩) n cap) d' ∧ Kp (fun b => b = g) w w'

set_option maxHeartbeats 2000000 in
set_option maxRecDepth 100000 in
theorem up_c {w : World} {hb g n cap : Nat} {k : Int} {d : Array Ht} (h : Hp w hb k (.slice (some ⟨g, 0, none⟩) n cap) d) (hs : d.size = n) (hn : n ≤ 4000) (j : Nat) (hj : j < n) (hu : UpInv d j) :
    Calls Tryz.prog 137 #[.iface 158 (.pointer (some ⟨hb, 1, none⟩)), .int .i64 j] w fun e w' => e = .returned (.tuple #[]) ∧ Fixed w w' hb g n cap k d := by
  have H : Hid (Hp w hb k (.slice (some ⟨g, 0, none⟩) n cap) d ∧ UpInv d j ∧ d.size = n) := ⟨h, hu, hs⟩
  clear h hu hs
  go_enter Tryz.func137, Tryz.ntmps137
  go_wp2
  go_loopw [1] (fun iv w' => ∃ (q : Nat) (d' : Array Ht), iv = .int .i64 (q : Int) ∧ q < n ∧ Hid (d'.toList.Perm d.toList ∧ UpInv d' q ∧ Hp w' hb k (.slice (some ⟨g, 0, none⟩) n cap) d' ∧ Kp (fun b => b = g) w w')) (fun iv _ => (intOf iv).toNat)
  case atStart => exact ⟨j, d, rfl, hj, List.Perm.refl _, H.out.2.1, H.out.1, Kp.refl _ _⟩
  case round =>
    clear hj
    obtain ⟨q, d', rfl, hq, X⟩ := hrel
    have hcell : wr.cell? ⟨hb, 1, none⟩ = some (.slice (some ⟨g, 0, none⟩) n cap) := X.out.2.2.1.cell1
    have hs' : Hid (d'.size = n) := by have := X.out.1.length_eq; have := H.out.2.2; simp at *; unfold Hid; omega
    by_cases h0 : q = 0
    · subst h0
      go_wp2
      go_end0
      exact ⟨rfl, d', X.out.1, up_zero X.out.2.1, X.out.2.2.1, X.out.2.2.2⟩
    · have hq0 : (0 : Int) ≤ (q : Int) - 1 := by omega
      obtain ⟨p, hp⟩ : ∃ p : Nat, p = (q - 1) / 2 := ⟨_, rfl⟩
      have hp1 : ((q : Int) - 1) / 2 = (p : Int) := by omega
      have hpq : p ≠ q := by omega
      have hpn : p < n := by omega
      have P : Hid (p = (q - 1) / 2) := hp
      clear hp
      have hm := inv_less hb _ wr hcell
      have hl := less73n X.out.2.2.1.own hs'.out hq hpn
      obtain ⟨t, ht⟩ : ∃ t, t = hlt d'[p]! d'[q]! := ⟨_, rfl⟩
      rw [← ht] at hl
      have T : Hid (t = hlt d'[p]! d'[q]!) := ht
      clear ht
      cases t with
      | false =>
        go_wp2_with fail
        refine hl.mono ?_
        rintro e w1 ⟨rfl, g1⟩
        go_wp2
        go_end0
        have p1 := P.out
        refine ⟨rfl, d', X.out.1, up_stop X.out.2.1 (fun _ => by rw [← p1]; exact T.out.symm), X.out.2.2.1.gr g1.gr, X.out.2.2.2.trans (Kp.of_gr g1.gr)⟩
      | true =>
        go_wp2_with fail
        refine hl.mono ?_
        rintro e w1 ⟨rfl, g1⟩
        have H1 := X.out.2.2.1.gr g1.gr
        have hm1 := inv_swap hb _ w1 H1.cell1
        have hsw := swap74n H1 hs'.out hpn hq hpq
        have XX : Hid (Hp w1 hb k (.slice (some ⟨g, 0, none⟩) n cap) d') := H1
        clear H1 hm hl
        go_wp2_with fail
        refine hsw.mono ?_
        rintro e w2 ⟨rfl, h2, k2⟩
        have h2' : Hid (Hp w2 hb k (.slice (some ⟨g, 0, none⟩) n cap) (swp d' p q)) := h2
        clear h2 hsw hm1
        go_wp2
        go_roundw
        case rel =>
          have p1 := P.out
          have sz := hs'.out
          subst p1
          refine ⟨_, swp d' ((q - 1) / 2) q, rfl, hpn, ?_, ?_, h2'.out, (X.out.2.2.2.trans (Kp.of_gr g1.gr)).trans k2⟩
          · exact (swp_perm d' _ _ (by omega) (by omega)).trans X.out.1
          · exact up_step X.out.2.1 (by omega) (by omega) T.out.symm
        case measure => have := P.out; simp [intOf]; omega
end Go.Proofs.YtepjbdklljlecabGreat.Tk
