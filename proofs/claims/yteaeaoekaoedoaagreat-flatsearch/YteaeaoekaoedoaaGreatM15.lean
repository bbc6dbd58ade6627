/- Heaps as plain arrays: the worst stands in front. -/
import Derived.Test.YteaeaoekaoedoaaGreatTkRow
import Derived.Test.YteaeaoekaoedoaaGreatG13
namespace Go.Proofs.YteaeaoekaoedoaaGreat.Tk
open Go.RowKit Go.Sort

/-- No hit is behind the one above it. -/
def MaxH (d : Array Ht) : Prop := ∀ i, 0 < i → i < d.size → hlt d[(i - 1) / 2]! d[i]! = false
/-- .. but perhaps at j, towards the front. -/
def UpInv (d : Array Ht) (j : Nat) : Prop :=
  (∀ i, 0 < i → i < d.size → i ≠ j → hlt d[(i - 1) / 2]! d[i]! = false) ∧ ∀ c, 0 < c → c < d.size → (c - 1) / 2 = j → 0 < j → hlt d[(j - 1) / 2]! d[c]! = false
/-- .. but perhaps at i, towards the end. -/
def DownInv (d : Array Ht) (i : Nat) : Prop :=
  (∀ c, 0 < c → c < d.size → (c - 1) / 2 ≠ i → hlt d[(c - 1) / 2]! d[c]! = false) ∧ ∀ c, 0 < c → c < d.size → (c - 1) / 2 = i → 0 < i → hlt d[(i - 1) / 2]! d[c]! = false

theorem swp_perm (d : Array Ht) (i j : Nat) (hi : i < d.size) (hj : j < d.size) : (swp d i j).toList.Perm d.toList := by
  have h := (swp_permIn d 0 d.size i j (Nat.zero_le _) hi (Nat.zero_le _) hj (Nat.le_refl _)).2.2
  rw [show (swp d i j).extract 0 d.size = swp d i j by rw [← size_swp d i j, Array.extract_size], Array.extract_size] at h
  exact h

theorem maxh_root {d : Array Ht} (h : MaxH d) : ∀ i, i < d.size → hlt d[0]! d[i]! = false := by
  intro i
  induction i using Nat.strongRecOn with
  | _ i ih =>
    intro hi
    by_cases h0 : i = 0
    · subst h0; exact hlt_irrefl _
    · exact hlt_ntrans (ih ((i - 1) / 2) (by omega) (by omega)) (h i (by omega) hi)

theorem up_zero {d : Array Ht} (h : UpInv d 0) : MaxH d := fun i h0 h1 => h.1 i h0 h1 (by omega)
theorem up_stop {d : Array Ht} {j : Nat} (h : UpInv d j) (hn : 0 < j → hlt d[(j - 1) / 2]! d[j]! = false) : MaxH d := by
  intro i h0 h1
  by_cases e : i = j
  · subst e; exact hn h0
  · exact h.1 i h0 h1 e
theorem up_step {d : Array Ht} {j : Nat} (h : UpInv d j) (h0 : 0 < j) (hj : j < d.size) (hl : hlt d[(j - 1) / 2]! d[j]! = true) : UpInv (swp d ((j - 1) / 2) j) ((j - 1) / 2) := by
  have hi : (j - 1) / 2 < d.size := by omega
  have g := swp_get d hi hj
  constructor
  · intro c c0 c1 c2
    rw [size_swp] at c1
    rw [g, g]
    by_cases e1 : c = j
    · subst e1
      rw [if_neg (by omega), if_pos rfl, if_pos rfl]
      exact hlt_asymm hl
    · rw [if_neg e1, if_neg c2]
      by_cases e2 : (c - 1) / 2 = j
      · rw [if_pos e2]
        exact h.2 c c0 c1 e2 h0
      · rw [if_neg e2]
        by_cases e3 : (c - 1) / 2 = (j - 1) / 2
        · rw [if_pos e3]
          have := h.1 c c0 c1 e1
          rw [e3] at this
          exact hlt_ntrans (hlt_asymm hl) this
        · rw [if_neg e3]
          exact h.1 c c0 c1 e1
  · intro c c0 c1 c2 c3
    rw [size_swp] at c1
    rw [g, g, if_neg (by omega), if_neg (by omega)]
    by_cases e1 : c = j
    · subst e1
      rw [if_pos rfl]
      exact h.1 _ c3 hi (by omega)
    · rw [if_neg e1, if_neg (by omega)]
      have a := h.1 c c0 c1 e1
      rw [c2] at a
      exact hlt_ntrans (h.1 _ c3 hi (by omega)) a
theorem up_push {d : Array Ht} (h : MaxH d) (x : Ht) : UpInv (d.push x) d.size := by
  constructor
  · intro i h0 h1 h2
    rw [Array.size_push] at h1
    have := h i h0 (by omega)
    rw [getElem!_pos d _ (show (i - 1) / 2 < d.size by omega), getElem!_pos d _ (show i < d.size by omega)] at this
    rw [getElem!_pos (d.push x) _ (show (i - 1) / 2 < (d.push x).size by rw [Array.size_push]; omega), getElem!_pos (d.push x) _ (show i < (d.push x).size by rw [Array.size_push]; omega), Array.getElem_push_lt (by omega), Array.getElem_push_lt (by omega)]
    exact this
  · intro c h0 h1 h2 _
    rw [Array.size_push] at h1; omega

theorem down_stop0 {d : Array Ht} {i : Nat} (h : DownInv d i) (hn : d.size ≤ 2 * i + 1) : MaxH d := fun c c0 c1 => h.1 c c0 c1 (by omega)
/-- j is a child of i that no other child of i is ahead of. -/
def Child (d : Array Ht) (i j : Nat) : Prop := 0 < j ∧ j < d.size ∧ (j - 1) / 2 = i ∧ ∀ c, 0 < c → c < d.size → (c - 1) / 2 = i → hlt d[j]! d[c]! = false
theorem down_stop1 {d : Array Ht} {i j : Nat} (h : DownInv d i) (hc : Child d i j) (hn : hlt d[i]! d[j]! = false) : MaxH d := by
  intro c c0 c1
  by_cases e : (c - 1) / 2 = i
  · rw [e]; exact hlt_ntrans hn (hc.2.2.2 c c0 c1 e)
  · exact h.1 c c0 c1 e
theorem down_step {d : Array Ht} {i j : Nat} (h : DownInv d i) (hc : Child d i j) (hl : hlt d[i]! d[j]! = true) : DownInv (swp d i j) j := by
  obtain ⟨j0, j1, j2, j3⟩ := hc
  have hi : i < d.size := by omega
  have g := swp_get d hi j1
  constructor
  · intro c c0 c1 c2
    rw [size_swp] at c1
    rw [g, g, if_neg c2]
    by_cases e1 : (c - 1) / 2 = i
    · rw [if_pos e1]
      by_cases e2 : c = j
      · rw [if_pos e2]; exact hlt_asymm hl
      · rw [if_neg e2, if_neg (by omega)]
        exact j3 c c0 c1 e1
    · rw [if_neg e1]
      by_cases e2 : c = j
      · subst e2; omega
      · rw [if_neg e2]
        by_cases e3 : c = i
        · subst e3
          rw [if_pos rfl]
          exact h.2 j j0 j1 j2 c0
        · rw [if_neg e3]; exact h.1 c c0 c1 e1
  · intro c c0 c1 c2 _
    rw [size_swp] at c1
    rw [g, g, if_neg (by omega), if_pos j2, if_neg (by omega), if_neg (by omega)]
    have := h.1 c c0 c1 (by omega)
    rw [c2] at this
    exact this
theorem child_one {d : Array Ht} {i : Nat} (h1 : 2 * i + 1 < d.size) (h2 : d.size ≤ 2 * i + 2) : Child d i (2 * i + 1) :=
  ⟨by omega, h1, by omega, fun c _ c1 c2 => by obtain rfl : c = 2 * i + 1 := by omega
                                               exact hlt_irrefl _⟩
theorem child_l {d : Array Ht} {i : Nat} (h2 : 2 * i + 2 < d.size) (hl : hlt d[2 * i + 1]! d[2 * i + 2]! = false) : Child d i (2 * i + 1) :=
  ⟨by omega, by omega, by omega, fun c _ c1 c2 => by
    have : c = 2 * i + 1 ∨ c = 2 * i + 2 := by omega
    rcases this with rfl | rfl
    · exact hlt_irrefl _
    · exact hl⟩
theorem child_r {d : Array Ht} {i : Nat} (h2 : 2 * i + 2 < d.size) (hl : hlt d[2 * i + 1]! d[2 * i + 2]! = true) : Child d i (2 * i + 2) :=
  ⟨by omega, by omega, by omega, fun c _ c1 c2 => by
    have : c = 2 * i + 1 ∨ c = 2 * i + 2 := by omega
    rcases this with rfl | rfl
    · exact hlt_asymm hl
    · exact hlt_irrefl _⟩
theorem down_set {d : Array Ht} (h : MaxH d) (x : Ht) : DownInv (d.setIfInBounds 0 x) 0 := by
  constructor
  · intro c c0 c1 c2
    rw [Array.size_setIfInBounds] at c1
    rw [getElem!_set_other d 0 _ x c2, getElem!_set_other d 0 _ x (by omega)]
    exact h c c0 c1
  · intro c _ _ _ h0; exact absurd h0 (Nat.lt_irrefl _)
end Go.Proofs.YteaeaoekaoedoaaGreat.Tk

/- container/heap's up. -/
namespace Go.Proofs.YteaeaoekaoedoaaGreat.Tk
open Go.RowKit Go.Sort
attribute [local go_sem ↓] Go.wp_at_zero Go.wp_at_succ

theorem Hp.kp {S : Nat → Prop} {w w' : World} {hb : Nat} {k : Int} {v : Value} {d : Array Ht} (h : Hp w hb k v d) (K : Kp S w w') (h1 : ¬ S hb) (h2 : ∀ g, v.ownBlock = some g → ¬ S g) : Hp w' hb k v d :=
  ⟨by rw [K.block hb h.lt h1]; exact h.blk, own_kp h.own K h2, h.ne⟩
theorem less73n {w : World} {g n cap : Nat} {d : Array Ht} (h : Own w (.slice (some ⟨g, 0, none⟩) n cap) d) (hs : d.size = n) {i j : Nat} (hi : i < n) (hj : j < n) :
    Calls Tryz.prog 153 #[.slice (some ⟨g, 0, none⟩) n cap, .int .i64 i, .int .i64 j] w fun e w' => e = .returned (.bool (hlt d[j]! d[i]!)) ∧ Gw w w' := by
  subst hs; exact less73 h hi hj
/-- The heap behind Swap. -/
theorem swap74n {w : World} {hb g n cap : Nat} {k : Int} {d : Array Ht} (h : Hp w hb k (.slice (some ⟨g, 0, none⟩) n cap) d) (hs : d.size = n) {i j : Nat} (hi : i < n) (hj : j < n) (hne : i ≠ j) :
    Calls Tryz.prog 154 #[.slice (some ⟨g, 0, none⟩) n cap, .int .i64 i, .int .i64 j] w fun e w' => e = .returned (.tuple #[]) ∧ Hp w' hb k (.slice (some ⟨g, 0, none⟩) n cap) (swp d i j) ∧ Kp (fun k => k = g) w w' := by
  subst hs
  refine (swap74 h.own hi hj hne).mono ?_
  rintro e w' ⟨rfl, ho, hk⟩
  refine ⟨rfl, ⟨?_, ho, h.ne⟩, hk⟩
  rw [hk.block hb h.lt (by have := h.ne; simp [Value.ownBlock] at this; omega)]
  exact h.blk

/-- What up and down leave: the same hits, a heap. -/
def Fixed (w w' : World) (hb g n cap : Nat) (k : Int) (d : Array Ht) : Prop :=
  ∃ d', d'.toList.Perm d.toList ∧ MaxH d' ∧ Hp w' hb k (.slice (some ⟨g, 0, none⟩) n cap) d' ∧ Kp (fun b => b = g) w w'

set_option maxHeartbeats 2000000 in
set_option maxRecDepth 100000 in
theorem up_c {w : World} {hb g n cap : Nat} {k : Int} {d : Array Ht} (h : Hp w hb k (.slice (some ⟨g, 0, none⟩) n cap) d) (hs : d.size = n) (hn : n ≤ 4000) (j : Nat) (hj : j < n) (hu : UpInv d j) :
    Calls Tryz.prog 97 #[.iface 115 (.pointer (some ⟨hb, 1, none⟩)), .int .i64 j] w fun e w' => e = .returned (.tuple #[]) ∧ Fixed w w' hb g n cap k d := by
  have H : Hid (Hp w hb k (.slice (some ⟨g, 0, none⟩) n cap) d ∧ UpInv d j ∧ d.size = n) := ⟨h, hu, hs⟩
  clear h hu hs
  go_enter Tryz.func97, Tryz.ntmps97
  go_wp2
  go_loopw [1] (fun iv w' => ∃ (q : Nat) (d' : Array Ht), iv = .int .i64 (q : Int) ∧ q < n ∧ Hid (d'.toList.Perm d.toList ∧ UpInv d' q ∧ Hp w' hb k (.slice (some ⟨g, 0, none⟩) n cap) d' ∧ Kp (fun b => b = g) w w')) (fun iv _ => (intOf iv).toNat)
  case atStart => exact ⟨j, d, rfl, hj, List.Perm.refl _, H.out.2.1, H.out.1, Kp.refl _ _⟩
  case round =>
    clear hj
    obtain ⟨q, d', rfl, hq, X⟩ := hrel
    have hcell : wr.cell? ⟨hb, 1, none⟩ = some (.slice (some ⟨g, 0, none⟩) n cap) := X.out.2.2.1.cell1
    have hs' : Hid (d'.size = n) := by have := X.out.1.length_eq; have := H.out.2.2; simp at *; unfold Hid; omega
    by_cases h0 : q = 0
    · subst h0
      go_wp2
      go_end0
      exact ⟨rfl, d', X.out.1, up_zero X.out.2.1, X.out.2.2.1, X.out.2.2.2⟩
    · have hq0 : (0 : Int) ≤ (q : Int) - 1 := by omega
      obtain ⟨p, hp⟩ : ∃ p : Nat, p = (q - 1) / 2 := ⟨_, rfl⟩
      have hp1 : ((q : Int) - 1) / 2 = (p : Int) := by omega
      have hpq : p ≠ q := by omega
      have hpn : p < n := by omega
      have P : Hid (p = (q - 1) / 2) := hp
      clear hp
      have hm := inv_less hb _ wr hcell
      have hl := less73n X.out.2.2.1.own hs'.out hq hpn
      obtain ⟨t, ht⟩ : ∃ t, t = hlt d'[p]! d'[q]! := ⟨_, rfl⟩
      rw [← ht] at hl
      have T : Hid (t = hlt d'[p]! d'[q]!) := ht
      clear ht
      cases t with
      | false =>
        go_wp2_with fail
        refine hl.mono ?_
        rintro e w1 ⟨rfl, g1⟩
        go_wp2
        go_end0
        have p1 := P.out
        refine ⟨rfl, d', X.out.1, up_stop X.out.2.1 (fun _ => by rw [← p1]; exact T.out.symm), X.out.2.2.1.gr g1.gr, X.out.2.2.2.trans (Kp.of_gr g1.gr)⟩
      | true =>
        go_wp2_with fail
        refine hl.mono ?_
        rintro e w1 ⟨rfl, g1⟩
        have H1 := X.out.2.2.1.gr g1.gr
        have hm1 := inv_swap hb _ w1 H1.cell1
        have hsw := swap74n H1 hs'.out hpn hq hpq
        have XX : Hid (Hp w1 hb k (.slice (some ⟨g, 0, none⟩) n cap) d') := H1
        clear H1 hm hl
        go_wp2_with fail
        refine hsw.mono ?_
        rintro e w2 ⟨rfl, h2, k2⟩
        have h2' : Hid (Hp w2 hb k (.slice (some ⟨g, 0, none⟩) n cap) (swp d' p q)) := h2
        clear h2 hsw hm1
        go_wp2
        go_roundw
        case rel =>
          have p1 := P.out
          have sz := hs'.out
          subst p1
          refine ⟨_, swp d' ((q - 1) / 2) q, rfl, hpn, ?_, ?_, h2'.out, (X.out.2.2.2.trans (Kp.of_gr g1.gr)).trans k2⟩
          · exact (swp_perm d' _ _ (by omega) (by omega)).trans X.out.1
          · exact up_step X.out.2.1 (by omega) (by omega) T.out.symm
        case measure => have := P.out; simp [intOf]; omega
end Go.Proofs.YteaeaoekaoedoaaGreat.Tk
