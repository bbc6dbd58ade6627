import Derived.Test.YtdmdjmliggjbjaaGreatCt9
import Derived.Test.YtdmdjmliggjbjaaGreatCt4
import Derived.Deep.RegionHeld3
import Derived.Test.YtdmdjmliggjbjaaGreatCt6
import Derived.Laws.AppendOwnNone
/- theodoliteref03.Far. -/
namespace Go.Proofs.YtdmdjmliggjbjaaGreat
open Go.RowKit

theorem set2_far' {W : World} {b : Nat} {p : Addr} {v : Value} (hb : b ≠ p.block) (h : W.cell? p = some v) (x y : Value) : ((W.setCell ⟨b, 0, none⟩ x).setCell ⟨b, 1, none⟩ y).cell? p = some v := by
  rw [World.cell?_setCell_far _ _ _ _ hb, World.cell?_setCell_far _ _ _ _ hb]; exact h
theorem two_set {W : World} {b b1 b2 o1 o2 : Nat} {v0 v1 : Value} (h1 : b ≠ b1) (h2 : b ≠ b2) (h : W.cell? ⟨b1, o1, none⟩ = some v0 ∧ W.cell? ⟨b2, o2, none⟩ = some v1) (x y : Value) :
    ((W.setCell ⟨b, 0, none⟩ x).setCell ⟨b, 1, none⟩ y).cell? ⟨b1, o1, none⟩ = some v0 ∧ ((W.setCell ⟨b, 0, none⟩ x).setCell ⟨b, 1, none⟩ y).cell? ⟨b2, o2, none⟩ = some v1 := ⟨set2_far' h1 h.1 x y, set2_far' h2 h.2 x y⟩
theorem gap_nat (x y : Int) : (x - y).natAbs = gap x x y := by unfold gap; split <;> (try split) <;> omega

set_option maxHeartbeats 8000000 in
set_option maxRecDepth 100000 in
theorem far_c {w : World} {u v : Value} {a b : List Int} (hu : RdI w u a) (hv : RdI w v b) (hab : a.length = b.length) (hn : a.length ≤ 64) (ha : allR a = true) (hb : allR b = true) :
    Calls Tryz.prog 71 #[u, v] w fun e w' => e = .returned (Wd (dst a b)) ∧ Gr w w' := by
  obtain ⟨pa, ca, rfl, hu⟩ := hu
  obtain ⟨pb, cb, rfl, hv⟩ := hv
  have A : Hid (∀ i, i < a.length → ∃ b o, pa = some ⟨b, o, none⟩ ∧ w.cell? ⟨b, o + i, none⟩ = some (.int .i64 a[i]!)) := hu
  have B : Hid (∀ i, i < b.length → ∃ b' o, pb = some ⟨b', o, none⟩ ∧ w.cell? ⟨b', o + i, none⟩ = some (.int .i64 b[i]!)) := hv
  have H : Hid (a.length = b.length ∧ allR a = true ∧ allR b = true) := ⟨hab, ha, hb⟩
  rw [← hab]
  obtain ⟨n, hN⟩ : ∃ n, n = a.length := ⟨_, rfl⟩
  have N : Hid (n = a.length) := hN
  rw [← hN] at hn ⊢
  clear hu hv hab ha hb hN
  have S0 : At2 ((w.alloc (.cells #[.int .u64 0, .int .u64 0] 41)).alloc (.cells #[.int .u64 0, .int .u64 0] 41)) (w.heap.size + 1) 0 := by
    have := At2.new (w.alloc (.cells #[.int .u64 0, .int .u64 0] 41)) 0 41
    rw [World.size_alloc] at this
    exact this
  have G0 : Gr (w.alloc (.cells #[.int .u64 0, .int .u64 0] 41)) ((w.alloc (.cells #[.int .u64 0, .int .u64 0] 41)).alloc (.cells #[.int .u64 0, .int .u64 0] 41)) := (Gr.refl _).alloc _ _
  go_enter Tryz.func71, Tryz.ntmps71
  go_wp2
  go_loopw [6] (fun iv w' => ∃ q s : Nat, iv = .int .i64 (q : Int) ∧ q ≤ n ∧ Hid (s = dstN a b q) ∧ Gr (w.alloc (.cells #[.int .u64 0, .int .u64 0] 41)) w' ∧ At2 w' (w.heap.size + 1) s) (fun iv _ => n - (intOf iv).toNat)
  case atStart => exact ⟨0, 0, rfl, Nat.zero_le _, rfl, G0, S0⟩
  case round =>
    clear S0 G0
    obtain ⟨q, s, rfl, hq, X, hG, hS⟩ := hrel
    by_cases hqn : q < n
    · have hqi : (q : Int) < (n : Int) := by omega
      have hqa : q < a.length := by have := N.out; omega
      have hqb : q < b.length := by have := H.out.1; omega
      obtain ⟨b1, o1, ea, h1⟩ := A.out q hqa
      obtain ⟨b2, o2, eb, h2⟩ := B.out q hqb
      subst ea; subst eb
      have G1 : Gr w wr := ((Gr.refl _).alloc _ _).trans hG
      have x0 := G1.keeps h1
      have y0 := G1.keeps h2
      have hb1 : w.heap.size + 1 ≠ b1 := by have := cell_lt h1; dsimp only at this; omega
      have hb2 : w.heap.size + 1 ≠ b2 := by have := cell_lt h2; dsimp only at this; omega
      have hx := allR_get H.out.2.1 hqa
      have hy := allR_get H.out.2.2 hqb
      have hs0 : s ≤ q * 18446744056529682436 := by rw [X.out]; exact dstN_le H.out.2.1 H.out.2.2 H.out.1 q (by omega)
      have Y : Hid (dstN a b (q + 1) = dstN a b q + gap a[q]! a[q]! b[q]! * gap a[q]! a[q]! b[q]!) := rfl
      generalize a[q]! = x at *
      generalize b[q]! = y at *
      have hg := gap_le x x y hx hx hy
      have hgs : s + gap x x y * gap x x y < 340282366920938463463374607431768211456 := by have := sq_small _ hg; omega
      have Z : Hid (s + gap x x y * gap x x y = dstN a b (q + 1)) := by unfold Hid; rw [Y.out, X.out]
      obtain ⟨dd, hdd⟩ : ∃ dd, dd = x - y := ⟨_, rfl⟩
      have hw : IntKind.i64.wrap (x - y) = dd := by rw [IntKind.wrap_i64]; omega
      have c60 := fun W => square_c dd (gap x x y) (by rw [hdd]; exact gap_nat x y) hg W
      have c59 := fun W => rsum_c s (gap x x y * gap x x y) hgs W
      obtain ⟨s0, s1, s2, s3⟩ := hS
      clear h1 h2 hx hy hs0 Y X hg hgs hqa hqb G1 hdd
      generalize s + gap x x y * gap x x y = t at *
      generalize gap x x y * gap x x y = g at *
      go_wp2
      have hS0 : wr.cell? ⟨b1, o1 + q, none⟩ = some (.int .i64 x) ∧ wr.cell? ⟨b2, o2 + q, none⟩ = some (.int .i64 y) := ⟨x0, y0⟩
      refine wp_region_held_drew (S := fun w' => w'.cell? ⟨b1, o1 + q, none⟩ = some (.int .i64 x) ∧ w'.cell? ⟨b2, o2 + q, none⟩ = some (.int .i64 y)) (by kernel_rfl) hS0 (fun hHeld => ?_)
      clear hS0
      refine wpAnyH_take (i := 1) (v := ?_) rfl (by kernel_rfl) (by kernel_rfl) (by kernel_rfl) (fun _ _ _ h => h) (Or.inl ⟨by rfl, ?_⟩) (by assumption) ?_
      rotate_left 1
      · (intro w hSw; (try dsimp only at hSw); go_simp; try with_reducible rfl)
      try simp only [Act.put, List.setIfInBounds_toArray]
      refine wpAnyH_take (i := 2) (v := ?_) rfl (by kernel_rfl) (by kernel_rfl) (by kernel_rfl) (fun _ _ _ h => h) (Or.inl ⟨by rfl, ?_⟩) (by assumption) ?_
      rotate_left 1
      · (intro w hSw; (try dsimp only at hSw); go_simp; try with_reducible rfl)
      try simp only [Act.put]
      refine wpAnyH_take (i := 3) (v := ?_) rfl (by kernel_rfl) (by kernel_rfl) (by kernel_rfl) (fun _ _ _ h => h) (Or.inl ⟨by rfl, ?_⟩) (by assumption) ?_
      rotate_left 1
      · (intro w hSw; (try dsimp only at hSw); go_simp; try with_reducible rfl)
      try simp only [Act.put]
      refine wpAnyH_take (i := 4) (v := ?_) rfl (by kernel_rfl) (by kernel_rfl) (by kernel_rfl) (fun _ _ _ h => h) (Or.inl ⟨by rfl, ?_⟩) (by assumption) ?_
      rotate_left 1
      · (intro w hSw; (try dsimp only at hSw); go_simp; try with_reducible rfl)
      try simp only [Act.put]
      refine wpAnyH_take (i := 5) (v := ?_) rfl (by kernel_rfl) (by kernel_rfl) (by kernel_rfl) (fun _ _ _ h => h) (Or.inl ⟨by rfl, ?_⟩) (by assumption) ?_
      rotate_left 1
      · (intro w hSw; (try dsimp only at hSw); go_simp; try with_reducible rfl)
      try simp only [Act.put]
      refine wpAnyH_take (i := 6) (v := ?_) rfl (by kernel_rfl) (by kernel_rfl) (by kernel_rfl) (fun _ _ _ h => h) (Or.inl ⟨by rfl, ?_⟩) (by assumption) ?_
      rotate_left 1
      · (intro w hSw; (try dsimp only at hSw); go_simp; try with_reducible rfl)
      try simp only [Act.put]
      refine wpAnyH_take (i := 7) (v := ?_) rfl (by kernel_rfl) (by kernel_rfl) (by kernel_rfl) (fun _ _ _ h => h) (Or.inl ⟨by rfl, ?_⟩) (by assumption) ?_
      rotate_left 1
      · (intro w hSw; (try dsimp only at hSw); go_simp; try with_reducible rfl)
      try simp only [Act.put]
      refine wpAnyH_take (i := 8) (v := ?_) rfl (by kernel_rfl) (by kernel_rfl) (by kernel_rfl) (fun _ _ _ h => h) (Or.inl ⟨by rfl, ?_⟩) (by assumption) ?_
      rotate_left 1
      · (intro w hSw; (try dsimp only at hSw); go_simp; try with_reducible rfl)
      try simp only [Act.put]
      refine wpAnyH_take (i := 9) (v := ?_) rfl (by kernel_rfl) (by kernel_rfl) (by kernel_rfl) (fun _ _ _ h => h) (Or.inl ⟨by rfl, ?_⟩) (by assumption) ?_
      rotate_left 1
      · (intro w hSw; (try dsimp only at hSw); go_simp; try with_reducible rfl)
      try simp only [Act.put]
      refine wpAnyH_ready (rs := [0, 10]) (by kernel_rfl) (by simp) ?_
      refine AllReadyH.cons rfl (fun K hK => ?_) (AllReadyH.cons rfl (fun K hK => ?_) (AllReadyH.nil))
      · go_simp
        refine hK.out _ _ hHeld (fun hHeld => ?_)
        clear hK K
        try simp only [Act.put, List.setIfInBounds_toArray, List.set_cons_zero, List.set_cons_succ]
        refine wpAnyH_ready (rs := [10]) (by kernel_rfl) (by simp) ?_
        refine AllReadyH.cons rfl (fun K hK => ?_) (AllReadyH.nil)
        go_simp
        go_at_call 76
        refine (c60 _).mono ?_
        rintro e w1 ⟨rfl, g1⟩
        have s0 := g1.keeps s0
        have s1 := g1.keeps s1
        have s2 := (g1.froz _).trans s2
        have s3 := (g1.froz _).trans s3
        refine hK.out _ _ (call_keeps2 g1 hHeld) (fun hHeld => ?_)
        clear hK K
        try simp only [Act.put, List.setIfInBounds_toArray, List.set_cons_zero, List.set_cons_succ]
        refine wpAnyH_ready (rs := [11]) (by kernel_rfl) (by simp) ?_
        refine AllReadyH.cons rfl (fun K hK => ?_) (AllReadyH.nil)
        go_simp
        go_at_call 75
        refine (c59 _).mono ?_
        rintro e w3 ⟨rfl, g3⟩
        have s0 := g3.keeps s0
        have s1 := g3.keeps s1
        have s2 := (g3.froz _).trans s2
        have s3 := (g3.froz _).trans s3
        refine hK.out _ _ (call_keeps2 g3 hHeld) (fun hHeld => ?_)
        clear hK K
        try simp only [Act.put, List.setIfInBounds_toArray, List.set_cons_zero, List.set_cons_succ]
        refine wpAnyH_ready (rs := [12]) (by kernel_rfl) (by simp) ?_
        refine AllReadyH.cons rfl (fun K hK => ?_) (AllReadyH.nil)
        go_simp
        refine hK.out _ _ (two_set hb1 hb2 hHeld _ _) (fun hHeld => ?_)
        clear hK K
        try simp only [Act.put, List.setIfInBounds_toArray, List.set_cons_zero, List.set_cons_succ]
        refine wpAnyH_done (by kernel_rfl) ?_ _
        have hG3 := (hG.drew.trans g1).trans g3
        have hS3 : At2 w3 (w.heap.size + 1) s := ⟨s0, s1, s2, s3⟩
        clear c59 c60 x0 y0 s0 s1 s2 s3 g1 g3 hG hHeld
        go_wp2
        exact ⟨⟨q + 1, t, by go_num, hqn, Z, (hG3.setCell (by simp) _).setCell (by simp) _, hS3.set t⟩, by simp [intOf]; omega⟩
      · go_simp
        go_at_call 76
        refine (c60 _).mono ?_
        rintro e w1 ⟨rfl, g1⟩
        have s0 := g1.keeps s0
        have s1 := g1.keeps s1
        have s2 := (g1.froz _).trans s2
        have s3 := (g1.froz _).trans s3
        refine hK.out _ _ (call_keeps2 g1 hHeld) (fun hHeld => ?_)
        clear hK K
        try simp only [Act.put, List.setIfInBounds_toArray, List.set_cons_zero, List.set_cons_succ]
        refine wpAnyH_ready (rs := [0]) (by kernel_rfl) (by simp) ?_
        refine AllReadyH.cons rfl (fun K hK => ?_) (AllReadyH.nil)
        go_simp
        refine hK.out _ _ hHeld (fun hHeld => ?_)
        clear hK K
        try simp only [Act.put, List.setIfInBounds_toArray, List.set_cons_zero, List.set_cons_succ]
        refine wpAnyH_ready (rs := [11]) (by kernel_rfl) (by simp) ?_
        refine AllReadyH.cons rfl (fun K hK => ?_) (AllReadyH.nil)
        go_simp
        go_at_call 75
        refine (c59 _).mono ?_
        rintro e w3 ⟨rfl, g3⟩
        have s0 := g3.keeps s0
        have s1 := g3.keeps s1
        have s2 := (g3.froz _).trans s2
        have s3 := (g3.froz _).trans s3
        refine hK.out _ _ (call_keeps2 g3 hHeld) (fun hHeld => ?_)
        clear hK K
        try simp only [Act.put, List.setIfInBounds_toArray, List.set_cons_zero, List.set_cons_succ]
        refine wpAnyH_ready (rs := [12]) (by kernel_rfl) (by simp) ?_
        refine AllReadyH.cons rfl (fun K hK => ?_) (AllReadyH.nil)
        go_simp
        refine hK.out _ _ (two_set hb1 hb2 hHeld _ _) (fun hHeld => ?_)
        clear hK K
        try simp only [Act.put, List.setIfInBounds_toArray, List.set_cons_zero, List.set_cons_succ]
        refine wpAnyH_done (by kernel_rfl) ?_ _
        have hG3 := (hG.drew.trans g1).trans g3
        have hS3 : At2 w3 (w.heap.size + 1) s := ⟨s0, s1, s2, s3⟩
        clear c59 c60 x0 y0 s0 s1 s2 s3 g1 g3 hG hHeld
        go_wp2
        exact ⟨⟨q + 1, t, by go_num, hqn, Z, (hG3.setCell (by simp) _).setCell (by simp) _, hS3.set t⟩, by simp [intOf]; omega⟩
    · have hqi : ¬ (q : Int) < (n : Int) := by omega
      have E : Hid (s = dst a b) := by
        have h1 := X.out
        have h2 : q = a.length := by have := N.out; omega
        rw [h2] at h1; exact h1
      obtain ⟨s0, s1, s2, s3⟩ := hS
      obtain ⟨v0, v1, v2, v3⟩ := hG.var2
      go_wp2
      exact bodyPost_ret (v := Wd s) (by simp [results, Tryz.results71, go_sem, v0, v1]) rfl ⟨by rw [E.out], by repeat (first | exact ((Gr.refl _).alloc _ _).trans hG | refine Gr.setCell ?_ (by simp) _)⟩
end Go.Proofs.YtdmdjmliggjbjaaGreat

/- The reference's With: a rising list with one more. -/
namespace Go.Proofs.YtdmdjmliggjbjaaGreat
open Go.RowKit Go.Sort Go.Maps

def SrtI (l : List Int) : Prop := l.Pairwise fun x y => x ≤ y
theorem srt_perm (l : List Int) : (srt l).Perm l := List.mergeSort_perm l _
theorem srt_srtI (l : List Int) : SrtI (srt l) := by
  have h := List.pairwise_mergeSort (le := fun x y : Int => decide (x ≤ y)) (fun a b c h1 h2 => by
    simp only [decide_eq_true_eq] at *; omega) (fun a b => by
    by_cases h : a ≤ b
    · simp [h]
    · have : b ≤ a := by omega
      simp [this]) l
  exact h.imp (fun h => by simpa using h)
theorem srtI_unique : ∀ (l l' : List Int), SrtI l → SrtI l' → l.Perm l' → l = l'
  | [], l', _, _, p => (List.Perm.nil_eq p)
  | a :: r, [], _, _, p => absurd p.length_eq (by simp)
  | a :: r, b :: r', h, h', p => by
    have hb : b ∈ a :: r := p.symm.subset List.mem_cons_self
    have ha : a ∈ b :: r' := p.subset List.mem_cons_self
    have e : a = b := by
      rcases List.mem_cons.1 hb with e | hb
      · exact e.symm
      rcases List.mem_cons.1 ha with e | ha
      · exact e
      have h1 := List.rel_of_pairwise_cons h hb
      have h2 := List.rel_of_pairwise_cons h' ha
      omega
    subst e
    rw [srtI_unique r r' (List.Pairwise.of_cons h) (List.Pairwise.of_cons h') (List.Perm.cons_inv p)]
def insI (x : Int) : List Int → List Int
  | [] => [x]
  | y :: r => if y < x then y :: insI x r else x :: y :: r
theorem insI_perm (x : Int) : ∀ l, (insI x l).Perm (x :: l)
  | [] => List.Perm.refl _
  | y :: r => by
    unfold insI
    split
    · exact ((insI_perm x r).cons y).trans (List.Perm.swap x y r)
    · exact List.Perm.refl _
theorem insI_len (x : Int) (l : List Int) : (insI x l).length = l.length + 1 := by rw [(insI_perm x l).length_eq]; rfl
theorem insI_srtI (x : Int) : ∀ l, SrtI l → SrtI (insI x l)
  | [], _ => List.pairwise_singleton _ _
  | y :: r, h => by
    unfold insI
    split
    · rename_i hx
      refine List.Pairwise.cons ?_ (insI_srtI x r (List.Pairwise.of_cons h))
      intro z hz
      rcases List.mem_cons.1 ((insI_perm x r).subset hz) with rfl | hz
      · omega
      · exact List.rel_of_pairwise_cons h hz
    · rename_i hx
      refine List.Pairwise.cons ?_ h
      intro z hz
      rcases List.mem_cons.1 hz with rfl | hz
      · omega
      · have := List.rel_of_pairwise_cons h hz; omega
theorem srt_snocI (l : List Int) (x : Int) : srt (l ++ [x]) = insI x (srt l) := by
  refine srtI_unique _ _ (srt_srtI _) (insI_srtI x _ (srt_srtI l)) ?_
  refine (srt_perm _).trans (List.Perm.trans ?_ (insI_perm x _).symm)
  exact (List.perm_append_singleton x l).trans ((srt_perm l).symm.cons x)
theorem insI_at (x : Int) : ∀ (l : List Int) (q : Nat), (∀ i, i < q → l[i]! < x) → q ≤ l.length → (q < l.length → ¬ l[q]! < x) → insI x l = l.take q ++ [x] ++ l.drop q
  | [], q, _, hq, _ => by
    obtain rfl : q = 0 := by simpa using hq
    rfl
  | y :: r, 0, _, _, h => by
    have := h (by simp)
    simp only [List.getElem!_cons_zero] at this
    unfold insI
    rw [if_neg this]; rfl
  | y :: r, q + 1, h1, h2, h3 => by
    have h0 := h1 0 (by omega)
    simp only [List.getElem!_cons_zero] at h0
    unfold insI
    rw [if_pos h0, insI_at x r q (fun i hi => by have := h1 (i + 1) (by omega); simpa using this) (by simpa using h2) (fun hq => by have := h3 (by simpa using hq); simpa using this)]
    rfl
theorem news_take {w : World} {g cap : Nat} {l : List Int} (h : RdI w (.slice (some ⟨g, 0, none⟩) l.length cap) l) (q : Nat) : ∀ j u, ((l.take q).map (Value.int .i64))[j]? = some u → w.cell? ((⟨g, 0, none⟩ : Addr).add j) = some u := by
  intro j u hj
  rw [List.getElem?_map] at hj
  obtain ⟨y, hy, rfl⟩ := Option.map_eq_some_iff.1 hj
  obtain ⟨hjl, hy⟩ := List.getElem?_eq_some_iff.1 hy
  obtain ⟨a', c', e, ha⟩ := h
  cases e
  have hj' : j < l.length := by rw [List.length_take] at hjl; omega
  obtain ⟨b', o', e, hc⟩ := ha j hj'
  cases e
  rw [Addr.add_lit, hc, getElem!_pos l j hj', ← hy]; simp
theorem news_drop {w : World} {g cap : Nat} {l : List Int} (h : RdI w (.slice (some ⟨g, 0, none⟩) l.length cap) l) (q : Nat) : ∀ j u, ((l.drop q).map (Value.int .i64))[j]? = some u → w.cell? ((⟨g, q, none⟩ : Addr).add j) = some u := by
  intro j u hj
  rw [List.getElem?_map] at hj
  obtain ⟨y, hy, rfl⟩ := Option.map_eq_some_iff.1 hj
  obtain ⟨hjl, hy⟩ := List.getElem?_eq_some_iff.1 hy
  obtain ⟨a', c', e, ha⟩ := h
  cases e
  have hj' : q + j < l.length := by rw [List.length_drop] at hjl; omega
  obtain ⟨b', o', e, hc⟩ := ha (q + j) hj'
  cases e
  rw [Nat.zero_add] at hc
  rw [Addr.add_lit, hc, getElem!_pos l (q + j) hj', ← hy]; simp

theorem rwith_gb {w W w1 w2 : World} {o : Obj} {v1 : Value} {n : Nat} {xs : List Value} (G : Gb w W) (h1 : W.grownBy w1 (Value.ownBlock (.slice none 0 0))) (ho : w1.ownsRow w.heap.size 3 1 v1 n xs) (h2 : (w1.alloc o).grownBy w2 v1.ownBlock) : Gb w w2 := by
  have g1 : Gb w w1 := below_grown G h1 (fun k e => by cases e) G.size
  exact below_grown (gb_alloc g1 o) h2 (fun k e => (ho.lt k e).1) (gb_alloc g1 o).size
theorem rwith_fin {w w2 w3 : World} {v2 v3 : Value} {n m q : Nat} {xs : List Value} {x : Int} {l : List Int} (G : Gb w w2) (h3 : w3.ownsRow w.heap.size 3 1 v3 (n + m) ([] ++ (l.take q).map (Value.int .i64) ++ [.int .i64 x] ++ (l.drop q).map (Value.int .i64)))
    (h2 : w2.ownsRow w.heap.size 3 1 v2 n xs) (hg : w2.grownBy w3 v2.ownBlock) (hi : insI x l = l.take q ++ [x] ++ l.drop q) (hs : n + m = l.length + 1) : Own w3 w.heap.size v3 (insI x l) ∧ Gb w w3 := by
  refine ⟨?_, below_grown G hg (fun k e => (h2.lt k e).1) G.size⟩
  unfold Own
  rw [insI_len, ← hs, hi]
  simpa using h3

set_option maxHeartbeats 4000000 in
set_option maxRecDepth 100000 in
theorem rwith_c {w : World} {B : Nat} {v : Value} {l : List Int} (h : Own w B v l) (hn : l.length ≤ 200000) (x : Int) :
    Calls Tryz.prog 31 #[v, .int .i64 x] w fun e w' => ∃ v', e = .returned v' ∧ Own w' w.heap.size v' (insI x l) ∧ Gb w w' := by
  obtain ⟨i0, hi, hz0, hz1, hz2⟩ := info_parts Tryz.info3
  have II : Hid (Tryz.prog.info? 3 = some i0 ∧ i0.zero = some (.int .i64 0) ∧ i0.size = 1 ∧ i0.bytes = 8) := ⟨hi, hz0, hz1, hz2⟩
  clear hi hz0 hz1 hz2
  rcases h.2 with ⟨rfl, h0⟩ | ⟨g, cap, cur, rfl, _, _, hnc, _⟩
  · have D : Hid (l = []) := List.eq_nil_of_length_eq_zero h0
    clear h h0 hn
    go_enter Tryz.func31, Tryz.ntmps31
    go_wp2
    refine wp_loop_rounds 1 ?_
    rw [rounds_succ]
    go_wp2_with (first
      | (at_builtin; refine wpList_append_own _ rfl _ _ 23 rfl w.heap.size 3 i0 (.int .i64 0) 1 8 Tryz.underlying23 II.out.1 II.out.2.1 II.out.2.2.1 II.out.2.2.2 rfl (by decide) (.slice none 0 0) 0 [] rfl (World.ownsRow_nil _ _ _ _) ⟨w.heap.size, 0, none⟩ 1 1 [.int .i64 x] rfl rfl (cell_one_new _ _ _) (by simp [Value.oneCell']) (by decide) (by omega) (by rw [World.size_alloc]; omega) ?_; intro v1 w1 ho1 hg1 _)
      | (at_builtin; refine wpList_append_own_none rfl _ _ 23 rfl w.heap.size 3 i0 1 Tryz.underlying23 II.out.1 v1 _ _ rfl ho1 rfl ?_))
    go_ret
    refine ⟨v1, rfl, ?_, ?_⟩
    · rw [D.out]; exact ho1
    · exact below_grown (gb_alloc (Below.refl _ _) _) hg1 (fun k e => by cases e) (by simp)
  · have LL : Hid (RdI w (.slice (some ⟨g, 0, none⟩) l.length cap) l) := h.rd
    obtain ⟨n, hN⟩ : ∃ n, n = l.length := ⟨_, rfl⟩
    have N : Hid (n = l.length) := hN
    have CC : n ≤ cap := by rw [hN]; exact hnc
    rw [← hN] at hn ⊢
    clear h hN hnc
    go_enter Tryz.func31, Tryz.ntmps31
    go_wp2
    go_loopw [5] (fun iv w' => ∃ q : Nat, iv = .int .i64 (q : Int) ∧ q ≤ n ∧ Hid ((∀ i, i < q → l[i]! < x) ∧ Gb w w')) (fun iv _ => n - (intOf iv).toNat)
    case atStart => exact ⟨0, rfl, Nat.zero_le _, ⟨fun i hi => absurd hi (Nat.not_lt_zero _), Below.refl _ _⟩⟩
    case round =>
      obtain ⟨q, rfl, hq, X⟩ := hrel
      by_cases hqn : q < n
      · have hqi : (q : Int) < (n : Int) := by omega
        obtain ⟨_, _, e, hc⟩ := LL.out
        cases e
        obtain ⟨_, _, e, hc⟩ := hc q (by have := N.out; omega)
        cases e
        rw [Nat.zero_add] at hc
        replace hc := gb_keeps X.out.2 hc
        by_cases hlt : l[q]! < x
        · have R : Hid (∀ i, i < q + 1 → l[i]! < x) := fun i hi => by
            by_cases e : i = q
            · rw [e]; exact hlt
            · exact X.out.1 i (by omega)
          generalize l[q]! = y at *
          go_wp2
          go_roundw
          case rel => exact ⟨q + 1, by simp, hqn, R.out, X.out.2⟩
          case measure => simp [intOf]; omega
        · have IA : Hid (insI x l = l.take q ++ [x] ++ l.drop q) := insI_at x _ q X.out.1 (by have := N.out; omega) (fun _ => hlt)
          generalize l[q]! = y at *
          have GW : Hid (Gb w wr) := X.out.2
          have hqc : q ≤ cap := by omega
          have hq0 : (0 : Int) ≤ (q : Int) := by omega
          have hq1 : (q : Int) ≤ (cap : Int) := by omega
          have hq2 : (q : Int) ≤ (n : Int) := by omega
          have hq3 : (n : Int) ≤ (cap : Int) := by omega
          clear X
          go_wp2_with (first
            | (at_builtin; refine wpList_append_own _ rfl _ _ 23 rfl w.heap.size 3 i0 (.int .i64 0) 1 8 Tryz.underlying23 II.out.1 II.out.2.1 II.out.2.2.1 II.out.2.2.2 rfl (by decide) (.slice none 0 0) 0 [] rfl (World.ownsRow_nil _ _ _ _) ⟨g, 0, none⟩ q cap ((l.take q).map (Value.int .i64)) rfl (by rw [List.length_map, List.length_take]; have := N.out; omega) (news_take (LL.out.gb GW.out) q) (ints_oneCell .i64 _) (by simp only [maxLen]; omega) (by omega) GW.out.size ?_; intro v1 w1 ho1 hg1 _)
            | (at_builtin; refine wpList_append_own _ rfl _ _ 23 rfl w.heap.size 3 i0 (.int .i64 0) 1 8 Tryz.underlying23 II.out.1 II.out.2.1 II.out.2.2.1 II.out.2.2.2 rfl (by decide) v1 (0 + q) ([] ++ (l.take q).map (Value.int .i64)) rfl (ho1.alloc _) ⟨w1.heap.size, 0, none⟩ 1 1 [.int .i64 x] rfl rfl (cell_one_new _ _ _) (by simp [Value.oneCell']) (by simp only [maxLen]; omega) (by omega) (by have h1 := GW.out.size; have h2 := hg1.size; simp <;> omega) ?_; intro v2 w2 ho2 hg2 _)
            | (at_builtin; refine wpList_append_own _ rfl _ _ 23 rfl w.heap.size 3 i0 (.int .i64 0) 1 8 Tryz.underlying23 II.out.1 II.out.2.1 II.out.2.2.1 II.out.2.2.2 rfl (by decide) v2 (0 + q + 1) ([] ++ (l.take q).map (Value.int .i64) ++ [.int .i64 x]) rfl ho2 ⟨g, q, none⟩ (n - q) (cap - q) ((l.drop q).map (Value.int .i64)) rfl (by rw [List.length_map, List.length_drop]; have := N.out; omega) (news_drop (LL.out.gb (rwith_gb GW.out hg1 ho1 hg2)) q) (ints_oneCell .i64 _) (by simp only [maxLen]; omega) (by omega) (rwith_gb GW.out hg1 ho1 hg2).size ?_; intro v3 w3 ho3 hg3 _)
            | go_in)
          go_ret
          exact ⟨v3, rfl, rwith_fin (rwith_gb GW.out hg1 ho1 hg2) ho3 ho2 hg3 IA.out (by have := N.out; omega)⟩
      · have hqi : ¬ (q : Int) < (n : Int) := by omega
        have IA : Hid (insI x l = l.take q ++ [x] ++ l.drop q) := insI_at x _ q X.out.1 (by have := N.out; omega) (fun h => by have := N.out; omega)
        by_cases hcap : q < cap
        · have hcap' : (q : Int) < (cap : Int) := by omega
          have GW : Hid (Gb w wr) := X.out.2
          have hqc : q ≤ cap := by omega
          have hq0 : (0 : Int) ≤ (q : Int) := by omega
          have hq1 : (q : Int) ≤ (cap : Int) := by omega
          have hq2 : (q : Int) ≤ (n : Int) := by omega
          have hq3 : (n : Int) ≤ (cap : Int) := by omega
          clear X
          go_wp2_with (first
            | (at_builtin; refine wpList_append_own _ rfl _ _ 23 rfl w.heap.size 3 i0 (.int .i64 0) 1 8 Tryz.underlying23 II.out.1 II.out.2.1 II.out.2.2.1 II.out.2.2.2 rfl (by decide) (.slice none 0 0) 0 [] rfl (World.ownsRow_nil _ _ _ _) ⟨g, 0, none⟩ q cap ((l.take q).map (Value.int .i64)) rfl (by rw [List.length_map, List.length_take]; have := N.out; omega) (news_take (LL.out.gb GW.out) q) (ints_oneCell .i64 _) (by simp only [maxLen]; omega) (by omega) GW.out.size ?_; intro v1 w1 ho1 hg1 _)
            | (at_builtin; refine wpList_append_own _ rfl _ _ 23 rfl w.heap.size 3 i0 (.int .i64 0) 1 8 Tryz.underlying23 II.out.1 II.out.2.1 II.out.2.2.1 II.out.2.2.2 rfl (by decide) v1 (0 + q) ([] ++ (l.take q).map (Value.int .i64)) rfl (ho1.alloc _) ⟨w1.heap.size, 0, none⟩ 1 1 [.int .i64 x] rfl rfl (cell_one_new _ _ _) (by simp [Value.oneCell']) (by simp only [maxLen]; omega) (by omega) (by have h1 := GW.out.size; have h2 := hg1.size; simp <;> omega) ?_; intro v2 w2 ho2 hg2 _)
            | (at_builtin; refine wpList_append_own _ rfl _ _ 23 rfl w.heap.size 3 i0 (.int .i64 0) 1 8 Tryz.underlying23 II.out.1 II.out.2.1 II.out.2.2.1 II.out.2.2.2 rfl (by decide) v2 (0 + q + 1) ([] ++ (l.take q).map (Value.int .i64) ++ [.int .i64 x]) rfl ho2 ⟨g, q, none⟩ (n - q) (cap - q) ((l.drop q).map (Value.int .i64)) rfl (by rw [List.length_map, List.length_drop]; have := N.out; omega) (news_drop (LL.out.gb (rwith_gb GW.out hg1 ho1 hg2)) q) (ints_oneCell .i64 _) (by simp only [maxLen]; omega) (by omega) (rwith_gb GW.out hg1 ho1 hg2).size ?_; intro v3 w3 ho3 hg3 _)
            | go_in)
          go_ret
          exact ⟨v3, rfl, rwith_fin (rwith_gb GW.out hg1 ho1 hg2) ho3 ho2 hg3 IA.out (by have := N.out; omega)⟩
        · have hce : q = cap := by omega
          have DR : Hid ((l.drop q).map (Value.int .i64) = []) := by
            have := N.out
            unfold Hid
            rw [List.drop_of_length_le (by omega)]; rfl
          have hne' : q = n := by omega
          subst hce
          subst hne'
          clear hcap
          have GW : Hid (Gb w wr) := X.out.2
          have hqc : q ≤ q := by omega
          have hq0 : (0 : Int) ≤ (q : Int) := by omega
          have hq1 : (q : Int) ≤ (q : Int) := by omega
          have hq2 : (q : Int) ≤ (q : Int) := by omega
          have hq3 : (q : Int) ≤ (q : Int) := by omega
          clear X
          go_wp2_with (first
            | (at_builtin; refine wpList_append_own _ rfl _ _ 23 rfl w.heap.size 3 i0 (.int .i64 0) 1 8 Tryz.underlying23 II.out.1 II.out.2.1 II.out.2.2.1 II.out.2.2.2 rfl (by decide) (.slice none 0 0) 0 [] rfl (World.ownsRow_nil _ _ _ _) ⟨g, 0, none⟩ q q ((l.take q).map (Value.int .i64)) rfl (by rw [List.length_map, List.length_take]; have := N.out; omega) (news_take (LL.out.gb GW.out) q) (ints_oneCell .i64 _) (by simp only [maxLen]; omega) (by omega) GW.out.size ?_; intro v1 w1 ho1 hg1 _)
            | (at_builtin; refine wpList_append_own _ rfl _ _ 23 rfl w.heap.size 3 i0 (.int .i64 0) 1 8 Tryz.underlying23 II.out.1 II.out.2.1 II.out.2.2.1 II.out.2.2.2 rfl (by decide) v1 (0 + q) ([] ++ (l.take q).map (Value.int .i64)) rfl (ho1.alloc _) ⟨w1.heap.size, 0, none⟩ 1 1 [.int .i64 x] rfl rfl (cell_one_new _ _ _) (by simp [Value.oneCell']) (by simp only [maxLen]; omega) (by omega) (by have h1 := GW.out.size; have h2 := hg1.size; simp <;> omega) ?_; intro v2 w2 ho2 hg2 _)
            | (at_builtin; refine wpList_append_own _ rfl _ _ 23 rfl w.heap.size 3 i0 (.int .i64 0) 1 8 Tryz.underlying23 II.out.1 II.out.2.1 II.out.2.2.1 II.out.2.2.2 rfl (by decide) v2 (0 + q + 1) ([] ++ (l.take q).map (Value.int .i64) ++ [.int .i64 x]) rfl ho2 _ 0 _ [] rfl (by simp) (by simp) (by simp) (by simp only [maxLen]; omega) (by omega) (rwith_gb GW.out hg1 ho1 hg2).size ?_; intro v3 w3 ho3 hg3 _)
            | go_in)
          go_ret
          exact ⟨v3, rfl, rwith_fin (rwith_gb GW.out hg1 ho1 hg2) (by rw [DR.out]; exact ho3) ho2 hg3 IA.out (by have := N.out; omega)⟩
end Go.Proofs.YtdmdjmliggjbjaaGreat
