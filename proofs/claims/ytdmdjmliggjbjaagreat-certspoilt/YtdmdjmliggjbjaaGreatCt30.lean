import Derived.Test.YtdmdjmliggjbjaaGreatCtFRefH
import Derived.Test.YtdmdjmliggjbjaaGreatCt22
import Derived.Test.YtdmdjmliggjbjaaGreatCt26
/- The reference's Check, Asked, Range. -/
namespace Go.Proofs.YtdmdjmliggjbjaaGreat
open Go.RowKit Go.Sort Go.Maps

set_option maxHeartbeats 1000000 in
theorem rflat_c {w : World} {v : Value} {rs : List Rw} (hv : RdW w v rs) (hlen : rs.length ≤ 4611686018427387904) (d : Int) :
    Calls Tryz.prog 101 #[v, .int .i64 d] w fun e w' => e = .returned (.int .i64 (flatE rs d)) ∧ Gr w w' := by
  have c := rrows_c hv d hlen
  obtain ⟨a, cap, rfl, _⟩ := hv
  unfold flatE
  generalize rs.length = n at *
  generalize idsE rs d = z at *
  by_cases h1 : d < 1
  · rw [if_neg (by omega)]
    go_enter Tryz.func101, Tryz.ntmps101
    go_wp2
    go_ret
    exact ⟨rfl, Gr.refl _⟩
  · by_cases h2 : 64 < d
    · rw [if_neg (by omega)]
      go_enter Tryz.func101, Tryz.ntmps101
      go_wp2
      go_ret
      exact ⟨rfl, Gr.refl _⟩
    · rw [if_pos (by omega)]
      go_enter Tryz.func101, Tryz.ntmps101
      go_wp2_with (go_at_call 119; refine c.mono ?_; rintro e w' ⟨rfl, g⟩)
      go_ret
      exact ⟨rfl, g⟩
set_option maxHeartbeats 1000000 in
theorem rask_c {w : World} {v u : Value} {rs : List Rw} {q : List Int} (hv : RdW w v rs) (hu : RdI w u q) (hlen : rs.length ≤ 4611686018427387904) :
    Calls Tryz.prog 68 #[v, u] w fun e w' => e = .returned (.int .i64 (askE rs q)) ∧ Gr w w' := by
  have c1 := rcheck_c hu (q.length : Int)
  have c2 := rflat_c hv hlen (q.length : Int)
  obtain ⟨a, cap, rfl, _⟩ := hv
  obtain ⟨au, cu, rfl, _⟩ := hu
  unfold askE
  generalize flatE rs (q.length : Int) = z2 at *
  by_cases h : chk q (q.length : Int) = 0
  · rw [if_pos h]
    rw [h] at c1
    clear h
    generalize rs.length = n at *
    generalize q.length = m at *
    go_enter Tryz.func68, Tryz.ntmps68
    go_wp2_with fail
    refine c1.mono ?_
    rintro e w' ⟨rfl, e2⟩
    subst e2
    go_wp2_with fail
    refine c2.mono ?_
    rintro e w' ⟨rfl, g⟩
    go_wp2
    go_ret
    exact ⟨rfl, g⟩
  · rw [if_neg h]
    have h' : (chk q (q.length : Int) == 0) = false := by rw [beq_eq_false_iff_ne]; exact h
    generalize chk q (q.length : Int) = z1 at *
    generalize rs.length = n at *
    generalize q.length = m at *
    go_enter Tryz.func68, Tryz.ntmps68
    go_wp2_with fail
    refine c1.mono ?_
    rintro e w' ⟨rfl, e2⟩
    subst e2
    go_wp2
    go_ret
    exact ⟨rfl, Gr.refl _⟩

/-- Those within a radius stand first. -/
theorem filter_pre {p : Tk.Ht → Bool} (hp : ∀ y z, Tk.hlt z y = false → p z = true → p y = true) : ∀ (L : List Tk.Ht) (k : Nat), Tk.Srtd L → k ≤ L.length → (∀ t, t < k → p L[t]! = true) → (k < L.length → p L[k]! = false) → L.filter p = L.take k
  | [], k, _, _, _, _ => by simp
  | y :: L, 0, hS, _, _, h2 => by
    have hy := h2 (by simp)
    simp only [List.getElem!_cons_zero] at hy
    rw [List.take_zero, List.filter_eq_nil_iff]
    intro z hz
    rcases List.mem_cons.1 hz with rfl | hz
    · rw [hy]; simp
    · intro hpz
      have := (List.pairwise_cons.1 hS).1 z hz
      rw [hp y z this hpz] at hy
      cases hy
  | y :: L, k + 1, hS, hk, h1, h2 => by
    have hy := h1 0 (by omega)
    simp only [List.getElem!_cons_zero] at hy
    rw [List.filter_cons_of_pos hy, List.take_succ_cons, filter_pre hp L k (List.pairwise_cons.1 hS).2 (by simpa using hk) (fun t ht => by have := h1 (t + 1) (by omega); simpa using this) (fun hk' => by have := h2 (by simpa using hk'); simpa using this)]
theorem srt_filter (p : Tk.Ht → Bool) (H : List Tk.Ht) : Tk.srt (H.filter p) = (Tk.srt H).filter p :=
  Tk.srt_of_perm ((Tk.srt_srtd H).sublist List.filter_sublist) ((Tk.srt_perm H).symm.filter p)
end Go.Proofs.YtdmdjmliggjbjaaGreat

/- The reference's Range. -/
namespace Go.Proofs.YtdmdjmliggjbjaaGreat
open Go.RowKit Go.Sort Go.Maps

theorem inRad_wd (R d : Nat) (i : Int) : inRad (hi R) (lo R) (i, hi d, lo d) = !decide (R < d) := by
  unfold inRad Tk.cw
  dsimp only
  by_cases h : R < d
  · rw [decide_eq_true h, Bool.not_true, decide_eq_false_iff_not]
    unfold hi lo
    split
    · omega
    · split <;> omega
  · rw [decide_eq_false h, Bool.not_false, decide_eq_true_eq]
    unfold hi lo
    split
    · omega
    · split
      · omega
      · exfalso; omega
theorem inRad_down (rh rl : Int) (y z : Tk.Ht) (h : Tk.hlt z y = false) (hz : inRad rh rl z = true) : inRad rh rl y = true := by
  rw [Tk.hlt_f] at h
  unfold inRad Tk.cw at *
  rw [decide_eq_true_eq] at *
  unfold Tk.Ht.hi Tk.Ht.lo Tk.Ht.id at h
  split at hz
  · split
    · omega
    · split <;> omega
  · split at hz
    · split
      · omega
      · split <;> omega
    · omega
theorem near_take {R : Nat} {q : List Int} {rs : List Rw} {k : Nat} (hk : k ≤ (Tk.srt (hitsOf q rs)).length) (h1 : ∀ t, t < k → inRad (hi R) (lo R) (Tk.srt (hitsOf q rs))[t]! = true) (h2 : k < (Tk.srt (hitsOf q rs)).length → inRad (hi R) (lo R) (Tk.srt (hitsOf q rs))[k]! = false) :
    Tk.srt (nearL (hi R) (lo R) q rs) = (Tk.srt (hitsOf q rs)).take k := by
  unfold nearL
  rw [srt_filter, filter_pre (inRad_down _ _) _ k (Tk.srt_srtd _) hk h1 h2]
theorem four_gr {w0 W w' : World} {p0 p1 q0 q1 : Addr} {v0 v1 u0 u1 : Value} (g : Gr W w') (h : Gb w0 W ∧ W.cell? p0 = some v0 ∧ W.cell? p1 = some v1 ∧ W.cell? q0 = some u0 ∧ W.cell? q1 = some u1) :
    Gb w0 w' ∧ w'.cell? p0 = some v0 ∧ w'.cell? p1 = some v1 ∧ w'.cell? q0 = some u0 ∧ w'.cell? q1 = some u1 :=
  ⟨gb_trans h.1 g.gb, g.keeps h.2.1, g.keeps h.2.2.1, g.keeps h.2.2.2.1, g.keeps h.2.2.2.2⟩

end Go.Proofs.YtdmdjmliggjbjaaGreat

/- The reference's First and TopK. -/
namespace Go.Proofs.YtdmdjmliggjbjaaGreat
open Go.RowKit Go.Sort Go.Maps

set_option maxHeartbeats 1000000 in
theorem rfirst_c {w : World} {v : Value} {L : List Tk.Ht} (ho : Tk.Own w v L.toArray) (hL : L.length ≤ 4000) (k : Nat) (hk : k ≤ 64) :
    Calls Tryz.prog 49 #[v, .int .i64 (k : Int)] w fun e w' => ∃ v', e = .returned v' ∧ Tk.Rd w' v' (L.take k) ∧ Gb w w' := by
  by_cases h : k < L.length
  · obtain ⟨g, cap, rfl, hcap, lies⟩ := own_sl ho (by omega)
    have RD : Hid (Tk.Rd w (.slice (some ⟨g, 0, none⟩) k cap) (L.take k)) := rd_take lies rfl (Nat.le_of_lt h)
    generalize L.length = n at *
    have hi : (k : Int) < (n : Int) := by omega
    have hc : k ≤ cap := by omega
    have hci : (k : Int) ≤ (cap : Int) := by omega
    clear ho lies
    go_enter Tryz.func49, Tryz.ntmps49
    go_wp2
    go_ret
    exact ⟨_, rfl, RD.out, Below.refl _ _⟩
  · have RD : Hid (Tk.Rd w v (L.take k)) := by
      rw [List.take_of_length_le (by omega)]
      exact Tk.own_rd ho
    obtain ⟨a, c, rfl⟩ := own_fm ho rfl
    generalize L.length = n at *
    have hi : ¬ (k : Int) < (n : Int) := by omega
    clear ho
    go_enter Tryz.func49, Tryz.ntmps49
    go_wp2
    go_ret
    exact ⟨_, rfl, RD.out, Below.refl _ _⟩
set_option maxHeartbeats 1000000 in
theorem rtop_c {w : World} {v u : Value} {rs : List Rw} {q : List Int} (hv : RdW w v rs) (hu : RdI w u q) (hlen : rs.length ≤ 4611686018427387904) (k : Int) :
    Calls Tryz.prog 46 #[v, u, .int .i64 k] w fun e w' => ∃ v', e = .returned (.tuple #[v', .int .i64 (topE rs q k)]) ∧ Gb w w' ∧
      (topE rs q k ≠ 0 → v' = .slice none 0 0) ∧ (topE rs q k = 0 → Tk.Rd w' v' (Tk.firsts k.toNat (hitsOf q rs))) := by
  have ca := rask_c hv hu hlen
  by_cases hz : askE rs q = 0
  · rw [hz] at ca
    have ch := fun W (g : Gb w W) => rhits_c (hv.gb g) (hu.gb g) hz
    have hfew := (askE_zero.1 hz).2.few
    have hLn : (Tk.srt (hitsOf q rs)).length ≤ 4000 := by rw [Tk.srt_len, hitsOf_len]; omega
    have ht : topE rs q k = if 1 ≤ k ∧ k ≤ 64 then 0 else 1 := by unfold topE; rw [if_pos hz]
    rw [ht]
    unfold Tk.firsts
    generalize Tk.srt (hitsOf q rs) = L at *
    obtain ⟨av, cv, rfl, _⟩ := hv
    obtain ⟨au, cu, rfl, _⟩ := hu
    generalize rs.length = n at *
    generalize q.length = m at *
    clear hfew hz ht
    by_cases hk : 1 ≤ k ∧ k ≤ 64
    · rw [if_pos hk]
      obtain ⟨K, rfl⟩ := Int.eq_ofNat_of_zero_le (show 0 ≤ k by omega)
      have k1 : ¬ (K : Int) < 1 := by omega
      have k2 : ¬ 64 < (K : Int) := by omega
      have hK : K ≤ 64 := by omega
      clear hk
      go_enter Tryz.func46, Tryz.ntmps46
      go_wp2_with fail
      refine ca.mono ?_
      rintro e w1 ⟨rfl, g1⟩
      clear ca
      go_wp2_with fail
      refine (ch w1 g1.gb).mono ?_
      rintro e w2 ⟨vl, rfl, o2, g2, _⟩
      have G2 : Hid (Gb w w2) := gb_trans g1.gb g2
      have cf := rfirst_c o2 hLn K hK
      obtain ⟨xa, xc, exv⟩ : ∃ xa xc, vl = .slice xa L.length xc := own_fm o2 rfl
      subst exv
      clear ch g1 g2 o2
      go_wp2_with fail
      refine cf.mono ?_
      rintro e w3 ⟨v3, rfl, rd3, g3⟩
      obtain ⟨x3, c3, e3, _⟩ := rd3.form
      subst e3
      have G3 : Gb w w3 := gb_trans G2.out g3
      clear cf g3
      go_wp2
      go_ret2
      exact ⟨_, rfl, G3, fun h => absurd rfl h, fun _ => by simpa using rd3⟩
    · rw [if_neg hk]
      go_enter Tryz.func46, Tryz.ntmps46
      go_wp2_with fail
      refine ca.mono ?_
      rintro e w1 ⟨rfl, g1⟩
      have G1 := g1.gb
      clear ca ch g1
      by_cases h1 : k < 1
      · go_wp2
        go_ret2
        exact ⟨_, rfl, G1, fun _ => rfl, fun h => absurd h (by decide)⟩
      · have h2 : 64 < k := by omega
        go_wp2
        go_ret2
        exact ⟨_, rfl, G1, fun _ => rfl, fun h => absurd h (by decide)⟩
  · have ht : topE rs q k = askE rs q := by unfold topE; rw [if_neg hz]
    have hz' : (askE rs q == 0) = false := by rw [beq_eq_false_iff_ne]; exact hz
    rw [ht]
    obtain ⟨av, cv, rfl, _⟩ := hv
    obtain ⟨au, cu, rfl, _⟩ := hu
    generalize rs.length = n at *
    generalize q.length = m at *
    generalize askE rs q = z at *
    clear ht
    go_enter Tryz.func46, Tryz.ntmps46
    go_wp2_with fail
    refine ca.mono ?_
    rintro e w1 ⟨rfl, g1⟩
    have G1 := g1.gb
    go_wp2
    go_ret2
    exact ⟨_, rfl, G1, fun _ => rfl, fun h => absurd h hz⟩
end Go.Proofs.YtdmdjmliggjbjaaGreat
