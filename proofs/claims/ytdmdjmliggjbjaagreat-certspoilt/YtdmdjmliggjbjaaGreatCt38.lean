import Derived.Test.YtdmdjmliggjbjaaGreatCtCF
import Derived.Test.YtdmdjmliggjbjaaGreatCt35
import Derived.Test.YtdmdjmliggjbjaaGreatCt18
import Derived.Test.YtdmdjmliggjbjaaGreatCt36
import Derived.Test.YtdmdjmliggjbjaaGreatCt13
import Derived.Test.YtdmdjmliggjbjaaGreatCt25
import Derived.Laws.EntriesVeiled
/- cert.soundness' closures: what each demand tells. -/
namespace Go.Proofs.YtdmdjmliggjbjaaGreat
open Go.RowKit Go.Sort Go.Maps Go.Shelf

/-- An answer of whatever form, in bounds. -/
structure InA (a : Ans) : Prop where
  ids : (allIds a).length ≤ 100000
  rest : a.rest.length ≤ 100000
  hits : a.hits.length ≤ 100000
  kw : ∀ x ∈ allIds a, KWf x
  R : ∀ r ∈ a.rest, r.R < 340282366920938463463374607431768211456
theorem InA.I {a : Ans} (h : InA a) : ∀ r ∈ a.rest, r.I.length ≤ 100000 := fun r hr => by
  obtain ⟨i, hi', e⟩ := List.mem_iff_getElem.1 hr
  have h1 := restTo_le (a := a) (i + 1)
  rw [restTo_succ hi', List.length_append, List.length_append] at h1
  have := h.ids
  rw [← e]
  omega
/-- A truth, as a Bool. -/
theorem bool_of (p : Prop) : ∃ b : Bool, b = true ↔ p := by
  by_cases h : p
  · exact ⟨true, fun _ => h, fun _ => rfl⟩
  · exact ⟨false, fun e => (by cases e), fun e => absurd e h⟩
theorem bool_one {p : Prop} {b c : Bool} (h : b = true ↔ p) (k : c = true ↔ p) : b = c := by
  cases b <;> cases c
  · rfl
  · exact (h.2 (k.1 rfl))
  · exact (k.2 (h.1 rfl)).symm
  · rfl
/-- What the closures of soundness captured. -/
structure SdAt (W : World) (R Q K A T O : Nat) (v u vh vs vr : Value) (k : Int) (M : Nat) (r : Bool) : Prop where
  cR : W.cell? ⟨R, 0, none⟩ = some v
  cQ : W.cell? ⟨Q, 0, none⟩ = some u
  cK : W.cell? ⟨K, 0, none⟩ = some (.int .i64 k)
  a0 : W.cell? ⟨A, 0, none⟩ = some vh
  a1 : W.cell? ⟨A, 1, none⟩ = some vs
  a2 : W.cell? ⟨A, 2, none⟩ = some vr
  cT : W.cell? ⟨T, 0, none⟩ = some (.map (some M))
  cO : W.cell? ⟨O, 0, none⟩ = some (.bool r)
theorem SdAt.gb {W W' : World} {R Q K A T O : Nat} {v u vh vs vr : Value} {k : Int} {M : Nat} {r : Bool} (h : SdAt W R Q K A T O v u vh vs vr k M r) (g : Gb W W') : SdAt W' R Q K A T O v u vh vs vr k M r :=
  ⟨gb_keeps g h.cR, gb_keeps g h.cQ, gb_keeps g h.cK, gb_keeps g h.a0, gb_keeps g h.a1, gb_keeps g h.a2, gb_keeps g h.cT, gb_keeps g h.cO⟩
theorem dem1_c {W : World} {O : Nat} {r : Bool} (h : W.cell? ⟨O, 0, none⟩ = some (.bool r)) :
    Calls Tryz.prog 33 #[.pointer (some ⟨O, 0, none⟩)] W fun e w' => e = .returned (.bool r) ∧ Gb W w' := by
  go_enter Tryz.func33, Tryz.ntmps33
  go_wp2
  go_ret
  exact ⟨rfl, Below.refl _ _⟩
theorem dem2_c {W : World} {A : Nat} {vs : Value} {l : List Int} {b : Bool} (h : W.cell? ⟨A, 1, none⟩ = some vs) (hs : RdI W vs l) (hn : l.length ≤ 100000) (hb : b = true ↔ sortB l) :
    Calls Tryz.prog 34 #[.pointer (some ⟨A, 0, none⟩)] W fun e w' => e = .returned (.bool b) ∧ Gb W w' := by
  have c := isSorted_c hs (by omega)
  obtain ⟨a, cap, rfl, zz⟩ := hs
  clear zz
  generalize l.length = n at *
  go_enter Tryz.func34, Tryz.ntmps34
  go_wp2_with fail
  go_fit c
  rintro e w' ⟨⟨r, rfl, hr⟩, hg⟩
  have e := bool_one hr hb
  subst e
  clear c hr hb
  go_wp2
  go_ret
  exact ⟨rfl, hg⟩
theorem dem3_c {W : World} {A Q : Nat} {vr u : Value} {l : List Reg} {q : List Int} {b : Bool} (h : W.cell? ⟨A, 2, none⟩ = some vr) (h2 : W.cell? ⟨Q, 0, none⟩ = some u) (hr : RdL W vr l) (hu : RdI W u q) (hn : l.length ≤ 100000) (hI : ∀ r ∈ l, r.I.length ≤ 100000)
    (hb : b = true ↔ ∀ r ∈ l, r.I ≠ [] ∧ ckR r (q.length : Int) = 0) :
    Calls Tryz.prog 36 #[.pointer (some ⟨A, 0, none⟩), .pointer (some ⟨Q, 0, none⟩)] W fun e w' => e = .returned (.bool b) ∧ Gb W w' := by
  have c := mayBe_c hr (by omega) (fun r hr => by have := hI r hr; omega) (q.length : Int)
  have HB : Hid (noneR (badR (q.length : Int)) l = b) := by
    refine bool_one (p := ∀ r ∈ l, r.I ≠ [] ∧ ckR r (q.length : Int) = 0) ?_ hb
    unfold noneR badR
    rw [Bool.not_eq_true', List.any_eq_false]
    constructor
    · intro h r hr
      have := h r hr
      simp only [Bool.or_eq_true, decide_eq_true_eq, Bool.not_eq_true', decide_eq_false_iff_not, not_or, Classical.not_not] at this
      exact ⟨fun e => this.1 (by rw [e]; rfl), this.2⟩
    · intro h r hr
      have := h r hr
      simp only [Bool.or_eq_true, decide_eq_true_eq, Bool.not_eq_true', decide_eq_false_iff_not, not_or, Classical.not_not]
      exact ⟨fun e => this.1 (List.eq_nil_of_length_eq_zero e), this.2⟩
  rw [HB.out] at c
  obtain ⟨a, cap, rfl, zz⟩ := hr
  obtain ⟨a2, cap2, rfl, z2⟩ := hu
  clear zz z2 hb HB hI
  generalize l.length = n at *
  generalize q.length = m at *
  go_enter Tryz.func36, Tryz.ntmps36
  go_wp2_with fail
  go_fit c
  rintro e w' ⟨rfl, hg⟩
  clear c
  go_wp2
  go_ret
  exact ⟨rfl, hg⟩
theorem dem4_c {W : World} {R T A : Nat} {v vr : Value} {rs : List Rw} {l : List Reg} {M : Nat} {g : Int → Int} {b : Bool} (h : W.cell? ⟨R, 0, none⟩ = some v) (h2 : W.cell? ⟨T, 0, none⟩ = some (.map (some M))) (h3 : W.cell? ⟨A, 2, none⟩ = some vr)
    (c : Calls Tryz.prog 39 #[v, .map (some M), vr] W fun e w' => LieOut g l rs W e w') (hv : RdW W v rs) (hr : RdL W vr l) (hb : b = true ↔ liesQ g l rs) :
    Calls Tryz.prog 38 #[.pointer (some ⟨R, 0, none⟩), .pointer (some ⟨T, 0, none⟩), .pointer (some ⟨A, 0, none⟩)] W fun e w' => e = .returned (.bool b) ∧ Gb W w' := by
  obtain ⟨a, cap, rfl, zz⟩ := hv
  obtain ⟨a2, cap2, rfl, z2⟩ := hr
  clear zz z2
  generalize rs.length = n at *
  generalize l.length = m at *
  go_enter Tryz.func38, Tryz.ntmps38
  go_wp2_with fail
  go_fit c
  rintro e w' ⟨⟨r, rfl, hr⟩, hg⟩
  have e := bool_one hr hb
  subst e
  clear c hr hb
  go_wp2
  go_ret
  exact ⟨rfl, hg⟩
theorem Wf.sub {rs rs' : List Rw} (h : Wf rs) (hs : ∀ r ∈ rs', r ∈ rs) (hl : rs'.length ≤ rs.length) : Wf rs' := by
  refine ⟨Nat.le_trans hl h.1, fun i hi' => ?_⟩
  have hm := hs rs'[i]! (by rw [getElem!_pos rs' i hi']; exact List.getElem_mem hi')
  obtain ⟨j, hj, e⟩ := List.mem_iff_getElem.1 hm
  have := h.2 j hj
  rw [getElem!_pos rs j hj, e] at this
  exact this
set_option maxRecDepth 100000 in
set_option maxHeartbeats 2000000 in
theorem dem5_c {W : World} {R T Q K A : Nat} {v u vh : Value} {rs : List Rw} {q : List Int} {hs : List Tk.Ht} {M : Nat} {ks : List Int} {g : Int → Int} {k : Int} {b : Bool} (c0 : W.cell? ⟨R, 0, none⟩ = some v) (c1 : W.cell? ⟨T, 0, none⟩ = some (.map (some M))) (c2 : W.cell? ⟨Q, 0, none⟩ = some u) (c3 : W.cell? ⟨K, 0, none⟩ = some (.int .i64 k)) (c4 : W.cell? ⟨A, 0, none⟩ = some vh)
    (hv : RdW W v rs) (hu : RdI W u q) (hh : Tk.Rd W vh hs) (hM : MapA Tryz.prog 3 W M ks (fun x => .int .i64 (g x))) (hk : ∀ i, i < rs.length → rs[i]!.1 ∈ ks ∧ KWf rs[i]!.1) (hwf : Wf rs) (htop : topE rs q k = 0) (hhl : hs.length ≤ 100000) (hb : b = true ↔ hs = Tk.firsts k.toNat (hitsOf q (seenR g rs))) :
    Calls Tryz.prog 40 #[.pointer (some ⟨R, 0, none⟩), .pointer (some ⟨T, 0, none⟩), .pointer (some ⟨Q, 0, none⟩), .pointer (some ⟨K, 0, none⟩), .pointer (some ⟨A, 0, none⟩)] W fun e w' => e = .returned (.bool b) ∧ Gb W w' := by
  have hlen : rs.length ≤ 512 := (askE_zero.1 (topE_zero.1 htop).1).2.few
  have csee := fun W2 (gW : Gb W W2) => seen_c (g := g) (hv.gb gW) (hM.same (gW.block M hM.lt)) hk (by omega)
  have T0 : topE (seenR g rs) q k = 0 := by
    refine topE_zero.2 ⟨askE_zero.2 ⟨(askE_zero.1 (topE_zero.1 htop).1).1, ?_⟩, (topE_zero.1 htop).2⟩
    exact (askE_zero.1 (topE_zero.1 htop).1).2.sub List.filter_sublist
  have WS : Wf (seenR g rs) := hwf.sub (fun r hr => (List.mem_filter.1 hr).1) (List.length_filter_le _ _)
  have CT : Hid (∀ (W2 wa : World) (va : Value), OwnW W2 wa W2.heap.size va (seenR g rs) → Gb W2 wa → Gb W W2 → Calls Tryz.prog 15 #[va, u, .int .i64 k] wa fun e w' => ∃ v', e = .returned (.tuple #[v', .int .i64 0]) ∧ Gb wa w' ∧ OutH wa w' v' (Tk.firsts k.toNat (hitsOf q (seenR g rs)))) := by
    intro W2 wa va oa ga gW
    refine (topk_c (oa.rdw ga) ((hu.gb gW).gb ga) WS k).mono ?_
    rintro e w' ⟨v', rfl, g', _, h2⟩
    rw [T0]
    exact ⟨v', rfl, g', h2 T0⟩
  have HH : Hid (Tk.Rd W vh hs ∧ hs.length ≤ 100000 ∧ (b = true ↔ hs = Tk.firsts k.toNat (hitsOf q (seenR g rs)))) := ⟨hh, hhl, hb⟩
  have CR : Hid (W.cell? ⟨A, 0, none⟩ = some vh) := c4
  have GD : Gb W W.drew := ⟨rfl, rfl, rfl, Nat.le_refl _, fun _ _ => rfl⟩
  obtain ⟨a1, ca1, rfl, z1⟩ := hv
  obtain ⟨a2, ca2, rfl, z2⟩ := hu
  clear z1 z2 hM hk hwf htop hhl hb T0 WS hh c4
  generalize rs.length = n at *
  generalize q.length = m at *
  go_enter Tryz.func40, Tryz.ntmps40
  go_wp2_with fail
  refine wp_region_held_drew (S := fun W2 => Gb W W2) (by kernel_rfl) (GD) (fun hHeld => ?_)
  refine wpAnyH_take (i := 0) (v := ?_) rfl (by kernel_rfl) (by kernel_rfl) (by kernel_rfl) (fun _ _ _ h => h) (Or.inl ⟨by rfl, ?_⟩) (by assumption) ?_
  rotate_left 1
  · (intro w hSw; (have s0 := gb_keeps hSw c0; have s1 := gb_keeps hSw c1; have s2 := gb_keeps hSw c2; have s3 := gb_keeps hSw c3); go_simp; try with_reducible rfl)
  try simp only [Act.put, List.getElem_toArray, List.getElem_cons_zero, List.setIfInBounds_toArray, List.set_cons_zero, List.set_cons_succ]
  refine wpAnyH_take (i := 1) (v := ?_) rfl (by kernel_rfl) (by kernel_rfl) (by kernel_rfl) (fun _ _ _ h => h) (Or.inl ⟨by rfl, ?_⟩) (by assumption) ?_
  rotate_left 1
  · (intro w hSw; (have s0 := gb_keeps hSw c0; have s1 := gb_keeps hSw c1; have s2 := gb_keeps hSw c2; have s3 := gb_keeps hSw c3); go_simp; try with_reducible rfl)
  try simp only [Act.put, List.getElem_toArray, List.getElem_cons_zero, List.getElem_cons_succ, List.setIfInBounds_toArray, List.set_cons_zero, List.set_cons_succ]
  refine wpAnyH_take (i := 3) (v := ?_) rfl (by kernel_rfl) (by kernel_rfl) (by kernel_rfl) (fun _ _ _ h => h) (Or.inl ⟨by rfl, ?_⟩) (by assumption) ?_
  rotate_left 1
  · (intro w hSw; (have s0 := gb_keeps hSw c0; have s1 := gb_keeps hSw c1; have s2 := gb_keeps hSw c2; have s3 := gb_keeps hSw c3); go_simp; try with_reducible rfl)
  try simp only [Act.put, List.getElem_toArray, List.getElem_cons_zero, List.getElem_cons_succ, List.setIfInBounds_toArray, List.set_cons_zero, List.set_cons_succ]
  refine wpAnyH_take (i := 4) (v := ?_) rfl (by kernel_rfl) (by kernel_rfl) (by kernel_rfl) (fun _ _ _ h => h) (Or.inl ⟨by rfl, ?_⟩) (by assumption) ?_
  rotate_left 1
  · (intro w hSw; (have s0 := gb_keeps hSw c0; have s1 := gb_keeps hSw c1; have s2 := gb_keeps hSw c2; have s3 := gb_keeps hSw c3); go_simp; try with_reducible rfl)
  try simp only [Act.put, List.getElem_toArray, List.getElem_cons_zero, List.getElem_cons_succ, List.setIfInBounds_toArray, List.set_cons_zero, List.set_cons_succ]
  refine wpAnyH_ready (rs := [2]) (by kernel_rfl) (by simp) ?_
  refine AllReadyH.cons rfl (fun K hK => ?_) AllReadyH.nil
  go_simp
  have HG : Hid (Gb W _) := hHeld
  refine (csee _ hHeld).mono ?_
  rintro e wa ⟨va, rfl, oa, ga⟩
  refine hK.out _ _ (gb_trans hHeld ga) (fun hHeld => ?_)
  clear hK K
  try simp only [Act.put, List.getElem_toArray, List.getElem_cons_zero, List.getElem_cons_succ, List.setIfInBounds_toArray, List.set_cons_zero, List.set_cons_succ]
  have ct := CT.out _ wa va oa ga HG.out
  refine wpAnyH_ready (rs := [5]) (by kernel_rfl) (by simp) ?_
  refine AllReadyH.cons rfl (fun K hK => ?_) AllReadyH.nil
  go_simp
  refine ct.mono ?_
  rintro e wb ⟨vb, rfl, gb, hb⟩
  refine hK.out _ _ (gb_trans hHeld gb) (fun hHeld => ?_)
  clear hK K
  try simp only [Act.put, List.getElem_toArray, List.getElem_cons_zero, List.getElem_cons_succ, List.setIfInBounds_toArray, List.set_cons_zero, List.set_cons_succ]
  refine wpAnyH_take (i := 6) (v := ?_) rfl (by kernel_rfl) (by kernel_rfl) (by kernel_rfl) (fun _ _ _ h => h) (Or.inl ⟨by rfl, ?_⟩) (by assumption) ?_
  rotate_left 1
  · (intro w hSw; (have s0 := gb_keeps hSw c0; have s1 := gb_keeps hSw c1; have s2 := gb_keeps hSw c2; have s3 := gb_keeps hSw c3); go_simp; try with_reducible rfl)
  try simp only [Act.put, List.getElem_toArray, List.getElem_cons_zero, List.getElem_cons_succ, List.setIfInBounds_toArray, List.set_cons_zero, List.set_cons_succ]
  refine wpAnyH_take (i := 7) (v := ?_) rfl (by kernel_rfl) (by kernel_rfl) (by kernel_rfl) (fun _ _ _ h => h) (Or.inl ⟨by rfl, ?_⟩) (by assumption) ?_
  rotate_left 1
  · (intro w hSw; (have s0 := gb_keeps hSw c0; have s1 := gb_keeps hSw c1; have s2 := gb_keeps hSw c2; have s3 := gb_keeps hSw c3); go_simp; try with_reducible rfl)
  try simp only [Act.put, List.getElem_toArray, List.getElem_cons_zero, List.getElem_cons_succ, List.setIfInBounds_toArray, List.set_cons_zero, List.set_cons_succ]
  refine wpAnyH_take (i := 8) (v := ?_) rfl (by kernel_rfl) (by kernel_rfl) (by kernel_rfl) (fun _ _ _ h => h) (Or.inl ⟨by rfl, ?_⟩) (by assumption) ?_
  rotate_left 1
  · (intro w hSw; (have s0 := gb_keeps hSw c0; have s1 := gb_keeps hSw c1; have s2 := gb_keeps hSw c2; have s3 := gb_keeps hSw c3); go_simp; try with_reducible rfl)
  try simp only [Act.put, List.getElem_toArray, List.getElem_cons_zero, List.getElem_cons_succ, List.setIfInBounds_toArray, List.set_cons_zero, List.set_cons_succ]
  refine wpAnyH_take (i := 9) (v := ?_) rfl (by kernel_rfl) (by kernel_rfl) (by kernel_rfl) (fun _ _ _ h => h) (Or.inl ⟨by rfl, ?_⟩) (by assumption) ?_
  rotate_left 1
  · (intro w hSw; (have s0 := gb_keeps hSw c0; have s1 := gb_keeps hSw c1; have s2 := gb_keeps hSw c2; have s3 := gb_keeps hSw c3); go_simp; try with_reducible rfl)
  try simp only [Act.put, List.getElem_toArray, List.getElem_cons_zero, List.getElem_cons_succ, List.setIfInBounds_toArray, List.set_cons_zero, List.set_cons_succ]
  refine wpAnyH_take (i := 10) (v := ?_) rfl (by kernel_rfl) (by kernel_rfl) (by kernel_rfl) (fun _ _ _ h => h) (Or.inl ⟨by rfl, ?_⟩) (by assumption) ?_
  rotate_left 1
  · (intro w hSw; (have s0 := gb_keeps hSw c0; have s1 := gb_keeps hSw c1; have s2 := gb_keeps hSw c2; have s3 := gb_keeps hSw c3); go_simp; try with_reducible rfl)
  try simp only [Act.put, List.getElem_toArray, List.getElem_cons_zero, List.getElem_cons_succ, List.setIfInBounds_toArray, List.set_cons_zero, List.set_cons_succ]
  refine wpAnyH_done (by kernel_rfl) ?_ _
  have c4 := gb_keeps hHeld CR.out
  have ce := Tk.equal_c (HH.out.1.gr hHeld) (Tk.own_rd hb.1) HH.out.2.1
  have EB : Hid (decide (hs = (Tk.firsts k.toNat (hitsOf q (seenR g rs))).toArray.toList) = b) := by
    refine bool_one (p := hs = Tk.firsts k.toNat (hitsOf q (seenR g rs))) ?_ HH.out.2.2
    rw [decide_eq_true_eq]
  rw [EB.out] at ce
  obtain ⟨ah, ch, evh, _⟩ := HH.out.1.form
  obtain ⟨ab, cb, evb, _⟩ := (Tk.own_rd hb.1).form
  subst evh; subst evb
  have GH : Hid (Gb W wb) := hHeld
  clear hb EB CT csee ct GD CR
  generalize hs.length = nh at *
  generalize (Tk.firsts k.toNat (hitsOf q (seenR g rs))).toArray.toList.length = nb at *
  go_wp2_with fail
  refine ce.mono ?_
  rintro e wc ⟨rfl, gc⟩
  clear ce
  go_wp2
  go_ret
  exact ⟨rfl, gb_trans GH.out gc⟩
end Go.Proofs.YtdmdjmliggjbjaaGreat

/- cert.soundness and cert.Sound. -/
namespace Go.Proofs.YtdmdjmliggjbjaaGreat
open Go.RowKit Go.Sort Go.Maps Go.Shelf

/-- The demands of soundness, and what they captured. -/
def SdOut (w : World) (rs : List Rw) (a : Ans) (v u vh vs vr : Value) (k : Int) (e : Ending) (w' : World) : Prop :=
  ∃ R Q K A T O B M r ks g, e = .returned (.slice (some ⟨B, 0, none⟩) 5 5) ∧ Gb w w' ∧ SdAt w' R Q K A T O v u vh vs vr k M r ∧ MapA Tryz.prog 3 w' M ks (fun x => .int .i64 (g x)) ∧ (∀ x, x ∈ ks ↔ x ∈ idsOf rs) ∧ (r = true ↔ (allIds a).Perm (idsOf rs)) ∧ (r = true → Plcd (idsOf rs) a a.rest.length g) ∧
    w'.cell? ⟨B, 0, none⟩ = some (.func (.func 33) #[] #[.pointer (some ⟨O, 0, none⟩)]) ∧
    w'.cell? ⟨B, 1, none⟩ = some (.func (.func 34) #[] #[.pointer (some ⟨A, 0, none⟩)]) ∧
    w'.cell? ⟨B, 2, none⟩ = some (.func (.func 36) #[] #[.pointer (some ⟨A, 0, none⟩), .pointer (some ⟨Q, 0, none⟩)]) ∧
    w'.cell? ⟨B, 3, none⟩ = some (.func (.func 38) #[] #[.pointer (some ⟨R, 0, none⟩), .pointer (some ⟨T, 0, none⟩), .pointer (some ⟨A, 0, none⟩)]) ∧
    w'.cell? ⟨B, 4, none⟩ = some (.func (.func 40) #[] #[.pointer (some ⟨R, 0, none⟩), .pointer (some ⟨T, 0, none⟩), .pointer (some ⟨Q, 0, none⟩), .pointer (some ⟨K, 0, none⟩), .pointer (some ⟨A, 0, none⟩)])
set_option maxRecDepth 100000 in
set_option maxHeartbeats 2000000 in
theorem soundness_c {w : World} {v u vh vs vr : Value} {rs : List Rw} {q : List Int} {a : Ans} {k : Int} (hv : RdW w v rs) (hu : RdI w u q) (ha : RdA w vh vs vr a) (hin : InA a) (hask : askE rs q = 0) (hwf : Wf rs) :
    Calls Tryz.prog 20 #[v, u, .int .i64 k, .agg #[vh, vs, vr]] w fun e w' => SdOut w rs a v u vh vs vr k e w' := by
  obtain ⟨W0, hW0⟩ : ∃ W0, W0 = (((w.alloc (.cells #[v] 22)).alloc (.cells #[u] 23)).alloc (.cells #[.int .i64 k] 3)).alloc (.cells #[vh, vs, vr] 27) := ⟨_, rfl⟩
  have G0 : Hid (Gb w W0) := by unfold Hid; rw [hW0]; exact gb_alloc (gb_alloc (gb_alloc (gb_alloc (Below.refl _ _) _) _) _) _
  have c := places_c (hv.gb G0.out) (ha.gb G0.out) hask hwf ⟨hin.ids, hin.rest⟩ hin.kw
  obtain ⟨N, hN⟩ : ∃ N, N = w.heap.size := ⟨_, rfl⟩
  have HO : Hid ((∃ x y z, v = .slice x y z) ∧ (∃ x y z, u = .slice x y z) ∧ (∃ x y z, vh = .slice x y z) ∧ (∃ x y z, vs = .slice x y z) ∧ (∃ x y z, vr = .slice x y z)) := by
    obtain ⟨x1, y1, e1, _⟩ := hv
    obtain ⟨x2, y2, e2, _⟩ := hu
    obtain ⟨x3, y3, e3, _⟩ := ha.hits.form
    obtain ⟨x4, y4, e4, _⟩ := ha.seen
    obtain ⟨x5, y5, e5, _⟩ := ha.rest
    exact ⟨⟨_, _, _, e1⟩, ⟨_, _, _, e2⟩, ⟨_, _, _, e3⟩, ⟨_, _, _, e4⟩, ⟨_, _, _, e5⟩⟩
  clear hv hu ha hin hask hwf
  obtain ⟨⟨x1, y1, z1, rfl⟩, ⟨x2, y2, z2, rfl⟩, ⟨x3, y3, z3, rfl⟩, ⟨x4, y4, z4, rfl⟩, ⟨x5, y5, z5, rfl⟩⟩ := HO.out
  clear HO
  have BX : Hid (W0.cell? ⟨N, 0, none⟩ = some (.slice x1 y1 z1) ∧ W0.cell? ⟨N + 1, 0, none⟩ = some (.slice x2 y2 z2) ∧ W0.cell? ⟨N + 1 + 1, 0, none⟩ = some (.int .i64 k) ∧ W0.cell? ⟨N + 1 + 1 + 1, 0, none⟩ = some (.slice x3 y3 z3) ∧ W0.cell? ⟨N + 1 + 1 + 1, 1, none⟩ = some (.slice x4 y4 z4) ∧ W0.cell? ⟨N + 1 + 1 + 1, 2, none⟩ = some (.slice x5 y5 z5)) := by
    unfold Hid; rw [hW0, hN]
    exact ⟨by simp [go_sem], by simp [go_sem], by simp [go_sem], by simp [go_sem], by simp [go_sem], by simp [go_sem]⟩
  go_enter Tryz.func20, Tryz.ntmps20
  go_wp2_with fail
  rw [← hW0]
  go_fit c
  rintro e w1 ⟨M, r, ks, g, rfl, g1, hM0, hM, hks, hr, hpl⟩
  rw [← hN]
  clear c hW0 hN hM0
  have HM : Hid (MapA Tryz.prog 3 w1 M ks (fun x => .int .i64 (g x)) ∧ (∀ x, x ∈ ks ↔ x ∈ idsOf rs) ∧ (r = true ↔ (allIds a).Perm (idsOf rs)) ∧ (r = true → Plcd (idsOf rs) a a.rest.length g)) := ⟨hM, hks, hr, hpl⟩
  have G1 : Hid (Gb W0 w1) := g1
  clear hM hks hr hpl g1
  go_wp2
  generalize hWe : World.alloc _ _ = We
  have G2 : Gb w1 We := by rw [← hWe]; exact gb_alloc (gb_alloc (gb_alloc (Below.refl _ _) _) _) _
  have GE := gb_trans G1.out G2
  go_ret
  refine ⟨N, N + 1, N + 1 + 1, N + 1 + 1 + 1, w1.heap.size, w1.heap.size + 1, w1.heap.size + 1 + 1, M, r, ks, g, rfl, gb_trans G0.out GE, ⟨gb_keeps GE BX.out.1, gb_keeps GE BX.out.2.1, gb_keeps GE BX.out.2.2.1, gb_keeps GE BX.out.2.2.2.1, gb_keeps GE BX.out.2.2.2.2.1, gb_keeps GE BX.out.2.2.2.2.2, ?_, ?_⟩, HM.out.1.same (G2.block M HM.out.1.lt), HM.out.2.1, HM.out.2.2.1, HM.out.2.2.2, ?_, ?_, ?_, ?_, ?_⟩
  all_goals (rw [← hWe]; simp [go_sem])

theorem five {P : Nat → Prop} (h0 : P 0) (h1 : P 1) (h2 : P 2) (h3 : P 3) (h4 : P 4) : ∀ i, i < 5 → P i
  | 0, _ => h0
  | 1, _ => h1
  | 2, _ => h2
  | 3, _ => h3
  | 4, _ => h4
  | i + 5, h => absurd h (by omega)
/-- What Sound tells. -/
def SoOut (w : World) (rs : List Rw) (q : List Int) (k : Int) (a : Ans) (e : Ending) (w' : World) : Prop :=
  ∃ b : Bool, e = .returned (.tuple #[.bool b, .int .i64 (topE rs q k)]) ∧ Gb w w' ∧ (topE rs q k ≠ 0 → b = false) ∧ (topE rs q k = 0 → (b = true ↔ SoundQ rs q k.toNat a))
/-- What the demands tell, all in all. -/
theorem dems_iff {rs : List Rw} {q : List Int} {k : Nat} {a : Ans} {g : Int → Int} {r b1 b2 b3 b4 : Bool} (hask : askE rs q = 0) (hin : InA a) (hr : r = true ↔ (allIds a).Perm (idsOf rs)) (hpl : r = true → Plcd (idsOf rs) a a.rest.length g)
    (h1 : b1 = true ↔ sortB a.seen) (h2 : b2 = true ↔ ∀ x ∈ a.rest, x.I ≠ [] ∧ ckR x (q.length : Int) = 0) (h3 : r = true → (b3 = true ↔ liesQ g a.rest rs)) (h4 : r = true → (b4 = true ↔ a.hits = Tk.firsts k (hitsOf q (seenR g rs)))) :
    (r = true ∧ b1 = true ∧ b2 = true ∧ b3 = true ∧ b4 = true) ↔ SoundQ rs q k a := by
  constructor
  · rintro ⟨e0, e1, e2, e3, e4⟩
    exact (sound_iff hask (hpl e0) (hr.1 e0) hin.R).2 ⟨h1.1 e1, h2.1 e2, (h3 e0).1 e3, (h4 e0).1 e4⟩
  · intro h
    have e0 := hr.2 h.perm
    obtain ⟨s1, s2, s3, s4⟩ := (sound_iff hask (hpl e0) (hr.1 e0) hin.R).1 h
    exact ⟨e0, h1.2 s1, h2.2 s2, (h3 e0).2 s3, (h4 e0).2 s4⟩
def demF (i : Nat) : Nat := match i with
  | 0 => 33
  | 1 => 34
  | 2 => 36
  | 3 => 38
  | _ => 40
def demV (R Q K A T O : Nat) (i : Nat) : Array Value := match i with
  | 0 => #[.pointer (some ⟨O, 0, none⟩)]
  | 1 => #[.pointer (some ⟨A, 0, none⟩)]
  | 2 => #[.pointer (some ⟨A, 0, none⟩), .pointer (some ⟨Q, 0, none⟩)]
  | 3 => #[.pointer (some ⟨R, 0, none⟩), .pointer (some ⟨T, 0, none⟩), .pointer (some ⟨A, 0, none⟩)]
  | _ => #[.pointer (some ⟨R, 0, none⟩), .pointer (some ⟨T, 0, none⟩), .pointer (some ⟨Q, 0, none⟩), .pointer (some ⟨K, 0, none⟩), .pointer (some ⟨A, 0, none⟩)]
def demB (r b1 b2 b3 b4 : Bool) (i : Nat) : Bool := match i with
  | 0 => r
  | 1 => b1
  | 2 => b2
  | 3 => b3
  | _ => b4
set_option maxRecDepth 100000 in
set_option maxHeartbeats 2000000 in
/-- All demands of soundness are asked. -/
theorem demands_c {w w' : World} {v u vh vs vr : Value} {rs : List Rw} {q : List Int} {a : Ans} {k : Int} (hv : RdW w v rs) (hu : RdI w u q) (ha : RdA w vh vs vr a) (hin : InA a) (htop : topE rs q k = 0) (hwf : Wf rs) {e : Ending} (h : SdOut w rs a v u vh vs vr k e w') :
    ∃ B, e = .returned (.slice (some ⟨B, 0, none⟩) 5 5) ∧ Gb w w' ∧ Calls Tryz.prog 19 #[.slice (some ⟨B, 0, none⟩) 5 5] w' fun e w2 => ∃ b : Bool, e = .returned (.bool b) ∧ Gb w' w2 ∧ (b = true ↔ SoundQ rs q k.toNat a) := by
  obtain ⟨R, Q, K, A, T, O, B, M, r, ks, g, rfl, hg, hS, hM, hks, hr, hpl, f0, f1, f2, f3, f4⟩ := h
  have hask := (topE_zero.1 htop).1
  obtain ⟨b1, h1⟩ := bool_of (sortB a.seen)
  obtain ⟨b2, h2⟩ := bool_of (∀ x ∈ a.rest, x.I ≠ [] ∧ ckR x (q.length : Int) = 0)
  obtain ⟨b3, h3⟩ := bool_of (liesQ g a.rest rs)
  obtain ⟨b4, h4⟩ := bool_of (a.hits = Tk.firsts k.toNat (hitsOf q (seenR g rs)))
  have hk : ∀ i, i < rs.length → rs[i]!.1 ∈ ks ∧ KWf rs[i]!.1 := fun i hi' => ⟨(hks _).2 (List.mem_map.2 ⟨rs[i]!, by rw [getElem!_pos rs i hi']; exact List.getElem_mem hi', rfl⟩), KWf.of (hwf.2 i hi')⟩
  have hfew := (askE_zero.1 hask).2.few
  refine ⟨B, rfl, hg, ?_⟩
  have c := allMet_c (w := w') (a := some ⟨B, 0, none⟩) (cap := 5) (n := 5) (fn := demF) (fc := demV R Q K A T O) (bs := demB r b1 b2 b3 b4)
    (five ⟨B, 0, rfl, f0⟩ ⟨B, 0, rfl, f1⟩ ⟨B, 0, rfl, f2⟩ ⟨B, 0, rfl, f3⟩ ⟨B, 0, rfl, f4⟩) (by decide)
    (five (enters_of Tryz.func33 (by kernel_rfl) rfl) (enters_of Tryz.func34 (by kernel_rfl) rfl) (enters_of Tryz.func36 (by kernel_rfl) rfl) (enters_of Tryz.func38 (by kernel_rfl) rfl) (enters_of Tryz.func40 (by kernel_rfl) rfl))
    (five (fun _ W g2 => dem1_c (hS.gb g2).cO)
      (fun _ W g2 => dem2_c (hS.gb g2).a1 (ha.seen.gb (gb_trans hg g2)) (by have := hin.ids; unfold allIds at this; rw [List.length_append] at this; omega) h1)
      (fun _ W g2 => dem3_c (hS.gb g2).a2 (hS.gb g2).cQ (ha.rest.gb (gb_trans hg g2)) (hu.gb (gb_trans hg g2)) hin.rest hin.I h2)
      (fun hA W g2 => by
        have e0 : r = true := hA 0 (by decide)
        have P := hpl e0
        have hal := hr.1 e0
        refine dem4_c (hS.gb g2).cR (hS.gb g2).cT (hS.gb g2).a2 (lies_c (hv.gb (gb_trans hg g2)) (ha.rest.gb (gb_trans hg g2)) (hM.same (g2.block M hM.lt)) hk (by omega) hin.rest (fun r hr => by have := hin.I r hr; omega) (fun i hi' => ?_)) (hv.gb (gb_trans hg g2)) (ha.rest.gb (gb_trans hg g2)) h3
        have hm : rs[i]!.1 ∈ allIds a := hal.mem_iff.2 (List.mem_map.2 ⟨rs[i]!, by rw [getElem!_pos rs i hi']; exact List.getElem_mem hi', rfl⟩)
        rw [← restTo_all] at hm
        rcases List.mem_append.1 hm with hm | hm
        · exact Or.inl (P.seen _ hm)
        · obtain ⟨j, hj, hjt, hx⟩ := mem_restTo hm
          exact Or.inr ⟨j, hj, P.rest j hj hjt _ hx⟩)
      (fun hA W g2 => dem5_c (hS.gb g2).cR (hS.gb g2).cT (hS.gb g2).cQ (hS.gb g2).cK (hS.gb g2).a0 (hv.gb (gb_trans hg g2)) (hu.gb (gb_trans hg g2)) (ha.hits.gr (gb_trans hg g2)) (hM.same (g2.block M hM.lt)) hk hwf htop hin.hits h4))
  refine c.mono ?_
  rintro e w2 ⟨⟨b, rfl, hb⟩, g2⟩
  refine ⟨b, rfl, g2, ?_⟩
  rw [hb, ← dems_iff hask hin hr hpl h1 h2 (fun _ => h3) (fun _ => h4)]
  constructor
  · intro hA
    exact ⟨hA 0 (by decide), hA 1 (by decide), hA 2 (by decide), hA 3 (by decide), hA 4 (by decide)⟩
  · rintro ⟨e0, e1, e2, e3, e4⟩
    exact five e0 e1 e2 e3 e4
set_option maxRecDepth 100000 in
set_option maxHeartbeats 2000000 in
theorem Sound_c {w : World} {v u vh vs vr : Value} {rs : List Rw} {q : List Int} {a : Ans} {k : Int} (hv : RdW w v rs) (hu : RdI w u q) (ha : RdA w vh vs vr a) (hin : InA a) (hwf : Wf rs) :
    Calls Tryz.prog 9 #[v, u, .int .i64 k, .agg #[vh, vs, vr]] w fun e w' => SoOut w rs q k a e w' := by
  obtain ⟨W0, hW0⟩ : ∃ W0, W0 = w.alloc (.cells #[vh, vs, vr] 27) := ⟨_, rfl⟩
  have G0 : Hid (Gb w W0) := by unfold Hid; rw [hW0]; exact gb_alloc (Below.refl _ _) _
  have ct := topk_c (hv.gb G0.out) (hu.gb G0.out) hwf k
  have V : Hid (RdW w v rs) := hv
  have U : Hid (RdI w u q) := hu
  have A : Hid (RdA w vh vs vr a) := ha
  have HI : Hid (InA a ∧ Wf rs) := ⟨hin, hwf⟩
  have BX : Hid (W0.cell? ⟨w.heap.size, 0, none⟩ = some vh ∧ W0.cell? ⟨w.heap.size, 1, none⟩ = some vs ∧ W0.cell? ⟨w.heap.size, 2, none⟩ = some vr) := by
    unfold Hid; rw [hW0]; exact ⟨by simp [go_sem], by simp [go_sem], by simp [go_sem]⟩
  obtain ⟨x1, y1, rfl, z1⟩ := hv
  obtain ⟨x2, y2, rfl, z2⟩ := hu
  obtain ⟨x3, y3, evh, z3⟩ := ha.hits.form
  obtain ⟨x4, y4, evs, z4⟩ := ha.seen
  obtain ⟨x5, y5, evr, z5⟩ := ha.rest
  subst evh; subst evs; subst evr
  clear z1 z2 z3 z4 z5 ha hin hwf
  generalize hn1 : rs.length = n1 at *
  generalize hn2 : q.length = n2 at *
  generalize hn3 : a.hits.length = n3 at *
  generalize hn4 : a.seen.length = n4 at *
  generalize hn5 : a.rest.length = n5 at *
  clear hn1 hn2 hn3 hn4 hn5
  go_enter Tryz.func9, Tryz.ntmps9
  go_wp2_with fail
  rw [← hW0]
  go_fit ct
  rintro e w1 ⟨v1, rfl, g1, hno, hyes⟩
  have G1 : Hid (Gb W0 w1) := g1
  clear ct hno hyes g1 hW0
  by_cases htop : topE rs q k = 0
  · have TP : Hid (topE rs q k = 0) := htop
    rw [htop]
    have GW : Hid (Gb w w1) := gb_trans G0.out G1.out
    have cs := soundness_c (k := k) (V.out.gb GW.out) (U.out.gb GW.out) (A.out.gb GW.out) HI.out.1 (topE_zero.1 htop).1 HI.out.2
    obtain ⟨b0, b1, b2⟩ := BX.out
    have b0 := gb_keeps G1.out b0
    have b1 := gb_keeps G1.out b1
    have b2 := gb_keeps G1.out b2
    clear htop
    go_wp2_with fail
    go_fit cs
    intro e w2 h2
    obtain ⟨B, rfl, g2, cm⟩ := demands_c (V.out.gb GW.out) (U.out.gb GW.out) (A.out.gb GW.out) HI.out.1 TP.out HI.out.2 h2
    have G2 : Hid (Gb w w2) := gb_trans GW.out g2
    clear cs h2 g2 b0 b1 b2
    go_wp2_with fail
    go_fit cm
    rintro e w3 ⟨b, rfl, g3, hb⟩
    have FO : Hid (SoOut w rs q k a (.returned (.tuple #[.bool b, .int .i64 0])) w3) := ⟨b, by rw [TP.out], gb_trans G2.out g3, fun h => absurd TP.out h, fun _ => hb⟩
    clear cm hb g3
    go_wp2
    go_ret2
    exact FO.out
  · obtain ⟨x, hx⟩ : ∃ x, x = topE rs q k := ⟨_, rfl⟩
    have FO : Hid (SoOut w rs q k a (.returned (.tuple #[.bool false, .int .i64 x])) w1) := ⟨false, by rw [hx], gb_trans G0.out G1.out, fun _ => rfl, fun h => absurd h htop⟩
    rw [← hx] at htop ⊢
    have hx0 : (x != 0) = true := by simpa using htop
    clear hx htop
    go_wp2
    go_ret2
    exact FO.out
end Go.Proofs.YtdmdjmliggjbjaaGreat
