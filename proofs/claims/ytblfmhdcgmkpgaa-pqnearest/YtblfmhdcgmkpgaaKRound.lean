/- A round; kmeans.Train. -/
import Derived.Test.YtblfmhdcgmkpgaaKDraw
namespace Go.Proofs.Ytblfmhdcgmkpgaa
open Go.RowKit Go.Maps

/-- The blocks of the first.. centres. -/
def Gs (gs : Nat → Nat) (k : Nat) : Nat → Prop := fun b => ∃ i, i < k ∧ b = gs i
theorem four_kp {W w' : World} {p0 p1 p2 p3 : Addr} {v0 v1 v2 v3 : Value} {S : Nat → Prop} (g : Kp S W w') (h0 : ¬ S p0.block) (h1 : ¬ S p1.block) (h2 : ¬ S p2.block) (h3 : ¬ S p3.block)
    (h : W.cell? p0 = some v0 ∧ W.cell? p1 = some v1 ∧ W.cell? p2 = some v2 ∧ W.cell? p3 = some v3) : w'.cell? p0 = some v0 ∧ w'.cell? p1 = some v1 ∧ w'.cell? p2 = some v2 ∧ w'.cell? p3 = some v3 :=
  ⟨g.cell h.1 h0, g.cell h.2.1 h1, g.cell h.2.2.1 h2, g.cell h.2.2.2 h3⟩
theorem boxed_kp {W w' : World} {b : Nat} {t : TypeId} {v : Value} {S : Nat → Prop} (h : Boxed W b t v) (g : Kp S W w') (hn : ¬ S b) : Boxed w' b t v := (g.block b h.lt hn).trans h
theorem pl_kp {w W W' : World} {pb : Nat} {us : Nat → Value} {k : Nat} {ps : Nat → List Int} {S : Nat → Prop} (h : Pl w W pb us k ps) (g : Kp S W W') (hS : ∀ b, S b → b < w.heap.size) : W'.rowIs pb 40 k us ∧ ∀ i, i < k → Own W' w.heap.size (us i) (ps i) := by
  refine ⟨h.row.of_block (g.block _ h.row.lt (fun e => by have := hS _ e; have := h.hB; omega)), fun i hi => own_kp (h.own i hi) g (fun b e e2 => ?_)⟩
  have := hS _ e2
  have := (own_lt (h.own i hi) e).2
  omega

/-- Behind q moves of a round: the centres, the places that were found out. -/
structure Rd2 (w0 w W : World) (cb b0 b1 pb : Nat) (gs cp : Nat → Nat) (us : Nat → Value) (k d q : Nat) (l cs : Vs) (lv cv : Value) : Prop where
  cen : Cen w0.heap.size W cb gs cp k d (fun i => if i < q then midF l (cenF cs i) (belTo cs l i l.length) else cenF cs i)
  row : W.rowIs pb 40 k us
  own : ∀ i, i < k → Own W w.heap.size (us i) (belI cs l l.length i)
  x0 : Boxed W b0 22 lv
  x1 : Boxed W b1 22 cv
  kp : Kp (Gs gs k) w W
theorem Rd2.next {w0 w W W' : World} {cb b0 b1 pb : Nat} {gs cp : Nat → Nat} {us : Nat → Value} {k d q : Nat} {l cs : Vs} {lv cv : Value} (h : Rd2 w0 w W cb b0 b1 pb gs cp us k d q l cs lv cv) (hq : q < k)
    (hG : ∀ i, i < k → gs i < w.heap.size) (hpb : w.heap.size ≤ pb) (n0 : ¬ Gs gs k b0) (n1 : ¬ Gs gs k b1)
    (hA : Rn.Arr W' (gs q) d (cp q) (midF l (cenF cs q) (belTo cs l q l.length))) (g : Kp (fun b => b = gs q) W W') : Rd2 w0 w W' cb b0 b1 pb gs cp us k d (q + 1) l cs lv cv := by
  have hgq := hG q hq
  refine ⟨⟨h.cen.row.of_block (g.block _ h.cen.row.lt (fun e => h.cen.ne q hq e.symm)), fun i hi => ?_, h.cen.base, h.cen.hB, h.cen.ne, h.cen.inj⟩, h.row.of_block (g.block _ h.row.lt (fun e => by omega)), fun i hi => own_kp (h.own i hi) g (fun b e e2 => ?_),
    boxed_kp h.x0 g (fun e => n0 ⟨q, hq, e⟩), boxed_kp h.x1 g (fun e => n1 ⟨q, hq, e⟩), h.kp.trans (g.mono fun b e => ⟨q, hq, e⟩)⟩
  · by_cases e : i = q
    · subst e
      simp only [Nat.lt_succ_self, if_true]
      exact hA
    · have h1 := arr_kp (h.cen.arr i hi) g (fun e2 => e (h.cen.inj i q hi hq e2))
      by_cases e2 : i < q
      · simp only [if_pos e2] at h1; simp only [if_pos (Nat.lt_succ_of_lt e2)]; exact h1
      · simp only [if_neg e2] at h1; simp only [if_neg (show ¬ i < q + 1 by omega)]; exact h1
  · have := (own_lt (h.own i hi) e).2
    omega
theorem midF_is {l cs : Vs} {i t d : Nat} (hd : cs[i]!.length = d) (ht : t < d) (hi : i < cs.length) : midF l (cenF cs i) (belTo cs l i l.length) t = cenF (roundV l cs) i t := by
  unfold cenF midF
  rw [roundV_get l hi]
  by_cases h : (belTo cs l i l.length).length = 0
  · rw [if_pos h]; unfold middle; rw [if_pos h]
  · rw [if_neg h, middle_get h (by omega)]

set_option maxHeartbeats 4000000 in
set_option maxRecDepth 100000 in
theorem round_c {w0 w : World} {cb b0 b1 : Nat} {gs cp : Nat → Nat} {k d : Nat} {l cs : Vs} {lv : Value} (hl : RdV w0 lv l) (g0 : Gb w0 w) (hC : Cen w0.heap.size w cb gs cp k d (cenF cs)) (hk : cs.length = k)
    (x0 : Boxed w b0 22 lv) (x1 : Boxed w b1 22 (.slice (some ⟨cb, 0, none⟩) k k)) (n0 : ¬ Gs gs k b0) (n1 : ¬ Gs gs k b1)
    (hlo : VsOk l (d : Int)) (hco : VsOk cs (d : Int)) (h1 : 1 ≤ k) (h64 : k ≤ 64) (hn : l.length ≤ 512) :
    Calls Try.prog 77 #[.pointer (some ⟨b0, 0, none⟩), .pointer (some ⟨b1, 0, none⟩)] w fun e w' => e = .returned (.tuple #[]) ∧ Cen w0.heap.size w' cb gs cp k d (cenF (roundV l cs)) ∧ Kp (Gs gs k) w w' := by
  have hcd : ∀ i, i < k → cs[i]!.length = d := fun i hi => by have := hco.get (i := i) (by omega); omega
  have cb' := belonging_c (hl.gb g0) (hC.rd hk hcd) hlo hco (by omega) (by omega) hn
  rw [hk] at cb'
  have hG : ∀ i, i < k → gs i < w.heap.size := fun i hi => (hC.arr i hi).lt
  have H : Hid ((∀ i, i < k → gs i < w.heap.size) ∧ ¬ Gs gs k b0 ∧ ¬ Gs gs k b1 ∧ (∀ i, i < k → cs[i]!.length = d) ∧ cs.length = k) := ⟨hG, n0, n1, hcd, hk⟩
  have L : Hid (RdV w0 lv l ∧ Gb w0 w ∧ (∀ b, Gs gs k b → w0.heap.size ≤ b)) := ⟨hl, g0, fun b ⟨i, hi, e⟩ => by rw [e]; exact hC.base i hi⟩
  have O : Hid (∀ j, j < l.length → l[j]!.length = d ∧ allR l[j]! = true) := fun j hj => by have := hlo.get hj; exact ⟨by omega, this.2.2.2⟩
  obtain ⟨al, cl, rfl, _⟩ := hl
  have hd64 : d ≤ 64 := by have := hco.get (i := 0) (by omega); omega
  obtain ⟨nl, hnl⟩ : ∃ nl, nl = l.length := ⟨_, rfl⟩
  rw [← hnl] at cb' L x0
  have NL : Hid (nl = l.length) := hnl
  have y0 := x0.cell
  have y1 := x1.cell
  clear hlo hco hcd hG n0 n1 hnl
  go_enter Try.func77, Try.ntmps77
  go_wp2_with fail
  refine cb'.mono ?_
  rintro e w1 ⟨us, rfl, hP⟩
  have X0 : Rd2 w0 w w1 cb b0 b1 w.heap.size gs cp us k d 0 l cs (.slice al nl cl) (.slice (some ⟨cb, 0, none⟩) k k) := by
    have hP' := hP
    rw [NL.out] at hP'
    exact ⟨by simpa using hC.gb hP.gb, hP.row, hP'.own, (hP.gb.block _ x0.lt).trans x0, (hP.gb.block _ x1.lt).trans x1, Kp.gb hP.gb⟩
  clear cb' hP hC x0 x1 y0 y1
  have y0 := X0.x0.cell
  have y1 := X0.x1.cell
  go_wp2
  clear y0 y1
  go_loopw [9] (fun iv W => ∃ q : Nat, iv = .int .i64 (q : Int) ∧ q ≤ k ∧ Hid (Rd2 w0 w W cb b0 b1 w.heap.size gs cp us k d q l cs (.slice al nl cl) (.slice (some ⟨cb, 0, none⟩) k k))) (fun iv _ => k - (intOf iv).toNat)
  case atStart => exact ⟨0, rfl, Nat.zero_le _, X0⟩
  case round =>
    clear X0
    obtain ⟨q, rfl, hq, X⟩ := hrel
    by_cases hqn : q < k
    · have hqi : (q : Int) < (k : Int) := by omega
      have y0 := X.out.x0.cell
      have y1 := X.out.x1.cell
      have r0 := X.out.cen.row.cell hqn
      have r1 := X.out.row.cell hqn
      have hA := X.out.cen.arr q hqn
      simp only [Nat.lt_irrefl, if_false] at hA
      have hro := X.out.own q hqn
      have cm := fun W (gW : Gb wr W) => (move_c (w := W) (lv := .slice al nl cl) (pv := us q) (l := l) (g := gs q) (d := d) (cap := cp q) (f := cenF cs q) (ps := belTo cs l q l.length)
        (fun W' hK => L.out.1.gb (((Kp.gb gW).trans hK).below (X.out.kp.below L.out.2.1 L.out.2.2) (fun b e => by rw [e]; exact L.out.2.2 _ ⟨q, hqn, rfl⟩)))
        (fun W' hK => (own_kp hro ((Kp.gb gW).trans hK) (fun b e e2 => by have := (own_lt hro e).2; have := H.out.1 q hqn; omega)).rd) (arr_kp (S := fun _ => False) hA (Kp.gb gW) id) hd64
        (fun i hi => belTo_lt (by rw [getElem!_pos _ i hi]; exact List.getElem_mem hi)) (Nat.le_trans (belTo_len _ _ _ _) hn) O.out)
      obtain ⟨nu, pu, cu, eu⟩ : ∃ nu pu cu, us q = .slice pu nu cu := by obtain ⟨pv, cv, ev, _⟩ := hro.rd; exact ⟨_, pv, cv, ev⟩
      rw [eu] at r1 cm
      have nn : gs q ≠ b1 ∧ gs q ≠ cb ∧ gs q ≠ b0 ∧ gs q ≠ w.heap.size := ⟨fun e => H.out.2.2.1 ⟨q, hqn, e.symm⟩, X.out.cen.ne q hqn, fun e => H.out.2.1 ⟨q, hqn, e.symm⟩, by have := H.out.1 q hqn; omega⟩
      obtain ⟨z1, z2, z3, z4⟩ := nn
      have Z : Hid (¬ b1 = gs q ∧ ¬ cb = gs q ∧ ¬ b0 = gs q ∧ ¬ w.heap.size = gs q) := ⟨fun e => z1 e.symm, fun e => z2 e.symm, fun e => z3 e.symm, fun e => z4 e.symm⟩
      have hgq := H.out.1 q hqn
      clear hA hro z1 z2 z3 z4 hgq
      have XN : Hid (∀ W', Rn.Arr W' (gs q) d (cp q) (midF l (cenF cs q) (belTo cs l q l.length)) → Kp (fun b => b = gs q) wr.drew W' → Rd2 w0 w W' cb b0 b1 w.heap.size gs cp us k d (q + 1) l cs (.slice al nl cl) (.slice (some ⟨cb, 0, none⟩) k k)) :=
        fun W' a b => X.out.next hqn H.out.1 (Nat.le_refl _) H.out.2.1 H.out.2.2.1 a ((Kp.gb (Below.refl _ _).drew).trans b)
      generalize gs q = gq at *
      generalize cp q = cq at *
      clear X eu
      go_wp2
      go_region_held3 (fun w' => w'.cell? ⟨b1, 0, none⟩ = some (.slice (some ⟨cb, 0, none⟩) k k) ∧ w'.cell? ⟨cb, q, none⟩ = some (.slice (some ⟨gq, 0, none⟩) d cq) ∧ w'.cell? ⟨b0, 0, none⟩ = some (.slice al nl cl) ∧ w'.cell? ⟨w.heap.size, q, none⟩ = some (.slice pu nu cu))
        (first | (with_reducible exact four_kp (by assumption) Z.out.1 Z.out.2.1 Z.out.2.2.1 Z.out.2.2.2 (by assumption)) | exact ⟨y1, r0, y0, r1⟩)
        (first | (go_at_call 79; refine (cm _ (Below.refl _ _).drew).mono ?_; rintro e w4 ⟨rfl, hA4, g4⟩))
      all_goals
        have X4 := XN.out _ hA4 g4
        clear cm hA4 g4 XN
        go_wp2
        first | (refine ⟨⟨q + 1, by go_num, hqn, X4⟩, by simp [intOf]; omega⟩) | trace_state
    · have hqi : ¬ (q : Int) < (k : Int) := by omega
      have hqk : q = k := by omega
      subst hqk
      have X' := X.out
      have HH := H.out
      clear X H L O
      go_wp2
      refine bodyPost_end (results_none rfl _ _ _) rfl ?_
      exact ⟨rfl, ⟨X'.cen.row, fun i hi => (X'.cen.arr i hi).congr (fun t ht => by simp only [if_pos hi]; exact midF_is (HH.2.2.2.1 i hi) ht (by rw [HH.2.2.2.2]; exact hi)), X'.cen.base, X'.cen.hB, X'.cen.ne, X'.cen.inj⟩, X'.kp⟩
end Go.Proofs.Ytblfmhdcgmkpgaa
