/- cert.certainty and cert.Certain. -/
import Derived.Test.YtdmdjmliggjbjaaGreatCt38
namespace Go.Proofs.YtdmdjmliggjbjaaGreat
open Go.RowKit Go.Sort Go.Maps Go.Shelf

theorem cer1_c {W : World} {A K nh : Nat} {x : Option Addr} {y : Nat} {k : Int} {b : Bool} (h : W.cell? ⟨A, 0, none⟩ = some (.slice x nh y)) (h2 : W.cell? ⟨K, 0, none⟩ = some (.int .i64 k)) (hb : ((nh : Int) == k) = b) :
    Calls Tryz.prog 43 #[.pointer (some ⟨A, 0, none⟩), .pointer (some ⟨K, 0, none⟩)] W fun e w' => e = .returned (.bool b) ∧ Gb W w' := by
  go_enter Tryz.func43, Tryz.ntmps43
  go_wp2
  go_ret
  exact ⟨by first | rfl | (rw [← hb]; rfl), Below.refl _ _⟩
set_option maxRecDepth 100000 in
set_option maxHeartbeats 2000000 in
theorem cer2_c {W : World} {A Q K : Nat} {vh vr u : Value} {hs : List Tk.Ht} {l : List Reg} {q : List Int} {k : Nat} (c0 : W.cell? ⟨A, 0, none⟩ = some vh) (c1 : W.cell? ⟨A, 2, none⟩ = some vr) (c2 : W.cell? ⟨Q, 0, none⟩ = some u) (c3 : W.cell? ⟨K, 0, none⟩ = some (.int .i64 (k : Int)))
    (hh : Tk.Rd W vh hs) (hr : RdL W vr l) (hu : RdI W u q) (hk : 1 ≤ k ∧ k ≤ 64) (hl : hs.length = k) (hn : l.length ≤ 100000) (hI : ∀ r ∈ l, r.I.length ≤ 100000 ∧ r.R < 340282366920938463463374607431768211456) (hd : hs[k - 1]!.2.1 = hi (dnH hs[k - 1]!) ∧ hs[k - 1]!.2.2 = lo (dnH hs[k - 1]!)) :
    Calls Tryz.prog 44 #[.pointer (some ⟨A, 0, none⟩), .pointer (some ⟨Q, 0, none⟩), .pointer (some ⟨K, 0, none⟩)] W fun e w' => e = .returned (.bool (noneR (nearR q (dnH hs[k - 1]!)) l)) ∧ Gb W w' := by
  have cb := fun W2 (g : Gb W W2) => isBeyond_c (far := dnH hs[k - 1]!) (hr.gb g) (hu.gb g) (by omega) (fun r hr => ⟨by have := (hI r hr).1; omega, (hI r hr).2⟩)
  obtain ⟨k1, hk1⟩ : ∃ k1, k1 = k - 1 := ⟨_, rfl⟩
  obtain ⟨ah, ch, evh, hH⟩ := hh.form
  obtain ⟨b, o, ea, hL⟩ := hH k1 (by omega)
  obtain ⟨_, h1, h2⟩ := hL k1 (by omega)
  subst evh; subst ea
  rw [← hk1] at cb hd ⊢
  have f1 : hs[k1]!.hi = hi (dnH hs[k1]!) := hd.1
  have f2 : hs[k1]!.lo = lo (dnH hs[k1]!) := hd.2
  rw [f1] at h1
  rw [f2] at h2
  obtain ⟨a1, ca1, rfl, z1⟩ := hr
  obtain ⟨a2, ca2, rfl, z2⟩ := hu
  have hki : (k : Int) - 1 = (k1 : Int) := by omega
  have hkw : IntKind.i64.wrap (k1 : Int) = (k1 : Int) := wrapN (by omega)
  have hkn : (k1 : Int) < ((hs.length : Nat) : Int) := by omega
  have hk0 : (0 : Int) ≤ (k1 : Int) := by omega
  have GD : Gb W W.drew := ⟨rfl, rfl, rfl, Nat.le_refl _, fun _ _ => rfl⟩
  obtain ⟨res, hres⟩ : ∃ res, res = noneR (nearR q (dnH hs[k1]!)) l := ⟨_, rfl⟩
  rw [← hres] at cb ⊢
  generalize hi (dnH hs[k1]!) = f1 at *
  generalize lo (dnH hs[k1]!) = f2 at *
  clear hres hH hL hd f1 f2 z1 z2 hI hl hk hk1 hh
  generalize hs.length = nh at *
  generalize l.length = n at *
  generalize q.length = m at *
  go_enter Tryz.func44, Tryz.ntmps44
  go_wp2_with fail
  refine wp_region_held_drew (S := fun W2 => Gb W W2) (by kernel_rfl) (GD) (fun hHeld => ?_)
  refine wpAnyH_take (i := 0) (v := ?_) rfl (by kernel_rfl) (by kernel_rfl) (by kernel_rfl) (fun _ _ _ h => h) (Or.inl ⟨by rfl, ?_⟩) (by assumption) ?_
  rotate_left 1
  · (intro w hSw; (have s0 := gb_keeps hSw c0; have s1 := gb_keeps hSw c1; have s2 := gb_keeps hSw c2; have s3 := gb_keeps hSw c3; have s4 := gb_keeps hSw h1; have s5 := gb_keeps hSw h2); go_simp; try with_reducible rfl)
  try simp only [Act.put, List.getElem_toArray, List.getElem_cons_zero, List.setIfInBounds_toArray, List.set_cons_zero, List.set_cons_succ]
  refine wpAnyH_take (i := 1) (v := ?_) rfl (by kernel_rfl) (by kernel_rfl) (by kernel_rfl) (fun _ _ _ h => h) (Or.inl ⟨by rfl, ?_⟩) (by assumption) ?_
  rotate_left 1
  · (intro w hSw; (have s0 := gb_keeps hSw c0; have s1 := gb_keeps hSw c1; have s2 := gb_keeps hSw c2; have s3 := gb_keeps hSw c3; have s4 := gb_keeps hSw h1; have s5 := gb_keeps hSw h2); go_simp; try with_reducible rfl)
  try simp only [Act.put, List.getElem_toArray, List.getElem_cons_zero, List.getElem_cons_succ, List.setIfInBounds_toArray, List.set_cons_zero, List.set_cons_succ]
  refine wpAnyH_take (i := 2) (v := ?_) rfl (by kernel_rfl) (by kernel_rfl) (by kernel_rfl) (fun _ _ _ h => h) (Or.inl ⟨by rfl, ?_⟩) (by assumption) ?_
  rotate_left 1
  · (intro w hSw; (have s0 := gb_keeps hSw c0; have s1 := gb_keeps hSw c1; have s2 := gb_keeps hSw c2; have s3 := gb_keeps hSw c3; have s4 := gb_keeps hSw h1; have s5 := gb_keeps hSw h2); go_simp; try with_reducible rfl)
  try simp only [Act.put, List.getElem_toArray, List.getElem_cons_zero, List.getElem_cons_succ, List.setIfInBounds_toArray, List.set_cons_zero, List.set_cons_succ]
  refine wpAnyH_take (i := 3) (v := ?_) rfl (by kernel_rfl) (by kernel_rfl) (by kernel_rfl) (fun _ _ _ h => h) (Or.inl ⟨by rfl, ?_⟩) (by assumption) ?_
  rotate_left 1
  · (intro w hSw; (have s0 := gb_keeps hSw c0; have s1 := gb_keeps hSw c1; have s2 := gb_keeps hSw c2; have s3 := gb_keeps hSw c3; have s4 := gb_keeps hSw h1; have s5 := gb_keeps hSw h2); go_simp; try with_reducible rfl)
  try simp only [Act.put, List.getElem_toArray, List.getElem_cons_zero, List.getElem_cons_succ, List.setIfInBounds_toArray, List.set_cons_zero, List.set_cons_succ]
  refine wpAnyH_take (i := 4) (v := ?_) rfl (by kernel_rfl) (by kernel_rfl) (by kernel_rfl) (fun _ _ _ h => h) (Or.inl ⟨by rfl, ?_⟩) (by assumption) ?_
  rotate_left 1
  · (intro w hSw; (have s0 := gb_keeps hSw c0; have s1 := gb_keeps hSw c1; have s2 := gb_keeps hSw c2; have s3 := gb_keeps hSw c3; have s4 := gb_keeps hSw h1; have s5 := gb_keeps hSw h2); go_simp; try with_reducible rfl)
  try simp only [Act.put, List.getElem_toArray, List.getElem_cons_zero, List.getElem_cons_succ, List.setIfInBounds_toArray, List.set_cons_zero, List.set_cons_succ]
  refine wpAnyH_take (i := 5) (v := ?_) rfl (by kernel_rfl) (by kernel_rfl) (by kernel_rfl) (fun _ _ _ h => h) (Or.inl ⟨by rfl, ?_⟩) (by assumption) ?_
  rotate_left 1
  · (intro w hSw; (have s0 := gb_keeps hSw c0; have s1 := gb_keeps hSw c1; have s2 := gb_keeps hSw c2; have s3 := gb_keeps hSw c3; have s4 := gb_keeps hSw h1; have s5 := gb_keeps hSw h2); go_simp; try with_reducible rfl)
  try simp only [Act.put, List.getElem_toArray, List.getElem_cons_zero, List.getElem_cons_succ, List.setIfInBounds_toArray, List.set_cons_zero, List.set_cons_succ]
  refine wpAnyH_take (i := 6) (v := ?_) rfl (by kernel_rfl) (by kernel_rfl) (by kernel_rfl) (fun _ _ _ h => h) (Or.inl ⟨by rfl, ?_⟩) (by assumption) ?_
  rotate_left 1
  · (intro w hSw; (have s0 := gb_keeps hSw c0; have s1 := gb_keeps hSw c1; have s2 := gb_keeps hSw c2; have s3 := gb_keeps hSw c3; have s4 := gb_keeps hSw h1; have s5 := gb_keeps hSw h2); go_simp; try with_reducible rfl)
  try simp only [Act.put, List.getElem_toArray, List.getElem_cons_zero, List.getElem_cons_succ, List.setIfInBounds_toArray, List.set_cons_zero, List.set_cons_succ]
  refine wpAnyH_take (i := 7) (v := ?_) rfl (by kernel_rfl) (by kernel_rfl) (by kernel_rfl) (fun _ _ _ h => h) (Or.inl ⟨by rfl, ?_⟩) (by assumption) ?_
  rotate_left 1
  · (intro w hSw; (have s0 := gb_keeps hSw c0; have s1 := gb_keeps hSw c1; have s2 := gb_keeps hSw c2; have s3 := gb_keeps hSw c3; have s4 := gb_keeps hSw h1; have s5 := gb_keeps hSw h2); go_simp; try with_reducible rfl)
  try simp only [Act.put, List.getElem_toArray, List.getElem_cons_zero, List.getElem_cons_succ, List.setIfInBounds_toArray, List.set_cons_zero, List.set_cons_succ]
  refine wpAnyH_take (i := 8) (v := ?_) rfl (by kernel_rfl) (by kernel_rfl) (by kernel_rfl) (fun _ _ _ h => h) (Or.inl ⟨by rfl, ?_⟩) (by assumption) ?_
  rotate_left 1
  · (intro w hSw; (have s0 := gb_keeps hSw c0; have s1 := gb_keeps hSw c1; have s2 := gb_keeps hSw c2; have s3 := gb_keeps hSw c3; have s4 := gb_keeps hSw h1; have s5 := gb_keeps hSw h2); go_simp; try with_reducible rfl)
  try simp only [Act.put, List.getElem_toArray, List.getElem_cons_zero, List.getElem_cons_succ, List.setIfInBounds_toArray, List.set_cons_zero, List.set_cons_succ]
  refine wpAnyH_take (i := 9) (v := ?_) rfl (by kernel_rfl) (by kernel_rfl) (by kernel_rfl) (fun _ _ _ h => h) (Or.inl ⟨by rfl, ?_⟩) (by assumption) ?_
  rotate_left 1
  · (intro w hSw; (have s0 := gb_keeps hSw c0; have s1 := gb_keeps hSw c1; have s2 := gb_keeps hSw c2; have s3 := gb_keeps hSw c3; have s4 := gb_keeps hSw h1; have s5 := gb_keeps hSw h2); go_simp; try with_reducible rfl)
  try simp only [Act.put, List.getElem_toArray, List.getElem_cons_zero, List.getElem_cons_succ, List.setIfInBounds_toArray, List.set_cons_zero, List.set_cons_succ]
  refine wpAnyH_ready (rs := [10]) (by kernel_rfl) (by simp) ?_
  refine AllReadyH.cons rfl (fun K hK => ?_) AllReadyH.nil
  go_simp
  refine (cb _ hHeld).mono ?_
  rintro e wa ⟨rfl, ga⟩
  refine hK.out _ _ (gb_trans hHeld ga) (fun hHeld => ?_)
  clear hK K
  try simp only [Act.put, List.getElem_toArray, List.getElem_cons_zero, List.getElem_cons_succ, List.setIfInBounds_toArray, List.set_cons_zero, List.set_cons_succ]
  refine wpAnyH_take (i := 11) (v := ?_) rfl (by kernel_rfl) (by kernel_rfl) (by kernel_rfl) (fun _ _ _ h => h) (Or.inl ⟨by rfl, ?_⟩) (by assumption) ?_
  rotate_left 1
  · (intro w hSw; (have s0 := gb_keeps hSw c0; have s1 := gb_keeps hSw c1; have s2 := gb_keeps hSw c2; have s3 := gb_keeps hSw c3; have s4 := gb_keeps hSw h1; have s5 := gb_keeps hSw h2); go_simp; try with_reducible rfl)
  try simp only [Act.put, List.getElem_toArray, List.getElem_cons_zero, List.getElem_cons_succ, List.setIfInBounds_toArray, List.set_cons_zero, List.set_cons_succ]
  refine wpAnyH_done (by kernel_rfl) ?_ _
  go_wp2
  go_ret
  exact ⟨rfl, hHeld⟩

/-- What a sound answer that is certain is. -/
theorem cer_iff {rs : List Rw} {q : List Int} {k : Nat} {a : Ans} (hask : askE rs q = 0) (h : SoundQ rs q k a) (hne : a.rest ≠ []) : (a.hits.length = k ∧ noneR (nearR q (dnH a.hits[k - 1]!)) a.rest = true) ↔ certB q k a = true := by
  obtain ⟨srs, h⟩ := h
  have hq := (askE_zero.1 hask).1
  have hl : a.hits.length ≤ k := by rw [h.hits, Tk.firsts_len]; omega
  have hall : noneR (nearR q (dnH a.hits[k - 1]!)) a.rest = a.rest.all fun r => decide (dnH a.hits[k - 1]! < bdV r q) := by
    unfold noneR
    rw [Bool.eq_iff_iff, Bool.not_eq_true', List.any_eq_false, List.all_eq_true]
    refine forall_congr' fun r => forall_congr' fun hr => ?_
    have c : ckB r q = 0 := by unfold ckB; rw [if_pos (h.reg r hr).1]; exact hq
    unfold nearR bndV
    rw [if_pos c, decide_eq_true c]
    simp only [Bool.not_true, Bool.false_or, decide_eq_true_eq, Nat.not_le]
  have he : a.rest.isEmpty = false := by
    cases hr : a.rest with
    | nil => exact absurd hr hne
    | cons => rfl
  unfold certB
  rw [he, Bool.false_or, Bool.and_eq_true, decide_eq_true_eq, hall]
  constructor
  · rintro ⟨h1, h2⟩; exact ⟨by omega, h2⟩
  · rintro ⟨h1, h2⟩; exact ⟨by omega, h2⟩
/-- What Certain tells. -/
def CeOut (w : World) (rs : List Rw) (q : List Int) (k : Int) (a : Ans) (e : Ending) (w' : World) : Prop :=
  ∃ b : Bool, e = .returned (.tuple #[.bool b, .int .i64 (topE rs q k)]) ∧ Gb w w' ∧ (topE rs q k ≠ 0 → b = false) ∧ (topE rs q k = 0 → (b = true ↔ SoundQ rs q k.toNat a ∧ certB q k.toNat a = true))
/-- The demands of certainty. -/
def CdOut (w : World) (vh _vs vr u : Value) (k : Int) (e : Ending) (w' : World) : Prop :=
  ∃ Q K A B, e = .returned (.slice (some ⟨B, 0, none⟩) 2 2) ∧ Gb w w' ∧ w'.cell? ⟨Q, 0, none⟩ = some u ∧ w'.cell? ⟨K, 0, none⟩ = some (.int .i64 k) ∧ w'.cell? ⟨A, 0, none⟩ = some vh ∧ w'.cell? ⟨A, 2, none⟩ = some vr ∧
    w'.cell? ⟨B, 0, none⟩ = some (.func (.func 43) #[] #[.pointer (some ⟨A, 0, none⟩), .pointer (some ⟨K, 0, none⟩)]) ∧
    w'.cell? ⟨B, 1, none⟩ = some (.func (.func 44) #[] #[.pointer (some ⟨A, 0, none⟩), .pointer (some ⟨Q, 0, none⟩), .pointer (some ⟨K, 0, none⟩)])
theorem certainty_nil {w : World} {x1 x2 x3 x4 : Option Addr} {n1 n2 n3 c1 c2 c3 c4 : Nat} {k : Int} :
    Calls Tryz.prog 21 #[.slice x1 n1 c1, .int .i64 k, .agg #[.slice x2 n2 c2, .slice x3 n3 c3, .slice x4 0 c4]] w fun e w' => e = .returned (.slice none 0 0) ∧ Gb w w' := by
  go_enter Tryz.func21, Tryz.ntmps21
  go_wp2
  go_ret
  exact ⟨rfl, gb_alloc (gb_alloc (gb_alloc (Below.refl _ _) _) _) _⟩
theorem certainty_c {w : World} {x1 x2 x3 x4 : Option Addr} {n1 n2 n3 n4 c1 c2 c3 c4 : Nat} {k : Int} (h : n4 ≠ 0) :
    Calls Tryz.prog 21 #[.slice x1 n1 c1, .int .i64 k, .agg #[.slice x2 n2 c2, .slice x3 n3 c3, .slice x4 n4 c4]] w fun e w' => CdOut w (.slice x2 n2 c2) (.slice x3 n3 c3) (.slice x4 n4 c4) (.slice x1 n1 c1) k e w' := by
  have h0 : ((n4 : Int) == 0) = false := by rw [beq_eq_false_iff_ne]; omega
  clear h
  go_enter Tryz.func21, Tryz.ntmps21
  go_wp2
  generalize hWe : World.alloc _ _ = We
  have G2 : Gb w We := by rw [← hWe]; exact gb_alloc (gb_alloc (gb_alloc (gb_alloc (Below.refl _ _) _) _) _) _
  go_ret
  refine ⟨w.heap.size, w.heap.size + 1, w.heap.size + 1 + 1, w.heap.size + 1 + 1 + 1, rfl, G2, ?_, ?_, ?_, ?_, ?_, ?_⟩
  all_goals (rw [← hWe]; simp [go_sem])
theorem two {P : Nat → Prop} (h0 : P 0) (h1 : P 1) : ∀ i, i < 2 → P i
  | 0, _ => h0
  | 1, _ => h1
  | i + 2, h => absurd h (by omega)
def cerF (i : Nat) : Nat := match i with
  | 0 => 43
  | _ => 44
def cerV (Q K A : Nat) (i : Nat) : Array Value := match i with
  | 0 => #[.pointer (some ⟨A, 0, none⟩), .pointer (some ⟨K, 0, none⟩)]
  | _ => #[.pointer (some ⟨A, 0, none⟩), .pointer (some ⟨Q, 0, none⟩), .pointer (some ⟨K, 0, none⟩)]
def cerB (b0 b1 : Bool) (i : Nat) : Bool := match i with
  | 0 => b0
  | _ => b1
set_option maxRecDepth 100000 in
set_option maxHeartbeats 2000000 in
/-- The demands of certainty are asked, of a sound answer. -/
theorem cdem_c {w w' : World} {u vh vs vr : Value} {rs : List Rw} {q : List Int} {a : Ans} {k : Nat} (hu : RdI w u q) (ha : RdA w vh vs vr a) (hin : InA a) (hask : askE rs q = 0) (hk : 1 ≤ k ∧ k ≤ 64) (hs : SoundQ rs q k a) (hne : a.rest ≠ []) {e : Ending} (h : CdOut w vh vs vr u (k : Int) e w') :
    ∃ B, e = .returned (.slice (some ⟨B, 0, none⟩) 2 2) ∧ Gb w w' ∧ Calls Tryz.prog 19 #[.slice (some ⟨B, 0, none⟩) 2 2] w' fun e w2 => ∃ b : Bool, e = .returned (.bool b) ∧ Gb w' w2 ∧ (b = true ↔ certB q k a = true) := by
  obtain ⟨Q, K, A, B, rfl, hg, cQ, cK, c0, c2, f0, f1⟩ := h
  refine ⟨B, rfl, hg, ?_⟩
  obtain ⟨x3, y3, evh, _⟩ := ha.hits.form
  have c := allMet_c (w := w') (a := some ⟨B, 0, none⟩) (cap := 2) (n := 2) (fn := cerF) (fc := cerV Q K A) (bs := cerB ((a.hits.length : Int) == (k : Int)) (noneR (nearR q (dnH a.hits[k - 1]!)) a.rest))
    (two ⟨B, 0, rfl, f0⟩ ⟨B, 0, rfl, f1⟩) (by decide)
    (two (enters_of Tryz.func43 (by kernel_rfl) rfl) (enters_of Tryz.func44 (by kernel_rfl) rfl))
    (two (fun _ W g2 => cer1_c (x := x3) (y := y3) (by rw [← evh]; exact gb_keeps g2 c0) (gb_keeps g2 cK) rfl)
      (fun hA W g2 => by
        have e0 : ((a.hits.length : Int) == (k : Int)) = true := hA 0 (by decide)
        have e1 : a.hits.length = k := by have := beq_iff_eq.1 e0; omega
        refine cer2_c (gb_keeps g2 c0) (gb_keeps g2 c2) (gb_keeps g2 cQ) (gb_keeps g2 cK) (ha.hits.gr (gb_trans hg g2)) (ha.rest.gb (gb_trans hg g2)) (hu.gb (gb_trans hg g2)) hk e1 hin.rest (fun r hr => ⟨hin.I r hr, hin.R r hr⟩) ?_
        obtain ⟨srs, hs⟩ := hs
        have hm : a.hits[k - 1]! ∈ a.hits := by
          have : k - 1 < a.hits.length := by omega
          rw [getElem!_pos a.hits (k - 1) this]; exact List.getElem_mem _
        have hm' := hm
        rw [hs.hits] at hm'
        have hm2 : a.hits[k - 1]! ∈ Tk.firsts k (hitsOf q srs) := by rw [← hs.hits]; exact hm
        obtain ⟨r, _, er⟩ := chit_form hm2
        rw [er, cdn_hit]
        exact ⟨rfl, rfl⟩))
  refine c.mono ?_
  rintro e w2 ⟨⟨b, rfl, hb⟩, g2⟩
  refine ⟨b, rfl, g2, ?_⟩
  rw [hb, ← cer_iff hask hs hne]
  constructor
  · intro hA
    exact ⟨by have := beq_iff_eq.1 (hA 0 (by decide)); omega, hA 1 (by decide)⟩
  · rintro ⟨e0, e1⟩
    exact two (beq_iff_eq.2 (by omega)) e1
theorem allMet_nil {w : World} : Calls Tryz.prog 19 #[.slice none 0 0] w fun e w' => e = .returned (.bool true) ∧ Gb w w' := by
  refine (allMet_c (w := w) (a := none) (cap := 0) (n := 0) (fn := fun _ => 0) (fc := fun _ => #[]) (bs := fun _ => true) (fun i h => absurd h (Nat.not_lt_zero _)) (by decide) (fun i h => absurd h (Nat.not_lt_zero _)) (fun i h => absurd h (Nat.not_lt_zero _))).mono ?_
  rintro e w' ⟨⟨b, rfl, hb⟩, g⟩
  exact ⟨by rw [hb.2 (fun _ _ => rfl)], g⟩
set_option maxRecDepth 100000 in
set_option maxHeartbeats 2000000 in
theorem Certain_c {w : World} {v u vh vs vr : Value} {rs : List Rw} {q : List Int} {a : Ans} {k : Int} (hv : RdW w v rs) (hu : RdI w u q) (ha : RdA w vh vs vr a) (hin : InA a) (hwf : Wf rs) :
    Calls Tryz.prog 10 #[v, u, .int .i64 k, .agg #[vh, vs, vr]] w fun e w' => CeOut w rs q k a e w' := by
  obtain ⟨W0, hW0⟩ : ∃ W0, W0 = w.alloc (.cells #[vh, vs, vr] 27) := ⟨_, rfl⟩
  have G0 : Hid (Gb w W0) := by unfold Hid; rw [hW0]; exact gb_alloc (Below.refl _ _) _
  have ct := Sound_c (k := k) (hv.gb G0.out) (hu.gb G0.out) (ha.gb G0.out) hin hwf
  have U : Hid (RdI w u q) := hu
  have A : Hid (RdA w vh vs vr a) := ha
  have HI : Hid (InA a ∧ Wf rs) := ⟨hin, hwf⟩
  have BX : Hid (W0.cell? ⟨w.heap.size, 0, none⟩ = some vh ∧ W0.cell? ⟨w.heap.size, 1, none⟩ = some vs ∧ W0.cell? ⟨w.heap.size, 2, none⟩ = some vr) := by
    unfold Hid; rw [hW0]; exact ⟨by simp [go_sem], by simp [go_sem], by simp [go_sem]⟩
  obtain ⟨x1, y1, rfl, z1⟩ := hv
  obtain ⟨x2, y2, rfl, z2⟩ := hu
  obtain ⟨x3, y3, evh, z3⟩ := ha.hits.form
  obtain ⟨x4, y4, evs, z4⟩ := ha.seen
  obtain ⟨x5, y5, evr, z5⟩ := ha.rest
  subst evh; subst evs; subst evr
  clear z1 z2 z3 z4 z5 ha hin hwf
  obtain ⟨n5, hn5⟩ : ∃ n5, n5 = a.rest.length := ⟨_, rfl⟩
  have N5 : Hid (n5 = a.rest.length) := hn5
  rw [← hn5] at ct A BX hW0 ⊢
  generalize hn1 : rs.length = n1 at *
  generalize hn2 : q.length = n2 at *
  generalize hn3 : a.hits.length = n3 at *
  generalize hn4 : a.seen.length = n4 at *
  clear hn1 hn2 hn3 hn4 hn5
  go_enter Tryz.func10, Tryz.ntmps10
  go_wp2_with fail
  rw [← hW0]
  go_fit ct
  rintro e w1 ⟨b1, rfl, g1, hno, hyes⟩
  have G1 : Hid (Gb W0 w1) := g1
  have GW : Hid (Gb w w1) := gb_trans G0.out G1.out
  have HY : Hid ((topE rs q k ≠ 0 → b1 = false) ∧ (topE rs q k = 0 → (b1 = true ↔ SoundQ rs q k.toNat a))) := ⟨hno, hyes⟩
  clear ct hno hyes g1 hW0
  cases b1 with
  | false =>
    have FO : Hid (CeOut w rs q k a (.returned (.tuple #[.bool false, .int .i64 (topE rs q k)])) w1) := ⟨false, rfl, GW.out, fun _ => rfl, fun h => ⟨fun h2 => (by cases h2), fun h2 => absurd ((HY.out.2 h).2 h2.1) (by decide)⟩⟩
    generalize topE rs q k = x at *
    clear HY
    go_wp2
    go_ret2
    exact FO.out
  | true =>
    have TP : Hid (topE rs q k = 0) := by
      unfold Hid
      by_cases h : topE rs q k = 0
      · exact h
      · exact absurd (HY.out.1 h) (by decide)
    have SQ : Hid (SoundQ rs q k.toNat a) := (HY.out.2 TP.out).1 rfl
    rw [TP.out]
    obtain ⟨hk1, hk2⟩ := (topE_zero.1 TP.out).2
    obtain ⟨kn, hkn⟩ : ∃ kn : Nat, kn = k.toNat := ⟨_, rfl⟩
    have hkk : k = (kn : Int) := by omega
    have KN : Hid (k.toNat = kn ∧ 1 ≤ kn ∧ kn ≤ 64) := ⟨hkn.symm, by omega, by omega⟩
    obtain ⟨b0, b1, b2⟩ := BX.out
    have b0 := gb_keeps G1.out b0
    have b1 := gb_keeps G1.out b1
    have b2 := gb_keeps G1.out b2
    clear hkn hk1 hk2 HY
    by_cases hr0 : n5 = 0
    · have CB : Hid (certB q k.toNat a = true) := by
        have : a.rest = [] := List.eq_nil_of_length_eq_zero (by have := N5.out; omega)
        unfold Hid certB; rw [this]; rfl
      subst hr0
      have c1 := certainty_nil (w := w1) (x1 := x2) (x2 := x3) (x3 := x4) (x4 := x5) (n1 := n2) (n2 := n3) (n3 := n4) (c1 := y2) (c2 := y3) (c3 := y4) (c4 := y5) (k := k)
      clear hkk
      go_wp2_with fail
      go_fit c1
      rintro e w2 ⟨rfl, g2⟩
      have c2 := allMet_nil (w := w2)
      clear c1 b0 b1 b2
      go_wp2_with fail
      go_fit c2
      rintro e w3 ⟨rfl, g3⟩
      have FO : Hid (CeOut w rs q k a (.returned (.tuple #[.bool true, .int .i64 0])) w3) := ⟨true, by rw [TP.out], gb_trans GW.out (gb_trans g2 g3), fun h => absurd TP.out h, fun _ => ⟨fun _ => ⟨SQ.out, CB.out⟩, fun _ => rfl⟩⟩
      clear c2 g2 g3
      go_wp2
      go_ret2
      exact FO.out
    · have NE : Hid (a.rest ≠ []) := fun e => hr0 (by rw [N5.out, e]; rfl)
      have c1 := certainty_c (w := w1) (x1 := x2) (x2 := x3) (x3 := x4) (x4 := x5) (n1 := n2) (n2 := n3) (n3 := n4) (c1 := y2) (c2 := y3) (c3 := y4) (c4 := y5) (k := k) hr0
      have KK : Hid (k = (kn : Int)) := hkk
      clear hkk hr0
      go_wp2_with fail
      go_fit c1
      intro e w2 h2
      rw [KK.out] at h2
      obtain ⟨B, rfl, g2, cm⟩ := cdem_c (rs := rs) (U.out.gb GW.out) (A.out.gb GW.out) HI.out.1 (topE_zero.1 TP.out).1 KN.out.2 (by rw [← KN.out.1]; exact SQ.out) NE.out h2
      clear c1 b0 b1 b2 h2
      go_wp2_with fail
      go_fit cm
      rintro e w3 ⟨b, rfl, g3, hb⟩
      have FO : Hid (CeOut w rs q k a (.returned (.tuple #[.bool b, .int .i64 0])) w3) := ⟨b, by rw [TP.out], gb_trans GW.out (gb_trans g2 g3), fun h => absurd TP.out h, fun _ => ⟨fun h => ⟨SQ.out, by rw [KN.out.1]; exact hb.1 h⟩, fun h => hb.2 (by rw [← KN.out.1]; exact h.2)⟩⟩
      clear cm hb g2 g3
      go_wp2
      go_ret2
      exact FO.out
end Go.Proofs.YtdmdjmliggjbjaaGreat
