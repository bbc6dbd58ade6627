import Derived.Test.YtbnljabeccebiabGreatKs4
import Derived.Test.YtbnljabeccebiabGreatKs8
import Derived.Test.YtbnljabeccebiabGreatKsReg
/- What flat answers, plainly: the hits of rows, their errors, the first k. -/
namespace Go.Proofs.YtbnljabeccebiabGreat
open Go.RowKit Go.Sort

/-- A row's hit for q; all rows'. -/
abbrev hitOf (q : List Int) (r : Rw) : Tk.Ht := (r.1, hi (dst q r.2), lo (dst q r.2))
def hitsOf (q : List Int) (rs : List Rw) : List Tk.Ht := rs.map (hitOf q)
/-- What flat.Check answers; checkAll; begin; Search. -/
def flatE (rs : List Rw) (d : Int) : Int := if 1 ≤ d ∧ d ≤ 64 then idsE rs d else 30
def askE (rs : List Rw) (q : List Int) : Int := if chk q (q.length : Int) = 0 then flatE rs (q.length : Int) else chk q (q.length : Int)
def topE (rs : List Rw) (q : List Int) (k : Int) : Int := if askE rs q = 0 then (if 1 ≤ k ∧ k ≤ 64 then 0 else 1) else askE rs q

theorem chk_is (l : List Int) (d : Int) : chk l d = 0 ∨ chk l d = 30 ∨ chk l d = 31 := by
  unfold chk vErr; (repeat' split) <;> simp
theorem rowE_is (rs : List Rw) (d : Int) (i : Nat) : rowE rs d i = 0 ∨ rowE rs d i = 30 ∨ rowE rs d i = 31 ∨ rowE rs d i = 50 := by
  unfold rowE
  split
  · rcases chk_is rs[i]!.2 d with h | h | h
    · exact .inl h
    · exact .inr (.inl h)
    · exact .inr (.inr (.inl h))
  · exact .inr (.inr (.inr rfl))
theorem rowsTo_is (rs : List Rw) (d : Int) : ∀ q, rowsTo rs d q = 0 ∨ rowsTo rs d q = 30 ∨ rowsTo rs d q = 31 ∨ rowsTo rs d q = 50
  | 0 => .inl rfl
  | q + 1 => by
    rw [rowsTo]
    split
    · exact rowE_is rs d q
    · exact rowsTo_is rs d q
theorem idsE_ne (rs : List Rw) (d : Int) : idsE rs d ≠ 1 := by
  unfold idsE
  split
  · rcases rowsTo_is rs d rs.length with h | h | h | h <;> rw [h] <;> decide
  · decide
theorem idsE_nil (d : Int) : idsE [] d = 0 := rfl
theorem flatE_box (rs : List Rw) (d : Int) : flatE rs d = if boxE rs d = 1 then 0 else boxE rs d := by
  unfold flatE boxE
  by_cases h : 1 ≤ d ∧ d ≤ 64
  · rw [if_pos h, if_pos h]
    by_cases h0 : rs.length = 0
    · obtain rfl := List.length_eq_zero_iff.1 h0
      rw [if_pos h0]; simp [idsE_nil]
    · rw [if_neg h0, if_neg (idsE_ne rs d)]
  · rw [if_neg h, if_neg h]; decide

theorem rowsTo_zero {rs : List Rw} {d : Int} : ∀ q, rowsTo rs d q = 0 ↔ ∀ i, i < q → rowE rs d i = 0
  | 0 => ⟨fun _ i hi => absurd hi (Nat.not_lt_zero _), fun _ => rfl⟩
  | q + 1 => by
    rw [rowsTo]
    constructor
    · intro h
      split at h
      · rename_i h0
        intro i hi
        by_cases e : i = q
        · subst e; exact h
        · exact (rowsTo_zero q).1 h0 i (by omega)
      · rename_i h0; exact absurd h h0
    · intro h
      rw [if_pos ((rowsTo_zero q).2 fun i hi => h i (by omega))]
      exact h q (by omega)
/-- Rows that may be. -/
structure RowsOk (rs : List Rw) (d : Int) : Prop where
  few : rs.length ≤ 512
  ids : (idsOf rs).Pairwise (· ≠ ·)
  row : ∀ r ∈ rs, okId r.1 = true ∧ chk r.2 d = 0
theorem rowE_zero {rs : List Rw} {d : Int} {i : Nat} : rowE rs d i = 0 ↔ ((idsOf rs).take i).contains rs[i]!.1 = false ∧ okId rs[i]!.1 = true ∧ chk rs[i]!.2 d = 0 := by
  unfold rowE
  split
  · rename_i h; exact ⟨fun e => ⟨h.1, h.2, e⟩, fun e => e.2.2⟩
  · rename_i h; exact ⟨fun e => by simp at e, fun e => absurd ⟨e.1, e.2.1⟩ h⟩
theorem ids_get {rs : List Rw} {i : Nat} (hi : i < rs.length) : (idsOf rs)[i]'(by simpa [idsOf] using hi) = rs[i]!.1 := by
  rw [getElem!_pos rs i hi]; simp [idsOf]
theorem idsE_zero {rs : List Rw} {d : Int} : idsE rs d = 0 ↔ RowsOk rs d := by
  unfold idsE
  constructor
  · intro h
    split at h
    · rename_i hn
      have h1 := (rowsTo_zero _).1 h
      refine ⟨hn, ?_, fun r hr => ?_⟩
      · rw [List.pairwise_iff_getElem]
        intro i j hi hj hij e
        have hi' : i < rs.length := by simpa [idsOf] using hi
        have hj' : j < rs.length := by simpa [idsOf] using hj
        have h2 := (rowE_zero.1 (h1 j hj')).1
        rw [← ids_get hj', ← e] at h2
        have : ((idsOf rs).take j).contains (idsOf rs)[i] = true := by
          rw [List.contains_iff_mem]
          exact List.mem_iff_getElem.2 ⟨i, by simp [idsOf]; omega, by simp⟩
        rw [this] at h2; cases h2
      · obtain ⟨i, hi, rfl⟩ := List.mem_iff_getElem.1 hr
        have h2 := rowE_zero.1 (h1 i hi)
        rw [getElem!_pos rs i hi] at h2
        exact h2.2
    · cases h
  · rintro ⟨h1, h2, h3⟩
    rw [if_pos h1, rowsTo_zero]
    intro i hi
    have h4 := h3 rs[i] (List.getElem_mem hi)
    rw [rowE_zero, getElem!_pos rs i hi]
    refine ⟨?_, h4⟩
    rw [← Bool.not_eq_true, List.contains_iff_mem]
    intro hm
    obtain ⟨j, hj, e⟩ := List.mem_iff_getElem.1 hm
    have hji : j < i := by have := hj; simp at this; omega
    have := List.pairwise_iff_getElem.1 h2 j i (by simp [idsOf]; omega) (by simp [idsOf]; omega) hji
    apply this
    rw [List.getElem_take] at e
    rw [e, ids_get hi, getElem!_pos rs i hi]
theorem RowsOk.perm {rs rs' : List Rw} {d : Int} (h : RowsOk rs d) (p : rs.Perm rs') : RowsOk rs' d :=
  ⟨by rw [← p.length_eq]; exact h.few, (List.Perm.pairwise_iff (fun h => Ne.symm h) (p.map _)).1 h.ids, fun r hr => h.row r (p.mem_iff.2 hr)⟩
theorem RowsOk.sub {rs rs' : List Rw} {d : Int} (h : RowsOk rs d) (p : rs'.Sublist rs) : RowsOk rs' d :=
  ⟨Nat.le_trans p.length_le h.few, h.ids.sublist (p.map _), fun r hr => h.row r (p.subset hr)⟩
theorem flatE_zero {rs : List Rw} {d : Int} : flatE rs d = 0 ↔ (1 ≤ d ∧ d ≤ 64) ∧ RowsOk rs d := by
  unfold flatE
  split
  · rename_i h; rw [idsE_zero]; exact ⟨fun e => ⟨h, e⟩, fun e => e.2⟩
  · rename_i h; exact ⟨fun e => by simp at e, fun e => absurd e.1 h⟩
theorem askE_zero {rs : List Rw} {q : List Int} : askE rs q = 0 ↔ chk q (q.length : Int) = 0 ∧ RowsOk rs (q.length : Int) := by
  unfold askE
  split
  · rename_i h
    have := chk_ok h
    rw [flatE_zero]
    exact ⟨fun e => ⟨h, e.2⟩, fun e => ⟨⟨by omega, by omega⟩, e.2⟩⟩
  · rename_i h; exact ⟨fun e => absurd e h, fun e => absurd e.1 h⟩
theorem topE_zero {rs : List Rw} {q : List Int} {k : Int} : topE rs q k = 0 ↔ askE rs q = 0 ∧ 1 ≤ k ∧ k ≤ 64 := by
  unfold topE
  split
  · rename_i h
    split
    · rename_i h1; simp [h, h1]
    · rename_i h1; simp [h]; omega
  · rename_i h; exact ⟨fun e => absurd e h, fun e => absurd e.1 h⟩
theorem row_dist {rs : List Rw} {q : List Int} (h : askE rs q = 0) {r : Rw} (hr : r ∈ rs) : distE q r.2 = 0 ∧ distV q r.2 = dst q r.2 := by
  obtain ⟨h1, h2⟩ := askE_zero.1 h
  have e : distE q r.2 = 0 := by unfold distE; rw [if_pos h1]; exact (h2.row r hr).2
  exact ⟨e, by unfold distV; rw [if_pos e]⟩

/-- The order of hits with distances that are numbers. -/
theorem hlt_hit (i j : Int) (m n : Nat) : Tk.hlt (i, hi m, lo m) (j, hi n, lo n) = true ↔ m < n ∨ m = n ∧ i < j := by
  rw [Tk.hlt_iff]
  unfold Tk.Ht.hi Tk.Ht.lo Tk.Ht.id hi lo
  dsimp only
  omega
theorem wd_one {m n : Nat} (h : hi m = hi n) (h' : lo m = lo n) : m = n := by
  unfold hi lo at *; omega
theorem hitsOf_len (q : List Int) (rs : List Rw) : (hitsOf q rs).length = rs.length := by simp [hitsOf]
theorem hitsOf_perm (q : List Int) {rs rs' : List Rw} (p : rs.Perm rs') : (hitsOf q rs).Perm (hitsOf q rs') := p.map _
theorem hitsOf_app (q : List Int) (a b : List Rw) : hitsOf q (a ++ b) = hitsOf q a ++ hitsOf q b := by simp [hitsOf]
theorem hitsOf_snoc (q : List Int) {rs : List Rw} {i : Nat} (hi' : i < rs.length) : hitsOf q (rs.take (i + 1)) = hitsOf q (rs.take i) ++ [hitOf q rs[i]!] := by
  rw [List.take_succ_eq_append_getElem hi', hitsOf_app, getElem!_pos rs i hi']; rfl
theorem hits_ids (q : List Int) (rs : List Rw) : (hitsOf q rs).map (·.1) = idsOf rs := by simp [hitsOf, idsOf]
theorem first_more (k : Nat) (l : List Tk.Ht) : Tk.firsts k l = (Tk.firsts (k + 1) l).take k := by
  unfold Tk.firsts; rw [List.take_take, Nat.min_eq_left (Nat.le_succ k)]

/-- The first k of two parts' first k. -/
theorem firsts_fold (k : Nat) (l m : List Tk.Ht) : Tk.firsts k (l ++ m) = Tk.firsts k (Tk.firsts k l ++ m) := by
  obtain ⟨r, hr⟩ : ∃ r, m = r.reverse := ⟨m.reverse, by simp⟩
  subst hr
  induction r with
  | nil =>
    rw [List.reverse_nil, List.append_nil, List.append_nil]
    unfold Tk.firsts
    rw [Tk.srt_of_srtd ((Tk.srt_srtd l).sublist (List.take_sublist k _)), List.take_take, Nat.min_self]
  | cons x r ih => rw [List.reverse_cons, ← List.append_assoc, Tk.firsts_snoc, ih, ← List.append_assoc, Tk.firsts_snoc]
theorem firsts_parts (k : Nat) (l m : List Tk.Ht) : Tk.firsts k (Tk.firsts k l ++ Tk.firsts k m) = Tk.firsts k (l ++ m) := by
  rw [← firsts_fold, Tk.firsts_perm k (List.perm_append_comm), ← firsts_fold, Tk.firsts_perm k (List.perm_append_comm)]
end Go.Proofs.YtbnljabeccebiabGreat

/- vec.CheckRegion and vec.checkBoth. -/
namespace Go.Proofs.YtbnljabeccebiabGreat
open Go.RowKit

/-- What CheckRegion answers. -/
def ckR (r : Reg) (d : Int) : Int :=
  if 1 ≤ d ∧ d ≤ 64 then (if uses r = true ∧ rise r.I = true then (if r.S = 2 then cornE r.L r.H d else if r.S = 3 then chk r.L d else 0) else 32) else 30

set_option maxHeartbeats 4000000 in
set_option maxRecDepth 100000 in
theorem checkRegion_c {w : World} {v : Value} {r : Reg} (h : RdR w v r) (hlen : r.I.length ≤ 4611686018427387904) (d : Int) :
    Calls Tryz.prog 117 #[v, .int .i64 d] w fun e w' => e = .returned (.int .i64 (ckR r d)) ∧ Gr w w' := by
  have HR : Hid (RdR w v r) := h
  obtain ⟨vl, vh, vi, rfl, hL, hH, hI⟩ := h
  have G0 : Gr w (w.alloc (rc r vl vh vi)) := (Gr.refl _).alloc _ _
  have RA : Hid (RegAt (w.alloc (rc r vl vh vi)) w.heap.size r vl vh vi) := RegAt.new w r vl vh vi
  have CU := fun b hb => uses_v (HR.out.gb G0.gb) b hb
  have CI := fun W' (g : Gr (w.alloc (rc r vl vh vi)) W') b hb => idsRise_v (hI.gb (G0.trans g).gb) hlen b hb
  have CC := fun W' (g : Gr (w.alloc (rc r vl vh vi)) W') e he => corners_v (hL.gb (G0.trans g).gb) (hH.gb (G0.trans g).gb) d e he
  have CK := fun W' (g : Gr (w.alloc (rc r vl vh vi)) W') e he => check_v (hL.gb (G0.trans g).gb) d e he
  have E : Hid (ckR r d = if 1 ≤ d ∧ d ≤ 64 then (if uses r = true ∧ rise r.I = true then (if r.S = 2 then cornE r.L r.H d else if r.S = 3 then chk r.L d else 0) else 32) else 30) := rfl
  obtain ⟨pl, cl, rfl, _⟩ := hL
  obtain ⟨ph, ch, rfl, _⟩ := hH
  obtain ⟨pi, ci, rfl, _⟩ := hI
  generalize ckR r d = res at *
  by_cases hd : (decide (1 ≤ d) && decide (d ≤ 64)) = true
  · have hd' : 1 ≤ d ∧ d ≤ 64 := by simpa using hd
    have c1 := fun W => isDim_v d true hd W
    rw [if_pos hd'] at E
    by_cases hu : uses r = true
    · have c2 := CU _ hu
      by_cases hi' : rise r.I = true
      · rw [if_pos ⟨hu, hi'⟩] at E
        have c3 := fun W' g => CI W' g true hi'
        clear CU hd hd' hu CI hi' HR hlen
        by_cases s2 : r.S = 2
        · rw [if_pos s2] at E
          have c4 := fun W' g => CC W' g res E.out.symm
          clear CC CK E
          obtain ⟨S, L, H, R, I⟩ := r
          dsimp only at *
          subst s2
          generalize L.length = nl at *
          generalize H.length = nh at *
          generalize I.length = ni at *
          go_enter Tryz.func117, Tryz.ntmps117
          go_wp2_with fail
          refine (c1 _).mono ?_
          rintro e w' ⟨rfl, e2⟩
          subst e2
          go_wp2_with fail
          refine c2.mono ?_
          rintro e w1 ⟨rfl, g1⟩
          obtain ⟨q0, q1, q2, q3, q4, q5⟩ := RA.out.gb g1.gb
          go_wp2_with fail
          refine (c3 _ g1).mono ?_
          rintro e w' ⟨rfl, e2⟩
          subst e2
          go_wp2_with fail
          refine (c4 _ g1).mono ?_
          rintro e w' ⟨rfl, e2⟩
          subst e2
          go_wp2
          go_ret
          exact ⟨rfl, G0.trans g1⟩

        · rw [if_neg s2] at E
          have s2' : (r.S == 2) = false := by rw [beq_eq_false_iff_ne]; exact s2
          by_cases s3 : r.S = 3
          · rw [if_pos s3] at E
            have c4 := fun W' g => CK W' g res E.out.symm
            clear CC CK E s2 s2'
            obtain ⟨S, L, H, R, I⟩ := r
            dsimp only at *
            subst s3
            generalize L.length = nl at *
            generalize H.length = nh at *
            generalize I.length = ni at *
            go_enter Tryz.func117, Tryz.ntmps117
            go_wp2_with fail
            refine (c1 _).mono ?_
            rintro e w' ⟨rfl, e2⟩
            subst e2
            go_wp2_with fail
            refine c2.mono ?_
            rintro e w1 ⟨rfl, g1⟩
            obtain ⟨q0, q1, q2, q3, q4, q5⟩ := RA.out.gb g1.gb
            go_wp2_with fail
            refine (c3 _ g1).mono ?_
            rintro e w' ⟨rfl, e2⟩
            subst e2
            go_wp2_with fail
            refine (c4 _ g1).mono ?_
            rintro e w' ⟨rfl, e2⟩
            subst e2
            go_wp2
            go_ret
            exact ⟨rfl, G0.trans g1⟩

          · rw [if_neg s3] at E
            have s3' : (r.S == 3) = false := by rw [beq_eq_false_iff_ne]; exact s3
            have e := E.out
            subst e
            clear CC CK E s2 s3
            obtain ⟨S, L, H, R, I⟩ := r
            dsimp only at *
            generalize L.length = nl at *
            generalize H.length = nh at *
            generalize I.length = ni at *
            go_enter Tryz.func117, Tryz.ntmps117
            go_wp2_with fail
            refine (c1 _).mono ?_
            rintro e w' ⟨rfl, e2⟩
            subst e2
            go_wp2_with fail
            refine c2.mono ?_
            rintro e w1 ⟨rfl, g1⟩
            obtain ⟨q0, q1, q2, q3, q4, q5⟩ := RA.out.gb g1.gb
            go_wp2_with fail
            refine (c3 _ g1).mono ?_
            rintro e w' ⟨rfl, e2⟩
            subst e2
            go_wp2
            go_ret
            exact ⟨rfl, G0.trans g1⟩

      · rw [if_neg (fun h => hi' h.2)] at E
        have c3 := fun W' g => CI W' g false (by simpa using hi')
        have e := E.out
        subst e
        clear CU hd hd' hu CI hi' HR hlen CC CK E
        obtain ⟨S, L, H, R, I⟩ := r
        dsimp only at *
        generalize L.length = nl at *
        generalize H.length = nh at *
        generalize I.length = ni at *
        go_enter Tryz.func117, Tryz.ntmps117
        go_wp2_with fail
        refine (c1 _).mono ?_
        rintro e w' ⟨rfl, e2⟩
        subst e2
        go_wp2_with fail
        refine c2.mono ?_
        rintro e w1 ⟨rfl, g1⟩
        obtain ⟨q0, q1, q2, q3, q4, q5⟩ := RA.out.gb g1.gb
        go_wp2_with fail
        refine (c3 _ g1).mono ?_
        rintro e w' ⟨rfl, e2⟩
        subst e2
        go_wp2
        go_ret
        exact ⟨rfl, G0.trans g1⟩

    · rw [if_neg (fun h => hu h.1)] at E
      have c2 := CU false (by simpa using hu)
      have e := E.out
      subst e
      clear CU hd hd' hu CI HR hlen CC CK E
      obtain ⟨S, L, H, R, I⟩ := r
      dsimp only at *
      generalize L.length = nl at *
      generalize H.length = nh at *
      generalize I.length = ni at *
      go_enter Tryz.func117, Tryz.ntmps117
      go_wp2_with fail
      refine (c1 _).mono ?_
      rintro e w' ⟨rfl, e2⟩
      subst e2
      go_wp2_with fail
      refine c2.mono ?_
      rintro e w1 ⟨rfl, g1⟩
      obtain ⟨q0, q1, q2, q3, q4, q5⟩ := RA.out.gb g1.gb
      go_wp2
      go_ret
      exact ⟨rfl, G0.trans g1⟩

  · have hd' : ¬ (1 ≤ d ∧ d ≤ 64) := by simpa using hd
    have c1 := fun W => isDim_v d false (by simpa using hd) W
    rw [if_neg hd'] at E
    have e := E.out
    subst e
    clear CU CI CC CK HR hd hd' E RA
    go_enter Tryz.func117, Tryz.ntmps117
    go_wp2_with (go_at_call 38; refine (c1 _).mono ?_; rintro e w' ⟨rfl, e2⟩; subst e2)
    go_ret
    exact ⟨rfl, G0⟩
theorem checkRegion_v {w : World} {v : Value} {r : Reg} (h : RdR w v r) (hlen : r.I.length ≤ 4611686018427387904) (d x : Int) (hx : ckR r d = x) :
    Calls Tryz.prog 117 #[v, .int .i64 d] w fun e w' => e = .returned (.int .i64 x) ∧ Gr w w' := by
  subst hx; exact checkRegion_c h hlen d

/-- What checkBoth answers. -/
def ckB (r : Reg) (a : List Int) : Int := if ckR r a.length = 0 then chk a a.length else ckR r a.length

set_option maxHeartbeats 4000000 in
theorem checkBoth_c {w : World} {v u : Value} {r : Reg} {a : List Int} (h : RdR w v r) (hu : RdI w u a) (hlen : r.I.length ≤ 4611686018427387904) :
    Calls Tryz.prog 78 #[v, u] w fun e w' => e = .returned (.int .i64 (ckB r a)) ∧ Gr w w' := by
  have HR : Hid (RdR w v r) := h
  obtain ⟨vl, vh, vi, rfl, hL, hH, hI⟩ := h
  have G0 : Gr w (w.alloc (rc r vl vh vi)) := (Gr.refl _).alloc _ _
  have C1 := fun x hx => checkRegion_v (HR.out.gb G0.gb) hlen (a.length : Int) x hx
  have C2 := fun W' (g : Gr (w.alloc (rc r vl vh vi)) W') x hx => check_v (hu.gb (G0.trans g).gb) (a.length : Int) x hx
  have E : Hid (ckB r a = if ckR r a.length = 0 then chk a a.length else ckR r a.length) := rfl
  obtain ⟨pa, ca, rfl, _⟩ := hu
  generalize ckB r a = res at *
  by_cases h1 : ckR r a.length = 0
  · rw [if_pos h1] at E
    have c1 := C1 _ h1
    have c2 := fun W' g => C2 W' g res E.out.symm
    clear C1 C2 E h1 HR hlen hL hH hI
    obtain ⟨S, L, H, R, I⟩ := r
    generalize a.length = n at *
    go_enter Tryz.func78, Tryz.ntmps78
    go_wp2_with fail
    refine c1.mono ?_
    rintro e w1 ⟨rfl, g1⟩
    go_wp2_with fail
    refine (c2 _ g1).mono ?_
    rintro e w' ⟨rfl, e2⟩
    subst e2
    go_wp2
    go_ret
    exact ⟨rfl, G0.trans g1⟩
  · rw [if_neg h1] at E
    have e := E.out
    have h1' : (res == 0) = false := by rw [beq_eq_false_iff_ne, e]; exact h1
    have c1 := C1 _ e.symm
    clear C1 C2 E h1 HR hlen hL hH hI e
    obtain ⟨S, L, H, R, I⟩ := r
    generalize a.length = n at *
    go_enter Tryz.func78, Tryz.ntmps78
    go_wp2_with fail
    refine c1.mono ?_
    rintro e w1 ⟨rfl, g1⟩
    go_wp2
    go_ret
    exact ⟨rfl, G0.trans g1⟩
theorem checkBoth_v {w : World} {v u : Value} {r : Reg} {a : List Int} (h : RdR w v r) (hu : RdI w u a) (hlen : r.I.length ≤ 4611686018427387904) (x : Int) (hx : ckB r a = x) :
    Calls Tryz.prog 78 #[v, u] w fun e w' => e = .returned (.int .i64 x) ∧ Gr w w' := by
  subst hx; exact checkBoth_c h hu hlen
end Go.Proofs.YtbnljabeccebiabGreat

/- vec.boxBound. -/
namespace Go.Proofs.YtbnljabeccebiabGreat
open Go.RowKit

/-- The bound of a box. -/
def bxN (l h q : List Int) (n : Nat) : Nat := sumN (fun i => gap l[i]! h[i]! q[i]! * gap l[i]! h[i]! q[i]!) n
def bx (l h q : List Int) : Nat := bxN l h q q.length
theorem bxN_le {l h q : List Int} (hl : allR l = true) (hh : allR h = true) (hq : allR q = true) (h1 : l.length = q.length) (h2 : h.length = q.length) (n : Nat) (hn : n ≤ q.length) : bxN l h q n ≤ n * 18446744056529682436 :=
  sumN_le _ _ _ (fun i hi => sq_small _ (gap_le _ _ _ (allR_get hl (by omega)) (allR_get hh (by omega)) (allR_get hq (by omega))))
theorem bx_lt {l h q : List Int} (hl : allR l = true) (hh : allR h = true) (hq : allR q = true) (h1 : l.length = q.length) (h2 : h.length = q.length) (hn : q.length ≤ 64) : bx l h q < 340282366920938463463374607431768211456 := by
  have := bxN_le hl hh hq h1 h2 q.length (Nat.le_refl _)
  unfold bx; omega

theorem four_call {W w' : World} {p0 p1 p2 p3 : Addr} {v0 v1 v2 v3 : Value} (g : Gr W w') (h : W.cell? p0 = some v0 ∧ W.cell? p1 = some v1 ∧ W.cell? p2 = some v2 ∧ W.cell? p3 = some v3) :
    w'.cell? p0 = some v0 ∧ w'.cell? p1 = some v1 ∧ w'.cell? p2 = some v2 ∧ w'.cell? p3 = some v3 := ⟨g.keeps h.1, g.keeps h.2.1, g.keeps h.2.2.1, g.keeps h.2.2.2⟩
theorem set2_far {W : World} {b : Nat} {p : Addr} {v : Value} (hb : b ≠ p.block) (h : W.cell? p = some v) (x y : Value) : ((W.setCell ⟨b, 0, none⟩ x).setCell ⟨b, 1, none⟩ y).cell? p = some v := by
  rw [World.cell?_setCell_far _ _ _ _ hb, World.cell?_setCell_far _ _ _ _ hb]; exact h
theorem four_set {W : World} {b b1 b2 b0 o1 o2 o3 o4 : Nat} {v0 v1 v2 v3 : Value} (h1 : b ≠ b1) (h2 : b ≠ b2) (h0 : b ≠ b0) (h : W.cell? ⟨b1, o1, none⟩ = some v0 ∧ W.cell? ⟨b2, o2, none⟩ = some v1 ∧ W.cell? ⟨b0, o3, none⟩ = some v2 ∧ W.cell? ⟨b0, o4, none⟩ = some v3) (x y : Value) :
    ((W.setCell ⟨b, 0, none⟩ x).setCell ⟨b, 1, none⟩ y).cell? ⟨b1, o1, none⟩ = some v0 ∧ ((W.setCell ⟨b, 0, none⟩ x).setCell ⟨b, 1, none⟩ y).cell? ⟨b2, o2, none⟩ = some v1 ∧ ((W.setCell ⟨b, 0, none⟩ x).setCell ⟨b, 1, none⟩ y).cell? ⟨b0, o3, none⟩ = some v2 ∧ ((W.setCell ⟨b, 0, none⟩ x).setCell ⟨b, 1, none⟩ y).cell? ⟨b0, o4, none⟩ = some v3 :=
  ⟨set2_far h1 h.1 x y, set2_far h2 h.2.1 x y, set2_far h0 h.2.2.1 x y, set2_far h0 h.2.2.2 x y⟩

set_option maxHeartbeats 8000000 in
set_option maxRecDepth 100000 in
theorem boxBound_c {w : World} {v u : Value} {r : Reg} {a : List Int} (hv : RdR w v r) (hu : RdI w u a) (hl : r.L.length = a.length) (hh : r.H.length = a.length) (hn : a.length ≤ 64) (rl : allR r.L = true) (rh : allR r.H = true) (ra : allR a = true) :
    Calls Tryz.prog 79 #[v, u] w fun e w' => e = .returned (Wd (bx r.L r.H a)) ∧ Gr w w' := by
  obtain ⟨vl, vh, vi, rfl, ⟨pl, cl, rfl, el⟩, ⟨ph, ch, rfl, eh⟩, h3⟩ := hv
  obtain ⟨pa, ca, rfl, ea⟩ := hu
  clear h3
  have RA0 := RegAt.new w r (.slice pl r.L.length cl) (.slice ph r.H.length ch) vi
  obtain ⟨S, L, H, R, I⟩ := r
  dsimp only at *
  have AL : Hid (∀ i, i < L.length → ∃ b o, pl = some ⟨b, o, none⟩ ∧ w.cell? ⟨b, o + i, none⟩ = some (.int .i64 L[i]!)) := el
  have AH : Hid (∀ i, i < H.length → ∃ b o, ph = some ⟨b, o, none⟩ ∧ w.cell? ⟨b, o + i, none⟩ = some (.int .i64 H[i]!)) := eh
  have AA : Hid (∀ i, i < a.length → ∃ b o, pa = some ⟨b, o, none⟩ ∧ w.cell? ⟨b, o + i, none⟩ = some (.int .i64 a[i]!)) := ea
  have HH : Hid (L.length = a.length ∧ H.length = a.length ∧ allR L = true ∧ allR H = true ∧ allR a = true) := ⟨hl, hh, rl, rh, ra⟩
  rw [hl, hh] at RA0 ⊢
  obtain ⟨n, hN⟩ : ∃ n, n = a.length := ⟨_, rfl⟩
  have N : Hid (n = a.length) := hN
  rw [← hN] at hn RA0 ⊢
  clear el eh ea hl hh rl rh ra hN
  have RA : Hid (RegAt (w.alloc (.cells #[.int .i64 S, .slice pl n cl, .slice ph n ch, .int .u64 (hi R), .int .u64 (lo R), vi] 78)) w.heap.size ⟨S, L, H, R, I⟩ (.slice pl n cl) (.slice ph n ch) vi) := RA0
  clear RA0
  have S0 : At2 (((w.alloc (.cells #[.int .i64 S, .slice pl n cl, .slice ph n ch, .int .u64 (hi R), .int .u64 (lo R), vi] 78)).alloc (.cells #[.int .u64 0, .int .u64 0] 58)).alloc (.cells #[.int .u64 0, .int .u64 0] 58)) (w.heap.size + 1 + 1) 0 := by
    have := At2.new ((w.alloc (.cells #[.int .i64 S, .slice pl n cl, .slice ph n ch, .int .u64 (hi R), .int .u64 (lo R), vi] 78)).alloc (.cells #[.int .u64 0, .int .u64 0] 58)) 0 58
    rw [World.size_alloc, World.size_alloc] at this
    exact this
  obtain ⟨W0, hW0⟩ : ∃ W0, W0 = w.alloc (.cells #[.int .i64 S, .slice pl n cl, .slice ph n ch, .int .u64 (hi R), .int .u64 (lo R), vi] 78) := ⟨_, rfl⟩
  have Z0 : Hid (Gr w W0 ∧ W0.heap.size = w.heap.size + 1) := by rw [hW0]; exact ⟨(Gr.refl _).alloc _ _, by simp⟩
  have W00 : Hid (W0 = w.alloc (.cells #[.int .i64 S, .slice pl n cl, .slice ph n ch, .int .u64 (hi R), .int .u64 (lo R), vi] 78)) := hW0
  rw [← hW0] at S0 RA
  have G0 : Gr (W0.alloc (.cells #[.int .u64 0, .int .u64 0] 58)) ((W0.alloc (.cells #[.int .u64 0, .int .u64 0] 58)).alloc (.cells #[.int .u64 0, .int .u64 0] 58)) := (Gr.refl _).alloc _ _
  rw [hW0] at S0 G0
  clear hW0
  go_enter Tryz.func79, Tryz.ntmps79
  go_wp2
  go_loopw [10] (fun iv w' => ∃ q s : Nat, iv = .int .i64 (q : Int) ∧ q ≤ n ∧ Hid (s = bxN L H a q) ∧ Gr (W0.alloc (.cells #[.int .u64 0, .int .u64 0] 58)) w' ∧ At2 w' (w.heap.size + 1 + 1) s) (fun iv _ => n - (intOf iv).toNat)
  case atStart => exact ⟨0, 0, rfl, Nat.zero_le _, rfl, by rw [W00.out]; exact G0, S0⟩
  case round =>
    clear S0 G0
    obtain ⟨q, s, rfl, hq, X, hG, hS⟩ := hrel
    by_cases hqn : q < n
    · have hqi : (q : Int) < (n : Int) := by omega
      obtain ⟨e1, e2, e3, e4, e5⟩ := HH.out
      have hqa : q < a.length := by have := N.out; omega
      obtain ⟨b1, o1, ea, h1⟩ := AL.out q (by omega)
      obtain ⟨b2, o2, eb, h2⟩ := AH.out q (by omega)
      obtain ⟨b3, o3, ec, h3⟩ := AA.out q hqa
      subst ea; subst eb; subst ec
      have G1 : Gr W0 wr := ((Gr.refl _).alloc _ _).trans hG
      have x0 := (Z0.out.1.trans G1).keeps h1
      have y0 := (Z0.out.1.trans G1).keeps h2
      have z0 := (Z0.out.1.trans G1).keeps h3
      have r1 := G1.keeps RA.out.c1
      have r2 := G1.keeps RA.out.c2
      have hb1 : w.heap.size + 1 + 1 ≠ b1 := by have := cell_lt h1; dsimp only at this; omega
      have hb2 : w.heap.size + 1 + 1 ≠ b2 := by have := cell_lt h2; dsimp only at this; omega
      have hb0 : w.heap.size + 1 + 1 ≠ w.heap.size := by omega
      have hx := allR_get e3 (show q < L.length by omega)
      have hy := allR_get e4 (show q < H.length by omega)
      have hz := allR_get e5 hqa
      have hs0 : s ≤ q * 18446744056529682436 := by rw [X.out]; exact bxN_le e3 e4 e5 e1 e2 q (by omega)
      have Y : Hid (bxN L H a (q + 1) = bxN L H a q + gap L[q]! H[q]! a[q]! * gap L[q]! H[q]! a[q]!) := rfl
      generalize L[q]! = x at *
      generalize H[q]! = y at *
      generalize a[q]! = z at *
      have hg : gap x y z < 18446744073709551616 := by have := gap_le x y z hx hy hz; omega
      have hgs : s + gap x y z * gap x y z < 340282366920938463463374607431768211456 := by have := sq_small _ (gap_le x y z hx hy hz); omega
      have Z : Hid (s + gap x y z * gap x y z = bxN L H a (q + 1)) := by unfold Hid; rw [Y.out, X.out]
      have c57 := fun W => withSquare_c s (gap x y z) hg hgs W
      have c70 := fun b c W c0 c1 => side1_c x y z hx hy hz b c W c0 c1
      obtain ⟨s0, s1, s2, s3⟩ := hS
      clear h1 h2 h3 hx hy hz hs0 Y X hg hgs hqa G1 e1 e2 e3 e4 e5
      generalize s + gap x y z * gap x y z = t at *
      generalize gap x y z = g at *
      go_wp2
      have hS0 : wr.cell? ⟨b1, o1 + q, none⟩ = some (.int .i64 x) ∧ wr.cell? ⟨b2, o2 + q, none⟩ = some (.int .i64 y) ∧ wr.cell? ⟨w.heap.size, 1, none⟩ = some (.slice (some ⟨b1, o1, none⟩) n cl) ∧ wr.cell? ⟨w.heap.size, 2, none⟩ = some (.slice (some ⟨b2, o2, none⟩) n ch) := ⟨x0, y0, r1, r2⟩
      refine wp_region_held_drew (S := fun w' => w'.cell? ⟨b1, o1 + q, none⟩ = some (.int .i64 x) ∧ w'.cell? ⟨b2, o2 + q, none⟩ = some (.int .i64 y) ∧ w'.cell? ⟨w.heap.size, 1, none⟩ = some (.slice (some ⟨b1, o1, none⟩) n cl) ∧ w'.cell? ⟨w.heap.size, 2, none⟩ = some (.slice (some ⟨b2, o2, none⟩) n ch)) (by kernel_rfl) hS0 (fun hHeld => ?_)
      refine wpAnyH_take (i := 1) (v := ?_) rfl (by kernel_rfl) (by kernel_rfl) (by kernel_rfl) (fun _ _ _ h => h) (Or.inl ⟨by rfl, ?_⟩) (by assumption) ?_
      rotate_left 1
      · (intro w hSw; (try dsimp only at hSw); go_simp; try with_reducible rfl)
      try simp only [Act.put, List.setIfInBounds_toArray]
      refine wpAnyH_take (i := 2) (v := ?_) rfl (by kernel_rfl) (by kernel_rfl) (by kernel_rfl) (fun _ _ _ h => h) (Or.inl ⟨by rfl, ?_⟩) (by assumption) ?_
      rotate_left 1
      · (intro w hSw; (try dsimp only at hSw); go_simp; try with_reducible rfl)
      try simp only [Act.put]
      refine wpAnyH_take (i := 3) (v := ?_) rfl (by kernel_rfl) (by kernel_rfl) (by kernel_rfl) (fun _ _ _ h => h) (Or.inl ⟨by rfl, ?_⟩) (by assumption) ?_
      rotate_left 1
      · (intro w hSw; (try dsimp only at hSw); go_simp; try with_reducible rfl)
      try simp only [Act.put]
      refine wpAnyH_take (i := 4) (v := ?_) rfl (by kernel_rfl) (by kernel_rfl) (by kernel_rfl) (fun _ _ _ h => h) (Or.inl ⟨by rfl, ?_⟩) (by assumption) ?_
      rotate_left 1
      · (intro w hSw; (try dsimp only at hSw); go_simp; try with_reducible rfl)
      try simp only [Act.put]
      refine wpAnyH_take (i := 5) (v := ?_) rfl (by kernel_rfl) (by kernel_rfl) (by kernel_rfl) (fun _ _ _ h => h) (Or.inl ⟨by rfl, ?_⟩) (by assumption) ?_
      rotate_left 1
      · (intro w hSw; (try dsimp only at hSw); go_simp; try with_reducible rfl)
      try simp only [Act.put]
      refine wpAnyH_take (i := 6) (v := ?_) rfl (by kernel_rfl) (by kernel_rfl) (by kernel_rfl) (fun _ _ _ h => h) (Or.inl ⟨by rfl, ?_⟩) (by assumption) ?_
      rotate_left 1
      · (intro w hSw; (try dsimp only at hSw); go_simp; try with_reducible rfl)
      try simp only [Act.put]
      refine wpAnyH_take (i := 7) (v := ?_) rfl (by kernel_rfl) (by kernel_rfl) (by kernel_rfl) (fun _ _ _ h => h) (Or.inl ⟨by rfl, ?_⟩) (by assumption) ?_
      rotate_left 1
      · (intro w hSw; (try dsimp only at hSw); go_simp; try with_reducible rfl)
      try simp only [Act.put]
      refine wpAnyH_take (i := 8) (v := ?_) rfl (by kernel_rfl) (by kernel_rfl) (by kernel_rfl) (fun _ _ _ h => h) (Or.inl ⟨by rfl, ?_⟩) (by assumption) ?_
      rotate_left 1
      · (intro w hSw; (try dsimp only at hSw); go_simp; try with_reducible rfl)
      try simp only [Act.put]
      refine wpAnyH_take (i := 9) (v := ?_) rfl (by kernel_rfl) (by kernel_rfl) (by kernel_rfl) (fun _ _ _ h => h) (Or.inl ⟨by rfl, ?_⟩) (by assumption) ?_
      rotate_left 1
      · (intro w hSw; (try dsimp only at hSw); go_simp; try with_reducible rfl)
      try simp only [Act.put]
      refine wpAnyH_take (i := 10) (v := ?_) rfl (by kernel_rfl) (by kernel_rfl) (by kernel_rfl) (fun _ _ _ h => h) (Or.inl ⟨by rfl, ?_⟩) (by assumption) ?_
      rotate_left 1
      · (intro w hSw; (try dsimp only at hSw); go_simp; try with_reducible rfl)
      try simp only [Act.put]
      refine wpAnyH_take (i := 12) (v := ?_) rfl (by kernel_rfl) (by kernel_rfl) (by kernel_rfl) (fun _ _ _ h => h) (Or.inl ⟨by rfl, ?_⟩) (by assumption) ?_
      rotate_left 1
      · (intro w hSw; (try dsimp only at hSw); go_simp; try with_reducible rfl)
      try simp only [Act.put]
      refine wpAnyH_ready (rs := [0, 11]) (by kernel_rfl) (by simp) ?_
      refine AllReadyH.cons rfl (fun K hK => ?_) (AllReadyH.cons rfl (fun K hK => ?_) (AllReadyH.nil))
      · go_simp
        refine hK.out _ _ hHeld (fun hHeld => ?_)
        clear hK K
        try simp only [Act.put, List.setIfInBounds_toArray, List.set_cons_zero, List.set_cons_succ]
        refine wpAnyH_ready (rs := [11]) (by kernel_rfl) (by simp) ?_
        refine AllReadyH.cons rfl (fun K hK => ?_) (AllReadyH.nil)
        go_simp
        go_at_call 119
        refine (side_at _ _ _).mono ?_
        rintro e w1 ⟨bb, cc, rfl, k0, k1, g1⟩
        have s0 := g1.keeps s0
        have s1 := g1.keeps s1
        have s2 := (g1.froz _).trans s2
        have s3 := (g1.froz _).trans s3
        refine hK.out _ _ (four_call g1 hHeld) (fun hHeld => ?_)
        clear hK K
        try simp only [Act.put, List.setIfInBounds_toArray, List.set_cons_zero, List.set_cons_succ]
        refine wpAnyH_ready (rs := [13]) (by kernel_rfl) (by simp) ?_
        refine AllReadyH.cons rfl (fun K hK => ?_) (AllReadyH.nil)
        go_simp
        go_at_call 150
        refine (c70 _ _ _ k0 k1).mono ?_
        rintro e w2 ⟨rfl, e2⟩
        subst e2
        refine hK.out _ _ hHeld (fun hHeld => ?_)
        clear hK K
        try simp only [Act.put, List.setIfInBounds_toArray, List.set_cons_zero, List.set_cons_succ]
        refine wpAnyH_ready (rs := [14]) (by kernel_rfl) (by simp) ?_
        refine AllReadyH.cons rfl (fun K hK => ?_) (AllReadyH.nil)
        go_simp
        go_at_call 118
        refine (c57 _).mono ?_
        rintro e w3 ⟨rfl, g3⟩
        have s0 := g3.keeps s0
        have s1 := g3.keeps s1
        have s2 := (g3.froz _).trans s2
        have s3 := (g3.froz _).trans s3
        refine hK.out _ _ (four_call g3 hHeld) (fun hHeld => ?_)
        clear hK K
        try simp only [Act.put, List.setIfInBounds_toArray, List.set_cons_zero, List.set_cons_succ]
        refine wpAnyH_ready (rs := [15]) (by kernel_rfl) (by simp) ?_
        refine AllReadyH.cons rfl (fun K hK => ?_) (AllReadyH.nil)
        go_simp
        refine hK.out _ _ (four_set hb1 hb2 hb0 hHeld _ _) (fun hHeld => ?_)
        clear hK K
        try simp only [Act.put, List.setIfInBounds_toArray, List.set_cons_zero, List.set_cons_succ]
        refine wpAnyH_done (by kernel_rfl) ?_ _
        have hG3 := (hG.drew.trans g1).trans g3
        have hS3 : At2 w3 (w.heap.size + 1 + 1) s := ⟨s0, s1, s2, s3⟩
        clear c57 c70 x0 y0 z0 r1 r2 s0 s1 s2 s3 k0 k1 g1 g3 hG hHeld hS0
        go_wp2
        exact ⟨⟨q + 1, t, by go_num, hqn, Z, (hG3.setCell (by simp [Z0.out.2]) _).setCell (by simp [Z0.out.2]) _, hS3.set t⟩, by simp [intOf]; omega⟩
      · go_simp
        go_at_call 119
        refine (side_at _ _ _).mono ?_
        rintro e w1 ⟨bb, cc, rfl, k0, k1, g1⟩
        have s0 := g1.keeps s0
        have s1 := g1.keeps s1
        have s2 := (g1.froz _).trans s2
        have s3 := (g1.froz _).trans s3
        refine hK.out _ _ (four_call g1 hHeld) (fun hHeld => ?_)
        clear hK K
        try simp only [Act.put, List.setIfInBounds_toArray, List.set_cons_zero, List.set_cons_succ]
        refine wpAnyH_ready (rs := [0, 13]) (by kernel_rfl) (by simp) ?_
        refine AllReadyH.cons rfl (fun K hK => ?_) (AllReadyH.cons rfl (fun K hK => ?_) (AllReadyH.nil))
        · go_simp
          refine hK.out _ _ hHeld (fun hHeld => ?_)
          clear hK K
          try simp only [Act.put, List.setIfInBounds_toArray, List.set_cons_zero, List.set_cons_succ]
          refine wpAnyH_ready (rs := [13]) (by kernel_rfl) (by simp) ?_
          refine AllReadyH.cons rfl (fun K hK => ?_) (AllReadyH.nil)
          go_simp
          go_at_call 150
          refine (c70 _ _ _ k0 k1).mono ?_
          rintro e w2 ⟨rfl, e2⟩
          subst e2
          refine hK.out _ _ hHeld (fun hHeld => ?_)
          clear hK K
          try simp only [Act.put, List.setIfInBounds_toArray, List.set_cons_zero, List.set_cons_succ]
          refine wpAnyH_ready (rs := [14]) (by kernel_rfl) (by simp) ?_
          refine AllReadyH.cons rfl (fun K hK => ?_) (AllReadyH.nil)
          go_simp
          go_at_call 118
          refine (c57 _).mono ?_
          rintro e w3 ⟨rfl, g3⟩
          have s0 := g3.keeps s0
          have s1 := g3.keeps s1
          have s2 := (g3.froz _).trans s2
          have s3 := (g3.froz _).trans s3
          refine hK.out _ _ (four_call g3 hHeld) (fun hHeld => ?_)
          clear hK K
          try simp only [Act.put, List.setIfInBounds_toArray, List.set_cons_zero, List.set_cons_succ]
          refine wpAnyH_ready (rs := [15]) (by kernel_rfl) (by simp) ?_
          refine AllReadyH.cons rfl (fun K hK => ?_) (AllReadyH.nil)
          go_simp
          refine hK.out _ _ (four_set hb1 hb2 hb0 hHeld _ _) (fun hHeld => ?_)
          clear hK K
          try simp only [Act.put, List.setIfInBounds_toArray, List.set_cons_zero, List.set_cons_succ]
          refine wpAnyH_done (by kernel_rfl) ?_ _
          have hG3 := (hG.drew.trans g1).trans g3
          have hS3 : At2 w3 (w.heap.size + 1 + 1) s := ⟨s0, s1, s2, s3⟩
          clear c57 c70 x0 y0 z0 r1 r2 s0 s1 s2 s3 k0 k1 g1 g3 hG hHeld hS0
          go_wp2
          exact ⟨⟨q + 1, t, by go_num, hqn, Z, (hG3.setCell (by simp [Z0.out.2]) _).setCell (by simp [Z0.out.2]) _, hS3.set t⟩, by simp [intOf]; omega⟩
        · go_simp
          go_at_call 150
          refine (c70 _ _ _ k0 k1).mono ?_
          rintro e w2 ⟨rfl, e2⟩
          subst e2
          refine hK.out _ _ hHeld (fun hHeld => ?_)
          clear hK K
          try simp only [Act.put, List.setIfInBounds_toArray, List.set_cons_zero, List.set_cons_succ]
          refine wpAnyH_ready (rs := [0]) (by kernel_rfl) (by simp) ?_
          refine AllReadyH.cons rfl (fun K hK => ?_) (AllReadyH.nil)
          go_simp
          refine hK.out _ _ hHeld (fun hHeld => ?_)
          clear hK K
          try simp only [Act.put, List.setIfInBounds_toArray, List.set_cons_zero, List.set_cons_succ]
          refine wpAnyH_ready (rs := [14]) (by kernel_rfl) (by simp) ?_
          refine AllReadyH.cons rfl (fun K hK => ?_) (AllReadyH.nil)
          go_simp
          go_at_call 118
          refine (c57 _).mono ?_
          rintro e w3 ⟨rfl, g3⟩
          have s0 := g3.keeps s0
          have s1 := g3.keeps s1
          have s2 := (g3.froz _).trans s2
          have s3 := (g3.froz _).trans s3
          refine hK.out _ _ (four_call g3 hHeld) (fun hHeld => ?_)
          clear hK K
          try simp only [Act.put, List.setIfInBounds_toArray, List.set_cons_zero, List.set_cons_succ]
          refine wpAnyH_ready (rs := [15]) (by kernel_rfl) (by simp) ?_
          refine AllReadyH.cons rfl (fun K hK => ?_) (AllReadyH.nil)
          go_simp
          refine hK.out _ _ (four_set hb1 hb2 hb0 hHeld _ _) (fun hHeld => ?_)
          clear hK K
          try simp only [Act.put, List.setIfInBounds_toArray, List.set_cons_zero, List.set_cons_succ]
          refine wpAnyH_done (by kernel_rfl) ?_ _
          have hG3 := (hG.drew.trans g1).trans g3
          have hS3 : At2 w3 (w.heap.size + 1 + 1) s := ⟨s0, s1, s2, s3⟩
          clear c57 c70 x0 y0 z0 r1 r2 s0 s1 s2 s3 k0 k1 g1 g3 hG hHeld hS0
          go_wp2
          exact ⟨⟨q + 1, t, by go_num, hqn, Z, (hG3.setCell (by simp [Z0.out.2]) _).setCell (by simp [Z0.out.2]) _, hS3.set t⟩, by simp [intOf]; omega⟩
    · have hqi : ¬ (q : Int) < (n : Int) := by omega
      have E : Hid (s = bx L H a) := by
        have h1 := X.out
        rw [show q = a.length by have := N.out; omega] at h1; exact h1
      obtain ⟨s0, s1, s2, s3⟩ := hS
      obtain ⟨v0, v1, v2, v3⟩ := hG.var2
      rw [Z0.out.2] at v0 v1 v2 v3
      have hG2 := (Z0.out.1.trans ((Gr.refl _).alloc _ _)).trans hG
      go_wp2
      exact bodyPost_ret (v := Wd s) (by simp [results, Tryz.results79, go_sem, v0, v1]) rfl ⟨by rw [E.out], by repeat (first | exact hG2 | refine Gr.setCell ?_ (by simp) _)⟩
end Go.Proofs.YtbnljabeccebiabGreat
