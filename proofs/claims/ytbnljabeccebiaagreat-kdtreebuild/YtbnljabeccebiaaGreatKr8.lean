import Derived.Test.YtbnljabeccebiaaGreatKr7
import Derived.Test.YtbnljabeccebiaaGreatKr4
import Derived.Test.YtbnljabeccebiaaGreatKrReg
/- Sorted lists of hits, plainly: a hit more, the first k. -/
namespace Go.Proofs.YtbnljabeccebiaaGreat.Tk
open Go.RowKit Go.Sort

/-- None behind a later one. -/
def Srtd (l : List Ht) : Prop := l.Pairwise fun x y => hlt y x = false
theorem srt_srtd (l : List Ht) : Srtd (srt l) := by
  have h := List.pairwise_mergeSort (le := fun x y => !hlt y x) (fun a b c h1 h2 => by
    simp only [Bool.not_eq_true'] at *; exact hlt_ntrans h2 h1) (fun a b => by
    cases h : hlt b a
    · simp
    · simp [hlt_asymm h]) l
  exact h.imp (fun h => by simpa using h)
theorem srtd_unique : ∀ (l l' : List Ht), Srtd l → Srtd l' → l.Perm l' → l = l'
  | [], l', _, _, p => (List.Perm.nil_eq p)
  | a :: r, [], _, _, p => absurd p.length_eq (by simp)
  | a :: r, b :: r', h, h', p => by
    have hb : b ∈ a :: r := p.symm.subset List.mem_cons_self
    have ha : a ∈ b :: r' := p.subset List.mem_cons_self
    have e : a = b := by
      rcases List.mem_cons.1 hb with e | hb
      · exact e.symm
      rcases List.mem_cons.1 ha with e | ha
      · exact e
      have h1 := List.rel_of_pairwise_cons h hb
      have h2 := List.rel_of_pairwise_cons h' ha
      exact hlt_tot h2 h1
    subst e
    rw [srtd_unique r r' (List.Pairwise.of_cons h) (List.Pairwise.of_cons h') (List.Perm.cons_inv p)]
theorem srt_of_perm {l m : List Ht} (h : Srtd m) (p : l.Perm m) : srt l = m := srtd_unique _ _ (srt_srtd l) h ((srt_perm l).trans p)

/-- A sorted list with one more. -/
def ins (x : Ht) : List Ht → List Ht
  | [] => [x]
  | y :: r => if hlt x y = true then x :: y :: r else y :: ins x r
theorem ins_perm (x : Ht) : ∀ l, (ins x l).Perm (x :: l)
  | [] => List.Perm.refl _
  | y :: r => by
    unfold ins
    split
    · exact List.Perm.refl _
    · exact ((ins_perm x r).cons y).trans (List.Perm.swap x y r)
theorem ins_len (x : Ht) (l : List Ht) : (ins x l).length = l.length + 1 := by rw [(ins_perm x l).length_eq]; rfl
theorem ins_srtd (x : Ht) : ∀ l, Srtd l → Srtd (ins x l)
  | [], _ => List.pairwise_singleton _ _
  | y :: r, h => by
    unfold ins
    split
    · rename_i hx
      refine List.Pairwise.cons ?_ h
      intro z hz
      rcases List.mem_cons.1 hz with rfl | hz
      · exact hlt_asymm hx
      · exact hlt_ntrans (List.rel_of_pairwise_cons h hz) (hlt_asymm hx)
    · rename_i hx
      refine List.Pairwise.cons ?_ (ins_srtd x r (List.Pairwise.of_cons h))
      intro z hz
      rcases List.mem_cons.1 ((ins_perm x r).subset hz) with rfl | hz
      · simpa using hx
      · exact List.rel_of_pairwise_cons h hz
theorem srt_snoc (l : List Ht) (x : Ht) : srt (l ++ [x]) = ins x (srt l) := by
  refine srt_of_perm (ins_srtd x _ (srt_srtd l)) ?_
  refine List.Perm.trans ?_ (ins_perm x _).symm
  exact (List.perm_append_singleton x l).trans ((srt_perm l).symm.cons x)

/-- A heap's hits behind one more. -/
def keep (k : Nat) (m : List Ht) (x : Ht) : List Ht := (ins x m).take k
def kept (k : Nat) (m : List Ht) (x : Ht) : Bool := decide (m.length < k) || hlt x m[k - 1]!
theorem take_ins (x : Ht) : ∀ (k : Nat) (l : List Ht), (ins x l).take k = (ins x (l.take k)).take k
  | 0, _ => by simp
  | k + 1, [] => by simp
  | k + 1, y :: r => by
    simp only [List.take_succ_cons]
    unfold ins
    split
    · simp only [List.take_succ_cons]
      cases k with
      | zero => simp
      | succ k => simp [List.take_succ_cons, List.take_take, Nat.min_eq_left (Nat.le_succ k)]
    · simp only [List.take_succ_cons]
      rw [take_ins x k r]
/-- The first k of some hits. -/
def firsts (k : Nat) (l : List Ht) : List Ht := (srt l).take k
theorem firsts_snoc (k : Nat) (l : List Ht) (x : Ht) : firsts k (l ++ [x]) = keep k (firsts k l) x := by
  unfold firsts keep
  rw [srt_snoc, take_ins]
theorem firsts_nil (k : Nat) : firsts k [] = [] := by simp [firsts, srt]
theorem firsts_srtd (k : Nat) (l : List Ht) : Srtd (firsts k l) := (srt_srtd l).sublist (List.take_sublist k _)
theorem firsts_perm (k : Nat) {l l' : List Ht} (p : l.Perm l') : firsts k l = firsts k l' := by
  unfold firsts; rw [srt_of_perm (srt_srtd l') (p.trans (srt_perm l').symm)]
theorem keep_srtd (k : Nat) {m : List Ht} (x : Ht) (h : Srtd m) : Srtd (keep k m x) := (ins_srtd x m h).sublist (List.take_sublist k _)
theorem keep_more {k : Nat} {m : List Ht} (x : Ht) (h : m.length < k) : keep k m x = ins x m := by
  unfold keep; rw [List.take_of_length_le (by rw [ins_len]; omega)]
theorem last_worst {m : List Ht} (h : Srtd m) (k : Nat) (hk : m.length = k) : ∀ y ∈ m, hlt m[k - 1]! y = false := by
  intro y hy
  subst hk
  obtain ⟨i, hi, rfl⟩ := List.mem_iff_getElem.1 hy
  rw [getElem!_pos m (m.length - 1) (by omega)]
  by_cases e : i = m.length - 1
  · subst e; exact hlt_irrefl _
  · exact List.pairwise_iff_getElem.1 h i (m.length - 1) hi (by omega) (by omega)
theorem ins_no (x : Ht) : ∀ (m : List Ht), (∀ y ∈ m, hlt x y = false) → ins x m = m ++ [x]
  | [], _ => rfl
  | y :: r, h => by
    unfold ins
    rw [if_neg (by rw [h y List.mem_cons_self]; simp), ins_no x r (fun z hz => h z (List.mem_cons_of_mem _ hz))]
    rfl
theorem keep_no {k : Nat} {m : List Ht} {x : Ht} (hs : Srtd m) (h : m.length = k) (hx : hlt x m[k - 1]! = false) : keep k m x = m := by
  unfold keep
  rw [ins_no x m (fun y hy => hlt_ntrans hx (last_worst hs k h y hy)), List.take_append_of_le_length (by omega), List.take_of_length_le (by omega)]
theorem ins_app (x : Ht) (z : Ht) (hx : hlt x z = true) : ∀ (m : List Ht), ins x (m ++ [z]) = ins x m ++ [z]
  | [] => by simp [ins, hx]
  | y :: r => by
    simp only [List.cons_append]
    unfold ins
    split
    · rfl
    · rw [ins_app x z hx r]; rfl
theorem keep_repl {k : Nat} {m : List Ht} {x : Ht} (hk : 0 < k) (h : m.length = k) (hx : hlt x m[k - 1]! = true) : (keep k m x).Perm (x :: m.dropLast) := by
  have hne : m ≠ [] := by intro e; subst e; simp at h; omega
  obtain ⟨a, z, rfl⟩ : ∃ a z, m = a ++ [z] := ⟨m.dropLast, m.getLast hne, (List.dropLast_concat_getLast hne).symm⟩
  simp only [List.length_append, List.length_cons, List.length_nil] at h
  have e : (a ++ [z])[k - 1]! = z := by
    rw [getElem!_pos (a ++ [z]) (k - 1) (by simp; omega), List.getElem_append_right (by omega)]
    simp
  rw [e] at hx
  have hl : (ins x a).length = k := by rw [ins_len]; omega
  unfold keep
  rw [ins_app x z hx, List.take_append_of_le_length (by rw [hl]; exact Nat.le_refl _), List.take_of_length_le (by rw [hl]; exact Nat.le_refl _), List.dropLast_concat]
  exact ins_perm x _
end Go.Proofs.YtbnljabeccebiaaGreat.Tk

/- What flat answers, plainly: the hits of rows, their errors, the first k. -/
namespace Go.Proofs.YtbnljabeccebiaaGreat
open Go.RowKit Go.Sort

/-- A row's hit for q; all rows'. -/
abbrev hitOf (q : List Int) (r : Rw) : Tk.Ht := (r.1, hi (dst q r.2), lo (dst q r.2))
def hitsOf (q : List Int) (rs : List Rw) : List Tk.Ht := rs.map (hitOf q)
/-- What flat.Check answers; checkAll; begin; Search. -/
def flatE (rs : List Rw) (d : Int) : Int := if 1 ≤ d ∧ d ≤ 64 then idsE rs d else 30
theorem chk_is (l : List Int) (d : Int) : chk l d = 0 ∨ chk l d = 30 ∨ chk l d = 31 := by
  unfold chk vErr; (repeat' split) <;> simp
theorem rowE_is (rs : List Rw) (d : Int) (i : Nat) : rowE rs d i = 0 ∨ rowE rs d i = 30 ∨ rowE rs d i = 31 ∨ rowE rs d i = 50 := by
  unfold rowE
  split
  · rcases chk_is rs[i]!.2 d with h | h | h
    · exact .inl h
    · exact .inr (.inl h)
    · exact .inr (.inr (.inl h))
  · exact .inr (.inr (.inr rfl))
theorem rowsTo_is (rs : List Rw) (d : Int) : ∀ q, rowsTo rs d q = 0 ∨ rowsTo rs d q = 30 ∨ rowsTo rs d q = 31 ∨ rowsTo rs d q = 50
  | 0 => .inl rfl
  | q + 1 => by
    rw [rowsTo]
    split
    · exact rowE_is rs d q
    · exact rowsTo_is rs d q
theorem idsE_ne (rs : List Rw) (d : Int) : idsE rs d ≠ 1 := by
  unfold idsE
  split
  · rcases rowsTo_is rs d rs.length with h | h | h | h <;> rw [h] <;> decide
  · decide
theorem idsE_nil (d : Int) : idsE [] d = 0 := rfl
theorem flatE_box (rs : List Rw) (d : Int) : flatE rs d = if boxE rs d = 1 then 0 else boxE rs d := by
  unfold flatE boxE
  by_cases h : 1 ≤ d ∧ d ≤ 64
  · rw [if_pos h, if_pos h]
    by_cases h0 : rs.length = 0
    · obtain rfl := List.length_eq_zero_iff.1 h0
      rw [if_pos h0]; simp [idsE_nil]
    · rw [if_neg h0, if_neg (idsE_ne rs d)]
  · rw [if_neg h, if_neg h]; decide

theorem rowsTo_zero {rs : List Rw} {d : Int} : ∀ q, rowsTo rs d q = 0 ↔ ∀ i, i < q → rowE rs d i = 0
  | 0 => ⟨fun _ i hi => absurd hi (Nat.not_lt_zero _), fun _ => rfl⟩
  | q + 1 => by
    rw [rowsTo]
    constructor
    · intro h
      split at h
      · rename_i h0
        intro i hi
        by_cases e : i = q
        · subst e; exact h
        · exact (rowsTo_zero q).1 h0 i (by omega)
      · rename_i h0; exact absurd h h0
    · intro h
      rw [if_pos ((rowsTo_zero q).2 fun i hi => h i (by omega))]
      exact h q (by omega)
/-- Rows that may be. -/
structure RowsOk (rs : List Rw) (d : Int) : Prop where
  few : rs.length ≤ 512
  ids : (idsOf rs).Pairwise (· ≠ ·)
  row : ∀ r ∈ rs, okId r.1 = true ∧ chk r.2 d = 0
theorem rowE_zero {rs : List Rw} {d : Int} {i : Nat} : rowE rs d i = 0 ↔ ((idsOf rs).take i).contains rs[i]!.1 = false ∧ okId rs[i]!.1 = true ∧ chk rs[i]!.2 d = 0 := by
  unfold rowE
  split
  · rename_i h; exact ⟨fun e => ⟨h.1, h.2, e⟩, fun e => e.2.2⟩
  · rename_i h; exact ⟨fun e => by simp at e, fun e => absurd ⟨e.1, e.2.1⟩ h⟩
theorem ids_get {rs : List Rw} {i : Nat} (hi : i < rs.length) : (idsOf rs)[i]'(by simpa [idsOf] using hi) = rs[i]!.1 := by
  rw [getElem!_pos rs i hi]; simp [idsOf]
theorem idsE_zero {rs : List Rw} {d : Int} : idsE rs d = 0 ↔ RowsOk rs d := by
  unfold idsE
  constructor
  · intro h
    split at h
    · rename_i hn
      have h1 := (rowsTo_zero _).1 h
      refine ⟨hn, ?_, fun r hr => ?_⟩
      · rw [List.pairwise_iff_getElem]
        intro i j hi hj hij e
        have hi' : i < rs.length := by simpa [idsOf] using hi
        have hj' : j < rs.length := by simpa [idsOf] using hj
        have h2 := (rowE_zero.1 (h1 j hj')).1
        rw [← ids_get hj', ← e] at h2
        have : ((idsOf rs).take j).contains (idsOf rs)[i] = true := by
          rw [List.contains_iff_mem]
          exact List.mem_iff_getElem.2 ⟨i, by simp [idsOf]; omega, by simp⟩
        rw [this] at h2; cases h2
      · obtain ⟨i, hi, rfl⟩ := List.mem_iff_getElem.1 hr
        have h2 := rowE_zero.1 (h1 i hi)
        rw [getElem!_pos rs i hi] at h2
        exact h2.2
    · cases h
  · rintro ⟨h1, h2, h3⟩
    rw [if_pos h1, rowsTo_zero]
    intro i hi
    have h4 := h3 rs[i] (List.getElem_mem hi)
    rw [rowE_zero, getElem!_pos rs i hi]
    refine ⟨?_, h4⟩
    rw [← Bool.not_eq_true, List.contains_iff_mem]
    intro hm
    obtain ⟨j, hj, e⟩ := List.mem_iff_getElem.1 hm
    have hji : j < i := by have := hj; simp at this; omega
    have := List.pairwise_iff_getElem.1 h2 j i (by simp [idsOf]; omega) (by simp [idsOf]; omega) hji
    apply this
    rw [List.getElem_take] at e
    rw [e, ids_get hi, getElem!_pos rs i hi]
theorem RowsOk.perm {rs rs' : List Rw} {d : Int} (h : RowsOk rs d) (p : rs.Perm rs') : RowsOk rs' d :=
  ⟨by rw [← p.length_eq]; exact h.few, (List.Perm.pairwise_iff (fun h => Ne.symm h) (p.map _)).1 h.ids, fun r hr => h.row r (p.mem_iff.2 hr)⟩
theorem RowsOk.sub {rs rs' : List Rw} {d : Int} (h : RowsOk rs d) (p : rs'.Sublist rs) : RowsOk rs' d :=
  ⟨Nat.le_trans p.length_le h.few, h.ids.sublist (p.map _), fun r hr => h.row r (p.subset hr)⟩
theorem flatE_zero {rs : List Rw} {d : Int} : flatE rs d = 0 ↔ (1 ≤ d ∧ d ≤ 64) ∧ RowsOk rs d := by
  unfold flatE
  split
  · rename_i h; rw [idsE_zero]; exact ⟨fun e => ⟨h, e⟩, fun e => e.2⟩
  · rename_i h; exact ⟨fun e => by simp at e, fun e => absurd e.1 h⟩
end Go.Proofs.YtbnljabeccebiaaGreat

/- vec.CheckRegion and vec.checkBoth. -/
namespace Go.Proofs.YtbnljabeccebiaaGreat
open Go.RowKit

/-- What CheckRegion answers. -/
def ckR (r : Reg) (d : Int) : Int :=
  if 1 ≤ d ∧ d ≤ 64 then (if uses r = true ∧ rise r.I = true then (if r.S = 2 then cornE r.L r.H d else if r.S = 3 then chk r.L d else 0) else 32) else 30

set_option maxHeartbeats 4000000 in
set_option maxRecDepth 100000 in
theorem checkRegion_c {w : World} {v : Value} {r : Reg} (h : RdR w v r) (hlen : r.I.length ≤ 4611686018427387904) (d : Int) :
    Calls Tryz.prog 145 #[v, .int .i64 d] w fun e w' => e = .returned (.int .i64 (ckR r d)) ∧ Gr w w' := by
  have HR : Hid (RdR w v r) := h
  obtain ⟨vl, vh, vi, rfl, hL, hH, hI⟩ := h
  have G0 : Gr w (w.alloc (rc r vl vh vi)) := (Gr.refl _).alloc _ _
  have RA : Hid (RegAt (w.alloc (rc r vl vh vi)) w.heap.size r vl vh vi) := RegAt.new w r vl vh vi
  have CU := fun b hb => uses_v (HR.out.gb G0.gb) b hb
  have CI := fun W' (g : Gr (w.alloc (rc r vl vh vi)) W') b hb => idsRise_v (hI.gb (G0.trans g).gb) hlen b hb
  have CC := fun W' (g : Gr (w.alloc (rc r vl vh vi)) W') e he => corners_v (hL.gb (G0.trans g).gb) (hH.gb (G0.trans g).gb) d e he
  have CK := fun W' (g : Gr (w.alloc (rc r vl vh vi)) W') e he => check_v (hL.gb (G0.trans g).gb) d e he
  have E : Hid (ckR r d = if 1 ≤ d ∧ d ≤ 64 then (if uses r = true ∧ rise r.I = true then (if r.S = 2 then cornE r.L r.H d else if r.S = 3 then chk r.L d else 0) else 32) else 30) := rfl
  obtain ⟨pl, cl, rfl, _⟩ := hL
  obtain ⟨ph, ch, rfl, _⟩ := hH
  obtain ⟨pi, ci, rfl, _⟩ := hI
  generalize ckR r d = res at *
  by_cases hd : (decide (1 ≤ d) && decide (d ≤ 64)) = true
  · have hd' : 1 ≤ d ∧ d ≤ 64 := by simpa using hd
    have c1 := fun W => isDim_v d true hd W
    rw [if_pos hd'] at E
    by_cases hu : uses r = true
    · have c2 := CU _ hu
      by_cases hi' : rise r.I = true
      · rw [if_pos ⟨hu, hi'⟩] at E
        have c3 := fun W' g => CI W' g true hi'
        clear CU hd hd' hu CI hi' HR hlen
        by_cases s2 : r.S = 2
        · rw [if_pos s2] at E
          have c4 := fun W' g => CC W' g res E.out.symm
          clear CC CK E
          obtain ⟨S, L, H, R, I⟩ := r
          dsimp only at *
          subst s2
          generalize L.length = nl at *
          generalize H.length = nh at *
          generalize I.length = ni at *
          go_enter Tryz.func145, Tryz.ntmps145
          go_wp2_with fail
          refine (c1 _).mono ?_
          rintro e w' ⟨rfl, e2⟩
          subst e2
          go_wp2_with fail
          refine c2.mono ?_
          rintro e w1 ⟨rfl, g1⟩
          obtain ⟨q0, q1, q2, q3, q4, q5⟩ := RA.out.gb g1.gb
          go_wp2_with fail
          refine (c3 _ g1).mono ?_
          rintro e w' ⟨rfl, e2⟩
          subst e2
          go_wp2_with fail
          refine (c4 _ g1).mono ?_
          rintro e w' ⟨rfl, e2⟩
          subst e2
          go_wp2
          go_ret
          exact ⟨rfl, G0.trans g1⟩

        · rw [if_neg s2] at E
          have s2' : (r.S == 2) = false := by rw [beq_eq_false_iff_ne]; exact s2
          by_cases s3 : r.S = 3
          · rw [if_pos s3] at E
            have c4 := fun W' g => CK W' g res E.out.symm
            clear CC CK E s2 s2'
            obtain ⟨S, L, H, R, I⟩ := r
            dsimp only at *
            subst s3
            generalize L.length = nl at *
            generalize H.length = nh at *
            generalize I.length = ni at *
            go_enter Tryz.func145, Tryz.ntmps145
            go_wp2_with fail
            refine (c1 _).mono ?_
            rintro e w' ⟨rfl, e2⟩
            subst e2
            go_wp2_with fail
            refine c2.mono ?_
            rintro e w1 ⟨rfl, g1⟩
            obtain ⟨q0, q1, q2, q3, q4, q5⟩ := RA.out.gb g1.gb
            go_wp2_with fail
            refine (c3 _ g1).mono ?_
            rintro e w' ⟨rfl, e2⟩
            subst e2
            go_wp2_with fail
            refine (c4 _ g1).mono ?_
            rintro e w' ⟨rfl, e2⟩
            subst e2
            go_wp2
            go_ret
            exact ⟨rfl, G0.trans g1⟩

          · rw [if_neg s3] at E
            have s3' : (r.S == 3) = false := by rw [beq_eq_false_iff_ne]; exact s3
            have e := E.out
            subst e
            clear CC CK E s2 s3
            obtain ⟨S, L, H, R, I⟩ := r
            dsimp only at *
            generalize L.length = nl at *
            generalize H.length = nh at *
            generalize I.length = ni at *
            go_enter Tryz.func145, Tryz.ntmps145
            go_wp2_with fail
            refine (c1 _).mono ?_
            rintro e w' ⟨rfl, e2⟩
            subst e2
            go_wp2_with fail
            refine c2.mono ?_
            rintro e w1 ⟨rfl, g1⟩
            obtain ⟨q0, q1, q2, q3, q4, q5⟩ := RA.out.gb g1.gb
            go_wp2_with fail
            refine (c3 _ g1).mono ?_
            rintro e w' ⟨rfl, e2⟩
            subst e2
            go_wp2
            go_ret
            exact ⟨rfl, G0.trans g1⟩

      · rw [if_neg (fun h => hi' h.2)] at E
        have c3 := fun W' g => CI W' g false (by simpa using hi')
        have e := E.out
        subst e
        clear CU hd hd' hu CI hi' HR hlen CC CK E
        obtain ⟨S, L, H, R, I⟩ := r
        dsimp only at *
        generalize L.length = nl at *
        generalize H.length = nh at *
        generalize I.length = ni at *
        go_enter Tryz.func145, Tryz.ntmps145
        go_wp2_with fail
        refine (c1 _).mono ?_
        rintro e w' ⟨rfl, e2⟩
        subst e2
        go_wp2_with fail
        refine c2.mono ?_
        rintro e w1 ⟨rfl, g1⟩
        obtain ⟨q0, q1, q2, q3, q4, q5⟩ := RA.out.gb g1.gb
        go_wp2_with fail
        refine (c3 _ g1).mono ?_
        rintro e w' ⟨rfl, e2⟩
        subst e2
        go_wp2
        go_ret
        exact ⟨rfl, G0.trans g1⟩

    · rw [if_neg (fun h => hu h.1)] at E
      have c2 := CU false (by simpa using hu)
      have e := E.out
      subst e
      clear CU hd hd' hu CI HR hlen CC CK E
      obtain ⟨S, L, H, R, I⟩ := r
      dsimp only at *
      generalize L.length = nl at *
      generalize H.length = nh at *
      generalize I.length = ni at *
      go_enter Tryz.func145, Tryz.ntmps145
      go_wp2_with fail
      refine (c1 _).mono ?_
      rintro e w' ⟨rfl, e2⟩
      subst e2
      go_wp2_with fail
      refine c2.mono ?_
      rintro e w1 ⟨rfl, g1⟩
      obtain ⟨q0, q1, q2, q3, q4, q5⟩ := RA.out.gb g1.gb
      go_wp2
      go_ret
      exact ⟨rfl, G0.trans g1⟩

  · have hd' : ¬ (1 ≤ d ∧ d ≤ 64) := by simpa using hd
    have c1 := fun W => isDim_v d false (by simpa using hd) W
    rw [if_neg hd'] at E
    have e := E.out
    subst e
    clear CU CI CC CK HR hd hd' E RA
    go_enter Tryz.func145, Tryz.ntmps145
    go_wp2_with (go_at_call 65; refine (c1 _).mono ?_; rintro e w' ⟨rfl, e2⟩; subst e2)
    go_ret
    exact ⟨rfl, G0⟩
theorem checkRegion_v {w : World} {v : Value} {r : Reg} (h : RdR w v r) (hlen : r.I.length ≤ 4611686018427387904) (d x : Int) (hx : ckR r d = x) :
    Calls Tryz.prog 145 #[v, .int .i64 d] w fun e w' => e = .returned (.int .i64 x) ∧ Gr w w' := by
  subst hx; exact checkRegion_c h hlen d

/-- What checkBoth answers. -/
def ckB (r : Reg) (a : List Int) : Int := if ckR r a.length = 0 then chk a a.length else ckR r a.length

set_option maxHeartbeats 4000000 in
theorem checkBoth_c {w : World} {v u : Value} {r : Reg} {a : List Int} (h : RdR w v r) (hu : RdI w u a) (hlen : r.I.length ≤ 4611686018427387904) :
    Calls Tryz.prog 100 #[v, u] w fun e w' => e = .returned (.int .i64 (ckB r a)) ∧ Gr w w' := by
  have HR : Hid (RdR w v r) := h
  obtain ⟨vl, vh, vi, rfl, hL, hH, hI⟩ := h
  have G0 : Gr w (w.alloc (rc r vl vh vi)) := (Gr.refl _).alloc _ _
  have C1 := fun x hx => checkRegion_v (HR.out.gb G0.gb) hlen (a.length : Int) x hx
  have C2 := fun W' (g : Gr (w.alloc (rc r vl vh vi)) W') x hx => check_v (hu.gb (G0.trans g).gb) (a.length : Int) x hx
  have E : Hid (ckB r a = if ckR r a.length = 0 then chk a a.length else ckR r a.length) := rfl
  obtain ⟨pa, ca, rfl, _⟩ := hu
  generalize ckB r a = res at *
  by_cases h1 : ckR r a.length = 0
  · rw [if_pos h1] at E
    have c1 := C1 _ h1
    have c2 := fun W' g => C2 W' g res E.out.symm
    clear C1 C2 E h1 HR hlen hL hH hI
    obtain ⟨S, L, H, R, I⟩ := r
    generalize a.length = n at *
    go_enter Tryz.func100, Tryz.ntmps100
    go_wp2_with fail
    refine c1.mono ?_
    rintro e w1 ⟨rfl, g1⟩
    go_wp2_with fail
    refine (c2 _ g1).mono ?_
    rintro e w' ⟨rfl, e2⟩
    subst e2
    go_wp2
    go_ret
    exact ⟨rfl, G0.trans g1⟩
  · rw [if_neg h1] at E
    have e := E.out
    have h1' : (res == 0) = false := by rw [beq_eq_false_iff_ne, e]; exact h1
    have c1 := C1 _ e.symm
    clear C1 C2 E h1 HR hlen hL hH hI e
    obtain ⟨S, L, H, R, I⟩ := r
    generalize a.length = n at *
    go_enter Tryz.func100, Tryz.ntmps100
    go_wp2_with fail
    refine c1.mono ?_
    rintro e w1 ⟨rfl, g1⟩
    go_wp2
    go_ret
    exact ⟨rfl, G0.trans g1⟩
theorem checkBoth_v {w : World} {v u : Value} {r : Reg} {a : List Int} (h : RdR w v r) (hu : RdI w u a) (hlen : r.I.length ≤ 4611686018427387904) (x : Int) (hx : ckB r a = x) :
    Calls Tryz.prog 100 #[v, u] w fun e w' => e = .returned (.int .i64 x) ∧ Gr w w' := by
  subst hx; exact checkBoth_c h hu hlen
end Go.Proofs.YtbnljabeccebiaaGreat
