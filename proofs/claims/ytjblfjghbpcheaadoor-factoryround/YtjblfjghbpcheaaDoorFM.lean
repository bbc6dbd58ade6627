/- factory's texts and the specs that they say: plain facts on lists of bytes, no program. -/
import Derived.Lib.AtoiTie
import Derived.Lib.ItoaNum
import Derived.Lib.Strings
namespace Go.Proofs.YtjblfjghbpcheaaDoor
open Go

abbrev Bs := List UInt8
/-- Is a byte a digit? -/
def isD (c : UInt8) : Bool := decide (48 ≤ c.toNat) && decide (c.toNat ≤ 57)
/-- How many digits stand at a text's front. -/
def nd : Bs → Nat
  | [] => 0
  | c :: r => if isD c = true then nd r + 1 else 0
/-- The number that digits say. -/
def vl (l : Bs) : Nat := l.foldl (fun n c => 10 * n + (c.toNat - 48)) 0
/-- Are these digits as many as may be, without noughts in front? -/
def isN (d : Bs) : Bool := decide (1 ≤ d.length) && decide (d.length ≤ 9) && (d == [48] || !(d.head? == some 48))
/-- What stands behind a word at a text's front. -/
def frontO (w t : Bs) : Option Bs := if w.isPrefixOf t = true then some (t.drop w.length) else none
/-- The number at a text's front, and what stands behind. -/
def digO (t : Bs) : Option (Nat × Bs) := if isN (t.take (nd t)) = true then some (vl (t.take (nd t)), t.drop (nd t)) else none

def wFlat : Bs := [70, 108, 97, 116]
def wKD : Bs := [75, 68]
def wVP : Bs := [86, 80]
def wIVF : Bs := [73, 86, 70]
def wCFlat : Bs := [44, 70, 108, 97, 116]
def wPQ : Bs := [44, 80, 81]
def wX : Bs := [120]
def wHNSW : Bs := [72, 78, 83, 87]

abbrev N3 := Int × Int × Int
/-- A form of a word and a number. -/
def oneO (w t : Bs) : Option N3 := match frontO w t with
  | none => none
  | some r => match digO r with
    | none => none
    | some (n, e) => if e = [] then some ((n : Int), 0, 0) else none
def ivfO (t : Bs) : Option N3 := match frontO wIVF t with
  | none => none
  | some r => match digO r with
    | none => none
    | some (n, e) => if e = wCFlat then some ((n : Int), 0, 0) else none
def pqO (t : Bs) : Option N3 := match frontO wIVF t with
  | none => none
  | some r => match digO r with
    | none => none
    | some (n, e) => match frontO wPQ e with
      | none => none
      | some a => match digO a with
        | none => none
        | some (p, l) => match frontO wX l with
          | none => none
          | some b => match digO b with
            | none => none
            | some (c, z) => if z = [] then some ((n : Int), (p : Int), (c : Int)) else none
/-- The numbers that a text of the kind k says. -/
def formK (k : Int) (t : Bs) : Option N3 :=
  if k = 1 then (if t = wFlat then some (0, 0, 0) else none)
  else if k = 2 then oneO wKD t
  else if k = 3 then oneO wVP t
  else if k = 4 then ivfO t
  else if k = 5 then pqO t
  else if k = 6 then oneO wHNSW t
  else none

theorem formK1 (t : Bs) : formK 1 t = if t = wFlat then some (0, 0, 0) else none := by simp [formK]
theorem formK2 (t : Bs) : formK 2 t = oneO wKD t := by simp [formK]
theorem formK3 (t : Bs) : formK 3 t = oneO wVP t := by simp [formK]
theorem formK4 (t : Bs) : formK 4 t = ivfO t := by simp [formK]
theorem formK5 (t : Bs) : formK 5 t = pqO t := by simp [formK]
theorem formK6 (t : Bs) : formK 6 t = oneO wHNSW t := by simp [formK]

/-- A text that is being read: what is left, and whether it could be so far. -/
abbrev St := Bs × Bool
def cutS (st : St) (w : Bs) : St := if w.isPrefixOf st.1 = true then (st.1.drop w.length, st.2) else (st.1, false)
def numS (st : St) : St := (st.1.drop (nd st.1), st.2 && isN (st.1.take (nd st.1)))
/-- What strconv.Atoi tells of some bytes, beside its error. -/
def atoiN (l : Bs) : Int := match Lib.atoiAll l with
  | .ok v => v
  | .«syntax» => 0
  | .range => Lib.atoiSat l
def numV (st : St) : Int := atoiN (st.1.take (nd st.1))
/-- A text read as one of kind k: the numbers, and what is left. -/
def rdK (k : Int) (t : Bs) : N3 × St :=
  if k = 1 then ((0, 0, 0), cutS (t, true) wFlat)
  else if k = 2 then ((numV (cutS (t, true) wKD), 0, 0), numS (cutS (t, true) wKD))
  else if k = 3 then ((numV (cutS (t, true) wVP), 0, 0), numS (cutS (t, true) wVP))
  else if k = 4 then ((numV (cutS (t, true) wIVF), 0, 0), cutS (numS (cutS (t, true) wIVF)) wCFlat)
  else if k = 5 then
    ((numV (cutS (t, true) wIVF), numV (cutS (numS (cutS (t, true) wIVF)) wPQ), numV (cutS (numS (cutS (numS (cutS (t, true) wIVF)) wPQ)) wX)),
      numS (cutS (numS (cutS (numS (cutS (t, true) wIVF)) wPQ)) wX))
  else if k = 6 then ((numV (cutS (t, true) wHNSW), 0, 0), numS (cutS (t, true) wHNSW))
  else ((0, 0, 0), (t, true))
def whl (st : St) : Bool := st.2 && st.1.isEmpty

/-! ### Digits -/
theorem isD_iff (c : UInt8) : isD c = true ↔ 48 ≤ c.toNat ∧ c.toNat ≤ 57 := by simp [isD]
theorem nd_le : ∀ l : Bs, nd l ≤ l.length
  | [] => Nat.le_refl _
  | c :: r => by
    have := nd_le r
    simp only [nd, List.length_cons]
    split <;> omega
theorem nd_all : ∀ l : Bs, (l.take (nd l)).all isD = true
  | [] => rfl
  | c :: r => by
    by_cases h : isD c = true
    · simp [nd, h, List.take_succ_cons, nd_all r]
    · simp [nd, h]
theorem nd_app : ∀ (d r : Bs), d.all isD = true → nd (d ++ r) = d.length + nd r
  | [], r, _ => by simp
  | c :: d, r, h => by
    simp only [List.all_cons, Bool.and_eq_true] at h
    simp only [List.cons_append, nd, if_pos h.1, nd_app d r h.2, List.length_cons]
    omega
theorem decFrom_fold : ∀ (l : Bs) (a : Nat), l.all isD = true → Lib.decFrom a l = some (l.foldl (fun n c => 10 * n + (c.toNat - 48)) a)
  | [], a, _ => rfl
  | c :: r, a, h => by
    simp only [List.all_cons, Bool.and_eq_true, isD_iff] at h
    simp only [Lib.decFrom, Lib.digitVal, if_pos h.1, List.foldl_cons]
    rw [decFrom_fold r _ h.2, Nat.mul_comm a 10]
theorem isN_len {d : Bs} (h : isN d = true) : 1 ≤ d.length ∧ d.length ≤ 9 := by
  simp only [isN, Bool.and_eq_true, decide_eq_true_eq] at h
  exact h.1
theorem atoiN_num (d : Bs) (hd : d.all isD = true) (hn : isN d = true) : atoiN d = (vl d : Int) := by
  obtain ⟨h1, h9⟩ := isN_len hn
  have e : Lib.atoiAll d = .ok (vl d : Int) := by
    rw [Lib.atoiAll_short d (by omega)]
    cases d with
    | nil => simp at h1
    | cons c r =>
      have hc := hd
      simp only [List.all_cons, Bool.and_eq_true, isD_iff] at hc
      have n45 : (c == 45) = false := by
        rw [beq_eq_false_iff_ne]; intro e; have := congrArg UInt8.toNat e; have e2 : (45 : UInt8).toNat = 45 := rfl; omega
      have n43 : (c == 43) = false := by
        rw [beq_eq_false_iff_ne]; intro e; have := congrArg UInt8.toNat e; have e2 : (43 : UInt8).toNat = 43 := rfl; omega
      have e3 := decFrom_fold (c :: r) 0 hd
      simp only [Lib.atoi, n45, n43, Lib.decNat, List.isEmpty_cons]
      simp only [Bool.false_eq_true, if_false, e3]
      rfl
  simp only [atoiN, e]

/-! ### Reading -/
theorem cut_yes {t w r : Bs} (h : frontO w t = some r) (b : Bool) : cutS (t, b) w = (r, b) := by
  unfold frontO at h
  split at h
  · rename_i hp
    injection h with h
    simp [cutS, hp, h]
  · cases h
theorem cut_no {t w : Bs} (h : frontO w t = none) (b : Bool) : cutS (t, b) w = (t, false) := by
  unfold frontO at h
  split at h
  · cases h
  · rename_i hp
    simp [cutS, hp]
theorem num_yes {t r : Bs} {n : Nat} (h : digO t = some (n, r)) (b : Bool) : numS (t, b) = (r, b) ∧ numV (t, b) = (n : Int) := by
  unfold digO at h
  split at h
  · rename_i hp
    simp only [Option.some.injEq, Prod.mk.injEq] at h
    refine ⟨by simp [numS, hp, h.2], ?_⟩
    rw [numV, atoiN_num _ (nd_all t) hp, h.1]
  · cases h
theorem num_no {t : Bs} (h : digO t = none) (b : Bool) : (numS (t, b)).2 = false := by
  unfold digO at h
  split at h
  · cases h
  · rename_i hp
    simp [numS, hp]
theorem cut_false (st : St) (w : Bs) (h : st.2 = false) : (cutS st w).2 = false := by
  unfold cutS; split
  · exact h
  · rfl
theorem num_false (st : St) (h : st.2 = false) : (numS st).2 = false := by simp [numS, h]
theorem whl_false (st : St) (h : st.2 = false) : whl st = false := by simp [whl, h]

theorem rd_one (w t : Bs) : match oneO w t with
    | none => whl (numS (cutS (t, true) w)) = false
    | some v => whl (numS (cutS (t, true) w)) = true ∧ (numV (cutS (t, true) w), (0 : Int), (0 : Int)) = v := by
  unfold oneO
  cases h1 : frontO w t with
  | none => simp only []; rw [cut_no h1]; exact whl_false _ (num_false _ rfl)
  | some r =>
    rw [cut_yes h1]
    simp only []
    cases h2 : digO r with
    | none => exact whl_false _ (num_no h2 _)
    | some ne =>
      obtain ⟨n, e⟩ := ne
      obtain ⟨e1, e2⟩ := num_yes h2 true
      simp only []
      rw [e1, e2]
      by_cases he : e = []
      · simp [he, whl]
      · simp [he, whl]
theorem rd_ivf (t : Bs) : match ivfO t with
    | none => whl (cutS (numS (cutS (t, true) wIVF)) wCFlat) = false
    | some v => whl (cutS (numS (cutS (t, true) wIVF)) wCFlat) = true ∧ (numV (cutS (t, true) wIVF), (0 : Int), (0 : Int)) = v := by
  unfold ivfO
  cases h1 : frontO wIVF t with
  | none => simp only []; rw [cut_no h1]; exact whl_false _ (cut_false _ _ (num_false _ rfl))
  | some r =>
    rw [cut_yes h1]
    simp only []
    cases h2 : digO r with
    | none => exact whl_false _ (cut_false _ _ (num_no h2 _))
    | some ne =>
      obtain ⟨n, e⟩ := ne
      obtain ⟨e1, e2⟩ := num_yes h2 true
      simp only []
      rw [e1, e2]
      by_cases he : e = wCFlat
      · subst he; rw [if_pos rfl]; exact ⟨rfl, rfl⟩
      · rw [if_neg he]
        simp only []
        unfold cutS
        split
        · rename_i hp
          rw [List.isPrefixOf_iff_prefix] at hp
          obtain ⟨s, hs⟩ := hp
          simp only at hs
          subst hs
          cases s with
          | nil => exact absurd (List.append_nil _) he
          | cons a s => simp [whl]
        · rfl
theorem rd_pq (t : Bs) : match pqO t with
    | none => whl (rdK 5 t).2 = false
    | some v => whl (rdK 5 t).2 = true ∧ (rdK 5 t).1 = v := by
  have e5 : rdK 5 t = ((numV (cutS (t, true) wIVF), numV (cutS (numS (cutS (t, true) wIVF)) wPQ), numV (cutS (numS (cutS (numS (cutS (t, true) wIVF)) wPQ)) wX)),
      numS (cutS (numS (cutS (numS (cutS (t, true) wIVF)) wPQ)) wX)) := by simp [rdK]
  rw [e5]
  unfold pqO
  cases h1 : frontO wIVF t with
  | none => simp only []; rw [cut_no h1]; exact whl_false _ (num_false _ (cut_false _ _ (num_false _ (cut_false _ _ (num_false _ rfl)))))
  | some r =>
    rw [cut_yes h1]
    simp only []
    cases h2 : digO r with
    | none => exact whl_false _ (num_false _ (cut_false _ _ (num_false _ (cut_false _ _ (num_no h2 _)))))
    | some ne =>
      obtain ⟨n, e⟩ := ne
      obtain ⟨e1, e2⟩ := num_yes h2 true
      simp only []
      rw [e1, e2]
      cases h3 : frontO wPQ e with
      | none => simp only []; rw [cut_no h3]; exact whl_false _ (num_false _ (cut_false _ _ (num_false _ rfl)))
      | some a =>
        rw [cut_yes h3]
        simp only []
        cases h4 : digO a with
        | none => exact whl_false _ (num_false _ (cut_false _ _ (num_no h4 _)))
        | some pl =>
          obtain ⟨p, l⟩ := pl
          obtain ⟨e3, e4⟩ := num_yes h4 true
          simp only []
          rw [e3, e4]
          cases h5 : frontO wX l with
          | none => simp only []; rw [cut_no h5]; exact whl_false _ (num_false _ rfl)
          | some b =>
            rw [cut_yes h5]
            simp only []
            cases h6 : digO b with
            | none => exact whl_false _ (num_no h6 _)
            | some cz =>
              obtain ⟨c, z⟩ := cz
              obtain ⟨e5, e6⟩ := num_yes h6 true
              simp only []
              rw [e5, e6]
              by_cases hz : z = []
              · simp [hz, whl]
              · simp [hz, whl]
/-- Reading a text as one of kind k tells whether it is one, and its numbers. -/
theorem rd_form (k : Int) (hk : 1 ≤ k ∧ k ≤ 6) (t : Bs) : match formK k t with
    | none => whl (rdK k t).2 = false
    | some v => whl (rdK k t).2 = true ∧ (rdK k t).1 = v := by
  have hc : k = 1 ∨ k = 2 ∨ k = 3 ∨ k = 4 ∨ k = 5 ∨ k = 6 := by omega
  rcases hc with rfl | rfl | rfl | rfl | rfl | rfl
  · simp only [formK, rdK, if_true]
    by_cases he : t = wFlat
    · subst he; rw [if_pos rfl]; exact ⟨rfl, rfl⟩
    · rw [if_neg he]
      simp only []
      unfold cutS
      split
      · rename_i hp
        rw [List.isPrefixOf_iff_prefix] at hp
        obtain ⟨s, hs⟩ := hp
        simp only at hs
        subst hs
        cases s with
        | nil => exact absurd (List.append_nil _) he
        | cons a s => simp [whl]
      · rfl
  · have := rd_one wKD t
    simpa [formK, rdK] using this
  · have := rd_one wVP t
    simpa [formK, rdK] using this
  · have := rd_ivf t
    simpa [formK, rdK] using this
  · have := rd_pq t
    simpa [formK] using this
  · have := rd_one wHNSW t
    simpa [formK, rdK] using this

/-! ### Specs -/
/-- P12.1. -/
def chkV (k n p c : Int) : Int :=
  if k < 1 ∨ 6 < k then 120
  else if k = 1 then (if n = 0 ∧ p = 0 ∧ c = 0 then 0 else 121)
  else if k = 2 ∨ k = 3 ∨ k = 4 then (if (1 ≤ n ∧ n ≤ 64) ∧ p = 0 ∧ c = 0 then 0 else 121)
  else if k = 5 then (if (1 ≤ n ∧ n ≤ 64) ∧ (1 ≤ p ∧ p ≤ 8) ∧ (1 ≤ c ∧ c ≤ 16) then 0 else 121)
  else (if (1 ≤ n ∧ n ≤ 16) ∧ p = 0 ∧ c = 0 then 0 else 121)
abbrev N4 := Int × Int × Int × Int
def endP (k : Int) (v : N3) : N4 × Int := if chkV k v.1 v.2.1 v.2.2 = 0 then ((k, v), 0) else ((0, 0, 0, 0), chkV k v.1 v.2.1 v.2.2)
/-- The first of the kinds from k on whose form a text has (f of them). -/
def parF : Nat → Int → Bs → N4 × Int
  | 0, _, _ => ((0, 0, 0, 0), 120)
  | f + 1, k, t => match formK k t with
    | some v => endP k v
    | none => parF f (k + 1) t
/-- P12.2. -/
def parV (t : Bs) : N4 × Int := parF 6 1 t
/-- The reference's order. -/
def parR (t : Bs) : N4 × Int :=
  match formK 1 t with
  | some v => endP 1 v
  | none => match formK 2 t with
    | some v => endP 2 v
    | none => match formK 3 t with
      | some v => endP 3 v
      | none => match formK 6 t with
        | some v => endP 6 v
        | none => match formK 4 t with
          | some v => endP 4 v
          | none => match formK 5 t with
            | some v => endP 5 v
            | none => ((0, 0, 0, 0), 120)
theorem front_head {c : UInt8} {w t r : Bs} (h : frontO (c :: w) t = some r) : t.head? = some c := by
  unfold frontO at h
  split at h
  · rename_i hp
    rw [List.isPrefixOf_iff_prefix] at hp
    obtain ⟨s, rfl⟩ := hp
    rfl
  · cases h
theorem one_head {c : UInt8} {w t : Bs} {v : N3} (h : oneO (c :: w) t = some v) : t.head? = some c := by
  unfold oneO at h
  cases h1 : frontO (c :: w) t with
  | none => rw [h1] at h; cases h
  | some r => exact front_head h1
theorem ivf_head {t : Bs} {v : N3} (h : ivfO t = some v) : t.head? = some 73 := by
  unfold ivfO at h
  cases h1 : frontO wIVF t with
  | none => rw [h1] at h; cases h
  | some r => exact front_head h1
theorem pq_head {t : Bs} {v : N3} (h : pqO t = some v) : t.head? = some 73 := by
  unfold pqO at h
  cases h1 : frontO wIVF t with
  | none => rw [h1] at h; cases h
  | some r => exact front_head h1
theorem par_same (t : Bs) : parR t = parV t := by
  have e : parV t = (match formK 1 t with
  | some v => endP 1 v
  | none => match formK 2 t with
    | some v => endP 2 v
    | none => match formK 3 t with
      | some v => endP 3 v
      | none => match formK 4 t with
        | some v => endP 4 v
        | none => match formK 5 t with
          | some v => endP 5 v
          | none => match formK 6 t with
            | some v => endP 6 v
            | none => ((0, 0, 0, 0), 120)) := rfl
  rw [e]; unfold parR
  cases h1 : formK 1 t with
  | some v => rfl
  | none =>
    simp only []
    cases h2 : formK 2 t with
    | some v => rfl
    | none =>
      simp only []
      cases h3 : formK 3 t with
      | some v => rfl
      | none =>
        simp only []
        cases h6 : formK 6 t with
        | none => rfl
        | some v =>
          have hh : t.head? = some 72 := one_head (show oneO wHNSW t = some v by simpa [formK] using h6)
          have h4 : formK 4 t = none := by
            cases h : formK 4 t with
            | none => rfl
            | some u =>
              have := ivf_head (show ivfO t = some u by simpa [formK] using h)
              rw [hh] at this; simp at this
          have h5 : formK 5 t = none := by
            cases h : formK 5 t with
            | none => rfl
            | some u =>
              have := pq_head (show pqO t = some u by simpa [formK] using h)
              rw [hh] at this; simp at this
          simp only [h4, h5]

/-! ### Printing -/
def dd (n : Int) : Bs := Lib.decDigits n.toNat
/-- P12.3: the text of a spec that may be. -/
def prK (k n p c : Int) : Bs :=
  if k = 1 then wFlat
  else if k = 2 then wKD ++ dd n
  else if k = 3 then wVP ++ dd n
  else if k = 4 then wIVF ++ dd n ++ wCFlat
  else if k = 5 then wIVF ++ dd n ++ wPQ ++ dd p ++ wX ++ dd c
  else if k = 6 then wHNSW ++ dd n
  else []
def prV (k n p c : Int) : Bs × Int := if chkV k n p c = 0 then (prK k n p c, 0) else ([], chkV k n p c)

theorem dec2 (n : Nat) (h : n < 100) : Lib.decDigits n = if n < 10 then [UInt8.ofNat (48 + n)] else [UInt8.ofNat (48 + n / 10), UInt8.ofNat (48 + n % 10)] := by
  split
  · rename_i h1; exact Lib.decDigits_one h1
  · rename_i h1; exact Lib.decDigits_two h1 h
theorem dd_fin : ∀ p : Fin 100, 1 ≤ p.val → ((if p.val < 10 then [UInt8.ofNat (48 + p.val)] else [UInt8.ofNat (48 + p.val / 10), UInt8.ofNat (48 + p.val % 10)] : Bs).all isD = true
    ∧ isN (if p.val < 10 then [UInt8.ofNat (48 + p.val)] else [UInt8.ofNat (48 + p.val / 10), UInt8.ofNat (48 + p.val % 10)]) = true
    ∧ vl (if p.val < 10 then [UInt8.ofNat (48 + p.val)] else [UInt8.ofNat (48 + p.val / 10), UInt8.ofNat (48 + p.val % 10)]) = p.val) := by decide +kernel
theorem dd_ok {n : Int} (h1 : 1 ≤ n) (h2 : n < 100) : (dd n).all isD = true ∧ isN (dd n) = true ∧ (vl (dd n) : Int) = n := by
  have h := dd_fin ⟨n.toNat, by omega⟩ (by show 1 ≤ n.toNat; omega)
  have e : dd n = _ := dec2 n.toNat (by omega)
  rw [e]
  obtain ⟨a, b, c⟩ := h
  refine ⟨a, b, ?_⟩
  simp only at c
  rw [c]; omega
theorem dig_dd {n : Int} (h1 : 1 ≤ n) (h2 : n < 100) (r : Bs) (hr : nd r = 0) : ∃ m : Nat, digO (dd n ++ r) = some (m, r) ∧ (m : Int) = n := by
  obtain ⟨a, b, c⟩ := dd_ok h1 h2
  refine ⟨vl (dd n), ?_, c⟩
  have e : nd (dd n ++ r) = (dd n).length := by rw [nd_app _ _ a, hr]; rfl
  unfold digO
  rw [e, List.take_left, List.drop_left, if_pos b]
theorem front_app (w r : Bs) : frontO w (w ++ r) = some r := by
  unfold frontO
  rw [if_pos (by rw [List.isPrefixOf_iff_prefix]; exact ⟨r, rfl⟩), List.drop_left]
theorem one_dd (w : Bs) {n : Int} (h1 : 1 ≤ n) (h2 : n < 100) : oneO w (w ++ dd n) = some (n, 0, 0) := by
  obtain ⟨m, e, rfl⟩ := dig_dd h1 h2 [] rfl
  rw [List.append_nil] at e
  simp [oneO, front_app, e]
theorem one_other {c d : UInt8} {w t : Bs} (h : c ≠ d) : oneO (c :: w) (d :: t) = none := by
  cases h1 : oneO (c :: w) (d :: t) with
  | none => rfl
  | some v => have := one_head h1; simp at this; exact absurd this.symm h
/-- What is printed is parsed as itself. -/
theorem par_pr (k n p c : Int) (h : chkV k n p c = 0) : parV (prK k n p c) = ((k, n, p, c), 0) := by
  have hk : 1 ≤ k ∧ k ≤ 6 := by
    unfold chkV at h
    by_cases h1 : k < 1 ∨ 6 < k
    · rw [if_pos h1] at h; cases h
    · omega
  have hc : k = 1 ∨ k = 2 ∨ k = 3 ∨ k = 4 ∨ k = 5 ∨ k = 6 := by omega
  have hen : endP k (n, p, c) = ((k, n, p, c), 0) := by simp [endP, h]
  rcases hc with rfl | rfl | rfl | rfl | rfl | rfl
  · have : n = 0 ∧ p = 0 ∧ c = 0 := by
      simp [chkV] at h; omega
    obtain ⟨rfl, rfl, rfl⟩ := this
    rfl
  · have : (1 ≤ n ∧ n ≤ 64) ∧ p = 0 ∧ c = 0 := by simp [chkV] at h; omega
    obtain ⟨⟨h1, h2⟩, rfl, rfl⟩ := this
    have f2 : formK 2 (prK 2 n 0 0) = some (n, 0, 0) := by
      show oneO wKD (wKD ++ dd n) = _
      exact one_dd _ h1 (by omega)
    have f1 : formK 1 (prK 2 n 0 0) = none := by
      show formK 1 _ = none
      rw [formK1, if_neg (by simp [prK, wKD, wFlat])]
    show parF 6 1 _ = _
    simp only [parF, f1, f2, hen, show (1 : Int) + 1 = 2 from rfl]
  · have : (1 ≤ n ∧ n ≤ 64) ∧ p = 0 ∧ c = 0 := by simp [chkV] at h; omega
    obtain ⟨⟨h1, h2⟩, rfl, rfl⟩ := this
    have f3 : formK 3 (prK 3 n 0 0) = some (n, 0, 0) := by
      show oneO wVP (wVP ++ dd n) = _
      exact one_dd _ h1 (by omega)
    have f1 : formK 1 (prK 3 n 0 0) = none := by
      show formK 1 _ = none
      rw [formK1, if_neg (by simp [prK, wVP, wFlat])]
    have f2 : formK 2 (prK 3 n 0 0) = none := by
      show oneO wKD (wVP ++ dd n) = _
      exact one_other (by decide)
    show parF 6 1 _ = _
    simp only [parF, f1, f2, f3, hen, show (1 : Int) + 1 = 2 from rfl, show (2 : Int) + 1 = 3 from rfl]
  · have : (1 ≤ n ∧ n ≤ 64) ∧ p = 0 ∧ c = 0 := by simp [chkV] at h; omega
    obtain ⟨⟨h1, h2⟩, rfl, rfl⟩ := this
    obtain ⟨m, e, rfl⟩ := dig_dd h1 (by omega) wCFlat rfl
    have f4 : formK 4 (prK 4 (m : Int) 0 0) = some ((m : Int), 0, 0) := by
      show ivfO (wIVF ++ dd (m : Int) ++ wCFlat) = _
      rw [List.append_assoc]
      simp [ivfO, front_app, e]
    have f1 : formK 1 (prK 4 (m : Int) 0 0) = none := by
      show formK 1 _ = none
      rw [formK1, if_neg (by simp [prK, wIVF, wFlat])]
    have f2 : formK 2 (prK 4 (m : Int) 0 0) = none := by
      show oneO wKD (wIVF ++ dd (m : Int) ++ wCFlat) = _
      exact one_other (by decide)
    have f3 : formK 3 (prK 4 (m : Int) 0 0) = none := by
      show oneO wVP (wIVF ++ dd (m : Int) ++ wCFlat) = _
      exact one_other (by decide)
    show parF 6 1 _ = _
    simp only [parF, f1, f2, f3, f4, hen, show (1 : Int) + 1 = 2 from rfl, show (2 : Int) + 1 = 3 from rfl, show (3 : Int) + 1 = 4 from rfl]
  · have : (1 ≤ n ∧ n ≤ 64) ∧ (1 ≤ p ∧ p ≤ 8) ∧ (1 ≤ c ∧ c ≤ 16) := by simp [chkV] at h; omega
    obtain ⟨⟨h1, h2⟩, ⟨h3, h4⟩, ⟨h5, h6⟩⟩ := this
    obtain ⟨m3, e3, rfl⟩ := dig_dd h5 (by omega) [] rfl
    obtain ⟨m2, e2, rfl⟩ := dig_dd h3 (by omega) (wX ++ (dd (m3 : Int) ++ [])) rfl
    obtain ⟨m1, e1, rfl⟩ := dig_dd h1 (by omega) (wPQ ++ (dd (m2 : Int) ++ (wX ++ (dd (m3 : Int) ++ [])))) rfl
    have ep : prK 5 (m1 : Int) m2 m3 = wIVF ++ (dd (m1 : Int) ++ (wPQ ++ (dd (m2 : Int) ++ (wX ++ (dd (m3 : Int) ++ []))))) := by
      simp [prK]
    rw [ep]
    generalize hR : wPQ ++ (dd (m2 : Int) ++ (wX ++ (dd (m3 : Int) ++ []))) = R at *
    have f5 : formK 5 (wIVF ++ (dd (m1 : Int) ++ R)) = some ((m1 : Int), (m2 : Int), (m3 : Int)) := by
      rw [formK5]
      unfold pqO
      rw [front_app]; simp only []
      rw [e1]; simp only []
      rw [← hR, front_app]; simp only []
      rw [e2]; simp only []
      rw [front_app]; simp only []
      rw [e3]; simp only [if_true]
    have f4 : formK 4 (wIVF ++ (dd (m1 : Int) ++ R)) = none := by
      rw [formK4]
      unfold ivfO
      rw [front_app]; simp only []
      rw [e1]; simp only []
      rw [if_neg (by rw [← hR]; simp [wPQ, wCFlat])]
    have f1 : formK 1 (wIVF ++ (dd (m1 : Int) ++ R)) = none := by
      rw [formK1, if_neg (by simp [wIVF, wFlat])]
    have f2 : formK 2 (wIVF ++ (dd (m1 : Int) ++ R)) = none := by
      rw [formK2]
      exact one_other (by decide)
    have f3 : formK 3 (wIVF ++ (dd (m1 : Int) ++ R)) = none := by
      rw [formK3]
      exact one_other (by decide)
    show parF 6 1 _ = _
    simp only [parF, f1, f2, f3, f4, f5, hen, show (1 : Int) + 1 = 2 from rfl, show (2 : Int) + 1 = 3 from rfl, show (3 : Int) + 1 = 4 from rfl, show (4 : Int) + 1 = 5 from rfl]
  · have : (1 ≤ n ∧ n ≤ 16) ∧ p = 0 ∧ c = 0 := by simp [chkV] at h; omega
    obtain ⟨⟨h1, h2⟩, rfl, rfl⟩ := this
    have f6 : formK 6 (prK 6 n 0 0) = some (n, 0, 0) := by
      show oneO wHNSW (wHNSW ++ dd n) = _
      exact one_dd _ h1 (by omega)
    have f1 : formK 1 (prK 6 n 0 0) = none := by
      show formK 1 _ = none
      rw [formK1, if_neg (by simp [prK, wHNSW, wFlat])]
    have f2 : formK 2 (prK 6 n 0 0) = none := by
      show oneO wKD (wHNSW ++ dd n) = _
      exact one_other (by decide)
    have f3 : formK 3 (prK 6 n 0 0) = none := by
      show oneO wVP (wHNSW ++ dd n) = _
      exact one_other (by decide)
    have f4 : formK 4 (prK 6 n 0 0) = none := by
      cases h : formK 4 (prK 6 n 0 0) with
      | none => rfl
      | some v => have := ivf_head (show ivfO (prK 6 n 0 0) = some v from h); simp [prK, wHNSW] at this
    have f5 : formK 5 (prK 6 n 0 0) = none := by
      cases h : formK 5 (prK 6 n 0 0) with
      | none => rfl
      | some v => have := pq_head (show pqO (prK 6 n 0 0) = some v from h); simp [prK, wHNSW] at this
    show parF 6 1 _ = _
    simp only [parF, f1, f2, f3, f4, f5, f6, hen, show (1 : Int) + 1 = 2 from rfl, show (2 : Int) + 1 = 3 from rfl, show (3 : Int) + 1 = 4 from rfl, show (4 : Int) + 1 = 5 from rfl, show (5 : Int) + 1 = 6 from rfl]

/-! ### What is parsed is printed as the same -/
theorem fold_ge : ∀ (l : Bs) (a : Nat), a * 10 ^ l.length ≤ l.foldl (fun n c => 10 * n + (c.toNat - 48)) a
  | [], a => by simp
  | c :: r, a => by
    have := fold_ge r (10 * a + (c.toNat - 48))
    simp only [List.foldl_cons, List.length_cons]
    refine Nat.le_trans ?_ this
    rw [Nat.pow_succ, Nat.mul_comm (10 ^ r.length) 10, ← Nat.mul_assoc]
    exact Nat.mul_le_mul_right _ (by omega)
theorem d_back {c : UInt8} (h : isD c = true) : UInt8.ofNat (48 + (c.toNat - 48)) = c := by
  obtain ⟨h1, h2⟩ := (isD_iff c).1 h
  rw [show 48 + (c.toNat - 48) = c.toNat by omega]
  exact UInt8.ofNat_toNat
theorem dd_vl {d : Bs} (ha : d.all isD = true) (hn : isN d = true) (h : vl d < 100) : dd (vl d : Int) = d := by
  have e0 : dd (vl d : Int) = Lib.decDigits (vl d) := by simp [dd]
  rw [e0, dec2 _ h]
  cases d with
  | nil => simp [isN] at hn
  | cons a r =>
    simp only [List.all_cons, Bool.and_eq_true] at ha
    obtain ⟨a1, a2⟩ := (isD_iff a).1 ha.1
    cases r with
    | nil =>
      have e : vl [a] = a.toNat - 48 := by simp [vl]
      rw [e, if_pos (by omega), d_back ha.1]
    | cons b r =>
      have hz : a.toNat ≠ 48 := by
        intro he
        have : a = 48 := by apply UInt8.toNat_inj.1; exact he
        subst this
        simp [isN] at hn
      simp only [List.all_cons, Bool.and_eq_true] at ha
      obtain ⟨b1, b2⟩ := (isD_iff b).1 ha.2.1
      cases r with
      | nil =>
        have e : vl [a, b] = 10 * (a.toNat - 48) + (b.toNat - 48) := by simp [vl]
        rw [e, if_neg (by omega), show (10 * (a.toNat - 48) + (b.toNat - 48)) / 10 = a.toNat - 48 by omega, show (10 * (a.toNat - 48) + (b.toNat - 48)) % 10 = b.toNat - 48 by omega, d_back ha.1, d_back ha.2.1]
      | cons c r =>
        exfalso
        have e : vl (a :: b :: c :: r) = (c :: r).foldl (fun n c => 10 * n + (c.toNat - 48)) (10 * (10 * 0 + (a.toNat - 48)) + (b.toNat - 48)) := rfl
        have h1 := fold_ge (c :: r) (10 * (10 * 0 + (a.toNat - 48)) + (b.toNat - 48))
        rw [← e] at h1
        have h2 : 10 ^ 1 ≤ 10 ^ (c :: r).length := Nat.pow_le_pow_right (by decide) (by simp)
        have h3 : 10 * 10 ^ 1 ≤ (10 * (10 * 0 + (a.toNat - 48)) + (b.toNat - 48)) * 10 ^ (c :: r).length := Nat.mul_le_mul (by omega) h2
        omega
theorem front_back {w t r : Bs} (h : frontO w t = some r) : t = w ++ r := by
  unfold frontO at h
  split at h
  · rename_i hp
    rw [List.isPrefixOf_iff_prefix] at hp
    obtain ⟨s, rfl⟩ := hp
    injection h with h
    rw [List.drop_left] at h
    rw [h]
  · cases h
theorem dig_back {t r : Bs} {n : Nat} (h : digO t = some (n, r)) (hn : n < 100) : t = dd (n : Int) ++ r := by
  unfold digO at h
  split at h
  · rename_i hp
    simp only [Option.some.injEq, Prod.mk.injEq] at h
    obtain ⟨h1, h2⟩ := h
    rw [← h1] at hn ⊢
    rw [dd_vl (nd_all t) hp hn, ← h2, List.take_append_drop]
  · cases h
theorem one_back {w t : Bs} {v : N3} (h : oneO w t = some v) (hn : v.1 < 100) : t = w ++ dd v.1 ∧ v.2 = (0, 0) := by
  unfold oneO at h
  cases h1 : frontO w t with
  | none => rw [h1] at h; cases h
  | some r =>
    rw [h1] at h; simp only [] at h
    cases h2 : digO r with
    | none => rw [h2] at h; cases h
    | some ne =>
      obtain ⟨n, e⟩ := ne
      rw [h2] at h; simp only [] at h
      by_cases he : e = []
      · rw [if_pos he] at h
        simp only [Option.some.injEq] at h
        subst h he
        have := dig_back h2 (by simp only at hn; omega)
        rw [List.append_nil] at this
        exact ⟨by rw [front_back h1, this], rfl⟩
      · rw [if_neg he] at h; cases h
theorem ivf_back {t : Bs} {v : N3} (h : ivfO t = some v) (hn : v.1 < 100) : t = wIVF ++ dd v.1 ++ wCFlat ∧ v.2 = (0, 0) := by
  unfold ivfO at h
  cases h1 : frontO wIVF t with
  | none => rw [h1] at h; cases h
  | some r =>
    rw [h1] at h; simp only [] at h
    cases h2 : digO r with
    | none => rw [h2] at h; cases h
    | some ne =>
      obtain ⟨n, e⟩ := ne
      rw [h2] at h; simp only [] at h
      by_cases he : e = wCFlat
      · rw [if_pos he] at h
        simp only [Option.some.injEq] at h
        subst h he
        have := dig_back h2 (by simp only at hn; omega)
        exact ⟨by rw [front_back h1, this, List.append_assoc], rfl⟩
      · rw [if_neg he] at h; cases h
theorem pq_back {t : Bs} {v : N3} (h : pqO t = some v) (hn : v.1 < 100) (hp : v.2.1 < 100) (hc : v.2.2 < 100) : t = wIVF ++ dd v.1 ++ wPQ ++ dd v.2.1 ++ wX ++ dd v.2.2 := by
  unfold pqO at h
  cases h1 : frontO wIVF t with
  | none => rw [h1] at h; cases h
  | some r =>
    rw [h1] at h; simp only [] at h
    cases h2 : digO r with
    | none => rw [h2] at h; cases h
    | some ne =>
      obtain ⟨n, e⟩ := ne
      rw [h2] at h; simp only [] at h
      cases h3 : frontO wPQ e with
      | none => rw [h3] at h; cases h
      | some a =>
        rw [h3] at h; simp only [] at h
        cases h4 : digO a with
        | none => rw [h4] at h; cases h
        | some pl =>
          obtain ⟨p, l⟩ := pl
          rw [h4] at h; simp only [] at h
          cases h5 : frontO wX l with
          | none => rw [h5] at h; cases h
          | some b =>
            rw [h5] at h; simp only [] at h
            cases h6 : digO b with
            | none => rw [h6] at h; cases h
            | some cz =>
              obtain ⟨c, z⟩ := cz
              rw [h6] at h; simp only [] at h
              by_cases hz : z = []
              · rw [if_pos hz] at h
                simp only [Option.some.injEq] at h
                subst h hz
                simp only at hn hp hc ⊢
                have g1 := dig_back h2 (by omega)
                have g2 := dig_back h4 (by omega)
                have g3 := dig_back h6 (by omega)
                rw [List.append_nil] at g3
                rw [front_back h1, g1, front_back h3, g2, front_back h5, g3]
                simp [List.append_assoc]
              · rw [if_neg hz] at h; cases h
/-- What has a form, and may be, is printed as the same. -/
theorem form_back {k : Int} {t : Bs} {v : N3} (h : formK k t = some v) (hc : chkV k v.1 v.2.1 v.2.2 = 0) : prK k v.1 v.2.1 v.2.2 = t := by
  obtain ⟨n, p, c⟩ := v
  simp only at hc ⊢
  have hk : 1 ≤ k ∧ k ≤ 6 := by
    unfold chkV at hc
    by_cases h1 : k < 1 ∨ 6 < k
    · rw [if_pos h1] at hc; cases hc
    · omega
  have hcs : k = 1 ∨ k = 2 ∨ k = 3 ∨ k = 4 ∨ k = 5 ∨ k = 6 := by omega
  rcases hcs with rfl | rfl | rfl | rfl | rfl | rfl
  · have : (if t = wFlat then some ((0 : Int), (0 : Int), (0 : Int)) else none) = some (n, p, c) := h
    split at this
    · rename_i he; subst he; rfl
    · cases this
  · have b : (1 ≤ n ∧ n ≤ 64) ∧ p = 0 ∧ c = 0 := by simp [chkV] at hc; omega
    have h' : oneO wKD t = some (n, p, c) := h
    exact (one_back h' (show n < 100 by omega)).1.symm
  · have b : (1 ≤ n ∧ n ≤ 64) ∧ p = 0 ∧ c = 0 := by simp [chkV] at hc; omega
    have h' : oneO wVP t = some (n, p, c) := h
    exact (one_back h' (show n < 100 by omega)).1.symm
  · have b : (1 ≤ n ∧ n ≤ 64) ∧ p = 0 ∧ c = 0 := by simp [chkV] at hc; omega
    have h' : ivfO t = some (n, p, c) := h
    exact (ivf_back h' (show n < 100 by omega)).1.symm
  · have b : (1 ≤ n ∧ n ≤ 64) ∧ (1 ≤ p ∧ p ≤ 8) ∧ (1 ≤ c ∧ c ≤ 16) := by simp [chkV] at hc; omega
    have h' : pqO t = some (n, p, c) := h
    exact (pq_back h' (show n < 100 by omega) (show p < 100 by omega) (show c < 100 by omega)).symm
  · have b : (1 ≤ n ∧ n ≤ 16) ∧ p = 0 ∧ c = 0 := by simp [chkV] at hc; omega
    have h' : oneO wHNSW t = some (n, p, c) := h
    exact (one_back h' (show n < 100 by omega)).1.symm
theorem end_back {k : Int} {t : Bs} {v : N3} {s : N4} (h : formK k t = some v) (he : endP k v = (s, 0)) : chkV s.1 s.2.1 s.2.2.1 s.2.2.2 = 0 ∧ prK s.1 s.2.1 s.2.2.1 s.2.2.2 = t := by
  unfold endP at he
  split at he
  · rename_i hc
    simp only [Prod.mk.injEq, and_true] at he
    subst he
    exact ⟨hc, form_back h hc⟩
  · rename_i hc
    simp only [Prod.mk.injEq] at he
    exact absurd he.2 hc
theorem par_back {t : Bs} {s : N4} : ∀ (f : Nat) (k : Int), parF f k t = (s, 0) → chkV s.1 s.2.1 s.2.2.1 s.2.2.2 = 0 ∧ prK s.1 s.2.1 s.2.2.1 s.2.2.2 = t
  | 0, k, h => by simp [parF] at h
  | f + 1, k, h => by
    simp only [parF] at h
    cases hf : formK k t with
    | none => rw [hf] at h; exact par_back f (k + 1) h
    | some v => rw [hf] at h; exact end_back hf h
theorem par_zero {t : Bs} : ∀ (f : Nat) (k : Int), (parF f k t).2 ≠ 0 → (parF f k t).1 = (0, 0, 0, 0)
  | 0, k, _ => rfl
  | f + 1, k, h => by
    simp only [parF] at h ⊢
    cases hf : formK k t with
    | none => rw [hf] at h; simp only [] at h ⊢; exact par_zero f (k + 1) h
    | some v =>
      rw [hf] at h
      simp only [endP] at h ⊢
      split at h
      · exact absurd rfl h
      · rename_i hc; rw [if_neg hc]

end Go.Proofs.YtjblfjghbpcheaaDoor
