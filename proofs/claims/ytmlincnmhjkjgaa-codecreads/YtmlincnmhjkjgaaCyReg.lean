/- Regions as they are read; vec.isId, idsRise, usesItsFields, checkCorners. -/
import Derived.Test.YtmlincnmhjkjgaaCy3
namespace Go.Proofs.Ytmlincnmhjkjgaa
open Go.RowKit

/-- A region: shape, Lo, Hi, Radius, Ids. -/
structure Reg where
  S : Int
  L : List Int
  H : List Int
  R : Nat
  I : List Int
abbrev rv (r : Reg) (vl vh vi : Value) : Value := .agg #[.int .i64 r.S, vl, vh, .int .u64 (hi r.R), .int .u64 (lo r.R), vi]
/-- The value v reads as this region. -/
def RdR (w : World) (v : Value) (r : Reg) : Prop := ∃ vl vh vi, v = rv r vl vh vi ∧ RdI w vl r.L ∧ RdI w vh r.H ∧ RdI w vi r.I
theorem RdR.gb {w w' : World} {v : Value} {r : Reg} (h : RdR w v r) (g : Gb w w') : RdR w' v r := by
  obtain ⟨vl, vh, vi, e, h1, h2, h3⟩ := h
  exact ⟨vl, vh, vi, e, h1.gb g, h2.gb g, h3.gb g⟩

theorem wd_run (a b c d : Int) (W : World) : (binOp .eql 69 (.agg #[.int .u64 a, .int .u64 b]) (.agg #[.int .u64 c, .int .u64 d])).run Try.prog W = .ok (.bool (a == c && b == d)) W := by
  have u24 := Try.underlying67
  have a24 := Try.isAgg67
  have z24 := Try.sizeOf67
  have hS : Try.prog.underlying 69 = some (.struct (Try.prog.fieldsOf 69)) := by kernel_rfl
  have hp : Try.prog.stoodInHeld 69 = false := by kernel_rfl
  have h : (Op.equalIn 10000 69 (.agg #[.int .u64 a, .int .u64 b]) (.agg #[.int .u64 c, .int .u64 d])).run Try.prog W = .ok (a == c && b == d) W := by
    rw [show (10000 : Nat) = 9999 + 1 from rfl, run_equalIn_agg W 9999 69 _ _ hS hp]
    simp only [Program.fieldsOf, Try.underlying69]
    go_simp
    by_cases h1 : a = c <;> by_cases h2 : b = d <;> simp [h1, h2]
  rw [run_eql_struct, h]; rfl
theorem wd_inj {a b : Nat} (h : hi a = hi b) (k : lo a = lo b) : a = b := by unfold hi at h; unfold lo at k; omega
theorem wd_eq (a b : Nat) (W : World) : (binOp .eql 69 (Wd a) (Wd b)).run Try.prog W = .ok (.bool (decide (a = b))) W := by
  rw [wd_run]
  have : (hi a == hi b && lo a == lo b) = decide (a = b) := by
    by_cases h : a = b
    · subst h; simp
    · rw [decide_eq_false h, Bool.and_eq_false_iff, beq_eq_false_iff_ne, beq_eq_false_iff_ne]
      by_cases h1 : hi a = hi b
      · right; intro h2; exact h (wd_inj h1 h2)
      · exact .inl h1
  rw [this]
theorem wd_eq0 (a : Nat) (r : Bool) (h : decide (a = 0) = r) (W : World) : (binOp .eql 69 (.agg #[.int .u64 (hi a), .int .u64 (lo a)]) (.agg #[.int .u64 0, .int .u64 0])).run Try.prog W = .ok (.bool r) W := by
  subst h; exact wd_eq a 0 W

/-- An id that may be. -/
def okId (x : Int) : Bool := decide (1 ≤ x) && decide (x ≤ 1000000000)
theorem okId_iff (x : Int) : okId x = true ↔ 1 ≤ x ∧ x ≤ 1000000000 := by simp [okId]
theorem isId_c (x : Int) (w : World) : Calls Try.prog 44 #[.int .i64 x] w fun e w' => e = .returned (.bool (okId x)) ∧ w = w' := by
  by_cases h : 1 ≤ x
  · by_cases h2 : x ≤ 1000000000
    · have E : Hid (okId x = true) := (okId_iff x).2 ⟨h, h2⟩
      go_enter Try.func44, Try.ntmps44
      go_wp2
      go_ret
      exact ⟨by rw [E.out]; rfl, rfl⟩
    · have E : Hid (okId x = false) := by unfold Hid; rw [← Bool.not_eq_true, okId_iff]; omega
      go_enter Try.func44, Try.ntmps44
      go_wp2
      go_ret
      exact ⟨by rw [E.out]; rfl, rfl⟩
  · have E : Hid (okId x = false) := by unfold Hid; rw [← Bool.not_eq_true, okId_iff]; omega
    go_enter Try.func44, Try.ntmps44
    go_wp2
    go_ret
    exact ⟨by rw [E.out]; rfl, rfl⟩
theorem isId_v (x : Int) (b : Bool) (h : okId x = b) (w : World) : Calls Try.prog 44 #[.int .i64 x] w fun e w' => e = .returned (.bool b) ∧ w = w' := by
  subst h; exact isId_c x w

/-- The first q ids may be, and rise. -/
def okAt (l : List Int) (i : Nat) : Bool := okId l[i]! && (i == 0 || decide (l[i - 1]! < l[i]!))
def riseTo (l : List Int) : Nat → Bool
  | 0 => true
  | q + 1 => riseTo l q && okAt l q
def rise (l : List Int) : Bool := riseTo l l.length
theorem riseTo_le {l : List Int} {p q : Nat} (h : p ≤ q) (hp : riseTo l p = false) : riseTo l q = false := by
  induction q with
  | zero => have : p = 0 := by omega
            subst this; exact hp
  | succ q ih =>
    by_cases e : p = q + 1
    · subst e; exact hp
    · simp only [riseTo]; rw [ih (by omega)]; rfl
theorem rise_no {l : List Int} {q : Nat} (hq : q < l.length) (h : okAt l q = false) : rise l = false :=
  riseTo_le (p := q + 1) (by omega) (by simp only [riseTo]; rw [h, Bool.and_false])

/-- Does a region's shape use all that is not zero? -/
def uses (r : Reg) : Bool := if r.S = 1 then decide (r.L.length = 0) && decide (r.H.length = 0) && decide (r.R = 0) else if r.S = 2 then decide (r.R = 0) else if r.S = 3 then decide (r.H.length = 0) else false

/-- A region in a variable. -/
structure RegAt (w : World) (b : Nat) (r : Reg) (vl vh vi : Value) : Prop where
  c0 : w.cell? ⟨b, 0, none⟩ = some (.int .i64 r.S)
  c1 : w.cell? ⟨b, 1, none⟩ = some vl
  c2 : w.cell? ⟨b, 2, none⟩ = some vh
  c3 : w.cell? ⟨b, 3, none⟩ = some (.int .u64 (hi r.R))
  c4 : w.cell? ⟨b, 4, none⟩ = some (.int .u64 (lo r.R))
  c5 : w.cell? ⟨b, 5, none⟩ = some vi
theorem RegAt.gb {w w' : World} {b : Nat} {r : Reg} {vl vh vi : Value} (h : RegAt w b r vl vh vi) (g : Gb w w') : RegAt w' b r vl vh vi :=
  ⟨gb_keeps g h.c0, gb_keeps g h.c1, gb_keeps g h.c2, gb_keeps g h.c3, gb_keeps g h.c4, gb_keeps g h.c5⟩
abbrev rc (r : Reg) (vl vh vi : Value) : Obj := .cells #[.int .i64 r.S, vl, vh, .int .u64 (hi r.R), .int .u64 (lo r.R), vi] 71
theorem RegAt.new (w : World) (r : Reg) (vl vh vi : Value) : RegAt (w.alloc (rc r vl vh vi)) w.heap.size r vl vh vi :=
  ⟨by simp [go_sem], by simp [go_sem], by simp [go_sem], by simp [go_sem], by simp [go_sem], by simp [go_sem]⟩

/-- No coordinate of the first q of l is above h's. -/
def below (l h : List Int) : Nat → Bool
  | 0 => true
  | q + 1 => below l h q && decide (l[q]! ≤ h[q]!)
theorem below_le {l h : List Int} {p q : Nat} (hpq : p ≤ q) (hp : below l h p = false) : below l h q = false := by
  induction q with
  | zero => have : p = 0 := by omega
            subst this; exact hp
  | succ q ih =>
    by_cases e : p = q + 1
    · subst e; exact hp
    · simp only [below]; rw [ih (by omega)]; rfl
theorem below_get {l h : List Int} {q : Nat} (hb : below l h q = true) {i : Nat} (hi : i < q) : l[i]! ≤ h[i]! := by
  induction q with
  | zero => omega
  | succ q ih =>
    simp only [below, Bool.and_eq_true, decide_eq_true_eq] at hb
    by_cases e : i = q
    · subst e; exact hb.2
    · exact ih hb.1 (by omega)
/-- What checkCorners answers. -/
def cornE (l h : List Int) (d : Int) : Int := if chk l d = 0 then (if chk h d = 0 then (if below l h l.length = true then 0 else 32) else chk h d) else chk l d

end Go.Proofs.Ytmlincnmhjkjgaa
