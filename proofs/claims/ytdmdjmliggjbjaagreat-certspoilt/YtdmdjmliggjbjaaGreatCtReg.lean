/- Regions as they are read; vec.isId, idsRise, usesItsFields, checkCorners. -/
import Derived.Test.YtdmdjmliggjbjaaGreatCt4
namespace Go.Proofs.YtdmdjmliggjbjaaGreat
open Go.RowKit

/-- A region: shape, Lo, Hi, Radius, Ids. -/
structure Reg where
  S : Int
  L : List Int
  H : List Int
  R : Nat
  I : List Int
abbrev rv (r : Reg) (vl vh vi : Value) : Value := .agg #[.int .i64 r.S, vl, vh, .int .u64 (hi r.R), .int .u64 (lo r.R), vi]
/-- The value v reads as this region. -/
def RdR (w : World) (v : Value) (r : Reg) : Prop := ∃ vl vh vi, v = rv r vl vh vi ∧ RdI w vl r.L ∧ RdI w vh r.H ∧ RdI w vi r.I
theorem RdR.gb {w w' : World} {v : Value} {r : Reg} (h : RdR w v r) (g : Gb w w') : RdR w' v r := by
  obtain ⟨vl, vh, vi, e, h1, h2, h3⟩ := h
  exact ⟨vl, vh, vi, e, h1.gb g, h2.gb g, h3.gb g⟩

theorem wd_run (a b c d : Int) (W : World) : (binOp .eql 41 (.agg #[.int .u64 a, .int .u64 b]) (.agg #[.int .u64 c, .int .u64 d])).run Tryz.prog W = .ok (.bool (a == c && b == d)) W := by
  have u24 := Tryz.underlying39
  have a24 := Tryz.isAgg39
  have z24 := Tryz.sizeOf39
  have hS : Tryz.prog.underlying 41 = some (.struct (Tryz.prog.fieldsOf 41)) := by kernel_rfl
  have hp : Tryz.prog.stoodInHeld 41 = false := by kernel_rfl
  have h : (Op.equalIn 10000 41 (.agg #[.int .u64 a, .int .u64 b]) (.agg #[.int .u64 c, .int .u64 d])).run Tryz.prog W = .ok (a == c && b == d) W := by
    rw [show (10000 : Nat) = 9999 + 1 from rfl, run_equalIn_agg W 9999 41 _ _ hS hp]
    simp only [Program.fieldsOf, Tryz.underlying41]
    go_simp
    by_cases h1 : a = c <;> by_cases h2 : b = d <;> simp [h1, h2]
  rw [run_eql_struct, h]; rfl
theorem wd_inj {a b : Nat} (h : hi a = hi b) (k : lo a = lo b) : a = b := by unfold hi at h; unfold lo at k; omega
theorem wd_eq (a b : Nat) (W : World) : (binOp .eql 41 (Wd a) (Wd b)).run Tryz.prog W = .ok (.bool (decide (a = b))) W := by
  rw [wd_run]
  have : (hi a == hi b && lo a == lo b) = decide (a = b) := by
    by_cases h : a = b
    · subst h; simp
    · rw [decide_eq_false h, Bool.and_eq_false_iff, beq_eq_false_iff_ne, beq_eq_false_iff_ne]
      by_cases h1 : hi a = hi b
      · right; intro h2; exact h (wd_inj h1 h2)
      · exact .inl h1
  rw [this]
theorem wd_eq0 (a : Nat) (r : Bool) (h : decide (a = 0) = r) (W : World) : (binOp .eql 41 (.agg #[.int .u64 (hi a), .int .u64 (lo a)]) (.agg #[.int .u64 0, .int .u64 0])).run Tryz.prog W = .ok (.bool r) W := by
  subst h; exact wd_eq a 0 W

/-- An id that may be. -/
def okId (x : Int) : Bool := decide (1 ≤ x) && decide (x ≤ 1000000000)
theorem okId_iff (x : Int) : okId x = true ↔ 1 ≤ x ∧ x ≤ 1000000000 := by simp [okId]
theorem isId_c (x : Int) (w : World) : Calls Tryz.prog 114 #[.int .i64 x] w fun e w' => e = .returned (.bool (okId x)) ∧ w = w' := by
  by_cases h : 1 ≤ x
  · by_cases h2 : x ≤ 1000000000
    · have E : Hid (okId x = true) := (okId_iff x).2 ⟨h, h2⟩
      go_enter Tryz.func114, Tryz.ntmps114
      go_wp2
      go_ret
      exact ⟨by rw [E.out]; rfl, rfl⟩
    · have E : Hid (okId x = false) := by unfold Hid; rw [← Bool.not_eq_true, okId_iff]; omega
      go_enter Tryz.func114, Tryz.ntmps114
      go_wp2
      go_ret
      exact ⟨by rw [E.out]; rfl, rfl⟩
  · have E : Hid (okId x = false) := by unfold Hid; rw [← Bool.not_eq_true, okId_iff]; omega
    go_enter Tryz.func114, Tryz.ntmps114
    go_wp2
    go_ret
    exact ⟨by rw [E.out]; rfl, rfl⟩
theorem isId_v (x : Int) (b : Bool) (h : okId x = b) (w : World) : Calls Tryz.prog 114 #[.int .i64 x] w fun e w' => e = .returned (.bool b) ∧ w = w' := by
  subst h; exact isId_c x w

/-- The first q ids may be, and rise. -/
def okAt (l : List Int) (i : Nat) : Bool := okId l[i]! && (i == 0 || decide (l[i - 1]! < l[i]!))
def riseTo (l : List Int) : Nat → Bool
  | 0 => true
  | q + 1 => riseTo l q && okAt l q
def rise (l : List Int) : Bool := riseTo l l.length
theorem riseTo_le {l : List Int} {p q : Nat} (h : p ≤ q) (hp : riseTo l p = false) : riseTo l q = false := by
  induction q with
  | zero => have : p = 0 := by omega
            subst this; exact hp
  | succ q ih =>
    by_cases e : p = q + 1
    · subst e; exact hp
    · simp only [riseTo]; rw [ih (by omega)]; rfl
theorem rise_no {l : List Int} {q : Nat} (hq : q < l.length) (h : okAt l q = false) : rise l = false :=
  riseTo_le (p := q + 1) (by omega) (by simp only [riseTo]; rw [h, Bool.and_false])

set_option maxHeartbeats 2000000 in
set_option maxRecDepth 100000 in
theorem idsRise_c {w : World} {v : Value} {l : List Int} (h : RdI w v l) (hlen : l.length ≤ 4611686018427387904) :
    Calls Tryz.prog 94 #[v] w fun e w' => e = .returned (.bool (rise l)) ∧ w = w' := by
  obtain ⟨a, cap, rfl, ha⟩ := h
  have A : Hid (∀ i, i < l.length → ∃ b o, a = some ⟨b, o, none⟩ ∧ w.cell? ⟨b, o + i, none⟩ = some (.int .i64 l[i]!)) := ha
  obtain ⟨n, hN⟩ : ∃ n, n = l.length := ⟨_, rfl⟩
  have N : Hid (n = l.length) := hN
  rw [← hN] at hlen ⊢
  clear ha hN
  go_enter Tryz.func94, Tryz.ntmps94
  go_wp2
  go_loopw [7] (fun iv w' => ∃ q : Nat, iv = .int .i64 (q : Int) ∧ q ≤ n ∧ w = w' ∧ Hid (riseTo l q = true)) (fun iv _ => n - (intOf iv).toNat)
  case atStart => exact ⟨0, rfl, Nat.zero_le _, rfl, rfl⟩
  case round =>
    obtain ⟨q, rfl, hq, rfl, X⟩ := hrel
    by_cases hqn : q < n
    · have hqi : (q : Int) < (n : Int) := by omega
      have hql : q < l.length := by have := N.out; omega
      obtain ⟨b, o, ea, hc⟩ := A.out q hql
      by_cases hid : okId l[q]! = true
      · have c := fun W => isId_v l[q]! true hid W
        by_cases h0 : q = 0
        · have R : Hid (riseTo l (q + 1) = true) := by unfold Hid; simp only [riseTo, okAt]; rw [X.out, hid, h0]; rfl
          subst ea
          have h0' : ¬ (q : Int) > 0 := by omega
          generalize l[q]! = x at *
          clear X hid hql h0
          go_wp2_with (go_at_call 114; refine (c _).mono ?_; rintro e w' ⟨rfl, e2⟩; subst e2)
          go_roundw
          case rel => exact ⟨q + 1, by simp, hqn, by first | rfl | trivial, R⟩
          case measure => simp [intOf]; omega
        · obtain ⟨p, hp⟩ : ∃ p, q = p + 1 := ⟨q - 1, by omega⟩
          subst hp
          obtain ⟨b', o', ea', hc'⟩ := A.out p (by omega)
          rw [ea] at ea'
          cases ea'
          have hpi : ((p + 1 : Nat) : Int) - 1 = (p : Int) := by omega
          have hp0 : ((p + 1 : Nat) : Int) > 0 := by omega
          by_cases hlt : l[p]! < l[p + 1]!
          · have R : Hid (riseTo l (p + 1 + 1) = true) := by
              have x1 := X.out
              unfold Hid
              rw [riseTo, x1, okAt, hid, Nat.add_sub_cancel, decide_eq_true hlt]; simp
            have hlt' : ¬ l[p + 1]! ≤ l[p]! := by omega
            subst ea
            generalize l[p + 1]! = x at *
            generalize l[p]! = y at *
            clear X hid hql
            go_wp2_with (go_at_call 114; refine (c _).mono ?_; rintro e w' ⟨rfl, e2⟩; subst e2)
            go_roundw
            case rel => exact ⟨p + 1 + 1, by simp, hqn, by first | rfl | trivial, R⟩
            case measure => simp [intOf]; omega
          · have R : Hid (rise l = false) := rise_no hql (by rw [okAt, hid, Nat.add_sub_cancel, decide_eq_false hlt]; simp)
            have hlt' : l[p + 1]! ≤ l[p]! := by omega
            subst ea
            generalize l[p + 1]! = x at *
            generalize l[p]! = y at *
            clear X hid hql
            go_wp2_with (go_at_call 114; refine (c _).mono ?_; rintro e w' ⟨rfl, e2⟩; subst e2)
            go_ret
            exact ⟨by rw [R.out]; rfl, by first | rfl | trivial⟩
      · have c := fun W => isId_v l[q]! false (by simpa using hid) W
        have R : Hid (rise l = false) := rise_no hql (by rw [okAt, show okId l[q]! = false by simpa using hid]; rfl)
        subst ea
        generalize l[q]! = x at *
        clear X hid hql
        go_wp2_with (go_at_call 114; refine (c _).mono ?_; rintro e w' ⟨rfl, e2⟩; subst e2)
        go_ret
        exact ⟨by rw [R.out]; rfl, by first | rfl | trivial⟩
    · have hqi : ¬ (q : Int) < (n : Int) := by omega
      have R : Hid (rise l = true) := by
        have h1 := X.out
        have h2 : q = l.length := by have := N.out; omega
        rw [h2] at h1; exact h1
      go_wp2
      go_ret
      exact ⟨by rw [R.out]; rfl, by first | rfl | trivial⟩

/-- Does a region's shape use all that is not zero? -/
def uses (r : Reg) : Bool := if r.S = 1 then decide (r.L.length = 0) && decide (r.H.length = 0) && decide (r.R = 0) else if r.S = 2 then decide (r.R = 0) else if r.S = 3 then decide (r.H.length = 0) else false

/-- A region in a variable. -/
structure RegAt (w : World) (b : Nat) (r : Reg) (vl vh vi : Value) : Prop where
  c0 : w.cell? ⟨b, 0, none⟩ = some (.int .i64 r.S)
  c1 : w.cell? ⟨b, 1, none⟩ = some vl
  c2 : w.cell? ⟨b, 2, none⟩ = some vh
  c3 : w.cell? ⟨b, 3, none⟩ = some (.int .u64 (hi r.R))
  c4 : w.cell? ⟨b, 4, none⟩ = some (.int .u64 (lo r.R))
  c5 : w.cell? ⟨b, 5, none⟩ = some vi
theorem RegAt.gb {w w' : World} {b : Nat} {r : Reg} {vl vh vi : Value} (h : RegAt w b r vl vh vi) (g : Gb w w') : RegAt w' b r vl vh vi :=
  ⟨gb_keeps g h.c0, gb_keeps g h.c1, gb_keeps g h.c2, gb_keeps g h.c3, gb_keeps g h.c4, gb_keeps g h.c5⟩
abbrev rc (r : Reg) (vl vh vi : Value) : Obj := .cells #[.int .i64 r.S, vl, vh, .int .u64 (hi r.R), .int .u64 (lo r.R), vi] 48
theorem RegAt.new (w : World) (r : Reg) (vl vh vi : Value) : RegAt (w.alloc (rc r vl vh vi)) w.heap.size r vl vh vi :=
  ⟨by simp [go_sem], by simp [go_sem], by simp [go_sem], by simp [go_sem], by simp [go_sem], by simp [go_sem]⟩

set_option maxHeartbeats 2000000 in
theorem uses_c {w : World} {v : Value} {r : Reg} (h : RdR w v r) :
    Calls Tryz.prog 93 #[v] w fun e w' => e = .returned (.bool (uses r)) ∧ Gr w w' := by
  obtain ⟨vl, vh, vi, rfl, ⟨pl, cl, rfl, _⟩, ⟨ph, ch, rfl, _⟩, h3⟩ := h
  clear h3
  have E : Hid (uses r = if r.S = 1 then decide (r.L.length = 0) && decide (r.H.length = 0) && decide (r.R = 0) else if r.S = 2 then decide (r.R = 0) else if r.S = 3 then decide (r.H.length = 0) else false) := rfl
  generalize uses r = res at *
  obtain ⟨S, L, H, R, I⟩ := r
  dsimp only at *
  generalize L.length = nl at *
  generalize H.length = nh at *
  by_cases s1 : S = 1
  · subst s1
    rw [if_pos rfl] at E
    by_cases k1 : nl = 0
    · subst k1
      by_cases k2 : nh = 0
      · subst k2
        have hz := fun W => wd_eq0 R res (by have := E.out; simpa using this.symm) W
        go_enter Tryz.func93, Tryz.ntmps93
        go_wp2
        go_ret
        exact ⟨rfl, (Gr.refl _).alloc _ _⟩
      · have e : res = false := by have := E.out; rw [this]; simp [k2]
        subst e
        have k2' : ((nh : Int) == 0) = false := by rw [beq_eq_false_iff_ne]; omega
        clear k2 E
        go_enter Tryz.func93, Tryz.ntmps93
        go_wp2
        go_ret
        exact ⟨rfl, (Gr.refl _).alloc _ _⟩
    · have e : res = false := by have := E.out; rw [this]; simp [k1]
      subst e
      have k2' : ((nl : Int) == 0) = false := by rw [beq_eq_false_iff_ne]; omega
      clear k1 E
      go_enter Tryz.func93, Tryz.ntmps93
      go_wp2
      go_ret
      exact ⟨rfl, (Gr.refl _).alloc _ _⟩
  · have s1' : (S == 1) = false := by rw [beq_eq_false_iff_ne]; exact s1
    by_cases s2 : S = 2
    · subst s2
      have hz := fun W => wd_eq0 R res (by have := E.out; simpa using this.symm) W
      clear E s1
      go_enter Tryz.func93, Tryz.ntmps93
      go_wp2
      go_ret
      exact ⟨rfl, (Gr.refl _).alloc _ _⟩
    · have s2' : (S == 2) = false := by rw [beq_eq_false_iff_ne]; exact s2
      by_cases s3 : S = 3
      · subst s3
        have e : Hid (res = ((nh : Int) == 0)) := by
          have := E.out
          unfold Hid
          rw [this]
          by_cases k : nh = 0
          · simp [k]
          · have : ((nh : Int) == 0) = false := by rw [beq_eq_false_iff_ne]; omega
            rw [this]; simp [k]
        clear E s1 s2
        go_enter Tryz.func93, Tryz.ntmps93
        go_wp2
        go_ret
        exact ⟨by rw [e.out]; rfl, (Gr.refl _).alloc _ _⟩
      · have s3' : (S == 3) = false := by rw [beq_eq_false_iff_ne]; exact s3
        have e : res = false := by have := E.out; rw [this, if_neg s1, if_neg s2, if_neg s3]
        subst e
        clear E s1 s2 s3
        go_enter Tryz.func93, Tryz.ntmps93
        go_wp2
        go_ret
        exact ⟨rfl, (Gr.refl _).alloc _ _⟩
theorem uses_v {w : World} {v : Value} {r : Reg} (h : RdR w v r) (b : Bool) (hb : uses r = b) :
    Calls Tryz.prog 93 #[v] w fun e w' => e = .returned (.bool b) ∧ Gr w w' := by
  subst hb; exact uses_c h
theorem idsRise_v {w : World} {v : Value} {l : List Int} (h : RdI w v l) (hlen : l.length ≤ 4611686018427387904) (b : Bool) (hb : rise l = b) :
    Calls Tryz.prog 94 #[v] w fun e w' => e = .returned (.bool b) ∧ w = w' := by
  subst hb; exact idsRise_c h hlen

/-- No coordinate of the first q of l is above h's. -/
def below (l h : List Int) : Nat → Bool
  | 0 => true
  | q + 1 => below l h q && decide (l[q]! ≤ h[q]!)
theorem below_le {l h : List Int} {p q : Nat} (hpq : p ≤ q) (hp : below l h p = false) : below l h q = false := by
  induction q with
  | zero => have : p = 0 := by omega
            subst this; exact hp
  | succ q ih =>
    by_cases e : p = q + 1
    · subst e; exact hp
    · simp only [below]; rw [ih (by omega)]; rfl
theorem below_get {l h : List Int} {q : Nat} (hb : below l h q = true) {i : Nat} (hi : i < q) : l[i]! ≤ h[i]! := by
  induction q with
  | zero => omega
  | succ q ih =>
    simp only [below, Bool.and_eq_true, decide_eq_true_eq] at hb
    by_cases e : i = q
    · subst e; exact hb.2
    · exact ih hb.1 (by omega)
/-- What checkCorners answers. -/
def cornE (l h : List Int) (d : Int) : Int := if chk l d = 0 then (if chk h d = 0 then (if below l h l.length = true then 0 else 32) else chk h d) else chk l d

set_option maxHeartbeats 2000000 in
set_option maxRecDepth 100000 in
theorem corners_c {w : World} {u v : Value} {l h : List Int} (hu : RdI w u l) (hv : RdI w v h) (d : Int) :
    Calls Tryz.prog 95 #[u, v, .int .i64 d] w fun e w' => e = .returned (.int .i64 (cornE l h d)) ∧ w = w' := by
  have cA := fun r k => check_v hu d r k
  have cB := fun r k => check_v hv d r k
  obtain ⟨pa, ca, rfl, ha⟩ := hu
  obtain ⟨pb, cb, rfl, hb⟩ := hv
  have A : Hid (∀ i, i < l.length → ∃ b o, pa = some ⟨b, o, none⟩ ∧ w.cell? ⟨b, o + i, none⟩ = some (.int .i64 l[i]!)) := ha
  have B : Hid (∀ i, i < h.length → ∃ b o, pb = some ⟨b, o, none⟩ ∧ w.cell? ⟨b, o + i, none⟩ = some (.int .i64 h[i]!)) := hb
  clear ha hb
  by_cases h1 : chk l d = 0
  · have c1 := cA _ h1
    by_cases h2 : chk h d = 0
    · have c2 := cB _ h2
      have E : Hid (cornE l h d = if below l h l.length = true then 0 else 32) := by unfold Hid cornE; rw [if_pos h1, if_pos h2]
      obtain ⟨k1, k2, k3, _⟩ := chk_ok h1
      obtain ⟨_, _, k4, _⟩ := chk_ok h2
      have LL : Hid (h.length = l.length) := by unfold Hid; omega
      rw [show h.length = l.length by omega] at c2 ⊢
      obtain ⟨n, hN⟩ : ∃ n, n = l.length := ⟨_, rfl⟩
      have N : Hid (n = l.length) := hN
      rw [← hN] at c1 c2 k1 k2 ⊢
      generalize cornE l h d = res at *
      clear cA cB h1 h2 k3 k4 hN
      go_enter Tryz.func95, Tryz.ntmps95
      go_wp2_with fail
      refine c1.mono ?_
      rintro e w' ⟨rfl, e2⟩
      subst e2
      go_wp2_with fail
      refine c2.mono ?_
      rintro e w' ⟨rfl, e2⟩
      subst e2
      clear c1 c2
      go_wp2
      go_loopw [25] (fun iv w' => ∃ q : Nat, iv = .int .i64 (q : Int) ∧ q ≤ n ∧ w = w' ∧ Hid (below l h q = true)) (fun iv _ => n - (intOf iv).toNat)
      case atStart => exact ⟨0, rfl, Nat.zero_le _, rfl, rfl⟩
      case round =>
        obtain ⟨q, rfl, hq, rfl, X⟩ := hrel
        by_cases hqn : q < n
        · have hqi : (q : Int) < (n : Int) := by omega
          have hql : q < l.length := by have := N.out; omega
          obtain ⟨b1, o1, ea, hc1⟩ := A.out q hql
          obtain ⟨b2, o2, eb, hc2⟩ := B.out q (by have := LL.out; omega)
          subst ea; subst eb
          by_cases hle : l[q]! ≤ h[q]!
          · have R : Hid (below l h (q + 1) = true) := by unfold Hid; rw [below, X.out, decide_eq_true hle]; rfl
            have hle' : ¬ l[q]! > h[q]! := by omega
            generalize l[q]! = x at *
            generalize h[q]! = y at *
            clear hle
            go_wp2
            go_roundw
            case rel => exact ⟨q + 1, by simp, hqn, by first | rfl | trivial, R⟩
            case measure => simp [intOf]; omega
          · have R : Hid (res = 32) := by
              have h1 : below l h l.length = false := below_le (p := q + 1) (by omega) (by rw [below, decide_eq_false hle, Bool.and_false])
              have h2 := E.out
              rw [h1] at h2; exact h2
            have hle' : l[q]! > h[q]! := by omega
            generalize l[q]! = x at *
            generalize h[q]! = y at *
            clear hle
            go_wp2
            go_ret
            exact ⟨by rw [R.out]; rfl, by first | rfl | trivial⟩
        · have hqi : ¬ (q : Int) < (n : Int) := by omega
          have R : Hid (res = 0) := by
            have h1 := X.out
            have h2 := E.out
            rw [show q = l.length by have := N.out; omega] at h1
            rw [h1] at h2; exact h2
          go_wp2
          go_ret
          exact ⟨by rw [R.out]; rfl, by first | rfl | trivial⟩
    · have c2 := cB _ rfl
      have E : cornE l h d = chk h d := by unfold cornE; rw [if_pos h1, if_neg h2]
      have h3 : (chk h d == 0) = false := by rw [beq_eq_false_iff_ne]; exact h2
      rw [E]
      clear cA cB h1 h2 E A B
      generalize chk h d = s at *
      generalize l.length = m at *
      generalize h.length = n at *
      go_enter Tryz.func95, Tryz.ntmps95
      go_wp2_with fail
      refine c1.mono ?_
      rintro e w' ⟨rfl, e2⟩
      subst e2
      go_wp2_with fail
      refine c2.mono ?_
      rintro e w' ⟨rfl, e2⟩
      subst e2
      go_wp2
      go_ret
      exact ⟨rfl, rfl⟩
  · have c1 := cA _ rfl
    have E : cornE l h d = chk l d := by unfold cornE; rw [if_neg h1]
    have h3 : (chk l d == 0) = false := by rw [beq_eq_false_iff_ne]; exact h1
    rw [E]
    clear cA cB h1 E A B
    generalize chk l d = s at *
    generalize l.length = m at *
    generalize h.length = n at *
    go_enter Tryz.func95, Tryz.ntmps95
    go_wp2_with fail
    refine c1.mono ?_
    rintro e w' ⟨rfl, e2⟩
    subst e2
    go_wp2
    go_ret
    exact ⟨rfl, rfl⟩
theorem corners_v {w : World} {u v : Value} {l h : List Int} (hu : RdI w u l) (hv : RdI w v h) (d r : Int) (hr : cornE l h d = r) :
    Calls Tryz.prog 95 #[u, v, .int .i64 d] w fun e w' => e = .returned (.int .i64 r) ∧ w = w' := by
  subst hr; exact corners_c hu hv d
end Go.Proofs.YtdmdjmliggjbjaaGreat
