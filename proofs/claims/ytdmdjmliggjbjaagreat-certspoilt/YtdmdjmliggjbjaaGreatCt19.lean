import Derived.Test.YtdmdjmliggjbjaaGreatCtInB
import Derived.Test.YtdmdjmliggjbjaaGreatCt11
import Derived.Test.YtdmdjmliggjbjaaGreatCt18
import Derived.Test.YtdmdjmliggjbjaaGreatCt6
import Derived.ProofKit
import Derived.Carry
import Derived.Deep.Slices
import Derived.Lib.SmallJoins
/- theodolitekeep.Ints; the law's own box and ball. -/
namespace Go.Proofs.YtdmdjmliggjbjaaGreat
open Go.RowKit Go.Sort

theorem take_snoc {l : List Int} {q : Nat} (h : q < l.length) : l.take (q + 1) = l.take q ++ [l[q]!] := by
  rw [List.take_succ_eq_append_getElem h, getElem!_pos l q h]

set_option maxHeartbeats 2000000 in
set_option maxRecDepth 100000 in
theorem ints_c {w : World} {u v : Value} {l m : List Int} (hu : RdI w u l) (hv : RdI w v m) (hlen : l.length ≤ 4611686018427387904) :
    Calls Tryz.prog 27 #[u, v] w fun e w' => e = .returned (.bool (decide (l = m))) ∧ Gr w w' := by
  obtain ⟨a, ca, rfl, ha⟩ := hu
  obtain ⟨b, cb, rfl, hb⟩ := hv
  by_cases hlm : l.length = m.length
  · have A : Hid (∀ i, i < l.length → ∃ b o, a = some ⟨b, o, none⟩ ∧ w.cell? ⟨b, o + i, none⟩ = some (.int .i64 l[i]!)) := ha
    have B : Hid (∀ i, i < m.length → ∃ b' o, b = some ⟨b', o, none⟩ ∧ w.cell? ⟨b', o + i, none⟩ = some (.int .i64 m[i]!)) := hb
    have L : Hid (l.length = m.length) := hlm
    rw [← hlm]
    obtain ⟨n, hN⟩ : ∃ n, n = l.length := ⟨_, rfl⟩
    have N : Hid (n = l.length) := hN
    rw [← hN] at hlen ⊢
    clear ha hb hlm hN
    go_enter Tryz.func27, Tryz.ntmps27
    go_wp2
    go_loopw [5] (fun iv w' => ∃ q : Nat, iv = .int .i64 (q : Int) ∧ q ≤ n ∧ Hid (l.take q = m.take q ∧ Gr w w')) (fun iv _ => n - (intOf iv).toNat)
    case atStart => exact ⟨0, rfl, Nat.zero_le _, ⟨by simp, Gr.refl _⟩⟩
    case round =>
      obtain ⟨q, rfl, hq, X⟩ := hrel
      by_cases hqn : q < n
      · have hql : q < l.length := by have := N.out; omega
        have hqm : q < m.length := by have := L.out; omega
        obtain ⟨b1, o1, ea, h1⟩ := A.out q hql
        obtain ⟨b2, o2, eb, h2⟩ := B.out q hqm
        subst ea; subst eb
        have h1 := X.out.2.keeps h1
        have h2 := X.out.2.keeps h2
        by_cases hxy : l[q]! = m[q]!
        · have R : Hid (l.take (q + 1) = m.take (q + 1)) := by unfold Hid; rw [take_snoc hql, take_snoc hqm, X.out.1, hxy]
          rw [hxy] at h1
          generalize m[q]! = x at *
          clear hxy hql hqm
          go_wp2
          go_quiet (fail)
          go_wp2
          go_roundw
          case rel => exact ⟨q + 1, by simp, hqn, R.out, X.out.2.drewN _⟩
          case measure => simp [intOf]; omega
        · have R : Hid (decide (l = m) = false) := decide_eq_false (fun e => hxy (by rw [e]))
          have hne : (l[q]! == m[q]!) = false := by rw [beq_eq_false_iff_ne]; exact hxy
          generalize l[q]! = x at *
          generalize m[q]! = y at *
          clear hxy hql hqm
          go_wp2
          go_quiet (fail)
          go_wp2
          go_ret
          exact ⟨by rw [R.out]; rfl, X.out.2.drewN _⟩
      · have R : Hid (decide (l = m) = true) := by
          have e := X.out.1
          have h1 := N.out
          have h2 := L.out
          rw [List.take_of_length_le (by omega), List.take_of_length_le (by omega)] at e
          exact decide_eq_true e
        go_wp2
        go_ret
        exact ⟨by rw [R.out]; rfl, X.out.2⟩
  · have R : Hid (decide (l = m) = false) := decide_eq_false (fun e => hlm (by rw [e]))
    have hne : ((l.length : Int) == (m.length : Int)) = false := by rw [beq_eq_false_iff_ne]; omega
    generalize l.length = n1 at *
    generalize m.length = n2 at *
    clear ha hb hlm
    go_enter Tryz.func27, Tryz.ntmps27
    go_wp2
    go_ret
    exact ⟨by rw [R.out]; rfl, Gr.refl _⟩
theorem ints_v {w : World} {u v : Value} {l m : List Int} (hu : RdI w u l) (hv : RdI w v m) (hlen : l.length ≤ 4611686018427387904) (r : Bool) (hr : decide (l = m) = r) :
    Calls Tryz.prog 27 #[u, v] w fun e w' => e = .returned (.bool r) ∧ Gr w w' := by
  subst hr; exact ints_c hu hv hlen

theorem rdi_two (W : World) (x y : Int) : RdI (W.alloc (.cells #[.int .i64 x, .int .i64 y] 3)) (.slice (some ⟨W.heap.size, 0, none⟩) 2 2) [x, y] := by
  refine ⟨_, 2, rfl, fun i hi => ⟨W.heap.size, 0, rfl, ?_⟩⟩
  have : i = 0 ∨ i = 1 := by simp at hi; omega
  rcases this with rfl | rfl <;> simp [go_sem]
theorem rdi_one (W : World) (x : Int) : RdI (W.alloc (.cells #[.int .i64 x] 3)) (.slice (some ⟨W.heap.size, 0, none⟩) 1 1) [x] := by
  refine ⟨_, 1, rfl, fun i hi => ⟨W.heap.size, 0, rfl, ?_⟩⟩
  have : i = 0 := by simp at hi; omega
  subst this; simp [go_sem]
end Go.Proofs.YtdmdjmliggjbjaaGreat

/- The reference's ids. -/
namespace Go.Proofs.YtdmdjmliggjbjaaGreat
open Go.RowKit

theorem rid_q (x : Int) (b : Bool) (h : okId x = b) (w : World) : Calls Tryz.prog 120 #[.int .i64 x] w fun e w' => e = .returned (.bool b) ∧ ∃ n, w' = w.drewN n :=
  (rid_v x b h w).mono fun _ _ ⟨h1, h2⟩ => ⟨h1, 0, h2.symm⟩

set_option maxHeartbeats 4000000 in
set_option maxRecDepth 100000 in
theorem rids_c {w : World} {v : Value} {l : List Int} (h : RdI w v l) (hlen : l.length ≤ 4611686018427387904) :
    Calls Tryz.prog 103 #[v] w fun e w' => e = .returned (.bool (rise l)) ∧ Gr w w' := by
  obtain ⟨a, cap, rfl, ha⟩ := h
  have A : Hid (∀ i, i < l.length → ∃ b o, a = some ⟨b, o, none⟩ ∧ w.cell? ⟨b, o + i, none⟩ = some (.int .i64 l[i]!)) := ha
  obtain ⟨n, hN⟩ : ∃ n, n = l.length := ⟨_, rfl⟩
  have N : Hid (n = l.length) := hN
  rw [← hN] at hlen ⊢
  clear ha hN
  go_enter Tryz.func103, Tryz.ntmps103
  go_wp2
  go_loopw [3] (fun iv w' => ∃ q : Nat, iv = .int .i64 (q : Int) ∧ q ≤ n ∧ Gr w w' ∧ Hid (riseTo l q = true)) (fun iv _ => n - (intOf iv).toNat)
  case atStart => exact ⟨0, rfl, Nat.zero_le _, Gr.refl _, rfl⟩
  case round =>
    obtain ⟨q, rfl, hq, G, X⟩ := hrel
    by_cases hqn : q < n
    · have hqi : (q : Int) < (n : Int) := by omega
      have hql : q < l.length := by have := N.out; omega
      obtain ⟨b, o, ea, hc⟩ := A.out q hql
      replace hc := G.keeps hc
      by_cases hid : okId l[q]! = true
      · have c := fun W => rid_q l[q]! true hid W
        by_cases h0 : q = 0
        · have R : Hid (riseTo l (q + 1) = true) := by unfold Hid; simp only [riseTo, okAt]; rw [X.out, hid, h0]; rfl
          subst ea
          have h0' : decide (0 < q) = false := by rw [decide_eq_false_iff_not]; omega
          generalize l[q]! = x at *
          clear X hid hql h0
          go_wp2
          go_quiet (first | (go_at_call 120; exact Calls.quiet_of (c _)))
          go_wp2
          go_roundw
          case rel => exact ⟨q + 1, by simp, hqn, G.drewN _, R⟩
          case measure => simp [intOf]; omega
        · obtain ⟨p, hp⟩ : ∃ p, q = p + 1 := ⟨q - 1, by omega⟩
          obtain ⟨b', o', ea', hc'⟩ := A.out p (by omega)
          rw [ea] at ea'
          cases ea'
          replace hc' := G.keeps hc'
          have hpi : (q : Int) - 1 = (p : Int) := by omega
          have hpn : (p : Int) < (n : Int) := by omega
          have hp0 : decide (0 < q) = true := by rw [decide_eq_true_eq]; omega
          have hqp : q - 1 = p := by omega
          by_cases hlt : l[p]! < l[q]!
          · have R : Hid (riseTo l (q + 1) = true) := by
              have x1 := X.out
              unfold Hid
              rw [riseTo, x1, okAt, hid, hqp, decide_eq_true hlt]; simp
            have hlt' : decide (l[q]! ≤ l[p]!) = false := by rw [decide_eq_false_iff_not]; omega
            subst ea
            generalize l[q]! = x at *
            generalize l[p]! = y at *
            clear X hid hql h0 hlt hqp hp
            go_wp2
            go_quiet (first | (go_at_call 120; exact Calls.quiet_of (c _)))
            go_wp2
            go_roundw
            case rel => exact ⟨q + 1, by simp, hqn, G.drewN _, R⟩
            case measure => simp [intOf]; omega
          · have R : Hid (rise l = false) := rise_no hql (by rw [okAt, hid, hqp, decide_eq_false hlt]; simp; omega)
            have hlt' : decide (l[q]! ≤ l[p]!) = true := by rw [decide_eq_true_eq]; omega
            subst ea
            generalize l[q]! = x at *
            generalize l[p]! = y at *
            clear X hid hql h0 hlt hqp hp
            go_wp2
            go_quiet (first | (go_at_call 120; exact Calls.quiet_of (c _)))
            go_wp2
            go_ret
            exact ⟨by rw [R.out]; rfl, G.drewN _⟩
      · have c := fun W => rid_q l[q]! false (by simpa using hid) W
        have R : Hid (rise l = false) := rise_no hql (by rw [okAt, show okId l[q]! = false by simpa using hid]; rfl)
        subst ea
        generalize l[q]! = x at *
        clear X hid hql
        go_wp2
        go_quiet (first | (go_at_call 120; exact Calls.quiet_of (c _)))
        go_wp2
        go_ret
        exact ⟨by rw [R.out]; rfl, G.drewN _⟩
    · have hqi : ¬ (q : Int) < (n : Int) := by omega
      have R : Hid (rise l = true) := by
        have h1 := X.out
        have h2 : q = l.length := by have := N.out; omega
        rw [h2] at h1; exact h1
      go_wp2
      go_ret
      exact ⟨by rw [R.out]; rfl, G⟩

end Go.Proofs.YtdmdjmliggjbjaaGreat

/- What the rows' proofs share: arguments that came in, opened; the outcome. -/
namespace Go.Proofs.YtdmdjmliggjbjaaGreat
open Go.ChangeShapes Go.WideShapes Go.ChangeAt Go.RowKit Go.Joins Go.Deep

theorem Tryz.own : ownKnob Tryz.prog.godebug = none := by kernel_rfl
theorem Tryz.cells3 : Tryz.prog.cellsOf 3 = 1 := by kernel_rfl
theorem Tryz.cells23 : Tryz.prog.cellsOf 23 = 1 := by kernel_rfl
theorem Tryz.cells39 : Tryz.prog.cellsOf 39 = 1 := by kernel_rfl
theorem Tryz.cells41 : Tryz.prog.cellsOf 41 = 2 := by kernel_rfl
theorem Tryz.cells44 : Tryz.prog.cellsOf 44 = 1 := by kernel_rfl
theorem Tryz.cells48 : Tryz.prog.cellsOf 48 = 6 := by kernel_rfl
theorem Tryz.cells46 : Tryz.prog.cellsOf 46 = 2 := by kernel_rfl

theorem below_trodAll {H : Type} {enc : TypeId × Value → H} {W W' : World} (g : Gb W W') : ∀ (ts : List TypeId) (vs : List Value) (ds : List (DataW H)) (p : List MemPlace),
    (∀ t ∈ ts, Tryz.prog.readableRec t = true ∧ t < Tryz.prog.types.size) → (∀ x ∈ p, x.block < W.heap.size) → DataW.TrodAll enc Tryz.prog W 0 (fun _ => true) true ts vs ds p →
    DataW.TrodAll enc Tryz.prog W' 0 (fun b => decide (b < W.heap.size)) true ts vs ds p
  | [], vs, ds, p, _, _, h => by
    obtain ⟨rfl, rfl, rfl⟩ := trodAll_nil h
    rfl
  | t :: ts, vs, ds, p, hr, hl, h => by
    obtain ⟨v, vs1, d, ds1, a, b, rfl, rfl, rfl, h1, h2⟩ := trodAll_cons h
    exact ⟨a, b, Below.trod (by kernel_rfl) (hr t List.mem_cons_self).1 (hr t List.mem_cons_self).2 h1 g (fun x hx => hl x (List.mem_append_left _ hx)),
      below_trodAll g ts vs1 ds1 b (fun t' ht' => hr t' (List.mem_cons_of_mem _ ht')) (fun x hx => hl x (List.mem_append_right _ hx)) h2, rfl⟩

/-- The outcome of a law: true, and the arguments read as they did. -/
theorem law_post {H : Type} {enc : TypeId × Value → H} {s : ChangeSpec} {f : Func} {W W' : World} {args : Array Value} {ds gs : List (DataW H)} {before : List MemPlace}
    (hW : DataW.Whole enc Tryz.prog f.params.toList s.vars false W args.toList ds gs before) (hv : s.vars = []) (hr : f.resultTypes = #[4])
    (hf : s.fn H (ds ++ gs) = { results := [.lit (.bool true)], args := ds }) (hread : ∀ t ∈ f.params.toList, Tryz.prog.readableRec t = true ∧ t < Tryz.prog.types.size) (g : Gb W W') :
    s.post enc Tryz.prog f false true false false W args (.bool true) W' := by
  have hlt := hW.lt
  have hW2 := hW
  obtain ⟨p, q, hA, hV, rfl, _, _⟩ := hW2
  rw [hv] at hV
  obtain ⟨rfl, rfl⟩ := trodVars_none hV
  rw [List.append_nil] at hlt
  refine ⟨ds, [], p ++ [], [], p, [], hW, ?_, ?_, ?_, Below.frame g _, fun h => by cases h⟩
  · rw [hf, hr]
    exact trodAll_mk1 (shut_bool Tryz.underlying4 _)
  · rw [hf]
    exact below_trodAll g _ _ _ _ hread hlt hA
  · rw [hf, hv]
    exact rfl
theorem spot_none {w : World} {a : Addr} {v : Value} (h : w.cell? a = some v) : a = ⟨a.block, a.off, none⟩ := by
  obtain ⟨b, o, s⟩ := a
  cases s with
  | none => rfl
  | some s =>
    simp only [World.cell?] at h
    split at h <;> simp at h
theorem word_of_wf {a : Int} (h : (Lit.int .u64 a).wf = true) : 0 ≤ a ∧ a < 18446744073709551616 := by
  simp [Lit.wf, IntKind.min, IntKind.max, IntKind.signed, IntKind.bits] at h
  exact ⟨by omega, by omega⟩
/-- A list of numbers, read. -/
theorem trod22 {H : Type} {enc : TypeId × Value → H} {W : World} {base fuel : Nat} {hd : Bool} {cs : List Value} {x : DataW H × List MemPlace}
    (h : DataW.trod enc Tryz.prog W base (fun _ => true) hd fuel 23 cs = some x) : ∃ v l, cs = [v] ∧ RdI W v l ∧ l.length ≤ maxLen := by
  rcases open_slice1 Tryz.underlying23 Tryz.cells3 h with ⟨rfl, _⟩ | ⟨a, len, cap, m, n, V, D, Pl, rfl, _, hlc, hcm, hm, _, hx⟩
  · exact ⟨_, [], rfl, rdi_nil _, Nat.zero_le _⟩
  · rw [if_pos rfl] at hm
    subst hm
    have hy : ∀ i, i < len → ∃ y : Int, W.cell? (a.add i) = some (.int .i64 y) := by
      intro i hi
      obtain ⟨hc, ht⟩ := hx i (by omega)
      obtain ⟨y, e, _⟩ := DataW.trod_int Tryz.underlying3 ht
      simp at e
      exact ⟨y, by rw [hc, e]⟩
    obtain ⟨Y, hY⟩ := choose_lt (α := Int) (p := fun i y => W.cell? (a.add i) = some (.int .i64 y)) hy
    refine ⟨_, (List.range len).map Y, rfl, ⟨some a, m, by simp, fun i hi => ?_⟩, by simp; omega⟩
    have hi' : i < len := by simpa using hi
    have ha : a = ⟨a.block, a.off, none⟩ := spot_none (by simpa [Addr.add] using hY 0 (by omega))
    refine ⟨a.block, a.off, by rw [← ha], ?_⟩
    have e : ((List.range len).map Y)[i]! = Y i := by rw [getElem!_pos _ i hi]; simp
    rw [e]
    have := hY i hi'
    rwa [ha, Addr.add_lit] at this
set_option maxRecDepth 100000 in
theorem open_ints {H : Type} {enc : TypeId × Value → H} {W : World} {b0 : Nat} {r : Reach} {v : Value} {d : DataW H} {p : List MemPlace}
    (hv' : Value.okWide Tryz.prog W r b0 23 v) (h : DataW.Trod enc Tryz.prog W 0 (fun _ => true) true 23 v d p) : ∃ l, RdI W v l ∧ l.length ≤ maxLen := by
  obtain ⟨a0, len, cap, rfl⟩ := okWide_slice Tryz.underlying23 hv'
  obtain ⟨fuel, hf⟩ := h
  obtain ⟨v, l, e, hr⟩ := trod22 (by simpa [Value.cells] using hf)
  cases e
  exact ⟨l, hr⟩
theorem trod_struct5 {H : Type} {enc : TypeId × Value → H} {w : World} {base : Nat} {spare : Nat → Bool} {held : Bool} {t : TypeId} {f0 f1 f2 f3 f4 : Field} {fuel : Nat} {cs : List Value} {x : DataW H × List MemPlace} (ht : Tryz.prog.underlying t = some (.struct #[f0, f1, f2, f3, f4])) (h : DataW.trod enc Tryz.prog w base spare held fuel t cs = some x) :
    ∃ y0 y1 y2 y3 y4 n, cs.length = Tryz.prog.cellsOf t ∧ DataW.trod enc Tryz.prog w base spare held n f0.type ((cs.drop f0.offset).take (Tryz.prog.cellsOf f0.type)) = some y0 ∧
      DataW.trod enc Tryz.prog w base spare held n f1.type ((cs.drop f1.offset).take (Tryz.prog.cellsOf f1.type)) = some y1 ∧ DataW.trod enc Tryz.prog w base spare held n f2.type ((cs.drop f2.offset).take (Tryz.prog.cellsOf f2.type)) = some y2 ∧
      DataW.trod enc Tryz.prog w base spare held n f3.type ((cs.drop f3.offset).take (Tryz.prog.cellsOf f3.type)) = some y3 ∧ DataW.trod enc Tryz.prog w base spare held n f4.type ((cs.drop f4.offset).take (Tryz.prog.cellsOf f4.type)) = some y4 := by
  obtain ⟨xs, n, _, rfl, hl, hlen, hf⟩ := DataW.trod_struct ht h
  match xs, hlen with
  | [y0, y1, y2, y3, y4], _ => exact ⟨y0, y1, y2, y3, y4, n, hl, by simpa using hf 0 f0 rfl, by simpa using hf 1 f1 rfl, by simpa using hf 2 f2 rfl, by simpa using hf 3 f3 rfl, by simpa using hf 4 f4 rfl⟩
set_option maxRecDepth 100000 in
/-- A region that came in. -/
theorem open_reg {H : Type} {enc : TypeId × Value → H} {W : World} {b0 : Nat} {r : Reach} {v : Value} {d : DataW H} {p : List MemPlace}
    (hv' : Value.okWide Tryz.prog W r b0 48 v) (h : DataW.Trod enc Tryz.prog W 0 (fun _ => true) true 48 v d p) : ∃ r : Reg, RdR W v r ∧ r.R < 340282366920938463463374607431768211456 := by
  obtain ⟨cs, rfl, hsz⟩ := okWide_struct Tryz.underlying48 hv'
  obtain ⟨fuel, hf⟩ := h
  obtain ⟨l⟩ := cs
  simp only [Value.cells] at hf
  obtain ⟨y0, y1, y2, y3, y4, n, hl, k0, k1, k2, k3, k4⟩ := trod_struct5 Tryz.underlying48 hf
  rw [Tryz.cells48] at hl
  match l, hl with
  | [c0, c1, c2, c3, c4, c5], _ =>
    obtain ⟨z0, z1, m, _, hl1, j0, j1⟩ := trod_struct2 Tryz.underlying41 k3
    obtain ⟨S, e0, _⟩ := DataW.trod_int Tryz.underlying44 k0
    obtain ⟨vl, L, e1, rl, _⟩ := trod22 k1
    obtain ⟨vh, Hh, e2, rh, _⟩ := trod22 k2
    obtain ⟨vi, I, e4, ri, _⟩ := trod22 k4
    obtain ⟨a, e5, _, wa⟩ := DataW.trod_int Tryz.underlying39 j0
    obtain ⟨b, e6, _, wb⟩ := DataW.trod_int Tryz.underlying39 j1
    simp [Tryz.cells44, Tryz.cells23, Tryz.cells41, Tryz.cells39] at e0 e1 e2 e4 e5 e6
    subst e0 e1 e2 e4 e5 e6
    obtain ⟨a0, a1⟩ := word_of_wf wa
    obtain ⟨l0, l1⟩ := word_of_wf wb
    obtain ⟨q1, q2⟩ := hi_lo a b a0 l0 l1
    exact ⟨⟨S, L, Hh, (a * 18446744073709551616 + b).toNat, I⟩, ⟨_, _, _, by unfold rv; rw [q1, q2], rl, rh, ri⟩, wd_lt a b a1 l1⟩
set_option maxRecDepth 100000 in
/-- Rows that came in. -/
theorem open_rows {H : Type} {enc : TypeId × Value → H} {W : World} {b0 : Nat} {r : Reach} {v : Value} {d : DataW H} {p : List MemPlace}
    (hv' : Value.okWide Tryz.prog W r b0 22 v) (h : DataW.Trod enc Tryz.prog W 0 (fun _ => true) true 22 v d p) :
    ∃ rs : List Rw, RdW W v rs ∧ rs.length ≤ maxLen ∧ (∀ i, i < rs.length → (Lit.int .i64 rs[i]!.1).wf = true) ∧ ∀ i, i < rs.length → rs[i]!.2.length ≤ maxLen := by
  obtain ⟨a0, len, cap, rfl⟩ := okWide_slice Tryz.underlying22 hv'
  obtain ⟨fuel, hf⟩ := h
  rcases open_slice Tryz.underlying22 (by simpa [Value.cells] using hf) with ⟨e, _⟩ | ⟨a, len, cap, m, n, D, Pl, e, _, hlc, hcm, hm, _, hx⟩
  · cases e
    exact ⟨[], ⟨none, 0, rfl, fun i hi => absurd hi (Nat.not_lt_zero _)⟩, Nat.zero_le _, fun i hi => absurd hi (Nat.not_lt_zero _), fun i hi => absurd hi (Nat.not_lt_zero _)⟩
  · cases e
    rw [if_pos rfl] at hm
    subst hm
    have hy : ∀ i, i < len → ∃ y : Rw, (∃ u, W.cell? (a.add (i * 2)) = some (.int .i64 y.1) ∧ W.cell? ((a.add (i * 2)).add 1) = some u ∧ RdI W u y.2) ∧ (Lit.int .i64 y.1).wf = true ∧ y.2.length ≤ maxLen := by
      intro i hi
      obtain ⟨cs, hc, ht⟩ := hx i (by omega)
      obtain ⟨z0, z1, k, _, hl1, j0, j1⟩ := trod_struct2 Tryz.underlying46 ht
      rw [Tryz.cells46] at hl1 hc
      match cs, hl1 with
      | [c0, c1], _ =>
        obtain ⟨x, e5, _, wx⟩ := DataW.trod_int Tryz.underlying3 j0
        obtain ⟨u, l, e6, rl, ll⟩ := trod22 j1
        simp [Tryz.cells3, Tryz.cells23] at e5 e6
        subst e5 e6
        obtain ⟨_, _, hcc⟩ := World.cells?_some hc
        have q0 := hcc 0 (by omega)
        have q1 := hcc 1 (by omega)
        exact ⟨(x, l), ⟨_, by simpa [Addr.add] using q0, by simpa using q1, rl⟩, wx, ll⟩
    obtain ⟨Y, hY⟩ := choose_lt (α := Rw) (p := fun i y => (∃ u, W.cell? (a.add (i * 2)) = some (.int .i64 y.1) ∧ W.cell? ((a.add (i * 2)).add 1) = some u ∧ RdI W u y.2) ∧ (Lit.int .i64 y.1).wf = true ∧ y.2.length ≤ maxLen) hy
    have hg : ∀ i, i < len → ((List.range len).map Y)[i]! = Y i := by
      intro i hi
      rw [getElem!_pos _ i (by simpa using hi)]; simp
    refine ⟨(List.range len).map Y, ⟨some a, m, by simp, fun i hi => ?_⟩, by simp; omega, fun i hi => ?_, fun i hi => ?_⟩
    · have hi' : i < len := by simpa using hi
      obtain ⟨⟨u0, q0, _⟩, _⟩ := hY 0 (by omega)
      have ha : a = ⟨a.block, a.off, none⟩ := spot_none (by simpa [Addr.add] using q0)
      obtain ⟨⟨u, q1, q2, q3⟩, _⟩ := hY i hi'
      rw [hg i hi']
      rw [ha, Addr.add_lit] at q1
      rw [ha, Addr.add_lit, Addr.add_lit] at q2
      exact ⟨a.block, a.off, u, by rw [← ha], q1, q2, q3⟩
    · have hi' : i < len := by simpa using hi
      rw [hg i hi']; exact (hY i hi').2.1
    · have hi' : i < len := by simpa using hi
      rw [hg i hi']; exact (hY i hi').2.2
end Go.Proofs.YtdmdjmliggjbjaaGreat
