import Derived.Test.YtdmdjmliggjbjaaGreatCt3
import Derived.Test.YtdmdjmliggjbjaaGreatCt12
import Derived.BigQuiet
import Derived.Test.YtdmdjmliggjbjaaGreatCt2
import Derived.Test.YtdmdjmliggjbjaaGreatCt4
/- The reference's Cmp and Less, as contracts. -/
namespace Go.Proofs.YtdmdjmliggjbjaaGreat
open Go.RowKit

theorem ret_int {k : IntKind} {a b : Int} (h : a = b) : Ending.returned (.int k a) = .returned (.int k b) := by rw [h]
theorem up_digit (a t : Nat) : a / 65536 ^ t = a / 65536 ^ (t + 1) * 65536 + a / 65536 ^ t % 65536 := by
  rw [Nat.pow_succ, ← Nat.div_div_eq_div_mul]; omega
theorem lt_of_div {a b d : Nat} (h : a / d < b / d) : a < b := by
  apply Nat.lt_of_not_le; intro hc
  exact absurd (Nat.div_le_div_right (c := d) hc) (by omega)

set_option maxHeartbeats 2000000 in
theorem refcmp_any (a b : Nat) (ha : a < 340282366920938463463374607431768211456) (hb : b < 340282366920938463463374607431768211456) (o p : Bool) (w : World) :
    Calls Tryz.prog 73 #[Nm a o, Nm b p] w fun e w' => e = .returned (.int .i64 (cmp3 a b)) ∧ Gr w w' := by
  have n0 := (NumAt.new w a o 105).call ((Gr.refl _).alloc #[.int .i64 (dd b 0), .int .i64 (dd b 1), .int .i64 (dd b 2), .int .i64 (dd b 3), .int .i64 (dd b 4), .int .i64 (dd b 5), .int .i64 (dd b 6), .int .i64 (dd b 7), .bool p] 105)
  have n1 := NumAt.new (w.alloc (.cells #[.int .i64 (dd a 0), .int .i64 (dd a 1), .int .i64 (dd a 2), .int .i64 (dd a 3), .int .i64 (dd a 4), .int .i64 (dd a 5), .int .i64 (dd a 6), .int .i64 (dd a 7), .bool o] 105)) b p 105
  simp only [World.size_alloc] at n1
  go_enter Tryz.func73, Tryz.ntmps73
  go_wp2
  go_loopw [5] (fun iv w' => ∃ z : Int, ∃ k : Nat, iv = .int .i64 z ∧ z = (k : Int) - 1 ∧ k ≤ 8 ∧ Hid (a / 65536 ^ k = b / 65536 ^ k) ∧ Gr w w' ∧ NumAt w' w.heap.size a o ∧ NumAt w' (w.heap.size + 1) b p) (fun iv _ => (intOf iv + 1).toNat)
  case atStart =>
    refine ⟨7, 8, rfl, by omega, by omega, ?_, ((Gr.refl _).alloc _ _).alloc _ _, n0, n1⟩
    show a / 65536 ^ 8 = b / 65536 ^ 8
    rw [Nat.div_eq_of_lt ha, Nat.div_eq_of_lt hb]
  case round =>
    clear n0 n1
    obtain ⟨z, k, rfl, hz, hk, X, hG, hA, hB⟩ := hrel
    cases k with
    | zero =>
      have E : Hid (cmp3 a b = 0) := by
        have := X.out
        simp at this
        subst this; unfold Hid cmp3; simp
      have hz' : z < 0 := by omega
      clear hz X hA hB
      go_wp2
      go_ret
      exact ⟨ret_int E.out.symm, hG⟩
    | succ t =>
      have hzt : z = (t : Int) := by omega
      subst hzt
      obtain ⟨e, he, he1, he2⟩ := dd_nat a t
      obtain ⟨f, hf, hf1, hf2⟩ := dd_nat b t
      have ca := hA.d t (by omega)
      have cb := hB.d t (by omega)
      rw [he] at ca; rw [hf] at cb
      have ua := up_digit a t
      have ub := up_digit b t
      rw [← he2] at ua; rw [← hf2] at ub
      have hX := X.out
      by_cases hlt : e < f
      · have E : Hid (cmp3 a b = -1) := by unfold Hid cmp3; rw [if_pos (lt_of_div (d := 65536 ^ t) (by omega))]
        have g1 : ((e : Int) == (f : Int)) = false := by rw [beq_eq_false_iff_ne]; omega
        clear he he2 hf hf2 ua ub hX X hz hA hB
        go_wp2
        go_quiet (fail)
        go_wp2
        go_quiet (fail)
        go_wp2
        go_ret
        exact ⟨ret_int E.out.symm, (hG.drewN _).drewN _⟩
      by_cases hgt : f < e
      · have hba : b < a := lt_of_div (d := 65536 ^ t) (by omega)
        have E : Hid (cmp3 a b = 1) := by unfold Hid cmp3; rw [if_neg (by omega), if_neg (by omega)]
        have g1 : ((e : Int) == (f : Int)) = false := by rw [beq_eq_false_iff_ne]; omega
        clear he he2 hf hf2 ua ub hX X hz hA hB hba
        go_wp2
        go_quiet (fail)
        go_wp2
        go_quiet (fail)
        go_wp2
        go_ret
        exact ⟨ret_int E.out.symm, (hG.drewN _).drewN _⟩
      · have hef : f = e := by omega
        subst hef
        have E : Hid (a / 65536 ^ t = b / 65536 ^ t) := by unfold Hid; omega
        clear he he2 hf hf2 ua ub hX X hz hlt hgt
        go_wp2
        go_quiet (fail)
        go_wp2
        refine ⟨⟨(t : Int) - 1, t, by go_num, rfl, by omega, E, hG.drewN _, hA.call ((Gr.refl _).drewN _), hB.call ((Gr.refl _).drewN _)⟩, by simp [intOf]⟩

set_option maxHeartbeats 1000000 in
theorem less_any (a b : Nat) (ha : a < 340282366920938463463374607431768211456) (hb : b < 340282366920938463463374607431768211456) (w : World) :
    Calls Tryz.prog 52 #[Wd a, Wd b] w fun e w' => e = .returned (.bool (decide (a < b))) ∧ Gr w w' := by
  have c0 : ((w.alloc (.cells #[.int .u64 (hi a), .int .u64 (lo a)] 41)).alloc (.cells #[.int .u64 (hi b), .int .u64 (lo b)] 41)).cell? ⟨w.heap.size, 0, none⟩ = some (.int .u64 (hi a)) := by simp [go_sem]
  have c1 : ((w.alloc (.cells #[.int .u64 (hi a), .int .u64 (lo a)] 41)).alloc (.cells #[.int .u64 (hi b), .int .u64 (lo b)] 41)).cell? ⟨w.heap.size, 1, none⟩ = some (.int .u64 (lo a)) := by simp [go_sem]
  have c2 : ((w.alloc (.cells #[.int .u64 (hi a), .int .u64 (lo a)] 41)).alloc (.cells #[.int .u64 (hi b), .int .u64 (lo b)] 41)).cell? ⟨w.heap.size + 1, 0, none⟩ = some (.int .u64 (hi b)) := by simp [go_sem]
  have c3 : ((w.alloc (.cells #[.int .u64 (hi a), .int .u64 (lo a)] 41)).alloc (.cells #[.int .u64 (hi b), .int .u64 (lo b)] 41)).cell? ⟨w.heap.size + 1, 1, none⟩ = some (.int .u64 (lo b)) := by simp [go_sem]
  have E : Hid (decide (cmp3 a b < 0) = decide (a < b)) := by
    unfold Hid cmp3
    by_cases h : a < b
    · simp [h]
    · rw [if_neg h]; split <;> simp [h]
  go_enter Tryz.func52, Tryz.ntmps52
  go_wp2
  go_region_held3 (fun w' => w'.cell? ⟨w.heap.size, 0, none⟩ = some (.int .u64 (hi a)) ∧ w'.cell? ⟨w.heap.size, 1, none⟩ = some (.int .u64 (lo a)) ∧ w'.cell? ⟨w.heap.size + 1, 0, none⟩ = some (.int .u64 (hi b)) ∧ w'.cell? ⟨w.heap.size + 1, 1, none⟩ = some (.int .u64 (lo b))) (first | exact ⟨c0, c1, c2, c3⟩ | exact call_keeps4 (by assumption) (by assumption))
    (first
      | (go_at_call_of 74 (hi a); refine (of_any a ha _).mono ?_; rintro e w1 ⟨rfl, g1⟩)
      | (go_at_call_of 74 (hi b); refine (of_any b hb _).mono ?_; rintro e w2 ⟨rfl, g2⟩)
      | (go_at_call 73; refine (refcmp_any a b ha hb false false _).mono ?_; rintro e w3 ⟨rfl, g3⟩))
  all_goals
    go_wp2
    go_ret
    exact ⟨ret_bool E.out, by repeat (first | exact ((Gr.refl _).alloc _ _).alloc _ _ | apply Gr.drew | refine Gr.trans ?_ g3 | refine Gr.trans ?_ g2 | refine Gr.trans ?_ g1)⟩

end Go.Proofs.YtdmdjmliggjbjaaGreat

/- Which function a method of container/heap's interface is, at the program's own heap. -/
namespace Go.Proofs.YtdmdjmliggjbjaaGreat.Tk
open Go.RowKit Go.Sort

theorem load53 (hb : Nat) (v : Value) (W : World) (hc : W.cell? ⟨hb, 1, none⟩ = some v) : (loadVar 113 ⟨hb, 1, none⟩).run Tryz.prog W = .ok v W := by
  simp [loadVar, go_sem, hc]
theorem wrapchk (a : Addr) (nm : String) (W : World) : (Builtin.ssaWrapNilChk_ #[118] 118 #[.pointer (some a), strVal "", strVal nm]).run Tryz.prog W = .ok (.pointer (some a)) W := rfl
theorem recv_any (nm : String) (hb : Nat) (v : Value) (W : World) (hc : W.cell? ⟨hb, 1, none⟩ = some v) :
    (receiverAt 118 (.val (.pointer (some ⟨hb, 1, none⟩))) false (some nm)).run Tryz.prog W = .ok v W := by
  have hl := load53 hb v W hc
  have hu := run_underlying Tryz.underlying118 W
  have hw := wrapchk ⟨hb, 1, none⟩ nm W
  unfold receiverAt
  simp only [Sem.run_bind, hu, Result.andThen_ok, Place.get, Sem.run_pure, hw, asAddr, hl]
theorem inv_any (name : String) (f : Nat) (hm : (Tryz.prog.info? 118).map (fun i => (i.methods.find? (·.name == name)).map fun m => (m.path, m.func)) = some (some (#[], some (f, false))))
    (hb : Nat) (v : Value) (W : World) (hc : W.cell? ⟨hb, 1, none⟩ = some v) :
    (method 303 118 (.pointer (some ⟨hb, 1, none⟩)) name).run Tryz.prog W = .ok (f, v) W := by
  obtain ⟨i, hi⟩ := Option.isSome_iff_exists.1 (show (Tryz.prog.info? 118).isSome = true by kernel_rfl)
  rw [hi] at hm
  simp only [Option.map_some, Option.some.injEq] at hm
  cases hf : i.methods.find? (·.name == name) with
  | none => rw [hf] at hm; cases hm
  | some m =>
    rw [hf] at hm
    simp only [Option.map_some, Option.some.injEq, Prod.mk.injEq] at hm
    obtain ⟨h1, h2⟩ := hm
    have hr := fun nm => recv_any nm hb v W hc
    have ht : (typeInfo 118).run Tryz.prog W = .ok i W := by simp [typeInfo, hi]
    rw [method]
    simp only [Sem.run_bind, ht, Result.andThen_ok, hf, h1, h2, follow, Sem.run_pure]
    simp [hr]
theorem inv_less (hb : Nat) (v : Value) (W : World) (hc : W.cell? ⟨hb, 1, none⟩ = some v) :
    (method 303 118 (.pointer (some ⟨hb, 1, none⟩)) "Less").run Tryz.prog W = .ok (177, v) W := inv_any "Less" 177 (by kernel_rfl) hb v W hc
theorem inv_swap (hb : Nat) (v : Value) (W : World) (hc : W.cell? ⟨hb, 1, none⟩ = some v) :
    (method 303 118 (.pointer (some ⟨hb, 1, none⟩)) "Swap").run Tryz.prog W = .ok (178, v) W := inv_any "Swap" 178 (by kernel_rfl) hb v W hc
theorem inv_len (hb : Nat) (v : Value) (W : World) (hc : W.cell? ⟨hb, 1, none⟩ = some v) :
    (method 303 118 (.pointer (some ⟨hb, 1, none⟩)) "Len").run Tryz.prog W = .ok (176, v) W := inv_any "Len" 176 (by kernel_rfl) hb v W hc
theorem inv_push (hb : Nat) (W : World) :
    (method 303 118 (.pointer (some ⟨hb, 1, none⟩)) "Push").run Tryz.prog W = .ok (179, .pointer (some ⟨hb, 1, none⟩)) W := by kernel_rfl
end Go.Proofs.YtdmdjmliggjbjaaGreat.Tk

/- container/heap's up. -/
namespace Go.Proofs.YtdmdjmliggjbjaaGreat.Tk
open Go.RowKit Go.Sort
attribute [local go_sem ↓] Go.wp_at_zero Go.wp_at_succ

theorem Hp.kp {S : Nat → Prop} {w w' : World} {hb : Nat} {k : Int} {v : Value} {d : Array Ht} (h : Hp w hb k v d) (K : Kp S w w') (h1 : ¬ S hb) (h2 : ∀ g, v.ownBlock = some g → ¬ S g) : Hp w' hb k v d :=
  ⟨by rw [K.block hb h.lt h1]; exact h.blk, own_kp h.own K h2, h.ne⟩
theorem less73n {w : World} {g n cap : Nat} {d : Array Ht} (h : Own w (.slice (some ⟨g, 0, none⟩) n cap) d) (hs : d.size = n) {i j : Nat} (hi : i < n) (hj : j < n) :
    Calls Tryz.prog 177 #[.slice (some ⟨g, 0, none⟩) n cap, .int .i64 i, .int .i64 j] w fun e w' => e = .returned (.bool (hlt d[j]! d[i]!)) ∧ Gw w w' := by
  subst hs; exact less73 h hi hj
/-- The heap behind Swap. -/
theorem swap74n {w : World} {hb g n cap : Nat} {k : Int} {d : Array Ht} (h : Hp w hb k (.slice (some ⟨g, 0, none⟩) n cap) d) (hs : d.size = n) {i j : Nat} (hi : i < n) (hj : j < n) (hne : i ≠ j) :
    Calls Tryz.prog 178 #[.slice (some ⟨g, 0, none⟩) n cap, .int .i64 i, .int .i64 j] w fun e w' => e = .returned (.tuple #[]) ∧ Hp w' hb k (.slice (some ⟨g, 0, none⟩) n cap) (swp d i j) ∧ Kp (fun k => k = g) w w' := by
  subst hs
  refine (swap74 h.own hi hj hne).mono ?_
  rintro e w' ⟨rfl, ho, hk⟩
  refine ⟨rfl, ⟨?_, ho, h.ne⟩, hk⟩
  rw [hk.block hb h.lt (by have := h.ne; simp [Value.ownBlock] at this; omega)]
  exact h.blk

/-- What up and down leave: the same hits, a heap. -/
def Fixed (w w' : World) (hb g n cap : Nat) (k : Int) (d : Array Ht) : Prop :=
  ∃ d', d'.toList.Perm d.toList ∧ MaxH d' ∧ Hp w' hb k (.slice (some ⟨g, 0, none⟩) n cap) d' ∧ Kp (fun b => b = g) w w'

set_option maxHeartbeats 2000000 in
set_option maxRecDepth 100000 in
theorem up_c {w : World} {hb g n cap : Nat} {k : Int} {d : Array Ht} (h : Hp w hb k (.slice (some ⟨g, 0, none⟩) n cap) d) (hs : d.size = n) (hn : n ≤ 4000) (j : Nat) (hj : j < n) (hu : UpInv d j) :
    Calls Tryz.prog 107 #[.iface 118 (.pointer (some ⟨hb, 1, none⟩)), .int .i64 j] w fun e w' => e = .returned (.tuple #[]) ∧ Fixed w w' hb g n cap k d := by
  have H : Hid (Hp w hb k (.slice (some ⟨g, 0, none⟩) n cap) d ∧ UpInv d j ∧ d.size = n) := ⟨h, hu, hs⟩
  clear h hu hs
  go_enter Tryz.func107, Tryz.ntmps107
  go_wp2
  go_loopw [1] (fun iv w' => ∃ (q : Nat) (d' : Array Ht), iv = .int .i64 (q : Int) ∧ q < n ∧ Hid (d'.toList.Perm d.toList ∧ UpInv d' q ∧ Hp w' hb k (.slice (some ⟨g, 0, none⟩) n cap) d' ∧ Kp (fun b => b = g) w w')) (fun iv _ => (intOf iv).toNat)
  case atStart => exact ⟨j, d, rfl, hj, List.Perm.refl _, H.out.2.1, H.out.1, Kp.refl _ _⟩
  case round =>
    clear hj
    obtain ⟨q, d', rfl, hq, X⟩ := hrel
    have hcell : wr.cell? ⟨hb, 1, none⟩ = some (.slice (some ⟨g, 0, none⟩) n cap) := X.out.2.2.1.cell1
    have hs' : Hid (d'.size = n) := by have := X.out.1.length_eq; have := H.out.2.2; simp at *; unfold Hid; omega
    by_cases h0 : q = 0
    · subst h0
      go_wp2
      go_end0
      exact ⟨rfl, d', X.out.1, up_zero X.out.2.1, X.out.2.2.1, X.out.2.2.2⟩
    · have hq0 : (0 : Int) ≤ (q : Int) - 1 := by omega
      obtain ⟨p, hp⟩ : ∃ p : Nat, p = (q - 1) / 2 := ⟨_, rfl⟩
      have hp1 : ((q : Int) - 1) / 2 = (p : Int) := by omega
      have hpq : p ≠ q := by omega
      have hpn : p < n := by omega
      have P : Hid (p = (q - 1) / 2) := hp
      clear hp
      have hm := inv_less hb _ wr hcell
      have hl := less73n X.out.2.2.1.own hs'.out hq hpn
      obtain ⟨t, ht⟩ : ∃ t, t = hlt d'[p]! d'[q]! := ⟨_, rfl⟩
      rw [← ht] at hl
      have T : Hid (t = hlt d'[p]! d'[q]!) := ht
      clear ht
      cases t with
      | false =>
        go_wp2_with fail
        refine hl.mono ?_
        rintro e w1 ⟨rfl, g1⟩
        go_wp2
        go_end0
        have p1 := P.out
        refine ⟨rfl, d', X.out.1, up_stop X.out.2.1 (fun _ => by rw [← p1]; exact T.out.symm), X.out.2.2.1.gr g1.gr, X.out.2.2.2.trans (Kp.of_gr g1.gr)⟩
      | true =>
        go_wp2_with fail
        refine hl.mono ?_
        rintro e w1 ⟨rfl, g1⟩
        have H1 := X.out.2.2.1.gr g1.gr
        have hm1 := inv_swap hb _ w1 H1.cell1
        have hsw := swap74n H1 hs'.out hpn hq hpq
        have XX : Hid (Hp w1 hb k (.slice (some ⟨g, 0, none⟩) n cap) d') := H1
        clear H1 hm hl
        go_wp2_with fail
        refine hsw.mono ?_
        rintro e w2 ⟨rfl, h2, k2⟩
        have h2' : Hid (Hp w2 hb k (.slice (some ⟨g, 0, none⟩) n cap) (swp d' p q)) := h2
        clear h2 hsw hm1
        go_wp2
        go_roundw
        case rel =>
          have p1 := P.out
          have sz := hs'.out
          subst p1
          refine ⟨_, swp d' ((q - 1) / 2) q, rfl, hpn, ?_, ?_, h2'.out, (X.out.2.2.2.trans (Kp.of_gr g1.gr)).trans k2⟩
          · exact (swp_perm d' _ _ (by omega) (by omega)).trans X.out.1
          · exact up_step X.out.2.1 (by omega) (by omega) T.out.symm
        case measure => have := P.out; simp [intOf]; omega
end Go.Proofs.YtdmdjmliggjbjaaGreat.Tk

/- cert.allMet: demands are asked one after another, up to the first that is not met. -/
namespace Go.Proofs.YtdmdjmliggjbjaaGreat
open Go.RowKit Go.Sort

def AllB (bs : Nat → Bool) (n : Nat) : Prop := ∀ i, i < n → bs i = true
def MetOut (bs : Nat → Bool) (n : Nat) (w : World) (e : Ending) (w' : World) : Prop := (∃ r : Bool, e = .returned (.bool r) ∧ (r = true ↔ AllB bs n)) ∧ Gb w w'
set_option maxRecDepth 100000 in
set_option maxHeartbeats 1000000 in
theorem allMet_c {w : World} {a : Option Addr} {cap n : Nat} {fn : Nat → Nat} {fc : Nat → Array Value} {bs : Nat → Bool} (hd : ∀ i, i < n → ∃ b o, a = some ⟨b, o, none⟩ ∧ w.cell? ⟨b, o + i, none⟩ = some (.func (.func (fn i)) #[] (fc i))) (hn : n ≤ 100) (he : ∀ i, i < n → ∀ args W, (callFunc (fn i) args).run Tryz.prog W = .ok (.enter (fn i) args) W)
    (hc : ∀ i, i < n → AllB bs i → ∀ W, Gb w W → Calls Tryz.prog (fn i) (fc i) W fun e W' => e = .returned (.bool (bs i)) ∧ Gb W W') :
    Calls Tryz.prog 19 #[.slice a n cap] w fun e w' => MetOut bs n w e w' := by
  have HD : Hid (∀ i, i < n → ∃ b o, a = some ⟨b, o, none⟩ ∧ w.cell? ⟨b, o + i, none⟩ = some (.func (.func (fn i)) #[] (fc i))) := hd
  have HC : Hid (∀ i, i < n → AllB bs i → ∀ W, Gb w W → Calls Tryz.prog (fn i) (fc i) W fun e W' => e = .returned (.bool (bs i)) ∧ Gb W W') := hc
  have HE : Hid (∀ i, i < n → ∀ args W, (callFunc (fn i) args).run Tryz.prog W = .ok (.enter (fn i) args) W) := he
  clear hd hc he
  go_enter Tryz.func19, Tryz.ntmps19
  go_wp2
  go_loopw [7] (fun iv W => ∃ q : Nat, iv = .int .i64 (q : Int) ∧ q ≤ n ∧ Hid (AllB bs q ∧ Gb w W)) (fun iv _ => n - (intOf iv).toNat)
  case atStart => exact ⟨0, rfl, Nat.zero_le _, fun t h => absurd h (Nat.not_lt_zero _), Below.refl _ _⟩
  case round =>
    obtain ⟨q, rfl, hq, X⟩ := hrel
    by_cases hqn : q < n
    · have hqi : (q : Int) < (n : Int) := by omega
      obtain ⟨b, o, rfl, c⟩ := HD.out q hqn
      have c := gb_keeps X.out.2 c
      have cf := HC.out q hqn X.out.1 wr X.out.2
      have eg := HE.out q hqn
      generalize fn q = fq at *
      generalize fc q = fv at *
      cases hb : bs q with
      | true =>
        rw [hb] at cf
        have FO : Hid (∀ W, Gb wr W → AllB bs (q + 1) ∧ Gb w W) := fun W hg => ⟨fun t ht => by
          by_cases e : t = q
          · subst e; exact hb
          · exact X.out.1 t (by omega), gb_trans X.out.2 hg⟩
        clear hb X
        go_wp2_with fail
        go_fit cf
        rintro e w' ⟨rfl, hg⟩
        have FF : Hid _ := FO.out _ hg
        clear cf c hg FO
        go_wp2
        go_roundw
        case rel => exact ⟨q + 1, by first | rfl | go_num, hqn, FF.out⟩
        case measure => simp [intOf]; omega
      | false =>
        rw [hb] at cf
        have FO : Hid (∀ W, Gb wr W → MetOut bs n w (.returned (.bool false)) W) := fun W hg => ⟨⟨false, rfl, fun h => (by cases h), fun h => by rw [h q hqn] at hb; cases hb⟩, gb_trans X.out.2 hg⟩
        clear hb X
        go_wp2_with fail
        go_fit cf
        rintro e w' ⟨rfl, hg⟩
        have FF := FO.out _ hg
        clear cf c hg FO
        go_wp2
        go_ret
        exact FF
    · have hqi : ¬ (q : Int) < (n : Int) := by omega
      have FO : Hid (MetOut bs n w (.returned (.bool true)) wr) := ⟨⟨true, rfl, fun _ i hi' => X.out.1 i (by omega), fun _ => rfl⟩, X.out.2⟩
      clear X
      go_wp2
      go_ret
      exact FO.out
end Go.Proofs.YtdmdjmliggjbjaaGreat
