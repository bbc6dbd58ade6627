/- What a crash leaves of a file: crashed. -/
import Derived.Test.YtcbhhdjjanekaaaGreatDoorWxDkI
import Derived.Laws.IdiomCopy
import Derived.Lib.SliceRun
import Derived.Deep.Upon
namespace Go.Proofs.YtcbhhdjjanekaaaGreatDoor
open Go.RowKit Go.Lib Go.Maps

variable {w w' : World}
theorem setCells_heap (g : Nat) (e : TypeId) (s : Nat × Nat) : ∀ (vs : List Value) (o : Nat) (w : World) (cur : Array Value), w.heap[g]? = some (.cells cur e s) → o + vs.length ≤ cur.size →
    ∃ cur', (w.setCells g o vs).heap[g]? = some (.cells cur' e s) ∧ cur'.size = cur.size ∧ ∀ t, cur'[t]? = if o ≤ t ∧ t < o + vs.length then vs[t - o]? else cur[t]?
  | [], o, w, cur, h, _ => ⟨cur, h, rfl, fun t => by rw [if_neg]; simp⟩
  | v :: r, o, w, cur, h, hl => by
    rw [List.length_cons] at hl
    have h1 : (w.setCell ⟨g, o, none⟩ v).heap[g]? = some (.cells (cur.setIfInBounds o v) e s) := by simp [World.setCell, Array.getElem?_modify, h]
    obtain ⟨c2, e2, s2, f2⟩ := setCells_heap g e s r (o + 1) (w.setCell ⟨g, o, none⟩ v) (cur.setIfInBounds o v) h1 (by simp; omega)
    refine ⟨c2, e2, by rw [s2]; simp, fun t => ?_⟩
    rw [f2 t, List.length_cons]
    by_cases h3 : o = t
    · subst h3
      rw [if_neg (by omega), if_pos (by omega), Array.getElem?_setIfInBounds_self_of_lt (by omega)]
      simp
    · by_cases h4 : o + 1 ≤ t ∧ t < o + 1 + r.length
      · rw [if_pos h4, if_pos (by omega), show t - o = (t - (o + 1)) + 1 by omega, List.getElem?_cons_succ]
      · rw [if_neg h4, if_neg (by omega), Array.getElem?_setIfInBounds_ne h3]
theorem gb_setCells {a : World} {g : Nat} (hg : a.heap.size ≤ g) : ∀ (vs : List Value) (o : Nat) (w : World), Gb a w → Gb a (w.setCells g o vs)
  | [], _, _, h => h
  | v :: r, o, _w, h => gb_setCells hg r (o + 1) _ (gb_set h hg v)
theorem zero5 (w : World) : (zeroValue 5).run Tryz.prog w = .ok (.int .u8 0) w := by kernel_rfl
/-- clear(left[s:]). -/
theorem clear_run {B g e cap s : Nat} {l : By} (h : OwnB w B (.slice (some ⟨g, 0, none⟩) e cap) l) (he : l.length = e) (hs : s ≤ e) :
    ∃ W, (∀ ty, (Builtin.clear_ #[59] ty #[.slice (some ⟨g, s, none⟩) (e - s) (cap - s)]).run Tryz.prog w = .ok (.tuple #[]) W) ∧ OwnB W B (.slice (some ⟨g, 0, none⟩) e cap) (l.take s ++ List.replicate (e - s) 0) ∧ ∀ a : World, a.heap.size ≤ g → Gb a w → Gb a W := by
  rcases Nat.eq_zero_or_pos (e - s) with h0 | h0
  · refine ⟨w, fun ty => ?_, ?_, fun a _ g => g⟩
    · rw [h0]
      simp [Builtin.clear_, run_underlying Tryz.underlying59]
    · rw [h0, show List.replicate 0 (0 : UInt8) = [] from rfl, List.append_nil, List.take_of_length_le (by omega)]
      exact h
  · obtain ⟨hx, hr⟩ := id h
    rcases hr with ⟨e0, _⟩ | ⟨g', cap', cur, e0, hb, hh, h1, h2, h3, h4⟩
    · cases e0
    · simp only [Value.slice.injEq, Option.some.injEq, Addr.mk.injEq] at e0
      obtain ⟨⟨rfl, _⟩, e1, rfl⟩ := e0
      rw [he] at h1 h4
      have hsz : cur.size = cap := by rw [h3, Nat.mul_one]
      have hf : ∀ j, w.frozen? ⟨g, j, none⟩ = false := fun j => by simp [World.frozen?, hh]
      have hc : ∀ j, j < e - s → (w.cell? ⟨g, s + j, none⟩).isSome = true := fun j hj => by
        have : s + j < cur.size := by omega
        simp [World.cell?, hh, this]
      refine ⟨_, fun ty => run_clear_slice w 59 5 ty (.int .u8 0) Tryz.underlying59 zero5 rfl rfl g s (e - s) (cap - s) h0 hc (fun j _ => hf _), ?_, fun a hg ha => gb_setCells hg _ _ _ ha⟩
      obtain ⟨c2, e2, s2, f2⟩ := setCells_heap g 5 (0, 0) (List.replicate (e - s) (.int .u8 0)) s w cur hh (by simp; omega)
      have hlen : (l.take s ++ List.replicate (e - s) 0).length = e := by rw [List.length_append, List.length_take, List.length_replicate]; omega
      unfold OwnB
      rw [hlen]
      refine ⟨by simp; omega, .inr ⟨g, cap, c2, rfl, hb, e2, h1, h2, by rw [s2]; exact h3, ?_⟩⟩
      apply List.ext_getElem?
      intro t
      rw [Nat.mul_one] at h4 ⊢
      rw [List.getElem?_take]
      by_cases ht : t < e
      · rw [if_pos ht, Array.getElem?_toList, f2 t, List.map_append]
        have hcur : ∀ t, t < e → cur[t]? = (l.map bv)[t]? := fun t ht => by
          have := congrArg (fun x => x[t]?) h4
          simp only [List.getElem?_take, if_pos ht, Array.getElem?_toList] at this
          exact this
        by_cases hts : t < s
        · rw [if_neg (by omega), hcur t ht, List.getElem?_append_left (by simp; omega), List.map_take, List.getElem?_take, if_pos hts]
        · rw [if_pos (by simp; omega), List.getElem?_append_right (by simp; omega)]
          have : (List.map bv (List.take s l)).length = s := by simp; omega
          rw [this, List.map_replicate]; rfl
      · rw [if_neg ht, List.getElem?_eq_none (by simp; omega)]
/-- A file's bytes behind a crash: l, of which s are safe, by the choice c. -/
def crB (l : By) (s : Nat) (c : Int) : By := if c < 0 then l.take s ++ List.replicate (shr c (l.length - s)) 0 else l.take (s + shr c (l.length - s))
def crN (l : By) (s : Nat) (c : Int) : Nat := s + shr c (l.length - s)
theorem crN_le {l : By} {s : Nat} (c : Int) (hs : s ≤ l.length) : crN l s c ≤ l.length := by
  unfold crN; have := shr_le c (l.length - s); omega
theorem crB_len {l : By} {s : Nat} (c : Int) (hs : s ≤ l.length) : (crB l s c).length = crN l s c := by
  have := crN_le c hs
  unfold crB
  unfold crN at *
  split
  · rw [List.length_append, List.length_take, List.length_replicate]; omega
  · rw [List.length_take]; omega
theorem clear_none (w : World) (a : Option Addr) (c : Nat) (ty : TypeId) : (Builtin.clear_ #[59] ty #[.slice a 0 c]).run Tryz.prog w = .ok (.tuple #[]) w := by
  cases a <;> simp [Builtin.clear_, run_underlying Tryz.underlying59]
/-- The result's two cells. -/
theorem cr_end {W : World} {B : Nat} {p : Nat} {x y : Value} {l : By} (g : Gb w W) (hp : w.heap.size ≤ p) (hb : W.heap[p]? = some (.cells #[.slice none 0 0, .int .i64 0] 71 (0, 0))) (ho : OwnB W B x l) (hB : w.heap.size ≤ B) :
    let W5 := (W.setCell ⟨p, 0, none⟩ x).setCell ⟨p, 1, none⟩ y
    W5.cell? ⟨p, 0, none⟩ = some x ∧ W5.cell? ⟨p, 1, none⟩ = some y ∧ OwnB W5 w.heap.size x l ∧ Gb w W5 := by
  have h5 := heap_set0 (o := 1) (x := y) (heap_set0 (o := 0) (x := x) hb)
  refine ⟨by simp [World.cell?, h5], by simp [World.cell?, h5], row_same (ho.mono hB) fun k e => ?_, gb_set (gb_set g hp _) hp _⟩
  have hne : k ≠ p := by
    rintro rfl
    obtain ⟨cur, ec⟩ := row_cells ho e
    exact absurd (type_cells ec hb) (by decide)
  rw [Below.heap_setCell _ _ _ _ hne, Below.heap_setCell _ _ _ _ hne]
set_option maxHeartbeats 4000000 in
set_option maxRecDepth 100000 in
theorem crashed_c {B s : Nat} {v : Value} {l : By} (h : OwnB w B v l) (hl : l.length ≤ 4194304) (hs : s ≤ l.length) (c : Int) (hc : -9223372036854775808 ≤ c ∧ c ≤ 9223372036854775807) :
    Calls Tryz.prog 35 #[.agg #[v, .int .i64 (s : Int)], .int .i64 c] w fun e w' => ∃ v', e = .returned (.agg #[v', .int .i64 (crN l s c : Int)]) ∧ OwnB w' w.heap.size v' (crB l s c) ∧ Gb w w' := by
  obtain ⟨fa, fc, ef⟩ := row_fm h
  subst ef
  have SH : Hid (∀ W, Calls Tryz.prog 57 #[.int .i64 c, .int .i64 ((l.length - s : Nat) : Int)] W fun e w' => e = .returned (.int .i64 (shr c (l.length - s) : Int)) ∧ w' = W) := fun W => (share_c c (l.length - s) W hc (by omega)).mono fun e w' h => ⟨h.1, h.2.symm⟩
  have hsub : IntKind.i64.wrap ((l.length : Int) - (s : Int)) = ((l.length - s : Nat) : Int) := by rw [IntKind.wrap_i64]; omega
  have hle := crN_le c hs
  have hadd : IntKind.i64.wrap ((s : Int) + (shr c (l.length - s) : Int)) = (crN l s c : Int) := by
    unfold crN at *; rw [IntKind.wrap_i64]; omega
  have CB : Hid (∀ W, Gb w W → Calls Tryz.prog 59 #[.slice fa (crN l s c) fc] W fun e w' => ∃ v', e = .returned v' ∧ Hid (OwnB w' W.heap.size v' (l.take (crN l s c)) ∧ Gb W w')) := fun W g => cloneB_c ((h.gb g).cpTake hle) (by rw [List.length_take]; omega)
  have hcap : l.length ≤ fc := by
    rcases h.2 with ⟨e, e0⟩ | ⟨g', cap', cur, e, _, _, h3, _⟩
    · omega
    · injection e with e1 e2 e3; omega
  by_cases h0 : c < 0
  · have E : crB l s c = (l.take (crN l s c)).take s ++ List.replicate (crN l s c - s) 0 := by
      unfold crB crN
      rw [if_pos h0, List.take_take, Nat.min_eq_left (by omega), show s + shr c (l.length - s) - s = shr c (l.length - s) by omega]
    rw [E]
    have hse : s ≤ crN l s c := by unfold crN; omega
    generalize hcn : crN l s c = e at *
    generalize shr c (l.length - s) = sh at *
    have FIN : Hid ((l.take e).length = e ∧ s ≤ e) := ⟨by rw [List.length_take]; omega, hse⟩
    generalize l.take e = le at *
    generalize hms : ((l.length - s : Nat) : Int) = ms at *
    generalize l.length = m at *
    clear h hcn hms E
    have g2 : Gb w ((w.alloc (.cells #[.slice fa m fc, .int .i64 (s : Int)] 71)).alloc (.cells #[.slice none 0 0, .int .i64 0] 71)) := gb_alloc (gb_alloc (Below.refl _ _) _) _
    go_enter Tryz.func35, Tryz.ntmps35
    go_wp2
    go_quiet (first | (go_at_call 57; exact Calls.quiet_of_same (SH.out _)))
    all_goals
      go_wp2_with fail
      refine (CB.out _ ?gg).mono ?_
      case gg => exact below_drewN g2 _
      rintro e3 w3 ⟨v', rfl, R⟩
      obtain ⟨ho, g3⟩ := R.out
      have g3 := gb_trans (below_drewN (Below.refl _ _) _) g3
      have k1 : w3.cell? ⟨w.heap.size, 1, none⟩ = some (.int .i64 (s : Int)) := gb_keeps g3 (by simp [go_sem])
      have b3 : w3.heap[w.heap.size + 1]? = some (.cells #[.slice none 0 0, .int .i64 0] 71 (0, 0)) := (g3.block _ (by simp)).trans (by
        have := heap_alloc_new (w.alloc (.cells #[.slice fa m fc, .int .i64 (s : Int)] 71)) (.cells #[.slice none 0 0, .int .i64 0] 71)
        rw [World.size_alloc] at this
        exact this)
      have k4 : w3.cell? ⟨w.heap.size + 1, 0, none⟩ = some (.slice none 0 0) := by simp [World.cell?, b3]
      have k5 : w3.cell? ⟨w.heap.size + 1, 1, none⟩ = some (.int .i64 0) := by simp [World.cell?, b3]
      have z4 : w3.frozen? ⟨w.heap.size + 1, 0, none⟩ = false := by simp [World.frozen?, b3]
      have z5 : w3.frozen? ⟨w.heap.size + 1, 1, none⟩ = false := by simp [World.frozen?, b3]
      have hw3 : w.heap.size + 1 < w3.heap.size := cell_lt k4
      have G3 := gb_trans g2 g3
      have LE := FIN.out
      clear R CB SH FIN
      rcases id ho.2 with ⟨rfl, e0⟩ | ⟨g, cap, cur, rfl, hg, hh, hec, _⟩
      · have he : e = 0 := by omega
        have hs0 : s = 0 := by omega
        subst he
        subst hs0
        have RE := cr_end (y := .int .i64 0) G3 (Nat.le_succ _) b3 ho (by simp; omega)
        have ele : le = [] := List.eq_nil_of_length_eq_zero e0
        subst ele
        have RR : Hid _ := RE
        clear RE ho g3 G3 LE e0 g2 hs hle hse hadd hsub hcap b3
        have hcl := clear_none w3
        go_wp2
        exact bodyPost_ret (v := .agg #[.slice none 0 0, .int .i64 0]) (by simp [results, Tryz.results35, go_sem, RR.out.1, RR.out.2.1]) rfl ⟨_, rfl, RR.out.2.2.1, RR.out.2.2.2⟩
      · rw [LE.1] at hec
        have hsi : (s : Int) ≤ (e : Int) := by omega
        by_cases hcs : cap = s
        · have hes : e = s := by omega
          have RE := cr_end (y := .int .i64 (e : Int)) G3 (Nat.le_succ _) b3 ho (by simp; omega)
          have ele : le.take s ++ List.replicate (e - s) 0 = le := by rw [hes, Nat.sub_self, show List.replicate 0 (0 : UInt8) = [] from rfl, List.append_nil, List.take_of_length_le (by omega)]
          have ELE : Hid (le.take s ++ List.replicate (e - s) 0 = le) := ele
          subst hes
          subst hcs
          rw [LE.1] at RE ⊢
          have RR : Hid _ := RE
          have hcl := clear_none w3
          clear RE ho g3 G3 LE g2 hs hle hadd hsub hcap hh ele b3
          go_wp2
          exact bodyPost_ret (v := .agg #[.slice (some ⟨g, 0, none⟩) cap cap, .int .i64 (cap : Int)]) (by simp [results, Tryz.results35, go_sem, RR.out.1, RR.out.2.1]) rfl ⟨_, rfl, by rw [ELE.out]; exact RR.out.2.2.1, RR.out.2.2.2⟩
        · obtain ⟨W4, hcl, ho4, hgb⟩ := clear_run (e := e) (by rw [← LE.1]; exact ho) LE.1 LE.2
          have g4 := hgb _ (by simp at hg ⊢; omega) g3
          have b4 : W4.heap[w.heap.size + 1]? = some (.cells #[.slice none 0 0, .int .i64 0] 71 (0, 0)) := (g4.block _ (by simp)).trans (by
            have := heap_alloc_new (w.alloc (.cells #[.slice fa m fc, .int .i64 (s : Int)] 71)) (.cells #[.slice none 0 0, .int .i64 0] 71)
            rw [World.size_alloc] at this
            exact this)
          have q4 : W4.cell? ⟨w.heap.size + 1, 0, none⟩ = some (.slice none 0 0) := by simp [World.cell?, b4]
          have q5 : W4.cell? ⟨w.heap.size + 1, 1, none⟩ = some (.int .i64 0) := by simp [World.cell?, b4]
          have y4 : W4.frozen? ⟨w.heap.size + 1, 0, none⟩ = false := by simp [World.frozen?, b4]
          have y5 : W4.frozen? ⟨w.heap.size + 1, 1, none⟩ = false := by simp [World.frozen?, b4]
          have hw4 : w.heap.size + 1 < W4.heap.size := cell_lt q4
          have RE := cr_end (y := .int .i64 (e : Int)) (gb_trans g2 g4) (Nat.le_succ _) b4 ho4 (by simp; omega)
          rw [LE.1]
          have RR : Hid _ := RE
          clear RE ho g3 G3 LE g2 hs hle hadd hsub hcap ho4 hgb g4 hh b3 b4
          go_wp2
          exact bodyPost_ret (v := .agg #[.slice (some ⟨g, 0, none⟩) e cap, .int .i64 (e : Int)]) (by simp [results, Tryz.results35, go_sem, RR.out.1, RR.out.2.1]) rfl ⟨_, rfl, RR.out.2.2.1, RR.out.2.2.2⟩
  · have E : crB l s c = l.take (crN l s c) := by unfold crB crN; rw [if_neg h0]
    rw [E]
    generalize hcn : crN l s c = e at *
    generalize shr c (l.length - s) = sh at *
    have FIN : Hid ((l.take e).length = e) := by unfold Hid; rw [List.length_take]; omega
    generalize l.take e = le at *
    generalize hms : ((l.length - s : Nat) : Int) = ms at *
    generalize l.length = m at *
    clear h hcn hms E
    have g2 : Gb w ((w.alloc (.cells #[.slice fa m fc, .int .i64 (s : Int)] 71)).alloc (.cells #[.slice none 0 0, .int .i64 0] 71)) := gb_alloc (gb_alloc (Below.refl _ _) _) _
    go_enter Tryz.func35, Tryz.ntmps35
    go_wp2
    go_quiet (first | (go_at_call 57; exact Calls.quiet_of_same (SH.out _)))
    all_goals
      go_wp2_with fail
      refine (CB.out _ ?gg).mono ?_
      case gg => exact below_drewN g2 _
      rintro e3 w3 ⟨v', rfl, R⟩
      obtain ⟨ho, g3⟩ := R.out
      have g3 := gb_trans (below_drewN (Below.refl _ _) _) g3
      have b3 : w3.heap[w.heap.size + 1]? = some (.cells #[.slice none 0 0, .int .i64 0] 71 (0, 0)) := (g3.block _ (by simp)).trans (by
        have := heap_alloc_new (w.alloc (.cells #[.slice fa m fc, .int .i64 (s : Int)] 71)) (.cells #[.slice none 0 0, .int .i64 0] 71)
        rw [World.size_alloc] at this
        exact this)
      have k4 : w3.cell? ⟨w.heap.size + 1, 0, none⟩ = some (.slice none 0 0) := by simp [World.cell?, b3]
      have k5 : w3.cell? ⟨w.heap.size + 1, 1, none⟩ = some (.int .i64 0) := by simp [World.cell?, b3]
      have z4 : w3.frozen? ⟨w.heap.size + 1, 0, none⟩ = false := by simp [World.frozen?, b3]
      have z5 : w3.frozen? ⟨w.heap.size + 1, 1, none⟩ = false := by simp [World.frozen?, b3]
      have hw3 : w.heap.size + 1 < w3.heap.size := cell_lt k4
      have RE := cr_end (y := .int .i64 (e : Int)) (gb_trans g2 g3) (Nat.le_succ _) b3 ho (by simp; omega)
      obtain ⟨va, vc, rfl⟩ := row_fm ho
      have LE := FIN.out
      have RR : Hid _ := RE
      clear R CB SH FIN RE ho g3 b3 g2 hs hle hadd hsub hcap
      rw [LE] at RR ⊢
      go_wp2
      exact bodyPost_ret (v := .agg #[.slice va e vc, .int .i64 (e : Int)]) (by simp [results, Tryz.results35, go_sem, RR.out.1, RR.out.2.1]) rfl ⟨_, rfl, RR.out.2.2.1, RR.out.2.2.2⟩
end Go.Proofs.YtcbhhdjjanekaaaGreatDoor
