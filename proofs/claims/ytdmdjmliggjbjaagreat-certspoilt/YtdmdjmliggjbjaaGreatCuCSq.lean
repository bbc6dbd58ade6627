/- A lent answer, spoilt in one place: what it reads as. -/
import Derived.Test.YtdmdjmliggjbjaaGreatCuCLn
import Derived.Test.YtdmdjmliggjbjaaGreatCuCSM
import Derived.Laws.IdiomCopy
namespace Go.Proofs.YtdmdjmliggjbjaaGreat
open Go.RowKit Go.Sort Go.Maps

/-- An answer in memory of its own, behind the variable in O. -/
structure SpSt (W : World) (O B B2 : Nat) (uh us ur : Value) (a : Ans) : Prop where
  b0 : W.cell? ⟨O, 0, none⟩ = some uh
  b1 : W.cell? ⟨O, 1, none⟩ = some us
  b2 : W.cell? ⟨O, 2, none⟩ = some ur
  f : ∀ o, W.frozen? ⟨O, o, none⟩ = false
  tyA : ∃ cs, W.heap[O]? = some (.cells cs 27 (0, 0))
  oh : OwnH W B uh a.hits
  os : Own W B us a.seen
  sb : ∀ k, us.ownBlock = some k → k < B2
  or : OwnL W B B2 ur a.rest
  no : ∀ k, uh.ownBlock = some k ∨ us.ownBlock = some k ∨ ur.ownBlock = some k → k < O
  lt : O < W.heap.size
theorem SpSt.new {w w' : World} {a : Ans} {e : Ending} (h : LnOut w a e w') : ∃ uh us ur B B2, e = .returned (.agg #[uh, us, ur]) ∧ Gb w w' ∧ w.heap.size ≤ B ∧ SpSt (w'.alloc (.cells #[uh, us, ur] 27)) w'.heap.size B B2 uh us ur a := by
  obtain ⟨uh, us, ur, B, B2, rfl, g, hB, oh, os, sb, ol⟩ := h
  have ga : Gb w' (w'.alloc (.cells #[uh, us, ur] 27)) := gb_alloc (Below.refl _ _) _
  obtain ⟨xs, ho, hx⟩ := ol
  have ga' : w'.grownBy (w'.alloc (.cells #[uh, us, ur] 27)) none := ⟨ga.os, ga.tape, ga.output, ga.size, fun k hk _ => ga.block k hk⟩
  refine ⟨uh, us, ur, B, B2, rfl, g, hB, ⟨by simp [go_sem], by simp [go_sem], by simp [go_sem], fun o => by simp [go_sem], ⟨_, World.alloc_heap_new _ _⟩, World.ownsRow.kept oh ga' (by cases hv : uh.ownBlock <;> simp), os.gb ga, sb, OwnL.gb ⟨xs, ho, hx⟩ ga, fun k hk => ?_, by rw [World.size_alloc]; omega⟩⟩
  rcases hk with hk | hk | hk
  · exact (oh.lt k hk).2
  · exact (World.ownsRow.lt os k hk).2
  · exact (ho.lt k hk).2
theorem SpSt.tyn {W : World} {O B B2 : Nat} {uh us ur : Value} {a : Ans} (h : SpSt W O B B2 uh us ur a) {t : TypeId} (ht : t ≠ 27) : ∀ cs, W.heap[O]? ≠ some (.cells cs t (0, 0)) := fun cs hc => by
  obtain ⟨cs', e⟩ := h.tyA
  rw [e] at hc
  injection hc with hc
  injection hc with _ hc _
  exact ht hc.symm
theorem SpSt.ty {W : World} {O B B2 : Nat} {uh us ur : Value} {a : Ans} (h : SpSt W O B B2 uh us ur a) : ∀ cs, W.heap[O]? ≠ some (.cells cs 3 (0, 0)) := h.tyn (by decide)
theorem SpSt.rd {W : World} {O B B2 : Nat} {uh us ur : Value} {a : Ans} (h : SpSt W O B B2 uh us ur a) : RdA W uh us ur a := ⟨h.oh.rd, h.os.rd, h.or.rd⟩
theorem kp_setCellsC {S : Nat → Prop} {a : World} {g : Nat} (hg : S g ∨ a.heap.size ≤ g) : ∀ (vs : List Value) (o : Nat) (w : World), Tk.Kp S a w → Tk.Kp S a (w.setCells g o vs)
  | [], _, _, h => h
  | v :: r, o, _w, h => kp_setCellsC hg r (o + 1) _ (h.setCell hg v)
theorem grown_kp {W W' : World} {g : Nat} (k : Tk.Kp (fun b => b = g) W W') : W.grownBy W' (some g) := ⟨k.os, k.tape, k.output, k.size, fun i hi' hn => k.block i hi' (fun e => hn (by rw [e]))⟩
theorem kp_drew (W : World) (S : Nat → Prop) : Tk.Kp S W W.drew := ⟨rfl, rfl, rfl, Nat.le_refl _, fun _ _ _ => rfl⟩
/-- A seen id is left out. -/
theorem SpSt.cut {W : World} {O B B2 g d i : Nat} {uh ur : Value} {a : Ans} (h : SpSt W O B B2 uh (.slice (some ⟨g, 0, none⟩) a.seen.length d) ur a) (hi' : i < a.seen.length) :
    RdA ((W.drew.setCells g i ((a.seen.drop (i + 1)).map (Value.int .i64))).setCell ⟨O, 1, none⟩ (.slice (some ⟨g, 0, none⟩) (i + (a.seen.length - (i + 1))) d)) uh (.slice (some ⟨g, 0, none⟩) (i + (a.seen.length - (i + 1))) d) ur (spo0 a i) ∧
    Tk.Kp (fun b => b = g ∨ b = O) W ((W.drew.setCells g i ((a.seen.drop (i + 1)).map (Value.int .i64))).setCell ⟨O, 1, none⟩ (.slice (some ⟨g, 0, none⟩) (i + (a.seen.length - (i + 1))) d)) := by
  obtain ⟨Wm, hWm⟩ : ∃ Wm, Wm = W.drew.setCells g i ((a.seen.drop (i + 1)).map (Value.int .i64)) := ⟨_, rfl⟩
  have hgO : g < O := h.no g (.inr (.inl rfl))
  have k1 : Tk.Kp (fun b => b = g) W Wm := by rw [hWm]; exact kp_setCellsC (S := fun b => b = g) (.inl rfl) _ _ _ (kp_drew W _)
  have k2 : Tk.Kp (fun b => b = O) Wm (Wm.setCell ⟨O, 1, none⟩ (.slice (some ⟨g, 0, none⟩) (i + (a.seen.length - (i + 1))) d)) := (Tk.Kp.refl (fun b => b = O) Wm).setCell (p := ⟨O, 1, none⟩) (.inl rfl) _
  rw [← hWm]
  have neO : ∀ {W' : World} {B n s : Nat} {e : TypeId} {v : Value} {xs : List Value}, (∀ k, v.ownBlock = some k → k < O) → W'.ownsRow B e s v n xs → v.ownBlock = none ∨ v.ownBlock ≠ some O := fun {W' B n s e v xs} hk _ => by
    cases hv : v.ownBlock with
    | none => exact .inl rfl
    | some k =>
      refine .inr fun e' => ?_
      injection e' with e'
      have := hk k hv
      omega
  refine ⟨⟨?_, ?_, ?_⟩, (k1.mono (fun k _ e => .inl e)).trans (k2.mono (fun k _ e => .inr e))⟩
  · have h1 := World.ownsRow.kept h.oh (grown_kp k1) (own_ty_ne h.oh h.os (by decide))
    have h2 : OwnH (Wm.setCell ⟨O, 1, none⟩ (.slice (some ⟨g, 0, none⟩) (i + (a.seen.length - (i + 1))) d)) B uh a.hits := World.ownsRow.kept h1 (grown_kp k2) (neO (fun k hk => h.no k (.inl hk)) h1)
    exact h2.rd
  · have hl : (spo0 a i).seen.length = i + (a.seen.length - (i + 1)) := by simp only [spo0, List.length_append, List.length_take, List.length_drop]; omega
    refine ⟨some ⟨g, 0, none⟩, d, by rw [hl], fun j hj => ⟨g, 0, rfl, ?_⟩⟩
    rw [hl] at hj
    rw [World.cell?_setCell_far _ _ _ _ (by dsimp only; omega), hWm, Nat.zero_add]
    have old : ∀ t, t < a.seen.length → W.cell? ⟨g, t, none⟩ = some (.int .i64 a.seen[t]!) := fun t ht => by
      obtain ⟨_, _, e1, hc⟩ := h.os.rd
      obtain ⟨b, o, e2, hc⟩ := hc t ht
      injection e1 with e1 _ _
      rw [← e1] at e2
      injection e2 with e2
      injection e2 with e3 e4
      subst e3
      subst e4
      rw [Nat.zero_add] at hc
      exact hc
    have el : (spo0 a i).seen[j]! = if j < i then a.seen[j]! else a.seen[j + 1]! := by
      have hj2 : j < (spo0 a i).seen.length := by rw [hl]; exact hj
      rw [getElem!_pos _ j hj2]
      simp only [spo0]
      by_cases c : j < i
      · rw [if_pos c, List.getElem_append_left (by rw [List.length_take]; omega), List.getElem_take, getElem!_pos a.seen j (by omega)]
      · rw [if_neg c, List.getElem_append_right (by rw [List.length_take]; omega), List.getElem_drop, getElem!_pos a.seen (j + 1) (by omega)]
        congr 1
        rw [List.length_take]; omega
    rw [el]
    by_cases c : j < i
    · rw [if_pos c, World.cell?_setCells_out g _ _ _ _ (fun _ _ => .inl c)]
      exact old j (by omega)
    · rw [if_neg c]
      have hin := World.cell?_setCells_in g ((a.seen.drop (i + 1)).map (Value.int .i64)) i W.drew (fun t ht => by
        rw [List.length_map, List.length_drop] at ht
        show (W.cell? ⟨g, i + t, none⟩).isSome = true
        rw [old (i + t) (by omega)]; rfl) (j - i) (by rw [List.length_map, List.length_drop]; omega)
      rw [show i + (j - i) = j by omega] at hin
      rw [hin, List.getElem_map, List.getElem_drop, getElem!_pos a.seen (j + 1) (by omega)]
      congr 2
      congr 1
      omega
  · obtain ⟨xs, ho, hx⟩ := h.or
    have h1 := OwnL.kept ⟨xs, ho, hx⟩ (grown_kp k1) (own_ty_ne ho h.os (by decide)) (fun k e => .inl (h.sb k (by injection e with e; rw [← e]; rfl)))
    have h2 := h1.kept (grown_kp k2) (neO (fun k hk => h.no k (.inr (.inr hk))) ho) (fun k e => .inr (fun cs hc => by
      injection e with e
      rw [← e, k1.block O h.lt (by omega)] at hc
      exact h.ty cs hc))
    exact h2.rd
/-- A hit is at another distance. -/
theorem fl_set (l : List Tk.Ht) (i : Nat) (hi' : i < l.length) (z : Int) : Tk.fl (l.set i (l[i]!.1, l[i]!.2.1, z)) = (Tk.fl l).set (i * 3 + 2) (.int .u64 z) := by
  apply List.ext_getElem?
  intro j
  by_cases hj : j < l.length * 3
  · have he : j = j / 3 * 3 + j % 3 := by omega
    have hq : j / 3 < l.length := by omega
    have hm : j % 3 < 3 := by omega
    rw [he]
    generalize j / 3 = p at *
    generalize j % 3 = r at *
    rw [Tk.fl_get _ p r (by rw [List.length_set]; exact hq) hm, List.getElem?_set, Tk.fl_get l p r hq hm, Tk.fl_len]
    by_cases e : p = i
    · subst e
      rw [List.getElem_set_self]
      rcases r with _ | _ | _ | r
      · rw [if_neg (by omega), getElem!_pos l p hq]; rfl
      · rw [if_neg (by omega), getElem!_pos l p hq]; rfl
      · rw [if_pos (by omega), if_pos (by omega)]; rfl
      · omega
    · rw [List.getElem_set_ne (fun e' => e e'.symm), if_neg (by omega)]
  · rw [List.getElem?_eq_none (by rw [Tk.fl_len, List.length_set]; omega), List.getElem?_eq_none (by rw [List.length_set, Tk.fl_len]; omega)]
theorem SpSt.hit {W : World} {O B B2 g d i : Nat} {us ur : Value} {a : Ans} {z : Int} (h : SpSt W O B B2 (.slice (some ⟨g, 0, none⟩) a.hits.length d) us ur a) (hi' : i < a.hits.length) :
    RdA (W.drew.setCell ⟨g, i * 3 + 2, none⟩ (.int .u64 z)) (.slice (some ⟨g, 0, none⟩) a.hits.length d) us ur (spo1 a i (a.hits[i]!.1, a.hits[i]!.2.1, z)) ∧ Tk.Kp (fun b => b = g) W (W.drew.setCell ⟨g, i * 3 + 2, none⟩ (.int .u64 z)) := by
  have hd : W.drew.ownsRow B 43 3 (.slice (some ⟨g, 0, none⟩) a.hits.length d) a.hits.length (Tk.fl a.hits) := World.ownsRow.drew h.oh
  obtain ⟨o1, g1⟩ := hd.stored (i * 3 + 2) (.int .u64 z)
  have k1 : Tk.Kp (fun b => b = g) W (W.drew.setCell ⟨g, i * 3 + 2, none⟩ (.int .u64 z)) := (kp_drew W (fun b => b = g)).setCell (p := ⟨g, i * 3 + 2, none⟩) (.inl rfl) _
  have gg := grown_kp k1
  refine ⟨⟨?_, ?_, ?_⟩, k1⟩
  · have o2 : OwnH (W.drew.setCell ⟨g, i * 3 + 2, none⟩ (.int .u64 z)) B (.slice (some ⟨g, 0, none⟩) a.hits.length d) (spo1 a i (a.hits[i]!.1, a.hits[i]!.2.1, z)).hits := by
      unfold OwnH spo1
      rw [fl_set a.hits i hi' z, List.length_set]
      exact o1
    exact o2.rd
  · exact (h.os.kept gg (own_ty_ne h.os h.oh (by decide))).rd
  · obtain ⟨xs, ho, hx⟩ := h.or
    refine (OwnL.kept ⟨xs, ho, hx⟩ gg (own_ty_ne ho h.oh (by decide)) (fun k e => .inr (fun cs hc => ?_))).rd
    injection e with e
    subst e
    rcases h.oh.2 with ⟨e1, _⟩ | ⟨g', cap, cur, e1, _, hh, _⟩
    · cases e1
    · injection e1 with e1 _ _
      injection e1 with e1
      injection e1 with e1 _
      subst e1
      rw [hh] at hc
      injection hc with hc
      injection hc with _ hc _
      revert hc; decide
/-- What stands beside the variable and one list, when the list has grown and the variable has its new value. -/
theorem SpSt.grow {W V w5 : World} {O B B2 o : Nat} {uh us ur v v5 : Value} {a : Ans} {e : TypeId} {s n : Nat} {xs : List Value} (h : SpSt W O B B2 uh us ur a) (gV : Gb W V) (hv : V.ownsRow B e s v n xs) (hk : ∀ k, v.ownBlock = some k → k < O) (g5 : V.grownBy w5 v.ownBlock) :
    (e ≠ 43 → OwnH (w5.setCell ⟨O, o, none⟩ v5) B uh a.hits) ∧ (e ≠ 3 → Own (w5.setCell ⟨O, o, none⟩ v5) B us a.seen) ∧ (e ≠ 48 → e ≠ 3 → OwnL (w5.setCell ⟨O, o, none⟩ v5) B B2 ur a.rest) ∧
    (∀ {B3 : Nat} {u : Value} {m : List Int}, e ≠ 3 → Own V B3 u m → Own (w5.setCell ⟨O, o, none⟩ v5) B3 u m) ∧ Tk.Kp (fun b => some b = v.ownBlock ∨ b = O) W (w5.setCell ⟨O, o, none⟩ v5) ∧
    (∀ {t : TypeId} {s' n' B' : Nat} {v' : Value} {xs' : List Value}, t ≠ 27 → w5.ownsRow B' t s' v' n' xs' → (w5.setCell ⟨O, o, none⟩ v5).ownsRow B' t s' v' n' xs') := by
  have hVO : V.heap[O]? = W.heap[O]? := gV.block O h.lt
  have h5O : w5.heap[O]? = W.heap[O]? := (g5.block O (Nat.lt_of_lt_of_le h.lt gV.size) (fun e' => by have := hk O e'.symm; omega)).trans hVO
  have gVn : W.grownBy V none := ⟨gV.os, gV.tape, gV.output, gV.size, fun k hk _ => gV.block k hk⟩
  have neO : ∀ {v : Value}, (∀ k, v.ownBlock = some k → k < O) → v.ownBlock = none ∨ v.ownBlock ≠ some O := fun {v} hk => by
    cases hv : v.ownBlock with
    | none => exact .inl rfl
    | some k =>
      refine .inr fun e' => ?_
      injection e' with e'
      have := hk k hv
      omega
  have hty : ∀ k, v.ownBlock = some k → e ≠ 3 → ∀ cs, V.heap[k]? ≠ some (.cells cs 3 (0, 0)) := fun k hk' he cs hc => by
    rcases hv.2 with ⟨e1, _⟩ | ⟨g', cap, cur, e1, _, hh, _⟩
    · rw [e1] at hk'; cases hk'
    · rw [e1] at hk'
      injection hk' with hk'
      dsimp only at hk'
      rw [hk', hc] at hh
      injection hh with hh
      injection hh with _ hh _
      exact he hh.symm
  refine ⟨fun he => ?_, fun he => ?_, fun he he3 => ?_, fun {B3 u m} he hu => ?_, ?_, fun {t s' n' B' v' xs'} ht ho => ?_⟩
  · have h1 := World.ownsRow.kept h.oh gVn (by cases hv : uh.ownBlock <;> simp)
    have h2 := World.ownsRow.kept h1 g5 (own_ty_ne h1 hv (fun e' => he e'.symm))
    exact World.ownsRow.kept h2 (grown_set _) (neO (fun k hk => h.no k (.inl hk)))
  · have h1 := h.os.gb gV
    have h2 := h1.kept g5 (own_ty_ne h1 hv (fun e' => he e'.symm))
    exact h2.kept (grown_set _) (neO (fun k hk => h.no k (.inr (.inl hk))))
  · obtain ⟨ys, ho, hy⟩ := h.or.gb gV
    have h2 := OwnL.kept ⟨ys, ho, hy⟩ g5 (own_ty_ne ho hv (fun e' => he e'.symm)) (fun k hk => .inr (hty k hk he3))
    exact h2.kept (grown_set _) (neO (fun k hk => h.no k (.inr (.inr hk)))) (fun k e' => .inr (fun cs hc => by injection e' with e'; rw [← e', h5O] at hc; exact h.ty cs hc))
  · have h2 := hu.kept g5 (own_ty_ne hu hv (fun e' => he e'.symm))
    refine h2.kept (grown_set _) ?_
    rcases h2.2 with ⟨e1, _⟩ | ⟨g', cap, cur, e1, _, hh, _⟩
    · rw [e1]; exact .inl rfl
    · rw [e1]; refine .inr fun e' => ?_
      injection e' with e'
      dsimp only at e'
      rw [e', h5O] at hh
      exact h.ty cur hh
  · have k1 : Tk.Kp (fun b => some b = v.ownBlock ∨ b = O) W V := Tk.Kp.of_gr gV
    have k2 : Tk.Kp (fun b => some b = v.ownBlock ∨ b = O) V w5 := (Tk.Kp.grown g5).mono (fun k _ e => .inl e)
    exact (k1.trans k2).setCell (p := ⟨O, o, none⟩) (.inl (.inr rfl)) _
  · refine ho.kept (grown_set _) ?_
    rcases ho.2 with ⟨e1, _⟩ | ⟨g', cap, cur, e1, _, hh, _⟩
    · rw [e1]; exact .inl rfl
    · rw [e1]; refine .inr fun e' => ?_
      injection e' with e'
      dsimp only at e'
      rw [e', h5O] at hh
      exact h.tyn ht cur hh
theorem xor_ne {z : Int} (h0 : 0 ≤ z) (h1 : z < 18446744073709551616) : bits BinOp.xor IntKind.u64 z 1 ≠ z := by
  obtain ⟨n, rfl⟩ : ∃ n : Nat, z = (n : Int) := ⟨z.toNat, by omega⟩
  rw [show (1 : Int) = ((1 : Nat) : Int) from rfl, bits_xor_u64_nat n 1 (by omega) (by omega)]
  intro e
  have e2 : n ^^^ 1 = n := by omega
  have e3 : n ^^^ (n ^^^ 1) = n ^^^ n := by rw [e2]
  rw [← Nat.xor_assoc, Nat.xor_self, Nat.zero_xor] at e3
  omega
theorem snd_word {rs : List Rw} {q : List Int} {k : Nat} {a : Ans} (h : SoundQ rs q k a) {i : Nat} (hi' : i < a.hits.length) : 0 ≤ a.hits[i]!.2.2 ∧ a.hits[i]!.2.2 < 18446744073709551616 := by
  obtain ⟨s, h⟩ := h
  have hm : a.hits[i]! ∈ Tk.firsts k (hitsOf q s) := by rw [← h.hits, getElem!_pos a.hits i hi']; exact List.getElem_mem hi'
  obtain ⟨r, _, e⟩ := chit_form hm
  rw [e]
  exact lo_bd _
end Go.Proofs.YtdmdjmliggjbjaaGreat
