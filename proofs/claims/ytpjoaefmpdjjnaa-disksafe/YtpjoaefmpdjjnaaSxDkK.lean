/- slices.Clone at bytes and at changes, maps.Clone at names (the shelf's contracts, laid at this program); Read. -/
import Derived.Test.YtpjoaefmpdjjnaaSxDkJ
import Derived.Shelf.SlicesE.Clone
import Derived.Shelf.SlMaps.Clone
import Derived.Shelf.Lay
import Derived.Ground.SlgnProg
import Derived.Ground.SlmcProg
namespace Go.Proofs.Ytpjoaefmpdjjnaa
open Go.Shelf Go.RowKit Go.Lib Go.Maps
shelf_lay_g SlLaysE0.n41 Slgn 41 at Try 39 as Try.layCB
shelf_lay_g SlLaysE0.n41 Slgn 41 at Try 41 as Try.layCC
shelf_lay_g SlLaysW.n5 Slmc 5 at Try 40 as Try.layCM

variable {w w' : World} {b : Nat} {q q' : Dq} {F G : Nat → Prop} {ks : List Int} {fm nb sn : Nat} {cv : Value} {fv : Int → Value}
/-- Bytes that can be cloned. -/
def CpB (w : World) (v : Value) (l : By) : Prop := ∃ a cap, v = .slice a l.length cap ∧ (a = none ∧ l = [] ∨ ∃ g o, a = some ⟨g, o, none⟩ ∧ ∀ j u, (l.map bv)[j]? = some u → w.cell? ⟨g, o + j, none⟩ = some u)
theorem OwnB.cp {base : Nat} {v : Value} {l : By} (h : OwnB w base v l) : CpB w v l := by
  rcases h.2 with ⟨rfl, h0⟩ | ⟨g, cap, cur, rfl, _⟩
  · exact ⟨none, 0, by rw [h0], .inl ⟨rfl, List.eq_nil_of_length_eq_zero h0⟩⟩
  · refine ⟨_, cap, rfl, .inr ⟨g, 0, rfl, fun j u hj => ?_⟩⟩
    have := World.ownsRow.cells h (g := g) rfl j u hj
    rw [Addr.add_lit] at this
    exact this
theorem OwnB.cpTake {base n c k : Nat} {a : Option Addr} {l : By} (h : OwnB w base (.slice a n c) l) (hk : k ≤ l.length) : CpB w (.slice a k c) (l.take k) := by
  have hl : (l.take k).length = k := by rw [List.length_take]; omega
  obtain ⟨a', c', e, h⟩ := h.cp
  injection e with e1 e2 e3
  subst e1
  refine ⟨a, c, by rw [hl], ?_⟩
  rcases h with ⟨h1, h2⟩ | ⟨g, o, h1, h2⟩
  · exact .inl ⟨h1, by rw [h2]; simp⟩
  · refine .inr ⟨g, o, h1, fun j u hj => h2 j u ?_⟩
    rw [List.map_take, List.getElem?_take] at hj
    split at hj
    · exact hj
    · cases hj
theorem bv_one (l : By) : ∀ u ∈ l.map bv, u.oneCell' = true := by
  intro u hu
  obtain ⟨x, _, rfl⟩ := List.mem_map.1 hu
  rfl
theorem cloneB_c {v : Value} {l : By} (h : CpB w v l) (hl : l.length ≤ 4194304) : Calls Try.prog 39 #[v] w fun e w' => ∃ v', e = .returned v' ∧ OwnB w' w.heap.size v' l ∧ Gb w w' := by
  obtain ⟨a, cap, rfl, h⟩ := h
  rcases h with ⟨rfl, rfl⟩ | ⟨g, o, rfl, h⟩
  · have hc := AnyE.slices_Clone_nil Try.layCB (([] : By).length) cap w
    change Calls Try.prog 39 _ _ _ at hc
    refine hc.mono ?_
    rintro e w' ⟨rfl, rfl⟩
    exact ⟨_, rfl, ownb_nil _ _, Below.refl _ _⟩
  · obtain ⟨i0, hi, hz0, hz1, hz2⟩ := info5
    have hc := AnyE.slices_Clone Try.layCB i0 (.int .u8 0) 1 1 hi hz0 hz1 hz2 rfl (by decide) Try.sizeOf5 g o l.length cap (l.map bv) w (by simp) (by simp only [maxLen]; omega) (by omega) h (bv_one l)
    change Calls Try.prog 39 _ _ _ at hc
    refine hc.mono ?_
    rintro e w' ⟨v', rfl, ho, _, hb⟩
    exact ⟨v', rfl, ho, hb⟩
/-- A change's row, cloned. -/
theorem cloneC_c {base : Nat} {v : Value} {l : List (By × By × Int)} (h : w.ownsRow base 76 3 v l.length (l.flatMap chV)) (hl : l.length ≤ 1000000) :
    Calls Try.prog 41 #[v] w fun e w' => ∃ v', e = .returned v' ∧ w'.ownsRow w.heap.size 76 3 v' l.length (l.flatMap chV) ∧ Gb w w' := by
  rcases id h.2 with ⟨rfl, h0⟩ | ⟨g, cap, cur, rfl, _⟩
  · have hc := AnyE.slices_Clone_nil Try.layCC 0 0 w
    change Calls Try.prog 41 _ _ _ at hc
    refine hc.mono ?_
    rintro e w' ⟨rfl, rfl⟩
    have : l = [] := List.eq_nil_of_length_eq_zero h0
    subst this
    exact ⟨_, rfl, World.ownsRow_nil _ _ _ _, Below.refl _ _⟩
  · obtain ⟨i0, hi, hz0, hz1, hz2⟩ := infoC
    have hc := AnyE.slices_Clone Try.layCC i0 (.agg #[.string ByteArray.empty, .string ByteArray.empty, .int .i64 0]) 3 40 hi hz0 hz1 hz2 rfl (by decide) Try.sizeOf76 g 0 l.length cap (l.flatMap chV) w h.1 (by simp only [maxLen]; omega) (by omega)
      (fun j u hu => by have := World.ownsRow.cells h (g := g) rfl j u hu; rwa [Addr.add_lit] at this) (fun u hu => by
        obtain ⟨c, _, hc⟩ := List.mem_flatMap.1 hu
        exact chV_one c u hc)
    change Calls Try.prog 41 _ _ _ at hc
    refine hc.mono ?_
    rintro e w' ⟨v', rfl, ho, _, hb⟩
    exact ⟨v', rfl, ho, hb⟩
theorem cloneM_c {l : Nms} (h : NmAt w nb l) : Calls Try.prog 40 #[.map (some nb)] w fun e w' => e = .returned (.map (some w.heap.size)) ∧ NmAt w' w.heap.size l ∧ Gb w w' ∧ w'.heap.size = w.heap.size + 1 := by
  obtain ⟨es, clock, hb⟩ := MapS.isMap h
  have hc := AnyW.maps_Clone Try.layCM nb es clock w hb
  change Calls Try.prog 40 _ _ _ at hc
  refine hc.mono ?_
  rintro e w' ⟨rfl, rfl⟩
  refine ⟨rfl, ?_, gb_alloc (Below.refl _ _) _, by simp⟩
  obtain ⟨D, ⟨es', clock', hb', r⟩, s⟩ := h
  rw [hb] at hb'
  simp only [Option.some.injEq, Obj.map.injEq] at hb'
  obtain ⟨rfl, rfl⟩ := hb'
  exact ⟨D, ⟨es, clock, heap_alloc_new w _, r⟩, s⟩
/-- Read. -/
def rdV (q : Dq) (x : By) : By := if fiE q x = 0 then q.fb (num q.nm x) else []
set_option maxHeartbeats 1000000 in
theorem read_c (h : DkAt w b q F) (ok : q.Ok) {x : By} (hx : KWfS x) : Calls Try.prog 21 #[.pointer (some ⟨b, 0, none⟩), .string (sb x)] w fun e w' => ∃ v', e = .returned (.tuple #[v', .int .i64 (fiE q x)]) ∧ OwnB w' w.heap.size v' (rdV q x) ∧ Gb w w' := by
  have hf := find_c h ok hx
  by_cases e1 : fiE q x = 0
  · obtain ⟨z1, z2, z3⟩ := fiE_zero e1
    have E1 : rdV q x = q.fb (num q.nm x) := by unfold rdV; rw [if_pos e1]
    rw [e1, z3] at hf
    rw [e1, E1]
    obtain ⟨ks, fm, nb, sn, cv, fv, h1, h2, h3, h4⟩ := h
    have hl := h1.file (h1.numK z2)
    have hc1 := h1.cells.1.2.1
    have ho := h1.own _ (h1.numK z2)
    have hC := cloneB_c ho.cp (ok.fb _)
    obtain ⟨fa, fc, ef⟩ := row_fm ho
    have fl := fun w => fld_bytes (fv (num q.nm x)) (.int .i64 (q.fs (num q.nm x) : Int)) w
    rw [ef] at hl fl hC
    generalize q.fb (num q.nm x) = l at *
    generalize l.length = m at *
    generalize num q.nm x = n at *
    generalize q.fs n = fsn at *
    generalize sb x = s at *
    clear h1 h2 h3 h4 ok e1 E1 hx z1 z2 z3 ho ef
    go_enter Try.func21, Try.ntmps21
    go_wp2_with fail
    refine hf.mono ?_
    rintro e w' ⟨rfl, rfl⟩
    go_wp2_with fail
    refine hC.mono ?_
    rintro e w1 ⟨v', rfl, ho, g⟩
    go_wp2
    exact bodyPost_ret (v := .tuple #[v', .int .i64 0]) (by simp [results, Try.results21, go_sem]) rfl ⟨v', rfl, ho, g⟩
  · have E1 : rdV q x = [] := by unfold rdV; rw [if_neg e1]
    rw [E1]
    have e1' : (fiE q x == 0) = false := by rw [beq_eq_false_iff_ne]; exact e1
    generalize fiE q x = k at *
    generalize fiN q x = n at *
    generalize sb x = s at *
    clear h ok e1 hx E1
    go_enter Try.func21, Try.ntmps21
    go_wp2_with fail
    refine hf.mono ?_
    rintro e w' ⟨rfl, rfl⟩
    go_wp2
    exact bodyPost_ret (v := .tuple #[.slice none 0 0, .int .i64 k]) (by simp [results, Try.results21, go_sem]) rfl ⟨_, rfl, ownb_nil _ _, Below.refl _ _⟩
end Go.Proofs.Ytpjoaefmpdjjnaa
