/- slices.Clone and slices.SortFunc at hits (the shelf's contracts, laid at this program); List. -/
import Derived.Test.YteaeaoekaoedoaaGreatTkKeep
import Derived.Shelf.SlSortCmp.NoneTotal
import Derived.Shelf.SlicesE.Clone
import Derived.Shelf.SlGeneric
import Derived.Shelf.Lay
import Derived.Ground.SlsfProg
import Derived.Ground.SlgnProg
namespace Go.Proofs.YteaeaoekaoedoaaGreat.Tk
open Go.Shelf Go.RowKit Go.Lib Go.Sort
shelf_lay_g SlLaysF0.n6 Slsf 6 at Tryz 41 as Tryz.laidSort
shelf_lay_g SlLaysE0.n41 Slgn 41 at Tryz 79 as Tryz.laidClone

/-- Hits in their order. -/
def srt (l : List Ht) : List Ht := l.mergeSort fun x y => !hlt y x
theorem srt_perm (l : List Ht) : (srt l).Perm l := List.mergeSort_perm _ _
theorem srt_len (l : List Ht) : (srt l).length = l.length := (srt_perm l).length_eq

theorem swoH : SWO (ltOf cf) := ⟨hlt_irrefl, fun _ _ _ => hlt_trans, fun _ _ _ => hlt_ntrans⟩
theorem cmpH (blk off size : Nat) (w : World) : CmpLays Tryz.prog 80 #[] enc 3 cf blk off size w := fun _ _ _ _ x y => order_c x y _

theorem gr_grow (w : World) (os : Array Obj) : Gr w (grow w os) := ⟨rfl, rfl, rfl, by rw [size_grow]; omega, fun _ hk => heap_grow_old _ _ hk⟩
theorem clone28 {w : World} {g n cap : Nat} {d : Array Ht} (h : Own w (.slice (some ⟨g, 0, none⟩) n cap) d) (hs : d.size = n) (hn : n ≤ 4000) :
    Calls Tryz.prog 79 #[.slice (some ⟨g, 0, none⟩) n cap] w fun e w' => ∃ g' cap', e = .returned (.slice (some ⟨g', 0, none⟩) n cap') ∧ w.heap.size ≤ g' ∧ Own w' (.slice (some ⟨g', 0, none⟩) n cap') d ∧ Gr w w' := by
  obtain ⟨i0, z0, hi0, hz0, hz1, hz2, hz3⟩ := info57
  have hc := AnyE.slices_Clone Tryz.laidClone i0 z0 3 24 hi0 hz0 hz1 hz2 hz3 (by omega) Tryz.sizeOf57 g 0 n cap (fl d.toList) w (by rw [fl_len]; simp [hs]) (by simp only [maxLen]; omega) (by omega)
    (fun j u hu => by have := h.cells (g := g) rfl j u hu; rwa [Addr.add_lit] at this) (fl_one_cell _)
  change Calls Tryz.prog 79 _ _ _ at hc
  refine hc.mono ?_
  rintro e w' ⟨v', rfl, ho, hv, hb⟩
  rcases ho.2 with ⟨h1, _⟩ | ⟨g', cap', cur, rfl, hb', hh, r⟩
  · exact absurd h1 hv
  · refine ⟨g', cap', rfl, hb', ?_, hb⟩
    unfold Own
    rw [hs]
    exact ⟨ho.1, .inr ⟨g', cap', cur, rfl, Nat.zero_le _, hh, r⟩⟩
theorem clone28_nil (w : World) : Calls Tryz.prog 79 #[.slice none 0 0] w fun e w' => e = .returned (.slice none 0 0) ∧ w' = w := by
  have hc := AnyE.slices_Clone_nil Tryz.laidClone 0 0 w
  exact hc

theorem sort29 {w : World} {g n cap : Nat} {d : Array Ht} (h : Own w (.slice (some ⟨g, 0, none⟩) n cap) d) (hs : d.size = n) (hn : n ≤ 4000) :
    Calls Tryz.prog 41 #[.slice (some ⟨g, 0, none⟩) n cap, .func (.func 80) #[] #[]] w fun e w' => e = .returned (.tuple #[]) ∧ Own w' (.slice (some ⟨g, 0, none⟩) n cap) (srt d.toList).toArray ∧ Kp (fun b => b = g) w w' := by
  subst hs
  have eg : ∀ args w, (callFunc 80 args).run Tryz.prog w = .ok (.enter 80 args) w := enters_of Tryz.func80 (by kernel_rfl) rfl
  have hc := AnyQ.slices_SortFunc_total Tryz.laidSort 3 Tryz.isAgg57 Tryz.sizeOf57 enc enc_len enc_one cf swoH 80 #[] g 0 cap d w eg (cmpH g 0 d.size w) (own_holds h) (own_lt h rfl) (by omega) (fun x y h1 h2 => hlt_tot h1 h2)
  change Calls Tryz.prog 41 _ _ _ at hc
  refine hc.mono ?_
  rintro e w' ⟨rfl, q, os, rfl⟩
  have hsz : ((d.toList.mergeSort fun x y => !(ltOf cf) y x).toArray).size = d.size := by simp
  refine ⟨rfl, ?_, ?_⟩
  · exact own_gr (own_put h q _ hsz) (gr_grow _ _)
  · exact (Kp.put w _).trans (Kp.of_gr (gr_grow _ _))
theorem sort29_nil (fv : Value) (w : World) : Calls Tryz.prog 41 #[.slice none 0 0, fv] w fun e w' => e = .returned (.tuple #[]) ∧ w' = w := by
  have hc := AnyF.slices_SortFunc_none Tryz.laidSort none 0 fv w
  exact hc

/-- A list that came out: its hits, in memory of its own. -/
def Out (w w' : World) (v : Value) (l : List Ht) : Prop := Own w' v l.toArray ∧ Gr w w' ∧ ∀ g, v.ownBlock = some g → w.heap.size ≤ g

set_option maxHeartbeats 2000000 in
theorem list16 {w : World} {hb : Nat} {k : Int} {v : Value} {d : Array Ht} (h : Hp w hb k v d) (hn : d.size ≤ 4000) :
    Calls Tryz.prog 56 #[.pointer (some ⟨hb, 0, none⟩)] w fun e w' => ∃ v', e = .returned v' ∧ Out w w' v' (srt d.toList) := by
  have c1 := h.cell1
  have H : Hid (Own w v d ∧ d.size ≤ 4000) := ⟨h.own, hn⟩
  rcases h.own.2 with ⟨rfl, h0⟩ | ⟨g, cap, cur, rfl, _⟩
  · have D : Hid (d = #[]) := Array.eq_empty_of_size_eq_zero h0
    clear h hn h0
    go_enter Tryz.func56, Tryz.ntmps56
    go_wp2_with fail
    refine (clone28_nil _).mono ?_
    rintro e w' ⟨rfl, e2⟩
    subst e2
    go_wp2_with fail
    refine (sort29_nil _ _).mono ?_
    rintro e w2 ⟨rfl, e2⟩
    subst e2
    go_wp2
    go_ret
    refine ⟨.slice none 0 0, rfl, ?_, Below.refl _ _, by simp [Value.ownBlock]⟩
    rw [D.out, show srt (#[] : Array Ht).toList = [] by simp [srt]]
    exact own_nil _
  · obtain ⟨n, hN⟩ : ∃ n, n = d.size := ⟨_, rfl⟩
    have N : Hid (d.size = n) := hN.symm
    rw [← hN] at c1
    have H2 : Hid (Own w (.slice (some ⟨g, 0, none⟩) n cap) d ∧ n ≤ 4000) := by rw [hN]; exact H
    clear h hn hN H
    go_enter Tryz.func56, Tryz.ntmps56
    go_wp2_with fail
    refine (clone28 H2.out.1 N.out H2.out.2).mono ?_
    rintro e w1 ⟨g', cap', rfl, hg, ho, hG⟩
    have X : Hid (Own w1 (.slice (some ⟨g', 0, none⟩) n cap') d ∧ Gr w w1 ∧ w.heap.size ≤ g') := ⟨ho, hG, hg⟩
    clear hg ho hG c1
    go_wp2_with fail
    refine (sort29 X.out.1 N.out H2.out.2).mono ?_
    rintro e w2 ⟨rfl, ho, hK⟩
    have Y : Hid (Own w2 (.slice (some ⟨g', 0, none⟩) n cap') (srt d.toList).toArray ∧ Kp (fun b => b = g') w1 w2) := ⟨ho, hK⟩
    clear ho hK
    go_wp2
    go_ret
    refine ⟨.slice (some ⟨g', 0, none⟩) n cap', rfl, Y.out.1, X.out.2.1.trans (Y.out.2.gr X.out.2.1.size (fun k e => by rw [e]; exact X.out.2.2)), ?_⟩
    intro g2 e
    simp [Value.ownBlock] at e
    rw [← e]; exact X.out.2.2
theorem list16_nil (w : World) : Calls Tryz.prog 56 #[.pointer none] w fun e w' => e = .returned (.slice none 0 0) ∧ w' = w := by
  go_enter Tryz.func56, Tryz.ntmps56
  go_wp2
  go_ret
  exact ⟨rfl, rfl⟩
end Go.Proofs.YteaeaoekaoedoaaGreat.Tk
