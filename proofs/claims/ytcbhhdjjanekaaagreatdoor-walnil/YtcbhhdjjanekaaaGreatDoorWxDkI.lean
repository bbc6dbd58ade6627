/- slices.Sorted(maps.Keys(m)) at names (the shelf's contracts, laid at this program); Names. -/
import Derived.Test.YtcbhhdjjanekaaaGreatDoorWxDkP
import Derived.Shelf.SlIter.Nil
import Derived.Shelf.SortM.Plain
import Derived.Shelf.SortM.SortNone
import Derived.Ground.GgzProg
import Derived.Ground.SlgmProg
namespace Go.Proofs.YtcbhhdjjanekaaaGreatDoor
open Go.Shelf Go.RowKit Go.Lib Go.Maps Go.Sort
shelf_lay_g SlLaysZ.n7 Ggz 7 at Tryz 54 as Tryz.layKy
shelf_lay_g SlLaysZ.n6 Ggz 6 at Tryz 53 as Tryz.laySd
shelf_lay_g SlLaysM.n6 Slgm 6 at Tryz 74 as Tryz.laySt

theorem sorts_c (m : Nat) : AnyZ.SortsIn Tryz.prog Tryz.laySd_ren Fence.wide m :=
  ⟨fun blk off cap ss W hH hblk hsz => callsIn_wide.2 (AnyM.slices_Sort_string Tryz.laySt blk off cap ss W hH hblk hsz),
   fun p cap W => callsIn_wide.2 (AnyM.slices_Sort_string_none Tryz.laySt p cap W)⟩
theorem keys_c (mb : Option Nat) (W : World) : CallsIn Fence.wide 5 Tryz.prog 54 #[.map mb] W fun e w' => e = .returned (.func (.func 75) #[] #[.pointer (some ⟨W.heap.size, 0, none⟩)]) ∧ w' = W.alloc (.cells #[.map mb] 64) :=
  AnyZ.keys_in Tryz.layKy Fence.wide 5 trivial rfl mb W
set_option maxHeartbeats 1000000 in
theorem sortedK_c {H : Type} (b nn : Nat) (D0 : DataW H) (R : Value → Option (DataW H × List MemPlace)) (w : World) (hown : w.ownsMap Tryz.prog 9 R b nn D0) (hmax : Maps.size D0 ≤ maxLen) (hbytes : Maps.size D0 * 16 ≤ 140737488355328) :
    CallsIn Fence.wide 5 Tryz.prog 53 #[.func (.func 75) #[] #[.pointer (some ⟨w.heap.size, 0, none⟩)]] (w.alloc (.cells #[.map (some b)] 64)) fun e w' => ∃ (v : Value) (ss : List (List UInt8)), e = .returned v ∧ ss.Perm (strKeys D0) ∧
      w'.ownsRow (w.alloc (.cells #[.map (some b)] 64)).heap.size 9 1 v ss.length ((ss.mergeSort (fun x y => decide (x ≤ y))).map encStr) ∧ (v = .slice none 0 0 ↔ ss = []) ∧ Below (w.alloc (.cells #[.map (some b)] 64)).heap.size (w.alloc (.cells #[.map (some b)] 64)) w' := by
  have hbl := hown.lt
  have hseq : SeqGives Fence.wide 2 Tryz.prog 75 #[.pointer (some ⟨w.heap.size, 0, none⟩)] encStr (fun ss => ss.Perm (strKeys D0)) (Maps.size D0) (w.alloc (.cells #[.map (some b)] 64)) :=
    AnyZ.keys_gives (ρ := Tryz.layKy_ren) { Tryz.layKy with } Fence.wide _ trivial rfl (by omega) w.heap.size b nn D0 _ (by simp) (by simp) (by
      obtain ⟨es, clock, hb, Ft, hs, hD⟩ := hown
      exact ⟨es, clock, (Below.heap_alloc _ _ b hbl).trans hb, Ft, hs, hD⟩)
  exact AnyZ.sorted_in Tryz.laySd Fence.wide 5 trivial trivial trivial trivial rfl (by omega) (sorts_c _) (enters_of Tryz.func74 (by kernel_rfl) rfl) 75 #[.pointer (some ⟨w.heap.size, 0, none⟩)] trivial (enters_of Tryz.func75 (by kernel_rfl) rfl) _ _ hmax hbytes _ hseq

variable {w w' : World} {b : Nat} {q q' : Dq} {F G : Nat → Prop} {ks : List Int} {fm nb sn : Nat} {cv : Value} {fv : Int → Value}
/-- Texts, rising; a slice of texts of the call's own. -/
def srtB (l : List By) : List By := l.mergeSort fun x y => decide (x ≤ y)
theorem srtB_len (l : List By) : (srtB l).length = l.length := List.length_mergeSort l
theorem srtB_perm (l : List By) : (srtB l).Perm l := List.mergeSort_perm l _
def OwnT (w : World) (base : Nat) (v : Value) (l : List By) : Prop := w.ownsRow base 9 1 v l.length (l.map encStr)
theorem encStr_sb (x : By) : encStr x = .string (sb x) := rfl
theorem OwnT.gb {base : Nat} {v : Value} {l : List By} (h : OwnT w base v l) (g : Gb w w') : OwnT w' base v l := row_same h fun k e => g.block k (World.ownsRow.lt h k e).2
theorem NmAt.skeys {l : Nms} (h : NmAt w nb l) : ∃ D : DataW Value, w.ownsMap Tryz.prog 9 slf nb (Maps.size D) D ∧ (kys l).Perm (strKeys D) ∧ Maps.size D = l.length := by
  obtain ⟨D, ho, hn, hw, hs, hh, _⟩ := h
  obtain ⟨es, rfl, he, hk⟩ := ho.entries (string_keyed Tryz.underlying9)
  obtain ⟨es', e', hk'⟩ := ho.keysOf
  cases e'
  refine ⟨_, ho, perm_strKeys he (fun p hp => ?_) hn (fun x => ?_), by rw [hs, kys_length]⟩
  · obtain ⟨v, hv⟩ := hk' p hp
    obtain ⟨x, _, e, _⟩ := Maps.keyOf_str Tryz.underlying9 hv
    exact ⟨x, e⟩
  · by_cases hx : KWfS x
    · have := hh x hx
      rw [show Maps.has (.map es) (.string x) = decide (x ∈ kys l) from this]; simp
    · refine ⟨fun h => absurd (hw x h) hx, fun h => ?_⟩
      exfalso
      rw [has_eq, List.any_eq_true] at h
      obtain ⟨p, hp, hs'⟩ := h
      obtain ⟨v, hv⟩ := hk' p hp
      obtain ⟨y, _, e, hy⟩ := Maps.keyOf_str Tryz.underlying9 hv
      have := WideAt.sameKey_eq hs'
      rw [e] at this
      injection this with this
      exact hx (by rw [← this]; exact hy)
def nmL (q : Dq) : List By := if q.lf = 0 then [] else srtB (kys q.nm)
set_option maxHeartbeats 1000000 in
theorem names_c (h : DkAt w b q F) (ok : q.Ok) (hst : q.st < 100000) : Calls Tryz.prog 25 #[.pointer (some ⟨b, 0, none⟩)] w fun e w' => ∃ v, e = .returned v ∧ OwnT w' w.heap.size v (nmL q) ∧ Gb w w' := by
  have hr := refusal_c h ok
  by_cases e1 : q.lf = 0
  · have E : rfE q = 174 := by unfold rfE; rw [if_pos e1]
    have E1 : nmL q = [] := by unfold nmL; rw [if_pos e1]
    rw [E] at hr
    rw [E1]
    clear h ok E e1 E1
    go_enter Tryz.func25, Tryz.ntmps25
    go_wp2_with fail
    refine hr.mono ?_
    rintro e w' ⟨rfl, rfl⟩
    go_wp2
    go_ret
    exact ⟨_, rfl, World.ownsRow_nil _ _ _ _, Below.refl _ _⟩
  · have E : rfE q = 0 := by unfold rfE; rw [if_neg e1]
    have E1 : nmL q = srtB (kys q.nm) := by unfold nmL; rw [if_neg e1]
    rw [E] at hr
    rw [E1]
    obtain ⟨ks, fm, nb, sn, cv, fv, h1, h2, h3, h4⟩ := h
    have c2 := h1.cells.1.2.2.1
    have hlen : q.nm.length < 1000000 := by have := ok.nmL; omega
    obtain ⟨D, ho, hp, hsz⟩ := h1.nms.skeys
    have cS := callsIn_wide.1 (sortedK_c nb (Maps.size D) D slf w ho (by rw [hsz]; unfold maxLen; omega) (by omega))
    have cK := callsIn_wide.1 (keys_c (some nb) w)
    have FIN : Hid (∀ v (ss : List (List UInt8)) w', ss.Perm (strKeys D) → w'.ownsRow (w.alloc (.cells #[.map (some nb)] 64)).heap.size 9 1 v ss.length ((ss.mergeSort (fun x y => decide (x ≤ y))).map encStr) → Below (w.alloc (.cells #[.map (some nb)] 64)).heap.size (w.alloc (.cells #[.map (some nb)] 64)) w' → OwnT w' w.heap.size v (srtB (kys q.nm)) ∧ Gb w w') := fun v ss w' hS hrow hb => by
      have e : srtB (kys q.nm) = ss.mergeSort (fun x y => decide (x ≤ y)) := mergeSort_of_perm (hp.trans hS.symm)
      refine ⟨?_, gb_trans (gb_alloc (Below.refl _ _) _) hb⟩
      unfold OwnT
      rw [e, List.length_mergeSort]
      exact ownsRow_base_a hrow (by simp)
    clear h1 h2 h3 h4 ok E e1 E1 ho hp hsz hlen
    go_enter Tryz.func25, Tryz.ntmps25
    go_wp2_with fail
    refine hr.mono ?_
    rintro e w' ⟨rfl, rfl⟩
    go_wp2_with fail
    refine cK.mono ?_
    rintro e w' ⟨rfl, rfl⟩
    go_wp2_with fail
    refine cS.mono ?_
    rintro e w' ⟨v, ss, rfl, hS, hrow, _, hb⟩
    have R := FIN.out v ss w' hS hrow hb
    clear hrow FIN hb
    go_wp2
    go_ret
    exact ⟨v, rfl, R⟩
end Go.Proofs.YtcbhhdjjanekaaaGreatDoor
