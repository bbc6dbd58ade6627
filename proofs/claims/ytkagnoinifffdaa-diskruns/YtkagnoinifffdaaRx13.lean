import Derived.Test.YtkagnoinifffdaaRx12
import Derived.Shelf.SlIter.Nil
import Derived.Shelf.SortM.Plain
import Derived.Shelf.SortM.SortNone
import Derived.Ground.GgzProg
import Derived.Ground.SlgmProg
/- slices.Sorted(maps.Keys(m)) at names (the shelf's contracts, laid at this program); Names. -/
namespace Go.Proofs.Ytkagnoinifffdaa
open Go.Shelf Go.RowKit Go.Lib Go.Maps Go.Sort
shelf_lay_g SlLaysZ.n7 Ggz 7 at Try 62 as Try.layKy
shelf_lay_g SlLaysZ.n6 Ggz 6 at Try 61 as Try.laySd
shelf_lay_g SlLaysM.n6 Slgm 6 at Try 76 as Try.laySt

theorem sorts_c (m : Nat) : AnyZ.SortsIn Try.prog Try.laySd_ren Fence.wide m :=
  ⟨fun blk off cap ss W hH hblk hsz => callsIn_wide.2 (AnyM.slices_Sort_string Try.laySt blk off cap ss W hH hblk hsz),
   fun p cap W => callsIn_wide.2 (AnyM.slices_Sort_string_none Try.laySt p cap W)⟩
theorem keys_c (mb : Option Nat) (W : World) : CallsIn Fence.wide 5 Try.prog 62 #[.map mb] W fun e w' => e = .returned (.func (.func 77) #[] #[.pointer (some ⟨W.heap.size, 0, none⟩)]) ∧ w' = W.alloc (.cells #[.map mb] 60) :=
  AnyZ.keys_in Try.layKy Fence.wide 5 trivial rfl mb W
set_option maxHeartbeats 1000000 in
theorem sortedK_c {H : Type} (b nn : Nat) (D0 : DataW H) (R : Value → Option (DataW H × List MemPlace)) (w : World) (hown : w.ownsMap Try.prog 9 R b nn D0) (hmax : Maps.size D0 ≤ maxLen) (hbytes : Maps.size D0 * 16 ≤ 140737488355328) :
    CallsIn Fence.wide 5 Try.prog 61 #[.func (.func 77) #[] #[.pointer (some ⟨w.heap.size, 0, none⟩)]] (w.alloc (.cells #[.map (some b)] 60)) fun e w' => ∃ (v : Value) (ss : List (List UInt8)), e = .returned v ∧ ss.Perm (strKeys D0) ∧
      w'.ownsRow (w.alloc (.cells #[.map (some b)] 60)).heap.size 9 1 v ss.length ((ss.mergeSort (fun x y => decide (x ≤ y))).map encStr) ∧ (v = .slice none 0 0 ↔ ss = []) ∧ Below (w.alloc (.cells #[.map (some b)] 60)).heap.size (w.alloc (.cells #[.map (some b)] 60)) w' := by
  have hbl := hown.lt
  have hseq : SeqGives Fence.wide 2 Try.prog 77 #[.pointer (some ⟨w.heap.size, 0, none⟩)] encStr (fun ss => ss.Perm (strKeys D0)) (Maps.size D0) (w.alloc (.cells #[.map (some b)] 60)) :=
    AnyZ.keys_gives (ρ := Try.layKy_ren) { Try.layKy with } Fence.wide _ trivial rfl (by omega) w.heap.size b nn D0 _ (by simp) (by simp) (by
      obtain ⟨es, clock, hb, Ft, hs, hD⟩ := hown
      exact ⟨es, clock, (Below.heap_alloc _ _ b hbl).trans hb, Ft, hs, hD⟩)
  exact AnyZ.sorted_in Try.laySd Fence.wide 5 trivial trivial trivial trivial rfl (by omega) (sorts_c _) (enters_of Try.func76 (by kernel_rfl) rfl) 77 #[.pointer (some ⟨w.heap.size, 0, none⟩)] trivial (enters_of Try.func77 (by kernel_rfl) rfl) _ _ hmax hbytes _ hseq

variable {w w' : World} {b : Nat} {q q' : Dq} {F G : Nat → Prop} {ks : List Int} {fm nb sn : Nat} {cv : Value} {fv : Int → Value}
/-- Texts, rising; a slice of texts of the call's own. -/
def srtB (l : List By) : List By := l.mergeSort fun x y => decide (x ≤ y)
theorem srtB_len (l : List By) : (srtB l).length = l.length := List.length_mergeSort l
theorem srtB_perm (l : List By) : (srtB l).Perm l := List.mergeSort_perm l _
def OwnT (w : World) (base : Nat) (v : Value) (l : List By) : Prop := w.ownsRow base 9 1 v l.length (l.map encStr)
theorem encStr_sb (x : By) : encStr x = .string (sb x) := rfl
theorem OwnT.gb {base : Nat} {v : Value} {l : List By} (h : OwnT w base v l) (g : Gb w w') : OwnT w' base v l := row_same h fun k e => g.block k (World.ownsRow.lt h k e).2
theorem NmAt.skeys {l : Nms} (h : NmAt w nb l) : ∃ D : DataW Value, w.ownsMap Try.prog 9 slf nb (Maps.size D) D ∧ (kys l).Perm (strKeys D) ∧ Maps.size D = l.length := by
  obtain ⟨D, ho, hn, hw, hs, hh, _⟩ := h
  obtain ⟨es, rfl, he, hk⟩ := ho.entries (string_keyed Try.underlying9)
  obtain ⟨es', e', hk'⟩ := ho.keysOf
  cases e'
  refine ⟨_, ho, perm_strKeys he (fun p hp => ?_) hn (fun x => ?_), by rw [hs, kys_length]⟩
  · obtain ⟨v, hv⟩ := hk' p hp
    obtain ⟨x, _, e, _⟩ := Maps.keyOf_str Try.underlying9 hv
    exact ⟨x, e⟩
  · by_cases hx : KWfS x
    · have := hh x hx
      rw [show Maps.has (.map es) (.string x) = decide (x ∈ kys l) from this]; simp
    · refine ⟨fun h => absurd (hw x h) hx, fun h => ?_⟩
      exfalso
      rw [has_eq, List.any_eq_true] at h
      obtain ⟨p, hp, hs'⟩ := h
      obtain ⟨v, hv⟩ := hk' p hp
      obtain ⟨y, _, e, hy⟩ := Maps.keyOf_str Try.underlying9 hv
      have := WideAt.sameKey_eq hs'
      rw [e] at this
      injection this with this
      exact hx (by rw [← this]; exact hy)
def nmL (q : Dq) : List By := if q.lf = 0 then [] else srtB (kys q.nm)
set_option maxHeartbeats 1000000 in
theorem names_c (h : DkAt w b q F) (ok : q.Ok) (hst : q.st < 100000) : Calls Try.prog 24 #[.pointer (some ⟨b, 0, none⟩)] w fun e w' => ∃ v, e = .returned v ∧ OwnT w' w.heap.size v (nmL q) ∧ Gb w w' := by
  have hr := refusal_c h ok
  by_cases e1 : q.lf = 0
  · have E : rfE q = 174 := by unfold rfE; rw [if_pos e1]
    have E1 : nmL q = [] := by unfold nmL; rw [if_pos e1]
    rw [E] at hr
    rw [E1]
    clear h ok E e1 E1
    go_enter Try.func24, Try.ntmps24
    go_wp2_with fail
    refine hr.mono ?_
    rintro e w' ⟨rfl, rfl⟩
    go_wp2
    go_ret
    exact ⟨_, rfl, World.ownsRow_nil _ _ _ _, Below.refl _ _⟩
  · have E : rfE q = 0 := by unfold rfE; rw [if_neg e1]
    have E1 : nmL q = srtB (kys q.nm) := by unfold nmL; rw [if_neg e1]
    rw [E] at hr
    rw [E1]
    obtain ⟨ks, fm, nb, sn, cv, fv, h1, h2, h3, h4⟩ := h
    have c2 := h1.cells.1.2.2.1
    have hlen : q.nm.length < 1000000 := by have := ok.nmL; omega
    obtain ⟨D, ho, hp, hsz⟩ := h1.nms.skeys
    have cS := callsIn_wide.1 (sortedK_c nb (Maps.size D) D slf w ho (by rw [hsz]; unfold maxLen; omega) (by omega))
    have cK := callsIn_wide.1 (keys_c (some nb) w)
    have FIN : Hid (∀ v (ss : List (List UInt8)) w', ss.Perm (strKeys D) → w'.ownsRow (w.alloc (.cells #[.map (some nb)] 60)).heap.size 9 1 v ss.length ((ss.mergeSort (fun x y => decide (x ≤ y))).map encStr) → Below (w.alloc (.cells #[.map (some nb)] 60)).heap.size (w.alloc (.cells #[.map (some nb)] 60)) w' → OwnT w' w.heap.size v (srtB (kys q.nm)) ∧ Gb w w') := fun v ss w' hS hrow hb => by
      have e : srtB (kys q.nm) = ss.mergeSort (fun x y => decide (x ≤ y)) := mergeSort_of_perm (hp.trans hS.symm)
      refine ⟨?_, gb_trans (gb_alloc (Below.refl _ _) _) hb⟩
      unfold OwnT
      rw [e, List.length_mergeSort]
      exact ownsRow_base_a hrow (by simp)
    clear h1 h2 h3 h4 ok E e1 E1 ho hp hsz hlen
    go_enter Try.func24, Try.ntmps24
    go_wp2_with fail
    refine hr.mono ?_
    rintro e w' ⟨rfl, rfl⟩
    go_wp2_with fail
    refine cK.mono ?_
    rintro e w' ⟨rfl, rfl⟩
    go_wp2_with fail
    refine cS.mono ?_
    rintro e w' ⟨v, ss, rfl, hS, hrow, _, hb⟩
    have R := FIN.out v ss w' hS hrow hb
    clear hrow FIN hb
    go_wp2
    go_ret
    exact ⟨v, rfl, R⟩
end Go.Proofs.Ytkagnoinifffdaa

/- survivors: the safe names, with the first changes since. -/
namespace Go.Proofs.Ytkagnoinifffdaa
open Go.RowKit Go.Lib Go.Maps

variable {w w' : World} {b : Nat} {q q' : Dq} {F G : Nat → Prop} {ks : List Int} {fm nb sn : Nat} {cv : Value} {fv : Int → Value}
theorem Kf.toGb2 {a : World} {b : Nat} (h : Kf (fun k => k = b) w w') (g : Gb a w) (hb : a.heap.size ≤ b) : Gb a w' := ⟨h.os.trans g.os, h.tape.trans g.tape, h.output.trans g.output, Nat.le_trans g.size h.size, fun k hk => (h.block k (Nat.lt_of_lt_of_le hk g.size) (fun e => by omega)).trans (g.block k hk)⟩
def apT (l : Nms) (ch : List (By × By × Int)) (i : Nat) : Nms := (ch.take i).foldl apC l
theorem apT_succ {l : Nms} {ch : List (By × By × Int)} {i : Nat} (hi : i < ch.length) : apT l ch (i + 1) = apC (apT l ch i) ch[i] := by
  unfold apT
  rw [List.take_succ_eq_append_getElem hi, List.foldl_append]; rfl
theorem apT_len (l : Nms) (ch : List (By × By × Int)) (i : Nat) : (apT l ch i).length ≤ l.length + i := by
  induction i with
  | zero => exact Nat.le_refl _
  | succ i ih =>
    by_cases h : i < ch.length
    · rw [apT_succ h]
      have := apC_len (apT l ch i) ch[i]
      omega
    · have e : apT l ch (i + 1) = apT l ch i := by unfold apT; rw [List.take_of_length_le (by omega), List.take_of_length_le (by omega)]
      rw [e]; omega
theorem mem_apT {l : Nms} {ch : List (By × By × Int)} {i : Nat} {p : By × Int} (h : p ∈ apT l ch i) : p ∈ l ∨ ∃ c ∈ ch, c.2.1 ≠ [] ∧ p = (c.2.1, c.2.2) := by
  induction i with
  | zero => exact .inl h
  | succ i ih =>
    by_cases hi : i < ch.length
    · rw [apT_succ hi] at h
      rcases mem_apC h with h | h
      · exact ih h
      · exact .inr ⟨ch[i], List.getElem_mem hi, h⟩
    · have e : apT l ch (i + 1) = apT l ch i := by unfold apT; rw [List.take_of_length_le (by omega), List.take_of_length_le (by omega)]
      rw [e] at h; exact ih h
def sur (q : Dq) (c : Int) : Nms := apT q.sf q.ch (shr c q.ch.length)
theorem ch_get (l : List (By × By × Int)) (i c : Nat) (hi : i < l.length) (hc : c < 3) : (l.flatMap chV)[i * 3 + c]? = (chV l[i])[c]? := by
  induction l generalizing i with
  | nil => exact absurd hi (Nat.not_lt_zero _)
  | cons a r ih =>
    have e : (a :: r).flatMap chV = chV a ++ r.flatMap chV := by simp
    rw [e]
    cases i with
    | zero =>
      rw [List.getElem?_append_left (by simp [chV]; omega)]
      simp
    | succ i =>
      rw [List.getElem?_append_right (by simp [chV]; omega)]
      have : (i + 1) * 3 + c - (chV a).length = i * 3 + c := by simp [chV]; omega
      rw [this, ih i (by simpa using hi)]
      simp
def svI (w : World) (q : Dq) (i : Nat) (W : World) : Prop := NmAt W w.heap.size (apT q.sf q.ch i) ∧ Gb w W
set_option maxHeartbeats 4000000 in
set_option maxRecDepth 100000 in
theorem survivors_c (h : DkM w b q F ks fm nb sn cv fv) (ok : q.Ok) (hst : q.st < 100000) (c : Int) (hc : -9223372036854775808 ≤ c ∧ c ≤ 9223372036854775807) :
    Calls Try.prog 53 #[.pointer (some ⟨b, 0, none⟩), .int .i64 c] w fun e w' => e = .returned (.map (some w.heap.size)) ∧ NmAt w' w.heap.size (sur q c) ∧ Gb w w' := by
  obtain ⟨⟨_, _, _, c3, c4, _, _⟩, _⟩ := h.cells
  have hb := h.lt
  have cM := cloneM_c h.sfs
  have SH : Hid (∀ W, Calls Try.prog 72 #[.int .i64 c, .int .i64 (q.ch.length : Int)] W fun e w' => e = .returned (.int .i64 (shr c q.ch.length : Int)) ∧ w' = W) := fun W => (share_c c q.ch.length W hc (by have := ok.sfL; omega)).mono fun e w' h => ⟨h.1, h.2.symm⟩
  have hle := shr_le c q.ch.length
  obtain ⟨ca, cc, ec⟩ := row_fm h.chs
  have hcap : q.ch.length ≤ cc := by
    rcases h.chs.2 with ⟨e, e0⟩ | ⟨g', cap', cur, e, _, _, h3, _⟩
    · omega
    · rw [ec] at e; injection e with e1 e2 e3; omega
  have EL : Hid (∀ i, (hi : i < q.ch.length) → ∃ g, ca = some ⟨g, 0, none⟩ ∧ ∀ W, Gb w W → W.cell? ⟨g, i * 3, none⟩ = some (.string (sb q.ch[i].1)) ∧ W.cell? ⟨g, i * 3 + 1, none⟩ = some (.string (sb q.ch[i].2.1)) ∧ W.cell? ⟨g, i * 3 + 2, none⟩ = some (.int .i64 q.ch[i].2.2)) := fun i hi => by
    have hch := h.chs
    rw [ec] at hch
    rcases id hch.2 with ⟨e, e0⟩ | ⟨g', cap', cur, e, _, _, h3, _⟩
    · omega
    · injection e with e1 e2 e3
      subst e1
      refine ⟨g', rfl, fun W g => ?_⟩
      have key : ∀ j u, (chV q.ch[i])[j]? = some u → j < 3 → W.cell? ⟨g', i * 3 + j, none⟩ = some u := fun j u hj hj3 => by
        have := World.ownsRow.cells hch (g := g') rfl (i * 3 + j) u (by rw [ch_get _ _ _ hi hj3]; exact hj)
        rw [Addr.add_lit, Nat.zero_add] at this
        exact gb_keeps g this
      exact ⟨key 0 _ rfl (by omega), key 1 _ rfl (by omega), key 2 _ rfl (by omega)⟩
  have AC : Hid (∀ i, (hi : i < q.ch.length) → ∀ W, svI w q i W → Calls Try.prog 73 #[.agg #[.string (sb q.ch[i].1), .string (sb q.ch[i].2.1), .int .i64 q.ch[i].2.2], .map (some w.heap.size)] W fun e w' => e = .returned (.tuple #[]) ∧ Hid (svI w q (i + 1) w')) := fun i hi W ⟨hN, g⟩ => by
    have hB := ok.chB q.ch[i] (List.getElem_mem hi)
    have hl := apT_len q.sf q.ch i
    have := ok.sfL
    refine (apply_c hN (by omega) q.ch[i] (kwf_small (by omega)) (kwf_small ?_)).mono ?_
    · by_cases e : q.ch[i].2.1 = []
      · rw [e]; exact Nat.zero_le _
      · have := (nmOk_len (hB.2 e)).2; omega
    · rintro e w' ⟨rfl, hN', kf⟩
      refine ⟨rfl, ?_, kf.toGb2 g (Nat.le_refl _)⟩
      rw [apT_succ hi]; exact hN'
  have HB : Hid (∀ W, Gb w W → W.cell? ⟨b, 4, none⟩ = some cv ∧ b < W.heap.size) := fun W g => ⟨gb_keeps g c4, Nat.lt_of_lt_of_le hb g.size⟩
  rw [ec] at c4 HB
  have SU : Hid (sur q c = apT q.sf q.ch (shr c q.ch.length)) := rfl
  have LN : Hid (shr c q.ch.length ≤ q.ch.length) := hle
  generalize shr c q.ch.length = k at *
  obtain ⟨m, hM⟩ : ∃ m, m = q.ch.length := ⟨_, rfl⟩
  have MM : Hid (m = q.ch.length) := hM
  rw [← hM] at hle hcap c4 HB SH
  have hm : m < 100000 := by have := ok.sfL; omega
  clear h ok hc ec hM hst
  go_enter Try.func53, Try.ntmps53
  go_wp2_with fail
  refine cM.mono ?_
  rintro e w1 ⟨rfl, hN, g1, _⟩
  have ST : Hid (svI w q 0 w1) := ⟨hN, g1⟩
  obtain ⟨d4, hb1⟩ := HB.out w1 g1
  clear cM hN c3 c4
  go_wp2
  go_quiet (first | (go_at_call 72; exact Calls.quiet_of_same (SH.out _)))
  go_wp2
  have ST2 : Hid (svI w q 0 (w1.drewN nq)) := ⟨ST.out.1.same (by rw [World.heap_drewN]), below_drewN ST.out.2 _⟩
  clear ST g1 d4 hb1
  go_loopw [26] (fun iv W => ∃ i : Nat, iv = .int .i64 (i : Int) ∧ i ≤ k ∧ Hid (svI w q i W)) (fun iv _ => k - (intOf iv).toNat)
  case atStart => exact ⟨0, rfl, Nat.zero_le _, ST2.out⟩
  case round =>
    clear ST2
    obtain ⟨i, rfl, hi, X⟩ := hrel
    by_cases hik : i < k
    · have hil : i < q.ch.length := by have := LN.out; omega
      have hii : (i : Int) < (k : Int) := by omega
      obtain ⟨g, rfl, hcl⟩ := EL.out i hil
      obtain ⟨e0, e1, e2⟩ := hcl _ X.out.2
      have cA := AC.out i hil (wr.alloc (.cells #[.string (sb q.ch[i].1), .string (sb q.ch[i].2.1), .int .i64 q.ch[i].2.2] 76)) ⟨X.out.1.same (Below.heap_alloc _ _ _ X.out.1.lt), gb_alloc X.out.2 _⟩
      generalize sb q.ch[i].1 = sx at *
      generalize sb q.ch[i].2.1 = sy at *
      generalize q.ch[i].2.2 = n at *
      have hgw := cell_lt e0
      clear AC EL HB SH
      go_wp2_with fail
      refine cA.mono ?_
      rintro e w3 ⟨rfl, R⟩
      go_wp2
      go_roundw
      case rel => exact ⟨i + 1, by simp, hik, R.out⟩
      case measure => simp [intOf]; omega
    · have e : i = k := by omega
      subst e
      have FIN : Hid (NmAt wr w.heap.size (sur q c) ∧ Gb w wr) := by
        unfold Hid
        rw [SU.out]; exact X.out
      have hii : ¬ (i : Int) < (i : Int) := by omega
      clear X AC EL HB SH
      go_wp2
      go_ret
      exact ⟨rfl, FIN.out⟩
end Go.Proofs.Ytkagnoinifffdaa
