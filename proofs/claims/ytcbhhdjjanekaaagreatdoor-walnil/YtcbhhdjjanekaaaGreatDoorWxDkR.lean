/- survivors: the safe names, with the first changes since. -/
import Derived.Test.YtcbhhdjjanekaaaGreatDoorWxDkI
namespace Go.Proofs.YtcbhhdjjanekaaaGreatDoor
open Go.RowKit Go.Lib Go.Maps

variable {w w' : World} {b : Nat} {q q' : Dq} {F G : Nat → Prop} {ks : List Int} {fm nb sn : Nat} {cv : Value} {fv : Int → Value}
theorem Kf.toGb2 {a : World} {b : Nat} (h : Kf (fun k => k = b) w w') (g : Gb a w) (hb : a.heap.size ≤ b) : Gb a w' := ⟨h.os.trans g.os, h.tape.trans g.tape, h.output.trans g.output, Nat.le_trans g.size h.size, fun k hk => (h.block k (Nat.lt_of_lt_of_le hk g.size) (fun e => by omega)).trans (g.block k hk)⟩
def apT (l : Nms) (ch : List (By × By × Int)) (i : Nat) : Nms := (ch.take i).foldl apC l
theorem apT_succ {l : Nms} {ch : List (By × By × Int)} {i : Nat} (hi : i < ch.length) : apT l ch (i + 1) = apC (apT l ch i) ch[i] := by
  unfold apT
  rw [List.take_succ_eq_append_getElem hi, List.foldl_append]; rfl
theorem apT_len (l : Nms) (ch : List (By × By × Int)) (i : Nat) : (apT l ch i).length ≤ l.length + i := by
  induction i with
  | zero => exact Nat.le_refl _
  | succ i ih =>
    by_cases h : i < ch.length
    · rw [apT_succ h]
      have := apC_len (apT l ch i) ch[i]
      omega
    · have e : apT l ch (i + 1) = apT l ch i := by unfold apT; rw [List.take_of_length_le (by omega), List.take_of_length_le (by omega)]
      rw [e]; omega
theorem mem_apT {l : Nms} {ch : List (By × By × Int)} {i : Nat} {p : By × Int} (h : p ∈ apT l ch i) : p ∈ l ∨ ∃ c ∈ ch, c.2.1 ≠ [] ∧ p = (c.2.1, c.2.2) := by
  induction i with
  | zero => exact .inl h
  | succ i ih =>
    by_cases hi : i < ch.length
    · rw [apT_succ hi] at h
      rcases mem_apC h with h | h
      · exact ih h
      · exact .inr ⟨ch[i], List.getElem_mem hi, h⟩
    · have e : apT l ch (i + 1) = apT l ch i := by unfold apT; rw [List.take_of_length_le (by omega), List.take_of_length_le (by omega)]
      rw [e] at h; exact ih h
def sur (q : Dq) (c : Int) : Nms := apT q.sf q.ch (shr c q.ch.length)
theorem ch_get (l : List (By × By × Int)) (i c : Nat) (hi : i < l.length) (hc : c < 3) : (l.flatMap chV)[i * 3 + c]? = (chV l[i])[c]? := by
  induction l generalizing i with
  | nil => exact absurd hi (Nat.not_lt_zero _)
  | cons a r ih =>
    have e : (a :: r).flatMap chV = chV a ++ r.flatMap chV := by simp
    rw [e]
    cases i with
    | zero =>
      rw [List.getElem?_append_left (by simp [chV]; omega)]
      simp
    | succ i =>
      rw [List.getElem?_append_right (by simp [chV]; omega)]
      have : (i + 1) * 3 + c - (chV a).length = i * 3 + c := by simp [chV]; omega
      rw [this, ih i (by simpa using hi)]
      simp
def svI (w : World) (q : Dq) (i : Nat) (W : World) : Prop := NmAt W w.heap.size (apT q.sf q.ch i) ∧ Gb w W
set_option maxHeartbeats 4000000 in
set_option maxRecDepth 100000 in
theorem survivors_c (h : DkM w b q F ks fm nb sn cv fv) (ok : q.Ok) (hst : q.st < 100000) (c : Int) (hc : -9223372036854775808 ≤ c ∧ c ≤ 9223372036854775807) :
    Calls Tryz.prog 33 #[.pointer (some ⟨b, 0, none⟩), .int .i64 c] w fun e w' => e = .returned (.map (some w.heap.size)) ∧ NmAt w' w.heap.size (sur q c) ∧ Gb w w' := by
  obtain ⟨⟨_, _, _, c3, c4, _, _⟩, _⟩ := h.cells
  have hb := h.lt
  have cM := cloneM_c h.sfs
  have SH : Hid (∀ W, Calls Tryz.prog 57 #[.int .i64 c, .int .i64 (q.ch.length : Int)] W fun e w' => e = .returned (.int .i64 (shr c q.ch.length : Int)) ∧ w' = W) := fun W => (share_c c q.ch.length W hc (by have := ok.sfL; omega)).mono fun e w' h => ⟨h.1, h.2.symm⟩
  have hle := shr_le c q.ch.length
  obtain ⟨ca, cc, ec⟩ := row_fm h.chs
  have hcap : q.ch.length ≤ cc := by
    rcases h.chs.2 with ⟨e, e0⟩ | ⟨g', cap', cur, e, _, _, h3, _⟩
    · omega
    · rw [ec] at e; injection e with e1 e2 e3; omega
  have EL : Hid (∀ i, (hi : i < q.ch.length) → ∃ g, ca = some ⟨g, 0, none⟩ ∧ ∀ W, Gb w W → W.cell? ⟨g, i * 3, none⟩ = some (.string (sb q.ch[i].1)) ∧ W.cell? ⟨g, i * 3 + 1, none⟩ = some (.string (sb q.ch[i].2.1)) ∧ W.cell? ⟨g, i * 3 + 2, none⟩ = some (.int .i64 q.ch[i].2.2)) := fun i hi => by
    have hch := h.chs
    rw [ec] at hch
    rcases id hch.2 with ⟨e, e0⟩ | ⟨g', cap', cur, e, _, _, h3, _⟩
    · omega
    · injection e with e1 e2 e3
      subst e1
      refine ⟨g', rfl, fun W g => ?_⟩
      have key : ∀ j u, (chV q.ch[i])[j]? = some u → j < 3 → W.cell? ⟨g', i * 3 + j, none⟩ = some u := fun j u hj hj3 => by
        have := World.ownsRow.cells hch (g := g') rfl (i * 3 + j) u (by rw [ch_get _ _ _ hi hj3]; exact hj)
        rw [Addr.add_lit, Nat.zero_add] at this
        exact gb_keeps g this
      exact ⟨key 0 _ rfl (by omega), key 1 _ rfl (by omega), key 2 _ rfl (by omega)⟩
  have AC : Hid (∀ i, (hi : i < q.ch.length) → ∀ W, svI w q i W → Calls Tryz.prog 58 #[.agg #[.string (sb q.ch[i].1), .string (sb q.ch[i].2.1), .int .i64 q.ch[i].2.2], .map (some w.heap.size)] W fun e w' => e = .returned (.tuple #[]) ∧ Hid (svI w q (i + 1) w')) := fun i hi W ⟨hN, g⟩ => by
    have hB := ok.chB q.ch[i] (List.getElem_mem hi)
    have hl := apT_len q.sf q.ch i
    have := ok.sfL
    refine (apply_c hN (by omega) q.ch[i] (kwf_small (by omega)) (kwf_small ?_)).mono ?_
    · by_cases e : q.ch[i].2.1 = []
      · rw [e]; exact Nat.zero_le _
      · have := (nmOk_len (hB.2 e)).2; omega
    · rintro e w' ⟨rfl, hN', kf⟩
      refine ⟨rfl, ?_, kf.toGb2 g (Nat.le_refl _)⟩
      rw [apT_succ hi]; exact hN'
  have HB : Hid (∀ W, Gb w W → W.cell? ⟨b, 4, none⟩ = some cv ∧ b < W.heap.size) := fun W g => ⟨gb_keeps g c4, Nat.lt_of_lt_of_le hb g.size⟩
  rw [ec] at c4 HB
  have SU : Hid (sur q c = apT q.sf q.ch (shr c q.ch.length)) := rfl
  have LN : Hid (shr c q.ch.length ≤ q.ch.length) := hle
  generalize shr c q.ch.length = k at *
  obtain ⟨m, hM⟩ : ∃ m, m = q.ch.length := ⟨_, rfl⟩
  have MM : Hid (m = q.ch.length) := hM
  rw [← hM] at hle hcap c4 HB SH
  have hm : m < 100000 := by have := ok.sfL; omega
  clear h ok hc ec hM hst
  go_enter Tryz.func33, Tryz.ntmps33
  go_wp2_with fail
  refine cM.mono ?_
  rintro e w1 ⟨rfl, hN, g1, _⟩
  have ST : Hid (svI w q 0 w1) := ⟨hN, g1⟩
  obtain ⟨d4, hb1⟩ := HB.out w1 g1
  clear cM hN c3 c4
  go_wp2
  go_quiet (first | (go_at_call 57; exact Calls.quiet_of_same (SH.out _)))
  go_wp2
  have ST2 : Hid (svI w q 0 (w1.drewN nq)) := ⟨ST.out.1.same (by rw [World.heap_drewN]), below_drewN ST.out.2 _⟩
  clear ST g1 d4 hb1
  go_loopw [26] (fun iv W => ∃ i : Nat, iv = .int .i64 (i : Int) ∧ i ≤ k ∧ Hid (svI w q i W)) (fun iv _ => k - (intOf iv).toNat)
  case atStart => exact ⟨0, rfl, Nat.zero_le _, ST2.out⟩
  case round =>
    clear ST2
    obtain ⟨i, rfl, hi, X⟩ := hrel
    by_cases hik : i < k
    · have hil : i < q.ch.length := by have := LN.out; omega
      have hii : (i : Int) < (k : Int) := by omega
      obtain ⟨g, rfl, hcl⟩ := EL.out i hil
      obtain ⟨e0, e1, e2⟩ := hcl _ X.out.2
      have cA := AC.out i hil (wr.alloc (.cells #[.string (sb q.ch[i].1), .string (sb q.ch[i].2.1), .int .i64 q.ch[i].2.2] 98)) ⟨X.out.1.same (Below.heap_alloc _ _ _ X.out.1.lt), gb_alloc X.out.2 _⟩
      generalize sb q.ch[i].1 = sx at *
      generalize sb q.ch[i].2.1 = sy at *
      generalize q.ch[i].2.2 = n at *
      have hgw := cell_lt e0
      clear AC EL HB SH
      go_wp2_with fail
      refine cA.mono ?_
      rintro e w3 ⟨rfl, R⟩
      go_wp2
      go_roundw
      case rel => exact ⟨i + 1, by simp, hik, R.out⟩
      case measure => simp [intOf]; omega
    · have e : i = k := by omega
      subst e
      have FIN : Hid (NmAt wr w.heap.size (sur q c) ∧ Gb w wr) := by
        unfold Hid
        rw [SU.out]; exact X.out
      have hii : ¬ (i : Int) < (i : Int) := by omega
      clear X AC EL HB SH
      go_wp2
      go_ret
      exact ⟨rfl, FIN.out⟩
end Go.Proofs.YtcbhhdjjanekaaaGreatDoor
