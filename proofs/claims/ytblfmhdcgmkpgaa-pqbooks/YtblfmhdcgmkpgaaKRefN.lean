/- The reference's Train and Same. -/
import Derived.Test.YtblfmhdcgmkpgaaKRefT
import Derived.Test.YtblfmhdcgmkpgaaRnRefP
import Derived.Test.YtblfmhdcgmkpgaaKTrain
namespace Go.Proofs.Ytblfmhdcgmkpgaa
open Go.RowKit Go.Maps Go.Shelf

set_option maxRecDepth 100000 in
set_option maxHeartbeats 1000000 in
theorem rtrain_no {w : World} {lv : Value} {l : Vs} (hl : RdV w lv l) (k r x : Int) (hz : trainE l k r ≠ 0) :
    Calls Try.prog 31 #[lv, .int .i64 k, .int .i64 r, .int .u64 x] w fun e w' => e = .returned (.tuple #[.slice none 0 0, .int .i64 (trainE l k r)]) ∧ Gb w w' := by
  have ce := rtrainE_c hl k r
  have hz' : (trainE l k r == 0) = false := by rw [beq_eq_false_iff_ne]; exact hz
  obtain ⟨al, cl, rfl, _⟩ := hl
  generalize l.length = n at *
  generalize trainE l k r = z at *
  go_enter Try.func31, Try.ntmps31
  go_wp2_with fail
  go_fit ce
  rintro e w1 ⟨rfl, g1⟩
  go_wp2
  exact bodyPost_ret (v := .tuple #[.slice none 0 0, .int .i64 z]) (by simp [results, Try.results31, go_sem]) rfl ⟨rfl, by first | exact g1.gb | exact g1 | (subst g1; exact Below.refl _ _)⟩

set_option maxRecDepth 100000 in
set_option maxHeartbeats 1000000 in
theorem rtrain_ok {P : Nat → Prop} {w : World} {lv : Value} {l : Vs} (hP : ∀ b, w.heap.size ≤ b → P b) (hl : RdVP P w lv l) {k r : Nat} (x : Int) (hz : trainE l (k : Int) (r : Int) = 0) :
    Calls Try.prog 31 #[lv, .int .i64 (k : Int), .int .i64 (r : Int), .int .u64 x] w fun e w' => ∃ v', e = .returned (.tuple #[v', .int .i64 0]) ∧ RdVP P w' v' (trainV l k r x) ∧ Gb w w' := by
  have HP : Hid (∀ b, w.heap.size ≤ b → P b) := hP
  have ce := rtrainE_c hl.rd (k : Int) (r : Int)
  rw [hz] at ce
  clear hP
  have L : Hid (RdVP P w lv l) := hl
  obtain ⟨h1, h2, h3, h4⟩ := trainE_zero.1 hz
  have TO : Hid (∀ q, VsOk (roundsV l (drawnV l k x) q) (l[0]!.length : Int) ∧ (roundsV l (drawnV l k x) q).length = k) := fun q => by have := (train_ok hz x q).2; simpa using this
  have LO : Hid (VsOk l (l[0]!.length : Int) ∧ l.length ≤ 512 ∧ 1 ≤ l[0]!.length) := ⟨h4, h2, (h4.get (i := 0) (by omega)).1⟩
  have PE : Hid (Rn.Per l.length (Rn.pS x l.length (l.length - 1))) := Rn.per_pS x l.length (l.length - 1) (Nat.le_refl _)
  have DG : Hid (∀ i, i < k → (drawnV l k x)[i]! = l[(Rn.pS x l.length (l.length - 1) i).toNat]!) := fun i hi => drawnV_get l x hi
  obtain ⟨al, cl, rfl, _⟩ := hl
  obtain ⟨j0, hj0, hy0, hy1, hy2⟩ := info_parts' Try.infoV
  have JJ : Hid (Try.prog.info? 40 = some j0 ∧ j0.zero = some (.slice none 0 0) ∧ j0.size = 1 ∧ j0.bytes = 24) := ⟨hj0, hy0, hy1, hy2⟩
  obtain ⟨n, hN⟩ : ∃ n, n = l.length := ⟨_, rfl⟩
  have NN : Hid (n = l.length) := hN
  have hkn : k ≤ n := by omega
  have hnb : n ≤ 512 := by omega
  have hk64 : k ≤ 64 := by omega
  have hk1 : 1 ≤ k := by omega
  have hr20 : r ≤ 20 := by omega
  rw [← hN] at L PE DG ce ⊢
  clear hN h1 h2 h3 h4 hz hj0 hy0 hy1 hy2
  go_enter Try.func31, Try.ntmps31
  go_wp2_with fail
  go_fit ce
  rintro e w1 ⟨rfl, g1⟩
  have G1 : Hid (Gb w w1) := by first | exact g1.gb | exact g1 | (subst g1; exact Below.refl _ _)
  obtain ⟨W1, hW1⟩ : ∃ W1, W1 = w1.alloc (.cells #[.int .u64 x] 86) := ⟨_, rfl⟩
  have BX : Boxed W1 w1.heap.size 86 (.int .u64 x) := by rw [hW1]; exact Boxed.new w1 _ _
  have GW1 : Hid (Gb w W1) := by unfold Hid; rw [hW1]; exact gb_alloc G1.out _
  have cp := Rn.rperm_ok w1.heap.size n x W1 BX (by omega)
  clear ce g1 BX
  go_wp2_with fail
  rw [← hW1]
  clear hW1
  go_fit cp
  rintro e w2 ⟨pv, rfl, ⟨pp, pcap, rfl, hp⟩, _, hg, _⟩
  have G2 : Hid (Gb w w2) := below_grown GW1.out hg (fun j e => by cases e; exact G1.out.size) GW1.out.size
  obtain ⟨gp, epp, AP⟩ : ∃ g, pp = some ⟨g, 0, none⟩ ∧ Rn.Arr w2 g n pcap (Rn.pS x n (n - 1)) := by
    rcases hp with h | h
    · omega
    · exact h
  subst epp
  have PA : Hid (Rn.Arr w2 gp n pcap (Rn.pS x n (n - 1))) := AP
  clear cp hg hp AP
  go_wp2
  go_loopw [14, 15] (fun cv iv W => ∃ p : Nat, iv = .int .i64 (p : Int) ∧ p ≤ k ∧ Hid (Gb w2 W ∧ OwnV P w W w2.heap.size cv ((drawnV l k x).take p))) (fun _ iv _ => k - (intOf iv).toNat)
  case atStart => exact ⟨0, rfl, Nat.zero_le _, Below.refl _ _, by rw [List.take_zero]; exact ownV_nil _ _ _ _⟩
  case round =>
    obtain ⟨p, rfl, hp, X⟩ := hrel
    by_cases hpk : p < k
    · have hpi : (p : Int) < (k : Int) := by omega
      have hpn : (p : Int) < (n : Int) := by omega
      have PB := PE.out.1 p (by omega)
      obtain ⟨j, hj⟩ : ∃ j : Nat, Rn.pS x n (n - 1) p = (j : Int) := ⟨(Rn.pS x n (n - 1) p).toNat, by omega⟩
      have c0 := (arr_gb PA.out X.out.1).cell (i := p) (by omega)
      rw [hj] at c0 PB
      have hjn : j < n := by omega
      have hji : (j : Int) < (n : Int) := by omega
      obtain ⟨_, _, ev, hA⟩ := L.out
      obtain ⟨b, o, ur, ea, _, k1, k2⟩ := hA j (by have := NN.out; omega)
      injection ev with ev1 ev2 ev3
      subst ev1
      subst ea
      have k1 := gb_keeps (gb_trans G2.out X.out.1) k1
      have DJ : Hid ((drawnV l k x)[p]! = l[j]!) := by unfold Hid; rw [DG.out p hpk, hj]; simp
      have R2 : Hid (RdIP P w ur l[j]!) := k2
      obtain ⟨pu, cu, eu, _⟩ := k2
      subst eu
      have CL2 : Hid ((drawnV l k x).take (p + 1) = (drawnV l k x).take p ++ [(drawnV l k x)[p]!] ∧ ((drawnV l k x).take p).length = p) := by
        have hl : p < (drawnV l k x).length := by rw [drawnV_len]; exact hpk
        exact ⟨by rw [List.take_succ_eq_append_getElem hl, getElem!_pos (drawnV l k x) p hl], by rw [List.length_take]; omega⟩
      generalize l[j]!.length = nj at *
      obtain ⟨xs, hown, hcells⟩ := X.out.2
      rw [CL2.out.2] at hown
      have HC : Hid (∀ i, i < ((drawnV l k x).take p).length → ∃ u, xs[i]? = some u ∧ RdZ P w wr u ((drawnV l k x).take p)[i]!) := hcells
      have GA : Hid (Gb w2 wr) := X.out.1
      clear hcells hA ev2 ev3 PB hj X
      go_wp2_with (first
        | (at_builtin; refine wpList_append_own_at _ rfl _ _ 22 rfl w2.heap.size 40 j0 (.slice none 0 0) 1 24 Try.underlying22 JJ.out.1 JJ.out.2.1 JJ.out.2.2.1 JJ.out.2.2.2 rfl (by decide) u14 p xs rfl (hown.alloc _) ⟨wr.heap.size, 0, none⟩ 1 1 [.slice pu nj cu] rfl rfl (cell_one_new _ _ _) (by simp [Value.oneCell']) (by simp only [maxLen]; omega) (by omega) (by have h2 := GA.out.size; simp; omega) ?_; intro v5 w5 hown5 hgrow5 hnil5 hloc5)
        | go_in)
      have XN : Hid (Gb w2 w5 ∧ OwnV P w w5 w2.heap.size v5 ((drawnV l k x).take (p + 1))) := by
        have G5 : Gb w2 w5 := below_grown (gb_alloc GA.out _) hgrow5 (fun j e => (hown.lt j e).1) (gb_alloc GA.out _).size
        refine ⟨G5, ?_⟩
        rw [CL2.out.1]
        have kp : ∀ u x, RdZ P w wr u x → RdZ P w w5 u x := fun u x r => (r.gb (gb_alloc (Below.refl _ _) _)).kept hgrow5 (fun k cur e => row_type hown k cur e)
        refine OwnV.push (xs := xs) (fun i hi => ?_) (by have := hown.1; rw [CL2.out.2]; omega) (u := .slice pu nj cu) ?_ (by rw [CL2.out.2]; exact hown5)
        · obtain ⟨u, e, r⟩ := HC.out i hi
          exact ⟨u, e, kp u _ r⟩
        · rw [DJ.out]; exact .inl R2.out
      clear hown hown5 hgrow5 hnil5 hloc5
      go_roundw
      case rel => exact ⟨p + 1, by first | rfl | go_num | simp, hpk, XN⟩
      case measure => simp [intOf]; omega
    · have hpi : ¬ (p : Int) < (k : Int) := by omega
      have XE : Hid (Gb w wr ∧ RdVP P wr u14 (roundsV l (drawnV l k x) 0)) := by
        have h := X.out
        rw [List.take_of_length_le (by rw [drawnV_len]; omega)] at h
        have G := gb_trans G2.out h.1
        exact ⟨G, h.2.rd G (fun b hb => HP.out b (Nat.le_trans G2.out.size hb))⟩
      clear X
      go_wp2
      go_loopw [14, 16] (fun cv iv W => ∃ q : Nat, iv = .int .i64 (q : Int) ∧ q ≤ r ∧ Hid (Gb w W ∧ RdVP P W cv (roundsV l (drawnV l k x) q))) (fun _ iv _ => r - (intOf iv).toNat)
      case atStart => exact ⟨0, rfl, Nat.zero_le _, XE⟩
      case round =>
        clear XE
        obtain ⟨q, rfl, hq, X⟩ := hrel
        by_cases hqr : q < r
        · have hqi : (q : Int) < (r : Int) := by omega
          have cr := rround_c (fun b hb => HP.out b (Nat.le_trans X.out.1.size hb)) X.out.2 (L.out.rd.gb X.out.1) (TO.out q).1 LO.out.1 (by rw [(TO.out q).2]; exact hk1) (by rw [(TO.out q).2]; exact hk64) LO.out.2.1 LO.out.2.2
          go_wp2_with fail
          go_fit cr
          rintro e w5 ⟨v5, rfl, r5, g5⟩
          have XN : Hid (Gb w w5 ∧ RdVP P w5 v5 (roundsV l (drawnV l k x) (q + 1))) := ⟨gb_trans X.out.1 g5, r5⟩
          clear cr r5 g5 X
          go_wp2
          go_roundw
          case rel => exact ⟨q + 1, by first | rfl | go_num | simp, hqr, XN⟩
          case measure => simp [intOf]; omega
        · have hqi : ¬ (q : Int) < (r : Int) := by omega
          have XE : Hid (Gb w wr ∧ RdVP P wr u14 (trainV l k r x)) := by
            have h := X.out
            rw [show q = r by omega] at h
            exact h
          clear X
          go_wp2
          exact bodyPost_ret (v := .tuple #[u14, .int .i64 0]) (by simp [results, Try.results31, go_sem]) rfl ⟨u14, rfl, XE.out.2, XE.out.1⟩
end Go.Proofs.Ytblfmhdcgmkpgaa
