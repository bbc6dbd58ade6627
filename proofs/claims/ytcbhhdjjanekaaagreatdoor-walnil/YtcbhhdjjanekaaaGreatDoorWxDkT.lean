/- Crash. -/
import Derived.Test.YtcbhhdjjanekaaaGreatDoorWxDkQ
import Derived.Test.YtcbhhdjjanekaaaGreatDoorWxDkLf
import Derived.Test.YtcbhhdjjanekaaaGreatDoorWxDkR
namespace Go.Proofs.YtcbhhdjjanekaaaGreatDoor
open Go.RowKit Go.Lib Go.Maps

variable {w w' : World} {b : Nat} {q q' : Dq} {F G : Nat → Prop} {ks : List Int} {fm nb sn : Nat} {cv : Value} {fv : Int → Value}
/-- The files behind a crash, file by file. -/
def crT (nm : Nms) (L : List By) (cs : List Int) (fb : Int → By) (fs : Int → Nat) : Nat → (Int → By) × (Int → Nat)
  | 0 => (fb, fs)
  | i + 1 => (upd (crT nm L cs fb fs i).1 (num nm L[i]!) (crB ((crT nm L cs fb fs i).1 (num nm L[i]!)) ((crT nm L cs fb fs i).2 (num nm L[i]!)) (chc cs (i + 1))),
      upd (crT nm L cs fb fs i).2 (num nm L[i]!) (crN ((crT nm L cs fb fs i).1 (num nm L[i]!)) ((crT nm L cs fb fs i).2 (num nm L[i]!)) (chc cs (i + 1))))
def crO (q : Dq) (cs : List Int) : Nms := sur q (chc cs 0)
def crQ (q : Dq) (cs : List Int) (i : Nat) : Dq := { q with lf := -1, nm := crO q cs, fb := (crT (crO q cs) (srtB (kys (crO q cs))) cs q.fb q.fs i).1, fs := (crT (crO q cs) (srtB (kys (crO q cs))) cs q.fb q.fs i).2 }
def Dq.crash (q : Dq) (cs : List Int) : Dq := (crQ q cs (srtB (kys (crO q cs))).length).settle
theorem crT_ok (nm : Nms) (L : List By) (cs : List Int) {fb : Int → By} {fs : Int → Nat} (h1 : ∀ n, (fb n).length ≤ 4194304) (h2 : ∀ n, fs n ≤ (fb n).length) (i : Nat) :
    (∀ n, ((crT nm L cs fb fs i).1 n).length ≤ 4194304) ∧ ∀ n, (crT nm L cs fb fs i).2 n ≤ ((crT nm L cs fb fs i).1 n).length := by
  induction i with
  | zero => exact ⟨h1, h2⟩
  | succ i ih =>
    obtain ⟨a, c⟩ := ih
    have e := crB_len (chc cs (i + 1)) (c (num nm L[i]!))
    have e2 := crN_le (chc cs (i + 1)) (c (num nm L[i]!))
    have a' := a (num nm L[i]!)
    refine ⟨fun n => ?_, fun n => ?_⟩
    · show List.length (upd (α := By) _ _ _ n) ≤ _
      unfold upd; split
      · rw [e]; omega
      · exact a n
    · show upd (α := Nat) _ _ _ n ≤ List.length (upd (α := By) _ _ _ n)
      unfold upd; split
      · rw [e]; exact Nat.le_refl _
      · exact c n
theorem Dq.Ok.crQ (h : q.Ok) (cs : List Int) (i : Nat) : (crQ q cs i).Ok := by
  obtain ⟨a, c⟩ := crT_ok (crO q cs) (srtB (kys (crO q cs))) cs h.fb h.fs i
  refine ⟨h.room, by show (-1 : Int) ≤ -1 ∧ (-1 : Int) ≤ _; omega, fun p hp => ?_, h.sfB, h.chB, a, c, ?_, h.sfL⟩
  · rcases mem_apT hp with hp | ⟨d, hd, hne, rfl⟩
    · exact h.sfB p hp
    · exact (h.chB d hd).2 hne
  · have h1 := apT_len q.sf q.ch (shr (chc cs 0) q.ch.length)
    have h2 := shr_le (chc cs 0) q.ch.length
    have h3 := h.sfL
    show (apT q.sf q.ch (shr (chc cs 0) q.ch.length)).length ≤ q.st
    omega
theorem Dq.Ok.crash (h : q.Ok) (cs : List Int) : (q.crash cs).Ok := (h.crQ cs _).settle

theorem chc_in {cs : List Int} (h : ∀ x ∈ cs, InR x) (i : Nat) : InR (chc cs i) := by
  unfold chc
  split
  · rename_i hi
    rw [getElem!_pos cs i hi]; exact h _ (List.getElem_mem hi)
  · exact ⟨by decide, by decide⟩
def craI (w : World) (b : Nat) (q : Dq) (cs : List Int) (F : Nat → Prop) (ks : List Int) (fm nb sn : Nat) (cv : Value) (nv : Value) (i : Nat) (W : World) : Prop :=
  ∃ fv, DkM W b (crQ q cs i) (Wn F w) ks fm nb sn cv fv ∧ Kf F w W ∧ OwnT W 0 nv (srtB (kys (crO q cs)))
theorem encStr_get {l : List By} {i : Nat} (hi : i < l.length) : (l.map encStr)[i]? = some (.string (sb l[i]!)) := by
  rw [List.getElem?_map, List.getElem?_eq_getElem hi, getElem!_pos l i hi]; rfl
theorem Kf.drewN (h : Kf F w w') (n : Nat) : Kf F w (w'.drewN n) := ⟨h.os, h.tape, h.output, h.size, h.block⟩
set_option maxHeartbeats 4000000 in
set_option maxRecDepth 100000 in
theorem crash_c (h : DkAt w b q F) (ok : q.Ok) (hst : q.st < 100000) {v : Value} {cs : List Int} (hcs : ∀ x ∈ cs, InR x) (hR : ∀ W, Kf F w W → RdI W v cs) :
    Calls Tryz.prog 14 #[.pointer (some ⟨b, 0, none⟩), v] w fun e w' => e = .returned (.int .i64 0) ∧ DkOut w w' b (q.crash cs) F := by
  have hn := none_c h ok
  obtain ⟨ks, fm, nb, sn, cv, fv, h1, h2, h3, h4⟩ := h
  obtain ⟨⟨_, _, _, _, _, _, c6⟩, fz⟩ := h1.cells
  have f6 := fz 6
  have hb := h1.lt
  have hks : ks.length < 900000 := by omega
  -- ahead of the loop
  have e6 : (w.setCell ⟨b, 6, none⟩ (.int .i64 (-1))).heap.size = w.heap.size := World.size_setCell _ _ _
  have k0 : Kf F w (w.setCell ⟨b, 6, none⟩ (.int .i64 (-1))) := Kf.set (Kf.refl _ _) (fun _ => h1.inF.1) _
  have hX : DkM (w.setCell ⟨b, 6, none⟩ (.int .i64 (-1))) b { q with lf := -1 } F ks fm nb sn cv fv := by
    refine h1.mvB (fun k _ _ hk => ?_) rfl rfl rfl rfl rfl ?_
    · rw [Below.heap_setCell _ _ _ _ hk]
    · rw [heap_set0 h1.blk]; rfl
  have okX : ({ q with lf := -1 } : Dq).Ok := ⟨ok.room, by show (-1 : Int) ≤ -1 ∧ (-1 : Int) ≤ _; omega, ok.nmB, ok.sfB, ok.chB, ok.fb, ok.fs, ok.nmL, ok.sfL⟩
  have cC := choice_c (hR _ k0) 0
  have cS := survivors_c hX okX hst (chc cs 0) (chc_in hcs 0)
  rw [e6] at cS
  have A1 : Hid (∀ W1, NmAt W1 w.heap.size (sur q (chc cs 0)) → Gb (w.setCell ⟨b, 6, none⟩ (.int .i64 (-1))) W1 → W1.cell? ⟨b, 2, none⟩ = some (.map (some nb)) ∧ W1.frozen? ⟨b, 2, none⟩ = false ∧ b < W1.heap.size ∧
      (∃ fv, DkM (W1.setCell ⟨b, 2, none⟩ (.map (some w.heap.size))) b (crQ q cs 0) (Wn F w) ks fm w.heap.size sn cv fv ∧ Kf F w (W1.setCell ⟨b, 2, none⟩ (.map (some w.heap.size))))) := fun W1 hN g => by
    have hY := (hX.kp (w' := W1) (G := F) (fun k hk _ => g.block k hk) (fun _ f _ => f))
    obtain ⟨⟨_, _, d2, _, _, _, _⟩, dz⟩ := hY.cells
    refine ⟨d2, dz 2, hY.lt, fv, ?_, ?_⟩
    · obtain ⟨n1, n2, n3, n4, n5⟩ := hY.neB
      have sm : ∀ k, k ≠ b → (W1.setCell ⟨b, 2, none⟩ (.map (some w.heap.size))).heap[k]? = W1.heap[k]? := fun k e => Below.heap_setCell _ _ _ _ e
      have hnw : w.heap.size ≠ b := by omega
      have hfm : fm < w.heap.size := h1.fls.lt
      have hsn : sn < w.heap.size := h1.sfs.lt
      refine ⟨?_, hY.fls.same (sm _ n1), hN.same (sm _ hnw), hY.sfs.same (sm _ n3), row_same hY.chs fun k e => sm k (n4 k e), fun n hn => row_same (hY.own n hn) fun k e => sm k (n5 n hn k e), fun n hn k e => .inl (hY.ownF n hn k e), hY.ownD, fun k e => .inl (hY.chF k e), ⟨.inl hY.inF.1, .inl hY.inF.2.1, .inr (Nat.le_refl _), .inl hY.inF.2.2.2⟩, ⟨by omega, hY.fd.2.1, by omega⟩, fun p hp => ?_, hY.sfK, hY.chK⟩
      · rw [heap_set0 hY.blk]; rfl
      · rcases mem_apT hp with hp | ⟨d, hd, hne, rfl⟩
        · exact h1.sfK p hp
        · exact h1.chK d hd hne
    · exact (k0.then (Kf.gb g F) fun _ _ h => h).set (fun _ => h1.inF.1) _
  have okC := fun i => ok.crQ cs i
  have hNM : (crQ q cs 0).lf ≠ 0 := by show (-1 : Int) ≠ 0; decide
  have eNM : nmL (crQ q cs 0) = srtB (kys (crO q cs)) := by unfold nmL; rw [if_neg hNM]; rfl
  have A2 : Hid (∀ W2, (∃ fv, DkM W2 b (crQ q cs 0) (Wn F w) ks fm w.heap.size sn cv fv ∧ Kf F w W2) → Calls Tryz.prog 25 #[.pointer (some ⟨b, 0, none⟩)] W2 fun e w' => ∃ v, e = .returned v ∧ Hid (craI w b q cs F ks fm w.heap.size sn cv v 0 w')) := fun W2 ⟨fv, hD, kf⟩ => by
    have hAt : DkAt W2 b (crQ q cs 0) (fun k => Wn F w k ∧ k < W2.heap.size) := ⟨ks, fm, w.heap.size, sn, cv, fv, hD.kp (fun _ _ _ => rfl) (fun k f g => ⟨f, g⟩), h2, h3, fun k h => h.2⟩
    refine (names_c hAt (okC 0) hst).mono ?_
    rintro e w3 ⟨v, rfl, hT, g3⟩
    rw [eNM] at hT
    refine ⟨v, rfl, fv, hD.kp (fun k hk _ => g3.block k hk) (fun _ f _ => f), kf.then (Kf.gb g3 F) fun _ _ h => h, ?_⟩
    unfold OwnT at hT ⊢
    exact ownsRow_base_a hT (Nat.zero_le _)
  have A3 : Hid (∀ (na : Option Addr) (nc : Nat) (i : Nat) (W : World), i < (srtB (kys (crO q cs))).length → craI w b q cs F ks fm w.heap.size sn cv (.slice na (srtB (kys (crO q cs))).length nc) i W →
      ∃ (g : Nat) (S : ByteArray) (n c : Int) (fa : Option Addr) (fl fc s : Nat), na = some ⟨g, 0, none⟩ ∧ W.cell? ⟨g, i, none⟩ = some (.string S) ∧ W.cell? ⟨b, 1, none⟩ = some (.map (some fm)) ∧ W.cell? ⟨b, 2, none⟩ = some (.map (some w.heap.size)) ∧ b < W.heap.size ∧
        (Instr.lookup 64 (.map (some w.heap.size)) (.string S) false).run Tryz.prog W = .ok (.int .i64 n) W ∧ (∀ X, Gb W X → (Instr.lookup 63 (.map (some fm)) (.int .i64 n) false).run Tryz.prog X = .ok (.agg #[.slice fa fl fc, .int .i64 (s : Int)]) X) ∧
        Hid (∀ X, Gb W X → Calls Tryz.prog 34 #[v, .int .i64 ((i + 1 : Nat) : Int)] X fun e w' => e = .returned (.int .i64 c) ∧ w' = X) ∧
        Hid (∀ X, Gb W X → Calls Tryz.prog 35 #[.agg #[.slice fa fl fc, .int .i64 (s : Int)], .int .i64 c] X fun e w' => ∃ v' e', e = .returned (.agg #[v', .int .i64 e']) ∧ w'.cell? ⟨b, 1, none⟩ = some (.map (some fm)) ∧ b < w'.heap.size ∧
          ∃ W5, (Instr.mapUpdate 63 (.map (some fm)) (.int .i64 n) (.agg #[v', .int .i64 e'])).run Tryz.prog w' = .ok () W5 ∧ Hid (craI w b q cs F ks fm w.heap.size sn cv (.slice na (srtB (kys (crO q cs))).length nc) (i + 1) W5))) := fun na nc i W hi ⟨fv, hD, kf, hT⟩ => by
    have hLm : (srtB (kys (crO q cs)))[i]! ∈ kys (crO q cs) := (srtB_perm _).mem_iff.1 (by rw [getElem!_pos _ i hi]; exact List.getElem_mem hi)
    have hnk : num (crO q cs) (srtB (kys (crO q cs)))[i]! ∈ ks := hD.numK (x := (srtB (kys (crO q cs)))[i]!) hLm
    have okI := okC i
    have hLk : KWfS (srtB (kys (crO q cs)))[i]! := kwf_small (Nat.le_trans (nmOk_len (okI.key (x := (srtB (kys (crO q cs)))[i]!) hLm)).2 (by decide))
    have hl := hD.nms.look hLk
    have eT : ∃ g, na = some ⟨g, 0, none⟩ ∧ W.cell? ⟨g, i, none⟩ = some (.string (sb (srtB (kys (crO q cs)))[i]!)) := by
      rcases id hT.2 with ⟨e, e0⟩ | ⟨g', cap', cur, e, _, _, _, _⟩
      · omega
      · injection e with e1 e2 e3
        subst e1
        refine ⟨g', rfl, ?_⟩
        have := World.ownsRow.cells hT (g := g') rfl i _ (encStr_get hi)
        rw [Addr.add_lit, Nat.zero_add] at this
        exact this
    obtain ⟨g, ea, hcell⟩ := eT
    obtain ⟨⟨_, d1, d2, _, _, _, _⟩, _⟩ := hD.cells
    have ho := hD.own _ hnk
    obtain ⟨fa, fc, ef⟩ := row_fm ho
    have hcr := crashed_c (w := W) ho (okI.fb _) (okI.fs _) (chc cs (i + 1)) (chc_in hcs (i + 1))
    refine ⟨g, _, num (crO q cs) (srtB (kys (crO q cs)))[i]!, chc cs (i + 1), fa, ((crQ q cs i).fb (num (crO q cs) (srtB (kys (crO q cs)))[i]!)).length, fc, (crQ q cs i).fs (num (crO q cs) (srtB (kys (crO q cs)))[i]!), ea, hcell, d1, d2, hD.lt, hl, fun X gX => ?_, fun X gX => (choice_c (hR X (kf.then (Kf.gb gX F) fun _ _ h => h)) (i + 1)).mono fun e w' h => ⟨h.1, h.2.symm⟩, fun X gX => ?_⟩
    · have := (hD.kp (w' := X) (G := Wn F w) (fun k hk _ => gX.block k hk) (fun _ f _ => f)).file hnk
      rw [ef] at this; exact this
    · have hDX := hD.kp (w' := X) (G := Wn F w) (fun k hk _ => gX.block k hk) (fun _ f _ => f)
      have hcr := crashed_c (w := X) (hDX.own _ hnk) (okI.fb _) (okI.fs _) (chc cs (i + 1)) (chc_in hcs (i + 1))
      rw [ef] at hcr
      refine hcr.mono ?_
      rintro e w4 ⟨v', rfl, ho4, g4⟩
      have hD4 := hDX.kp (w' := w4) (G := Wn F w) (fun k hk _ => g4.block k hk) (fun _ f _ => f)
      obtain ⟨W5, hr, hD5, hTt⟩ := hDX.putFl hnk (by omega) (W2 := w4) (fun k hk _ _ => g4.block k hk) (v' := v') (l' := crB ((crQ q cs i).fb (num (crO q cs) (srtB (kys (crO q cs)))[i]!)) ((crQ q cs i).fs (num (crO q cs) (srtB (kys (crO q cs)))[i]!)) (chc cs (i + 1)))
        (crN ((crQ q cs i).fb (num (crO q cs) (srtB (kys (crO q cs)))[i]!)) ((crQ q cs i).fs (num (crO q cs) (srtB (kys (crO q cs)))[i]!)) (chc cs (i + 1))) (ho4.mono (Nat.zero_le _)) (fun k e => .inr (ho4.lo k e).1)
      have kf5 : Kf F w W5 := ((kf.then (Kf.gb gX F) fun _ _ h => h).then (Kf.gb g4 F) fun _ _ h => h).then (Kf.turned hTt h1.inF.2.1) fun _ _ h => h
      have hD6 : DkM W5 b (crQ q cs (i + 1)) (Wn F w) ks fm w.heap.size sn cv (upd fv (num (crO q cs) (srtB (kys (crO q cs)))[i]!) v') := hD5.kp (fun _ _ _ => rfl) fun k f _ => f.elim id fun f => .inr (Nat.le_trans (Nat.le_trans kf.size gX.size) f)
      refine ⟨v', _, rfl, hD4.cells.1.2.1, hD4.lt, W5, hr, upd fv (num (crO q cs) (srtB (kys (crO q cs)))[i]!) v', hD6, kf5, by
          have hT4 : OwnT w4 0 (.slice na (srtB (kys (crO q cs))).length nc) (srtB (kys (crO q cs))) := (OwnT.gb hT gX).gb g4
          refine row_same hT4 fun k e => hTt.grown.block k (World.ownsRow.lt hT4 k e).2 fun e' => ?_
          cases e'
          obtain ⟨cur, ec⟩ := row_cells hT4 e
          obtain ⟨_, _, em⟩ := hD4.fls.isMap
          exact map_cells em ec⟩
  have A4 : Hid (∀ W nv, craI w b q cs F ks fm w.heap.size sn cv nv (srtB (kys (crO q cs))).length W → Calls Tryz.prog 36 #[.pointer (some ⟨b, 0, none⟩)] W fun e w' => e = .returned (.tuple #[]) ∧ Hid (DkOut w w' b (q.crash cs) F)) := fun W nv ⟨fv, hD, kf, _⟩ => by
    have hG : DkM W b (crQ q cs (srtB (kys (crO q cs))).length) (fun k => Wn F w k ∧ k < W.heap.size) ks fm w.heap.size sn cv fv := hD.kp (fun _ _ _ => rfl) fun k f g => ⟨f, g⟩
    refine (settleD hG (fun k h => h.2) (by omega)).mono ?_
    rintro e w' ⟨rfl, ls, fm', sn', hS, hs, hl, k2⟩
    have kk : Kf F w w' := kf.then k2 fun k hk h => h.1.elim id fun f => absurd hk (by omega)
    exact ⟨rfl, DkOut.of h4 kk (hS.kp (fun _ _ _ => rfl) fun k f _ => f.elim (fun f => f.1) fun f => .inr (Nat.le_trans kf.size f)) (fun n hn => h2 n (hs n hn)) (by show ls.length ≤ q.st; omega)⟩
  have LB : Hid ((srtB (kys (crO q cs))).length < 1000000) := by
    have h1 := (okC 0).nmL
    have : (crQ q cs 0).nm.length ≤ q.st := h1
    unfold Hid
    rw [srtB_len, kys_length]
    have e : (crQ q cs 0).nm = crO q cs := rfl
    rw [e] at this; omega
  obtain ⟨m, hEM⟩ : ∃ m, m = (srtB (kys (crO q cs))).length := ⟨_, rfl⟩
  have EM : Hid (m = (srtB (kys (crO q cs))).length) := hEM
  rw [← hEM] at A3 A4 LB
  clear hEM
  generalize chc cs 0 = ch0 at *
  clear h1 h2 h3 h4 hks hX okX okC hNM eNM hcs hR k0 ok hst fz
  go_enter Tryz.func14, Tryz.ntmps14
  go_wp2_with fail
  refine hn.mono ?_
  rintro e w' ⟨rfl, rfl⟩
  go_wp2_with fail
  refine cC.mono ?_
  rintro e w' ⟨rfl, rfl⟩
  go_wp2_with fail
  refine cS.mono ?_
  rintro e w1 ⟨rfl, hN, g1⟩
  obtain ⟨d2, z2, hb1, hD⟩ := A1.out w1 hN g1
  have A2' := A2.out _ hD
  clear A1 A2 hD hN g1 cS cC hn
  go_wp2_with fail
  refine A2'.mono ?_
  rintro e w2 ⟨nv, rfl, X⟩
  obtain ⟨fv0, hD0, kf0, hT0⟩ := X.out
  obtain ⟨na, nc, env⟩ := row_fm hT0
  have eL : (srtB (kys (crO q cs))).length = m := EM.out.symm
  rw [eL] at env
  subst env
  have ST : Hid (craI w b q cs F ks fm w.heap.size sn cv (.slice na m nc) 0 w2) := X.out
  clear hD0 kf0 hT0 X A2' d2 z2 hb1
  go_wp2
  go_loopw [23] (fun iv W => ∃ i : Nat, iv = .int .i64 (i : Int) ∧ i ≤ m ∧ Hid (craI w b q cs F ks fm w.heap.size sn cv (.slice na m nc) i W)) (fun iv _ => m - (intOf iv).toNat)
  case atStart => exact ⟨0, rfl, Nat.zero_le _, ST.out⟩
  case round =>
    clear ST
    obtain ⟨i, rfl, hi, X⟩ := hrel
    by_cases hik : i < m
    · have hii : (i : Int) < (m : Int) := by omega
      obtain ⟨g, S, n, c, fa, fl, fc, s, rfl, k1, k2, k3, k4, k5, k6, CH, CR⟩ := A3.out na nc i wr hik X.out
      have hwr : IntKind.i64.wrap ((i : Int) + 1) = ((i + 1 : Nat) : Int) := by rw [IntKind.wrap_i64]; have := LB.out; omega
      have hgw := cell_lt k1
      have k6' := k6 _ (Below.refl _ wr)
      have k6d := k6 _ (Below.refl _ wr).drew
      clear A3 A4 X k6
      go_wp2_with fail
      go_region_with (first
        | (go_at_call 34; refine (CH.out _ (Below.refl _ wr).drew).mono ?_; rintro e w3 ⟨rfl, rfl⟩)
        | (go_at_call 35; refine (CR.out _ (Below.refl _ wr).drew).mono ?_; rintro e w3 ⟨v', e', rfl, d1, d2, W5, hp, R⟩))
      all_goals
        clear CH CR k6' k6d k5
        go_wp2
        go_roundw
        case rel => exact ⟨i + 1, by simp, hik, R.out⟩
        case measure => simp [intOf]; omega
    · have e : i = m := by omega
      subst e
      have cS := A4.out wr _ X.out
      have hii : ¬ (i : Int) < (i : Int) := by omega
      clear X A3 A4
      go_wp2_with fail
      refine cS.mono ?_
      rintro e w3 ⟨rfl, R⟩
      go_wp2
      go_ret
      exact ⟨rfl, R.out⟩
end Go.Proofs.YtcbhhdjjanekaaaGreatDoor
