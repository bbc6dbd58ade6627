import Derived.Test.YtbnljabeccebiaaGreatKrKqLk
import Derived.Deep.LoopGhost
/- (*kdtree.search).lookAt at a part that is cut. -/
namespace Go.Proofs.YtbnljabeccebiaaGreat
open Go.RowKit Go.Sort

def LookN (w0 W' : World) (T : Nat → Pt) (N sb hb k : Nat) (vq : Value) (q : List Int) (bud : Nat) (seen : List Rw) (O : List Nat) (M : List (Nat × Pt)) (l h : Nat) : Prop := ∃ O' M' vs' vm' vo' vh', SAt w0 W' T N sb hb k vq q bud seen O' M' vs' vm' vo' vh' ∧ opn M' O' = insP q (T h) (insP q (T l) (opn M O)) ∧ M'.length ≤ M.length + 2 ∧ O'.length ≤ O.length + 2
set_option maxHeartbeats 1000000 in
set_option maxRecDepth 100000 in
theorem look_node {w0 W : World} {T : Nat → Pt} {N sb hb k : Nat} {vq : Value} {q : List Int} {bud : Nat} {seen : List Rw} {O : List Nat} {M : List (Nat × Pt)} {vs vm vo vh : Value} {pb l h : Nat} {p : Pt} (hS : SAt w0 W T N sb hb k vq q bud seen O M vs vm vo vh) (hpM : (pb, p) ∈ M) (hk : p.kids = some (l, h))
    (hb1 : ckB (pr (T l)) q = 0) (hb2 : ckB (pr (T h)) q = 0) (hd : Dsc q (opn M O)) (hf : M.length + 2 ≤ 10000) (hof : O.length + 1 ≤ 10000) :
    Calls Tryz.prog 72 #[.pointer (some ⟨sb, 0, none⟩), .pointer (some ⟨pb, 0, none⟩)] W fun e W' => e = .returned (.tuple #[]) ∧ LookN w0 W' T N sb hb k vq q bud seen O M l h := by
  have key : ∀ (W' : World) (M' : List (Nat × Pt)) (O' : List Nat) (vs vm vo vh : Value), SAt w0 W' T N sb hb k vq q bud seen O' M' vs vm vo vh → (pb, p) ∈ M' → W'.cell? ⟨pb, 10, none⟩ = some (.pointer (some ⟨l, 0, none⟩)) ∧ W'.cell? ⟨pb, 11, none⟩ = some (.pointer (some ⟨h, 0, none⟩)) ∧ MP w0 W' T N l (T l) ∧ MP w0 W' T N h (T h) := by
    intro W' M' O' vs vm vo vh hS hm
    have hp := hS.prt _ hm
    dsimp only at hp
    obtain ⟨vl, vh0, vr, hblk, _, _, hrs⟩ := hp
    have a := cell_cur (i := 10) (v := kidV (p.kids.map Prod.fst)) hblk rfl
    have b := cell_cur (i := 11) (v := kidV (p.kids.map Prod.snd)) hblk rfl
    rw [hk] at hrs a b
    exact ⟨a, b, hrs.2.1.mono.mp hS.gb, hrs.2.2.mono.mp hS.gb⟩
  obtain ⟨c10, _, hml, _⟩ := key W M O vs vm vo vh hS hpM
  have cI : Calls Tryz.prog 71 #[.pointer (some ⟨pb, 0, none⟩)] W fun e w' => e = .returned (.bool true) ∧ w' = W := by
    go_enter Tryz.func71, Tryz.ntmps71
    go_wp2
    go_ret
    exact ⟨rfl, rfl⟩
  have c1 := await_c hS hml hb1 hd (by omega) (by omega)
  have NX : Hid (∀ w1, (∃ O' vm' vo', SAt w0 w1 T N sb hb k vq q bud seen O' (M ++ [(l, T l)]) vs vm' vo' vh ∧ opn (M ++ [(l, T l)]) O' = insP q (T l) (opn M O) ∧ O'.length = O.length + 1) → w1.cell? ⟨pb, 11, none⟩ = some (.pointer (some ⟨h, 0, none⟩)) ∧
      Calls Tryz.prog 41 #[.pointer (some ⟨sb, 0, none⟩), .pointer (some ⟨h, 0, none⟩)] w1 fun e W' => e = .returned (.tuple #[]) ∧ LookN w0 W' T N sb hb k vq q bud seen O M l h) := by
    rintro w1 ⟨O', vm', vo', h1, e1, l1⟩
    obtain ⟨_, c11, _, hmh⟩ := key w1 (M ++ [(l, T l)]) O' vs vm' vo' vh h1 (List.mem_append_left _ hpM)
    refine ⟨c11, ?_⟩
    refine (await_c h1 hmh hb2 (by rw [e1]; exact insP_dsc q _ _ hd) (by rw [List.length_append]; simp; omega) (by omega)).mono ?_
    rintro e w2 ⟨rfl, O2, vm2, vo2, h2, e2, l2⟩
    exact ⟨rfl, O2, _, vs, vm2, vo2, vh, h2, by rw [e2, e1], by simp, by omega⟩
  clear hS key hml hd
  go_enter Tryz.func72, Tryz.ntmps72
  go_wp2_with fail
  go_fit cI
  rintro e W ⟨rfl, rfl⟩
  clear cI
  go_wp2_with fail
  go_fit c1
  rintro e w1 ⟨rfl, hO⟩
  obtain ⟨c11, c2⟩ := NX.out _ hO
  clear c1 hO NX c10
  go_wp2_with fail
  go_fit c2
  rintro e w2 ⟨rfl, hO⟩
  have H : Hid _ := hO
  clear hO c2
  go_wp2
  exact bodyPost_ret (v := .tuple #[]) (by simp [results, Tryz.results72, go_sem]) rfl ⟨rfl, H.out⟩
end Go.Proofs.YtbnljabeccebiaaGreat

/- (*kdtree.search).run. -/
namespace Go.Proofs.YtbnljabeccebiaaGreat
open Go.RowKit Go.Sort

theorem runS_add {T : Nat → Pt} {q : List Int} {k : Nat} : ∀ a b s, runS T q k (a + b) s = runS T q k b (runS T q k a s)
  | 0, b, s => by rw [Nat.zero_add]; rfl
  | a + 1, b, s => by
    rw [show a + 1 + b = (a + b) + 1 by omega, runS, runS]
    cases e : stepS T q k s with
    | none => exact (runS_stop e b).symm
    | some s' => exact runS_add a b s'
theorem run_next {T : Nat → Pt} {d N : Nat} {q : List Int} {k b0 : Nat} {rs : List Rw} {s s' : Sr} (h : InvS T d N q b0 rs s) (e : stepS T q k s = some s') : runS T q k (wtS T N s) s = runS T q k (wtS T N s') s' := by
  obtain ⟨h1, h2⟩ := step_inv h e
  obtain ⟨n, hn⟩ : ∃ n, wtS T N s = n + 1 := ⟨wtS T N s - 1, by omega⟩
  rw [hn, runS, e]
  dsimp only
  have h3 := (run_inv (k := k) (wtS T N s') s' h1 (Nat.le_refl _)).2
  rw [show n = wtS T N s' + (n - wtS T N s') by omega, runS_add, runS_stop h3]
theorem box_ckB {d : Nat} {p : Pt} {rs : List Rw} {q : List Int} (h : BoxOk d p rs) (hq : chk q (d : Int) = 0) : ckB (pr p) q = 0 ∧ (∀ r ∈ rs, chk r.2 (q.length : Int) = 0) ∧ chk q (q.length : Int) = 0 := by
  have hl := (chk_ok hq).2.2.1
  rw [hl] at hq
  refine ⟨?_, fun r hr => by rw [← hl]; exact (h.2 r hr).1, hq⟩
  have h1 := h.1
  rw [hl] at h1
  unfold ckB
  rw [if_pos h1]
  exact hq
theorem iscut_mp {w0 W : World} {T : Nat → Pt} {N pb : Nat} {p : Pt} (h : MP w0 W T N pb p) : Calls Tryz.prog 71 #[.pointer (some ⟨pb, 0, none⟩)] W fun e w' => e = .returned (.bool p.kids.isSome) ∧ w' = W := by
  obtain ⟨vl, vh0, vr, hblk, _⟩ := h
  have c10 := cell_cur (i := 10) (v := kidV (p.kids.map Prod.fst)) hblk rfl
  clear hblk
  cases hk : p.kids with
  | none =>
    rw [hk] at c10
    dsimp only [Option.map, kidV] at c10
    clear hk
    go_enter Tryz.func71, Tryz.ntmps71
    go_wp2
    go_ret
    exact ⟨rfl, rfl⟩
  | some lh =>
    rw [hk] at c10
    dsimp only [Option.map, kidV] at c10
    clear hk
    go_enter Tryz.func71, Tryz.ntmps71
    go_wp2
    go_ret
    exact ⟨rfl, rfl⟩
/-- Where a search stands, g steps ahead of its end. -/
def RunI (w0 : World) (T : Nat → Pt) (d N sb hb k : Nat) (vq : Value) (q : List Int) (b0 : Nat) (rs : List Rw) (R : Sr) (g : Nat) (W : World) : Prop :=
  ∃ bud seen O M vs vm vo vh, SAt w0 W T N sb hb k vq q bud seen O M vs vm vo vh ∧ InvS T d N q b0 rs ⟨seen, bud, opn M O⟩ ∧ g = wtS T N ⟨seen, bud, opn M O⟩ ∧ runS T q k g ⟨seen, bud, opn M O⟩ = R ∧ M.length + 2 * g ≤ 9000 ∧ O.length + 2 * g ≤ 9000
def RunO (w0 : World) (T : Nat → Pt) (N sb hb k : Nat) (vq : Value) (q : List Int) (R : Sr) (W : World) : Prop :=
  ∃ O M vs vm vo vh, SAt w0 W T N sb hb k vq q R.bud R.seen O M vs vm vo vh ∧ opn M O = R.opn
theorem run_fin {w0 W W' : World} {T : Nat → Pt} {N sb hb k : Nat} {vq : Value} {q : List Int} {R : Sr} {g bud : Nat} {seen : List Rw} {O : List Nat} {M : List (Nat × Pt)} {vs vm vo vh : Value} (h : SAt w0 W T N sb hb k vq q bud seen O M vs vm vo vh) (hr : runS T q k g ⟨seen, bud, opn M O⟩ = R) (e : stepS T q k ⟨seen, bud, opn M O⟩ = none) (gb : Gb W W') : RunO w0 T N sb hb k vq q R W' := by
  rw [runS_stop e] at hr
  subst hr
  exact ⟨O, M, vs, vm, vo, vh, h.grow gb, rfl⟩
theorem opn_last {M : List (Nat × Pt)} {O : List Nat} (hO : O ≠ []) (h : ∀ i ∈ O, i < M.length) : ∃ hl : O.getLast hO < M.length, (opn M O).getLast? = some (M[O.getLast hO]).2 ∧ (opn M O).dropLast = opn M O.dropLast ∧ M[O.getLast hO] ∈ M := by
  have hl := h _ (List.getLast_mem hO)
  refine ⟨hl, ?_, ?_, List.getElem_mem hl⟩
  · unfold opn
    rw [List.getLast?_map, List.getLast?_eq_some_getLast hO]
    simp [List.getD_eq_getElem?_getD, hl]
  · unfold opn; rw [List.map_dropLast]
theorem look_next {w0 W' : World} {T : Nat → Pt} {d N sb hb k : Nat} {vq : Value} {q : List Int} {b0 : Nat} {rs : List Rw} {R : Sr} {bud : Nat} {seen : List Rw} {O : List Nat} {M : List (Nat × Pt)} {s' : Sr} (hi : InvS T d N q b0 rs ⟨seen, bud, opn M O⟩) (hr : runS T q k (wtS T N ⟨seen, bud, opn M O⟩) ⟨seen, bud, opn M O⟩ = R) (hm : M.length + 2 * wtS T N ⟨seen, bud, opn M O⟩ ≤ 9000) (ho : O.length + 2 * wtS T N ⟨seen, bud, opn M O⟩ ≤ 9000)
    (e : stepS T q k ⟨seen, bud, opn M O⟩ = some s') (hs : ∃ O' M' vs' vm' vo' vh', SAt w0 W' T N sb hb k vq q s'.bud s'.seen O' M' vs' vm' vo' vh' ∧ opn M' O' = s'.opn ∧ M'.length ≤ M.length + 2 ∧ O'.length ≤ O.length + 2) :
    wtS T N s' < wtS T N ⟨seen, bud, opn M O⟩ ∧ RunI w0 T d N sb hb k vq q b0 rs R (wtS T N s') W' := by
  obtain ⟨O', M', vs', vm', vo', vh', h1, h2, h3, h4⟩ := hs
  obtain ⟨i1, i2⟩ := step_inv hi e
  have es : s' = ⟨s'.seen, s'.bud, opn M' O'⟩ := by rw [h2]
  refine ⟨i2, s'.bud, s'.seen, O', M', vs', vm', vo', vh', h1, by rw [← es]; exact i1, by rw [← es], by rw [← es, ← run_next hi e]; exact hr, by omega, by omega⟩
set_option maxHeartbeats 4000000 in
set_option maxRecDepth 100000 in
theorem run_c {w0 W : World} {T : Nat → Pt} {d N sb hb k : Nat} {vq : Value} {q : List Int} {b0 : Nat} {rs : List Rw} {R : Sr} {g : Nat} (hR : RunI w0 T d N sb hb k vq q b0 rs R g W) (hq : chk q (d : Int) = 0) (hrs : rs.length ≤ 512) (hb0 : b0 ≤ 1000000) :
    Calls Tryz.prog 42 #[.pointer (some ⟨sb, 0, none⟩)] W fun e W' => e = .returned (.tuple #[]) ∧ RunO w0 T N sb hb k vq q R W' := by
  have HR : Hid (RunI w0 T d N sb hb k vq q b0 rs R g W) := hR
  have HQ : Hid (chk q (d : Int) = 0 ∧ rs.length ≤ 512 ∧ b0 ≤ 1000000) := ⟨hq, hrs, hb0⟩
  clear hR hq hrs hb0
  go_enter Tryz.func42, Tryz.ntmps42
  go_wp2_with fail
  go_loopg [] g (fun g wx => Hid (RunI w0 T d N sb hb k vq q b0 rs R g wx))
  case atStart => exact HR.out
  case round =>
    clear HR
    obtain ⟨bud, seen, O, M, vs, vm, vo, vh, hS, hi', hg, hr, hm, ho⟩ := hrel.out
    subst hg
    obtain ⟨_, _, c2, _, c4, c5, fz⟩ := hS.cells
    by_cases hO : O = []
    · have hst : stepS T q k ⟨seen, bud, opn M O⟩ = none := by rw [hO]; rfl
      have FF : Hid (RunO w0 T N sb hb k vq q R wr) := run_fin hS hr hst (Below.refl _ _)
      obtain ⟨oa, oc, eo, _⟩ := hS.op.rd
      have eo' : vo = .slice oa 0 oc := by rw [eo, hO]; rfl
      clear eo
      subst eo'
      clear hS hi' hr hm ho hst hrel c2 c4 fz
      go_wp2
      go_end0
      exact ⟨rfl, FF.out⟩
    · obtain ⟨og, oc, eo, hoc, clast, hpop⟩ := hS.pop hO
      obtain ⟨hli, hgl, hdl, hmm⟩ := opn_last hO hS.olt
      obtain ⟨mb, mc, em, hmc, m0, m1, m2⟩ := hS.cand hli
      have hol : 0 < O.length := List.length_pos_iff.2 hO
      subst eo em
      generalize hx : M[O.getLast hO] = x at *
      obtain ⟨pb, p⟩ := x
      generalize hlii : O.getLast hO = li at *
      try dsimp only at hgl m0 m1 m2
      have cBe := fun W' (g : Gb wr W') => isBeyond_c (hS.grow g) pb p
      have okp := hi'.ok p (List.mem_of_getLast? hgl)
      have f5 := fz 5
      have hbudle : bud ≤ 1000000 := by have h1 := hi'.bud; have h2 := HQ.out.2.2; dsimp only at h1; omega
      have SN : ∀ b, stepS T q k ⟨seen, bud, opn M O⟩ = b → (beyond q k seen p = true → b = none) ∧ (beyond q k seen p = false → p.kids = none → bud = 0 → b = none) ∧ (beyond q k seen p = false → ¬ (p.kids = none ∧ bud = 0) → b = some (look T q ⟨seen, bud, opn M O⟩ p (opn M O.dropLast))) := by
        intro b hb
        unfold stepS at hb
        rw [hgl] at hb
        dsimp only at hb
        refine ⟨fun h => ?_, fun h h1 h2 => ?_, fun h h1 => ?_⟩
        · rw [if_pos h] at hb; exact hb.symm
        · rw [if_neg (by rw [h]; decide), if_pos ⟨h1, h2⟩] at hb; exact hb.symm
        · rw [if_neg (by rw [h]; decide), if_neg h1, hdl] at hb; exact hb.symm
      have FIN : Hid (∀ W', Gb wr W' → stepS T q k ⟨seen, bud, opn M O⟩ = none → RunO w0 T N sb hb k vq q R W') := fun W' g e => run_fin hS hr e g
      have POP : ∀ w3, Gb wr w3 → SAt w0 (w3.setCell ⟨sb, 5, none⟩ (.slice (some ⟨og, 0, none⟩) (O.length - 1) oc)) T N sb hb k vq q bud seen O.dropLast M vs (.slice (some ⟨mb, 0, none⟩) M.length mc) (.slice (some ⟨og, 0, none⟩) (O.length - 1) oc) vh := fun w3 g => by
        obtain ⟨og', oc', eo', _, _, hp⟩ := (hS.grow g).pop hO
        cases eo'
        exact hp
      have hpb : (pb, p) ∈ M := hmm
      have dsc' : Dsc q (opn M O.dropLast) := by rw [← hdl]; exact hi'.dsc.sublist (List.dropLast_sublist _)
      have olen : O.dropLast.length = O.length - 1 := List.length_dropLast
      have wpos : 0 < wtS T N ⟨seen, bud, opn M O⟩ := by
        unfold wtS
        have := last_split hgl
        dsimp only
        rw [this, List.map_append, List.sum_append]
        simp only [List.map_cons, List.map_nil, List.sum_cons, List.sum_nil]
        have := wtP_pos T N p
        omega
      have NEXT : Hid (beyond q k seen p = false → ¬ (p.kids = none ∧ bud = 0) → ∀ w3, Gb wr w3 → Calls Tryz.prog 72 #[.pointer (some ⟨sb, 0, none⟩), .pointer (some ⟨pb, 0, none⟩)] (w3.setCell ⟨sb, 5, none⟩ (.slice (some ⟨og, 0, none⟩) (O.length - 1) oc)) fun e W' => e = .returned (.tuple #[]) ∧ Hid (∃ g', g' < wtS T N ⟨seen, bud, opn M O⟩ ∧ RunI w0 T d N sb hb k vq q b0 rs R g' W')) := by
        intro hbf hnb w3 g3
        have est := (SN _ rfl).2.2 hbf hnb
        cases hk : p.kids with
        | none =>
          obtain ⟨hne, hbox⟩ := (okP_leaf hk N).1 okp
          obtain ⟨b1, b2, b3⟩ := box_ckB hbox HQ.out.1
          have hse : seen.length + p.rs.length ≤ 512 := by
            have h1 := hi'.rows.length_eq
            have h2 := last_split hgl
            dsimp only at h1
            rw [h2, List.flatMap_append, List.length_append, List.length_append] at h1
            simp only [List.flatMap_cons, List.flatMap_nil, List.append_nil] at h1
            rw [rowsP_leaf hk] at h1
            have := HQ.out.2.1
            omega
          refine (look_leaf (POP w3 g3) hpb hk b1 b2 b3 dsc' (by omega) (by omega) hse hbudle rfl).mono ?_
          rintro e W' ⟨rfl, O', M', vs', vm', vo', vh', h1, h2, h3, h4⟩
          have el : look T q ⟨seen, bud, opn M O⟩ p (opn M O.dropLast) = ⟨seen ++ p.rs.take (min bud p.rs.length), bud - min bud p.rs.length, if min bud p.rs.length < p.rs.length then insP q ⟨p.L, p.H, p.rs.drop (min bud p.rs.length), (0, 0, 0), none⟩ (opn M O.dropLast) else opn M O.dropLast⟩ := by unfold look; rw [hk]
          rw [el] at est
          obtain ⟨q1, q2⟩ := look_next hi' hr hm ho est ⟨O', M', vs', vm', vo', vh', h1, h2, by omega, by omega⟩
          exact ⟨rfl, _, q1, q2⟩
        | some lh =>
          obtain ⟨l, h⟩ := lh
          obtain ⟨m', _, o1, o2, _⟩ := okP_node hk okp
          refine (look_node (POP w3 g3) hpb hk (box_ckB (okP_box o1) HQ.out.1).1 (box_ckB (okP_box o2) HQ.out.1).1 dsc' (by omega) (by omega)).mono ?_
          rintro e W' ⟨rfl, O', M', vs', vm', vo', vh', h1, h2, h3, h4⟩
          have el : look T q ⟨seen, bud, opn M O⟩ p (opn M O.dropLast) = ⟨seen, bud, insP q (T h) (insP q (T l) (opn M O.dropLast))⟩ := by unfold look; rw [hk]
          rw [el] at est
          obtain ⟨q1, q2⟩ := look_next hi' hr hm ho est ⟨O', M', vs', vm', vo', vh', h1, h2, by omega, by omega⟩
          exact ⟨rfl, _, q1, q2⟩
      have ICUT : Hid (∀ w3, Gb wr w3 → (Calls Tryz.prog 71 #[.pointer (some ⟨pb, 0, none⟩)] w3 fun e w' => e = .returned (.bool p.kids.isSome) ∧ w' = w3) ∧ w3.cell? ⟨sb, 2, none⟩ = some (.int .i64 (bud : Int)) ∧ w3.cell? ⟨sb, 5, none⟩ = some (.slice (some ⟨og, 0, none⟩) O.length oc) ∧ w3.frozen? ⟨sb, 5, none⟩ = false) := fun w3 g => ⟨iscut_mp ((hS.prt _ hpb).gb g), gb_keeps g c2, gb_keeps g c5, (hS.grow g).cells.2.2.2.2.2.2 5⟩
      obtain ⟨bh, hbh⟩ : ∃ bh, bh = hi (bnd q p) := ⟨_, rfl⟩
      obtain ⟨bl, hbl⟩ : ∃ bl, bl = lo (bnd q p) := ⟨_, rfl⟩
      rw [← hbh] at m1
      rw [← hbl] at m2
      rw [← hbh, ← hbl] at cBe
      have CBE : Hid (∀ W', Gb wr W' → Calls Tryz.prog 70 #[.pointer (some ⟨sb, 0, none⟩), .agg #[.pointer (some ⟨pb, 0, none⟩), .int .u64 bh, .int .u64 bl]] W' fun e W'' => e = .returned (.bool (beyond q k seen p)) ∧ Gb W' W'') := cBe
      have sbne : ∀ (W' : World) (u : Value) {i : Nat} {y : Value}, W'.cell? ⟨wr.heap.size, i, none⟩ = some y → (W'.setCell ⟨sb, 5, none⟩ u).cell? ⟨wr.heap.size, i, none⟩ = some y := fun W' u i y hc => ((Tk.Kp.refl (fun b => b = sb) W').setCell (.inl rfl) u).cell hc (by intro e; have := (Array.getElem?_eq_some_iff.1 hS.blk).1; dsimp only at e; omega)
      have SBN : Hid (∀ (W' : World) (u : Value) {i : Nat} {y : Value}, W'.cell? ⟨wr.heap.size, i, none⟩ = some y → (W'.setCell ⟨sb, 5, none⟩ u).cell? ⟨wr.heap.size, i, none⟩ = some y) := sbne
      have SS : Hid ((beyond q k seen p = true → stepS T q k ⟨seen, bud, opn M O⟩ = none) ∧ (beyond q k seen p = false → p.kids = none → bud = 0 → stepS T q k ⟨seen, bud, opn M O⟩ = none)) := ⟨(SN _ rfl).1, (SN _ rfl).2.1⟩
      have hlim : (li : Int) < (M.length : Int) := by omega
      clear hx hli hmm hpb
      generalize hno : O.length = no at *
      generalize hnm : M.length = nm at *
      have FS2 : (fun W => W.cell? ⟨sb, 4, none⟩ = some (.slice (some ⟨mb, 0, none⟩) nm mc) ∧ W.cell? ⟨sb, 5, none⟩ = some (.slice (some ⟨og, 0, none⟩) no oc) ∧ W.cell? ⟨og, no - 1, none⟩ = some (.int .i64 (li : Int)) ∧ W.cell? ⟨mb, li * 3, none⟩ = some (.pointer (some ⟨pb, 0, none⟩)) ∧ W.cell? ⟨mb, li * 3 + 1, none⟩ = some (.int .u64 bh) ∧ W.cell? ⟨mb, li * 3 + 2, none⟩ = some (.int .u64 bl)) wr.drew := ⟨c4, c5, clast, m0, m1, m2⟩
      have K2 : Hid ((fun W => W.cell? ⟨sb, 4, none⟩ = some (.slice (some ⟨mb, 0, none⟩) nm mc) ∧ W.cell? ⟨sb, 5, none⟩ = some (.slice (some ⟨og, 0, none⟩) no oc) ∧ W.cell? ⟨og, no - 1, none⟩ = some (.int .i64 (li : Int)) ∧ W.cell? ⟨mb, li * 3, none⟩ = some (.pointer (some ⟨pb, 0, none⟩)) ∧ W.cell? ⟨mb, li * 3 + 1, none⟩ = some (.int .u64 bh) ∧ W.cell? ⟨mb, li * 3 + 2, none⟩ = some (.int .u64 bl)) (wr.drew.alloc (.cells #[.pointer (some ⟨pb, 0, none⟩), .int .u64 bh, .int .u64 bl] 119))) := ⟨gb_keeps (gb_alloc (Below.refl _ _) _) FS2.1, gb_keeps (gb_alloc (Below.refl _ _) _) FS2.2.1, gb_keeps (gb_alloc (Below.refl _ _) _) FS2.2.2.1, gb_keeps (gb_alloc (Below.refl _ _) _) FS2.2.2.2.1, gb_keeps (gb_alloc (Below.refl _ _) _) FS2.2.2.2.2.1, gb_keeps (gb_alloc (Below.refl _ _) _) FS2.2.2.2.2.2⟩
      have G2 : Hid (Gb wr (wr.drew.alloc (.cells #[.pointer (some ⟨pb, 0, none⟩), .int .u64 bh, .int .u64 bl] 119))) := gb_alloc (Below.refl _ _).drew _
      have cB2 := CBE.out _ G2.out
      have hno1 : (0 : Int) < (no : Int) := by omega
      have hno2 : (no : Int) - 1 = ((no - 1 : Nat) : Int) := by omega
      have hno3 : ((no - 1 : Nat) : Int) < (no : Int) := by omega
      have hno4 : (no : Int) ≤ 10000 := by omega
      have hno5 : ((no - 1 : Nat) : Int) ≤ (oc : Int) := by omega
      have C3 : Hid (∀ w3, Gb (wr.drew.alloc (.cells #[.pointer (some ⟨pb, 0, none⟩), .int .u64 bh, .int .u64 bl] 119)) w3 → w3.cell? ⟨wr.heap.size, 0, none⟩ = some (.pointer (some ⟨pb, 0, none⟩))) := fun w3 g => gb_keeps g (by simp [go_sem])
      clear hS hi' hr hm ho hrel hpop hgl hdl okp fz dsc' olen wpos SN POP sbne cBe hlii hmc hoc hno hnm f5 hbh hbl hbudle hO hol CBE
      go_wp2_with fail
      refine wp_region_held_drew (S := fun W => W.cell? ⟨sb, 4, none⟩ = some (.slice (some ⟨mb, 0, none⟩) nm mc) ∧ W.cell? ⟨sb, 5, none⟩ = some (.slice (some ⟨og, 0, none⟩) no oc) ∧ W.cell? ⟨og, no - 1, none⟩ = some (.int .i64 (li : Int)) ∧ W.cell? ⟨mb, li * 3, none⟩ = some (.pointer (some ⟨pb, 0, none⟩)) ∧ W.cell? ⟨mb, li * 3 + 1, none⟩ = some (.int .u64 bh) ∧ W.cell? ⟨mb, li * 3 + 2, none⟩ = some (.int .u64 bl)) (by kernel_rfl) (FS2) (fun hHeld => ?_)
      refine wpAnyH_take (i := 0) (v := ?_) rfl (by kernel_rfl) (by kernel_rfl) (by kernel_rfl) (fun _ _ _ h => h) (Or.inl ⟨by rfl, ?_⟩) (by assumption) ?_
      rotate_left 1
      · (intro w hSw; (obtain ⟨s0, s1, s2, s3, s4, s5⟩ := hSw); go_simp; try with_reducible rfl)
      try simp only [Act.put, List.getElem_toArray, List.getElem_cons_zero, List.setIfInBounds_toArray, List.set_cons_zero, List.set_cons_succ]
      refine wpAnyH_take (i := 1) (v := ?_) rfl (by kernel_rfl) (by kernel_rfl) (by kernel_rfl) (fun _ _ _ h => h) (Or.inl ⟨by rfl, ?_⟩) (by assumption) ?_
      rotate_left 1
      · (intro w hSw; (obtain ⟨s0, s1, s2, s3, s4, s5⟩ := hSw); go_simp; try with_reducible rfl)
      try simp only [Act.put, List.getElem_toArray, List.getElem_cons_zero, List.getElem_cons_succ, List.setIfInBounds_toArray, List.set_cons_zero, List.set_cons_succ]
      refine wpAnyH_take (i := 2) (v := ?_) rfl (by kernel_rfl) (by kernel_rfl) (by kernel_rfl) (fun _ _ _ h => h) (Or.inl ⟨by rfl, ?_⟩) (by assumption) ?_
      rotate_left 1
      · (intro w hSw; (obtain ⟨s0, s1, s2, s3, s4, s5⟩ := hSw); go_simp; try with_reducible rfl)
      try simp only [Act.put, List.getElem_toArray, List.getElem_cons_zero, List.getElem_cons_succ, List.setIfInBounds_toArray, List.set_cons_zero, List.set_cons_succ]
      refine wpAnyH_take (i := 3) (v := ?_) rfl (by kernel_rfl) (by kernel_rfl) (by kernel_rfl) (fun _ _ _ h => h) (Or.inl ⟨by rfl, ?_⟩) (by assumption) ?_
      rotate_left 1
      · (intro w hSw; (obtain ⟨s0, s1, s2, s3, s4, s5⟩ := hSw); go_simp; try with_reducible rfl)
      try simp only [Act.put, List.getElem_toArray, List.getElem_cons_zero, List.getElem_cons_succ, List.setIfInBounds_toArray, List.set_cons_zero, List.set_cons_succ]
      refine wpAnyH_take (i := 4) (v := ?_) rfl (by kernel_rfl) (by kernel_rfl) (by kernel_rfl) (fun _ _ _ h => h) (Or.inl ⟨by rfl, ?_⟩) (by assumption) ?_
      rotate_left 1
      · (intro w hSw; (obtain ⟨s0, s1, s2, s3, s4, s5⟩ := hSw); go_simp; try with_reducible rfl)
      try simp only [Act.put, List.getElem_toArray, List.getElem_cons_zero, List.getElem_cons_succ, List.setIfInBounds_toArray, List.set_cons_zero, List.set_cons_succ]
      refine wpAnyH_take (i := 5) (v := ?_) rfl (by kernel_rfl) (by kernel_rfl) (by kernel_rfl) (fun _ _ _ h => h) (Or.inl ⟨by rfl, ?_⟩) (by assumption) ?_
      rotate_left 1
      · (intro w hSw; (obtain ⟨s0, s1, s2, s3, s4, s5⟩ := hSw); go_simp; try with_reducible rfl)
      try simp only [Act.put, List.getElem_toArray, List.getElem_cons_zero, List.getElem_cons_succ, List.setIfInBounds_toArray, List.set_cons_zero, List.set_cons_succ]
      refine wpAnyH_take (i := 6) (v := ?_) rfl (by kernel_rfl) (by kernel_rfl) (by kernel_rfl) (fun _ _ _ h => h) (Or.inl ⟨by rfl, ?_⟩) (by assumption) ?_
      rotate_left 1
      · (intro w hSw; (obtain ⟨s0, s1, s2, s3, s4, s5⟩ := hSw); go_simp; try with_reducible rfl)
      try simp only [Act.put, List.getElem_toArray, List.getElem_cons_zero, List.getElem_cons_succ, List.setIfInBounds_toArray, List.set_cons_zero, List.set_cons_succ]
      refine wpAnyH_take (i := 7) (v := ?_) rfl (by kernel_rfl) (by kernel_rfl) (by kernel_rfl) (fun _ _ _ h => h) (Or.inl ⟨by rfl, ?_⟩) (by assumption) ?_
      rotate_left 1
      · (intro w hSw; (obtain ⟨s0, s1, s2, s3, s4, s5⟩ := hSw); go_simp; try with_reducible rfl)
      try simp only [Act.put, List.getElem_toArray, List.getElem_cons_zero, List.getElem_cons_succ, List.setIfInBounds_toArray, List.set_cons_zero, List.set_cons_succ]
      refine wpAnyH_take (i := 8) (v := ?_) rfl (by kernel_rfl) (by kernel_rfl) (by kernel_rfl) (fun _ _ _ h => h) (Or.inl ⟨by rfl, ?_⟩) (by assumption) ?_
      rotate_left 1
      · (intro w hSw; (obtain ⟨s0, s1, s2, s3, s4, s5⟩ := hSw); go_simp; try with_reducible rfl)
      try simp only [Act.put, List.getElem_toArray, List.getElem_cons_zero, List.getElem_cons_succ, List.setIfInBounds_toArray, List.set_cons_zero, List.set_cons_succ]
      refine wpAnyH_take (i := 9) (v := ?_) rfl (by kernel_rfl) (by kernel_rfl) (by kernel_rfl) (fun _ _ _ h => h) (Or.inl ⟨by rfl, ?_⟩) (by assumption) ?_
      rotate_left 1
      · (intro w hSw; (obtain ⟨s0, s1, s2, s3, s4, s5⟩ := hSw); go_simp; try with_reducible rfl)
      try simp only [Act.put, List.getElem_toArray, List.getElem_cons_zero, List.getElem_cons_succ, List.setIfInBounds_toArray, List.set_cons_zero, List.set_cons_succ]
      refine wpAnyH_take (i := 10) (v := ?_) rfl (by kernel_rfl) (by kernel_rfl) (by kernel_rfl) (fun _ _ _ h => h) (Or.inl ⟨by rfl, ?_⟩) (by assumption) ?_
      rotate_left 1
      · (intro w hSw; (obtain ⟨s0, s1, s2, s3, s4, s5⟩ := hSw); go_simp; try with_reducible rfl)
      try simp only [Act.put, List.getElem_toArray, List.getElem_cons_zero, List.getElem_cons_succ, List.setIfInBounds_toArray, List.set_cons_zero, List.set_cons_succ]
      refine wpAnyH_take (i := 11) (v := ?_) rfl (by kernel_rfl) (by kernel_rfl) (by kernel_rfl) (fun _ _ _ h => h) (Or.inl ⟨by rfl, ?_⟩) (by assumption) ?_
      rotate_left 1
      · (intro w hSw; (obtain ⟨s0, s1, s2, s3, s4, s5⟩ := hSw); go_simp; try with_reducible rfl)
      try simp only [Act.put, List.getElem_toArray, List.getElem_cons_zero, List.getElem_cons_succ, List.setIfInBounds_toArray, List.set_cons_zero, List.set_cons_succ]
      refine wpAnyH_take (i := 12) (v := ?_) rfl (by kernel_rfl) (by kernel_rfl) (by kernel_rfl) (fun _ _ _ h => h) (Or.inl ⟨by rfl, ?_⟩) (by assumption) ?_
      rotate_left 1
      · (intro w hSw; (obtain ⟨s0, s1, s2, s3, s4, s5⟩ := hSw); go_simp; try with_reducible rfl)
      try simp only [Act.put, List.getElem_toArray, List.getElem_cons_zero, List.getElem_cons_succ, List.setIfInBounds_toArray, List.set_cons_zero, List.set_cons_succ]
      refine wpAnyH_ready (rs := [13]) (by kernel_rfl) (by simp) ?_
      refine AllReadyH.cons rfl (fun K hK => ?_) AllReadyH.nil
      go_simp
      refine hK.out _ _ (⟨gb_keeps (gb_alloc (Below.refl _ _) _) hHeld.1, gb_keeps (gb_alloc (Below.refl _ _) _) hHeld.2.1, gb_keeps (gb_alloc (Below.refl _ _) _) hHeld.2.2.1, gb_keeps (gb_alloc (Below.refl _ _) _) hHeld.2.2.2.1, gb_keeps (gb_alloc (Below.refl _ _) _) hHeld.2.2.2.2.1, gb_keeps (gb_alloc (Below.refl _ _) _) hHeld.2.2.2.2.2⟩) (fun hHeld => ?_)
      clear hK K
      try simp only [Act.put, List.getElem_toArray, List.getElem_cons_zero, List.getElem_cons_succ, List.setIfInBounds_toArray, List.set_cons_zero, List.set_cons_succ]
      refine wpAnyH_ready (rs := [14]) (by kernel_rfl) (by simp) ?_
      refine AllReadyH.cons rfl (fun K hK => ?_) AllReadyH.nil
      go_simp
      refine hK.out _ _ (K2.out) (fun hHeld => ?_)
      clear hK K
      try simp only [Act.put, List.getElem_toArray, List.getElem_cons_zero, List.getElem_cons_succ, List.setIfInBounds_toArray, List.set_cons_zero, List.set_cons_succ]
      refine wpAnyH_done (by kernel_rfl) ?_ _
      clear hHeld K2 FS2 m0 m1 m2 clast c4
      go_wp2_with fail
      go_fit cB2
      rintro e w3 ⟨rfl, g3⟩
      have G3 : Hid (Gb wr w3) := gb_trans G2.out g3
      have c30 := C3.out _ g3
      obtain ⟨cI, d2, d5, fr5⟩ := ICUT.out _ G3.out
      clear cB2 g3 G2 C3 ICUT c2 c5
      cases hbv : beyond q k seen p with
      | true =>
        have FF : Hid (RunO w0 T N sb hb k vq q R w3) := FIN.out _ G3.out (SS.out.1 hbv)
        clear FIN SS NEXT hbv cI
        go_wp2
        exact bodyPost_ret (v := .tuple #[]) (by simp [results, Tryz.results42, go_sem]) rfl ⟨rfl, FF.out⟩
      | false =>
        go_wp2_with fail
        go_fit cI
        rintro e w4 ⟨rfl, hw4⟩
        subst hw4
        cases hk : p.kids with
        | none =>
          by_cases hbz0 : bud = 0
          · have FF : Hid (RunO w0 T N sb hb k vq q R w4) := FIN.out _ G3.out (SS.out.2 hbv hk hbz0)
            have hbi : ((bud : Int) == 0) = true := by rw [hbz0]; rfl
            clear FIN SS NEXT hbv cI hk hbz0
            go_wp2
            exact bodyPost_ret (v := .tuple #[]) (by simp [results, Tryz.results42, go_sem]) rfl ⟨rfl, FF.out⟩
          · have cL := NEXT.out hbv (fun h => hbz0 h.2) w4 G3.out
            have hbi : ((bud : Int) == 0) = false := by rw [beq_eq_false_iff_ne]; omega
            have hbz : ¬ (bud : Int) = 0 := by omega
            have c40 := SBN.out w4 (.slice (some ⟨og, 0, none⟩) (no - 1) oc) c30
            clear FIN SS NEXT hbv cI hk hbz0 SBN
            go_wp2_with fail
            go_fit cL
            rintro e w5 ⟨rfl, hO⟩
            obtain ⟨g', hg', hI⟩ := hO.out
            have HI : Hid _ := hI
            clear cL hO hI c40 c30
            go_wp2
            go_roundg g'
            case measure => exact hg'
            case rel => exact HI
        | some lh =>
          have cL := NEXT.out hbv (fun h => by rw [hk] at h; cases h.1) w4 G3.out
          have c40 := SBN.out w4 (.slice (some ⟨og, 0, none⟩) (no - 1) oc) c30
          clear FIN SS NEXT hbv cI hk SBN
          go_wp2_with fail
          go_fit cL
          rintro e w5 ⟨rfl, hO⟩
          obtain ⟨g', hg', hI⟩ := hO.out
          have HI : Hid _ := hI
          clear cL hO hI c40 c30
          go_wp2
          go_roundg g'
          case measure => exact hg'
          case rel => exact HI
end Go.Proofs.YtbnljabeccebiaaGreat
