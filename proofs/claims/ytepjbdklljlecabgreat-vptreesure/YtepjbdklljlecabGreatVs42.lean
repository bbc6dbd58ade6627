import Derived.Test.YtepjbdklljlecabGreatVsKqLk
import Derived.Deep.LoopGhost
/- (*vptree.search).lookAt at a part that is cut. -/
namespace Go.Proofs.YtepjbdklljlecabGreat
open Go.RowKit Go.Sort

def LookN (w0 W' : World) (T : Nat → Pt) (N sb hb k : Nat) (vq : Value) (q : List Int) (bud : Nat) (seen : List Rw) (O _M : List (Nat × Pt)) (l h : Nat) : Prop := ∃ O' M' vs' vo' vh', SAt w0 W' T N sb hb k vq q bud seen O' M' vs' vo' vh' ∧ opn O' = insP q (T h) (insP q (T l) (opn O)) ∧ O'.length ≤ O.length + 2
set_option maxHeartbeats 1000000 in
set_option maxRecDepth 100000 in
theorem look_node {w0 W : World} {T : Nat → Pt} {N sb hb k : Nat} {vq : Value} {q : List Int} {bud : Nat} {seen : List Rw} {O M : List (Nat × Pt)} {vs vo vh : Value} {pb l h : Nat} {p : Pt} (hS : SAt w0 W T N sb hb k vq q bud seen O M vs vo vh) (hpM : (pb, p) ∈ M) (hk : p.kids = some (l, h))
    (hb1 : ckB (pr (T l)) q = 0) (hb2 : ckB (pr (T h)) q = 0) (hd : Dsc q (opn O)) (hof : O.length + 2 ≤ 10000) :
    Calls Tryz.prog 47 #[.pointer (some ⟨sb, 0, none⟩), .pointer (some ⟨pb, 0, none⟩)] W fun e W' => e = .returned (.tuple #[]) ∧ LookN w0 W' T N sb hb k vq q bud seen O M l h := by
  have key : ∀ (W' : World) (M' O' : List (Nat × Pt)) (vs vo vh : Value), SAt w0 W' T N sb hb k vq q bud seen O' M' vs vo vh → (pb, p) ∈ M' → W'.cell? ⟨pb, 10, none⟩ = some (.pointer (some ⟨l, 0, none⟩)) ∧ W'.cell? ⟨pb, 11, none⟩ = some (.pointer (some ⟨h, 0, none⟩)) ∧ MP w0 W' T N l (T l) ∧ MP w0 W' T N h (T h) := by
    intro W' M' O' vs vo vh hS hm
    have hp := hS.prt _ hm
    dsimp only at hp
    obtain ⟨vl, vh0, vr, hblk, _, _, _, hrs⟩ := hp
    have a := cell_cur (i := 10) (v := kidV (p.kids.map Prod.fst)) hblk rfl
    have b := cell_cur (i := 11) (v := kidV (p.kids.map Prod.snd)) hblk rfl
    rw [hk] at hrs a b
    exact ⟨a, b, hrs.2.1.mono.mp hS.gb, hrs.2.2.mono.mp hS.gb⟩
  obtain ⟨c10, _, hml, _⟩ := key W M O vs vo vh hS hpM
  have cI : Calls Tryz.prog 46 #[.pointer (some ⟨pb, 0, none⟩)] W fun e w' => e = .returned (.bool true) ∧ w' = W := by
    go_enter Tryz.func46, Tryz.ntmps46
    go_wp2
    go_ret
    exact ⟨rfl, rfl⟩
  have c1 := await_c hS hml hb1 hd (by omega)
  have NX : Hid (∀ w1, (∃ O' vo', SAt w0 w1 T N sb hb k vq q bud seen O' (M ++ [(l, T l)]) vs vo' vh ∧ opn O' = insP q (T l) (opn O) ∧ O'.length = O.length + 1) → w1.cell? ⟨pb, 11, none⟩ = some (.pointer (some ⟨h, 0, none⟩)) ∧
      Calls Tryz.prog 21 #[.pointer (some ⟨sb, 0, none⟩), .pointer (some ⟨h, 0, none⟩)] w1 fun e W' => e = .returned (.tuple #[]) ∧ LookN w0 W' T N sb hb k vq q bud seen O M l h) := by
    rintro w1 ⟨O', vo', h1, e1, l1⟩
    obtain ⟨_, c11, _, hmh⟩ := key w1 (M ++ [(l, T l)]) O' vs vo' vh h1 (List.mem_append_left _ hpM)
    refine ⟨c11, ?_⟩
    refine (await_c h1 hmh hb2 (by rw [e1]; exact insP_dsc q _ _ hd) (by omega)).mono ?_
    rintro e w2 ⟨rfl, O2, vo2, h2, e2, l2⟩
    exact ⟨rfl, O2, _, vs, vo2, vh, h2, by rw [e2, e1], by omega⟩
  clear hS key hml hd
  go_enter Tryz.func47, Tryz.ntmps47
  go_wp2_with fail
  go_fit cI
  rintro e W ⟨rfl, rfl⟩
  clear cI
  go_wp2_with fail
  go_fit c1
  rintro e w1 ⟨rfl, hO⟩
  obtain ⟨c11, c2⟩ := NX.out _ hO
  clear c1 hO NX c10
  go_wp2_with fail
  go_fit c2
  rintro e w2 ⟨rfl, hO⟩
  have H : Hid _ := hO
  clear hO c2
  go_wp2
  exact bodyPost_ret (v := .tuple #[]) (by simp [results, Tryz.results47, go_sem]) rfl ⟨rfl, H.out⟩
end Go.Proofs.YtepjbdklljlecabGreat

/- (*vptree.search).run. -/
namespace Go.Proofs.YtepjbdklljlecabGreat
open Go.RowKit Go.Sort

theorem runS_add {T : Nat → Pt} {q : List Int} {k : Nat} : ∀ a b s, runS T q k (a + b) s = runS T q k b (runS T q k a s)
  | 0, b, s => by rw [Nat.zero_add]; rfl
  | a + 1, b, s => by
    rw [show a + 1 + b = (a + b) + 1 by omega, runS, runS]
    cases e : stepS T q k s with
    | none => exact (runS_stop e b).symm
    | some s' => exact runS_add a b s'
theorem run_next {T : Nat → Pt} {d N : Nat} {q : List Int} {k b0 : Nat} {rs : List Rw} {s s' : Sr} (h : InvS T d N q b0 rs s) (e : stepS T q k s = some s') : runS T q k (wtS T N s) s = runS T q k (wtS T N s') s' := by
  obtain ⟨h1, h2⟩ := step_inv h e
  obtain ⟨n, hn⟩ : ∃ n, wtS T N s = n + 1 := ⟨wtS T N s - 1, by omega⟩
  rw [hn, runS, e]
  dsimp only
  have h3 := (run_inv (k := k) (wtS T N s') s' h1 (Nat.le_refl _)).2
  rw [show n = wtS T N s' + (n - wtS T N s') by omega, runS_add, runS_stop h3]
theorem box_ckB {d : Nat} {p : Pt} {rs : List Rw} {q : List Int} (h : BoxOk d p rs) (hq : chk q (d : Int) = 0) : ckB (pr p) q = 0 ∧ (∀ r ∈ rs, chk r.2 (q.length : Int) = 0) ∧ chk q (q.length : Int) = 0 := by
  have hl := (chk_ok hq).2.2.1
  rw [hl] at hq
  refine ⟨?_, fun r hr => by rw [← hl]; exact (h.2 r hr).1, hq⟩
  have h1 := h.1
  rw [hl] at h1
  unfold ckB
  rw [if_pos h1]
  exact hq
theorem iscut_mp {w0 W : World} {T : Nat → Pt} {N pb : Nat} {p : Pt} (h : MP w0 W T N pb p) : Calls Tryz.prog 46 #[.pointer (some ⟨pb, 0, none⟩)] W fun e w' => e = .returned (.bool p.kids.isSome) ∧ w' = W := by
  obtain ⟨vl, vh0, vr, hblk, _⟩ := h
  have c10 := cell_cur (i := 10) (v := kidV (p.kids.map Prod.fst)) hblk rfl
  clear hblk
  cases hk : p.kids with
  | none =>
    rw [hk] at c10
    dsimp only [Option.map, kidV] at c10
    clear hk
    go_enter Tryz.func46, Tryz.ntmps46
    go_wp2
    go_ret
    exact ⟨rfl, rfl⟩
  | some lh =>
    rw [hk] at c10
    dsimp only [Option.map, kidV] at c10
    clear hk
    go_enter Tryz.func46, Tryz.ntmps46
    go_wp2
    go_ret
    exact ⟨rfl, rfl⟩
/-- Where a search stands, g steps ahead of its end. -/
def RunI (w0 : World) (T : Nat → Pt) (d N sb hb k : Nat) (vq : Value) (q : List Int) (b0 : Nat) (rs : List Rw) (R : Sr) (g : Nat) (W : World) : Prop :=
  ∃ bud seen O M vs vo vh, SAt w0 W T N sb hb k vq q bud seen O M vs vo vh ∧ InvS T d N q b0 rs ⟨seen, bud, opn O⟩ ∧ g = wtS T N ⟨seen, bud, opn O⟩ ∧ runS T q k g ⟨seen, bud, opn O⟩ = R ∧ O.length + 2 * g ≤ 9000
def RunO (w0 : World) (T : Nat → Pt) (N sb hb k : Nat) (vq : Value) (q : List Int) (R : Sr) (W : World) : Prop :=
  ∃ O M vs vo vh, SAt w0 W T N sb hb k vq q R.bud R.seen O M vs vo vh ∧ opn O = R.opn
theorem run_fin {w0 W W' : World} {T : Nat → Pt} {N sb hb k : Nat} {vq : Value} {q : List Int} {R : Sr} {g bud : Nat} {seen : List Rw} {O M : List (Nat × Pt)} {vs vo vh : Value} (h : SAt w0 W T N sb hb k vq q bud seen O M vs vo vh) (hr : runS T q k g ⟨seen, bud, opn O⟩ = R) (e : stepS T q k ⟨seen, bud, opn O⟩ = none) (gb : Gb W W') : RunO w0 T N sb hb k vq q R W' := by
  rw [runS_stop e] at hr
  subst hr
  exact ⟨O, M, vs, vo, vh, h.grow gb, rfl⟩
theorem opn_last {O : List (Nat × Pt)} (hO : O ≠ []) : ∃ hl : O.length - 1 < O.length, (opn O).getLast? = some (O[O.length - 1]).2 ∧ (opn O).dropLast = opn O.dropLast ∧ O[O.length - 1] ∈ O := by
  have hl : O.length - 1 < O.length := by have := List.length_pos_iff.2 hO; omega
  refine ⟨hl, ?_, ?_, List.getElem_mem hl⟩
  · unfold opn
    rw [List.getLast?_map, List.getLast?_eq_some_getLast hO, List.getLast_eq_getElem]
    rfl
  · unfold opn; rw [List.map_dropLast]
theorem look_next {w0 W' : World} {T : Nat → Pt} {d N sb hb k : Nat} {vq : Value} {q : List Int} {b0 : Nat} {rs : List Rw} {R : Sr} {bud : Nat} {seen : List Rw} {O : List (Nat × Pt)} {s' : Sr} (hi : InvS T d N q b0 rs ⟨seen, bud, opn O⟩) (hr : runS T q k (wtS T N ⟨seen, bud, opn O⟩) ⟨seen, bud, opn O⟩ = R) (ho : O.length + 2 * wtS T N ⟨seen, bud, opn O⟩ ≤ 9000)
    (e : stepS T q k ⟨seen, bud, opn O⟩ = some s') (hs : ∃ O' M' vs' vo' vh', SAt w0 W' T N sb hb k vq q s'.bud s'.seen O' M' vs' vo' vh' ∧ opn O' = s'.opn ∧ O'.length ≤ O.length + 2) :
    wtS T N s' < wtS T N ⟨seen, bud, opn O⟩ ∧ RunI w0 T d N sb hb k vq q b0 rs R (wtS T N s') W' := by
  obtain ⟨O', M', vs', vo', vh', h1, h2, h4⟩ := hs
  obtain ⟨i1, i2⟩ := step_inv hi e
  have es : s' = ⟨s'.seen, s'.bud, opn O'⟩ := by rw [h2]
  refine ⟨i2, s'.bud, s'.seen, O', M', vs', vo', vh', h1, by rw [← es]; exact i1, by rw [← es], by rw [← es, ← run_next hi e]; exact hr, by omega⟩
set_option maxHeartbeats 4000000 in
set_option maxRecDepth 100000 in
theorem run_c {w0 W : World} {T : Nat → Pt} {d N sb hb k : Nat} {vq : Value} {q : List Int} {b0 : Nat} {rs : List Rw} {R : Sr} {g : Nat} (hR : RunI w0 T d N sb hb k vq q b0 rs R g W) (hq : chk q (d : Int) = 0) (hrs : rs.length ≤ 512) (hb0 : b0 ≤ 1000000) :
    Calls Tryz.prog 22 #[.pointer (some ⟨sb, 0, none⟩)] W fun e W' => e = .returned (.tuple #[]) ∧ RunO w0 T N sb hb k vq q R W' := by
  have HR : Hid (RunI w0 T d N sb hb k vq q b0 rs R g W) := hR
  have HQ : Hid (chk q (d : Int) = 0 ∧ rs.length ≤ 512 ∧ b0 ≤ 1000000) := ⟨hq, hrs, hb0⟩
  clear hR hq hrs hb0
  go_enter Tryz.func22, Tryz.ntmps22
  go_wp2_with fail
  go_loopg [] g (fun g wx => Hid (RunI w0 T d N sb hb k vq q b0 rs R g wx))
  case atStart => exact HR.out
  case round =>
    clear HR
    obtain ⟨bud, seen, O, M, vs, vo, vh, hS, hi', hg, hr, ho⟩ := hrel.out
    subst hg
    obtain ⟨_, _, c2, _, c4, fz⟩ := hS.cells
    by_cases hO : O = []
    · have hst : stepS T q k ⟨seen, bud, opn O⟩ = none := by rw [hO]; rfl
      have FF : Hid (RunO w0 T N sb hb k vq q R wr) := run_fin hS hr hst (Below.refl _ _)
      obtain ⟨oa, oc, eo⟩ : ∃ oa oc, vo = .slice oa 0 oc := by
        rcases hS.form with ⟨_, e⟩ | ⟨g, cap, e, _⟩
        · exact ⟨_, _, e⟩
        · exact ⟨some ⟨g, 0, none⟩, cap, by rw [e, hO]; rfl⟩
      subst eo
      clear hS hi' hr ho hst hrel c2 fz
      go_wp2
      go_end0
      exact ⟨rfl, FF.out⟩
    · obtain ⟨og, oc, eo, hoc, hcd⟩ : ∃ og oc, vo = .slice (some ⟨og, 0, none⟩) O.length oc ∧ O.length ≤ oc ∧ CdAt wr q og O := by
        rcases hS.form with ⟨e, _⟩ | h
        · exact absurd e hO
        · exact h
      obtain ⟨hli, hgl, hdl, hmm⟩ := opn_last hO
      obtain ⟨m0, m1, m2⟩ := hcd _ hli
      have hol : 0 < O.length := List.length_pos_iff.2 hO
      subst eo
      generalize hx : O[O.length - 1] = x at *
      obtain ⟨pb, p⟩ := x
      try dsimp only at hgl m0 m1 m2
      have cBe := fun W' (g : Gb wr W') => isBeyond_c (hS.grow g) pb p
      have okp := hi'.ok p (List.mem_of_getLast? hgl)
      have hbudle : bud ≤ 1000000 := by have h1 := hi'.bud; have h2 := HQ.out.2.2; dsimp only at h1; omega
      have SN : ∀ b, stepS T q k ⟨seen, bud, opn O⟩ = b → (beyond q k seen p = true → b = none) ∧ (beyond q k seen p = false → p.kids = none → bud = 0 → b = none) ∧ (beyond q k seen p = false → ¬ (p.kids = none ∧ bud = 0) → b = some (look T q ⟨seen, bud, opn O⟩ p (opn O.dropLast))) := by
        intro b hb
        unfold stepS at hb
        rw [hgl] at hb
        dsimp only at hb
        refine ⟨fun h => ?_, fun h h1 h2 => ?_, fun h h1 => ?_⟩
        · rw [if_pos h] at hb; exact hb.symm
        · rw [if_neg (by rw [h]; decide), if_pos ⟨h1, h2⟩] at hb; exact hb.symm
        · rw [if_neg (by rw [h]; decide), if_neg h1, hdl] at hb; exact hb.symm
      have FIN : Hid (∀ W', Gb wr W' → stepS T q k ⟨seen, bud, opn O⟩ = none → RunO w0 T N sb hb k vq q R W') := fun W' g e => run_fin hS hr e g
      have POP : ∀ w3, Gb wr w3 → SAt w0 (w3.setCell ⟨sb, 4, none⟩ (.slice (some ⟨og, 0, none⟩) (O.length - 1) oc)) T N sb hb k vq q bud seen O.dropLast M vs (.slice (some ⟨og, 0, none⟩) (O.length - 1) oc) vh := fun w3 g => (hS.grow g).pop rfl hO
      have hpb : (pb, p) ∈ M := hS.sub _ hmm
      have dsc' : Dsc q (opn O.dropLast) := by rw [← hdl]; exact hi'.dsc.sublist (List.dropLast_sublist _)
      have olen : O.dropLast.length = O.length - 1 := List.length_dropLast
      have wpos : 0 < wtS T N ⟨seen, bud, opn O⟩ := by
        unfold wtS
        have := last_split hgl
        dsimp only
        rw [this, List.map_append, List.sum_append]
        simp only [List.map_cons, List.map_nil, List.sum_cons, List.sum_nil]
        have := wtP_pos T N p
        omega
      have NEXT : Hid (beyond q k seen p = false → ¬ (p.kids = none ∧ bud = 0) → ∀ w3, Gb wr w3 → Calls Tryz.prog 47 #[.pointer (some ⟨sb, 0, none⟩), .pointer (some ⟨pb, 0, none⟩)] (w3.setCell ⟨sb, 4, none⟩ (.slice (some ⟨og, 0, none⟩) (O.length - 1) oc)) fun e W' => e = .returned (.tuple #[]) ∧ Hid (∃ g', g' < wtS T N ⟨seen, bud, opn O⟩ ∧ RunI w0 T d N sb hb k vq q b0 rs R g' W')) := by
        intro hbf hnb w3 g3
        have est := (SN _ rfl).2.2 hbf hnb
        cases hk : p.kids with
        | none =>
          obtain ⟨hne, hbox⟩ := (okP_leaf hk N).1 okp
          obtain ⟨b1, b2, b3⟩ := box_ckB hbox HQ.out.1
          have hse : seen.length + p.rs.length ≤ 512 := by
            have h1 := hi'.rows.length_eq
            have h2 := last_split hgl
            dsimp only at h1
            rw [h2, List.flatMap_append, List.length_append, List.length_append] at h1
            simp only [List.flatMap_cons, List.flatMap_nil, List.append_nil] at h1
            rw [rowsP_leaf hk] at h1
            have := HQ.out.2.1
            omega
          refine (look_leaf (POP w3 g3) hpb hk b1 b2 b3 dsc' (by omega) hse hbudle rfl).mono ?_
          rintro e W' ⟨rfl, O', M', vs', vo', vh', h1, h2, h4⟩
          have el : look T q ⟨seen, bud, opn O⟩ p (opn O.dropLast) = ⟨seen ++ p.rs.take (min bud p.rs.length), bud - min bud p.rs.length, if min bud p.rs.length < p.rs.length then insP q ⟨p.reg, p.rs.drop (min bud p.rs.length), (0, 0, 0), none⟩ (opn O.dropLast) else opn O.dropLast⟩ := by unfold look; rw [hk]
          rw [el] at est
          obtain ⟨q1, q2⟩ := look_next hi' hr ho est ⟨O', M', vs', vo', vh', h1, h2, by omega⟩
          exact ⟨rfl, _, q1, q2⟩
        | some lh =>
          obtain ⟨l, h⟩ := lh
          obtain ⟨m', _, o1, o2, _⟩ := okP_node hk okp
          refine (look_node (POP w3 g3) hpb hk (box_ckB (okP_box o1) HQ.out.1).1 (box_ckB (okP_box o2) HQ.out.1).1 dsc' (by omega)).mono ?_
          rintro e W' ⟨rfl, O', M', vs', vo', vh', h1, h2, h4⟩
          have el : look T q ⟨seen, bud, opn O⟩ p (opn O.dropLast) = ⟨seen, bud, insP q (T h) (insP q (T l) (opn O.dropLast))⟩ := by unfold look; rw [hk]
          rw [el] at est
          obtain ⟨q1, q2⟩ := look_next hi' hr ho est ⟨O', M', vs', vo', vh', h1, h2, by omega⟩
          exact ⟨rfl, _, q1, q2⟩
      have ICUT : Hid (∀ w3, Gb wr w3 → (Calls Tryz.prog 46 #[.pointer (some ⟨pb, 0, none⟩)] w3 fun e w' => e = .returned (.bool p.kids.isSome) ∧ w' = w3) ∧ w3.cell? ⟨sb, 2, none⟩ = some (.int .i64 (bud : Int)) ∧ w3.cell? ⟨sb, 4, none⟩ = some (.slice (some ⟨og, 0, none⟩) O.length oc) ∧ w3.frozen? ⟨sb, 4, none⟩ = false) := fun w3 g => ⟨iscut_mp ((hS.prt _ hpb).gb g), gb_keeps g c2, gb_keeps g c4, (hS.grow g).cells.2.2.2.2.2 4⟩
      obtain ⟨bh, hbh⟩ : ∃ bh, bh = hi (bnd q p) := ⟨_, rfl⟩
      obtain ⟨bl, hbl⟩ : ∃ bl, bl = lo (bnd q p) := ⟨_, rfl⟩
      rw [← hbh] at m1
      rw [← hbl] at m2
      rw [← hbh, ← hbl] at cBe
      have CBE : Hid (∀ W', Gb wr W' → Calls Tryz.prog 45 #[.pointer (some ⟨sb, 0, none⟩), .agg #[.pointer (some ⟨pb, 0, none⟩), .int .u64 bh, .int .u64 bl]] W' fun e W'' => e = .returned (.bool (beyond q k seen p)) ∧ Gb W' W'') := cBe
      have sbne : ∀ (W' : World) (u : Value) {i : Nat} {y : Value}, W'.cell? ⟨wr.heap.size, i, none⟩ = some y → (W'.setCell ⟨sb, 4, none⟩ u).cell? ⟨wr.heap.size, i, none⟩ = some y := fun W' u i y hc => ((Tk.Kp.refl (fun b => b = sb) W').setCell (.inl rfl) u).cell hc (by intro e; have := (Array.getElem?_eq_some_iff.1 hS.blk).1; dsimp only at e; omega)
      have SBN : Hid (∀ (W' : World) (u : Value) {i : Nat} {y : Value}, W'.cell? ⟨wr.heap.size, i, none⟩ = some y → (W'.setCell ⟨sb, 4, none⟩ u).cell? ⟨wr.heap.size, i, none⟩ = some y) := sbne
      have SS : Hid ((beyond q k seen p = true → stepS T q k ⟨seen, bud, opn O⟩ = none) ∧ (beyond q k seen p = false → p.kids = none → bud = 0 → stepS T q k ⟨seen, bud, opn O⟩ = none)) := ⟨(SN _ rfl).1, (SN _ rfl).2.1⟩
      clear hx hli hmm hpb
      generalize hno : O.length = no at *
      have G2 : Hid (Gb wr (wr.alloc (.cells #[.pointer (some ⟨pb, 0, none⟩), .int .u64 bh, .int .u64 bl] 104))) := gb_alloc (Below.refl _ _) _
      have cB2 := CBE.out _ G2.out
      have hno1 : (0 : Int) < (no : Int) := by omega
      have hno2 : (no : Int) - 1 = ((no - 1 : Nat) : Int) := by omega
      have hno3 : ((no - 1 : Nat) : Int) < (no : Int) := by omega
      have hno4 : (no : Int) ≤ 10000 := by omega
      have hno5 : ((no - 1 : Nat) : Int) ≤ (oc : Int) := by omega
      have C3 : Hid (∀ w3, Gb (wr.alloc (.cells #[.pointer (some ⟨pb, 0, none⟩), .int .u64 bh, .int .u64 bl] 104)) w3 → w3.cell? ⟨wr.heap.size, 0, none⟩ = some (.pointer (some ⟨pb, 0, none⟩))) := fun w3 g => gb_keeps g (by simp [go_sem])
      clear hS hi' hr ho hrel hgl hdl okp fz dsc' olen wpos SN POP sbne cBe hoc hno hbh hbl hbudle hO hol CBE hcd
      go_wp2_with fail
      go_fit cB2
      rintro e w3 ⟨rfl, g3⟩
      have G3 : Hid (Gb wr w3) := gb_trans G2.out g3
      have c30 := C3.out _ g3
      obtain ⟨cI, d2, d5, fr5⟩ := ICUT.out _ G3.out
      clear cB2 g3 G2 C3 ICUT c2 c4 m0 m1 m2
      cases hbv : beyond q k seen p with
      | true =>
        have FF : Hid (RunO w0 T N sb hb k vq q R w3) := FIN.out _ G3.out (SS.out.1 hbv)
        clear FIN SS NEXT hbv cI
        go_wp2
        exact bodyPost_ret (v := .tuple #[]) (by simp [results, Tryz.results22, go_sem]) rfl ⟨rfl, FF.out⟩
      | false =>
        go_wp2_with fail
        go_fit cI
        rintro e w4 ⟨rfl, hw4⟩
        subst hw4
        cases hk : p.kids with
        | none =>
          by_cases hbz0 : bud = 0
          · have FF : Hid (RunO w0 T N sb hb k vq q R w4) := FIN.out _ G3.out (SS.out.2 hbv hk hbz0)
            have hbi : ((bud : Int) == 0) = true := by rw [hbz0]; rfl
            clear FIN SS NEXT hbv cI hk hbz0
            go_wp2
            exact bodyPost_ret (v := .tuple #[]) (by simp [results, Tryz.results22, go_sem]) rfl ⟨rfl, FF.out⟩
          · have cL := NEXT.out hbv (fun h => hbz0 h.2) w4 G3.out
            have hbi : ((bud : Int) == 0) = false := by rw [beq_eq_false_iff_ne]; omega
            have hbz : ¬ (bud : Int) = 0 := by omega
            have c40 := SBN.out w4 (.slice (some ⟨og, 0, none⟩) (no - 1) oc) c30
            clear FIN SS NEXT hbv cI hk hbz0 SBN
            go_wp2_with fail
            go_fit cL
            rintro e w5 ⟨rfl, hO⟩
            obtain ⟨g', hg', hI⟩ := hO.out
            have HI : Hid _ := hI
            clear cL hO hI c40 c30
            go_wp2
            go_roundg g'
            case measure => exact hg'
            case rel => exact HI
        | some lh =>
          have cL := NEXT.out hbv (fun h => by rw [hk] at h; cases h.1) w4 G3.out
          have c40 := SBN.out w4 (.slice (some ⟨og, 0, none⟩) (no - 1) oc) c30
          clear FIN SS NEXT hbv cI hk SBN
          go_wp2_with fail
          go_fit cL
          rintro e w5 ⟨rfl, hO⟩
          obtain ⟨g', hg', hI⟩ := hO.out
          have HI : Hid _ := hI
          clear cL hO hI c40 c30
          go_wp2
          go_roundg g'
          case measure => exact hg'
          case rel => exact HI
end Go.Proofs.YtepjbdklljlecabGreat
