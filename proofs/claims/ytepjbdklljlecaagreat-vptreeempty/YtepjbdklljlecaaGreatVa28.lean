import Derived.Test.YtepjbdklljlecaaGreatVa27
import Derived.Test.YtepjbdklljlecaaGreatVa9
/- The law's tree: it lies in blocks that are younger than what was handed in. -/
namespace Go.Proofs.YtepjbdklljlecaaGreat
open Go.RowKit Go.Sort

theorem put_old {Iq : Nat → Prop} {w0 W : World} {tb m leaf : Nat} {rs : List Rw} {F : List Nat} {xi : Int} {u : Value} {xl : List Int} (h : TreeAt Iq W tb m leaf rs F) (g : Gb w0 W) (hu : RdI w0 u xl) (hF : ∀ x ∈ F, w0.heap.size ≤ x) :
    Calls Tryz.prog 24 #[.pointer (some ⟨tb, 0, none⟩), .agg #[.int .i64 xi, u]] W fun e w' => e = .returned (.tuple #[.bool (decide (putE m rs (xi, xl) = 0) && !hasId rs xi), .int .i64 (putE m rs (xi, xl))]) ∧ TOut Iq W tb m leaf F (if putE m rs (xi, xl) = 0 then putRw rs (xi, xl) else rs) w' := by
  by_cases hx : xl = []
  · subst hx
    have hm := h.rok.2
    have h2 : chk [] (m : Int) ≠ 0 := fun e => by
      have := (chk_ok e).2.2.1
      simp at this
      omega
    have fin : ∀ e0 : Int, putE m rs (xi, []) = e0 → e0 ≠ 0 → (Calls Tryz.prog 24 #[.pointer (some ⟨tb, 0, none⟩), .agg #[.int .i64 xi, u]] W fun e w' => e = .returned (.tuple #[.bool false, .int .i64 e0]) ∧ Gb W w') → Calls Tryz.prog 24 #[.pointer (some ⟨tb, 0, none⟩), .agg #[.int .i64 xi, u]] W fun e w' => e = .returned (.tuple #[.bool (decide (putE m rs (xi, []) = 0) && !hasId rs xi), .int .i64 (putE m rs (xi, []))]) ∧ TOut Iq W tb m leaf F (if putE m rs (xi, []) = 0 then putRw rs (xi, []) else rs) w' := by
      intro e0 he h0 c
      refine c.mono ?_
      rintro e w' ⟨rfl, g⟩
      rw [he, if_neg h0, decide_eq_false h0]
      exact ⟨rfl, F, h.gb g, fun y hy => .inl hy, Tk.Kp.of_gr g⟩
    by_cases h1 : okId xi = true
    · exact fin _ (by unfold putE; rw [if_pos h1, if_neg h2]) h2 (put_chk h (hu.gb g) h1 rfl h2)
    · exact fin 50 (by unfold putE; rw [if_neg h1]) (by decide) (put_id h (hu.gb g) (Bool.eq_false_iff.2 h1))
  · refine put_c h (hu.gb g) ?_
    intro b o n c e hb
    obtain ⟨a, c', e', hc⟩ := hu
    rw [e'] at e
    cases e
    obtain ⟨b', o', e2, hcell⟩ := hc 0 (List.length_pos_iff.2 hx)
    cases e2
    have h1 := World.block_lt_of_cell? w0 _ hcell
    have h2 := hF _ hb
    exact absurd h1 (Nat.not_lt.2 h2)

/-- The law's tree. -/
def TrW (Iq : Nat → Prop) (w0 : World) (tb m leaf : Nat) (rs : List Rw) (W : World) : Prop := ∃ F, TreeAt Iq W tb m leaf rs F ∧ (∀ x ∈ F, w0.heap.size ≤ x) ∧ Gb w0 W
theorem TrW.gb {Iq : Nat → Prop} {w0 W W' : World} {tb m leaf : Nat} {rs : List Rw} (h : TrW Iq w0 tb m leaf rs W) (g : Gb W W') : TrW Iq w0 tb m leaf rs W' := by
  obtain ⟨F, t, hF, g0⟩ := h
  exact ⟨F, t.gb g, hF, gb_trans g0 g⟩
theorem TrW.old {Iq : Nat → Prop} {w0 W : World} {tb m leaf : Nat} {rs : List Rw} (h : TrW Iq w0 tb m leaf rs W) : Gb w0 W := by
  obtain ⟨_, _, _, g⟩ := h
  exact g
theorem TrW.out {Iq : Nat → Prop} {w0 W W' : World} {tb m leaf : Nat} {rs' : List Rw} {F : List Nat} (hF : ∀ x ∈ F, w0.heap.size ≤ x) (g : Gb w0 W) (h : TOut Iq W tb m leaf F rs' W') : TrW Iq w0 tb m leaf rs' W' := by
  obtain ⟨F', t, l, k⟩ := h
  have s := g.size
  refine ⟨F', t, fun x hx => ?_, g.trans (k.gr s hF)⟩
  rcases l x hx with h | h
  · exact hF x h
  · omega
theorem trw_put {Iq : Nat → Prop} {w0 W : World} {tb m leaf : Nat} {rs : List Rw} {u : Value} {xl : List Int} (h : TrW Iq w0 tb m leaf rs W) (xi : Int) (hu : RdI w0 u xl) :
    Calls Tryz.prog 24 #[.pointer (some ⟨tb, 0, none⟩), .agg #[.int .i64 xi, u]] W fun e w' => e = .returned (.tuple #[.bool (decide (putE m rs (xi, xl) = 0) && !hasId rs xi), .int .i64 (putE m rs (xi, xl))]) ∧ TrW Iq w0 tb m leaf (if putE m rs (xi, xl) = 0 then putRw rs (xi, xl) else rs) w' := by
  obtain ⟨F, t, hF, g⟩ := h
  exact (put_old t g hu hF).mono fun e w' ⟨h1, h2⟩ => ⟨h1, TrW.out hF g h2⟩
theorem trw_del {Iq : Nat → Prop} {w0 W : World} {tb m leaf : Nat} {rs : List Rw} (h : TrW Iq w0 tb m leaf rs W) (id : Int) :
    Calls Tryz.prog 26 #[.pointer (some ⟨tb, 0, none⟩), .int .i64 id] W fun e w' => e = .returned (.tuple #[.bool (hasId rs id), .int .i64 0]) ∧ TrW Iq w0 tb m leaf (delRw rs id) w' := by
  obtain ⟨F, t, hF, g⟩ := h
  exact (delete_c t id).mono fun e w' ⟨h1, h2⟩ => ⟨h1, TrW.out hF g h2⟩
theorem trw_len {Iq : Nat → Prop} {w0 W : World} {tb m leaf : Nat} {rs : List Rw} (h : TrW Iq w0 tb m leaf rs W) :
    Calls Tryz.prog 23 #[.pointer (some ⟨tb, 0, none⟩)] W fun e w' => e = .returned (.int .i64 (rs.length : Nat)) ∧ w' = W := by
  obtain ⟨F, t, _⟩ := h
  exact len_c t
theorem trw_rows {Iq : Nat → Prop} {w0 W : World} {tb m leaf : Nat} {rs : List Rw} (h : TrW Iq w0 tb m leaf rs W) :
    Calls Tryz.prog 21 #[.pointer (some ⟨tb, 0, none⟩)] W fun e w' => ∃ v', e = .returned v' ∧ OwnC w' W.heap.size v' rs ∧ Gb W w' := by
  obtain ⟨F, t, _⟩ := h
  exact rows_c t
/-- A built tree is the law's. -/
theorem trw_of {Iq : Nat → Prop} {w W : World} {m leaf : Nat} {rs : List Rw} {e : Ending} (h : TreeOut Iq w m leaf rs e W) : ∃ tb rs', e = .returned (.tuple #[.pointer (some ⟨tb, 0, none⟩), .int .i64 0]) ∧ TrW Iq w tb m leaf rs' W ∧ rs'.Perm rs ∧ Ris rs' := by
  obtain ⟨tb, rs', F, e1, t, p, g, hF⟩ := h
  exact ⟨tb, rs', e1, ⟨F, t, hF, g⟩, p, t.ris⟩
/-- What a search answers whose budget is for all; k: how many. -/
def WhO (Iq : Nat → Prop) (w0 : World) (tb m leaf : Nat) (rs : List Rw) (q : List Int) (k b : Int) (e : Ending) (W' : World) : Prop := ∃ a1 n1 c1 a2 n2 c2 a3 n3 c3, e = .returned (.tuple #[.agg #[.slice a1 n1 c1, .slice a2 n2 c2, .slice a3 n3 c3], .int .i64 (srchE m q k b)]) ∧
  TrW Iq w0 tb m leaf rs W' ∧ ((srchE m q k b ≠ 0 ∨ rs = []) → n1 = 0 ∧ n2 = 0 ∧ n3 = 0) ∧ (srchE m q k b = 0 → rs.length ≤ b → Tk.Own W' (.slice a1 n1 c1) (Tk.firsts k.toNat (hitsOf q rs)).toArray) ∧ n2 ≤ rs.length ∧ (srchE m q k b ≠ 0 → a1 = none ∧ c1 = 0)
theorem trw_search {Iq : Nat → Prop} {w0 W : World} {tb m leaf : Nat} {rs : List Rw} (h : TrW Iq w0 tb m leaf rs W) {u : Value} {q : List Int} (hu : RdI W u q) (k b : Int) :
    Calls Tryz.prog 19 #[.pointer (some ⟨tb, 0, none⟩), u, .int .i64 k, .int .i64 b] W fun e W' => WhO Iq w0 tb m leaf rs q k b e W' := by
  have h0 := h
  obtain ⟨F, t, hF, g⟩ := h0
  by_cases hz : srchE m q k b = 0
  · obtain ⟨hq, hk, hb⟩ := srchE_zero.1 hz
    obtain ⟨K, rfl⟩ := Int.eq_ofNat_of_zero_le (show 0 ≤ k by omega)
    obtain ⟨B, rfl⟩ := Int.eq_ofNat_of_zero_le hb.1
    obtain ⟨T, N, R, hI, hs, c⟩ := kd_search t hq (k := K) (b := B) (by omega) (by omega)
    refine (c W u (Below.refl _ _) hu).mono ?_
    rintro e W' ⟨vh, vs, vr, rfl, hA⟩
    obtain ⟨a3, c3, e3⟩ := hA.rest.form
    obtain ⟨a2, c2, e2, _⟩ := hA.seen.rd
    have hl : (srt (idsOf R.seen)).length = R.seen.length := by rw [srt_len]; simp [idsOf]
    have hrl := hI.rows.length_eq
    rw [List.length_append] at hrl
    have h1 : ∃ a1 c1, vh = .slice a1 (Tk.firsts K (hitsOf q R.seen)).length c1 := by
      rcases hA.hits.2 with ⟨e, h0⟩ | ⟨g', cap, cur, e, _⟩
      · exact ⟨none, 0, by rw [e]; simp only [List.size_toArray] at h0; rw [h0]⟩
      · exact ⟨some ⟨g', 0, none⟩, cap, by rw [e]; simp⟩
    obtain ⟨a1, c1, e1⟩ := h1
    subst e1 e2 e3
    refine ⟨a1, _, c1, a2, _, c2, a3, _, c3, by rw [hz], h.gb hA.gb, ?_, ?_, by omega, fun hn => absurd hz hn⟩
    · rintro (hn | rfl)
      · exact absurd hz hn
      · simp only [List.length_nil] at hrl
        have hs0 : R.seen = [] := List.length_eq_zero_iff.1 (by omega)
        have ho : R.opn = [] := by
          cases ho : R.opn with
          | nil => rfl
          | cons p r =>
            have h3 := List.length_pos_iff.2 (okP_ne N p (hI.ok p (by rw [ho]; exact List.mem_cons_self)))
            rw [ho, List.flatMap_cons, List.length_append] at hrl
            omega
        refine ⟨?_, ?_, ?_⟩
        · rw [hs0, Tk.firsts_len]; simp [hitsOf]
        · rw [hl, hs0]; rfl
        · rw [ho]; rfl
    · intro _ hlb
      have := hA.hits
      rw [search_whole hq hI hs (.inl (by omega))] at this
      rw [search_whole hq hI hs (.inl (by omega))]
      exact this
  · refine (ksearch_no t hu k b hz).mono ?_
    rintro e W' ⟨rfl, g'⟩
    exact ⟨none, 0, 0, none, 0, 0, none, 0, 0, rfl, h.gb g', fun _ => ⟨rfl, rfl, rfl⟩, fun e => absurd e hz, Nat.zero_le _, fun _ => ⟨rfl, rfl⟩⟩
end Go.Proofs.YtepjbdklljlecaaGreat

/- law08's plays. -/
namespace Go.Proofs.YtepjbdklljlecaaGreat
open Go.RowKit Go.Sort

/-- What a call leaves of the rows. -/
def playRw (m : Nat) (rs : List Rw) (o : Opv) : List Rw := if o.1.1 = 1 then (if putE m rs o.2.1 = 0 then putRw rs o.2.1 else rs) else if o.1.1 = 2 then delRw rs o.1.2.1 else rs
set_option maxRecDepth 100000 in
set_option maxHeartbeats 2000000 in
theorem plays_c {Iq : Nat → Prop} {w0 W : World} {tb m leaf : Nat} {rs : List Rw} {u : Value} {ops : List Opv} (h : TrW Iq w0 tb m leaf rs W) (hu : RdO w0 u ops) (hn : ops.length ≤ 9223372036854775807) :
    Calls Tryz.prog 18 #[.pointer (some ⟨tb, 0, none⟩), u] W fun e W' => e = .returned (.tuple #[]) ∧ TrW Iq w0 tb m leaf (ops.foldl (playRw m) rs) W' := by
  have TT : Hid (TrW Iq w0 tb m leaf rs W) := h
  have O : Hid (RdO w0 u ops) := hu
  obtain ⟨au, cu, rfl, _⟩ := hu
  obtain ⟨n, hN⟩ : ∃ n, n = ops.length := ⟨_, rfl⟩
  have N : Hid (n = ops.length) := hN
  rw [← hN] at O hn ⊢
  clear hN h
  go_enter Tryz.func18, Tryz.ntmps18
  go_wp2
  go_loopw [4] (fun iv W' => ∃ i : Nat, iv = .int .i64 (i : Int) ∧ i ≤ n ∧ Hid (TrW Iq w0 tb m leaf ((ops.take i).foldl (playRw m) rs) W')) (fun iv _ => n - (intOf iv).toNat)
  case atStart => exact ⟨0, rfl, Nat.zero_le _, TT⟩
  case round =>
    clear TT
    obtain ⟨i, rfl, hi, TI⟩ := hrel
    by_cases hin : i < n
    · have hii : (i : Int) < (n : Int) := by omega
      have hil : i < ops.length := by rw [← N.out]; exact hin
      obtain ⟨a, cap, ea, hO⟩ := O.out
      obtain ⟨b, o, rv, qv, e0, ⟨c0, c1, _, _, c4, c5, _⟩, hr, _⟩ := hO i hil
      injection ea with ea1 ea2 ea3
      subst ea1 ea3 e0
      have go := TI.out.old
      have d0 := gb_keeps go c0
      have d1 := gb_keeps go c1
      have d4 := gb_keeps go c4
      have d5 := gb_keeps go c5
      have st : (ops.take (i + 1)).foldl (playRw m) rs = playRw m ((ops.take i).foldl (playRw m) rs) ops[i]! := by
        rw [List.take_succ_eq_append_getElem hil, List.foldl_append, getElem!_pos ops i hil]; rfl
      have cP := trw_put TI.out ops[i]!.2.1.1 hr
      have cD := trw_del TI.out ops[i]!.1.2.1
      have NX : Hid (∀ W', TrW Iq w0 tb m leaf (playRw m ((ops.take i).foldl (playRw m) rs) ops[i]!) W' → TrW Iq w0 tb m leaf ((ops.take (i + 1)).foldl (playRw m) rs) W') := by
        intro W' h
        rw [st]; exact h
      generalize (ops.take i).foldl (playRw m) rs = rsi at *
      generalize ops[i]! = op at *
      obtain ⟨⟨kd, id, kk, bg⟩, ⟨xi, xl⟩, ql⟩ := op
      dsimp only at d0 d1 d4 d5 cP cD hr
      obtain ⟨ar, cr, er, _⟩ := hr.rd0
      subst er
      clear ea2 hO c0 c1 c4 c5 st hil go hr
      by_cases h1 : kd = 1
      · subst h1
        have NZ : Hid (∀ W', TrW Iq w0 tb m leaf (if putE m rsi (xi, xl) = 0 then putRw rsi (xi, xl) else rsi) W' → TrW Iq w0 tb m leaf ((ops.take (i + 1)).foldl (playRw m) rs) W') := fun W' h => NX.out W' (by unfold playRw; exact h)
        generalize putE m rsi (xi, xl) = z at *
        clear cD NX TI
        go_wp2_with fail
        refine cP.mono ?_
        rintro e w4 ⟨rfl, T4⟩
        have TN : Hid (TrW Iq w0 tb m leaf ((ops.take (i + 1)).foldl (playRw m) rs) w4) := NZ.out _ T4
        clear cP T4 NZ d0 d1 d4 d5
        go_wp2
        go_roundw
        case rel => exact ⟨i + 1, by first | rfl | go_num, hin, TN⟩
        case measure => simp [intOf]; omega
      · by_cases h2 : kd = 2
        · subst h2
          have NZ : Hid (∀ W', TrW Iq w0 tb m leaf (delRw rsi id) W' → TrW Iq w0 tb m leaf ((ops.take (i + 1)).foldl (playRw m) rs) W') := fun W' h => NX.out W' (by unfold playRw; exact h)
          clear cP NX TI
          go_wp2_with fail
          refine cD.mono ?_
          rintro e w4 ⟨rfl, T4⟩
          have TN : Hid (TrW Iq w0 tb m leaf ((ops.take (i + 1)).foldl (playRw m) rs) w4) := NZ.out _ T4
          clear cD T4 NZ d0 d1 d4 d5
          go_wp2
          go_roundw
          case rel => exact ⟨i + 1, by first | rfl | go_num, hin, TN⟩
          case measure => simp [intOf]; omega
        · have TN : Hid (TrW Iq w0 tb m leaf ((ops.take (i + 1)).foldl (playRw m) rs) wr) := NX.out _ (by
            unfold playRw
            dsimp only
            rw [if_neg h1, if_neg h2]
            exact TI.out)
          have h1b : (kd == 1) = false := by rw [beq_eq_false_iff_ne]; exact h1
          have h2b : (kd == 2) = false := by rw [beq_eq_false_iff_ne]; exact h2
          clear cP cD NX TI
          go_wp2
          go_roundw
          case rel => exact ⟨i + 1, by first | rfl | go_num, hin, TN⟩
          case measure => simp [intOf]; omega
    · have hii : ¬ (i : Int) < (n : Int) := by omega
      have TN : Hid (TrW Iq w0 tb m leaf (ops.foldl (playRw m) rs) wr) := by
        have h := TI.out
        have e : i = n := by omega
        rw [e, N.out, List.take_length] at h
        exact h
      clear TI
      go_wp2
      refine bodyPost_end (v := .tuple #[]) (by simp [results, Tryz.results18, go_sem]) rfl ⟨rfl, ?_⟩
      exact TN.out
end Go.Proofs.YtepjbdklljlecaaGreat

/- Two trees in blocks apart; a script's calls on any predicate; rows that were put one by one. -/
namespace Go.Proofs.YtepjbdklljlecaaGreat
open Go.RowKit Go.Sort

theorem ris_eq : ∀ {a b : List Rw}, Ris a → Ris b → a.Perm b → a = b
  | [], b, _, _, p => (p.symm.eq_nil).symm
  | x :: r, [], _, _, p => absurd p.eq_nil (by simp)
  | x :: r, y :: s, ha, hb, p => by
    have h1 := List.pairwise_cons.1 ha
    have h2 := List.pairwise_cons.1 hb
    have e : x = y := by
      rcases List.mem_cons.1 (p.mem_iff.1 List.mem_cons_self) with e | hx
      · exact e
      · rcases List.mem_cons.1 (p.mem_iff.2 (List.mem_cons_self (a := y) (l := s))) with e | hy
        · exact e.symm
        · have := h1.1 y hy
          have := h2.1 x hx
          omega
    subst e
    rw [ris_eq h1.2 h2.2 (List.Perm.cons_inv p)]
/-- One row put. -/
def put1 (m : Nat) (rs : List Rw) (r : Rw) : List Rw := if putE m rs r = 0 then putRw rs r else rs
theorem puts_same {m : Nat} : ∀ {l : List Rw}, RowsOk l (m : Int) → Ris (l.foldr (fun r a => put1 m a r) []) ∧ (l.foldr (fun r a => put1 m a r) []).Perm l
  | [], _ => ⟨List.Pairwise.nil, List.Perm.refl _⟩
  | r :: l, h => by
    have hl : RowsOk l (m : Int) := h.sub (List.sublist_cons_self r l)
    obtain ⟨a, p⟩ := puts_same hl
    rw [List.foldr_cons]
    generalize l.foldr (fun r a => put1 m a r) [] = x at a p
    have hn : ∀ y ∈ x, y.1 ≠ r.1 := fun y hy e => by
      have h1 := h.ids
      unfold idsOf at h1
      rw [List.map_cons, List.pairwise_cons] at h1
      exact h1.1 y.1 (List.mem_map.2 ⟨y, p.mem_iff.1 hy, rfl⟩) e.symm
    have hd : delRw x r.1 = x := by
      unfold delRw
      rw [List.filter_eq_self]
      intro y hy
      have := hn y hy
      simpa using this
    have hf := h.few
    have he : putE m x r = 0 := by
      obtain ⟨h1, h2⟩ := h.row r List.mem_cons_self
      unfold putE
      rw [if_pos h1, if_pos h2, if_neg]
      rintro ⟨_, h4⟩
      rw [p.length_eq] at h4
      simp at hf
      omega
    unfold put1
    rw [if_pos he]
    unfold putRw
    rw [hd]
    refine ⟨ins_ris a hn, (ins_perm x r).trans ?_⟩
    exact (List.perm_append_singleton r x).trans (p.cons r)
theorem puts_eq {m : Nat} {l rs : List Rw} (h : RowsOk l (m : Int)) (hr : Ris rs) (hp : rs.Perm l) : l.foldr (fun r a => put1 m a r) [] = rs := by
  obtain ⟨a, p⟩ := puts_same h
  exact ris_eq a hr (p.trans hp.symm)
/-- Two trees, each in blocks of its own. -/
def Tw2 (w0 : World) (tb ub m lf lg : Nat) (rs us : List Rw) (W : World) : Prop := ∃ F G, TreeAt IqT W tb m lf rs F ∧ TreeAt IqT W ub m lg us G ∧ (∀ x ∈ F, w0.heap.size ≤ x) ∧ (∀ x ∈ G, w0.heap.size ≤ x) ∧ (∀ x ∈ F, x ∉ G) ∧ Gb w0 W
theorem Tw2.symm {w0 W : World} {tb ub m lf lg : Nat} {rs us : List Rw} (h : Tw2 w0 tb ub m lf lg rs us W) : Tw2 w0 ub tb m lg lf us rs W := by
  obtain ⟨F, G, a, b, c, d, e, f⟩ := h
  exact ⟨G, F, b, a, d, c, fun x hx hy => e x hy hx, f⟩
theorem Tw2.left {w0 W : World} {tb ub m lf lg : Nat} {rs us : List Rw} (h : Tw2 w0 tb ub m lf lg rs us W) : TrW IqT w0 tb m lf rs W := by
  obtain ⟨F, G, a, b, c, d, e, f⟩ := h
  exact ⟨F, a, c, f⟩
theorem Tw2.gb {w0 W W' : World} {tb ub m lf lg : Nat} {rs us : List Rw} (h : Tw2 w0 tb ub m lf lg rs us W) (g : Gb W W') : Tw2 w0 tb ub m lf lg rs us W' := by
  obtain ⟨F, G, a, b, c, d, e, f⟩ := h
  exact ⟨F, G, a.gb g, b.gb g, c, d, e, gb_trans f g⟩
theorem Tw2.old {w0 W : World} {tb ub m lf lg : Nat} {rs us : List Rw} (h : Tw2 w0 tb ub m lf lg rs us W) : Gb w0 W := h.left.old
theorem Tw2.of {w0 W1 W2 : World} {tb ub m lf lg : Nat} {rs us : List Rw} (h : TrW IqT w0 tb m lf rs W1) (k : TrW IqT W1 ub m lg us W2) : Tw2 w0 tb ub m lf lg rs us W2 := by
  obtain ⟨F, a, c, f⟩ := h
  obtain ⟨G, b, d, g⟩ := k
  have s := f.size
  refine ⟨F, G, a.gb g, b, c, fun x hx => by have := d x hx; omega, fun x hx hy => ?_, gb_trans f g⟩
  have h1 := a.mem.2 x hx
  have h2 := d x hy
  omega
theorem Tw2.out {w0 W W' : World} {tb ub m lf lg : Nat} {rs' us : List Rw} {F G : List Nat} {rs : List Rw} (a : TreeAt IqT W tb m lf rs F) (b : TreeAt IqT W ub m lg us G) (c : ∀ x ∈ F, w0.heap.size ≤ x) (d : ∀ x ∈ G, w0.heap.size ≤ x) (e : ∀ x ∈ F, x ∉ G) (f : Gb w0 W) (h : TOut IqT W tb m lf F rs' W') : Tw2 w0 tb ub m lf lg rs' us W' := by
  obtain ⟨F', t, l, k⟩ := h
  have s := f.size
  refine ⟨F', G, t, b.kp k a.noint (fun x hx hy => e x hy hx), fun x hx => ?_, d, fun x hx hy => ?_, f.trans (k.gr s c)⟩
  · rcases l x hx with h | h
    · exact c x h
    · omega
  · rcases l x hx with h | h
    · exact e x h hy
    · have := b.mem.2 x hy
      omega
theorem tw2_put {w0 W : World} {tb ub m lf lg : Nat} {rs us : List Rw} {u : Value} {xl : List Int} (h : Tw2 w0 tb ub m lf lg rs us W) (xi : Int) (hu : RdI w0 u xl) :
    Calls Tryz.prog 24 #[.pointer (some ⟨tb, 0, none⟩), .agg #[.int .i64 xi, u]] W fun e w' => e = .returned (.tuple #[.bool (decide (putE m rs (xi, xl) = 0) && !hasId rs xi), .int .i64 (putE m rs (xi, xl))]) ∧ Tw2 w0 tb ub m lf lg (if putE m rs (xi, xl) = 0 then putRw rs (xi, xl) else rs) us w' := by
  obtain ⟨F, G, a, b, c, d, e, f⟩ := h
  exact (put_old a f hu c).mono fun e' w' ⟨h1, h2⟩ => ⟨h1, Tw2.out a b c d e f h2⟩
theorem tw2_del {w0 W : World} {tb ub m lf lg : Nat} {rs us : List Rw} (h : Tw2 w0 tb ub m lf lg rs us W) (id : Int) :
    Calls Tryz.prog 26 #[.pointer (some ⟨tb, 0, none⟩), .int .i64 id] W fun e w' => e = .returned (.tuple #[.bool (hasId rs id), .int .i64 0]) ∧ Tw2 w0 tb ub m lf lg (delRw rs id) us w' := by
  obtain ⟨F, G, a, b, c, d, e, f⟩ := h
  exact (delete_c a id).mono fun e' w' ⟨h1, h2⟩ => ⟨h1, Tw2.out a b c d e f h2⟩
set_option maxRecDepth 100000 in
set_option maxHeartbeats 2000000 in
/-- A script's calls, whatever is known of the tree. -/
theorem plays_g {w0 W : World} {tb m : Nat} {rs : List Rw} {u : Value} {ops : List Opv} {P : List Rw → World → Prop} (old : ∀ rs W, P rs W → Gb w0 W)
    (put : ∀ rs W (xi : Int) u xl, P rs W → RdI w0 u xl → Calls Tryz.prog 24 #[.pointer (some ⟨tb, 0, none⟩), .agg #[.int .i64 xi, u]] W fun e w' => e = .returned (.tuple #[.bool (decide (putE m rs (xi, xl) = 0) && !hasId rs xi), .int .i64 (putE m rs (xi, xl))]) ∧ P (if putE m rs (xi, xl) = 0 then putRw rs (xi, xl) else rs) w')
    (del : ∀ rs W (id : Int), P rs W → Calls Tryz.prog 26 #[.pointer (some ⟨tb, 0, none⟩), .int .i64 id] W fun e w' => e = .returned (.tuple #[.bool (hasId rs id), .int .i64 0]) ∧ P (delRw rs id) w')
    (h : P rs W) (hu : RdO w0 u ops) (hn : ops.length ≤ 9223372036854775807) :
    Calls Tryz.prog 18 #[.pointer (some ⟨tb, 0, none⟩), u] W fun e W' => e = .returned (.tuple #[]) ∧ P (ops.foldl (playRw m) rs) W' := by
  have TT : Hid (P rs W) := h
  have OLD : Hid (∀ rs W, P rs W → Gb w0 W) := old
  have PUT : Hid _ := put
  have DEL : Hid _ := del
  clear old put del
  have O : Hid (RdO w0 u ops) := hu
  obtain ⟨au, cu, rfl, _⟩ := hu
  obtain ⟨n, hN⟩ : ∃ n, n = ops.length := ⟨_, rfl⟩
  have N : Hid (n = ops.length) := hN
  rw [← hN] at O hn ⊢
  clear hN h
  go_enter Tryz.func18, Tryz.ntmps18
  go_wp2
  go_loopw [4] (fun iv W' => ∃ i : Nat, iv = .int .i64 (i : Int) ∧ i ≤ n ∧ Hid (P ((ops.take i).foldl (playRw m) rs) W')) (fun iv _ => n - (intOf iv).toNat)
  case atStart => exact ⟨0, rfl, Nat.zero_le _, TT⟩
  case round =>
    clear TT
    obtain ⟨i, rfl, hi, TI⟩ := hrel
    by_cases hin : i < n
    · have hii : (i : Int) < (n : Int) := by omega
      have hil : i < ops.length := by rw [← N.out]; exact hin
      obtain ⟨a, cap, ea, hO⟩ := O.out
      obtain ⟨b, o, rv, qv, e0, ⟨c0, c1, _, _, c4, c5, _⟩, hr, _⟩ := hO i hil
      injection ea with ea1 ea2 ea3
      subst ea1 ea3 e0
      have go := OLD.out _ _ TI.out
      have d0 := gb_keeps go c0
      have d1 := gb_keeps go c1
      have d4 := gb_keeps go c4
      have d5 := gb_keeps go c5
      have st : (ops.take (i + 1)).foldl (playRw m) rs = playRw m ((ops.take i).foldl (playRw m) rs) ops[i]! := by
        rw [List.take_succ_eq_append_getElem hil, List.foldl_append, getElem!_pos ops i hil]; rfl
      have cP := PUT.out _ _ ops[i]!.2.1.1 _ _ TI.out hr
      have cD := DEL.out _ _ ops[i]!.1.2.1 TI.out
      have NX : Hid (∀ W', P (playRw m ((ops.take i).foldl (playRw m) rs) ops[i]!) W' → P ((ops.take (i + 1)).foldl (playRw m) rs) W') := by
        intro W' h
        rw [st]; exact h
      generalize (ops.take i).foldl (playRw m) rs = rsi at *
      generalize ops[i]! = op at *
      obtain ⟨⟨kd, id, kk, bg⟩, ⟨xi, xl⟩, ql⟩ := op
      dsimp only at d0 d1 d4 d5 cP cD hr
      obtain ⟨ar, cr, er, _⟩ := hr.rd0
      subst er
      clear ea2 hO c0 c1 c4 c5 st hil go hr
      by_cases h1 : kd = 1
      · subst h1
        have NZ : Hid (∀ W', P (if putE m rsi (xi, xl) = 0 then putRw rsi (xi, xl) else rsi) W' → P ((ops.take (i + 1)).foldl (playRw m) rs) W') := fun W' h => NX.out W' (by unfold playRw; exact h)
        generalize putE m rsi (xi, xl) = z at *
        clear cD NX TI
        go_wp2_with fail
        refine cP.mono ?_
        rintro e w4 ⟨rfl, T4⟩
        have TN : Hid (P ((ops.take (i + 1)).foldl (playRw m) rs) w4) := NZ.out _ T4
        clear cP T4 NZ d0 d1 d4 d5
        go_wp2
        go_roundw
        case rel => exact ⟨i + 1, by first | rfl | go_num, hin, TN⟩
        case measure => simp [intOf]; omega
      · by_cases h2 : kd = 2
        · subst h2
          have NZ : Hid (∀ W', P (delRw rsi id) W' → P ((ops.take (i + 1)).foldl (playRw m) rs) W') := fun W' h => NX.out W' (by unfold playRw; exact h)
          clear cP NX TI
          go_wp2_with fail
          refine cD.mono ?_
          rintro e w4 ⟨rfl, T4⟩
          have TN : Hid (P ((ops.take (i + 1)).foldl (playRw m) rs) w4) := NZ.out _ T4
          clear cD T4 NZ d0 d1 d4 d5
          go_wp2
          go_roundw
          case rel => exact ⟨i + 1, by first | rfl | go_num, hin, TN⟩
          case measure => simp [intOf]; omega
        · have TN : Hid (P ((ops.take (i + 1)).foldl (playRw m) rs) wr) := NX.out _ (by
            unfold playRw
            dsimp only
            rw [if_neg h1, if_neg h2]
            exact TI.out)
          have h1b : (kd == 1) = false := by rw [beq_eq_false_iff_ne]; exact h1
          have h2b : (kd == 2) = false := by rw [beq_eq_false_iff_ne]; exact h2
          clear cP cD NX TI
          go_wp2
          go_roundw
          case rel => exact ⟨i + 1, by first | rfl | go_num, hin, TN⟩
          case measure => simp [intOf]; omega
    · have hii : ¬ (i : Int) < (n : Int) := by omega
      have TN : Hid (P (ops.foldl (playRw m) rs) wr) := by
        have h := TI.out
        have e : i = n := by omega
        rw [e, N.out, List.take_length] at h
        exact h
      clear TI
      go_wp2
      refine bodyPost_end (v := .tuple #[]) (by simp [results, Tryz.results18, go_sem]) rfl ⟨rfl, ?_⟩
      exact TN.out
theorem plays_2 {w0 W : World} {tb ub m lf lg : Nat} {rs us : List Rw} {u : Value} {ops : List Opv} (h : Tw2 w0 tb ub m lf lg rs us W) (hu : RdO w0 u ops) (hn : ops.length ≤ 9223372036854775807) :
    Calls Tryz.prog 18 #[.pointer (some ⟨tb, 0, none⟩), u] W fun e W' => e = .returned (.tuple #[]) ∧ Tw2 w0 tb ub m lf lg (ops.foldl (playRw m) rs) us W' :=
  plays_g (P := fun rs W => Tw2 w0 tb ub m lf lg rs us W) (fun _ _ h => h.old) (fun _ _ xi _ _ h hu => tw2_put h xi hu) (fun _ _ id h => tw2_del h id) h hu hn
/-- What a search answers, with what it leaves. -/
def WhG (W : World) (m : Nat) (rs : List Rw) (q : List Int) (k b : Int) (e : Ending) (W' : World) : Prop := ∃ a1 n1 c1 a2 n2 c2 a3 n3 c3, e = .returned (.tuple #[.agg #[.slice a1 n1 c1, .slice a2 n2 c2, .slice a3 n3 c3], .int .i64 (srchE m q k b)]) ∧
  Gb W W' ∧ (srchE m q k b = 0 → rs.length ≤ b → Tk.Own W' (.slice a1 n1 c1) (Tk.firsts k.toNat (hitsOf q rs)).toArray) ∧ (srchE m q k b ≠ 0 → a1 = none ∧ n1 = 0 ∧ c1 = 0)
theorem trg_search {W : World} {tb m leaf : Nat} {rs : List Rw} {F : List Nat} (t : TreeAt IqT W tb m leaf rs F) {u : Value} {q : List Int} (hu : RdI W u q) (k b : Int) :
    Calls Tryz.prog 19 #[.pointer (some ⟨tb, 0, none⟩), u, .int .i64 k, .int .i64 b] W fun e W' => WhG W m rs q k b e W' := by
  by_cases hz : srchE m q k b = 0
  · obtain ⟨hq, hk, hb⟩ := srchE_zero.1 hz
    obtain ⟨K, rfl⟩ := Int.eq_ofNat_of_zero_le (show 0 ≤ k by omega)
    obtain ⟨B, rfl⟩ := Int.eq_ofNat_of_zero_le hb.1
    obtain ⟨T, N, R, hI, hs, c⟩ := kd_search t hq (k := K) (b := B) (by omega) (by omega)
    refine (c W u (Below.refl _ _) hu).mono ?_
    rintro e W' ⟨vh, vs, vr, rfl, hA⟩
    obtain ⟨a3, c3, e3⟩ := hA.rest.form
    obtain ⟨a2, c2, e2, _⟩ := hA.seen.rd
    have h1 : ∃ a1 c1, vh = .slice a1 (Tk.firsts K (hitsOf q R.seen)).length c1 := by
      rcases hA.hits.2 with ⟨e, h0⟩ | ⟨g', cap, cur, e, _⟩
      · exact ⟨none, 0, by rw [e]; simp only [List.size_toArray] at h0; rw [h0]⟩
      · exact ⟨some ⟨g', 0, none⟩, cap, by rw [e]; simp⟩
    obtain ⟨a1, c1, e1⟩ := h1
    subst e1 e2 e3
    refine ⟨a1, _, c1, a2, _, c2, a3, _, c3, by rw [hz], hA.gb, ?_, fun hn => absurd hz hn⟩
    intro _ hlb
    have := hA.hits
    rw [search_whole hq hI hs (.inl (by omega))] at this
    rw [search_whole hq hI hs (.inl (by omega))]
    exact this
  · refine (ksearch_no t hu k b hz).mono ?_
    rintro e W' ⟨rfl, g'⟩
    exact ⟨none, 0, 0, none, 0, 0, none, 0, 0, rfl, g', fun e => absurd e hz, fun _ => ⟨rfl, rfl, rfl⟩⟩
theorem trw_searchg {w0 W : World} {tb m leaf : Nat} {rs : List Rw} (h : TrW IqT w0 tb m leaf rs W) {u : Value} {q : List Int} (hu : RdI W u q) (k b : Int) :
    Calls Tryz.prog 19 #[.pointer (some ⟨tb, 0, none⟩), u, .int .i64 k, .int .i64 b] W fun e W' => WhG W m rs q k b e W' := by
  obtain ⟨F, t, _⟩ := h
  exact trg_search t hu k b
end Go.Proofs.YtepjbdklljlecaaGreat

/- VptreeWhole's walk. -/
namespace Go.Proofs.YtepjbdklljlecaaGreat
open Go.RowKit Go.Sort

theorem wf_ok {rs : List Rw} {d : Int} (h : RowsOk rs d) : Wf rs := by
  refine ⟨by have := h.few; omega, fun i hi => ?_⟩
  have h1 := (okId_iff _).1 (h.row rs[i]! (by rw [getElem!_pos rs i hi]; exact List.getElem_mem hi)).1
  generalize rs[i]!.1 = x at h1 ⊢
  simp [Lit.wf, IntKind.min, IntKind.max, IntKind.signed, IntKind.bits]
  omega
theorem srch_top {rs : List Rw} {q : List Int} (h : RowsOk rs (q.length : Int)) (hm : 1 ≤ q.length ∧ q.length ≤ 64) (k : Int) : topE rs q k = srchE q.length q k 1000000 := by
  have hf : flatE rs (q.length : Int) = 0 := flatE_zero.2 ⟨by omega, h⟩
  unfold topE askE srchE
  by_cases h1 : chk q (q.length : Int) = 0
  · rw [if_pos h1, hf, if_pos rfl, if_pos h1]
    by_cases h2 : 1 ≤ k ∧ k ≤ 64
    · rw [if_pos h2, if_pos ⟨h2, by decide, by decide⟩]
    · rw [if_neg h2, if_neg (fun h => h2 h.1)]
  · rw [if_neg h1, if_neg h1, if_neg h1]
theorem TrW.rok {w0 W : World} {tb m leaf : Nat} {rs : List Rw} (h : TrW IqT w0 tb m leaf rs W) : RowsOk rs (m : Int) ∧ 1 ≤ m ∧ m ≤ 64 := by
  obtain ⟨F, t, _⟩ := h
  exact t.rok
theorem kown_rd {w : World} {v : Value} {l : List Tk.Ht} (h : Tk.Own w v l.toArray) : Tk.Rd w v l := by
  by_cases h0 : 0 < l.length
  · obtain ⟨g, cap, e, _, hl⟩ := kown_sl h h0
    exact .inr (.inr ⟨g, 0, cap, e, hl⟩)
  · have e : l = [] := List.length_eq_zero_iff.1 (by omega)
    subst e
    rcases h.2 with ⟨e, _⟩ | ⟨g, cap, cur, e, _⟩
    · exact .inl ⟨e, rfl⟩
    · exact .inr (.inl ⟨_, cap, e, rfl⟩)

set_option maxRecDepth 100000 in
set_option maxHeartbeats 4000000 in
theorem whole_no {w : World} {v u sc : Value} {l : List Rw} {q : List Int} {ops : List Opv} (hv : RdW w v l) (hwf : Wf l) (hs : RdO w sc ops) (hu : RdI w u q) (leaf B S k : Int) (hz : bldE l (q.length : Int) leaf ≠ 0) :
    Calls Tryz.prog 5 #[v, .agg #[.int .i64 leaf, .int .i64 B, .int .u64 S], sc, u, .int .i64 k] w fun e w' => e = .returned (.bool true) ∧ Gb w w' := by
  have g1 : Gb w (w.alloc (.cells #[.int .i64 leaf, .int .i64 B, .int .u64 S] 25)) := gb_alloc (Below.refl _ _) _
  obtain ⟨w1, hw1⟩ : ∃ w1, w1 = w.alloc (.cells #[.int .i64 leaf, .int .i64 B, .int .u64 S] 25) := ⟨_, rfl⟩
  rw [← hw1] at g1
  have c0 : w1.cell? ⟨w.heap.size, 0, none⟩ = some (.int .i64 leaf) := by rw [hw1]; simp [go_sem]
  have c1 : w1.cell? ⟨w.heap.size, 1, none⟩ = some (.int .i64 B) := by rw [hw1]; simp [go_sem]
  have c2 : w1.cell? ⟨w.heap.size, 2, none⟩ = some (.int .u64 S) := by rw [hw1]; simp [go_sem]
  have cB := kbig_c (hv.gb g1) (by have := hwf.1; omega) (hs.gb g1)
  have cU := fun W (g : Gb w1 W) => kbuild_no ((hv.gb g1).gb g) hwf (q.length : Int) leaf B S hz
  have CU : Hid _ := cU
  clear cU
  obtain ⟨av, cv, ev, _⟩ := hv
  obtain ⟨aq, cq, eq, _⟩ := hu.rd0
  obtain ⟨sca, scc, es, _⟩ := hs
  subst ev eq es
  generalize bldE l (q.length : Int) leaf = z at *
  generalize l.length = n at *
  generalize q.length = m at *
  generalize ops.length = no at *
  have hzb : (z == 0) = false := by rw [beq_eq_false_iff_ne]; exact hz
  clear hwf hu
  go_enter Tryz.func5, Tryz.ntmps5
  go_wp2_with fail
  rw [← hw1]
  clear hw1
  refine cB.mono ?_
  rintro e w2 ⟨bb, rfl, g2⟩
  have d0 := gb_keeps g2 c0
  have d1 := gb_keeps g2 c1
  have d2 := gb_keeps g2 c2
  have G2 := gb_trans g1 g2
  clear cB c0 c1 c2
  cases bb with
  | true =>
    go_wp2
    refine bodyPost_ret (v := .bool true) (by simp [results, Tryz.results5, go_sem]) rfl ⟨rfl, ?_⟩
    exact G2
  | false =>
    by_cases h1 : 32768 < (m : Int)
    · skip
      go_wp2
      refine bodyPost_ret (v := .bool true) (by simp [results, Tryz.results5, go_sem]) rfl ⟨rfl, ?_⟩
      exact G2
    have cU := CU.out w2 g2
    clear CU
    go_wp2_with fail
    refine cU.mono ?_
    rintro e w3 ⟨rfl, g3⟩
    have G3 := gb_trans G2 g3
    clear cU d0 d1 d2
    go_wp2_with fail
    refine (kawake_c _).mono ?_
    rintro e wz ⟨rfl, gz⟩
    have GZ : Hid (Gb w wz) := gb_trans G3 gz
    clear gz
    go_wp2
    refine bodyPost_ret (v := .bool true) (by simp [results, Tryz.results5, go_sem]) rfl ⟨rfl, ?_⟩
    exact GZ.out

set_option maxRecDepth 100000 in
set_option maxHeartbeats 8000000 in
theorem whole_ok {w : World} {v u sc : Value} {l : List Rw} {q : List Int} {ops : List Opv} {lf : Nat} (hv : RdW w v l) (hwf : Wf l) (hs : RdO w sc ops) (hn : ops.length ≤ 9223372036854775807) (hu : RdI w u q) (B S k : Int) (hz : flatE l (q.length : Int) = 0) (hlf : 1 ≤ lf ∧ lf ≤ 64) (hus : Rn.U S) :
    Calls Tryz.prog 5 #[v, .agg #[.int .i64 (lf : Int), .int .i64 B, .int .u64 S], sc, u, .int .i64 k] w fun e w' => e = .returned (.bool true) ∧ Gb w w' := by
  have g1 : Gb w (w.alloc (.cells #[.int .i64 (lf : Int), .int .i64 B, .int .u64 S] 25)) := gb_alloc (Below.refl _ _) _
  obtain ⟨w1, hw1⟩ : ∃ w1, w1 = w.alloc (.cells #[.int .i64 (lf : Int), .int .i64 B, .int .u64 S] 25) := ⟨_, rfl⟩
  rw [← hw1] at g1
  have c0 : w1.cell? ⟨w.heap.size, 0, none⟩ = some (.int .i64 (lf : Int)) := by rw [hw1]; simp [go_sem]
  have c1 : w1.cell? ⟨w.heap.size, 1, none⟩ = some (.int .i64 B) := by rw [hw1]; simp [go_sem]
  have c2 : w1.cell? ⟨w.heap.size, 2, none⟩ = some (.int .u64 S) := by rw [hw1]; simp [go_sem]
  have cB := kbig_c (hv.gb g1) (by have := hwf.1; omega) (hs.gb g1)
  have cU := fun W (g : Gb w1 W) => kbuild_ok (upT W) ((hv.gb g1).gb g) hwf (m := q.length) hz hlf B S hus
  have CU : Hid _ := cU
  have HU : Hid (RdI w u q) := hu
  have HS : Hid (RdO w sc ops) := hs
  have HN : Hid (ops.length ≤ 9223372036854775807) := hn
  obtain ⟨av, cv, ev, _⟩ := hv
  obtain ⟨aq, cq, eq, _⟩ := hu.rd0
  obtain ⟨sca, scc, es, _⟩ := hs
  subst ev eq es
  clear cU hwf hu hz hlf hn hus
  go_enter Tryz.func5, Tryz.ntmps5
  go_wp2_with fail
  rw [← hw1]
  clear hw1
  refine cB.mono ?_
  rintro e w2 ⟨bb, rfl, g2⟩
  have d0 := gb_keeps g2 c0
  have d1 := gb_keeps g2 c1
  have d2 := gb_keeps g2 c2
  have G2 := gb_trans g1 g2
  clear cB c0 c1 c2
  cases bb with
  | true =>
    go_wp2
    refine bodyPost_ret (v := .bool true) (by simp [results, Tryz.results5, go_sem]) rfl ⟨rfl, ?_⟩
    exact G2
  | false =>
    by_cases h1 : 32768 < (q.length : Int)
    · skip
      go_wp2
      refine bodyPost_ret (v := .bool true) (by simp [results, Tryz.results5, go_sem]) rfl ⟨rfl, ?_⟩
      exact G2
    have cU := CU.out w2 g2
    clear CU g1 g2
    go_wp2_with fail
    refine cU.mono ?_
    intro e w3 hO
    obtain ⟨tb, rs0, rfl, T3, pm, _⟩ := trw_of hO
    have cP := plays_c T3 (HS.out.gb G2) HN.out
    clear cU hO T3 d0 d1 d2 pm
    go_wp2_with fail
    refine cP.mono ?_
    rintro e w4 ⟨rfl, T4⟩
    clear cP
    generalize ops.foldl (playRw q.length) rs0 = rs at *
    have cS := trw_search T4 ((HU.out.gb G2).gb T4.old) k 1000000
    go_wp2_with fail
    refine cS.mono ?_
    rintro e w5 ⟨a1, n1, c1, a2, n2, c2, a3, n3, c3, rfl, T5, hn5, hw5, hl5, hz5⟩
    have T6 := T5.gb (gb_alloc (Below.refl w5.heap.size w5) (.cells #[.slice a1 n1 c1, .slice a2 n2 c2, .slice a3 n3 c3] 51))
    have gA : Gb w5 (w5.alloc (.cells #[.slice a1 n1 c1, .slice a2 n2 c2, .slice a3 n3 c3] 51)) := gb_alloc (Below.refl _ _) _
    have hr0 : (w5.alloc (.cells #[.slice a1 n1 c1, .slice a2 n2 c2, .slice a3 n3 c3] 51)).cell? ⟨w5.heap.size, 0, none⟩ = some (.slice a1 n1 c1) := by simp [go_sem]
    have hr1 : (w5.alloc (.cells #[.slice a1 n1 c1, .slice a2 n2 c2, .slice a3 n3 c3] 51)).cell? ⟨w5.heap.size, 1, none⟩ = some (.slice a2 n2 c2) := by simp [go_sem]
    have cR := trw_rows T6
    clear cS T4
    have H5 : Hid ((srchE q.length q k 1000000 ≠ 0 ∨ rs = []) → n1 = 0 ∧ n2 = 0 ∧ n3 = 0) := hn5
    have Z5 : Hid (srchE q.length q k 1000000 ≠ 0 → a1 = none ∧ c1 = 0) := hz5
    have L5 : Hid (n2 ≤ rs.length) := hl5
    have W5 : Hid (srchE q.length q k 1000000 = 0 → (rs.length : Int) ≤ 1000000 → Tk.Own w5 (.slice a1 n1 c1) (Tk.firsts k.toNat (hitsOf q rs)).toArray) := hw5
    obtain ⟨hok, hm⟩ := T6.rok
    have TE := srch_top hok hm k
    have WF := wf_ok hok
    have F5 : Hid (rs.length ≤ 512) := hok.few
    clear hn5 hl5 hw5 hz5 hok hm T5
    go_wp2_with fail
    refine cR.mono ?_
    rintro e w6 ⟨v6, rfl, o6, g6⟩
    have cT := topk_c (o6.rdw) (((HU.out.gb G2).gb T6.old).gb g6) WF k
    rw [TE] at cT
    obtain ⟨r6, c6, rfl⟩ := o6.form
    clear cR WF TE
    go_wp2_with fail
    refine cT.mono ?_
    rintro e w9 ⟨v9, rfl, g9, z9, y9⟩
    have G69 := gb_trans g6 g9
    have hc0 := gb_keeps G69 hr0
    have hc1 := gb_keeps G69 hr1
    have T9 := T6.gb G69
    have hV : ∃ a9 n9 c9, v9 = .slice a9 n9 c9 := by
      by_cases h0 : srchE q.length q k 1000000 = 0
      · obtain ⟨a9, c9, e9, _⟩ := (kown_rd (y9 h0).1).form
        exact ⟨_, _, _, e9⟩
      · exact ⟨_, _, _, z9 h0⟩
    have cH : ∀ W, Gb w9 W → Calls Tryz.prog 22 #[.slice a1 n1 c1, v9] W fun e w' => e = .returned (.bool true) ∧ Gb W w' := by
      intro W gW
      by_cases h0 : srchE q.length q k 1000000 = 0
      · have o1 := kown_rd (W5.out h0 (by have := F5.out; omega))
        have o2 := kown_rd (y9 h0).1
        have hk := (srchE_zero.1 h0).2.1
        refine (Tk.same_c (o1.gr (gb_trans gA (gb_trans G69 gW))) (o2.gr gW) (by rw [Tk.firsts_len]; omega)).mono ?_
        rintro e w' ⟨rfl, g⟩
        exact ⟨by simp, g⟩
      · obtain ⟨rfl, _, _⟩ := H5.out (.inl h0)
        rw [z9 h0]
        obtain ⟨rfl, rfl⟩ := Z5.out h0
        refine (Tk.same_c (.inl ⟨rfl, rfl⟩) (.inl ⟨rfl, rfl⟩) (Nat.zero_le _)).mono ?_
        rintro e w' ⟨rfl, g⟩
        exact ⟨by simp, g⟩
    have cL : ∀ W, Gb w9 W → Calls Tryz.prog 23 #[.pointer (some ⟨tb, 0, none⟩)] W fun e w' => e = .returned (.int .i64 (rs.length : Nat)) ∧ w' = W := fun W g => trw_len (T9.gb g)
    have hle : (n2 : Int) ≤ (rs.length : Int) := by have := L5.out; omega
    have gd8 : Gb w9 w9.drew := ⟨rfl, rfl, rfl, Nat.le_refl _, fun _ _ => rfl⟩
    have G10 : Hid (Gb w w9) := gb_trans G2 T9.old
    obtain ⟨a9, n9, c9, rfl⟩ := hV
    generalize srchE q.length q k 1000000 = f at *
    generalize rs.length = n at *
    clear cT g6 g9 z9 y9 G69 hr0 hr1 T9 T6 gA o6 W5 H5 L5 Z5
    go_wp2_with fail
    refine wp_region_held_drew (S := fun W => Gb w9 W) (by kernel_rfl) (gd8) (fun hHeld => ?_)
    refine wpAnyH_ready (rs := [0]) (by kernel_rfl) (by simp) ?_
    refine AllReadyH.cons rfl (fun K hK => ?_) AllReadyH.nil
    go_simp
    refine (kawake_c _).mono ?_
    rintro e wa ⟨rfl, ga⟩
    refine hK.out _ _ (gb_trans hHeld ga) (fun hHeld => ?_)
    clear hK K
    try simp only [Act.put, List.getElem_toArray, List.getElem_cons_zero, List.getElem_cons_succ, List.setIfInBounds_toArray, List.set_cons_zero, List.set_cons_succ]
    refine wpAnyH_take (i := 1) (v := ?_) rfl (by kernel_rfl) (by kernel_rfl) (by kernel_rfl) (fun _ _ _ h => h) (Or.inl ⟨by rfl, ?_⟩) (by assumption) ?_
    rotate_left 1
    · (intro w hSw; (have s0 := gb_keeps hSw hc0; have s1 := gb_keeps hSw hc1); go_simp; try with_reducible rfl)
    try simp only [Act.put, List.getElem_toArray, List.getElem_cons_zero, List.getElem_cons_succ, List.setIfInBounds_toArray, List.set_cons_zero, List.set_cons_succ]
    refine wpAnyH_take (i := 2) (v := ?_) rfl (by kernel_rfl) (by kernel_rfl) (by kernel_rfl) (fun _ _ _ h => h) (Or.inl ⟨by rfl, ?_⟩) (by assumption) ?_
    rotate_left 1
    · (intro w hSw; (have s0 := gb_keeps hSw hc0; have s1 := gb_keeps hSw hc1); go_simp; try with_reducible rfl)
    try simp only [Act.put, List.getElem_toArray, List.getElem_cons_zero, List.getElem_cons_succ, List.setIfInBounds_toArray, List.set_cons_zero, List.set_cons_succ]
    refine wpAnyH_take (i := 3) (v := ?_) rfl (by kernel_rfl) (by kernel_rfl) (by kernel_rfl) (fun _ _ _ h => h) (Or.inl ⟨by rfl, ?_⟩) (by assumption) ?_
    rotate_left 1
    · (intro w hSw; (have s0 := gb_keeps hSw hc0; have s1 := gb_keeps hSw hc1); go_simp; try with_reducible rfl)
    try simp only [Act.put, List.getElem_toArray, List.getElem_cons_zero, List.getElem_cons_succ, List.setIfInBounds_toArray, List.set_cons_zero, List.set_cons_succ]
    refine wpAnyH_take (i := 4) (v := ?_) rfl (by kernel_rfl) (by kernel_rfl) (by kernel_rfl) (fun _ _ _ h => h) (Or.inl ⟨by rfl, ?_⟩) (by assumption) ?_
    rotate_left 1
    · (intro w hSw; (have s0 := gb_keeps hSw hc0; have s1 := gb_keeps hSw hc1); go_simp; try with_reducible rfl)
    try simp only [Act.put, List.getElem_toArray, List.getElem_cons_zero, List.getElem_cons_succ, List.setIfInBounds_toArray, List.set_cons_zero, List.set_cons_succ]
    refine wpAnyH_take (i := 5) (v := ?_) rfl (by kernel_rfl) (by kernel_rfl) (by kernel_rfl) (fun _ _ _ h => h) (Or.inl ⟨by rfl, ?_⟩) (by assumption) ?_
    rotate_left 1
    · (intro w hSw; (have s0 := gb_keeps hSw hc0; have s1 := gb_keeps hSw hc1); go_simp; try with_reducible rfl)
    try simp only [Act.put, List.getElem_toArray, List.getElem_cons_zero, List.getElem_cons_succ, List.setIfInBounds_toArray, List.set_cons_zero, List.set_cons_succ]
    refine wpAnyH_take (i := 6) (v := ?_) rfl (by kernel_rfl) (by kernel_rfl) (by kernel_rfl) (fun _ _ _ h => h) (Or.inl ⟨by rfl, ?_⟩) (by assumption) ?_
    rotate_left 1
    · (intro w hSw; (have s0 := gb_keeps hSw hc0; have s1 := gb_keeps hSw hc1); go_simp; try with_reducible rfl)
    try simp only [Act.put, List.getElem_toArray, List.getElem_cons_zero, List.getElem_cons_succ, List.setIfInBounds_toArray, List.set_cons_zero, List.set_cons_succ]
    refine wpAnyH_take (i := 7) (v := ?_) rfl (by kernel_rfl) (by kernel_rfl) (by kernel_rfl) (fun _ _ _ h => h) (Or.inl ⟨by rfl, ?_⟩) (by assumption) ?_
    rotate_left 1
    · (intro w hSw; (have s0 := gb_keeps hSw hc0; have s1 := gb_keeps hSw hc1); go_simp; try with_reducible rfl)
    try simp only [Act.put, List.getElem_toArray, List.getElem_cons_zero, List.getElem_cons_succ, List.setIfInBounds_toArray, List.set_cons_zero, List.set_cons_succ]
    refine wpAnyH_take (i := 8) (v := ?_) rfl (by kernel_rfl) (by kernel_rfl) (by kernel_rfl) (fun _ _ _ h => h) (Or.inl ⟨by rfl, ?_⟩) (by assumption) ?_
    rotate_left 1
    · (intro w hSw; (have s0 := gb_keeps hSw hc0; have s1 := gb_keeps hSw hc1); go_simp; try with_reducible rfl)
    try simp only [Act.put, List.getElem_toArray, List.getElem_cons_zero, List.getElem_cons_succ, List.setIfInBounds_toArray, List.set_cons_zero, List.set_cons_succ]
    refine wpAnyH_take (i := 9) (v := ?_) rfl (by kernel_rfl) (by kernel_rfl) (by kernel_rfl) (fun _ _ _ h => h) (Or.inl ⟨by rfl, ?_⟩) (by assumption) ?_
    rotate_left 1
    · (intro w hSw; (have s0 := gb_keeps hSw hc0; have s1 := gb_keeps hSw hc1); go_simp; try with_reducible rfl)
    try simp only [Act.put, List.getElem_toArray, List.getElem_cons_zero, List.getElem_cons_succ, List.setIfInBounds_toArray, List.set_cons_zero, List.set_cons_succ]
    refine wpAnyH_ready (rs := [10]) (by kernel_rfl) (by simp) ?_
    refine AllReadyH.cons rfl (fun K hK => ?_) AllReadyH.nil
    go_simp
    refine (cH _ hHeld).mono ?_
    rintro e wh ⟨rfl, gh⟩
    refine hK.out _ _ (gb_trans hHeld gh) (fun hHeld => ?_)
    clear hK K
    try simp only [Act.put, List.getElem_toArray, List.getElem_cons_zero, List.getElem_cons_succ, List.setIfInBounds_toArray, List.set_cons_zero, List.set_cons_succ]
    refine wpAnyH_take (i := 11) (v := ?_) rfl (by kernel_rfl) (by kernel_rfl) (by kernel_rfl) (fun _ _ _ h => h) (Or.inl ⟨by rfl, ?_⟩) (by assumption) ?_
    rotate_left 1
    · (intro w hSw; (have s0 := gb_keeps hSw hc0; have s1 := gb_keeps hSw hc1); go_simp; try with_reducible rfl)
    try simp only [Act.put, List.getElem_toArray, List.getElem_cons_zero, List.getElem_cons_succ, List.setIfInBounds_toArray, List.set_cons_zero, List.set_cons_succ]
    refine wpAnyH_take (i := 12) (v := ?_) rfl (by kernel_rfl) (by kernel_rfl) (by kernel_rfl) (fun _ _ _ h => h) (Or.inl ⟨by rfl, ?_⟩) (by assumption) ?_
    rotate_left 1
    · (intro w hSw; (have s0 := gb_keeps hSw hc0; have s1 := gb_keeps hSw hc1); go_simp; try with_reducible rfl)
    try simp only [Act.put, List.getElem_toArray, List.getElem_cons_zero, List.getElem_cons_succ, List.setIfInBounds_toArray, List.set_cons_zero, List.set_cons_succ]
    refine wpAnyH_take (i := 13) (v := ?_) rfl (by kernel_rfl) (by kernel_rfl) (by kernel_rfl) (fun _ _ _ h => h) (Or.inl ⟨by rfl, ?_⟩) (by assumption) ?_
    rotate_left 1
    · (intro w hSw; (have s0 := gb_keeps hSw hc0; have s1 := gb_keeps hSw hc1); go_simp; try with_reducible rfl)
    try simp only [Act.put, List.getElem_toArray, List.getElem_cons_zero, List.getElem_cons_succ, List.setIfInBounds_toArray, List.set_cons_zero, List.set_cons_succ]
    refine wpAnyH_take (i := 14) (v := ?_) rfl (by kernel_rfl) (by kernel_rfl) (by kernel_rfl) (fun _ _ _ h => h) (Or.inl ⟨by rfl, ?_⟩) (by assumption) ?_
    rotate_left 1
    · (intro w hSw; (have s0 := gb_keeps hSw hc0; have s1 := gb_keeps hSw hc1); go_simp; try with_reducible rfl)
    try simp only [Act.put, List.getElem_toArray, List.getElem_cons_zero, List.getElem_cons_succ, List.setIfInBounds_toArray, List.set_cons_zero, List.set_cons_succ]
    refine wpAnyH_take (i := 15) (v := ?_) rfl (by kernel_rfl) (by kernel_rfl) (by kernel_rfl) (fun _ _ _ h => h) (Or.inl ⟨by rfl, ?_⟩) (by assumption) ?_
    rotate_left 1
    · (intro w hSw; (have s0 := gb_keeps hSw hc0; have s1 := gb_keeps hSw hc1); go_simp; try with_reducible rfl)
    try simp only [Act.put, List.getElem_toArray, List.getElem_cons_zero, List.getElem_cons_succ, List.setIfInBounds_toArray, List.set_cons_zero, List.set_cons_succ]
    refine wpAnyH_take (i := 16) (v := ?_) rfl (by kernel_rfl) (by kernel_rfl) (by kernel_rfl) (fun _ _ _ h => h) (Or.inl ⟨by rfl, ?_⟩) (by assumption) ?_
    rotate_left 1
    · (intro w hSw; (have s0 := gb_keeps hSw hc0; have s1 := gb_keeps hSw hc1); go_simp; try with_reducible rfl)
    try simp only [Act.put, List.getElem_toArray, List.getElem_cons_zero, List.getElem_cons_succ, List.setIfInBounds_toArray, List.set_cons_zero, List.set_cons_succ]
    refine wpAnyH_ready (rs := [17]) (by kernel_rfl) (by simp) ?_
    refine AllReadyH.cons rfl (fun K hK => ?_) AllReadyH.nil
    go_simp
    refine (cL _ hHeld).mono ?_
    rintro e wb ⟨rfl, rfl⟩
    refine hK.out _ _ (hHeld) (fun hHeld => ?_)
    clear hK K
    try simp only [Act.put, List.getElem_toArray, List.getElem_cons_zero, List.getElem_cons_succ, List.setIfInBounds_toArray, List.set_cons_zero, List.set_cons_succ]
    refine wpAnyH_take (i := 18) (v := ?_) rfl (by kernel_rfl) (by kernel_rfl) (by kernel_rfl) (fun _ _ _ h => h) (Or.inl ⟨by rfl, ?_⟩) (by assumption) ?_
    rotate_left 1
    · (intro w hSw; (have s0 := gb_keeps hSw hc0; have s1 := gb_keeps hSw hc1); go_simp; try with_reducible rfl)
    try simp only [Act.put, List.getElem_toArray, List.getElem_cons_zero, List.getElem_cons_succ, List.setIfInBounds_toArray, List.set_cons_zero, List.set_cons_succ]
    refine wpAnyH_take (i := 19) (v := ?_) rfl (by kernel_rfl) (by kernel_rfl) (by kernel_rfl) (fun _ _ _ h => h) (Or.inl ⟨by rfl, ?_⟩) (by assumption) ?_
    rotate_left 1
    · (intro w hSw; (have s0 := gb_keeps hSw hc0; have s1 := gb_keeps hSw hc1); go_simp; try with_reducible rfl)
    try simp only [Act.put, List.getElem_toArray, List.getElem_cons_zero, List.getElem_cons_succ, List.setIfInBounds_toArray, List.set_cons_zero, List.set_cons_succ]
    refine wpAnyH_take (i := 20) (v := ?_) rfl (by kernel_rfl) (by kernel_rfl) (by kernel_rfl) (fun _ _ _ h => h) (Or.inl ⟨by rfl, ?_⟩) (by assumption) ?_
    rotate_left 1
    · (intro w hSw; (have s0 := gb_keeps hSw hc0; have s1 := gb_keeps hSw hc1); go_simp; try with_reducible rfl)
    try simp only [Act.put, List.getElem_toArray, List.getElem_cons_zero, List.getElem_cons_succ, List.setIfInBounds_toArray, List.set_cons_zero, List.set_cons_succ]
    refine wpAnyH_done (by kernel_rfl) ?_ _
    have G11 : Hid (Gb w wb) := gb_trans G10.out hHeld
    clear hHeld
    go_wp2
    refine bodyPost_ret (v := .bool true) (by simp [results, Tryz.results5, go_sem]) rfl ⟨rfl, ?_⟩
    exact G11.out

end Go.Proofs.YtepjbdklljlecaaGreat

/- VptreeBuilt's walk. -/
namespace Go.Proofs.YtepjbdklljlecaaGreat
open Go.RowKit Go.Sort

theorem wf_nil : Wf [] := ⟨Nat.zero_le _, fun _ hi => absurd hi (Nat.not_lt_zero _)⟩
theorem rok_nil (d : Int) : RowsOk [] d := ⟨by simp, by simp [idsOf], fun _ h => by cases h⟩
set_option maxRecDepth 100000 in
set_option maxHeartbeats 4000000 in
theorem built_no {w : World} {v u sc : Value} {l : List Rw} {q : List Int} {ops : List Opv} (hv : RdW w v l) (hwf : Wf l) (hs : RdO w sc ops) (hu : RdI w u q) (leaf B S k : Int) (hz : bldE l (q.length : Int) leaf ≠ 0) (hus : Rn.U S) :
    Calls Tryz.prog 6 #[v, .agg #[.int .i64 leaf, .int .i64 B, .int .u64 S], sc, u, .int .i64 k] w fun e w' => e = .returned (.bool true) ∧ Gb w w' := by
  have g1 : Gb w (w.alloc (.cells #[.int .i64 leaf, .int .i64 B, .int .u64 S] 25)) := gb_alloc (Below.refl _ _) _
  obtain ⟨w1, hw1⟩ : ∃ w1, w1 = w.alloc (.cells #[.int .i64 leaf, .int .i64 B, .int .u64 S] 25) := ⟨_, rfl⟩
  rw [← hw1] at g1
  have c0 : w1.cell? ⟨w.heap.size, 0, none⟩ = some (.int .i64 leaf) := by rw [hw1]; simp [go_sem]
  have c1 : w1.cell? ⟨w.heap.size, 1, none⟩ = some (.int .i64 B) := by rw [hw1]; simp [go_sem]
  have c2 : w1.cell? ⟨w.heap.size, 2, none⟩ = some (.int .u64 S) := by rw [hw1]; simp [go_sem]
  have cB := kbig_c (hv.gb g1) (by have := hwf.1; omega) (hs.gb g1)
  have cU := fun W (g : Gb w1 W) => kbuild_no ((hv.gb g1).gb g) hwf (q.length : Int) leaf B S hz
  have cV : ∀ W, Calls Tryz.prog 12 #[.slice none 0 0, .int .i64 (q.length : Int), .agg #[.int .i64 leaf, .int .i64 B, .int .u64 S]] W fun e w' => ∃ x z, e = .returned (.tuple #[.pointer x, .int .i64 z]) ∧ Gb W w' := by
    intro W
    by_cases h2 : bldE [] (q.length : Int) leaf = 0
    · unfold bldE at h2
      by_cases h3 : flatE [] (q.length : Int) = 0
      · rw [if_pos h3] at h2
        by_cases h4 : 1 ≤ leaf ∧ leaf ≤ 64
        · obtain ⟨lf, rfl⟩ := Int.eq_ofNat_of_zero_le (show 0 ≤ leaf by omega)
          refine (kbuild_ok (upT W) (rdw_nil W) wf_nil (m := q.length) h3 (by omega) B S hus).mono ?_
          intro e w' hO
          obtain ⟨tb, rs0, rfl, T3, _⟩ := trw_of hO
          exact ⟨_, _, rfl, T3.old⟩
        · rw [if_neg h4] at h2
          exact absurd h2 (by decide)
      · rw [if_neg h3] at h2
        exact absurd h2 h3
    · refine (kbuild_no (rdw_nil W) wf_nil (q.length : Int) leaf B S h2).mono ?_
      rintro e w' ⟨rfl, g⟩
      exact ⟨_, _, rfl, g⟩
  have CU : Hid _ := cU
  have CV : Hid _ := cV
  clear cU cV
  obtain ⟨av, cv, ev, _⟩ := hv
  obtain ⟨aq, cq, eq, _⟩ := hu.rd0
  obtain ⟨sca, scc, es, _⟩ := hs
  subst ev eq es
  generalize bldE l (q.length : Int) leaf = z at *
  generalize l.length = n at *
  generalize q.length = m at *
  generalize ops.length = no at *
  have hzb : (z == 0) = false := by rw [beq_eq_false_iff_ne]; exact hz
  clear hwf hu hus
  go_enter Tryz.func6, Tryz.ntmps6
  go_wp2_with fail
  rw [← hw1]
  clear hw1
  refine cB.mono ?_
  rintro e w2 ⟨bb, rfl, g2⟩
  have d0 := gb_keeps g2 c0
  have d1 := gb_keeps g2 c1
  have d2 := gb_keeps g2 c2
  have G2 := gb_trans g1 g2
  clear cB c0 c1 c2
  cases bb with
  | true =>
    go_wp2
    refine bodyPost_ret (v := .bool true) (by simp [results, Tryz.results6, go_sem]) rfl ⟨rfl, ?_⟩
    exact G2
  | false =>
    by_cases h1 : 32768 < (m : Int)
    · skip
      go_wp2
      refine bodyPost_ret (v := .bool true) (by simp [results, Tryz.results6, go_sem]) rfl ⟨rfl, ?_⟩
      exact G2
    have cU := CU.out w2 g2
    clear CU
    go_wp2_with fail
    refine cU.mono ?_
    rintro e w3 ⟨rfl, g3⟩
    have G3 := gb_trans G2 g3
    have d0 := gb_keeps g3 d0
    have d1 := gb_keeps g3 d1
    have d2 := gb_keeps g3 d2
    have cV := CV.out w3
    clear cU CV
    go_wp2_with fail
    refine cV.mono ?_
    rintro e w4 ⟨x, z', rfl, g4⟩
    have G4 := gb_trans G3 g4
    clear cV d0 d1 d2
    go_wp2_with fail
    refine (kawake_c _).mono ?_
    rintro e wz ⟨rfl, gz⟩
    have GZ : Hid (Gb w wz) := gb_trans G4 gz
    clear gz
    go_wp2
    refine bodyPost_ret (v := .bool true) (by simp [results, Tryz.results6, go_sem]) rfl ⟨rfl, ?_⟩
    exact GZ.out

theorem drop_put {m i : Nat} {l : List Rw} (hi : i < l.length) : (l.drop i).foldr (fun r a => put1 m a r) [] = put1 m ((l.drop (i + 1)).foldr (fun r a => put1 m a r) []) l[i]! := by
  rw [List.drop_eq_getElem_cons hi, List.foldr_cons, getElem!_pos l i hi]
set_option maxRecDepth 100000 in
set_option maxHeartbeats 8000000 in
theorem built_ok {w : World} {v u sc : Value} {l : List Rw} {q : List Int} {ops : List Opv} {lf : Nat} (hv : RdW w v l) (hwf : Wf l) (hs : RdO w sc ops) (hn : ops.length ≤ 9223372036854775807) (hu : RdI w u q) (B S k : Int) (hz : flatE l (q.length : Int) = 0) (hlf : 1 ≤ lf ∧ lf ≤ 64) (hus : Rn.U S) :
    Calls Tryz.prog 6 #[v, .agg #[.int .i64 (lf : Int), .int .i64 B, .int .u64 S], sc, u, .int .i64 k] w fun e w' => e = .returned (.bool true) ∧ Gb w w' := by
  have g1 : Gb w (w.alloc (.cells #[.int .i64 (lf : Int), .int .i64 B, .int .u64 S] 25)) := gb_alloc (Below.refl _ _) _
  obtain ⟨w1, hw1⟩ : ∃ w1, w1 = w.alloc (.cells #[.int .i64 (lf : Int), .int .i64 B, .int .u64 S] 25) := ⟨_, rfl⟩
  rw [← hw1] at g1
  have c0 : w1.cell? ⟨w.heap.size, 0, none⟩ = some (.int .i64 (lf : Int)) := by rw [hw1]; simp [go_sem]
  have c1 : w1.cell? ⟨w.heap.size, 1, none⟩ = some (.int .i64 B) := by rw [hw1]; simp [go_sem]
  have c2 : w1.cell? ⟨w.heap.size, 2, none⟩ = some (.int .u64 S) := by rw [hw1]; simp [go_sem]
  have cB := kbig_c (hv.gb g1) (by have := hwf.1; omega) (hs.gb g1)
  have cU := fun W (g : Gb w1 W) => kbuild_ok (upT W) ((hv.gb g1).gb g) hwf (m := q.length) hz hlf B S hus
  have ROK : Hid (RowsOk l (q.length : Int)) := (flatE_zero.1 hz).2
  have cV := fun W => kbuild_ok (upT W) (rdw_nil W) wf_nil (m := q.length) (flatE_zero.2 ⟨(flatE_zero.1 hz).1, rok_nil _⟩) hlf B S hus
  have CU : Hid _ := cU
  have CV : Hid _ := cV
  have HV : Hid (RdW w v l) := hv
  have HU : Hid (RdI w u q) := hu
  have HS : Hid (RdO w sc ops) := hs
  have HN : Hid (ops.length ≤ 9223372036854775807) := hn
  obtain ⟨av, cv, ev, _⟩ := hv
  obtain ⟨aq, cq, eq, _⟩ := hu.rd0
  obtain ⟨sca, scc, es, _⟩ := hs
  subst ev eq es
  obtain ⟨nl, hnl⟩ : ∃ nl, nl = l.length := ⟨_, rfl⟩
  have NL : Hid (nl = l.length) := hnl
  have hnl5 : nl ≤ 512 := by rw [hnl]; exact ROK.out.few
  rw [← hnl] at HV cB ⊢
  simp only [← hnl] at CU
  clear cU cV hwf hu hz hlf hn hnl hus
  go_enter Tryz.func6, Tryz.ntmps6
  go_wp2_with fail
  rw [← hw1]
  clear hw1
  refine cB.mono ?_
  rintro e w2 ⟨bb, rfl, g2⟩
  have d0 := gb_keeps g2 c0
  have d1 := gb_keeps g2 c1
  have d2 := gb_keeps g2 c2
  have G2 := gb_trans g1 g2
  clear cB c0 c1 c2
  cases bb with
  | true =>
    go_wp2
    refine bodyPost_ret (v := .bool true) (by simp [results, Tryz.results6, go_sem]) rfl ⟨rfl, ?_⟩
    exact G2
  | false =>
    by_cases h1 : 32768 < (q.length : Int)
    · skip
      go_wp2
      refine bodyPost_ret (v := .bool true) (by simp [results, Tryz.results6, go_sem]) rfl ⟨rfl, ?_⟩
      exact G2
    have cU := CU.out w2 g2
    clear CU g1 g2
    go_wp2_with fail
    refine cU.mono ?_
    intro e w3 hO
    obtain ⟨tb, rs0, rfl, T3, pm, ri⟩ := trw_of hO
    have d0 := gb_keeps T3.old d0
    have d1 := gb_keeps T3.old d1
    have d2 := gb_keeps T3.old d2
    have PE : Hid (l.foldr (fun r a => put1 q.length a r) [] = rs0) := puts_eq ROK.out ri pm
    have cV := CV.out w3
    clear cU hO pm ri CV
    go_wp2_with fail
    refine cV.mono ?_
    intro e w4 hO
    obtain ⟨ub, us0, rfl, T4, pm, _⟩ := trw_of hO
    have e0 : us0 = [] := pm.eq_nil
    subst e0
    have TT : Hid (Tw2 w2 ub tb q.length lf lf [] rs0 w4) := (Tw2.of T3 T4).symm
    clear cV hO pm T3 T4 d0 d1 d2
    go_wp2
    go_loopw [15] (fun iv W => ∃ z : Int, iv = .int .i64 z ∧ -1 ≤ z ∧ z < nl ∧ Hid (Tw2 w2 ub tb q.length lf lf ((l.drop (z + 1).toNat).foldr (fun r a => put1 q.length a r) []) rs0 W)) (fun iv _ => (intOf iv + 1).toNat)
    case atStart => exact ⟨(nl : Int) - 1, by first | rfl | go_num | simp, by omega, by omega, by
      unfold Hid
      rw [List.drop_of_length_le (by have := NL.out; omega)]
      exact TT.out⟩
    case round =>
      clear TT
      obtain ⟨z, rfl, hz1, hz2, TI⟩ := hrel
      by_cases hz0 : 0 ≤ z
      · obtain ⟨i, rfl⟩ := Int.eq_ofNat_of_zero_le hz0
        have hil : i < l.length := by have := NL.out; omega
        obtain ⟨_, _, ea, hA⟩ := HV.out
        injection ea with ea1 ea2 ea3
        subst ea1 ea3
        obtain ⟨rb, ro, ru, er, r0, r1, hr⟩ := hA i hil
        subst er
        have go := gb_trans G2 TI.out.old
        have r0 := gb_keeps go r0
        have r1 := gb_keeps go r1
        have e1 : ((i : Int) + 1).toNat = i + 1 := by omega
        have TI' : Hid (Tw2 w2 ub tb q.length lf lf ((l.drop (i + 1)).foldr (fun r a => put1 q.length a r) []) rs0 wr) := by
          have := TI.out
          rw [e1] at this
          exact this
        have cP := tw2_put TI'.out l[i]!.1 (hr.gb G2)
        have NX : Hid (∀ W', Tw2 w2 ub tb q.length lf lf (if putE q.length ((l.drop (i + 1)).foldr (fun r a => put1 q.length a r) []) (l[i]!.1, l[i]!.2) = 0 then putRw ((l.drop (i + 1)).foldr (fun r a => put1 q.length a r) []) (l[i]!.1, l[i]!.2) else ((l.drop (i + 1)).foldr (fun r a => put1 q.length a r) [])) rs0 W' → Tw2 w2 ub tb q.length lf lf ((l.drop ((i : Int) - 1 + 1).toNat).foldr (fun r a => put1 q.length a r) []) rs0 W') := by
          intro W' h
          rw [show ((i : Int) - 1 + 1).toNat = i by omega, drop_put hil]
          exact h
        generalize (l.drop (i + 1)).foldr (fun r a => put1 q.length a r) [] = rsi at *
        obtain ⟨ar, cr, er, _⟩ := hr.rd0
        subst er
        generalize l[i]!.1 = xi at *
        generalize hxl : l[i]!.2 = xl at *
        clear hxl ea2 hA TI TI' go hil e1 hr
        generalize putE q.length rsi (xi, xl) = zz at *
        go_wp2_with fail
        refine cP.mono ?_
        rintro e w5 ⟨rfl, T5⟩
        have TN := NX.out _ T5
        have TN' : Hid _ := TN
        clear cP T5 NX r0 r1 TN
        go_wp2
        go_roundw
        case rel => exact ⟨(i : Int) - 1, by first | rfl | go_num | simp, by omega, by omega, TN'⟩
        case measure => simp [intOf]
      · have ez : z = -1 := by omega
        subst ez
        have TT : Hid (Tw2 w2 ub tb q.length lf lf rs0 rs0 wr) := by
          have := TI.out
          rw [show ((-1 : Int) + 1).toNat = 0 from rfl, List.drop_zero, PE.out] at this
          exact this
        have cP := plays_2 TT.out.symm (HS.out.gb G2) HN.out
        clear TI TT hz0 hz1 hz2
        go_wp2_with fail
        refine cP.mono ?_
        rintro e w5 ⟨rfl, T5⟩
        have cQ := plays_2 T5.symm (HS.out.gb G2) HN.out
        clear cP T5
        go_wp2_with fail
        refine cQ.mono ?_
        rintro e w6 ⟨rfl, T6⟩
        clear cQ
        generalize ops.foldl (playRw q.length) rs0 = rs at *
        have cS := trw_searchg T6.symm.left ((HU.out.gb G2).gb T6.old) k 1000000
        have TT : Hid (Tw2 w2 ub tb q.length lf lf rs rs w6) := T6
        clear T6
        go_wp2_with fail
        refine cS.mono ?_
        rintro e w7 ⟨a1, n1, c1, a2, n2, c2, a3, n3, c3, rfl, G7, hh7, hz7⟩
        obtain ⟨wx, hwx⟩ : ∃ wx, wx = w7.alloc (.cells #[.slice a1 n1 c1, .slice a2 n2 c2, .slice a3 n3 c3] 51) := ⟨_, rfl⟩
        have gx : Gb w7 wx := by rw [hwx]; exact gb_alloc (Below.refl _ _) _
        have x0 : wx.cell? ⟨w7.heap.size, 0, none⟩ = some (.slice a1 n1 c1) := by rw [hwx]; simp [go_sem]
        have TX := (TT.out.gb G7).gb gx
        have cS2 := trw_searchg TX.left ((HU.out.gb G2).gb TX.old) k 1000000
        have H7 : Hid (srchE q.length q k 1000000 = 0 → (rs.length : Int) ≤ 1000000 → Tk.Own w7 (.slice a1 n1 c1) (Tk.firsts k.toNat (hitsOf q rs)).toArray) := hh7
        have Z7 : Hid (srchE q.length q k 1000000 ≠ 0 → a1 = none ∧ n1 = 0 ∧ c1 = 0) := hz7
        have T7 : Hid (Tw2 w2 ub tb q.length lf lf rs rs wx) := TX
        clear cS hh7 hz7 TT TX
        go_wp2_with fail
        rw [← hwx]
        refine cS2.mono ?_
        rintro e w9 ⟨b1, m1, e1, b2, m2, e2, b3, m3, e3, rfl, G9, hh9, hz9⟩
        obtain ⟨w8, hw8⟩ : ∃ w8, w8 = w9.alloc (.cells #[.slice b1 m1 e1, .slice b2 m2 e2, .slice b3 m3 e3] 51) := ⟨_, rfl⟩
        have gy : Gb w9 w8 := by rw [hw8]; exact gb_alloc (Below.refl _ _) _
        have y0 : w8.cell? ⟨w9.heap.size, 0, none⟩ = some (.slice b1 m1 e1) := by rw [hw8]; simp [go_sem]
        have G98 := gb_trans G9 gy
        have x0 := gb_keeps G98 x0
        have T8 := T7.out.gb G98
        have hok := T8.left.rok.1
        have KB : Hid (rs.length ≤ 4611686018427387904 ∧ ∀ r ∈ rs, r.2.length ≤ 4611686018427387904) := ⟨by have := hok.few; omega, fun r hr => by
          have := (chk_ok (hok.row r hr).2)
          have h1 := this.2.1
          have h2 := this.2.2.1
          omega⟩
        have F5 : Hid (rs.length ≤ 512) := hok.few
        have cH : ∀ W, Gb w8 W → Calls Tryz.prog 22 #[.slice a1 n1 c1, .slice b1 m1 e1] W fun e w' => e = .returned (.bool true) ∧ Gb W w' := by
          intro W gW
          by_cases h0 : srchE q.length q k 1000000 = 0
          · have o1 := kown_rd (H7.out h0 (by have := F5.out; omega))
            have o2 := kown_rd (hh9 h0 (by have := F5.out; omega))
            have hk := (srchE_zero.1 h0).2.1
            refine (Tk.same_c (o1.gr (gb_trans gx (gb_trans G98 gW))) (o2.gr (gb_trans gy gW)) (by rw [Tk.firsts_len]; omega)).mono ?_
            rintro e w' ⟨rfl, g⟩
            exact ⟨by simp, g⟩
          · obtain ⟨rfl, rfl, rfl⟩ := Z7.out h0
            obtain ⟨rfl, rfl, rfl⟩ := hz9 h0
            refine (Tk.same_c (.inl ⟨rfl, rfl⟩) (.inl ⟨rfl, rfl⟩) (Nat.zero_le _)).mono ?_
            rintro e w' ⟨rfl, g⟩
            exact ⟨by simp, g⟩
        have cRt : ∀ W, Gb w8 W → Calls Tryz.prog 21 #[.pointer (some ⟨tb, 0, none⟩)] W fun e w' => ∃ v', e = .returned v' ∧ OwnC w' W.heap.size v' rs ∧ Gb W w' := fun W g => trw_rows (T8.symm.left.gb g)
        have cRu : ∀ W, Gb w8 W → Calls Tryz.prog 21 #[.pointer (some ⟨ub, 0, none⟩)] W fun e w' => ∃ v', e = .returned v' ∧ OwnC w' W.heap.size v' rs ∧ Gb W w' := fun W g => trw_rows (T8.left.gb g)
        have gd8 : Gb w8 w8.drew := ⟨rfl, rfl, rfl, Nat.le_refl _, fun _ _ => rfl⟩
        have G10 : Hid (Gb w w8) := gb_trans G2 T8.old
        generalize srchE q.length q k 1000000 = f at *
        clear cS2 hh9 hz9 T8 T7 H7 Z7 hok G98 G9 gy gx G7 hwx
        go_wp2_with fail
        rw [← hw8]
        clear hw8
        refine (kawake_c _).mono ?_
        rintro e wa ⟨rfl, ga⟩
        have x0 := gb_keeps ga x0
        have y0 := gb_keeps ga y0
        have cH := cH _ ga
        go_wp2_with fail
        refine cH.mono ?_
        rintro e wh ⟨rfl, gh⟩
        have GH := gb_trans ga gh
        have cRt := cRt _ GH
        clear cH x0 y0
        go_wp2_with fail
        refine cRt.mono ?_
        rintro e wb ⟨v1, rfl, o1, g1⟩
        have GA := gb_trans GH g1
        have cRu := cRu _ GA
        clear cRt
        go_wp2_with fail
        refine cRu.mono ?_
        rintro e wc ⟨v2, rfl, o2, g2⟩
        have GB := gb_trans GA g2
        have cK := krsame_c ((o1.gb g2).rdw) (o2.rdw) KB.out.1 KB.out.2
        clear cRu
        go_wp2_with fail
        refine cK.mono ?_
        rintro e wd ⟨rfl, gk⟩
        have G11 : Hid (Gb w wd) := gb_trans G10.out (gb_trans GB gk)
        clear cK gk GB GA GH ga gh g1 g2 o1 o2
        go_wp2
        refine bodyPost_ret (v := .bool true) (by simp [results, Tryz.results6, go_sem]) rfl ⟨rfl, ?_⟩
        exact G11.out

end Go.Proofs.YtepjbdklljlecaaGreat
