/- The law's tree: it lies in blocks that are younger than what was handed in. -/
import Derived.Test.YtbnljabeccebiaaGreatKnKdSn
namespace Go.Proofs.YtbnljabeccebiaaGreat
open Go.RowKit Go.Sort

theorem put_old {w0 W : World} {tb m leaf : Nat} {rs : List Rw} {F : List Nat} {xi : Int} {u : Value} {xl : List Int} (h : TreeAt W tb m leaf rs F) (g : Gb w0 W) (hu : RdI w0 u xl) (hF : ∀ x ∈ F, w0.heap.size ≤ x) :
    Calls Tryz.prog 24 #[.pointer (some ⟨tb, 0, none⟩), .agg #[.int .i64 xi, u]] W fun e w' => e = .returned (.tuple #[.bool (decide (putE m rs (xi, xl) = 0) && !hasId rs xi), .int .i64 (putE m rs (xi, xl))]) ∧ TOut W tb m leaf F (if putE m rs (xi, xl) = 0 then putRw rs (xi, xl) else rs) w' := by
  by_cases hx : xl = []
  · subst hx
    have hm := h.rok.2
    have h2 : chk [] (m : Int) ≠ 0 := fun e => by
      have := (chk_ok e).2.2.1
      simp at this
      omega
    have fin : ∀ e0 : Int, putE m rs (xi, []) = e0 → e0 ≠ 0 → (Calls Tryz.prog 24 #[.pointer (some ⟨tb, 0, none⟩), .agg #[.int .i64 xi, u]] W fun e w' => e = .returned (.tuple #[.bool false, .int .i64 e0]) ∧ Gb W w') → Calls Tryz.prog 24 #[.pointer (some ⟨tb, 0, none⟩), .agg #[.int .i64 xi, u]] W fun e w' => e = .returned (.tuple #[.bool (decide (putE m rs (xi, []) = 0) && !hasId rs xi), .int .i64 (putE m rs (xi, []))]) ∧ TOut W tb m leaf F (if putE m rs (xi, []) = 0 then putRw rs (xi, []) else rs) w' := by
      intro e0 he h0 c
      refine c.mono ?_
      rintro e w' ⟨rfl, g⟩
      rw [he, if_neg h0, decide_eq_false h0]
      exact ⟨rfl, F, h.gb g, fun y hy => .inl hy, Tk.Kp.of_gr g⟩
    by_cases h1 : okId xi = true
    · exact fin _ (by unfold putE; rw [if_pos h1, if_neg h2]) h2 (put_chk h (hu.gb g) h1 rfl h2)
    · exact fin 50 (by unfold putE; rw [if_neg h1]) (by decide) (put_id h (hu.gb g) (Bool.eq_false_iff.2 h1))
  · refine put_c h (hu.gb g) ?_
    intro b o n c e hb
    obtain ⟨a, c', e', hc⟩ := hu
    rw [e'] at e
    cases e
    obtain ⟨b', o', e2, hcell⟩ := hc 0 (List.length_pos_iff.2 hx)
    cases e2
    have h1 := World.block_lt_of_cell? w0 _ hcell
    have h2 := hF _ hb
    exact absurd h1 (Nat.not_lt.2 h2)

/-- The law's tree. -/
def TrW (w0 : World) (tb m leaf : Nat) (rs : List Rw) (W : World) : Prop := ∃ F, TreeAt W tb m leaf rs F ∧ (∀ x ∈ F, w0.heap.size ≤ x) ∧ Gb w0 W
theorem TrW.gb {w0 W W' : World} {tb m leaf : Nat} {rs : List Rw} (h : TrW w0 tb m leaf rs W) (g : Gb W W') : TrW w0 tb m leaf rs W' := by
  obtain ⟨F, t, hF, g0⟩ := h
  exact ⟨F, t.gb g, hF, gb_trans g0 g⟩
theorem TrW.old {w0 W : World} {tb m leaf : Nat} {rs : List Rw} (h : TrW w0 tb m leaf rs W) : Gb w0 W := by
  obtain ⟨_, _, _, g⟩ := h
  exact g
theorem TrW.out {w0 W W' : World} {tb m leaf : Nat} {rs' : List Rw} {F : List Nat} (hF : ∀ x ∈ F, w0.heap.size ≤ x) (g : Gb w0 W) (h : TOut W tb m leaf F rs' W') : TrW w0 tb m leaf rs' W' := by
  obtain ⟨F', t, l, k⟩ := h
  have s := g.size
  refine ⟨F', t, fun x hx => ?_, g.trans (k.gr s hF)⟩
  rcases l x hx with h | h
  · exact hF x h
  · omega
theorem trw_put {w0 W : World} {tb m leaf : Nat} {rs : List Rw} {u : Value} {xl : List Int} (h : TrW w0 tb m leaf rs W) (xi : Int) (hu : RdI w0 u xl) :
    Calls Tryz.prog 24 #[.pointer (some ⟨tb, 0, none⟩), .agg #[.int .i64 xi, u]] W fun e w' => e = .returned (.tuple #[.bool (decide (putE m rs (xi, xl) = 0) && !hasId rs xi), .int .i64 (putE m rs (xi, xl))]) ∧ TrW w0 tb m leaf (if putE m rs (xi, xl) = 0 then putRw rs (xi, xl) else rs) w' := by
  obtain ⟨F, t, hF, g⟩ := h
  exact (put_old t g hu hF).mono fun e w' ⟨h1, h2⟩ => ⟨h1, TrW.out hF g h2⟩
theorem trw_del {w0 W : World} {tb m leaf : Nat} {rs : List Rw} (h : TrW w0 tb m leaf rs W) (id : Int) :
    Calls Tryz.prog 26 #[.pointer (some ⟨tb, 0, none⟩), .int .i64 id] W fun e w' => e = .returned (.tuple #[.bool (hasId rs id), .int .i64 0]) ∧ TrW w0 tb m leaf (delRw rs id) w' := by
  obtain ⟨F, t, hF, g⟩ := h
  exact (delete_c t id).mono fun e w' ⟨h1, h2⟩ => ⟨h1, TrW.out hF g h2⟩
theorem trw_len {w0 W : World} {tb m leaf : Nat} {rs : List Rw} (h : TrW w0 tb m leaf rs W) :
    Calls Tryz.prog 23 #[.pointer (some ⟨tb, 0, none⟩)] W fun e w' => e = .returned (.int .i64 (rs.length : Nat)) ∧ w' = W := by
  obtain ⟨F, t, _⟩ := h
  exact len_c t
theorem trw_rows {w0 W : World} {tb m leaf : Nat} {rs : List Rw} (h : TrW w0 tb m leaf rs W) :
    Calls Tryz.prog 21 #[.pointer (some ⟨tb, 0, none⟩)] W fun e w' => ∃ v', e = .returned v' ∧ OwnC w' W.heap.size v' rs ∧ Gb W w' := by
  obtain ⟨F, t, _⟩ := h
  exact rows_c t
/-- A built tree is the law's. -/
theorem trw_of {w W : World} {m leaf : Nat} {rs : List Rw} {e : Ending} (h : TreeOut w m leaf rs e W) : ∃ tb rs', e = .returned (.tuple #[.pointer (some ⟨tb, 0, none⟩), .int .i64 0]) ∧ TrW w tb m leaf rs' W ∧ rs'.Perm rs ∧ Ris rs' := by
  obtain ⟨tb, rs', F, e1, t, p, g, hF⟩ := h
  exact ⟨tb, rs', e1, ⟨F, t, hF, g⟩, p, t.ris⟩
/-- What a search answers whose budget is for all; k: how many. -/
def WhO (w0 : World) (tb m leaf : Nat) (rs : List Rw) (q : List Int) (k b : Int) (e : Ending) (W' : World) : Prop := ∃ a1 n1 c1 a2 n2 c2 a3 n3 c3, e = .returned (.tuple #[.agg #[.slice a1 n1 c1, .slice a2 n2 c2, .slice a3 n3 c3], .int .i64 (srchE m q k b)]) ∧
  TrW w0 tb m leaf rs W' ∧ ((srchE m q k b ≠ 0 ∨ rs = []) → n1 = 0 ∧ n2 = 0 ∧ n3 = 0) ∧ (srchE m q k b = 0 → rs.length ≤ b → Tk.Own W' (.slice a1 n1 c1) (Tk.firsts k.toNat (hitsOf q rs)).toArray) ∧ n2 ≤ rs.length ∧ (srchE m q k b ≠ 0 → a1 = none ∧ c1 = 0)
theorem trw_search {w0 W : World} {tb m leaf : Nat} {rs : List Rw} (h : TrW w0 tb m leaf rs W) {u : Value} {q : List Int} (hu : RdI W u q) (k b : Int) :
    Calls Tryz.prog 19 #[.pointer (some ⟨tb, 0, none⟩), u, .int .i64 k, .int .i64 b] W fun e W' => WhO w0 tb m leaf rs q k b e W' := by
  have h0 := h
  obtain ⟨F, t, hF, g⟩ := h0
  by_cases hz : srchE m q k b = 0
  · obtain ⟨hq, hk, hb⟩ := srchE_zero.1 hz
    obtain ⟨K, rfl⟩ := Int.eq_ofNat_of_zero_le (show 0 ≤ k by omega)
    obtain ⟨B, rfl⟩ := Int.eq_ofNat_of_zero_le hb.1
    obtain ⟨T, N, R, hI, hs, c⟩ := kd_search t hq (k := K) (b := B) (by omega) (by omega)
    refine (c W u (Below.refl _ _) hu).mono ?_
    rintro e W' ⟨vh, vs, vr, rfl, hA⟩
    obtain ⟨a3, c3, e3⟩ := hA.rest.form
    obtain ⟨a2, c2, e2, _⟩ := hA.seen.rd
    have hl : (srt (idsOf R.seen)).length = R.seen.length := by rw [srt_len]; simp [idsOf]
    have hrl := hI.rows.length_eq
    rw [List.length_append] at hrl
    have h1 : ∃ a1 c1, vh = .slice a1 (Tk.firsts K (hitsOf q R.seen)).length c1 := by
      rcases hA.hits.2 with ⟨e, h0⟩ | ⟨g', cap, cur, e, _⟩
      · exact ⟨none, 0, by rw [e]; simp only [List.size_toArray] at h0; rw [h0]⟩
      · exact ⟨some ⟨g', 0, none⟩, cap, by rw [e]; simp⟩
    obtain ⟨a1, c1, e1⟩ := h1
    subst e1 e2 e3
    refine ⟨a1, _, c1, a2, _, c2, a3, _, c3, by rw [hz], h.gb hA.gb, ?_, ?_, by omega, fun hn => absurd hz hn⟩
    · rintro (hn | rfl)
      · exact absurd hz hn
      · simp only [List.length_nil] at hrl
        have hs0 : R.seen = [] := List.length_eq_zero_iff.1 (by omega)
        have ho : R.opn = [] := by
          cases ho : R.opn with
          | nil => rfl
          | cons p r =>
            have h3 := List.length_pos_iff.2 (okP_ne N p (hI.ok p (by rw [ho]; exact List.mem_cons_self)))
            rw [ho, List.flatMap_cons, List.length_append] at hrl
            omega
        refine ⟨?_, ?_, ?_⟩
        · rw [hs0, Tk.firsts_len]; simp [hitsOf]
        · rw [hl, hs0]; rfl
        · rw [ho]; rfl
    · intro _ hlb
      have := hA.hits
      rw [search_whole hq hI hs (.inl (by omega))] at this
      rw [search_whole hq hI hs (.inl (by omega))]
      exact this
  · refine (ksearch_no t hu k b hz).mono ?_
    rintro e W' ⟨rfl, g'⟩
    exact ⟨none, 0, 0, none, 0, 0, none, 0, 0, rfl, h.gb g', fun _ => ⟨rfl, rfl, rfl⟩, fun e => absurd e hz, Nat.zero_le _, fun _ => ⟨rfl, rfl⟩⟩
end Go.Proofs.YtbnljabeccebiaaGreat
