/- Where ids stand in an answer, and what a sound answer is, plainly. -/
import Derived.Test.YtdmdjmliggjbjaaGreatCtFCert
import Derived.Test.YtdmdjmliggjbjaaGreatCt14
import Derived.Test.YtdmdjmliggjbjaaGreatCt16
import Derived.Test.YtdmdjmliggjbjaaGreatCtCG
namespace Go.Proofs.YtdmdjmliggjbjaaGreat
open Go.RowKit Go.Sort

/-- The seen ids and those of the first t regions have been told to stand; g tells where. -/
structure Plcd (ids : List Int) (a : Ans) (t : Nat) (g : Int → Int) : Prop where
  nd : (a.seen ++ restTo a t).Nodup
  sub : ∀ x ∈ a.seen ++ restTo a t, x ∈ ids
  zero : ∀ x, x ∉ a.seen ++ restTo a t → g x = 0
  seen : ∀ x ∈ a.seen, g x = 1
  rest : ∀ i (hi' : i < a.rest.length), i < t → ∀ x ∈ a.rest[i].I, g x = 2 + (i : Int)
theorem restTo_zero (a : Ans) : restTo a 0 = [] := by simp [restTo]
theorem mem_restTo {a : Ans} {t : Nat} {x : Int} (h : x ∈ restTo a t) : ∃ i, ∃ hi' : i < a.rest.length, i < t ∧ x ∈ a.rest[i].I := by
  unfold restTo at h
  obtain ⟨r, hr, hx⟩ := List.mem_flatMap.1 h
  obtain ⟨i, hi', e⟩ := List.mem_iff_getElem.1 hr
  rw [List.length_take] at hi'
  rw [List.getElem_take] at e
  subst e
  exact ⟨i, by omega, by omega, hx⟩
theorem restTo_mem {a : Ans} {t i : Nat} {x : Int} (hi' : i < a.rest.length) (h : i < t) (hx : x ∈ a.rest[i].I) : x ∈ restTo a t := by
  unfold restTo
  refine List.mem_flatMap.2 ⟨a.rest[i], ?_, hx⟩
  exact List.mem_iff_getElem.2 ⟨i, by rw [List.length_take]; omega, by rw [List.getElem_take]⟩
theorem Plcd.start {ids : List Int} {a : Ans} {g : Int → Int} (h : stand ids 1 a.seen (fun _ => 0) = some g) : Plcd ids a 0 g := by
  obtain ⟨h1, h2, h3, h4⟩ := stand_some (by decide) _ _ _ h
  refine ⟨?_, ?_, ?_, h3, fun i _ hi' => absurd hi' (Nat.not_lt_zero _)⟩
  · rw [restTo_zero, List.append_nil]; exact h1
  · rw [restTo_zero, List.append_nil]; exact fun x hx => (h2 x hx).1
  · rw [restTo_zero, List.append_nil]; exact fun x hx => h4 x hx
theorem Plcd.next {ids : List Int} {a : Ans} {t : Nat} {g g' : Int → Int} (P : Plcd ids a t g) (ht : t < a.rest.length) (h : stand ids (2 + (t : Int)) a.rest[t].I g = some g') : Plcd ids a (t + 1) g' := by
  obtain ⟨h1, h2, h3, h4⟩ := stand_some (by omega) _ _ _ h
  have hd : ∀ x ∈ a.seen ++ restTo a t, x ∉ a.rest[t].I := fun x hx hm => by
    have e0 := (h2 x hm).2
    rcases List.mem_append.1 hx with hs | hs
    · rw [P.seen x hs] at e0; cases e0
    · obtain ⟨i, hi', hit, hxi⟩ := mem_restTo hs
      rw [P.rest i hi' hit x hxi] at e0
      omega
  refine ⟨?_, ?_, ?_, ?_, ?_⟩
  · rw [restTo_succ ht, ← List.append_assoc]
    exact List.nodup_append.2 ⟨P.nd, h1, fun x hx y hy e => hd x hx (e ▸ hy)⟩
  · rw [restTo_succ ht, ← List.append_assoc]
    intro x hx
    rcases List.mem_append.1 hx with hx | hx
    · exact P.sub x hx
    · exact (h2 x hx).1
  · rw [restTo_succ ht, ← List.append_assoc]
    intro x hx
    rw [List.mem_append, not_or] at hx
    rw [h4 x hx.2]
    exact P.zero x hx.1
  · intro x hx
    rw [h4 x (hd x (List.mem_append_left _ hx))]
    exact P.seen x hx
  · intro i hi' hit x hx
    by_cases e : i = t
    · subst e; exact h3 x hx
    · have hit' : i < t := by omega
      rw [h4 x (hd x (List.mem_append_right _ (restTo_mem hi' hit' hx)))]
      exact P.rest i hi' hit' x hx
theorem Plcd.no {ids : List Int} {a : Ans} {t : Nat} {g : Int → Int} (P : Plcd ids a t g) (ht : t < a.rest.length) (hn : ids.Nodup) (h : stand ids (2 + (t : Int)) a.rest[t].I g = none) : ¬ (allIds a).Perm ids := fun hp => by
  have hnd : (allIds a).Nodup := hp.nodup_iff.2 hn
  have e : allIds a = (a.seen ++ restTo a t) ++ (a.rest[t].I ++ (a.rest.drop (t + 1)).flatMap (·.I)) := by
    unfold allIds restTo
    conv => lhs; rw [← List.take_append_drop t a.rest, List.drop_eq_getElem_cons ht]
    rw [List.flatMap_append, List.flatMap_cons, List.append_assoc]
  have hsub : ∀ x ∈ a.rest[t].I, x ∈ ids := fun x hx => hp.mem_iff.1 (by rw [e]; simp [hx])
  rw [e] at hnd
  obtain ⟨_, hb, hd⟩ := List.nodup_append.1 hnd
  obtain ⟨g', hg'⟩ := stand_ex (ids := ids) (p := 2 + (t : Int)) a.rest[t].I g (List.nodup_append.1 hb).1 (fun x hx => ⟨hsub x hx, P.zero x (fun hm => hd x hm x (List.mem_append_left _ hx) rfl)⟩)
  rw [hg'] at h; cases h
theorem stand_seen_no {ids : List Int} {a : Ans} (hn : ids.Nodup) (h : stand ids 1 a.seen (fun _ => 0) = none) : ¬ (allIds a).Perm ids := fun hp => by
  have hnd : (allIds a).Nodup := hp.nodup_iff.2 hn
  unfold allIds at hnd
  obtain ⟨g', hg'⟩ := stand_ex (ids := ids) (p := 1) a.seen (fun _ => 0) (List.nodup_append.1 hnd).1 (fun x hx => ⟨hp.mem_iff.1 (List.mem_append_left _ hx), rfl⟩)
  rw [hg'] at h; cases h
theorem Plcd.all {ids : List Int} {a : Ans} {g : Int → Int} (P : Plcd ids a a.rest.length g) : (allIds a).length ≤ ids.length ∧ ((allIds a).length = ids.length ↔ (allIds a).Perm ids) := by
  have h1 := P.nd
  have h2 := P.sub
  rw [restTo_all] at h1 h2
  refine ⟨?_, fun h => nd_full h1 h2 h, fun h => h.length_eq⟩
  clear P
  generalize allIds a = l at *
  clear a g
  induction l generalizing ids with
  | nil => exact Nat.zero_le _
  | cons x r ih =>
    have hx := h2 x List.mem_cons_self
    have := ih (ids := ids.erase x) (List.nodup_cons.1 h1).2 (fun y hy => by
      have hyx : y ≠ x := fun e => (List.nodup_cons.1 h1).1 (e ▸ hy)
      exact (List.mem_erase_of_ne hyx).2 (h2 y (List.mem_cons_of_mem _ hy)))
    rw [List.length_erase_of_mem hx] at this
    have := List.length_pos_of_mem hx
    simp only [List.length_cons]
    omega
theorem Plcd.left {ids : List Int} {a : Ans} {t : Nat} {g : Int → Int} (P : Plcd ids a t g) : (a.seen ++ restTo a t).length ≤ ids.length := by
  have h1 := P.nd
  have h2 := P.sub
  generalize a.seen ++ restTo a t = l at *
  clear P
  induction l generalizing ids with
  | nil => exact Nat.zero_le _
  | cons x r ih =>
    have hx := h2 x List.mem_cons_self
    have := ih (ids := ids.erase x) (List.nodup_cons.1 h1).2 (fun y hy => by
      have hyx : y ≠ x := fun e => (List.nodup_cons.1 h1).1 (e ▸ hy)
      exact (List.mem_erase_of_ne hyx).2 (h2 y (List.mem_cons_of_mem _ hy)))
    rw [List.length_erase_of_mem hx] at this
    have := List.length_pos_of_mem hx
    simp only [List.length_cons]
    omega

/-- A sound answer. -/
def SoundQ (rs : List Rw) (q : List Int) (k : Nat) (a : Ans) : Prop := ∃ srs, SoundP rs q k a srs
theorem ids_ndp {rs : List Rw} {q : List Int} (h : askE rs q = 0) : (idsOf rs).Nodup := (askE_zero.1 h).2.ids
theorem rows_nd {rs : List Rw} {q : List Int} (h : askE rs q = 0) : rs.Nodup := by
  have := ids_ndp h
  unfold idsOf at this
  exact List.Pairwise.imp_of_mem (fun _ _ hne e => hne (by rw [e])) (List.pairwise_map.1 this)
theorem row_one {rs : List Rw} {q : List Int} (h : askE rs q = 0) {r r' : Rw} (h1 : r ∈ rs) (h2 : r' ∈ rs) (e : r.1 = r'.1) : r = r' := by
  obtain ⟨i, hi', e1⟩ := List.mem_iff_getElem.1 h1
  obtain ⟨j, hj, e2⟩ := List.mem_iff_getElem.1 h2
  have := ids_nd h hi' hj (by rw [getElem!_pos rs i hi', getElem!_pos rs j hj, e1, e2]; exact e)
  rw [getElem!_pos rs i hi', getElem!_pos rs j hj, e1, e2] at this
  exact this
theorem ck_row {rs : List Rw} {q : List Int} (h : askE rs q = 0) {r : Rw} (hr : r ∈ rs) {x : Reg} : ckB x r.2 = 0 ↔ ckR x (q.length : Int) = 0 := by
  have h1 := ((askE_zero.1 h).2.row r hr).2
  have h2 := (chk_ok h1).2.2.1
  unfold ckB
  rw [← h2, h1]
  split
  · rename_i h3; exact ⟨fun _ => h3, fun _ => rfl⟩
  · exact Iff.rfl
theorem seen_perm {rs srs : List Rw} {q : List Int} {k : Nat} {a : Ans} {g : Int → Int} (hask : askE rs q = 0) (P : Plcd (idsOf rs) a a.rest.length g) (h : SoundP rs q k a srs) : srs.Perm (seenR g rs) := by
  have hs : srs.Nodup := rows_nd (h.ask hask)
  refine nd_perm hs ((rows_nd hask).filter _) (fun r => ?_)
  unfold seenR
  rw [List.mem_filter]
  constructor
  · intro hr
    refine ⟨h.mem r hr, ?_⟩
    have : r.1 ∈ a.seen := by rw [← h.ids]; exact List.mem_map.2 ⟨r, hr, rfl⟩
    rw [P.seen _ this]; rfl
  · rintro ⟨hr, hg⟩
    have hm : r.1 ∈ allIds a := h.all.mem_iff.2 (List.mem_map.2 ⟨r, hr, rfl⟩)
    have e1 : g r.1 = 1 := by simpa using hg
    rw [← restTo_all] at hm
    rcases List.mem_append.1 hm with hm | hm
    · rw [← h.ids] at hm
      obtain ⟨r', hr', e⟩ := List.mem_map.1 hm
      rw [← row_one hask (h.mem r' hr') hr e]
      exact hr'
    · obtain ⟨i, hi', hit, hx⟩ := mem_restTo hm
      rw [P.rest i hi' hit _ hx] at e1
      omega
/-- What the program asks of an answer whose ids all stand just once, and of no other: whether it is sound. -/
theorem sound_iff {rs : List Rw} {q : List Int} {k : Nat} {a : Ans} {g : Int → Int} (hask : askE rs q = 0) (P : Plcd (idsOf rs) a a.rest.length g) (hall : (allIds a).Perm (idsOf rs)) (hR : ∀ r ∈ a.rest, r.R < 340282366920938463463374607431768211456) :
    SoundQ rs q k a ↔ sortB a.seen ∧ (∀ r ∈ a.rest, r.I ≠ [] ∧ ckR r (q.length : Int) = 0) ∧ (∀ row ∈ rs, ∀ i (hi' : i < a.rest.length), g row.1 = 2 + (i : Int) → insV a.rest[i] row.2 = true) ∧ a.hits = Tk.firsts k (hitsOf q (seenR g rs)) := by
  have hnd := P.nd
  rw [restTo_all] at hnd
  constructor
  · rintro ⟨srs, h⟩
    refine ⟨fun i hi' => by have := h.rise i hi'; omega, fun r hr => ⟨(h.reg r hr).2.1, (h.reg r hr).1⟩, ?_, ?_⟩
    · intro row hrow i hi' hg
      have hm : row.1 ∈ allIds a := h.all.mem_iff.2 (List.mem_map.2 ⟨row, hrow, rfl⟩)
      rw [← restTo_all] at hm
      rcases List.mem_append.1 hm with hm | hm
      · rw [P.seen _ hm] at hg; omega
      · obtain ⟨j, hj, hjt, hx⟩ := mem_restTo hm
        rw [P.rest j hj hjt _ hx] at hg
        have e : j = i := by omega
        subst e
        obtain ⟨h1, h2, h3, h4⟩ := h.reg _ (List.getElem_mem hj)
        obtain ⟨row', hr', e, hin⟩ := h4 _ hx
        rw [row_one hask hr' hrow e] at hin
        unfold insV
        rw [hin, Bool.and_true]
        exact decide_eq_true ((ck_row hask hrow).2 h1)
    · rw [h.hits]
      exact Tk.firsts_perm k (hitsOf_perm q (seen_perm hask P h))
  · rintro ⟨hs, hreg, hin, hh⟩
    have hfind : ∀ x ∈ a.seen, ∃ r ∈ rs, r.1 = x := fun x hx => by
      have : x ∈ idsOf rs := hall.mem_iff.1 (List.mem_append_left _ hx)
      exact List.mem_map.1 this
    obtain ⟨srs, hi', hm⟩ : ∃ srs : List Rw, idsOf srs = a.seen ∧ ∀ r ∈ srs, r ∈ rs := by
      clear hs hh
      generalize a.seen = l at hfind
      induction l with
      | nil => exact ⟨[], rfl, by simp⟩
      | cons x r ih =>
        obtain ⟨s, h1, h2⟩ := ih (fun y hy => hfind y (List.mem_cons_of_mem _ hy))
        obtain ⟨y, hy, e⟩ := hfind x List.mem_cons_self
        refine ⟨y :: s, by unfold idsOf at h1 ⊢; rw [List.map_cons, h1, e], fun z hz => ?_⟩
        rcases List.mem_cons.1 hz with rfl | hz
        · exact hy
        · exact h2 z hz
    have hsn : a.seen.Nodup := by unfold allIds at hnd; exact (List.nodup_append.1 hnd).1
    have hrise : ∀ i, i + 1 < a.seen.length → a.seen[i]! < a.seen[i + 1]! := fun i hi2 => by
      have h1 := hs i hi2
      have h2 : a.seen[i]! ≠ a.seen[i + 1]! := by
        rw [getElem!_pos a.seen i (by omega), getElem!_pos a.seen (i + 1) hi2]
        exact (List.pairwise_iff_getElem.1 hsn) i (i + 1) (by omega) hi2 (by omega)
      omega
    refine ⟨srs, hi', hm, hrise, ?_, ?_, hall⟩
    · intro r hr
      obtain ⟨i, hi2, e⟩ := List.mem_iff_getElem.1 hr
      subst e
      refine ⟨(hreg _ hr).2, (hreg _ hr).1, hR _ hr, fun x hx => ?_⟩
      have : x ∈ idsOf rs := hall.mem_iff.1 (by rw [← restTo_all]; exact List.mem_append_right _ (restTo_mem hi2 hi2 hx))
      obtain ⟨row, hrow, e⟩ := List.mem_map.1 this
      refine ⟨row, hrow, e, ?_⟩
      have h1 := hin row hrow i hi2 (by rw [e]; exact P.rest i hi2 hi2 x hx)
      unfold insV at h1
      simp only [Bool.and_eq_true] at h1
      exact h1.2
    · rw [hh]
      refine Tk.firsts_perm k (hitsOf_perm q (List.Perm.symm ?_))
      have hsr : srs.Nodup := by
        have h1 := hsn
        rw [← hi'] at h1
        unfold idsOf at h1
        exact List.Pairwise.imp_of_mem (fun _ _ hne e => hne (by rw [e])) (List.pairwise_map.1 h1)
      refine nd_perm hsr ((rows_nd hask).filter _) (fun r => ?_)
      unfold seenR
      rw [List.mem_filter]
      constructor
      · intro hr
        refine ⟨hm r hr, ?_⟩
        have : r.1 ∈ a.seen := by rw [← hi']; exact List.mem_map.2 ⟨r, hr, rfl⟩
        rw [P.seen _ this]; rfl
      · rintro ⟨hr, hg⟩
        have hma : r.1 ∈ allIds a := hall.mem_iff.2 (List.mem_map.2 ⟨r, hr, rfl⟩)
        have e1 : g r.1 = 1 := by simpa using hg
        rw [← restTo_all] at hma
        rcases List.mem_append.1 hma with hm2 | hm2
        · rw [← hi'] at hm2
          obtain ⟨r', hr', e⟩ := List.mem_map.1 hm2
          rw [← row_one hask (hm r' hr') hr e]
          exact hr'
        · obtain ⟨i, hi2, hit, hx⟩ := mem_restTo hm2
          rw [P.rest i hi2 hit _ hx] at e1
          omega
theorem SoundQ.perm {rs : List Rw} {q : List Int} {k : Nat} {a : Ans} (h : SoundQ rs q k a) : (allIds a).Perm (idsOf rs) := by
  obtain ⟨_, h⟩ := h; exact h.all

theorem cdn_hit (q : List Int) (r : Rw) : dnH (hitOf q r) = dst q r.2 := by
  unfold dnH hitOf hi lo
  dsimp only
  omega
theorem chit_form {q : List Int} {l : List Rw} {k : Nat} {x : Tk.Ht} (h : x ∈ Tk.firsts k (hitsOf q l)) : ∃ r ∈ l, x = hitOf q r := by
  have h1 : x ∈ hitsOf q l := by
    unfold Tk.firsts at h
    exact (Tk.srt_perm _).mem_iff.1 (List.mem_of_mem_take h)
  obtain ⟨r, hr, e⟩ := List.mem_map.1 h1
  exact ⟨r, hr, e.symm⟩
theorem cfirsts_more {k : Nat} {A : List Tk.Ht} (hk : (Tk.firsts k A).length = k) : ∀ (B : List Tk.Ht), (∀ x ∈ B, Tk.hlt x (Tk.firsts k A)[k - 1]! = false) → Tk.firsts k (A ++ B) = Tk.firsts k A := by
  intro B
  induction B generalizing A with
  | nil => intro _; rw [List.append_nil]
  | cons x r ih =>
    intro h
    have e : Tk.firsts k (A ++ [x]) = Tk.firsts k A := by
      rw [Tk.firsts_snoc]
      exact Tk.keep_no (Tk.firsts_srtd k A) hk (h x List.mem_cons_self)
    rw [show A ++ x :: r = (A ++ [x]) ++ r by simp, ih (by rw [e]; exact hk) (by rw [e]; exact fun y hy => h y (List.mem_cons_of_mem _ hy)), e]
/-- The hits of a certain answer are the first k of all rows. -/
theorem cert_true {rs : List Rw} {q : List Int} {k : Nat} {a : Ans} (hask : askE rs q = 0) (hk : 1 ≤ k) (h : SoundQ rs q k a) (hc : certB q k a = true) : a.hits = Tk.firsts k (hitsOf q rs) := by
  obtain ⟨srs, h⟩ := h
  have hq := (askE_zero.1 hask).1
  have hsub : ∀ r ∈ rs, r ∉ srs → ∃ x ∈ a.rest, r.1 ∈ x.I := fun r hr hn => by
    have hm : r.1 ∈ allIds a := h.all.mem_iff.2 (List.mem_map.2 ⟨r, hr, rfl⟩)
    rcases List.mem_append.1 hm with hm | hm
    · rw [← h.ids] at hm
      obtain ⟨r', hr', e⟩ := List.mem_map.1 hm
      rw [row_one hask (h.mem r' hr') hr e] at hr'
      exact absurd hr' hn
    · obtain ⟨x, hx, hi'⟩ := List.mem_flatMap.1 hm
      exact ⟨x, hx, hi'⟩
  have hs : srs.Nodup := rows_nd (h.ask hask)
  have hp : rs.Perm (srs ++ rs.filter fun r => decide (r ∉ srs)) := by
    refine nd_perm (rows_nd hask) (List.nodup_append.2 ⟨hs, (rows_nd hask).filter _, fun x hx y hy e => ?_⟩) (fun r => ?_)
    · subst e
      have := (List.mem_filter.1 hy).2
      simp only [decide_eq_true_eq] at this
      exact this hx
    · rw [List.mem_append, List.mem_filter, decide_eq_true_eq]
      constructor
      · intro hr
        by_cases hm : r ∈ srs
        · exact Or.inl hm
        · exact Or.inr ⟨hr, hm⟩
      · rintro (hr | hr)
        · exact h.mem r hr
        · exact hr.1
  rw [h.hits, Tk.firsts_perm k (hitsOf_perm q hp), hitsOf_app]
  unfold certB at hc
  simp only [Bool.or_eq_true, Bool.and_eq_true, List.isEmpty_iff, decide_eq_true_eq, List.all_eq_true] at hc
  rcases hc with hc | ⟨hl, hfar⟩
  · have : rs.filter (fun r => decide (r ∉ srs)) = [] := by
      rw [List.filter_eq_nil_iff]
      intro r hr hn
      simp only [decide_eq_true_eq] at hn
      obtain ⟨x, hx, _⟩ := hsub r hr hn
      rw [hc] at hx; simp at hx
    rw [this]
    simp [hitsOf]
  · symm
    rw [h.hits] at hl hfar
    have hlen : (Tk.firsts k (hitsOf q srs)).length = k := by
      rw [Tk.firsts_len] at hl ⊢
      omega
    refine cfirsts_more hlen _ (fun y hy => ?_)
    obtain ⟨r, hr, rfl⟩ := List.mem_map.1 hy
    obtain ⟨hr1, hr2⟩ := List.mem_filter.1 hr
    simp only [decide_eq_true_eq] at hr2
    obtain ⟨x, hx, hxi⟩ := hsub r hr1 hr2
    obtain ⟨g1, g2, g3, g4⟩ := h.reg x hx
    obtain ⟨row, hrow, e, hin⟩ := g4 _ hxi
    rw [row_one hask hrow hr1 e] at hin
    have hf := hfar x hx
    have c1 : ckB x r.2 = 0 := (ck_row hask hr1).2 g1
    have c2 : ckB x q = 0 := by unfold ckB; rw [if_pos g1]; exact hq
    have h4 := bound_le c1 c2 hin
    have hl1 := (chk_ok hq).2.2.1
    have hl2 := (chk_ok ((askE_zero.1 hask).2.row r hr1).2).2.2.1
    have h5 : bdV x q ≤ dst q r.2 := by rw [dst_comm (by omega)]; exact h4
    have hm : (Tk.firsts k (hitsOf q srs))[k - 1]! ∈ Tk.firsts k (hitsOf q srs) := by
      have : k - 1 < (Tk.firsts k (hitsOf q srs)).length := by rw [hlen]; omega
      generalize Tk.firsts k (hitsOf q srs) = X at this ⊢
      rw [getElem!_pos X (k - 1) this]; exact List.getElem_mem _
    obtain ⟨r', _, e'⟩ := chit_form hm
    rw [e'] at hf ⊢
    rw [cdn_hit] at hf
    have h6 : dst q r'.2 < dst q r.2 := by omega
    cases hlt : Tk.hlt (hitOf q r) (hitOf q r') with
    | false => rfl
    | true =>
      rcases (hlt_hit r.1 r'.1 (dst q r.2) (dst q r'.2)).1 hlt with h7 | ⟨h7, _⟩
      · omega
      · omega
end Go.Proofs.YtdmdjmliggjbjaaGreat
