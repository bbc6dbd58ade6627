import Derived.Test.YtepjbdklljlecaaGreatVb39
import Derived.Test.YtepjbdklljlecaaGreatVb16
import Derived.Test.YtepjbdklljlecaaGreatVb10
import Derived.Laws.AppendOwnNone
import Derived.Maps.AppendAt
import Derived.Test.YtepjbdklljlecaaGreatVb24
import Derived.Test.YtepjbdklljlecaaGreatVb4
/- The reference's table in memory of its own. -/
namespace Go.Proofs.YtepjbdklljlecaaGreat
open Go.RowKit Go.Sort Go.Maps

/-- append of a slice, also of one that has no memory. -/
theorem append_any {P : Program} {w : World} {ops : Array Oper} {rest : List Oper} {o : Oper} {a : Act} {Q : Exit → Act → World → Prop} (hgd : o.guard = none) (s x : Operand) (t : TypeId)
    (ho : o.op = .call { callee := .builtin .append, args := #[s, x], argTypes := #[t, t] })
    (base : Nat) (e : TypeId) (i : TypeInfo) (z : Value) (size bytes : Nat) (ht : P.underlying t = some (.slice e)) (hi : P.info? e = some i) (hz : i.zero = some z)
    (hsize : i.size = size) (hby : i.bytes = bytes) (hzs : z.cells.size = size) (hsz : 0 < size)
    (v : Value) (n : Nat) (xs : List Value) (hs : a.eval s = v) (hown : w.ownsRow base e size v n xs)
    (ax : Option Addr) (m c : Nat) (news : List Value) (hx : a.eval x = .slice ax m c) (hnil : ax = none → m = 0 ∧ c = 0) (hl : news.length = m * size) (hnews : ∀ ad, ax = some ad → ∀ j u, news[j]? = some u → w.cell? (ad.add j) = some u) (h1 : ∀ u ∈ news, u.oneCell' = true)
    (h63 : n + m ≤ maxLen) (hbytes : (n + m) * bytes ≤ 140737488355328) (hbase : base ≤ w.heap.size)
    (h : ∀ v' w', w'.ownsRow base e size v' (n + m) (xs ++ news) → w.grownBy w' v.ownBlock → (v'.ownBlock = v.ownBlock ∨ v'.ownBlock = some w.heap.size) → wpList P ops Q rest (a.put o.dst v') w') :
    wpList P ops Q (o :: rest) a w := by
  cases ax with
  | none =>
    obtain ⟨rfl, rfl⟩ := hnil rfl
    have e0 : news = [] := List.length_eq_zero_iff.1 (by omega)
    subst e0
    refine wpList_append_own_none hgd s x t ho base e i size ht hi v n xs hs hown hx (h v w ?_ ?_ (.inl rfl))
    · rw [List.append_nil]; exact hown
    · exact ⟨rfl, rfl, rfl, Nat.le_refl _, fun _ _ _ => rfl⟩
  | some ad => exact wpList_append_own_at w hgd s x t ho base e i z size bytes ht hi hz hsize hby hzs hsz v n xs hs hown ad m c news hx hl (hnews ad rfl) h1 h63 hbytes hbase (fun v' w' a b _ d => h v' w' a b d)

theorem del_split {rs : List Rw} {id : Int} (h : Ris rs) (hh : hasId rs id = true) : delRw rs id = rs.take (plc rs id) ++ rs.drop (plc rs id + 1) := by
  obtain ⟨hp, he⟩ := plc_has h hh
  have hs := split_lt id h
  generalize plc rs id = p at hp he hs ⊢
  have e : rs = rs.take p ++ rs[p] :: rs.drop (p + 1) := by rw [← List.drop_eq_getElem_cons hp, List.take_append_drop]
  unfold delRw
  conv => lhs; rw [e]
  rw [List.filter_append, List.filter_cons_of_neg (by simp [he])]
  congr 1
  · rw [List.filter_eq_self]
    intro y hy
    rw [hs.1] at hy
    have := (List.mem_filter.1 hy).2
    simp at this ⊢
    omega
  · rw [List.filter_eq_self]
    intro y hy
    obtain ⟨j, hj, rfl⟩ := List.getElem_of_mem hy
    rw [List.getElem_drop]
    rw [List.length_drop] at hj
    have := List.pairwise_iff_getElem.1 h p (p + 1 + j) hp (by omega) (by omega)
    simp
    omega
theorem put_at {rs : List Rw} {r : Rw} (h : Ris rs) : putRw rs r = rs.take (plc rs r.1) ++ r :: rs.drop (plc rs r.1 + (if hasId rs r.1 then 1 else 0)) := by
  unfold putRw
  by_cases hh : hasId rs r.1 = true
  · rw [if_pos hh]
    obtain ⟨hp, he⟩ := plc_has h hh
    have hr : Ris (delRw rs r.1) := del_ris _ h
    have e := del_split h hh
    have hl : (rs.take (plc rs r.1)).length = plc rs r.1 := by rw [List.length_take]; omega
    have hpl : plc (delRw rs r.1) r.1 = plc rs r.1 := by
      unfold plc delRw
      rw [List.filter_filter]
      congr 1
      apply List.filter_congr
      intro x _
      by_cases hx : x.1 < r.1
      · have : ¬ x.1 = r.1 := by omega
        simp [hx, this]
      · simp [hx]
    unfold insRw
    rw [hpl, e, List.take_left' hl, List.drop_left' hl]
  · rw [if_neg hh, Nat.add_zero, del_none (Bool.eq_false_iff.2 hh)]
    rfl
theorem put_len {m : Nat} {rs : List Rw} {r : Rw} (h : Ris rs) (hl : rs.length ≤ 512) (he : putE m rs r = 0) : (putRw rs r).length ≤ 512 := by
  rw [put_at h, List.length_append, List.length_cons, List.length_take, List.length_drop]
  have hp := plc_le rs r.1
  unfold putE at he
  by_cases hh : hasId rs r.1 = true
  · obtain ⟨hp', _⟩ := plc_has h hh
    rw [if_pos hh]
    omega
  · have hf := Bool.eq_false_iff.2 hh
    by_cases h1 : okId r.1 = true
    · rw [if_pos h1] at he
      by_cases h2 : chk r.2 (m : Int) = 0
      · rw [if_pos h2] at he
        by_cases h3 : 512 ≤ rs.length
        · rw [if_pos ⟨hf, h3⟩] at he
          exact absurd he (by decide)
        · rw [if_neg hh]
          omega
      · rw [if_neg h2] at he
        exact absurd he h2
    · rw [if_neg h1] at he
      exact absurd he (by decide)
theorem putRw_ris {rs : List Rw} {r : Rw} (h : Ris rs) : Ris (putRw rs r) := by
  refine ins_ris (del_ris _ h) (fun y hy => ?_)
  have := (List.mem_filter.1 hy).2
  simpa using this
theorem OwnRs.rdw {w : World} {v : Value} {d : List Rt} (h : OwnRs IqT w v d) : RdW w v (d.map rwR) := by
  rcases h.row.2 with ⟨e, h0⟩ | ⟨g, cap, cur, e, _⟩
  · have e0 : d = [] := List.length_eq_zero_iff.1 h0
    subst e e0
    exact ⟨none, 0, rfl, fun i hi => absurd hi (Nat.not_lt_zero _)⟩
  · subst e
    have h1 := rwAt_own h.row
    exact RwRd.rdw (cap := cap) h1.1.rd (fun x hx => (h.vec x hx).rd)
/-- The table in its block; G: its blocks other than those of numbers. -/
def TbAt (w : World) (tb m : Nat) (rs : List Rw) (G : List Nat) : Prop := ∃ v d, w.heap[tb]? = some (.cells #[.int .i64 (m : Int), v] 77 (0, 0)) ∧ OwnRs IqT w v d ∧ d.map rwR = rs ∧ Ris rs ∧ rs.length ≤ 512 ∧ G = tb :: v.ownBlock.toList
theorem TbAt.kp {S : Nat → Prop} {w w' : World} {tb m : Nat} {rs : List Rw} {G : List Nat} (h : TbAt w tb m rs G) (k : Tk.Kp S w w') (hS : NoInt w S) (hG : ∀ x ∈ G, ¬ S x) : TbAt w' tb m rs G := by
  obtain ⟨v, d, h1, h2, h3, h4, h5, rfl⟩ := h
  refine ⟨v, d, ?_, h2.kp k hS (fun g e => hG g ?_), h3, h4, h5, rfl⟩
  · rw [k.block tb (Array.getElem?_eq_some_iff.1 h1).1 (hG tb List.mem_cons_self)]; exact h1
  · rw [e]; simp
theorem TbAt.gb {w w' : World} {tb m : Nat} {rs : List Rw} {G : List Nat} (h : TbAt w tb m rs G) (g : Gb w w') : TbAt w' tb m rs G := h.kp (kpF g) (noF _) (fun _ _ h => h)
theorem TbAt.mem {w : World} {tb m : Nat} {rs : List Rw} {G : List Nat} (h : TbAt w tb m rs G) : tb ∈ G ∧ ∀ y ∈ G, y < w.heap.size := by
  obtain ⟨v, d, h1, h2, h3, h4, h5, rfl⟩ := h
  refine ⟨List.mem_cons_self, fun y hy => ?_⟩
  rcases List.mem_cons.1 hy with rfl | hy
  · exact (Array.getElem?_eq_some_iff.1 h1).1
  · exact (h2.row.lt y (by simpa using hy)).2
theorem TbAt.noint {w : World} {tb m : Nat} {rs : List Rw} {G : List Nat} (h : TbAt w tb m rs G) : NoInt w (fun k => k = tb) := by
  obtain ⟨v, d, h1, _⟩ := h
  intro k e cur s hc
  subst e
  rw [h1] at hc
  simp at hc
/-- What lies in the table's block, and how its rows are read. -/
theorem TbAt.rd {w : World} {tb m : Nat} {rs : List Rw} {G : List Nat} (h : TbAt w tb m rs G) : ∃ a cap, w.cell? ⟨tb, 0, none⟩ = some (.int .i64 (m : Int)) ∧ w.cell? ⟨tb, 1, none⟩ = some (.slice a rs.length cap) ∧ RdW w (.slice a rs.length cap) rs ∧ rs.length ≤ 512 := by
  obtain ⟨v, d, h1, h2, h3, h4, h5, rfl⟩ := h
  have hd : d.length = rs.length := by rw [← h3, List.length_map]
  have hr : RdW w v rs := by rw [← h3]; exact OwnRs.rdw h2
  obtain ⟨a, cap, e, hx⟩ := hr
  subst e
  exact ⟨a, cap, by simp [World.cell?, h1], by simp [World.cell?, h1], ⟨a, cap, rfl, hx⟩, h5⟩
/-- What Put and Delete leave. -/
def TbOut (w : World) (tb m : Nat) (rs : List Rw) (G : List Nat) (w' : World) : Prop := ∃ G', TbAt w' tb m rs G' ∧ (∀ y ∈ G', y ∈ G ∨ w.heap.size ≤ y) ∧ Tk.Kp (fun k => k = tb) w w'
theorem own_row_ne {W : World} {B B' n : Nat} {u v : Value} {x : List Int} {xs : List Value} (h : Own W B u x) (r : W.ownsRow B' 43 2 v n xs) : u.ownBlock = none ∨ u.ownBlock ≠ v.ownBlock := by
  rcases h.2 with ⟨rfl, _⟩ | ⟨g, cap, cur, rfl, _, h2, _⟩
  · exact .inl rfl
  · rcases r.2 with ⟨rfl, _⟩ | ⟨g', cap', cur', rfl, _, h4, _⟩
    · exact .inr (by simp [Value.ownBlock])
    · refine .inr (fun e => ?_)
      simp only [Value.ownBlock, Option.some.injEq] at e
      rw [e, h4] at h2
      simp at h2
theorem own_grown {W W' : World} {B B' n : Nat} {u v : Value} {x : List Int} {xs : List Value} (h : Own W B u x) (r : W.ownsRow B' 43 2 v n xs) (g : W.grownBy W' v.ownBlock) : Own W' B u x := h.kept g (own_row_ne h r)
theorem ownsR_mono {w : World} {B B' n : Nat} {v : Value} {t : TypeId} {k : Nat} {xs : List Value} (h : w.ownsRow B t k v n xs) (hb : B' ≤ B) : w.ownsRow B' t k v n xs := by
  refine ⟨h.1, ?_⟩
  rcases h.2 with h1 | ⟨g, cap, cur, e, hB, r⟩
  · exact .inl h1
  · exact .inr ⟨g, cap, cur, e, Nat.le_trans hb hB, r⟩
/-- The table laid together. -/
theorem tb_fin {w w5 : World} {tb m n : Nat} {rs rs' : List Rw} {G : List Nat} {v' : Value} {d' : List Rt} (h : TbAt w tb m rs G) (g : Gb w w5) (hr : w5.ownsRow w.heap.size 43 2 v' n (d'.flatMap encR)) (hn : n = d'.length)
    (hv : ∀ x ∈ d', OwnQ IqT w5 x.2.1 x.2.2) (hd : d'.map rwR = rs') (hs : Ris rs') (hl : rs'.length ≤ 512) : TbOut w tb m rs' G (w5.setCell ⟨tb, 1, none⟩ v') := by
  subst hn
  have hm := h.mem.2 tb h.mem.1
  have nb := (h.gb g).noint
  have h5 := h.gb g
  obtain ⟨v, d, h1, _⟩ := h5
  have kb : Tk.Kp (fun k => k = tb) w5 (w5.setCell ⟨tb, 1, none⟩ v') := (Tk.Kp.refl (fun k => k = tb) w5).setCell (.inl rfl) _
  refine ⟨tb :: v'.ownBlock.toList, ⟨v', d', ?_, ?_, hd, hs, hl, rfl⟩, fun y hy => ?_, (Tk.Kp.of_gr g).trans kb⟩
  · simp [World.setCell, Array.getElem?_modify, h1]
  · have o5 : OwnRs IqT w5 v' d' := ⟨ownsR_mono hr (Nat.zero_le _), hv, upT _⟩
    refine o5.kp kb nb (fun g' e hg => ?_)
    have := (hr.lt g' e).1
    omega
  · rcases List.mem_cons.1 hy with rfl | hy
    · exact .inl h.mem.1
    · exact .inr (hr.lt y (by simpa using hy)).1
/-- Cells of rows from a place on. -/
theorem rows_news {w : World} {v : Value} {d : List Rt} (h : OwnRs IqT w v d) {g cap n : Nat} (e : v = .slice (some ⟨g, 0, none⟩) n cap) (p : Nat) : (∀ j u, ((d.take p).flatMap encR)[j]? = some u → w.cell? ((⟨g, 0, none⟩ : Addr).add j) = some u) ∧ ∀ j u, ((d.drop p).flatMap encR)[j]? = some u → w.cell? ((⟨g, p * 2, none⟩ : Addr).add j) = some u := by
  subst e
  have hc := h.row.cells (g := g) rfl
  refine ⟨fun j u hj => hc j u ?_, fun j u hj => ?_⟩
  · rw [← flat_takeR, List.getElem?_take] at hj
    by_cases c : j < p * 2
    · rw [if_pos c] at hj; exact hj
    · rw [if_neg c] at hj; cases hj
  · rw [← flat_dropR, List.getElem?_drop] at hj
    have := hc _ u hj
    rw [Addr.add_lit] at this ⊢
    rw [Nat.zero_add] at this
    exact this
theorem encR_one {d : List Rt} {w : World} (hv : ∀ x ∈ d, OwnQ IqT w x.2.1 x.2.2) : ∀ u ∈ d.flatMap encR, u.oneCell' = true := by
  intro u hu
  obtain ⟨x, hx, hu⟩ := List.mem_flatMap.1 hu
  simp only [List.mem_cons, List.not_mem_nil, or_false] at hu
  rcases hu with rfl | rfl
  · rfl
  · obtain ⟨a, c, e, _⟩ := (hv x hx).rd
    rw [e]; rfl
theorem encR_len (d : List Rt) : (d.flatMap encR).length = d.length * 2 := by
  induction d with
  | nil => rfl
  | cons x r ih => rw [List.flatMap_cons, List.length_append, ih, List.length_cons]; simp; omega
theorem owns_form {w : World} {B n k : Nat} {t : TypeId} {v : Value} {xs : List Value} (h : w.ownsRow B t k v n xs) : ∃ a c, v = .slice a n c := by
  rcases h.2 with ⟨e, h0⟩ | ⟨g, cap, cur, e, _⟩
  · exact ⟨none, 0, by rw [e, h0]⟩
  · exact ⟨_, cap, e⟩
theorem take_news {w : World} {a : Option Addr} {n cap : Nat} {d : List Rt} (h : OwnRs IqT w (.slice a n cap) d) (p : Nat) (hp : p ≤ n) : (a = none → p = 0 ∧ cap = 0) ∧ ∀ ad, a = some ad → ∀ j u, ((d.take p).flatMap encR)[j]? = some u → w.cell? (ad.add j) = some u := by
  rcases h.row.2 with ⟨e, h0⟩ | ⟨g, c, cur, e, _⟩
  · injection e with e1 e2 e3
    subst e1 e2 e3
    exact ⟨fun _ => ⟨by omega, rfl⟩, (fun ad e => by cases e)⟩
  · injection e with e1 e2 e3
    subst e1 e3
    refine ⟨(fun e => by cases e), fun ad e => ?_⟩
    cases e
    exact (rows_news h rfl p).1
theorem rest_news {w : World} {a a2 : Option Addr} {n cap : Nat} {d : List Rt} (h : OwnRs IqT w (.slice a n cap) d) (p : Nat) (hp : p ≤ n) (e2 : (if cap = p then a else Option.map (fun x => x.add (p * 2)) a) = a2) : (a2 = none → n - p = 0 ∧ cap - p = 0) ∧ ∀ ad, a2 = some ad → ∀ j u, ((d.drop p).flatMap encR)[j]? = some u → w.cell? (ad.add j) = some u := by
  rcases h.row.2 with ⟨e, h0⟩ | ⟨g, c, cur, e, _, _, hc, _⟩
  · injection e with e1 e2' e3
    subst e1 e2' e3
    have e4 : a2 = none := by rw [← e2]; split <;> rfl
    subst e4
    exact ⟨fun _ => ⟨by omega, by omega⟩, fun ad e => by cases e⟩
  · injection e with e1 e2' e3
    subst e1 e3
    by_cases hcp : cap = p
    · rw [if_pos hcp] at e2
      subst e2
      refine ⟨(fun e => by cases e), fun ad e => ?_⟩
      intro j u hj
      rw [List.drop_of_length_le (by omega)] at hj
      cases hj
    · rw [if_neg hcp] at e2
      subst e2
      refine ⟨(fun e => by cases e), fun ad e => ?_⟩
      simp only [Option.map_some, Option.some.injEq] at e
      subst e
      rw [Addr.add_lit, Nat.zero_add]
      exact (rows_news h rfl p).2
theorem ints_news {w : World} {a : Option Addr} {n cap : Nat} {l : List Int} (h : RdI w (.slice a n cap) l) : ∀ ad, a = some ad → ∀ j u, (l.map (Value.int .i64))[j]? = some u → w.cell? (ad.add j) = some u := by
  intro ad e j u hj
  rw [List.getElem?_map] at hj
  obtain ⟨y, hy, rfl⟩ := Option.map_eq_some_iff.1 hj
  obtain ⟨hjl, hy⟩ := List.getElem?_eq_some_iff.1 hy
  obtain ⟨a', c', e', ha⟩ := h
  injection e' with e1 e2 e3
  obtain ⟨b', o', e4, hc⟩ := ha j hjl
  rw [← e1, e] at e4
  cases e4
  rw [Addr.add_lit, hc, getElem!_pos l j hjl, hy]
theorem put_fin {w wr w1 w2 w3 w4 : World} {tb m q q' r lu : Nat} {rs : List Rw} {G : List Nat} {xi : Int} {xl : List Int} {v v1 v2 v3 v4 : Value} {d : List Rt} (h : TbAt w tb m rs G) (ho : OwnRs IqT w v d) (hd : d.map rwR = rs) (g0 : Gb w wr) (hlu : lu = xl.length)
    (ho1 : w1.ownsRow wr.heap.size 3 1 v1 lu ([] ++ xl.map (Value.int .i64))) (hg1 : wr.grownBy w1 (Value.ownBlock (.slice none 0 0)))
    (ho2 : w2.ownsRow wr.heap.size 43 2 v2 (0 + q) ([] ++ (d.take q).flatMap encR)) (hg2 : w1.grownBy w2 (Value.ownBlock (.slice none 0 0)))
    (ho3 : w3.ownsRow wr.heap.size 43 2 v3 (0 + q + 1) ([] ++ (d.take q).flatMap encR ++ [.int .i64 xi, v1])) (hg3 : (w2.alloc (.cells #[.int .i64 xi, v1] 43)).grownBy w3 v2.ownBlock)
    (ho4 : w4.ownsRow wr.heap.size 43 2 v4 (0 + q + 1 + r) ([] ++ (d.take q).flatMap encR ++ [.int .i64 xi, v1] ++ (d.drop q').flatMap encR)) (hg4 : w3.grownBy w4 v3.ownBlock)
    (hr : r = d.length - q') (hq : q ≤ d.length) (hput : putRw rs (xi, xl) = rs.take q ++ (xi, xl) :: rs.drop q') (hris : Ris (putRw rs (xi, xl))) (hlen : (putRw rs (xi, xl)).length ≤ 512) : TbOut w tb m (putRw rs (xi, xl)) G (w4.setCell ⟨tb, 1, none⟩ v4) ∧ Gb wr w4 := by
  have G1 : Gb wr w1 := below_grown (Below.refl _ _) hg1 (fun k e => by cases e) (Nat.le_refl _)
  have G2 : Gb wr w2 := below_grown G1 hg2 (fun k e => by cases e) G1.size
  have G2' : Gb w1 w2 := below_grown (Below.refl _ _) hg2 (fun k e => by cases e) (Nat.le_refl _)
  have G3 : Gb wr w3 := below_grown (gb_alloc G2 _) hg3 (fun k e => (ho2.lt k e).1) (gb_alloc G2 _).size
  have G4 : Gb wr w4 := below_grown G3 hg4 (fun k e => (ho3.lt k e).1) G3.size
  have GW := gb_trans g0 G4
  refine ⟨tb_fin (d' := d.take q ++ (xi, v1, xl) :: d.drop q') h GW (ownsR_mono (by simpa using ho4) g0.size) ?_ ?_ ?_ hris hlen, G4⟩
  · simp only [List.length_append, List.length_cons, List.length_take, List.length_drop]; omega
  · intro x hx
    rcases List.mem_append.1 hx with hx | hx
    · exact (ho.gb GW).vec x (List.mem_of_mem_take hx)
    · rcases List.mem_cons.1 hx with rfl | hx
      · have o1 : Own w1 wr.heap.size v1 xl := by unfold Own; rw [← hlu]; simpa using ho1
        exact ⟨(own_grown (own_grown ((o1.gb G2').gb (gb_alloc (Below.refl _ _) _)) (ho2.alloc _) hg3) ho3 hg4).mono (Nat.zero_le _), fun _ _ => trivial⟩
      · exact (ho.gb GW).vec x (List.mem_of_mem_drop hx)
  · rw [hput, ← hd]
    simp only [List.map_append, List.map_cons, List.map_take, List.map_drop]
end Go.Proofs.YtepjbdklljlecaaGreat

/- The reference's Table.Put. -/
namespace Go.Proofs.YtepjbdklljlecaaGreat
open Go.RowKit Go.Sort Go.Maps

set_option maxRecDepth 100000 in
set_option maxHeartbeats 1000000 in
theorem tput_id {w : World} {tb m : Nat} {rs : List Rw} {G : List Nat} {xi : Int} {u : Value} {xl : List Int} (h : TbAt w tb m rs G) (hu : RdI w u xl) (h1 : okId xi = false) : Calls Tryz.prog 36 #[.pointer (some ⟨tb, 0, none⟩), .agg #[.int .i64 xi, u]] w fun e w' => e = .returned (.tuple #[.bool false, .int .i64 50]) ∧ TbOut w tb m rs G w' := by
  obtain ⟨W1, hW1⟩ : ∃ W1, W1 = w.alloc (.cells #[.int .i64 xi, u] 43) := ⟨_, rfl⟩
  have G0 : Hid (Gb w W1) := by unfold Hid; rw [hW1]; exact gb_alloc (Below.refl _ _) _
  have b0 : W1.cell? ⟨w.heap.size, 0, none⟩ = some (.int .i64 xi) := by rw [hW1]; simp [go_sem]
  have b1 : W1.cell? ⟨w.heap.size, 1, none⟩ = some u := by rw [hW1]; simp [go_sem]
  have cI := fun W => rid_c xi W
  rw [h1] at cI
  obtain ⟨au, cu, rfl, _⟩ := hu
  go_enter Tryz.func36, Tryz.ntmps36
  go_wp2_with fail
  rw [← hW1]
  clear hW1
  go_wp2_with fail
  refine (cI _).mono ?_
  rintro e w2 ⟨rfl, rfl⟩
  clear b0 b1 cI
  go_wp2
  exact bodyPost_ret (v := .tuple #[.bool false, .int .i64 50]) (by simp [results, Tryz.results36, go_sem]) rfl ⟨rfl, G, h.gb G0.out, fun y hy => .inl hy, Tk.Kp.of_gr G0.out⟩
set_option maxRecDepth 100000 in
set_option maxHeartbeats 1000000 in
theorem tput_chk {w : World} {tb m : Nat} {rs : List Rw} {G : List Nat} {xi : Int} {u : Value} {xl : List Int} (h : TbAt w tb m rs G) (hu : RdI w u xl) (h1 : okId xi = true) {e0 : Int} (h2 : chk xl (m : Int) = e0) (h3 : e0 ≠ 0) : Calls Tryz.prog 36 #[.pointer (some ⟨tb, 0, none⟩), .agg #[.int .i64 xi, u]] w fun e w' => e = .returned (.tuple #[.bool false, .int .i64 e0]) ∧ TbOut w tb m rs G w' := by
  obtain ⟨W1, hW1⟩ : ∃ W1, W1 = w.alloc (.cells #[.int .i64 xi, u] 43) := ⟨_, rfl⟩
  have G0 : Hid (Gb w W1) := by unfold Hid; rw [hW1]; exact gb_alloc (Below.refl _ _) _
  have b0 : W1.cell? ⟨w.heap.size, 0, none⟩ = some (.int .i64 xi) := by rw [hW1]; simp [go_sem]
  have b1 : W1.cell? ⟨w.heap.size, 1, none⟩ = some u := by rw [hW1]; simp [go_sem]
  have cI := fun W => rid_c xi W
  rw [h1] at cI
  have cC := fun W (g : Gb W1 W) => rcheck_v ((hu.gb G0.out).gb g) (m : Int) e0 h2
  obtain ⟨a, cap, c0, c1, _⟩ := (h.gb G0.out).rd
  have GD : Gb W1 W1.drew := ⟨rfl, rfl, rfl, Nat.le_refl _, fun _ _ => rfl⟩
  have hzb : (e0 == 0) = false := by rw [beq_eq_false_iff_ne]; exact h3
  obtain ⟨au, cu, rfl, _⟩ := hu
  go_enter Tryz.func36, Tryz.ntmps36
  go_wp2_with fail
  rw [← hW1]
  clear hW1
  go_wp2_with fail
  refine (cI _).mono ?_
  rintro e wa ⟨rfl, rfl⟩
  clear cI
  go_wp2_with fail
  refine wp_region_held_drew (S := fun W => Gb W1 W) (by kernel_rfl) (GD) (fun hHeld => ?_)
  refine wpAnyH_take (i := 0) (v := ?_) rfl (by kernel_rfl) (by kernel_rfl) (by kernel_rfl) (fun _ _ _ h => h) (Or.inl ⟨by rfl, ?_⟩) (by assumption) ?_
  rotate_left 1
  · (intro w hSw; (have s0 := gb_keeps hSw b0; have s1 := gb_keeps hSw b1; have s2 := gb_keeps hSw c0; have s3 := gb_keeps hSw c1); go_simp; try with_reducible rfl)
  refine wpAnyH_take (i := 1) (v := ?_) rfl (by kernel_rfl) (by kernel_rfl) (by kernel_rfl) (fun _ _ _ h => h) (Or.inl ⟨by rfl, ?_⟩) (by assumption) ?_
  rotate_left 1
  · (intro w hSw; (have s0 := gb_keeps hSw b0; have s1 := gb_keeps hSw b1; have s2 := gb_keeps hSw c0; have s3 := gb_keeps hSw c1); go_simp; try with_reducible rfl)
  refine wpAnyH_take (i := 2) (v := ?_) rfl (by kernel_rfl) (by kernel_rfl) (by kernel_rfl) (fun _ _ _ h => h) (Or.inl ⟨by rfl, ?_⟩) (by assumption) ?_
  rotate_left 1
  · (intro w hSw; (have s0 := gb_keeps hSw b0; have s1 := gb_keeps hSw b1; have s2 := gb_keeps hSw c0; have s3 := gb_keeps hSw c1); go_simp; try with_reducible rfl)
  refine wpAnyH_take (i := 3) (v := ?_) rfl (by kernel_rfl) (by kernel_rfl) (by kernel_rfl) (fun _ _ _ h => h) (Or.inl ⟨by rfl, ?_⟩) (by assumption) ?_
  rotate_left 1
  · (intro w hSw; (have s0 := gb_keeps hSw b0; have s1 := gb_keeps hSw b1; have s2 := gb_keeps hSw c0; have s3 := gb_keeps hSw c1); go_simp; try with_reducible rfl)
  refine wpAnyH_take (i := 4) (v := ?_) rfl (by kernel_rfl) (by kernel_rfl) (by kernel_rfl) (fun _ _ _ h => h) (Or.inl ⟨by rfl, ?_⟩) (by assumption) ?_
  rotate_left 1
  · (intro w hSw; (have s0 := gb_keeps hSw b0; have s1 := gb_keeps hSw b1; have s2 := gb_keeps hSw c0; have s3 := gb_keeps hSw c1); go_simp; try with_reducible rfl)
  refine wpAnyH_take (i := 5) (v := ?_) rfl (by kernel_rfl) (by kernel_rfl) (by kernel_rfl) (fun _ _ _ h => h) (Or.inl ⟨by rfl, ?_⟩) (by assumption) ?_
  rotate_left 1
  · (intro w hSw; (have s0 := gb_keeps hSw b0; have s1 := gb_keeps hSw b1; have s2 := gb_keeps hSw c0; have s3 := gb_keeps hSw c1); go_simp; try with_reducible rfl)
  refine wpAnyH_ready (rs := [6]) (by kernel_rfl) (by simp) ?_
  refine AllReadyH.cons rfl (fun K hK => ?_) AllReadyH.nil
  go_simp
  refine (cC _ hHeld).mono ?_
  rintro e w3 ⟨rfl, rfl⟩
  refine hK.out _ _ (hHeld) (fun hHeld => ?_)
  clear hK K
  refine wpAnyH_take (i := 7) (v := ?_) rfl (by kernel_rfl) (by kernel_rfl) (by kernel_rfl) (fun _ _ _ h => h) (Or.inl ⟨by rfl, ?_⟩) (by assumption) ?_
  rotate_left 1
  · (intro w hSw; (have s0 := gb_keeps hSw b0; have s1 := gb_keeps hSw b1; have s2 := gb_keeps hSw c0; have s3 := gb_keeps hSw c1); go_simp; try with_reducible rfl)
  refine wpAnyH_done (by kernel_rfl) ?_ _
  clear b0 b1 c0 c1 cC
  have GF : Hid (Gb w W1.drew) := gb_trans G0.out hHeld
  clear hHeld
  go_wp2
  exact bodyPost_ret (v := .tuple #[.bool false, .int .i64 e0]) (by simp [results, Tryz.results36, go_sem]) rfl ⟨rfl, G, h.gb GF.out, fun y hy => .inl hy, Tk.Kp.of_gr GF.out⟩
end Go.Proofs.YtepjbdklljlecaaGreat

/- theodolitekeep.LendRows: rows in memory of the call's own, with a mark behind. -/
namespace Go.Proofs.YtepjbdklljlecaaGreat
open Go.RowKit Go.Sort Go.Maps

/-- Rows in memory, by the index: two cells each. -/
def RA (W : World) (g n : Nat) (f : Nat → Value × Value) : Prop :=
  ∃ cur : Array Value, W.heap[g]? = some (.cells cur 43 (0, 0)) ∧ cur.size = n * 2 ∧ ∀ i, i < n → cur[i * 2]? = some (f i).1 ∧ cur[i * 2 + 1]? = some (f i).2
theorem RA.lt {W : World} {g n : Nat} {f : Nat → Value × Value} (h : RA W g n f) : g < W.heap.size := by
  obtain ⟨cur, h1, _⟩ := h; exact (Array.getElem?_eq_some_iff.1 h1).1
theorem RA.cell {W : World} {g n : Nat} {f : Nat → Value × Value} (h : RA W g n f) {i : Nat} (hi : i < n) : W.cell? ⟨g, i * 2, none⟩ = some (f i).1 ∧ W.cell? ⟨g, i * 2 + 1, none⟩ = some (f i).2 := by
  obtain ⟨cur, h1, _, h4⟩ := h
  obtain ⟨a, b⟩ := h4 i hi
  simp [World.cell?, h1, a, b]
theorem RA.frozen {W : World} {g n : Nat} {f : Nat → Value × Value} (h : RA W g n f) (o : Nat) : W.frozen? ⟨g, o, none⟩ = false := by
  obtain ⟨cur, h1, _⟩ := h
  simp [World.frozen?, h1]
theorem RA.block {W W' : World} {g n : Nat} {f : Nat → Value × Value} (h : RA W g n f) (e : W'.heap[g]? = W.heap[g]?) : RA W' g n f := by
  obtain ⟨cur, h1, h2⟩ := h
  exact ⟨cur, e.trans h1, h2⟩
theorem RA.set {W : World} {g n : Nat} {f : Nat → Value × Value} (h : RA W g n f) {i : Nat} (hi : i < n) (x y : Value) :
    RA ((W.setCell ⟨g, i * 2, none⟩ x).setCell ⟨g, i * 2 + 1, none⟩ y) g n (fun t => if t = i then (x, y) else f t) := by
  obtain ⟨cur, h1, h2, h5⟩ := h
  refine ⟨(cur.setIfInBounds (i * 2) x).setIfInBounds (i * 2 + 1) y, ?_, by simpa using h2, fun t ht => ?_⟩
  · simp [World.setCell, Array.getElem?_modify, h1]
  · by_cases e : t = i
    · subst e
      simp only [if_true]
      refine ⟨?_, ?_⟩
      · rw [Array.getElem?_setIfInBounds_ne (by omega), Array.getElem?_setIfInBounds_self_of_lt (by omega)]
      · rw [Array.getElem?_setIfInBounds_self_of_lt (by simp; omega)]
    · simp only [if_neg e]
      obtain ⟨a, b⟩ := h5 t ht
      refine ⟨?_, ?_⟩
      · rw [Array.getElem?_setIfInBounds_ne (by omega), Array.getElem?_setIfInBounds_ne (by omega)]; exact a
      · rw [Array.getElem?_setIfInBounds_ne (by omega), Array.getElem?_setIfInBounds_ne (by omega)]; exact b
theorem ra_made (w : World) (n : Nat) : RA (w.alloc (.cells (madeCells #[.int .i64 0, .slice none 0 0] (n * 2)) 43)) w.heap.size n (fun _ => (.int .i64 0, .slice none 0 0)) := by
  refine ⟨_, heap_alloc_new _ _, size_madeCells _ _, fun i hi => ⟨?_, ?_⟩⟩
  · simp [madeCells, show i * 2 < n * 2 by omega]
  · simp [madeCells, show i * 2 + 1 < n * 2 by omega, show (i * 2 + 1) % 2 = 1 by omega]
theorem Tryz.infoR : (Tryz.prog.info? 43).map (fun i => (i.zero, i.size, i.bytes)) = some (some (.agg #[.int .i64 0, .slice none 0 0]), 2, 32) := by kernel_rfl
theorem run_make_two (n : Nat) (hn : n ≤ 65537) (w : World) : (Instr.makeSlice 22 (.int .i64 (n : Int)) (.int .i64 (n : Int))).run Tryz.prog w = .ok (.slice (some ⟨w.heap.size, 0, none⟩) n n) (w.alloc (.cells (madeCells #[.int .i64 0, .slice none 0 0] (n * 2)) 43)) := by
  obtain ⟨i, hi, hzz⟩ := Option.map_eq_some_iff.1 Tryz.infoR
  simp only [Prod.mk.injEq] at hzz
  obtain ⟨hz, hs, hb⟩ := hzz
  have hr := run_make (P := Tryz.prog) w 22 43 i _ Tryz.underlying22 hi hz .i64 .i64 n n (by omega) (Int.le_refl _) (by rw [hb]; omega) (by omega)
  simp only [Int.toNat_natCast, hs] at hr
  exact hr

/-- What is laid of rows that are lent: block G, n places, p of them done. -/
structure Lr (w W : World) (G n : Nat) (rs : List Rw) (p : Nat) (z : Prop) (f : Nat → Value × Value) : Prop where
  gb : Gb w W
  hG : w.heap.size ≤ G
  arr : RA W G n f
  lent : ∃ gs : Nat → Nat, ∀ i, i < p → f i = (.int .i64 rs[i]!.1, .slice (some ⟨gs i, 0, none⟩) rs[i]!.2.length (rs[i]!.2.length + 1)) ∧ Lent W (G + 1) (gs i) rs[i]!.2 ∧ ∀ j, j < i → gs j ≠ gs i
  end' : z
theorem Lr.gr {w W W' : World} {G n p : Nat} {rs : List Rw} {z : Prop} {f : Nat → Value × Value} (h : Lr w W G n rs p z f) (g : Gb W W') : Lr w W' G n rs p z f := by
  obtain ⟨gs, hl⟩ := h.lent
  exact ⟨gb_trans h.gb g, h.hG, h.arr.block (g.block _ h.arr.lt), ⟨gs, fun i hi => ⟨(hl i hi).1, (hl i hi).2.1.gb g, (hl i hi).2.2⟩⟩, h.end'⟩
theorem two_far {g b : Nat} {W : World} (hn : b ≠ g) (o1 o2 : Nat) (x y : Value) : ((W.setCell ⟨g, o1, none⟩ x).setCell ⟨g, o2, none⟩ y).heap[b]? = W.heap[b]? :=
  (Below.heap_setCell _ _ _ _ (by dsimp only; exact hn)).trans (Below.heap_setCell _ _ _ _ (by dsimp only; exact hn))
theorem two_gb {g : Nat} {w W : World} (h : Gb w W) (hg : w.heap.size ≤ g) (o1 o2 : Nat) (x y : Value) : Gb w ((W.setCell ⟨g, o1, none⟩ x).setCell ⟨g, o2, none⟩ y) :=
  gb_set (gb_set h (by dsimp only; exact hg) _) (by dsimp only; exact hg) _
theorem Lent.block {W W' : World} {B g : Nat} {l : List Int} (h : Lent W B g l) (e : W'.heap[g]? = W.heap[g]?) : Lent W' B g l := ⟨h.1, e.trans h.2⟩
theorem Lent.lt {W : World} {B g : Nat} {l : List Int} (h : Lent W B g l) : g < W.heap.size := (Array.getElem?_eq_some_iff.1 h.2).1
/-- One more row. -/
theorem Lr.step {w W W2 : World} {G n p g : Nat} {rs : List Rw} {f : Nat → Value × Value} (h : Lr w W G n rs p True f) (hp : p < n) (g2 : Gb W W2) (L : Lent W2 W.heap.size g rs[p]!.2) :
    ∃ f', Lr w ((W2.setCell ⟨G, p * 2, none⟩ (.int .i64 rs[p]!.1)).setCell ⟨G, p * 2 + 1, none⟩ (.slice (some ⟨g, 0, none⟩) rs[p]!.2.length (rs[p]!.2.length + 1))) G n rs (p + 1) True f' := by
  have hGW := h.arr.lt
  have h2 := h.gr g2
  obtain ⟨gs, hl⟩ := h2.lent
  obtain ⟨gs0, hl0⟩ := h.lent
  have hgs : ∀ i, i < p → gs i < W.heap.size := fun i hi => by
    have e := (hl i hi).1.symm.trans (hl0 i hi).1
    simp at e
    rw [e]
    exact (hl0 i hi).2.1.lt
  have hg := L.1
  refine ⟨_, two_gb h2.gb h2.hG _ _ _ _, h.hG, h2.arr.set hp _ _, ⟨fun i => if i = p then g else gs i, fun i hi => ?_⟩, trivial⟩
  by_cases e : i = p
  · subst e
    simp only [if_true]
    refine ⟨trivial, ⟨by omega, (two_far (by omega) _ _ _ _).trans L.2⟩, fun j hj => ?_⟩
    rw [if_neg (by omega)]
    have := hgs j hj
    omega
  · simp only [if_neg e]
    obtain ⟨a, b, c⟩ := hl i (by omega)
    refine ⟨a, b.block (two_far (by have := b.1; omega) _ _ _ _), fun j hj => ?_⟩
    rw [if_neg (by omega)]
    exact c j hj
/-- Rows that were lent. -/
def LentR (w W : World) (G : Nat) (rs : List Rw) : Prop := ∃ f, Lr w W G (rs.length + 1) rs rs.length (f rs.length = (.int .i64 (-77), .slice none 0 0)) f
theorem Lr.mark {w W : World} {G n : Nat} {rs : List Rw} {f : Nat → Value × Value} (h : Lr w W G (n + 1) rs n True f) (hn : n = rs.length) :
    LentR w ((W.setCell ⟨G, n * 2, none⟩ (.int .i64 (-77))).setCell ⟨G, n * 2 + 1, none⟩ (.slice none 0 0)) G rs := by
  subst hn
  obtain ⟨gs, hl⟩ := h.lent
  refine ⟨_, two_gb h.gb h.hG _ _ _ _, h.hG, h.arr.set (Nat.lt_succ_self _) _ _, ⟨gs, fun i hi => ?_⟩, by simp⟩
  obtain ⟨a, b, c⟩ := hl i hi
  exact ⟨by rw [if_neg (by omega)]; exact a, b.block (two_far (by have := b.1; omega) _ _ _ _), c⟩
theorem LentR.gr {w W W' : World} {G : Nat} {rs : List Rw} (h : LentR w W G rs) (g : Gb W W') : LentR w W' G rs := by
  obtain ⟨f, h⟩ := h
  exact ⟨f, h.gr g⟩
theorem LentR.rd {w W : World} {G : Nat} {rs : List Rw} (h : LentR w W G rs) : RdW W (.slice (some ⟨G, 0, none⟩) rs.length (rs.length + 1)) rs := by
  obtain ⟨f, h⟩ := h
  obtain ⟨gs, hl⟩ := h.lent
  refine ⟨_, _, rfl, fun i hi => ?_⟩
  obtain ⟨a, b, _⟩ := hl i hi
  have hc := h.arr.cell (i := i) (by omega)
  rw [a] at hc
  exact ⟨G, 0, _, rfl, by rw [Nat.zero_add]; exact hc.1, by rw [Nat.zero_add]; exact hc.2, b.rd⟩
/-- What the region holds while it draws. -/
structure Rs (w W : World) (a b : Addr) (u v : Value) : Prop where
  gb : Gb w W
  ca : W.cell? a = some u
  cb : W.cell? b = some v
  la : a.block < w.heap.size
  lb : b.block < w.heap.size
theorem Rs.gr {w W W' : World} {a b : Addr} {u v : Value} (h : Rs w W a b u v) (g : Gb W W') : Rs w W' a b u v := ⟨gb_trans h.gb g, gb_keeps g h.ca, gb_keeps g h.cb, h.la, h.lb⟩
theorem Rs.set {w W : World} {a b : Addr} {u v : Value} {B : Nat} (h : Rs w W a b u v) (hB : w.heap.size ≤ B) (o1 o2 : Nat) (x y : Value) : Rs w ((W.setCell ⟨B, o1, none⟩ x).setCell ⟨B, o2, none⟩ y) a b u v := by
  have ha := h.la
  have hb := h.lb
  exact ⟨two_gb h.gb hB _ _ _ _, (World.cell?_of_block (two_far (by omega) _ _ _ _)).trans h.ca, (World.cell?_of_block (two_far (by omega) _ _ _ _)).trans h.cb, h.la, h.lb⟩
end Go.Proofs.YtepjbdklljlecaaGreat

/- theodolitekeep.Back; theodoliteref03.Dist; VecDists: the walk. -/
namespace Go.Proofs.YtepjbdklljlecaaGreat
open Go.RowKit Go.Sort Go.Maps

theorem grown_set {w W : World} {g i : Nat} (h : w.grownBy W (some g)) (u : Value) : w.grownBy (W.setCell ⟨g, i, none⟩ u) (some g) :=
  ⟨h.os, h.tape, h.output, by simpa [World.setCell] using h.size, fun k hk hn => (Below.heap_setCell _ _ _ _ (fun e => hn (by rw [e]))).trans (h.block k hk hn)⟩
theorem grown_gb {w W : World} {g : Nat} (h : Gb w W) : w.grownBy W (some g) := ⟨h.os, h.tape, h.output, h.size, fun k hk _ => h.block k hk⟩

set_option maxHeartbeats 4000000 in
set_option maxRecDepth 100000 in
theorem back_c {w : World} {B g : Nat} {v : Value} {l : List Int} (hg : Lent w B g l) (hv : RdI w v l) (hn : l.length ≤ 65536) :
    Calls Tryz.prog 33 #[.slice (some ⟨g, 0, none⟩) l.length (l.length + 1), v] w fun e w' => e = .returned (.bool true) ∧ w.grownBy w' (some g) := by
  have c32 := ints_v hg.rd hv (by omega) true (by simp)
  have mk := hg.mark
  have HG : Hid (Lent w B g l) := hg
  obtain ⟨a, cap, rfl, _⟩ := hv
  have OW : Hid (∀ W, Gb w W → Own W B (.slice (some ⟨g, 0, none⟩) (l.length + 1) (l.length + 1)) (tab (fun i => if i < l.length then l[i]! else -77) (l.length + 1))) := fun W k => (HG.out.gb k).own hn
  obtain ⟨n, hN⟩ : ∃ n, n = l.length := ⟨_, rfl⟩
  rw [← hN] at c32 mk hn OW ⊢
  obtain ⟨m, hM⟩ : ∃ m, m = n + 1 := ⟨_, rfl⟩
  have hm : (n : Int) + 1 = (m : Int) := by omega
  have hnm : (n : Int) < (m : Int) := by omega
  have hnm2 : n < m := by omega
  have hmb : m ≤ 65537 := by omega
  rw [← hM] at c32 OW ⊢
  clear HG hN hg hM
  go_enter Tryz.func33, Tryz.ntmps33
  go_wp2_with fail
  refine c32.mono ?_
  rintro e w1 ⟨rfl, g1⟩
  have mk1 := gb_keeps g1.gb mk
  clear mk c32
  go_wp2
  go_loopw [6] (fun iv w' => ∃ q : Nat, ∃ f : Nat → Int, iv = .int .i64 (q : Int) ∧ q ≤ m ∧ Hid (Own w' B (.slice (some ⟨g, 0, none⟩) m m) (tab f m) ∧ w.grownBy w' (some g))) (fun iv _ => m - (intOf iv).toNat)
  case atStart => exact ⟨0, _, rfl, Nat.zero_le _, OW.out w1 g1.gb, grown_gb g1.gb⟩
  case round =>
    clear mk1 OW g1
    obtain ⟨q, f, rfl, hq, X⟩ := hrel
    by_cases hqm : q < m
    · have hqi : (q : Int) < (m : Int) := by omega
      obtain ⟨c0, f0⟩ := X.out.1.at hqm
      go_wp2
      refine ⟨⟨q + 1, _, by go_num, hqm, own_set X.out.1 hqm _, grown_set X.out.2 _⟩, by simp [intOf]; omega⟩
    · have hqi : ¬ (q : Int) < (m : Int) := by omega
      go_wp2
      go_ret
      exact ⟨rfl, X.out.2⟩
end Go.Proofs.YtepjbdklljlecaaGreat

/- theodolitekeep.BackRows: rows that were lent are as they were. -/
namespace Go.Proofs.YtepjbdklljlecaaGreat
open Go.RowKit Go.Sort Go.Maps

/-- Nothing has turned but in the blocks from B on below T. -/
structure Mid (B T : Nat) (w W : World) : Prop where
  os : W.os = w.os
  tape : W.tape = w.tape
  output : W.output = w.output
  size : w.heap.size ≤ W.heap.size
  block : ∀ k, k < w.heap.size → (k < B ∨ T ≤ k) → W.heap[k]? = w.heap[k]?
theorem Mid.refl (B T : Nat) (w : World) : Mid B T w w := ⟨rfl, rfl, rfl, Nat.le_refl _, fun _ _ _ => rfl⟩
theorem Mid.gb {B T : Nat} {w0 w W : World} (h : Mid B T w W) (g : Gb w0 w) (hB : w0.heap.size ≤ B) : Gb w0 W := by
  have hs := g.size
  exact ⟨h.os.trans g.os, h.tape.trans g.tape, h.output.trans g.output, Nat.le_trans g.size h.size, fun k hk => (h.block k (by omega) (.inl (by omega))).trans (g.block k hk)⟩
theorem Mid.drew {B T : Nat} {w W : World} (h : Mid B T w W) : Mid B T w W.drew := ⟨h.os, h.tape, h.output, h.size, h.block⟩
theorem Mid.grown {B T g : Nat} {w W W' : World} (h : Mid B T w W) (k : W.grownBy W' (some g)) (h1 : B ≤ g) (h2 : g < T) : Mid B T w W' :=
  ⟨k.os.trans h.os, k.tape.trans h.tape, k.output.trans h.output, Nat.le_trans h.size k.size, fun j hj hb => (k.block j (Nat.lt_of_lt_of_le hj h.size) (by simp; omega)).trans (h.block j hj hb)⟩
theorem Mid.set {B T g : Nat} {w W : World} (h : Mid B T w W) (h1 : B ≤ g) (h2 : g < T) (o1 o2 : Nat) (x y : Value) : Mid B T w ((W.setCell ⟨g, o1, none⟩ x).setCell ⟨g, o2, none⟩ y) :=
  ⟨h.os, h.tape, h.output, by simpa [World.setCell] using h.size, fun j hj hb => (two_far (by omega) _ _ _ _).trans (h.block j hj hb)⟩
/-- Rows that were lent, in blocks from B on below T. -/
structure LT (B T : Nat) (W : World) (G : Nat) (rs : List Rw) (f : Nat → Value × Value) (gs : Nat → Nat) : Prop where
  lo : B ≤ G
  hi : G < T
  arr : RA W G (rs.length + 1) f
  mark : f rs.length = (.int .i64 (-77), .slice none 0 0)
  row : ∀ i, i < rs.length → f i = (.int .i64 rs[i]!.1, .slice (some ⟨gs i, 0, none⟩) rs[i]!.2.length (rs[i]!.2.length + 1)) ∧ Lent W (G + 1) (gs i) rs[i]!.2 ∧ gs i < T ∧ ∀ j, j < i → gs j ≠ gs i
theorem LentR.lt {w W : World} {G : Nat} {rs : List Rw} (h : LentR w W G rs) : ∃ f gs, LT w.heap.size W.heap.size W G rs f gs := by
  obtain ⟨f, h⟩ := h
  obtain ⟨gs, hl⟩ := h.lent
  exact ⟨f, gs, h.hG, h.arr.lt, h.arr, h.end', fun i hi => ⟨(hl i hi).1, (hl i hi).2.1, (hl i hi).2.1.lt, (hl i hi).2.2⟩⟩
theorem LT.keep {B T G : Nat} {W W' : World} {rs : List Rw} {f : Nat → Value × Value} {gs : Nat → Nat} (h : LT B T W G rs f gs) (e : ∀ k, B ≤ k → k < T → W'.heap[k]? = W.heap[k]?) : LT B T W' G rs f gs :=
  ⟨h.lo, h.hi, h.arr.block (e _ h.lo h.hi), h.mark, fun i hi => by
    obtain ⟨a, b, c, d⟩ := h.row i hi
    exact ⟨a, b.block (e _ (by have := b.1; have := h.lo; omega) c), c, d⟩⟩
/-- p rows are back. -/
structure Bk (B T : Nat) (w W : World) (G : Nat) (rs : List Rw) (f : Nat → Value × Value) (gs : Nat → Nat) (p : Nat) : Prop where
  mid : Mid B T w W
  arr : ∃ f', RA W G (rs.length + 1) f' ∧ ∀ i, p ≤ i → f' i = f i
  lent : ∀ i, p ≤ i → i < rs.length → Lent W (G + 1) (gs i) rs[i]!.2
theorem LT.bk {B T G : Nat} {W : World} {rs : List Rw} {f : Nat → Value × Value} {gs : Nat → Nat} (h : LT B T W G rs f gs) : Bk B T W W G rs f gs 0 :=
  ⟨Mid.refl _ _ _, ⟨f, h.arr, fun _ _ => rfl⟩, fun i _ hi => (h.row i hi).2.1⟩
theorem Bk.drew {B T G p : Nat} {w W : World} {rs : List Rw} {f : Nat → Value × Value} {gs : Nat → Nat} (h : Bk B T w W G rs f gs p) : Bk B T w W.drew G rs f gs p :=
  ⟨h.mid.drew, h.arr, h.lent⟩
/-- One more row is back. -/
theorem Bk.step {B T G p : Nat} {w W W2 : World} {rs : List Rw} {f : Nat → Value × Value} {gs : Nat → Nat} (h : Bk B T w W G rs f gs p) (L : LT B T w G rs f gs) (hp : p < rs.length) (k : W.grownBy W2 (some (gs p))) (x y : Value) :
    Bk B T w ((W2.setCell ⟨G, p * 2, none⟩ x).setCell ⟨G, p * 2 + 1, none⟩ y) G rs f gs (p + 1) := by
  obtain ⟨_, b, c, _⟩ := L.row p hp
  have hb := b.1
  have hlo := L.lo
  obtain ⟨f', h1, h2⟩ := h.arr
  refine ⟨(h.mid.grown k (by omega) c).set L.lo L.hi _ _ _ _, ⟨_, (h1.block (k.block G h1.lt (by simp; omega))).set (i := p) (by omega) x y, fun i hi => ?_⟩, fun i hi hl => ?_⟩
  · rw [if_neg (by omega)]; exact h2 i (by omega)
  · have h3 := h.lent i (by omega) hl
    have hne := (L.row i hl).2.2.2 p (by omega)
    exact h3.block ((two_far (by have := h3.1; omega) _ _ _ _).trans (k.block _ h3.lt (by simp; omega)))
/-- What the region holds while it draws: four cells. -/
structure Qs (W : World) (a b c d : Addr) (u v x y : Value) : Prop where
  ca : W.cell? a = some u
  cb : W.cell? b = some v
  cc : W.cell? c = some x
  cd : W.cell? d = some y
theorem Qs.grown {W W' : World} {a b c d : Addr} {u v x y : Value} {g : Nat} (h : Qs W a b c d u v x y) (k : W.grownBy W' (some g)) (ha : a.block ≠ g) (hb : b.block ≠ g) (hc : c.block ≠ g) (hd : d.block ≠ g) : Qs W' a b c d u v x y := by
  have far : ∀ {p : Addr} {q : Value}, p.block ≠ g → W.cell? p = some q → W'.cell? p = some q := fun {p q} hp hq =>
    (World.cell?_of_block (k.block _ (World.block_lt_of_cell? W _ hq) (by simp; omega))).trans hq
  exact ⟨far ha h.ca, far hb h.cb, far hc h.cc, far hd h.cd⟩
end Go.Proofs.YtepjbdklljlecaaGreat

/- theodolitekeep.LendRows: its walk. -/
namespace Go.Proofs.YtepjbdklljlecaaGreat
open Go.RowKit Go.Sort Go.Maps

set_option maxRecDepth 100000 in
set_option maxHeartbeats 1000000 in
theorem lendrows_c {w : World} {v : Value} {rs : List Rw} (hv : RdW w v rs) (hn : rs.length ≤ 65536) (hr : ∀ i, i < rs.length → rs[i]!.2.length ≤ 65536) :
    Calls Tryz.prog 11 #[v] w fun e w' => ∃ G, e = .returned (.slice (some ⟨G, 0, none⟩) rs.length (rs.length + 1)) ∧ LentR w w' G rs := by
  have V : Hid (RdW w v rs) := hv
  have HR : Hid (∀ i, i < rs.length → rs[i]!.2.length ≤ 65536) := hr
  obtain ⟨av, cv, rfl, _⟩ := hv
  obtain ⟨n, hN⟩ : ∃ n, n = rs.length := ⟨_, rfl⟩
  have N : Hid (n = rs.length) := hN
  rw [← hN] at V hn ⊢
  obtain ⟨m, hM⟩ : ∃ m, m = n + 1 := ⟨_, rfl⟩
  have M : Hid (m = n + 1) := hM
  have hm : (n : Int) + 1 = (m : Int) := by omega
  have hnm : (n : Int) < (m : Int) := by omega
  have hnm2 : n ≤ m := by omega
  have hmb : m ≤ 65537 := by omega
  have hmk := run_make_two m (by omega) w
  have S0 : Hid (Lr w (w.alloc (.cells (madeCells #[.int .i64 0, .slice none 0 0] (m * 2)) 43)) w.heap.size m rs 0 True (fun _ => (.int .i64 0, .slice none 0 0))) :=
    ⟨gb_alloc (Below.refl _ _) _, Nat.le_refl _, ra_made w m, ⟨fun _ => 0, fun i hi => by omega⟩, trivial⟩
  rw [← hM]
  clear hN hM hr
  generalize w.alloc (.cells (madeCells #[.int .i64 0, .slice none 0 0] (m * 2)) 43) = V0 at *
  go_enter Tryz.func11, Tryz.ntmps11
  go_wp2
  go_loopw [4] (fun iv W => ∃ p : Nat, iv = .int .i64 (p : Int) ∧ p ≤ n ∧ Hid (∃ f, Lr w W w.heap.size m rs p True f)) (fun iv _ => n - (intOf iv).toNat)
  case atStart => exact ⟨0, rfl, Nat.zero_le _, ⟨_, S0.out⟩⟩
  case round =>
    obtain ⟨p, rfl, hp, X⟩ := hrel
    by_cases hpn : p < n
    · have hpi : decide ((p : Int) < (n : Int)) = true := by rw [decide_eq_true_eq]; omega
      have hpp : (p : Int) < (n : Int) := by omega
      have hpm : (p : Int) < (m : Int) := by omega
      have hpl : p < rs.length := by have := N.out; omega
      obtain ⟨_, _, ev, hA⟩ := V.out
      obtain ⟨b, o, ur, ea, k1, k2, k3⟩ := hA p hpl
      injection ev with ev1 ev2 ev3
      subst ev1
      subst ea
      clear hA ev2 ev3
      obtain ⟨f, hX⟩ := X.out
      have cl := fun W (g : Gb w W) => lend_c (k3.gb g) (HR.out p hpl)
      have FS0 : Rs w wr.drew ⟨b, o + p * 2, none⟩ ⟨b, o + p * 2 + 1, none⟩ (.int .i64 rs[p]!.1) ur := ⟨hX.gb.drew, gb_keeps hX.gb k1, gb_keeps hX.gb k2, World.block_lt_of_cell? w _ k1, World.block_lt_of_cell? w _ k2⟩
      obtain ⟨pr, cr, rfl, _⟩ := k3
      have X1 : Hid (Lr w wr.drew w.heap.size m rs p True f) := hX.gr (Below.refl _ _).drew
      have GX : Hid (Gb w wr.drew) := hX.gb.drew
      obtain ⟨nr, hnr⟩ : ∃ nr, nr = rs[p]!.2.length := ⟨_, rfl⟩
      have NR : Hid (nr = rs[p]!.2.length) := hnr
      obtain ⟨x1, hx1⟩ : ∃ x1, x1 = rs[p]!.1 := ⟨_, rfl⟩
      have NX : Hid (x1 = rs[p]!.1) := hx1
      rw [← hnr] at FS0
      rw [← hx1] at FS0
      simp only [← hnr] at cl
      clear k1 k2 hX hnr hx1
      go_wp2
      refine wp_region_held_drew (S := fun w' => Rs w w' ⟨b, o + p * 2, none⟩ ⟨b, o + p * 2 + 1, none⟩ (.int .i64 x1) (.slice pr nr cr)) (by kernel_rfl) (FS0) (fun hHeld => ?_)
      refine wpAnyH_take (i := 0) (v := ?_) rfl (by kernel_rfl) (by kernel_rfl) (by kernel_rfl) (fun _ _ _ h => h) (Or.inl ⟨by rfl, ?_⟩) (by assumption) ?_
      rotate_left 1
      · (intro w hSw; (obtain ⟨s1, s2, s3, s4, s5⟩ := hSw); go_simp; try with_reducible rfl)
      try simp only [Act.put, List.getElem_toArray, List.getElem_cons_zero, List.setIfInBounds_toArray, List.set_cons_zero, List.set_cons_succ]
      refine wpAnyH_take (i := 1) (v := ?_) rfl (by kernel_rfl) (by kernel_rfl) (by kernel_rfl) (fun _ _ _ h => h) (Or.inl ⟨by rfl, ?_⟩) (by assumption) ?_
      rotate_left 1
      · (intro w hSw; (obtain ⟨s1, s2, s3, s4, s5⟩ := hSw); go_simp; try with_reducible rfl)
      try simp only [Act.put, List.getElem_toArray, List.getElem_cons_zero, List.getElem_cons_succ, List.setIfInBounds_toArray, List.set_cons_zero, List.set_cons_succ]
      refine wpAnyH_take (i := 2) (v := ?_) rfl (by kernel_rfl) (by kernel_rfl) (by kernel_rfl) (fun _ _ _ h => h) (Or.inl ⟨by rfl, ?_⟩) (by assumption) ?_
      rotate_left 1
      · (intro w hSw; (obtain ⟨s1, s2, s3, s4, s5⟩ := hSw); go_simp; try with_reducible rfl)
      try simp only [Act.put, List.getElem_toArray, List.getElem_cons_zero, List.getElem_cons_succ, List.setIfInBounds_toArray, List.set_cons_zero, List.set_cons_succ]
      refine wpAnyH_take (i := 3) (v := ?_) rfl (by kernel_rfl) (by kernel_rfl) (by kernel_rfl) (fun _ _ _ h => h) (Or.inl ⟨by rfl, ?_⟩) (by assumption) ?_
      rotate_left 1
      · (intro w hSw; (obtain ⟨s1, s2, s3, s4, s5⟩ := hSw); go_simp; try with_reducible rfl)
      try simp only [Act.put, List.getElem_toArray, List.getElem_cons_zero, List.getElem_cons_succ, List.setIfInBounds_toArray, List.set_cons_zero, List.set_cons_succ]
      refine wpAnyH_take (i := 4) (v := ?_) rfl (by kernel_rfl) (by kernel_rfl) (by kernel_rfl) (fun _ _ _ h => h) (Or.inl ⟨by rfl, ?_⟩) (by assumption) ?_
      rotate_left 1
      · (intro w hSw; (obtain ⟨s1, s2, s3, s4, s5⟩ := hSw); go_simp; try with_reducible rfl)
      try simp only [Act.put, List.getElem_toArray, List.getElem_cons_zero, List.getElem_cons_succ, List.setIfInBounds_toArray, List.set_cons_zero, List.set_cons_succ]
      refine wpAnyH_take (i := 5) (v := ?_) rfl (by kernel_rfl) (by kernel_rfl) (by kernel_rfl) (fun _ _ _ h => h) (Or.inl ⟨by rfl, ?_⟩) (by assumption) ?_
      rotate_left 1
      · (intro w hSw; (obtain ⟨s1, s2, s3, s4, s5⟩ := hSw); go_simp; try with_reducible rfl)
      try simp only [Act.put, List.getElem_toArray, List.getElem_cons_zero, List.getElem_cons_succ, List.setIfInBounds_toArray, List.set_cons_zero, List.set_cons_succ]
      refine wpAnyH_take (i := 6) (v := ?_) rfl (by kernel_rfl) (by kernel_rfl) (by kernel_rfl) (fun _ _ _ h => h) (Or.inl ⟨by rfl, ?_⟩) (by assumption) ?_
      rotate_left 1
      · (intro w hSw; (obtain ⟨s1, s2, s3, s4, s5⟩ := hSw); go_simp; try with_reducible rfl)
      try simp only [Act.put, List.getElem_toArray, List.getElem_cons_zero, List.getElem_cons_succ, List.setIfInBounds_toArray, List.set_cons_zero, List.set_cons_succ]
      refine wpAnyH_take (i := 7) (v := ?_) rfl (by kernel_rfl) (by kernel_rfl) (by kernel_rfl) (fun _ _ _ h => h) (Or.inl ⟨by rfl, ?_⟩) (by assumption) ?_
      rotate_left 1
      · (intro w hSw; (obtain ⟨s1, s2, s3, s4, s5⟩ := hSw); go_simp; try with_reducible rfl)
      try simp only [Act.put, List.getElem_toArray, List.getElem_cons_zero, List.getElem_cons_succ, List.setIfInBounds_toArray, List.set_cons_zero, List.set_cons_succ]
      refine wpAnyH_take (i := 8) (v := ?_) rfl (by kernel_rfl) (by kernel_rfl) (by kernel_rfl) (fun _ _ _ h => h) (Or.inl ⟨by rfl, ?_⟩) (by assumption) ?_
      rotate_left 1
      · (intro w hSw; (obtain ⟨s1, s2, s3, s4, s5⟩ := hSw); go_simp; try with_reducible rfl)
      try simp only [Act.put, List.getElem_toArray, List.getElem_cons_zero, List.getElem_cons_succ, List.setIfInBounds_toArray, List.set_cons_zero, List.set_cons_succ]
      refine wpAnyH_take (i := 9) (v := ?_) rfl (by kernel_rfl) (by kernel_rfl) (by kernel_rfl) (fun _ _ _ h => h) (Or.inl ⟨by rfl, ?_⟩) (by assumption) ?_
      rotate_left 1
      · (intro w hSw; (obtain ⟨s1, s2, s3, s4, s5⟩ := hSw); go_simp; try with_reducible rfl)
      try simp only [Act.put, List.getElem_toArray, List.getElem_cons_zero, List.getElem_cons_succ, List.setIfInBounds_toArray, List.set_cons_zero, List.set_cons_succ]
      refine wpAnyH_take (i := 10) (v := ?_) rfl (by kernel_rfl) (by kernel_rfl) (by kernel_rfl) (fun _ _ _ h => h) (Or.inl ⟨by rfl, ?_⟩) (by assumption) ?_
      rotate_left 1
      · (intro w hSw; (obtain ⟨s1, s2, s3, s4, s5⟩ := hSw); go_simp; try with_reducible rfl)
      try simp only [Act.put, List.getElem_toArray, List.getElem_cons_zero, List.getElem_cons_succ, List.setIfInBounds_toArray, List.set_cons_zero, List.set_cons_succ]
      refine wpAnyH_take (i := 11) (v := ?_) rfl (by kernel_rfl) (by kernel_rfl) (by kernel_rfl) (fun _ _ _ h => h) (Or.inl ⟨by rfl, ?_⟩) (by assumption) ?_
      rotate_left 1
      · (intro w hSw; (obtain ⟨s1, s2, s3, s4, s5⟩ := hSw); go_simp; try with_reducible rfl)
      try simp only [Act.put, List.getElem_toArray, List.getElem_cons_zero, List.getElem_cons_succ, List.setIfInBounds_toArray, List.set_cons_zero, List.set_cons_succ]
      refine wpAnyH_ready (rs := [12]) (by kernel_rfl) (by simp) ?_
      refine AllReadyH.cons rfl (fun K hK => ?_) AllReadyH.nil
      go_simp
      refine (cl _ GX.out).mono ?_
      rintro e w4 ⟨g, rfl, L4, g4⟩
      refine hK.out _ _ (hHeld.gr g4) (fun hHeld => ?_)
      clear hK K
      try simp only [Act.put, List.getElem_toArray, List.getElem_cons_zero, List.getElem_cons_succ, List.setIfInBounds_toArray, List.set_cons_zero, List.set_cons_succ]
      refine wpAnyH_take (i := 13) (v := ?_) rfl (by kernel_rfl) (by kernel_rfl) (by kernel_rfl) (fun _ _ _ h => h) (Or.inl ⟨by rfl, ?_⟩) (by assumption) ?_
      rotate_left 1
      · (intro w hSw; (obtain ⟨s1, s2, s3, s4, s5⟩ := hSw); go_simp; try with_reducible rfl)
      try simp only [Act.put, List.getElem_toArray, List.getElem_cons_zero, List.getElem_cons_succ, List.setIfInBounds_toArray, List.set_cons_zero, List.set_cons_succ]
      refine wpAnyH_take (i := 14) (v := ?_) rfl (by kernel_rfl) (by kernel_rfl) (by kernel_rfl) (fun _ _ _ h => h) (Or.inl ⟨by rfl, ?_⟩) (by assumption) ?_
      rotate_left 1
      · (intro w hSw; (obtain ⟨s1, s2, s3, s4, s5⟩ := hSw); go_simp; try with_reducible rfl)
      try simp only [Act.put, List.getElem_toArray, List.getElem_cons_zero, List.getElem_cons_succ, List.setIfInBounds_toArray, List.set_cons_zero, List.set_cons_succ]
      have X4 := (X1.out.gr g4).arr
      have q0 := (X4.cell (i := p) (by omega)).1
      have q1 := (X4.cell (i := p) (by omega)).2
      have f0 := X4.frozen (p * 2)
      have f1 := X4.frozen (p * 2 + 1)
      have XN := X1.out.step (by have := M.out; omega) g4 L4
      rw [← NR.out, ← NX.out] at XN
      have XN : Hid _ := XN
      clear X4 L4
      refine wpAnyH_ready (rs := [15]) (by kernel_rfl) (by simp) ?_
      refine AllReadyH.cons rfl (fun K hK => ?_) AllReadyH.nil
      go_simp
      refine hK.out _ _ (hHeld.set (Nat.le_refl _) _ _ _ _) (fun hHeld => ?_)
      clear hK K
      try simp only [Act.put, List.getElem_toArray, List.getElem_cons_zero, List.getElem_cons_succ, List.setIfInBounds_toArray, List.set_cons_zero, List.set_cons_succ]
      refine wpAnyH_done (by kernel_rfl) ?_ _
      go_wp2
      exact ⟨⟨p + 1, by go_num, hpn, XN.out⟩, by simp [intOf]; omega⟩
    · have hpi : ¬ (p : Int) < (n : Int) := by omega
      have epn : p = n := by omega
      subst epn
      obtain ⟨f, hX⟩ := X.out
      rw [M.out] at hX
      have q0 := (hX.arr.cell (i := p) (by omega)).1
      have q1 := (hX.arr.cell (i := p) (by omega)).2
      have f0 := hX.arr.frozen (p * 2)
      have f1 := hX.arr.frozen (p * 2 + 1)
      have XN : Hid _ := hX.mark N.out
      clear hX
      go_wp2
      go_ret
      exact ⟨_, rfl, XN.out⟩
end Go.Proofs.YtepjbdklljlecaaGreat
