import Derived.Test.YtbnljabeccebiaaGreatKrKqTq
import Derived.Test.YtbnljabeccebiaaGreatKr40
import Derived.Test.YtbnljabeccebiaaGreatKr10
import Derived.Test.YtbnljabeccebiaaGreatKrReg
import Derived.Test.YtbnljabeccebiaaGreatKr11
import Derived.Test.YtbnljabeccebiaaGreatKr1
import Derived.Deep.RegionHeld3
import Derived.Test.YtbnljabeccebiaaGreatKr0
import Derived.BigQuiet
import Derived.Deep.RegionWith
import Derived.Test.YtbnljabeccebiaaGreatKr30
import Derived.Maps.OwnIn
/- The reference's Table.Delete and Of; rows that were put one by one. -/
namespace Go.Proofs.YtbnljabeccebiaaGreat
open Go.RowKit Go.Sort Go.Maps

theorem ris_eq : ∀ {a b : List Rw}, Ris a → Ris b → a.Perm b → a = b
  | [], b, _, _, p => (p.symm.eq_nil).symm
  | x :: r, [], _, _, p => absurd p.eq_nil (by simp)
  | x :: r, y :: s, ha, hb, p => by
    have h1 := List.pairwise_cons.1 ha
    have h2 := List.pairwise_cons.1 hb
    have e : x = y := by
      rcases List.mem_cons.1 (p.mem_iff.1 List.mem_cons_self) with e | hx
      · exact e
      · rcases List.mem_cons.1 (p.mem_iff.2 (List.mem_cons_self (a := y) (l := s))) with e | hy
        · exact e.symm
        · have := h1.1 y hy
          have := h2.1 x hx
          omega
    subst e
    rw [ris_eq h1.2 h2.2 (List.Perm.cons_inv p)]
/-- One row put. -/
def put1 (m : Nat) (rs : List Rw) (r : Rw) : List Rw := if putE m rs r = 0 then putRw rs r else rs
theorem puts_same {m : Nat} : ∀ {l : List Rw}, RowsOk l (m : Int) → Ris (l.foldr (fun r a => put1 m a r) []) ∧ (l.foldr (fun r a => put1 m a r) []).Perm l
  | [], _ => ⟨List.Pairwise.nil, List.Perm.refl _⟩
  | r :: l, h => by
    have hl : RowsOk l (m : Int) := h.sub (List.sublist_cons_self r l)
    obtain ⟨a, p⟩ := puts_same hl
    rw [List.foldr_cons]
    generalize l.foldr (fun r a => put1 m a r) [] = x at a p
    have hn : ∀ y ∈ x, y.1 ≠ r.1 := fun y hy e => by
      have h1 := h.ids
      unfold idsOf at h1
      rw [List.map_cons, List.pairwise_cons] at h1
      exact h1.1 y.1 (List.mem_map.2 ⟨y, p.mem_iff.1 hy, rfl⟩) e.symm
    have hd : delRw x r.1 = x := by
      unfold delRw
      rw [List.filter_eq_self]
      intro y hy
      have := hn y hy
      simpa using this
    have hf := h.few
    have he : putE m x r = 0 := by
      obtain ⟨h1, h2⟩ := h.row r List.mem_cons_self
      unfold putE
      rw [if_pos h1, if_pos h2, if_neg]
      rintro ⟨_, h4⟩
      rw [p.length_eq] at h4
      simp at hf
      omega
    unfold put1
    rw [if_pos he]
    unfold putRw
    rw [hd]
    refine ⟨ins_ris a hn, (ins_perm x r).trans ?_⟩
    exact (List.perm_append_singleton r x).trans (p.cons r)
theorem puts_l {m : Nat} {l rs : List Rw} (h : RowsOk l (m : Int)) (hr : Ris rs) (hp : rs.Perm l) : l.foldl (put1 m) [] = rs := by
  have h' : RowsOk l.reverse (m : Int) := h.perm (List.reverse_perm l).symm
  obtain ⟨a, p⟩ := puts_same h'
  rw [List.foldr_reverse] at a p
  exact ris_eq a hr ((p.trans (List.reverse_perm l)).trans hp.symm)
theorem tb_new {w : World} {m : Nat} : TbAt (w.alloc (.cells #[.int .i64 (m : Int), .slice none 0 0] 77)) w.heap.size m [] [w.heap.size] := by
  refine ⟨.slice none 0 0, [], heap_new _ _, ⟨World.ownsRow_nil _ _ _ _, (fun x hx => by cases hx), upT _⟩, rfl, List.Pairwise.nil, by simp, rfl⟩
/-- What Of tells. -/
def OfO (w : World) (m : Nat) (rs : List Rw) (e : Ending) (w' : World) : Prop := ∃ tb G, e = .returned (.pointer (some ⟨tb, 0, none⟩)) ∧ TbAt w' tb m rs G ∧ (∀ y ∈ G, w.heap.size ≤ y) ∧ Gb w w'
set_option maxRecDepth 100000 in
set_option maxHeartbeats 2000000 in
theorem tof_c {w : World} {v : Value} {l rs : List Rw} {m : Nat} (hv : RdW w v l) (hok : RowsOk l (m : Int)) (hr : Ris rs) (hp : rs.Perm l) :
    Calls Tryz.prog 16 #[v, .int .i64 (m : Int)] w fun e w' => OfO w m rs e w' := by
  have PS : Hid (l.foldl (put1 m) [] = rs) := puts_l hok hr hp
  have V : Hid (RdW w v l) := hv
  obtain ⟨av, cv, ev, _⟩ := hv
  subst ev
  obtain ⟨n, hn⟩ : ∃ n, n = l.length := ⟨_, rfl⟩
  have N : Hid (n = l.length) := hn
  have n512 : n ≤ 512 := by rw [hn]; exact hok.few
  have T0 := tb_new (w := w) (m := m)
  have G0 : Gb w (w.alloc (.cells #[.int .i64 (m : Int), .slice none 0 0] 77)) := gb_alloc (Below.refl _ _) _
  obtain ⟨w1, hw1⟩ : ∃ w1, w1 = w.alloc (.cells #[.int .i64 (m : Int), .slice none 0 0] 77) := ⟨_, rfl⟩
  rw [← hw1] at T0 G0
  have TT : Hid (∃ G, TbAt w1 w.heap.size m [] G ∧ (∀ y ∈ G, w.heap.size ≤ y) ∧ Gb w w1) := ⟨_, T0, fun y hy => by simp at hy; omega, G0⟩
  rw [← hn] at V ⊢
  clear hn hok hr hp T0 G0
  go_enter Tryz.func16, Tryz.ntmps16
  go_wp2
  rw [← hw1]
  clear hw1
  go_loopw [6] (fun iv W => ∃ q : Nat, iv = .int .i64 (q : Int) ∧ q ≤ n ∧ Hid (∃ G, TbAt W w.heap.size m ((l.take q).foldl (put1 m) []) G ∧ (∀ y ∈ G, w.heap.size ≤ y) ∧ Gb w W)) (fun iv _ => n - (intOf iv).toNat)
  case atStart => exact ⟨0, rfl, Nat.zero_le _, TT⟩
  case round =>
    clear TT
    obtain ⟨q, rfl, hq, X⟩ := hrel
    by_cases hqn : q < n
    · have hqi : (q : Int) < (n : Int) := by omega
      have hql : q < l.length := by have := N.out; omega
      obtain ⟨G, tt, hG, g⟩ := X.out
      obtain ⟨_, _, e, hc⟩ := V.out
      injection e with e1 e2 e3
      subst e1 e3
      obtain ⟨rb, ro, ru, e, r0, r1, hr⟩ := hc q hql
      subst e
      have r0 := gb_keeps g r0
      have r1 := gb_keeps g r1
      have cP := tput_c (xi := l[q]!.1) tt (hr.gb g)
      have hs := g.size
      have NX : Hid (∀ W', TbOut wr w.heap.size m (if putE m ((l.take q).foldl (put1 m) []) (l[q]!.1, l[q]!.2) = 0 then putRw ((l.take q).foldl (put1 m) []) (l[q]!.1, l[q]!.2) else (l.take q).foldl (put1 m) []) G W' → ∃ G, TbAt W' w.heap.size m ((l.take (q + 1)).foldl (put1 m) []) G ∧ (∀ y ∈ G, w.heap.size ≤ y) ∧ Gb w W') := by
        rintro W' ⟨G', t', l', k'⟩
        rw [List.take_succ_eq_append_getElem hql, List.foldl_append, ← getElem!_pos l q hql]
        refine ⟨G', t', fun y hy => ?_, g.trans (k'.gr hs (fun k e => by omega))⟩
        rcases l' y hy with h | h
        · exact hG y h
        · omega
      obtain ⟨ar, cr, er, _⟩ := hr.rd0
      subst er
      generalize (l.take q).foldl (put1 m) [] = rsq at *
      generalize l[q]!.1 = xi at *
      generalize hxl : l[q]!.2 = xl at *
      generalize putE m rsq (xi, xl) = pe at *
      clear hxl hc e2 hr tt X hG hql hs g
      go_wp2_with fail
      refine cP.mono ?_
      rintro e w3 ⟨rfl, hO⟩
      have XN : Hid _ := NX.out _ hO
      clear cP hO NX r0 r1
      go_wp2
      go_roundw
      case rel => exact ⟨q + 1, by first | rfl | go_num | simp, hqn, XN⟩
      case measure => simp [intOf]; omega
    · have hqi : ¬ (q : Int) < (n : Int) := by omega
      have FX : Hid (∃ G, TbAt wr w.heap.size m rs G ∧ (∀ y ∈ G, w.heap.size ≤ y) ∧ Gb w wr) := by
        obtain ⟨G, tt, hG, g⟩ := X.out
        rw [List.take_of_length_le (by have := N.out; omega), PS.out] at tt
        exact ⟨G, tt, hG, g⟩
      clear X
      go_wp2
      go_ret
      obtain ⟨G, tt, hG, g⟩ := FX.out
      exact ⟨_, G, rfl, tt, hG, g⟩
end Go.Proofs.YtbnljabeccebiaaGreat

/- A search that is refused; a tree that is not built. -/
namespace Go.Proofs.YtbnljabeccebiaaGreat
open Go.RowKit Go.Sort

/-- What building answers. -/
def bldE (rs : List Rw) (d leaf : Int) : Int := if flatE rs d = 0 then (if 1 ≤ leaf ∧ leaf ≤ 64 then 0 else 1) else flatE rs d
theorem kbuild_no {w : World} {v : Value} {rs : List Rw} (h : RdW w v rs) (hwf : Wf rs) (d leaf B S : Int) (hz : bldE rs d leaf ≠ 0) :
    Calls Tryz.prog 12 #[v, .int .i64 d, .agg #[.int .i64 leaf, .int .i64 B, .int .u64 S]] w fun e w' => e = .returned (.tuple #[.pointer none, .int .i64 (bldE rs d leaf)]) ∧ Gb w w' := by
  have g1 : Gb w (w.alloc (.cells #[.int .i64 leaf, .int .i64 B, .int .u64 S] 25)) := gb_alloc (Below.refl _ _) _
  have cB : Calls Tryz.prog 32 #[v, .int .i64 d, .int .i64 leaf] (w.alloc (.cells #[.int .i64 leaf, .int .i64 B, .int .u64 S] 25)) fun e w' => e = .returned (.tuple #[.pointer none, .int .i64 (bldE rs d leaf)]) ∧ Gb w w' := by
    by_cases h1 : flatE rs d = 0
    · by_cases h2 : 1 ≤ leaf ∧ leaf ≤ 64
      · unfold bldE at hz; rw [if_pos h1, if_pos h2] at hz; exact absurd rfl hz
      · have e : bldE rs d leaf = 1 := by unfold bldE; rw [if_pos h1, if_neg h2]
        rw [e]
        exact (build_leaf (h.gb g1) hwf d leaf h1 (by omega)).mono fun e w' ⟨h3, h4⟩ => ⟨h3, gb_trans g1 h4⟩
    · have e : bldE rs d leaf = flatE rs d := by unfold bldE; rw [if_neg h1]
      rw [e]
      exact (build_no (h.gb g1) hwf d leaf h1).mono fun e w' ⟨h3, h4⟩ => ⟨h3, gb_trans g1 h4⟩
  obtain ⟨a, c, e, _⟩ := h
  subst e
  generalize rs.length = n at *
  generalize bldE rs d leaf = z at *
  clear g1 hwf
  go_enter Tryz.func12, Tryz.ntmps12
  go_wp2_with fail
  go_fit cB
  rintro e w1 ⟨rfl, hG⟩
  have HG : Hid _ := hG
  clear cB hG
  go_wp2
  refine bodyPost_ret (v := .tuple #[.pointer none, .int .i64 z]) (by simp [results, Tryz.results12, go_sem]) rfl ⟨rfl, ?_⟩
  exact HG.out
end Go.Proofs.YtbnljabeccebiaaGreat

/- The law's tree: it lies in blocks that are younger than what was handed in. -/
namespace Go.Proofs.YtbnljabeccebiaaGreat
open Go.RowKit Go.Sort

/-- The law's tree. -/
def TrW (Iq : Nat → Prop) (w0 : World) (tb m leaf : Nat) (rs : List Rw) (W : World) : Prop := ∃ F, TreeAt Iq W tb m leaf rs F ∧ (∀ x ∈ F, w0.heap.size ≤ x) ∧ Gb w0 W
theorem TrW.gb {Iq : Nat → Prop} {w0 W W' : World} {tb m leaf : Nat} {rs : List Rw} (h : TrW Iq w0 tb m leaf rs W) (g : Gb W W') : TrW Iq w0 tb m leaf rs W' := by
  obtain ⟨F, t, hF, g0⟩ := h
  exact ⟨F, t.gb g, hF, gb_trans g0 g⟩
theorem TrW.old {Iq : Nat → Prop} {w0 W : World} {tb m leaf : Nat} {rs : List Rw} (h : TrW Iq w0 tb m leaf rs W) : Gb w0 W := by
  obtain ⟨_, _, _, g⟩ := h
  exact g
theorem TrW.out {Iq : Nat → Prop} {w0 W W' : World} {tb m leaf : Nat} {rs' : List Rw} {F : List Nat} (hF : ∀ x ∈ F, w0.heap.size ≤ x) (g : Gb w0 W) (h : TOut Iq W tb m leaf F rs' W') : TrW Iq w0 tb m leaf rs' W' := by
  obtain ⟨F', t, l, k⟩ := h
  have s := g.size
  refine ⟨F', t, fun x hx => ?_, g.trans (k.gr s hF)⟩
  rcases l x hx with h | h
  · exact hF x h
  · omega
end Go.Proofs.YtbnljabeccebiaaGreat

/- Rows and ids by their order. -/
namespace Go.Proofs.YtbnljabeccebiaaGreat
open Go.RowKit Go.Sort

end Go.Proofs.YtbnljabeccebiaaGreat

/- theodolitekeep.Ints; the law's own box and ball. -/
namespace Go.Proofs.YtbnljabeccebiaaGreat
open Go.RowKit Go.Sort

theorem take_snoc {l : List Int} {q : Nat} (h : q < l.length) : l.take (q + 1) = l.take q ++ [l[q]!] := by
  rw [List.take_succ_eq_append_getElem h, getElem!_pos l q h]

set_option maxHeartbeats 2000000 in
set_option maxRecDepth 100000 in
theorem ints_c {w : World} {u v : Value} {l m : List Int} (hu : RdI w u l) (hv : RdI w v m) (hlen : l.length ≤ 4611686018427387904) :
    Calls Tryz.prog 51 #[u, v] w fun e w' => e = .returned (.bool (decide (l = m))) ∧ Gr w w' := by
  obtain ⟨a, ca, rfl, ha⟩ := hu
  obtain ⟨b, cb, rfl, hb⟩ := hv
  by_cases hlm : l.length = m.length
  · have A : Hid (∀ i, i < l.length → ∃ b o, a = some ⟨b, o, none⟩ ∧ w.cell? ⟨b, o + i, none⟩ = some (.int .i64 l[i]!)) := ha
    have B : Hid (∀ i, i < m.length → ∃ b' o, b = some ⟨b', o, none⟩ ∧ w.cell? ⟨b', o + i, none⟩ = some (.int .i64 m[i]!)) := hb
    have L : Hid (l.length = m.length) := hlm
    rw [← hlm]
    obtain ⟨n, hN⟩ : ∃ n, n = l.length := ⟨_, rfl⟩
    have N : Hid (n = l.length) := hN
    rw [← hN] at hlen ⊢
    clear ha hb hlm hN
    go_enter Tryz.func51, Tryz.ntmps51
    go_wp2
    go_loopw [5] (fun iv w' => ∃ q : Nat, iv = .int .i64 (q : Int) ∧ q ≤ n ∧ Hid (l.take q = m.take q ∧ Gr w w')) (fun iv _ => n - (intOf iv).toNat)
    case atStart => exact ⟨0, rfl, Nat.zero_le _, ⟨by simp, Gr.refl _⟩⟩
    case round =>
      obtain ⟨q, rfl, hq, X⟩ := hrel
      by_cases hqn : q < n
      · have hql : q < l.length := by have := N.out; omega
        have hqm : q < m.length := by have := L.out; omega
        obtain ⟨b1, o1, ea, h1⟩ := A.out q hql
        obtain ⟨b2, o2, eb, h2⟩ := B.out q hqm
        subst ea; subst eb
        have h1 := X.out.2.keeps h1
        have h2 := X.out.2.keeps h2
        by_cases hxy : l[q]! = m[q]!
        · have R : Hid (l.take (q + 1) = m.take (q + 1)) := by unfold Hid; rw [take_snoc hql, take_snoc hqm, X.out.1, hxy]
          rw [hxy] at h1
          generalize m[q]! = x at *
          clear hxy hql hqm
          go_wp2
          go_quiet (fail)
          go_wp2
          go_roundw
          case rel => exact ⟨q + 1, by simp, hqn, R.out, X.out.2.drewN _⟩
          case measure => simp [intOf]; omega
        · have R : Hid (decide (l = m) = false) := decide_eq_false (fun e => hxy (by rw [e]))
          have hne : (l[q]! == m[q]!) = false := by rw [beq_eq_false_iff_ne]; exact hxy
          generalize l[q]! = x at *
          generalize m[q]! = y at *
          clear hxy hql hqm
          go_wp2
          go_quiet (fail)
          go_wp2
          go_ret
          exact ⟨by rw [R.out]; rfl, X.out.2.drewN _⟩
      · have R : Hid (decide (l = m) = true) := by
          have e := X.out.1
          have h1 := N.out
          have h2 := L.out
          rw [List.take_of_length_le (by omega), List.take_of_length_le (by omega)] at e
          exact decide_eq_true e
        go_wp2
        go_ret
        exact ⟨by rw [R.out]; rfl, X.out.2⟩
  · have R : Hid (decide (l = m) = false) := decide_eq_false (fun e => hlm (by rw [e]))
    have hne : ((l.length : Int) == (m.length : Int)) = false := by rw [beq_eq_false_iff_ne]; omega
    generalize l.length = n1 at *
    generalize m.length = n2 at *
    clear ha hb hlm
    go_enter Tryz.func51, Tryz.ntmps51
    go_wp2
    go_ret
    exact ⟨by rw [R.out]; rfl, Gr.refl _⟩
theorem ints_v {w : World} {u v : Value} {l m : List Int} (hu : RdI w u l) (hv : RdI w v m) (hlen : l.length ≤ 4611686018427387904) (r : Bool) (hr : decide (l = m) = r) :
    Calls Tryz.prog 51 #[u, v] w fun e w' => e = .returned (.bool r) ∧ Gr w w' := by
  subst hr; exact ints_c hu hv hlen

end Go.Proofs.YtbnljabeccebiaaGreat

/- The reference's ids. -/
namespace Go.Proofs.YtbnljabeccebiaaGreat
open Go.RowKit

end Go.Proofs.YtbnljabeccebiaaGreat

/- The reference's CheckRegion. -/
namespace Go.Proofs.YtbnljabeccebiaaGreat
open Go.RowKit

end Go.Proofs.YtbnljabeccebiaaGreat

/- theodoliteref03.Far. -/
namespace Go.Proofs.YtbnljabeccebiaaGreat
open Go.RowKit

end Go.Proofs.YtbnljabeccebiaaGreat

/- The reference's numbers of eight digits in memory; Of, as a contract. -/
namespace Go.Proofs.YtbnljabeccebiaaGreat
open Go.RowKit

/-- Digit number i to the base of 65536. -/
def dd (n i : Nat) : Int := ((n / 65536 ^ i % 65536 : Nat) : Int)
/-- A number of eight digits as the reference's struct. -/
abbrev Nm (n : Nat) (o : Bool) : Value := .agg #[.int .i64 (dd n 0), .int .i64 (dd n 1), .int .i64 (dd n 2), .int .i64 (dd n 3), .int .i64 (dd n 4), .int .i64 (dd n 5), .int .i64 (dd n 6), .int .i64 (dd n 7), .bool o]
/-- Block B holds the number n and the mark o. -/
structure NumAt (w : World) (B n : Nat) (o : Bool) : Prop where
  d : ∀ j, j < 8 → w.cell? ⟨B, j, none⟩ = some (.int .i64 (dd n j))
  o : w.cell? ⟨B, 8, none⟩ = some (.bool o)
  f : ∀ j, j < 9 → w.frozen? ⟨B, j, none⟩ = false
theorem NumAt.call {w w' : World} {B n : Nat} {o : Bool} (h : NumAt w B n o) (g : Gr w w') : NumAt w' B n o :=
  ⟨fun j hj => g.keeps (h.d j hj), g.keeps h.o, fun j hj => (g.froz _).trans (h.f j hj)⟩
theorem NumAt.far {w : World} {B n : Nat} {o : Bool} (h : NumAt w B n o) (b k : Nat) (hb : b ≠ B) (x : Value) : NumAt (w.setCell ⟨b, k, none⟩ x) B n o :=
  ⟨fun j hj => (World.cell?_setCell_far w _ _ x hb).trans (h.d j hj), (World.cell?_setCell_far w _ _ x hb).trans h.o, fun j hj => (World.frozen?_setCell _ _ _ _).trans (h.f j hj)⟩
theorem NumAt.cells {w : World} {B n : Nat} {o : Bool} (h : NumAt w B n o) :
    w.cell? ⟨B, 0, none⟩ = some (.int .i64 (dd n 0)) ∧ w.cell? ⟨B, 1, none⟩ = some (.int .i64 (dd n 1)) ∧ w.cell? ⟨B, 2, none⟩ = some (.int .i64 (dd n 2)) ∧ w.cell? ⟨B, 3, none⟩ = some (.int .i64 (dd n 3)) ∧
    w.cell? ⟨B, 4, none⟩ = some (.int .i64 (dd n 4)) ∧ w.cell? ⟨B, 5, none⟩ = some (.int .i64 (dd n 5)) ∧ w.cell? ⟨B, 6, none⟩ = some (.int .i64 (dd n 6)) ∧ w.cell? ⟨B, 7, none⟩ = some (.int .i64 (dd n 7)) ∧ w.cell? ⟨B, 8, none⟩ = some (.bool o) :=
  ⟨h.d 0 (by omega), h.d 1 (by omega), h.d 2 (by omega), h.d 3 (by omega), h.d 4 (by omega), h.d 5 (by omega), h.d 6 (by omega), h.d 7 (by omega), h.o⟩
/-- A new block that is made of a number. -/
theorem NumAt.new (w : World) (n : Nat) (o : Bool) (t : TypeId) : NumAt (w.alloc (.cells #[.int .i64 (dd n 0), .int .i64 (dd n 1), .int .i64 (dd n 2), .int .i64 (dd n 3), .int .i64 (dd n 4), .int .i64 (dd n 5), .int .i64 (dd n 6), .int .i64 (dd n 7), .bool o] t)) w.heap.size n o := by
  refine ⟨fun j hj => ?_, by simp [go_sem], fun j _ => by simp [go_sem]⟩
  rw [World.cell?_alloc_at _ _ _ _ rfl]
  have : j = 0 ∨ j = 1 ∨ j = 2 ∨ j = 3 ∨ j = 4 ∨ j = 5 ∨ j = 6 ∨ j = 7 := by omega
  rcases this with rfl | rfl | rfl | rfl | rfl | rfl | rfl | rfl <;> rfl
/-- A number that is stored over another one. -/
theorem NumAt.store {w : World} {B n : Nat} {o : Bool} (h : NumAt w B n o) (m : Nat) (p : Bool) :
    NumAt (((((((((w.setCell ⟨B, 0, none⟩ (.int .i64 (dd m 0))).setCell ⟨B, 1, none⟩ (.int .i64 (dd m 1))).setCell ⟨B, 2, none⟩ (.int .i64 (dd m 2))).setCell ⟨B, 3, none⟩ (.int .i64 (dd m 3))).setCell ⟨B, 4, none⟩ (.int .i64 (dd m 4))).setCell ⟨B, 5, none⟩ (.int .i64 (dd m 5))).setCell ⟨B, 6, none⟩ (.int .i64 (dd m 6))).setCell ⟨B, 7, none⟩ (.int .i64 (dd m 7))).setCell ⟨B, 8, none⟩ (.bool p)) B m p := by
  obtain ⟨c0, c1, c2, c3, c4, c5, c6, c7, c8⟩ := h.cells
  refine ⟨fun j hj => ?_, by simp [go_sem, c8], fun j hj => ?_⟩
  · have : j = 0 ∨ j = 1 ∨ j = 2 ∨ j = 3 ∨ j = 4 ∨ j = 5 ∨ j = 6 ∨ j = 7 := by omega
    rcases this with rfl | rfl | rfl | rfl | rfl | rfl | rfl | rfl <;> simp [go_sem, *]
  · simp only [World.frozen?_setCell]; exact h.f j hj

end Go.Proofs.YtbnljabeccebiaaGreat

/- The reference's plus, as a contract. -/
namespace Go.Proofs.YtbnljabeccebiaaGreat
open Go.RowKit

end Go.Proofs.YtbnljabeccebiaaGreat

/- The reference's Cmp and Less, as contracts. -/
namespace Go.Proofs.YtbnljabeccebiaaGreat
open Go.RowKit

end Go.Proofs.YtbnljabeccebiaaGreat

/- The reference's Wide and Add, as contracts. -/
namespace Go.Proofs.YtbnljabeccebiaaGreat
open Go.RowKit

end Go.Proofs.YtbnljabeccebiaaGreat

/- What the walks over Times lean on. -/
namespace Go.Proofs.YtbnljabeccebiaaGreat
open Go.RowKit

theorem NumAt.zero (w : World) (t : TypeId) : NumAt (w.alloc (.cells #[.int .i64 0, .int .i64 0, .int .i64 0, .int .i64 0, .int .i64 0, .int .i64 0, .int .i64 0, .int .i64 0, .bool false] t)) w.heap.size 0 false := NumAt.new w 0 false t
theorem NumAt.drew {w : World} {B n : Nat} {o : Bool} (h : NumAt w B n o) : NumAt w.drew B n o := h.call (Gr.refl _).drew

end Go.Proofs.YtbnljabeccebiaaGreat

/- The reference's Times, as a contract. -/
namespace Go.Proofs.YtbnljabeccebiaaGreat
open Go.RowKit

end Go.Proofs.YtbnljabeccebiaaGreat

/- The reference's Mul, as a contract. -/
namespace Go.Proofs.YtbnljabeccebiaaGreat
open Go.RowKit

end Go.Proofs.YtbnljabeccebiaaGreat

/- theodoliteref03.Root. -/
namespace Go.Proofs.YtbnljabeccebiaaGreat
open Go.RowKit

end Go.Proofs.YtbnljabeccebiaaGreat

/- The reference's In and Inside. -/
namespace Go.Proofs.YtbnljabeccebiaaGreat
open Go.RowKit

end Go.Proofs.YtbnljabeccebiaaGreat

/- The reference's region: one whose rows lie in it. -/
namespace Go.Proofs.YtbnljabeccebiaaGreat
open Go.RowKit Go.Sort

end Go.Proofs.YtbnljabeccebiaaGreat

/- Hits in a block of the call's own, by their places. -/
namespace Go.Proofs.YtbnljabeccebiaaGreat
open Go.RowKit Go.Sort

/-- Block g holds, at its head, the hits f 0 .. f (n - 1). -/
def HA (W : World) (g n cap : Nat) (f : Nat → Tk.Ht) : Prop :=
  ∃ cur : Array Value, W.heap[g]? = some (.cells cur 68 (0, 0)) ∧ cur.size = cap * 3 ∧ n ≤ cap ∧ cap ≤ maxLen ∧ ∀ i, i < n → cur[i * 3]? = some (.int .i64 (f i).1) ∧ cur[i * 3 + 1]? = some (.int .u64 (f i).2.1) ∧ cur[i * 3 + 2]? = some (.int .u64 (f i).2.2)
theorem HA.lt {W : World} {g n cap : Nat} {f : Nat → Tk.Ht} (h : HA W g n cap f) : g < W.heap.size := by
  obtain ⟨cur, h1, _⟩ := h; exact (Array.getElem?_eq_some_iff.1 h1).1
theorem HA.cell {W : World} {g n cap : Nat} {f : Nat → Tk.Ht} (h : HA W g n cap f) {i : Nat} (hi : i < n) : W.cell? ⟨g, i * 3, none⟩ = some (.int .i64 (f i).1) ∧ W.cell? ⟨g, i * 3 + 1, none⟩ = some (.int .u64 (f i).2.1) ∧ W.cell? ⟨g, i * 3 + 2, none⟩ = some (.int .u64 (f i).2.2) := by
  obtain ⟨cur, h1, _, _, _, h4⟩ := h
  obtain ⟨a, b, c⟩ := h4 i hi
  simp [World.cell?, h1, a, b, c]
theorem HA.frozen {W : World} {g n cap : Nat} {f : Nat → Tk.Ht} (h : HA W g n cap f) (o : Nat) : W.frozen? ⟨g, o, none⟩ = false := by
  obtain ⟨cur, h1, _⟩ := h
  simp [World.frozen?, h1]
theorem HA.block {W W' : World} {g n cap : Nat} {f : Nat → Tk.Ht} (h : HA W g n cap f) (e : W'.heap[g]? = W.heap[g]?) : HA W' g n cap f := by
  obtain ⟨cur, h1, h2⟩ := h
  exact ⟨cur, e.trans h1, h2⟩
theorem HA.congr {W : World} {g n cap : Nat} {f f' : Nat → Tk.Ht} (h : HA W g n cap f) (e : ∀ i, i < n → f i = f' i) : HA W g n cap f' := by
  obtain ⟨cur, h1, h2, h3, h4, h5⟩ := h
  exact ⟨cur, h1, h2, h3, h4, fun i hi => by rw [← e i hi]; exact h5 i hi⟩
theorem HA.set {W : World} {g n cap : Nat} {f : Nat → Tk.Ht} (h : HA W g n cap f) {i : Nat} (hi : i < n) (x : Tk.Ht) :
    HA (((W.setCell ⟨g, i * 3, none⟩ (.int .i64 x.1)).setCell ⟨g, i * 3 + 1, none⟩ (.int .u64 x.2.1)).setCell ⟨g, i * 3 + 2, none⟩ (.int .u64 x.2.2)) g n cap (fun t => if t = i then x else f t) := by
  obtain ⟨cur, h1, h2, h3, h4, h5⟩ := h
  refine ⟨((cur.setIfInBounds (i * 3) (.int .i64 x.1)).setIfInBounds (i * 3 + 1) (.int .u64 x.2.1)).setIfInBounds (i * 3 + 2) (.int .u64 x.2.2), ?_, by simpa using h2, h3, h4, fun t ht => ?_⟩
  · simp [World.setCell, Array.getElem?_modify, h1]
  · by_cases e : t = i
    · subst e
      simp only [if_true]
      refine ⟨?_, ?_, ?_⟩
      · rw [Array.getElem?_setIfInBounds_ne (by omega), Array.getElem?_setIfInBounds_ne (by omega), Array.getElem?_setIfInBounds_self_of_lt (by omega)]
      · rw [Array.getElem?_setIfInBounds_ne (by omega), Array.getElem?_setIfInBounds_self_of_lt (by simp; omega)]
      · rw [Array.getElem?_setIfInBounds_self_of_lt (by simp; omega)]
    · simp only [if_neg e]
      obtain ⟨a, b, c⟩ := h5 t ht
      refine ⟨?_, ?_, ?_⟩
      · rw [Array.getElem?_setIfInBounds_ne (by omega), Array.getElem?_setIfInBounds_ne (by omega), Array.getElem?_setIfInBounds_ne (by omega)]; exact a
      · rw [Array.getElem?_setIfInBounds_ne (by omega), Array.getElem?_setIfInBounds_ne (by omega), Array.getElem?_setIfInBounds_ne (by omega)]; exact b
      · rw [Array.getElem?_setIfInBounds_ne (by omega), Array.getElem?_setIfInBounds_ne (by omega), Array.getElem?_setIfInBounds_ne (by omega)]; exact c
theorem own_of_ha {W : World} {g cap : Nat} {l : List Tk.Ht} {f : Nat → Tk.Ht} (h : HA W g l.length cap f) (e : ∀ i, i < l.length → f i = l[i]!) : Tk.Own W (.slice (some ⟨g, 0, none⟩) l.length cap) l.toArray := by
  obtain ⟨cur, h1, h2, h3, h4, h5⟩ := h
  refine ⟨by rw [Tk.fl_len]; simp, .inr ⟨g, cap, cur, by simp, Nat.zero_le _, h1, by simpa using h3, h4, h2, ?_⟩⟩
  simp only [List.size_toArray]
  apply List.ext_getElem?
  intro j
  by_cases hj : j < l.length * 3
  · obtain ⟨i, c, hc, rfl⟩ : ∃ i c, c < 3 ∧ j = i * 3 + c := ⟨j / 3, j % 3, by omega, by omega⟩
    have hi : i < l.length := by omega
    rw [List.getElem?_take_of_lt hj, Array.getElem?_toList, Tk.fl_get l i c hi hc]
    obtain ⟨a, b, d⟩ := h5 i hi
    rw [e i hi, getElem!_pos l i hi] at a b d
    rcases c with _ | _ | _ | c
    · rw [Nat.add_zero]; exact a
    · exact b
    · exact d
    · omega
  · rw [List.getElem?_eq_none (by rw [List.length_take]; omega), List.getElem?_eq_none (by rw [Tk.fl_len]; simpa using hj)]
end Go.Proofs.YtbnljabeccebiaaGreat

/- flat.order, slices.SortFunc by it, Range. -/
namespace Go.Proofs.YtbnljabeccebiaaGreat
open Go.RowKit Go.Shelf Go.Sort Go.Lib
attribute [local go_sem] Oper.semAt_some

end Go.Proofs.YtbnljabeccebiaaGreat

/- flat.Range. -/
namespace Go.Proofs.YtbnljabeccebiaaGreat
open Go.RowKit Go.Shelf Go.Sort Go.Lib
attribute [local go_sem] Oper.semAt_some

def RadBox (W : World) (p : Nat) (rh rl : Int) : Prop := W.heap[p]? = some (.cells #[.int .u64 rh, .int .u64 rl] 66 (0, 0))
theorem RadBox.cells {W : World} {p : Nat} {rh rl : Int} (h : RadBox W p rh rl) : W.cell? ⟨p, 0, none⟩ = some (.int .u64 rh) ∧ W.cell? ⟨p, 1, none⟩ = some (.int .u64 rl) := by
  have e : W.heap[p]? = _ := h
  refine ⟨?_, ?_⟩ <;> simp [World.cell?, e]
theorem RadBox.gb {W W' : World} {p : Nat} {rh rl : Int} (h : RadBox W p rh rl) (g : Gb W W') : RadBox W' p rh rl := gb_same g h
theorem Boxed.gb {W W' : World} {B : Nat} {t : TypeId} {v : Value} (h : Boxed W B t v) (g : Gb W W') : Boxed W' B t v := gb_same g h
end Go.Proofs.YtbnljabeccebiaaGreat

/- flat.risingIds, somewhere. -/
namespace Go.Proofs.YtbnljabeccebiaaGreat
open Go.RowKit Go.Sort

/-- Behind some rounds: the list of the ids so far. -/
structure UpSt (w W : World) (v : Value) (l : List Int) : Prop where
  row : Own W w.heap.size v l
  gb : Gb w W
theorem UpSt.alloc {w W : World} {v : Value} {l : List Int} (h : UpSt w W v l) (o : Obj) : UpSt w (W.alloc o) v l :=
  ⟨World.ownsRow.alloc h.row o, gb_alloc h.gb o⟩
theorem UpSt.next {w W W2 : World} {v v' : Value} {l : List Int} {x : Int} (h : UpSt w W v l)
    (hr : W2.ownsRow w.heap.size 3 1 v' (l.length + 1) (l.map (Value.int .i64) ++ [.int .i64 x])) (hg2 : W.grownBy W2 v.ownBlock) : UpSt w W2 v' (l ++ [x]) := by
  refine ⟨?_, below_grown h.gb hg2 (fun k e => (World.ownsRow.lt h.row k e).1) h.gb.size⟩
  unfold Own
  rw [List.length_append, List.map_append]
  exact hr

end Go.Proofs.YtbnljabeccebiaaGreat

/- flat.Search. -/
namespace Go.Proofs.YtbnljabeccebiaaGreat
open Go.RowKit Go.Sort

theorem grown_setCell (w : World) (p : Addr) (u : Value) : w.grownBy (w.setCell p u) (some p.block) :=
  ⟨rfl, rfl, rfl, by simp [World.setCell], fun k _ hn => Below.heap_setCell _ _ _ _ (by rintro rfl; exact hn rfl)⟩

/-- Rows that were not looked at, in memory from B on. -/
def RestAt (w : World) (B : Nat) (v : Value) (rs : List Rw) : Prop := (rs = [] ∧ v = .slice none 0 0) ∨ rs ≠ [] ∧ ∃ vi g, v = .slice (some ⟨g, 0, none⟩) 1 1 ∧ B ≤ g ∧
  w.heap[g]? = some (.cells #[.int .i64 1, .slice none 0 0, .slice none 0 0, .int .u64 0, .int .u64 0, vi] 101 (0, 0)) ∧ Own w B vi (srt (idsOf rs))
theorem RestAt.grown {w w' : World} {B : Nat} {v : Value} {rs : List Rw} {b : Nat} (h : RestAt w B v rs) (g : w.grownBy w' (some b)) (hb : b < B) : RestAt w' B v rs := by
  rcases h with h | ⟨h0, vi, x, h1, h2, h3, h4⟩
  · exact .inl h
  · refine .inr ⟨h0, vi, x, h1, h2, (g.block x (Array.getElem?_eq_some_iff.1 h3).1 (by simp; omega)).trans h3, h4.kept g (.inr fun e => ?_)⟩
    have := (World.ownsRow.lt h4 b e).1
    omega
/-- An answer: hits, ids that were seen, the rest; each in memory of its own. -/
def AnsB (w w' : World) (B1 B2 : Nat) (vh vs vr : Value) (rs : List Rw) (q : List Int) (k c : Nat) : Prop := w.heap.size ≤ B1 ∧ B1 ≤ B2 ∧ B2 ≤ w'.heap.size ∧ Gb w w' ∧ Tk.Own w' vh (Tk.firsts k (hitsOf q (rs.take c))).toArray ∧
  (∀ g, vh.ownBlock = some g → w.heap.size ≤ g ∧ g < B1) ∧ Own w' B1 vs (srt (idsOf (rs.take c))) ∧ (∀ g, vs.ownBlock = some g → g < B2) ∧ RestAt w' B2 vr (rs.drop c)
theorem AnsB.set {w w' : World} {B1 B2 : Nat} {vh vs vr : Value} {rs : List Rw} {q : List Int} {k c : Nat} (h : AnsB w w' B1 B2 vh vs vr rs q k c) (hne : vh.ownBlock ≠ some w.heap.size) (h1 : vs.ownBlock ≠ some w.heap.size) (h2 : w.heap.size < B2) (o : Nat) (u : Value) :
    AnsB w (w'.setCell ⟨w.heap.size, o, none⟩ u) B1 B2 vh vs vr rs q k c := by
  obtain ⟨b1, b2, b3, g, t, b4, b5, b6, b7⟩ := h
  have gs := grown_setCell w' ⟨w.heap.size, o, none⟩ u
  refine ⟨b1, b2, by have := gs.size; omega, gb_set g (Nat.le_refl _) u, ?_, b4, b5.kept gs (.inr h1), b6, b7.grown gs h2⟩
  exact Tk.own_kp t (Tk.Kp.grown gs) fun x hx e => hne (by rw [hx, e])

end Go.Proofs.YtbnljabeccebiaaGreat

/- The law's big, and Before; the laws' statements in plain words. -/
namespace Go.Proofs.YtbnljabeccebiaaGreat
open Go.RowKit Go.Sort

end Go.Proofs.YtbnljabeccebiaaGreat
