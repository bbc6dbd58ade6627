import Derived.Test.YtdmdjmliggjbjaaGreatCtReg
import Derived.Test.YtdmdjmliggjbjaaGreatCt23
import Derived.Test.YtdmdjmliggjbjaaGreatCtFRefH
import Derived.Test.YtdmdjmliggjbjaaGreatCtRNear
import Derived.Test.YtdmdjmliggjbjaaGreatCt19
/- Slices of regions as they are read. -/
namespace Go.Proofs.YtdmdjmliggjbjaaGreat
open Go.RowKit Go.Sort

/-- A slice that reads as these regions. -/
def RdL (w : World) (v : Value) (l : List Reg) : Prop := ∃ a cap, v = .slice a l.length cap ∧ ∀ i (hi' : i < l.length), ∃ b o vl vh vi, a = some ⟨b, o, none⟩ ∧
  w.cell? ⟨b, o + i * 6, none⟩ = some (.int .i64 l[i].S) ∧ w.cell? ⟨b, o + i * 6 + 1, none⟩ = some vl ∧ w.cell? ⟨b, o + i * 6 + 2, none⟩ = some vh ∧ w.cell? ⟨b, o + i * 6 + 3, none⟩ = some (.int .u64 (hi l[i].R)) ∧
  w.cell? ⟨b, o + i * 6 + 4, none⟩ = some (.int .u64 (lo l[i].R)) ∧ w.cell? ⟨b, o + i * 6 + 5, none⟩ = some vi ∧ RdI w vl l[i].L ∧ RdI w vh l[i].H ∧ RdI w vi l[i].I
theorem RdL.gb {w w' : World} {v : Value} {l : List Reg} (h : RdL w v l) (g : Gb w w') : RdL w' v l := by
  obtain ⟨a, cap, e, h⟩ := h
  refine ⟨a, cap, e, fun i hi' => ?_⟩
  obtain ⟨b, o, vl, vh, vi, e0, c0, c1, c2, c3, c4, c5, r1, r2, r3⟩ := h i hi'
  exact ⟨b, o, vl, vh, vi, e0, gb_keeps g c0, gb_keeps g c1, gb_keeps g c2, gb_keeps g c3, gb_keeps g c4, gb_keeps g c5, r1.gb g, r2.gb g, r3.gb g⟩
theorem rdl_nil (w : World) : RdL w (.slice none 0 0) [] := ⟨none, 0, rfl, fun _ hi' => absurd hi' (Nat.not_lt_zero _)⟩
end Go.Proofs.YtdmdjmliggjbjaaGreat

/- Answers as they are read; what a sound answer is. -/
namespace Go.Proofs.YtdmdjmliggjbjaaGreat
open Go.RowKit Go.Sort

/-- An answer, plainly. -/
structure Ans where
  hits : List Tk.Ht
  seen : List Int
  rest : List Reg
/-- The parts of an answer's value read as this answer. -/
structure RdA (w : World) (vh vs vr : Value) (a : Ans) : Prop where
  hits : Tk.Rd w vh a.hits
  seen : RdI w vs a.seen
  rest : RdL w vr a.rest
theorem RdA.gb {w w' : World} {vh vs vr : Value} {a : Ans} (h : RdA w vh vs vr a) (g : Gb w w') : RdA w' vh vs vr a := ⟨h.hits.gr g, h.seen.gb g, h.rest.gb g⟩
/-- All ids of an answer. -/
def allIds (a : Ans) : List Int := a.seen ++ a.rest.flatMap (·.I)
/-- An answer that is sound; srs: the rows that were seen, in the order of their ids. -/
structure SoundP (rs : List Rw) (q : List Int) (k : Nat) (a : Ans) (srs : List Rw) : Prop where
  ids : idsOf srs = a.seen
  mem : ∀ r ∈ srs, r ∈ rs
  rise : ∀ i, i + 1 < a.seen.length → a.seen[i]! < a.seen[i + 1]!
  reg : ∀ r ∈ a.rest, ckR r (q.length : Int) = 0 ∧ r.I ≠ [] ∧ r.R < 340282366920938463463374607431768211456 ∧ ∀ x ∈ r.I, ∃ row ∈ rs, row.1 = x ∧ inV r row.2 = true
  hits : a.hits = Tk.firsts k (hitsOf q srs)
  all : (allIds a).Perm (idsOf rs)
end Go.Proofs.YtdmdjmliggjbjaaGreat

/- The reference's Near and Bound. -/
namespace Go.Proofs.YtdmdjmliggjbjaaGreat
open Go.RowKit

theorem rnear_c {w : World} {v u : Value} {r : Reg} {a : List Int} (hv : RdR w v r) (hu : RdI w u a) (h0 : ckB r a = 0) (hR : r.R < 340282366920938463463374607431768211456) :
    Calls Tryz.prog 53 #[v, u] w fun e w' => e = .returned (Wd (bdV r a)) ∧ Gr w w' := by
  by_cases s2 : r.S = 2
  · exact rnear_box hv hu h0 s2
  by_cases s3 : r.S = 3
  · exact rnear_ball hv hu h0 hR s3
  · exact rnear_all hv hu s2 s3

end Go.Proofs.YtdmdjmliggjbjaaGreat

/- The reference's Ints and Same. -/
namespace Go.Proofs.YtdmdjmliggjbjaaGreat
open Go.RowKit Go.Sort Go.Maps

set_option maxHeartbeats 2000000 in
set_option maxRecDepth 100000 in
theorem rints_c {w : World} {u v : Value} {l m : List Int} (hu : RdI w u l) (hv : RdI w v m) (hlen : l.length ≤ 4611686018427387904) :
    Calls Tryz.prog 51 #[u, v] w fun e w' => e = .returned (.bool (decide (l = m))) ∧ Gr w w' := by
  obtain ⟨a, ca, rfl, ha⟩ := hu
  obtain ⟨b, cb, rfl, hb⟩ := hv
  by_cases hlm : l.length = m.length
  · have A : Hid (∀ i, i < l.length → ∃ b o, a = some ⟨b, o, none⟩ ∧ w.cell? ⟨b, o + i, none⟩ = some (.int .i64 l[i]!)) := ha
    have B : Hid (∀ i, i < m.length → ∃ b' o, b = some ⟨b', o, none⟩ ∧ w.cell? ⟨b', o + i, none⟩ = some (.int .i64 m[i]!)) := hb
    have L : Hid (l.length = m.length) := hlm
    rw [← hlm]
    obtain ⟨n, hN⟩ : ∃ n, n = l.length := ⟨_, rfl⟩
    have N : Hid (n = l.length) := hN
    rw [← hN] at hlen ⊢
    clear ha hb hlm hN
    go_enter Tryz.func51, Tryz.ntmps51
    go_wp2
    go_loopw [5] (fun iv w' => ∃ q : Nat, iv = .int .i64 (q : Int) ∧ q ≤ n ∧ Hid (l.take q = m.take q ∧ Gr w w')) (fun iv _ => n - (intOf iv).toNat)
    case atStart => exact ⟨0, rfl, Nat.zero_le _, ⟨by simp, Gr.refl _⟩⟩
    case round =>
      obtain ⟨q, rfl, hq, X⟩ := hrel
      by_cases hqn : q < n
      · have hql : q < l.length := by have := N.out; omega
        have hqm : q < m.length := by have := L.out; omega
        obtain ⟨b1, o1, ea, h1⟩ := A.out q hql
        obtain ⟨b2, o2, eb, h2⟩ := B.out q hqm
        subst ea; subst eb
        have h1 := X.out.2.keeps h1
        have h2 := X.out.2.keeps h2
        by_cases hxy : l[q]! = m[q]!
        · have R : Hid (l.take (q + 1) = m.take (q + 1)) := by unfold Hid; rw [take_snoc hql, take_snoc hqm, X.out.1, hxy]
          rw [hxy] at h1
          generalize m[q]! = x at *
          clear hxy hql hqm
          go_wp2
          go_quiet (fail)
          go_wp2
          go_roundw
          case rel => exact ⟨q + 1, by simp, hqn, R.out, X.out.2.drewN _⟩
          case measure => simp [intOf]; omega
        · have R : Hid (decide (l = m) = false) := decide_eq_false (fun e => hxy (by rw [e]))
          have hne : (l[q]! == m[q]!) = false := by rw [beq_eq_false_iff_ne]; exact hxy
          generalize l[q]! = x at *
          generalize m[q]! = y at *
          clear hxy hql hqm
          go_wp2
          go_quiet (fail)
          go_wp2
          go_ret
          exact ⟨by rw [R.out]; rfl, X.out.2.drewN _⟩
      · have R : Hid (decide (l = m) = true) := by
          have e := X.out.1
          have h1 := N.out
          have h2 := L.out
          rw [List.take_of_length_le (by omega), List.take_of_length_le (by omega)] at e
          exact decide_eq_true e
        go_wp2
        go_ret
        exact ⟨by rw [R.out]; rfl, X.out.2⟩
  · have R : Hid (decide (l = m) = false) := decide_eq_false (fun e => hlm (by rw [e]))
    have hne : ((l.length : Int) == (m.length : Int)) = false := by rw [beq_eq_false_iff_ne]; omega
    generalize l.length = n1 at *
    generalize m.length = n2 at *
    clear ha hb hlm
    go_enter Tryz.func51, Tryz.ntmps51
    go_wp2
    go_ret
    exact ⟨by rw [R.out]; rfl, Gr.refl _⟩
theorem rints_v {w : World} {u v : Value} {l m : List Int} (hu : RdI w u l) (hv : RdI w v m) (hlen : l.length ≤ 4611686018427387904) (r : Bool) (hr : decide (l = m) = r) :
    Calls Tryz.prog 51 #[u, v] w fun e w' => e = .returned (.bool r) ∧ Gr w w' := by
  subst hr; exact rints_c hu hv hlen

theorem wd_same (a b : Int) (W : World) : (binOp .eql 41 (.agg #[.int .u64 a, .int .u64 b]) (.agg #[.int .u64 a, .int .u64 b])).run Tryz.prog W = .ok (.bool true) W := by
  rw [wd_run]; simp
end Go.Proofs.YtdmdjmliggjbjaaGreat

/- theodolitekeep.Region and Answer: of two that read as the same. -/
namespace Go.Proofs.YtdmdjmliggjbjaaGreat
open Go.RowKit Go.Sort

set_option maxHeartbeats 4000000 in
set_option maxRecDepth 100000 in
theorem kregion_c {w : World} {u v : Value} {r : Reg} (hu : RdR w u r) (hv : RdR w v r) (hL : r.L.length ≤ 4611686018427387904) (hH : r.H.length ≤ 4611686018427387904) (hI : r.I.length ≤ 4611686018427387904) :
    Calls Tryz.prog 28 #[u, v] w fun e w' => e = .returned (.bool true) ∧ Gr w w' := by
  obtain ⟨l1, h1, i1, rfl, a1, b1, d1⟩ := hu
  obtain ⟨l2, h2, i2, rfl, a2, b2, d2⟩ := hv
  have cL := fun W (g : Gr w W) => ints_v (a1.gb g.gb) (a2.gb g.gb) hL true (by simp)
  have cH := fun W (g : Gr w W) => ints_v (b1.gb g.gb) (b2.gb g.gb) hH true (by simp)
  have cI := fun W (g : Gr w W) => ints_v (d1.gb g.gb) (d2.gb g.gb) hI true (by simp)
  have hw := fun W => wd_same (hi r.R) (lo r.R) W
  have G0 : Gr w ((w.alloc (.cells #[.int .i64 r.S, l1, h1, .int .u64 (hi r.R), .int .u64 (lo r.R), i1] 48)).alloc (.cells #[.int .i64 r.S, l2, h2, .int .u64 (hi r.R), .int .u64 (lo r.R), i2] 48)) := ((Gr.refl _).alloc _ _).alloc _ _
  obtain ⟨p1, q1, rfl, _⟩ := a1
  obtain ⟨p2, q2, rfl, _⟩ := a2
  obtain ⟨p3, q3, rfl, _⟩ := b1
  obtain ⟨p4, q4, rfl, _⟩ := b2
  obtain ⟨p5, q5, rfl, _⟩ := d1
  obtain ⟨p6, q6, rfl, _⟩ := d2
  generalize r.L.length = nl at *
  generalize r.H.length = nh at *
  generalize r.I.length = ni at *
  go_enter Tryz.func28, Tryz.ntmps28
  go_wp2_with fail
  refine (cL _ G0).mono ?_
  rintro e w1 ⟨rfl, g1⟩
  have k2 := g1.keeps (p := ⟨w.heap.size, 2, none⟩) (v := .slice p3 nh q3) (by simp [go_sem])
  have k3 := g1.keeps (p := ⟨w.heap.size + 1, 2, none⟩) (v := .slice p4 nh q4) (by simp [go_sem])
  have k4 := g1.keeps (p := ⟨w.heap.size, 5, none⟩) (v := .slice p5 ni q5) (by simp [go_sem])
  have k5 := g1.keeps (p := ⟨w.heap.size + 1, 5, none⟩) (v := .slice p6 ni q6) (by simp [go_sem])
  have G1 := G0.trans g1
  clear G0 g1
  go_wp2_with fail
  refine (cH _ G1).mono ?_
  rintro e w2 ⟨rfl, g2⟩
  replace k4 := g2.keeps k4
  replace k5 := g2.keeps k5
  have G2 := G1.trans g2
  clear G1 g2
  go_wp2_with fail
  refine (cI _ G2).mono ?_
  rintro e w3 ⟨rfl, g3⟩
  go_wp2
  go_ret
  exact ⟨rfl, G2.trans g3⟩
/-- What the region holds while it draws: two variables' lists, two regions' cells. -/
structure Tw (W : World) (B : Nat) (va vb : Value) (p r : Addr) (S x1 x2 x3 y1 y2 y3 R1 R2 : Value) : Prop where
  v0 : W.cell? ⟨B, 2, none⟩ = some va
  v1 : W.cell? ⟨B + 1, 2, none⟩ = some vb
  a0 : W.cell? p = some S
  a1 : W.cell? ⟨p.block, p.off + 1, none⟩ = some x1
  a2 : W.cell? ⟨p.block, p.off + 2, none⟩ = some x2
  a3 : W.cell? ⟨p.block, p.off + 3, none⟩ = some R1
  a4 : W.cell? ⟨p.block, p.off + 4, none⟩ = some R2
  a5 : W.cell? ⟨p.block, p.off + 5, none⟩ = some x3
  b0 : W.cell? r = some S
  b1 : W.cell? ⟨r.block, r.off + 1, none⟩ = some y1
  b2 : W.cell? ⟨r.block, r.off + 2, none⟩ = some y2
  b3 : W.cell? ⟨r.block, r.off + 3, none⟩ = some R1
  b4 : W.cell? ⟨r.block, r.off + 4, none⟩ = some R2
  b5 : W.cell? ⟨r.block, r.off + 5, none⟩ = some y3
theorem Tw.gb {W W' : World} {B : Nat} {va vb : Value} {p r : Addr} {S x1 x2 x3 y1 y2 y3 R1 R2 : Value} (h : Tw W B va vb p r S x1 x2 x3 y1 y2 y3 R1 R2) (g : Gb W W') : Tw W' B va vb p r S x1 x2 x3 y1 y2 y3 R1 R2 :=
  ⟨gb_keeps g h.v0, gb_keeps g h.v1, gb_keeps g h.a0, gb_keeps g h.a1, gb_keeps g h.a2, gb_keeps g h.a3, gb_keeps g h.a4, gb_keeps g h.a5, gb_keeps g h.b0, gb_keeps g h.b1, gb_keeps g h.b2, gb_keeps g h.b3, gb_keeps g h.b4, gb_keeps g h.b5⟩
/-- What bounds an answer's lists. -/
structure Few (a : Ans) : Prop where
  hits : a.hits.length ≤ 4000
  seen : a.seen.length ≤ 4611686018427387904
  rest : a.rest.length ≤ 4611686018427387904
  reg : ∀ r ∈ a.rest, r.L.length ≤ 4611686018427387904 ∧ r.H.length ≤ 4611686018427387904 ∧ r.I.length ≤ 4611686018427387904

set_option maxRecDepth 100000 in
set_option maxHeartbeats 2000000 in
theorem kanswer_c {w : World} {vh vs vr uh us ur : Value} {a : Ans} (ha : RdA w vh vs vr a) (hb : RdA w uh us ur a) (few : Few a) :
    Calls Tryz.prog 14 #[.agg #[vh, vs, vr], .agg #[uh, us, ur]] w fun e w' => e = .returned (.bool true) ∧ Gb w w' := by
  have A : Hid (RdA w vh vs vr a) := ha
  have B : Hid (RdA w uh us ur a) := hb
  have FW : Hid (Few a) := few
  obtain ⟨W1, hW1⟩ : ∃ W1, W1 = (w.alloc (.cells #[vh, vs, vr] 27)).alloc (.cells #[uh, us, ur] 27) := ⟨_, rfl⟩
  have G0 : Hid (Gb w W1) := by unfold Hid; rw [hW1]; exact gb_alloc (gb_alloc (Below.refl _ _) _) _
  have BX : Hid ((W1.cell? ⟨w.heap.size, 0, none⟩ = some vh ∧ W1.cell? ⟨w.heap.size, 1, none⟩ = some vs ∧ W1.cell? ⟨w.heap.size, 2, none⟩ = some vr) ∧ W1.cell? ⟨w.heap.size + 1, 0, none⟩ = some uh ∧ W1.cell? ⟨w.heap.size + 1, 1, none⟩ = some us ∧ W1.cell? ⟨w.heap.size + 1, 2, none⟩ = some ur) := by
    unfold Hid; rw [hW1]; exact ⟨⟨by simp [go_sem], by simp [go_sem], by simp [go_sem]⟩, by simp [go_sem], by simp [go_sem], by simp [go_sem]⟩
  have ch := Tk.same_c (ha.hits.gr G0.out) (hb.hits.gr G0.out) few.hits
  have ci := fun W (g : Gb w W) => ints_v (ha.seen.gb g) (hb.seen.gb g) few.seen true (by simp)
  simp only [decide_true] at ch
  obtain ⟨ah, c1, evh, _⟩ := ha.hits.form
  obtain ⟨sa, c2, evs, _⟩ := ha.seen
  obtain ⟨ar, cr, evr, _⟩ := ha.rest
  obtain ⟨bh, d1, euh, _⟩ := hb.hits.form
  obtain ⟨bs, d2, eus, _⟩ := hb.seen
  obtain ⟨br, er, eur, _⟩ := hb.rest
  subst evh; subst evs; subst evr; subst euh; subst eus; subst eur
  clear ha hb few
  obtain ⟨nh, hnh⟩ : ∃ nh, nh = a.hits.length := ⟨_, rfl⟩
  obtain ⟨ns, hns⟩ : ∃ ns, ns = a.seen.length := ⟨_, rfl⟩
  obtain ⟨nr, hnr⟩ : ∃ nr, nr = a.rest.length := ⟨_, rfl⟩
  have NR : Hid (nr = a.rest.length) := hnr
  rw [← hnh, ← hns, ← hnr] at A B BX hW1 ⊢
  rw [← hnh] at ch
  simp only [← hns] at ci
  have hrl : nr ≤ 4611686018427387904 := by rw [hnr]; exact FW.out.rest
  clear hnh hns hnr
  go_enter Tryz.func14, Tryz.ntmps14
  go_wp2_with fail
  rw [← hW1]
  clear hW1
  obtain ⟨⟨x0, x1, x2⟩, y0, y1, y2⟩ := BX.out
  go_wp2_with fail
  refine ch.mono ?_
  rintro e w2 ⟨rfl, g2⟩
  have G2 : Hid (Gb W1 w2) := g2
  clear ch g2 x0 x1 x2 y0 y1 y2
  obtain ⟨⟨x0, x1, x2⟩, y0, y1, y2⟩ := BX.out
  have x1 := gb_keeps G2.out x1
  have y1 := gb_keeps G2.out y1
  clear x0 x2 y0 y2
  go_wp2_with fail
  refine (ci _ (gb_trans G0.out G2.out)).mono ?_
  rintro e w3 ⟨rfl, g3⟩
  have G3 : Hid (Gb W1 w3) := gb_trans G2.out g3.gb
  clear ci g3 x1 y1 G2
  obtain ⟨⟨x0, x1, x2⟩, y0, y1, y2⟩ := BX.out
  have x2 := gb_keeps G3.out x2
  have y2 := gb_keeps G3.out y2
  clear x0 x1 y0 y1
  go_wp2
  clear x2 y2
  go_loopw [5] (fun iv W => ∃ p : Nat, iv = .int .i64 (p : Int) ∧ p ≤ nr ∧ Hid (Gb W1 W)) (fun iv _ => nr - (intOf iv).toNat)
  case atStart => exact ⟨0, rfl, Nat.zero_le _, G3⟩
  case round =>
    obtain ⟨p, rfl, hp, X⟩ := hrel
    obtain ⟨⟨x0, x1, x2⟩, y0, y1, y2⟩ := BX.out
    have x2 := gb_keeps X.out x2
    have y2 := gb_keeps X.out y2
    clear x0 x1 y0 y1
    by_cases hpn : p < nr
    · have hpi : (p : Int) < (nr : Int) := by omega
      have hpl : p < a.rest.length := by have := NR.out; omega
      obtain ⟨_, _, ea, hA⟩ := A.out.rest
      obtain ⟨b1, o1, x1, x2', x3, e1, a0, a1, a2, a3, a4, a5, r1, r2, r3⟩ := hA p hpl
      obtain ⟨_, _, eb, hB⟩ := B.out.rest
      obtain ⟨b2, o2, y1, y2', y3, e2, k0, k1, k2, k3, k4, k5, t1, t2, t3⟩ := hB p hpl
      injection ea with ea1 ea2 ea3
      injection eb with eb1 eb2 eb3
      subst ea1; subst eb1; subst e1; subst e2
      clear hA hB ea2 ea3 eb2 eb3
      have fw := FW.out.reg _ (List.getElem_mem hpl)
      have GX : Hid (Gb w wr.drew) := (gb_trans G0.out X.out).drew
      have cr' := fun W (g : Gb w W) => kregion_c (r := a.rest[p]) ⟨x1, x2', x3, rfl, r1.gb g, r2.gb g, r3.gb g⟩ ⟨y1, y2', y3, rfl, t1.gb g, t2.gb g, t3.gb g⟩ fw.1 fw.2.1 fw.2.2
      have FS0 : Tw wr.drew w.heap.size (.slice (some ⟨b1, o1, none⟩) nr cr) (.slice (some ⟨b2, o2, none⟩) nr er) ⟨b1, o1 + p * 6, none⟩ ⟨b2, o2 + p * 6, none⟩ (.int .i64 a.rest[p].S) x1 x2' x3 y1 y2' y3 (.int .u64 (hi a.rest[p].R)) (.int .u64 (lo a.rest[p].R)) :=
        ⟨x2, y2, gb_keeps GX.out a0, gb_keeps GX.out a1, gb_keeps GX.out a2, gb_keeps GX.out a3, gb_keeps GX.out a4, gb_keeps GX.out a5, gb_keeps GX.out k0, gb_keeps GX.out k1, gb_keeps GX.out k2, gb_keeps GX.out k3, gb_keeps GX.out k4, gb_keeps GX.out k5⟩
      obtain ⟨u1, u2, e, z0⟩ := r1; subst e
      obtain ⟨u3, u4, e, z1⟩ := r2; subst e
      obtain ⟨u5, u6, e, z2⟩ := r3; subst e
      obtain ⟨u7, u8, e, z3⟩ := t1; subst e
      obtain ⟨u9, u10, e, z4⟩ := t2; subst e
      obtain ⟨u11, u12, e, z5⟩ := t3; subst e
      dsimp only [rv] at cr'
      generalize Value.slice u1 _ u2 = x1 at *
      generalize Value.slice u3 _ u4 = x2' at *
      generalize Value.slice u5 _ u6 = x3 at *
      generalize Value.slice u7 _ u8 = y1 at *
      generalize Value.slice u9 _ u10 = y2' at *
      generalize Value.slice u11 _ u12 = y3 at *
      generalize Value.int .i64 a.rest[p].S = S at *
      generalize Value.int .u64 (hi a.rest[p].R) = R1 at *
      generalize Value.int .u64 (lo a.rest[p].R) = R2 at *
      clear z0 z1 z2 z3 z4 z5 a0 a1 a2 a3 a4 a5 k0 k1 k2 k3 k4 k5 fw hpl
      go_wp2_with fail
      refine wp_region_held_drew (S := fun W => Tw W w.heap.size (.slice (some ⟨b1, o1, none⟩) nr cr) (.slice (some ⟨b2, o2, none⟩) nr er) ⟨b1, o1 + p * 6, none⟩ ⟨b2, o2 + p * 6, none⟩ S x1 x2' x3 y1 y2' y3 R1 R2) (by kernel_rfl) (FS0) (fun hHeld => ?_)
      refine wpAnyH_take (i := 0) (v := ?_) rfl (by kernel_rfl) (by kernel_rfl) (by kernel_rfl) (fun _ _ _ h => h) (Or.inl ⟨by rfl, ?_⟩) (by assumption) ?_
      rotate_left 1
      · (intro w hSw; (obtain ⟨s0, s1, s2, s3, s4, s5, s6, s7, s8, s9, s10, s11, s12, s13⟩ := hSw); go_simp; try with_reducible rfl)
      try simp only [Act.put, List.getElem_toArray, List.getElem_cons_zero, List.setIfInBounds_toArray, List.set_cons_zero, List.set_cons_succ]
      refine wpAnyH_take (i := 1) (v := ?_) rfl (by kernel_rfl) (by kernel_rfl) (by kernel_rfl) (fun _ _ _ h => h) (Or.inl ⟨by rfl, ?_⟩) (by assumption) ?_
      rotate_left 1
      · (intro w hSw; (obtain ⟨s0, s1, s2, s3, s4, s5, s6, s7, s8, s9, s10, s11, s12, s13⟩ := hSw); go_simp; try with_reducible rfl)
      try simp only [Act.put, List.getElem_toArray, List.getElem_cons_zero, List.getElem_cons_succ, List.setIfInBounds_toArray, List.set_cons_zero, List.set_cons_succ]
      refine wpAnyH_take (i := 2) (v := ?_) rfl (by kernel_rfl) (by kernel_rfl) (by kernel_rfl) (fun _ _ _ h => h) (Or.inl ⟨by rfl, ?_⟩) (by assumption) ?_
      rotate_left 1
      · (intro w hSw; (obtain ⟨s0, s1, s2, s3, s4, s5, s6, s7, s8, s9, s10, s11, s12, s13⟩ := hSw); go_simp; try with_reducible rfl)
      try simp only [Act.put, List.getElem_toArray, List.getElem_cons_zero, List.getElem_cons_succ, List.setIfInBounds_toArray, List.set_cons_zero, List.set_cons_succ]
      refine wpAnyH_take (i := 3) (v := ?_) rfl (by kernel_rfl) (by kernel_rfl) (by kernel_rfl) (fun _ _ _ h => h) (Or.inl ⟨by rfl, ?_⟩) (by assumption) ?_
      rotate_left 1
      · (intro w hSw; (obtain ⟨s0, s1, s2, s3, s4, s5, s6, s7, s8, s9, s10, s11, s12, s13⟩ := hSw); go_simp; try with_reducible rfl)
      try simp only [Act.put, List.getElem_toArray, List.getElem_cons_zero, List.getElem_cons_succ, List.setIfInBounds_toArray, List.set_cons_zero, List.set_cons_succ]
      refine wpAnyH_take (i := 4) (v := ?_) rfl (by kernel_rfl) (by kernel_rfl) (by kernel_rfl) (fun _ _ _ h => h) (Or.inl ⟨by rfl, ?_⟩) (by assumption) ?_
      rotate_left 1
      · (intro w hSw; (obtain ⟨s0, s1, s2, s3, s4, s5, s6, s7, s8, s9, s10, s11, s12, s13⟩ := hSw); go_simp; try with_reducible rfl)
      try simp only [Act.put, List.getElem_toArray, List.getElem_cons_zero, List.getElem_cons_succ, List.setIfInBounds_toArray, List.set_cons_zero, List.set_cons_succ]
      refine wpAnyH_take (i := 5) (v := ?_) rfl (by kernel_rfl) (by kernel_rfl) (by kernel_rfl) (fun _ _ _ h => h) (Or.inl ⟨by rfl, ?_⟩) (by assumption) ?_
      rotate_left 1
      · (intro w hSw; (obtain ⟨s0, s1, s2, s3, s4, s5, s6, s7, s8, s9, s10, s11, s12, s13⟩ := hSw); go_simp; try with_reducible rfl)
      try simp only [Act.put, List.getElem_toArray, List.getElem_cons_zero, List.getElem_cons_succ, List.setIfInBounds_toArray, List.set_cons_zero, List.set_cons_succ]
      refine wpAnyH_take (i := 6) (v := ?_) rfl (by kernel_rfl) (by kernel_rfl) (by kernel_rfl) (fun _ _ _ h => h) (Or.inl ⟨by rfl, ?_⟩) (by assumption) ?_
      rotate_left 1
      · (intro w hSw; (obtain ⟨s0, s1, s2, s3, s4, s5, s6, s7, s8, s9, s10, s11, s12, s13⟩ := hSw); go_simp; try with_reducible rfl)
      try simp only [Act.put, List.getElem_toArray, List.getElem_cons_zero, List.getElem_cons_succ, List.setIfInBounds_toArray, List.set_cons_zero, List.set_cons_succ]
      refine wpAnyH_take (i := 7) (v := ?_) rfl (by kernel_rfl) (by kernel_rfl) (by kernel_rfl) (fun _ _ _ h => h) (Or.inl ⟨by rfl, ?_⟩) (by assumption) ?_
      rotate_left 1
      · (intro w hSw; (obtain ⟨s0, s1, s2, s3, s4, s5, s6, s7, s8, s9, s10, s11, s12, s13⟩ := hSw); go_simp; try with_reducible rfl)
      try simp only [Act.put, List.getElem_toArray, List.getElem_cons_zero, List.getElem_cons_succ, List.setIfInBounds_toArray, List.set_cons_zero, List.set_cons_succ]
      refine wpAnyH_take (i := 8) (v := ?_) rfl (by kernel_rfl) (by kernel_rfl) (by kernel_rfl) (fun _ _ _ h => h) (Or.inl ⟨by rfl, ?_⟩) (by assumption) ?_
      rotate_left 1
      · (intro w hSw; (obtain ⟨s0, s1, s2, s3, s4, s5, s6, s7, s8, s9, s10, s11, s12, s13⟩ := hSw); go_simp; try with_reducible rfl)
      try simp only [Act.put, List.getElem_toArray, List.getElem_cons_zero, List.getElem_cons_succ, List.setIfInBounds_toArray, List.set_cons_zero, List.set_cons_succ]
      refine wpAnyH_take (i := 9) (v := ?_) rfl (by kernel_rfl) (by kernel_rfl) (by kernel_rfl) (fun _ _ _ h => h) (Or.inl ⟨by rfl, ?_⟩) (by assumption) ?_
      rotate_left 1
      · (intro w hSw; (obtain ⟨s0, s1, s2, s3, s4, s5, s6, s7, s8, s9, s10, s11, s12, s13⟩ := hSw); go_simp; try with_reducible rfl)
      try simp only [Act.put, List.getElem_toArray, List.getElem_cons_zero, List.getElem_cons_succ, List.setIfInBounds_toArray, List.set_cons_zero, List.set_cons_succ]
      refine wpAnyH_ready (rs := [10]) (by kernel_rfl) (by simp) ?_
      refine AllReadyH.cons rfl (fun K hK => ?_) AllReadyH.nil
      go_simp
      refine (cr' _ GX.out).mono ?_
      rintro e w4 ⟨rfl, g4⟩
      refine hK.out _ _ (hHeld.gb g4.gb) (fun hHeld => ?_)
      clear hK K
      try simp only [Act.put, List.getElem_toArray, List.getElem_cons_zero, List.getElem_cons_succ, List.setIfInBounds_toArray, List.set_cons_zero, List.set_cons_succ]
      refine wpAnyH_take (i := 11) (v := ?_) rfl (by kernel_rfl) (by kernel_rfl) (by kernel_rfl) (fun _ _ _ h => h) (Or.inl ⟨by rfl, ?_⟩) (by assumption) ?_
      rotate_left 1
      · (intro w hSw; (obtain ⟨s0, s1, s2, s3, s4, s5, s6, s7, s8, s9, s10, s11, s12, s13⟩ := hSw); go_simp; try with_reducible rfl)
      try simp only [Act.put, List.getElem_toArray, List.getElem_cons_zero, List.getElem_cons_succ, List.setIfInBounds_toArray, List.set_cons_zero, List.set_cons_succ]
      refine wpAnyH_done (by kernel_rfl) ?_ _
      go_wp2
      go_roundw
      case rel => exact ⟨p + 1, by first | rfl | go_num | simp, hpn, gb_trans X.out.drew g4.gb⟩
      case measure => simp [intOf]; omega
    · have hpi : ¬ (p : Int) < (nr : Int) := by omega
      have G : Hid (Gb w wr) := gb_trans G0.out X.out
      go_wp2
      go_ret
      exact ⟨rfl, G.out⟩
end Go.Proofs.YtdmdjmliggjbjaaGreat
