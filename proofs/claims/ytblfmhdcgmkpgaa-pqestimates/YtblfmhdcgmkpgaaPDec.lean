/- pq.arePlaces, (*pq.Coder).Decode. -/
import Derived.Test.YtblfmhdcgmkpgaaPEnc
namespace Go.Proofs.Ytblfmhdcgmkpgaa
open Go.RowKit Go.Maps Go.Sort

/-- A bool that tells whether this is so. -/
def BoolOf (p : Prop) (w : World) (e : Ending) (w' : World) : Prop := (∃ b, e = .returned (.bool b) ∧ (b = true ↔ p)) ∧ w = w'
theorem BoolOf.yes {p : Prop} {w : World} (h : p) : BoolOf p w (.returned (.bool true)) w := ⟨⟨true, rfl, fun _ => h, fun _ => rfl⟩, rfl⟩
theorem BoolOf.no {p : Prop} {w : World} (h : ¬ p) : BoolOf p w (.returned (.bool false)) w := ⟨⟨false, rfl, fun e => by (cases e), fun e => absurd e h⟩, rfl⟩
/-- A slice of slices that are so long. -/
def LsAt (w : World) (v : Value) (ns : List Nat) : Prop := ∃ a cap, v = .slice a ns.length cap ∧ ∀ i, i < ns.length → ∃ b o pu cu, a = some ⟨b, o, none⟩ ∧ w.cell? ⟨b, o + i, none⟩ = some (.slice pu ns[i]! cu)
theorem RdB.ls {w : World} {v : Value} {bs : List Vs} (h : RdB w v bs) : LsAt w v (lensV bs) := by
  obtain ⟨a, cap, e, h⟩ := h
  refine ⟨a, cap, by rw [lensV_len]; exact e, fun i hi => ?_⟩
  rw [lensV_len] at hi
  obtain ⟨b, o, u, e1, e2, e3⟩ := h i hi
  obtain ⟨pu, cu, rfl, _⟩ := e3
  exact ⟨b, o, pu, cu, e1, by rw [lensV_get bs hi]; exact e2⟩

set_option maxHeartbeats 1000000 in
set_option maxRecDepth 100000 in
theorem arePl_c {w : World} {cv lv : Value} {code : List Int} {ns : List Nat} (hc : RdI w cv code) (hl : LsAt w lv ns) (hlen : code.length ≤ 4611686018427387904) :
    Calls Try.prog 38 #[cv, lv] w fun e w' => BoolOf (Plc code ns) w e w' := by
  have A : Hid (RdI w cv code) := hc
  have B : Hid (LsAt w lv ns) := hl
  obtain ⟨ca, cc, rfl, _⟩ := hc
  obtain ⟨la, lc, rfl, _⟩ := hl
  by_cases he : code.length = ns.length
  · obtain ⟨n, hN⟩ : ∃ n, n = code.length := ⟨_, rfl⟩
    have N : Hid (n = code.length ∧ n = ns.length) := ⟨hN, by rw [hN, he]⟩
    rw [← he, ← hN] at B
    rw [← hN] at A hlen
    rw [← he, ← hN]
    clear he hN
    go_enter Try.func38, Try.ntmps38
    go_wp2
    go_loopw [14] (fun iv w' => ∃ q : Nat, iv = .int .i64 (q : Int) ∧ q ≤ n ∧ w = w' ∧ Hid (∀ i, i < q → 0 ≤ code[i]! ∧ code[i]! < (ns[i]! : Int))) (fun iv _ => n - (intOf iv).toNat)
    case atStart => exact ⟨0, rfl, Nat.zero_le _, rfl, fun i hi => absurd hi (Nat.not_lt_zero _)⟩
    case round =>
      obtain ⟨q, rfl, hq, rfl, X⟩ := hrel
      by_cases hqn : q < n
      · have hqi : (q : Int) < (n : Int) := by omega
        obtain ⟨_, _, e1, h1⟩ := A.out
        obtain ⟨b, o, ea, k1⟩ := h1 q (by have := N.out; omega)
        injection e1 with e11 e12 e13
        subst e11 ea
        obtain ⟨_, _, e2, h2⟩ := B.out
        obtain ⟨b', o', pu, cu, eb, k2⟩ := h2 q (by have := N.out; omega)
        injection e2 with e21 e22 e23
        subst e21 eb
        have NX : Hid ((0 ≤ code[q]! ∧ code[q]! < (ns[q]! : Int)) → ∀ i, i < q + 1 → 0 ≤ code[i]! ∧ code[i]! < (ns[i]! : Int)) := fun h i hi => by
          by_cases e : i = q
          · rw [e]; exact h
          · exact X.out i (by omega)
        have NO : Hid (¬ (0 ≤ code[q]! ∧ code[q]! < (ns[q]! : Int)) → ¬ Plc code ns) := fun h hp => h (hp.2 q (by have := N.out; omega))
        generalize code[q]! = y at *
        generalize ns[q]! = z at *
        clear h1 h2 e12 e13 e22 e23 X
        by_cases hy : y < 0
        · have F : Hid (¬ Plc code ns) := NO.out (by omega)
          clear NO NX
          go_wp2
          go_ret
          exact BoolOf.no F.out
        · by_cases hz : (z : Int) ≤ y
          · have F : Hid (¬ Plc code ns) := NO.out (by omega)
            clear NO NX
            go_wp2
            go_ret
            exact BoolOf.no F.out
          · have F := NX.out (by omega)
            have FF : Hid _ := F
            clear NO NX F
            go_wp2
            go_roundw
            case rel => exact ⟨q + 1, by first | rfl | go_num | simp, hqn, by first | rfl | trivial, FF⟩
            case measure => simp [intOf]; omega
      · have hqi : ¬ (q : Int) < (n : Int) := by omega
        have E : Hid (Plc code ns) := ⟨by have := N.out; omega, fun i hi => X.out i (by have := N.out; omega)⟩
        clear X
        go_wp2
        go_ret
        exact BoolOf.yes E.out
  · have F : Hid (¬ Plc code ns) := fun h => he h.1
    have hz : ¬ (code.length : Int) = (ns.length : Int) := by omega
    have hz1 : ((code.length : Int) == (ns.length : Int)) = false := by rw [beq_eq_false_iff_ne]; exact hz
    have hz2 : ((code.length : Int) != (ns.length : Int)) = true := by rw [bne_iff_ne]; exact hz
    generalize code.length = n at *
    generalize ns.length = n' at *
    clear A B he
    go_enter Try.func38, Try.ntmps38
    go_wp2
    go_ret
    exact BoolOf.no F.out

set_option maxHeartbeats 400000 in
theorem decode_nil (w : World) (a : Option Addr) (n c : Nat) :
    Calls Try.prog 18 #[.pointer none, .slice a n c] w fun e w' => e = .returned (.tuple #[.slice none 0 0, .int .i64 3]) ∧ w = w' := by
  go_enter Try.func18, Try.ntmps18
  go_wp2
  go_ret2
  exact ⟨rfl, rfl⟩
set_option maxHeartbeats 1000000 in
theorem decode_no {w : World} {p d : Nat} {bs : List Vs} {v : Value} {code : List Int} (hc : CodAt w p d bs) (hv : RdI w v code) (hlen : code.length ≤ 4611686018427387904) (hz : ¬ Plc code (lensV bs)) :
    Calls Try.prog 18 #[.pointer (some ⟨p, 0, none⟩), v] w fun e w' => e = .returned (.tuple #[.slice none 0 0, .int .i64 101]) ∧ w = w' := by
  obtain ⟨y0, bv, y1, rb⟩ := hc
  have ck := arePl_c hv rb.ls hlen
  obtain ⟨a, cap, rfl, _⟩ := hv
  obtain ⟨ba, bc, rfl, _⟩ := rb
  have HZ : Hid (¬ Plc code (lensV bs)) := hz
  generalize code.length = n at *
  generalize bs.length = n' at *
  clear hz
  go_enter Try.func18, Try.ntmps18
  go_wp2_with fail
  go_fit ck
  rintro e w' ⟨⟨b, rfl, hb⟩, e2⟩
  subst e2
  have eb : b = false := by
    cases b
    · rfl
    · exact absurd (hb.1 rfl) HZ.out
  subst eb
  clear ck hb
  go_wp2
  go_ret2
  exact ⟨rfl, rfl⟩
theorem ints_news {w : World} {b o n cap : Nat} {x : List Int} (h : RdI w (.slice (some ⟨b, o, none⟩) n cap) x) : ∀ j u, (x.map (Value.int .i64))[j]? = some u → w.cell? ((⟨b, o, none⟩ : Addr).add j) = some u := by
  intro j u hu
  obtain ⟨_, _, e, h⟩ := h
  rw [List.getElem?_map] at hu
  by_cases hj : j < x.length
  · rw [List.getElem?_eq_getElem hj] at hu
    obtain ⟨b', o', e1, e2⟩ := h j hj
    cases e
    cases e1
    rw [Addr.add_lit, e2, getElem!_pos x j hj]
    exact hu
  · rw [List.getElem?_eq_none (by omega)] at hu
    cases hu

set_option maxHeartbeats 4000000 in
set_option maxRecDepth 100000 in
theorem decode_ok {w : World} {p : Nat} {bs : List Vs} {m s k : Nat} {v : Value} {code : List Int} (hc : CodAt w p (m * s) bs) (hb : Bks bs m s k) (hv : RdI w v code) (hp : Plc code (lensV bs)) :
    Calls Try.prog 18 #[.pointer (some ⟨p, 0, none⟩), v] w fun e w' => ∃ u, e = .returned (.tuple #[u, .int .i64 0]) ∧ Own w' w.heap.size u (decV bs code) ∧ Gb w w' := by
  have hcl : code.length = m := by rw [hp.1, lensV_len, hb.len]
  have hm8 := hb.m8
  have hm1 := hb.m1
  have hd64 := hb.d64
  obtain ⟨d, hd⟩ : ∃ d, d = m * s := ⟨_, rfl⟩
  have D : Hid (d = m * s) := hd
  rw [← hd] at hc hd64
  obtain ⟨y0, bv, y1, rb⟩ := hc
  have ck := arePl_c hv rb.ls (by omega)
  have HX : Hid (Bks bs m s k ∧ RdI w v code ∧ Plc code (lensV bs) ∧ RdB w bv bs) := ⟨hb, hv, hp, rb⟩
  have LN : Hid (∀ q, q ≤ m → (decTo bs code q).length ≤ 64) := fun q hq => by
    rw [decTo_len hb hp q hq]
    have h1 : q * s ≤ m * s := Nat.mul_le_mul_right s hq
    have h2 := hb.d64
    omega
  obtain ⟨ba, bc, rfl, _⟩ := rb
  obtain ⟨va, vc, rfl, _⟩ := hv
  rw [hb.len] at y1 HX ck
  rw [hcl] at HX ck ⊢
  have Y1 : Hid (w.cell? ⟨p, 1, none⟩ = some (.slice ba m bc)) := y1
  have DV : Hid (decV bs code = decTo bs code m) := by unfold Hid decV; rw [hcl]
  obtain ⟨j0, hj0, hy0, hy1, hy2⟩ := info_partsI
  have JJ : Hid (Try.prog.info? 3 = some j0 ∧ j0.zero = some (.int .i64 0) ∧ j0.size = 1 ∧ j0.bytes = 8) := ⟨hj0, hy0, hy1, hy2⟩
  obtain ⟨w1, hmk, ho, hg⟩ := run_make_own (P := Try.prog) w w.heap.size 40 3 j0 (.int .i64 0) 1 Try.underlying40 hj0 hy0 hy1 .i64 .i64 d (by rw [hy2]; omega) (by simp only [maxLen]; omega) (Nat.le_refl _)
  have G1 : Gb w w1 := below_grown (Below.refl _ _) hg (fun k e => by cases e) (Nat.le_refl _)
  have O : Hid (Gb w w1 ∧ Own w1 w.heap.size (.slice (some ⟨w.heap.size, 0, none⟩) 0 d) (decTo bs code 0)) := ⟨G1, ho⟩
  clear hj0 hy0 hy1 hy2 ho hg G1 hb hd hp hcl
  go_enter Try.func18, Try.ntmps18
  go_wp2_with fail
  go_fit ck
  rintro e w' ⟨⟨b, rfl, hb⟩, e2⟩
  subst e2
  have eb : b = true := hb.2 HX.out.2.2.1
  subst eb
  clear ck hb
  go_wp2
  clear hmk y0 y1
  go_loopw [6, 25] (fun cv iv W => ∃ q : Nat, iv = .int .i64 (q : Int) ∧ q ≤ m ∧ Hid (Gb w W ∧ Own W w.heap.size cv (decTo bs code q))) (fun _ iv _ => m - (intOf iv).toNat)
  case atStart => exact ⟨0, rfl, Nat.zero_le _, O⟩
  case round =>
    clear O
    obtain ⟨q, rfl, hq, X⟩ := hrel
    by_cases hqn : q < m
    · have hqi : (q : Int) < (m : Int) := by omega
      have PL := HX.out.2.2.1.lt HX.out.1 hqn
      obtain ⟨b, o, ur, ea, k1, k2⟩ := rdb_at HX.out.2.2.2 (i := q) (by rw [HX.out.1.len]; exact hqn)
      subst ea
      have BQ := HX.out.1.bk q hqn
      obtain ⟨_, _, e1, h1⟩ := HX.out.2.1
      obtain ⟨b2, o2, ea, k3⟩ := h1 q (by rw [HX.out.2.2.1.1, lensV_len, HX.out.1.len]; exact hqn)
      injection e1 with e11 e12 e13
      subst e11 ea
      obtain ⟨pl, hpl⟩ : ∃ pl : Nat, code[q]! = (pl : Int) := ⟨code[q]!.toNat, by omega⟩
      have DN : Hid (decTo bs code (q + 1) = decTo bs code q ++ bs[q]![pl]!) := by
        unfold Hid
        rw [decTo, hpl, Int.toNat_natCast]
      rw [hpl] at k3 PL
      have hpk : pl < k := by have := PL.2; rwa [Int.toNat_natCast] at this
      obtain ⟨pu, cu, eu, h2⟩ := k2
      subst eu
      obtain ⟨b3, o3, ux, ea, k4, k5⟩ := h2 pl (by omega)
      subst ea
      have SL := BQ.2.get (i := pl) (by omega)
      have XS : Hid (RdI w ux bs[q]![pl]! ∧ bs[q]![pl]!.length = s ∧ 1 ≤ s) := ⟨k5, by omega, by omega⟩
      obtain ⟨pw, cw, eu, h3⟩ := k5
      subst eu
      obtain ⟨b4, o4, ea, _⟩ := h3 0 (by omega)
      subst ea
      have hs64 : s ≤ 64 := by omega
      rw [XS.out.2.1] at k4
      rw [BQ.1] at k1
      have hpi : (pl : Int) < (k : Int) := by omega
      have LQ : Hid ((decTo bs code q).length ≤ 64) := LN.out q hq
      have NW : Hid (∀ j u, (bs[q]![pl]!.map (Value.int .i64))[j]? = some u → wr.cell? ((⟨b4, o4, none⟩ : Addr).add j) = some u) := ints_news (XS.out.1.gb X.out.1)
      have k1 := gb_keeps X.out.1 k1
      have k3 := gb_keeps X.out.1 k3
      have k4 := gb_keeps X.out.1 k4
      have y1 := gb_keeps X.out.1 Y1.out
      generalize bs[q]![pl]! = V at *
      have hown := X.out.2
      unfold Own at hown
      have G3 : Hid (Gb w wr) := X.out.1
      generalize hL : decTo bs code q = L at *
      have LL := LQ.out
      clear h1 h2 h3 e12 e13 PL BQ SL hpl X LQ
      go_wp2_with (first
        | (at_builtin; refine wpList_append_own_at _ rfl _ _ 40 rfl w.heap.size 3 j0 (.int .i64 0) 1 8 Try.underlying40 JJ.out.1 JJ.out.2.1 JJ.out.2.2.1 JJ.out.2.2.2 rfl (by decide) u6 L.length _ rfl hown ⟨b4, o4, none⟩ s cw (V.map (Value.int .i64)) rfl (by rw [List.length_map, XS.out.2.1, Nat.mul_one]) NW.out (ints_oneCell .i64 V) (by unfold maxLen; omega) (by omega) G3.out.size ?_; intro v5 w5 hown5 hgrow5 hnil5 hloc5)
        | go_in)
      have XN : Hid (Gb w w5 ∧ Own w5 w.heap.size v5 (decTo bs code (q + 1))) := by
        refine ⟨below_grown G3.out hgrow5 (fun j e => (hown.lt j e).1) G3.out.size, ?_⟩
        rw [DN.out]
        unfold Own
        rw [List.length_append, List.map_append, XS.out.2.1]
        exact hown5
      clear hown hown5 hgrow5 hnil5 hloc5
      go_roundw
      case rel => exact ⟨q + 1, by first | rfl | go_num | simp, hqn, XN⟩
      case measure => simp [intOf]; omega
    · have hqi : ¬ (q : Int) < (m : Int) := by omega
      have E : Hid (Own wr w.heap.size u6 (decV bs code) ∧ Gb w wr) := by
        have h := X.out
        rw [show q = m by omega] at h
        rw [DV.out]
        exact ⟨h.2, h.1⟩
      clear X
      go_wp2
      go_ret2
      exact ⟨_, rfl, E.out.1, E.out.2⟩
end Go.Proofs.Ytblfmhdcgmkpgaa
