import Derived.Test.YtdmdjmliggjbjaaGreatCtRCkR
import Derived.Test.YtdmdjmliggjbjaaGreatCtInB
import Derived.Test.YtdmdjmliggjbjaaGreatCt21
import Derived.Test.YtdmdjmliggjbjaaGreatCt18
import Derived.Test.YtdmdjmliggjbjaaGreatCt9
/- The reference's In and Inside. -/
namespace Go.Proofs.YtdmdjmliggjbjaaGreat
open Go.RowKit

theorem bxN_succ (l h a : List Int) (q : Nat) : bxN l h a (q + 1) = bxN l h a q + gap l[q]! h[q]! a[q]! * gap l[q]! h[q]! a[q]! := rfl
theorem bxN_mono (l h a : List Int) {p q : Nat} (hpq : p ≤ q) : bxN l h a p ≤ bxN l h a q := by
  induction q with
  | zero => have : p = 0 := by omega
            subst this; exact Nat.le_refl _
  | succ q ih =>
    by_cases e : p = q + 1
    · subst e; exact Nat.le_refl _
    · rw [bxN_succ]; have := ih (by omega); omega
theorem bx_no {l h a : List Int} {q : Nat} (hq : q < a.length) (hg : gap l[q]! h[q]! a[q]! ≠ 0) : decide (bx l h a = 0) = false := by
  rw [decide_eq_false_iff_not]
  intro e
  have h1 := bxN_mono l h a (show q + 1 ≤ a.length by omega)
  rw [bxN_succ] at h1
  have h2 : 0 < gap l[q]! h[q]! a[q]! * gap l[q]! h[q]! a[q]! := Nat.mul_pos (by omega) (by omega)
  unfold bx at e
  omega

set_option maxHeartbeats 8000000 in
set_option maxRecDepth 100000 in
theorem rin_box {w : World} {v u : Value} {r : Reg} {a : List Int} (hv : RdR w v r) (hu : RdI w u a) (h0 : ckB r a = 0) (s2 : r.S = 2) :
    Calls Tryz.prog 70 #[v, u] w fun e w' => e = .returned (.bool (inV r a)) ∧ Gr w w' := by
  obtain ⟨vl, vh, vi, rfl, hL, hH, hI⟩ := hv
  have RA : Hid (RegAt (w.alloc (rc r vl vh vi)) w.heap.size r vl vh vi) := RegAt.new w r vl vh vi
  have G0 : Gr w (w.alloc (rc r vl vh vi)) := (Gr.refl _).alloc _ _
  obtain ⟨k1, k2, k3, k4, k5, k6, k7⟩ := box_ok h0 s2
  have E : Hid (inV r a = decide (bx r.L r.H a = 0)) := by unfold Hid inV; rw [if_pos s2]
  generalize inV r a = res at *
  obtain ⟨pl, cl, rfl, aL⟩ := hL
  obtain ⟨ph, ch, rfl, aH⟩ := hH
  obtain ⟨pa, ca, rfl, aU⟩ := hu
  have A : Hid (∀ i, i < a.length → ∃ b o, pl = some ⟨b, o, none⟩ ∧ w.cell? ⟨b, o + i, none⟩ = some (.int .i64 r.L[i]!)) := fun i hi => aL i (by omega)
  have B : Hid (∀ i, i < a.length → ∃ b o, ph = some ⟨b, o, none⟩ ∧ w.cell? ⟨b, o + i, none⟩ = some (.int .i64 r.H[i]!)) := fun i hi => aH i (by omega)
  have C : Hid (∀ i, i < a.length → ∃ b o, pa = some ⟨b, o, none⟩ ∧ w.cell? ⟨b, o + i, none⟩ = some (.int .i64 a[i]!)) := aU
  clear aL aH aU hI h0 k4 k5 k6 k7
  obtain ⟨S, L, H, R, I⟩ := r
  dsimp only at *
  subst s2
  have N : Hid (∀ q, gap L[q]! H[q]! a[q]! ≠ 0 → q < a.length → res = false) := fun q hg hq => by rw [E.out]; exact bx_no hq hg
  have N2 : Hid (bxN L H a a.length = 0 → res = true) := fun h => by rw [E.out, decide_eq_true_eq]; exact h
  generalize hnl : L.length = nl at *
  generalize hnh : H.length = nh at *
  generalize hna : a.length = n at *
  clear hnl hnh hna E
  replace k1 := k1.symm
  replace k2 := k2.symm
  subst k1; subst k2
  go_enter Tryz.func70, Tryz.ntmps70
  go_wp2
  go_loopw [5] (fun iv w' => ∃ q : Nat, iv = .int .i64 (q : Int) ∧ q ≤ n ∧ Gr (w.alloc (rc ⟨2, L, H, R, I⟩ (.slice pl n cl) (.slice ph n ch) vi)) w' ∧ Hid (bxN L H a q = 0)) (fun iv _ => n - (intOf iv).toNat)
  case atStart => exact ⟨0, rfl, Nat.zero_le _, Gr.refl _, rfl⟩
  case round =>
    obtain ⟨q, rfl, hq, g1, X⟩ := hrel
    obtain ⟨q0, q1, q2, q3, q4, q5⟩ := RA.out.gb g1.gb
    dsimp only at q0 q1 q2 q3 q4 q5
    by_cases hqn : q < n
    · have hqi : (q : Int) < (n : Int) := by omega
      obtain ⟨b1, o1, ea, hc1⟩ := A.out q hqn
      obtain ⟨b2, o2, eb, hc2⟩ := B.out q hqn
      obtain ⟨b3, o3, ec, hc3⟩ := C.out q hqn
      subst ea; subst eb; subst ec
      replace hc1 := (G0.trans g1).keeps hc1
      replace hc2 := (G0.trans g1).keeps hc2
      replace hc3 := (G0.trans g1).keeps hc3
      have NQ : Hid (gap L[q]! H[q]! a[q]! ≠ 0 → res = false) := fun h => N.out q h hqn
      have NS : Hid (bxN L H a (q + 1) = bxN L H a q + gap L[q]! H[q]! a[q]! * gap L[q]! H[q]! a[q]!) := rfl
      generalize L[q]! = x at *
      generalize H[q]! = y at *
      generalize a[q]! = z at *
      by_cases h1 : z < x
      · have R1 : Hid (res = false) := NQ.out (by unfold gap; rw [if_pos h1]; omega)
        have h1' : decide (z < x) = true := by simpa using h1
        clear h1 N N2 NQ NS X
        go_wp2
        go_quiet (fail)
        go_wp2
        go_ret
        exact ⟨by rw [R1.out]; rfl, (G0.trans g1).drewN _⟩
      · have h1' : decide (z < x) = false := by simpa using h1
        by_cases h2 : y < z
        · have R1 : Hid (res = false) := NQ.out (by unfold gap; rw [if_neg h1, if_pos h2]; omega)
          clear h1 N N2 NQ NS X
          go_wp2
          go_quiet (fail)
          go_wp2
          go_ret
          exact ⟨by rw [R1.out]; rfl, (G0.trans g1).drewN _⟩
        · have R1 : Hid (bxN L H a (q + 1) = 0) := by
            have : gap x y z = 0 := by unfold gap; rw [if_neg h1, if_neg h2]
            unfold Hid; rw [NS.out, X.out, this]
          clear h1 N NQ NS X
          go_wp2
          go_quiet (fail)
          go_wp2
          go_roundw
          case rel => exact ⟨q + 1, by simp, hqn, g1.drewN _, R1⟩
          case measure => simp [intOf]; omega
    · have hqi : ¬ (q : Int) < (n : Int) := by omega
      have R1 : Hid (res = true) := N2.out (by have h2 : q = n := by omega
                                               rw [← h2]; exact X.out)
      go_wp2
      go_ret
      exact ⟨by rw [R1.out]; rfl, G0.trans g1⟩

set_option maxHeartbeats 8000000 in
set_option maxRecDepth 100000 in
theorem rin_c {w : World} {v u : Value} {r : Reg} {a : List Int} (hv : RdR w v r) (hu : RdI w u a) (h0 : ckB r a = 0) (hR : r.R < 340282366920938463463374607431768211456) :
    Calls Tryz.prog 70 #[v, u] w fun e w' => e = .returned (.bool (inV r a)) ∧ Gr w w' := by
  by_cases s2 : r.S = 2
  · exact rin_box hv hu h0 s2
  have s2' : (r.S == 2) = false := by rw [beq_eq_false_iff_ne]; exact s2
  obtain ⟨vl, vh, vi, rfl, hL, hH, hI⟩ := hv
  have RA : Hid (RegAt (w.alloc (rc r vl vh vi)) w.heap.size r vl vh vi) := RegAt.new w r vl vh vi
  have G0 : Gr w (w.alloc (rc r vl vh vi)) := (Gr.refl _).alloc _ _
  have E : Hid (inV r a = if r.S = 3 then decide (dst r.L a ≤ r.R) else true) := by unfold Hid inV; rw [if_neg s2]
  generalize inV r a = res at *
  by_cases s3 : r.S = 3
  · obtain ⟨k1, k2, k3, k4⟩ := ball_ok h0 s3
    rw [if_pos s3] at E
    have c2 := fun W' (g : Gr (w.alloc (rc r vl vh vi)) W') => far_c (hL.gb (G0.trans g).gb) (hu.gb (G0.trans g).gb) k1 k2 k3 k4
    have c3 := fun W => less_any r.R (dst r.L a) hR (dst_lt k3 k4 k1 k2) W
    have hle : Hid ((!decide (r.R < dst r.L a)) = res) := by
      unfold Hid; rw [E.out]
      by_cases h : r.R < dst r.L a
      · rw [decide_eq_true h, decide_eq_false (by omega)]; rfl
      · rw [decide_eq_false h, decide_eq_true (by omega)]; rfl
    obtain ⟨pa, ca, rfl, _⟩ := hu
    obtain ⟨pl, cl, rfl, _⟩ := hL
    clear hH hI h0 k1 k2 k3 k4 hR E s2 s2'
    obtain ⟨S, L, H, R, I⟩ := r
    dsimp only at *
    subst s3
    generalize dst L a = bb at *
    generalize decide (R < bb) = cc at *
    generalize a.length = na at *
    generalize L.length = nl at *
    obtain ⟨q0, q1, q2, q3, q4, q5⟩ := RA.out
    dsimp only at q0 q1 q2 q3 q4 q5
    have g1d : Gr (w.alloc (rc ⟨3, L, H, R, I⟩ (.slice pl nl cl) vh vi)) (w.alloc (rc ⟨3, L, H, R, I⟩ (.slice pl nl cl) vh vi)).drew := (Gr.refl _).drew
    go_enter Tryz.func70, Tryz.ntmps70
    go_wp2_with fail
    go_region_held3 (fun w' => w'.cell? ⟨w.heap.size, 1, none⟩ = some (.slice pl nl cl) ∧ w'.cell? ⟨w.heap.size, 3, none⟩ = some (.int .u64 (hi R)) ∧ w'.cell? ⟨w.heap.size, 4, none⟩ = some (.int .u64 (lo R))) (first | (with_reducible exact three_call (by assumption) (by assumption)) | exact ⟨q1, q3, q4⟩)
      (first
        | (go_at_call 71; refine (c2 _ g1d).mono ?_; rintro e w2 ⟨rfl, g2⟩)
        | (go_at_call 52; refine (c3 _).mono ?_; rintro e w3 ⟨rfl, g3⟩))
    all_goals
      go_wp2
      go_ret
      exact ⟨by rw [← hle.out]; rfl, ((G0.trans g1d).trans g2).trans g3⟩
  · have s3' : (r.S == 3) = false := by rw [beq_eq_false_iff_ne]; exact s3
    rw [if_neg s3] at E
    have e := E.out
    subst e
    obtain ⟨pa, ca, rfl, _⟩ := hu
    clear hL hH hI h0 hR E s2 s3
    obtain ⟨S, L, H, R, I⟩ := r
    dsimp only at *
    generalize a.length = na at *
    obtain ⟨q0, q1, q2, q3, q4, q5⟩ := RA.out
    dsimp only at q0 q1 q2 q3 q4 q5
    go_enter Tryz.func70, Tryz.ntmps70
    go_wp2
    go_ret
    exact ⟨rfl, G0⟩

end Go.Proofs.YtdmdjmliggjbjaaGreat

/- The reference's Ids and Rows. -/
namespace Go.Proofs.YtdmdjmliggjbjaaGreat
open Go.RowKit Go.Sort Go.Maps

set_option maxHeartbeats 4000000 in
set_option maxRecDepth 100000 in
theorem rIds_c {w : World} {v : Value} {rs : List Rw} (h : RdW w v rs) (hn : rs.length ≤ 2000) :
    Calls Tryz.prog 17 #[v] w fun e w' => ∃ v', e = .returned v' ∧ Own w' w.heap.size v' (srt (idsOf rs)) ∧ Gb w w' := by
  obtain ⟨a, cap, rfl, ha⟩ := h
  have A : Hid (∀ i, i < rs.length → ∃ b o u, a = some ⟨b, o, none⟩ ∧ w.cell? ⟨b, o + i * 2, none⟩ = some (.int .i64 rs[i]!.1) ∧ w.cell? ⟨b, o + i * 2 + 1, none⟩ = some u ∧ RdI w u rs[i]!.2) := ha
  obtain ⟨n, hN⟩ : ∃ n, n = rs.length := ⟨_, rfl⟩
  have N : Hid (n = rs.length) := hN
  rw [← hN] at hn ⊢
  clear ha hN
  go_enter Tryz.func17, Tryz.ntmps17
  go_wp2
  go_loopw [3, 4] (fun vv iv w' => ∃ q : Nat, iv = .int .i64 (q : Int) ∧ q ≤ n ∧ Hid (Own w' w.heap.size vv (srt ((idsOf rs).take q)) ∧ Gb w w')) (fun _ iv _ => n - (intOf iv).toNat)
  case atStart => exact ⟨0, rfl, Nat.zero_le _, ⟨by simp [srt]; exact own_nil _ _, Below.refl _ _⟩⟩
  case round =>
    obtain ⟨q, rfl, hq, X⟩ := hrel
    by_cases hqn : q < n
    · have hqi : (q : Int) < (n : Int) := by omega
      have hql : q < rs.length := by have := N.out; omega
      obtain ⟨b, o, u, ea, h1, h2, h3⟩ := A.out q hql
      subst ea
      have h1 := gb_keeps X.out.2 h1
      clear h2 h3
      have NX : Hid (srt ((idsOf rs).take (q + 1)) = insI rs[q]!.1 (srt ((idsOf rs).take q))) := by unfold Hid; rw [ids_take hql, srt_snocI]
      have c68 := rwith_c X.out.1 (by rw [srt_len, List.length_take]; omega) rs[q]!.1
      generalize rs[q]!.1 = x at *
      clear hql
      go_wp2_with fail
      refine c68.mono ?_
      rintro e w1 ⟨v', rfl, o1, g1⟩
      have R : Hid (Own w1 w.heap.size v' (srt ((idsOf rs).take (q + 1))) ∧ Gb w w1) := ⟨by rw [NX.out]; exact o1.mono X.out.2.size, gb_trans X.out.2 g1⟩
      clear c68 o1 g1 X NX h1
      go_wp2
      go_roundw
      case rel => exact ⟨q + 1, by simp, hqn, R⟩
      case measure => simp [intOf]; omega
    · have hqi : ¬ (q : Int) < (n : Int) := by omega
      have R : Hid (Own wr w.heap.size u3 (srt (idsOf rs)) ∧ Gb w wr) := by
        have h1 := X.out
        rw [List.take_of_length_le (by unfold idsOf; rw [List.length_map]; have := N.out; omega)] at h1
        exact h1
      clear X
      go_wp2
      go_ret
      exact ⟨_, rfl, R.out⟩
theorem contains_take {l : List Int} {x : Int} {q : Nat} (hq : q ≤ l.length) : (l.take q).contains x = true ↔ ∃ k, k < q ∧ l[k]! = x := by
  rw [List.contains_iff_mem, List.mem_iff_getElem]
  constructor
  · rintro ⟨k, hk, e⟩
    have h1 : k < q := by rw [List.length_take] at hk; omega
    refine ⟨k, h1, ?_⟩
    rw [getElem!_pos l k (by omega), ← e]; simp
  · rintro ⟨k, hk, e⟩
    refine ⟨k, by rw [List.length_take]; omega, ?_⟩
    rw [getElem!_pos l k (by omega)] at e
    rw [← e]; simp

set_option maxHeartbeats 8000000 in
set_option maxRecDepth 100000 in
theorem rrows_c {w : World} {v : Value} {rs : List Rw} (h : RdW w v rs) (d : Int) (hlen : rs.length ≤ 4611686018427387904) :
    Calls Tryz.prog 119 #[v, .int .i64 d] w fun e w' => e = .returned (.int .i64 (idsE rs d)) ∧ Gr w w' := by
  obtain ⟨a, cap, rfl, ha⟩ := h
  have A : Hid (∀ i, i < rs.length → ∃ b o u, a = some ⟨b, o, none⟩ ∧ w.cell? ⟨b, o + i * 2, none⟩ = some (.int .i64 rs[i]!.1) ∧ w.cell? ⟨b, o + i * 2 + 1, none⟩ = some u ∧ RdI w u rs[i]!.2) := ha
  obtain ⟨n, hN⟩ : ∃ n, n = rs.length := ⟨_, rfl⟩
  have N : Hid (n = rs.length) := hN
  rw [← hN] at hlen ⊢
  clear ha
  by_cases hn : n ≤ 512
  · have E : Hid (idsE rs d = rowsTo rs d rs.length) := by unfold Hid idsE; rw [if_pos (by omega)]
    clear hN
    go_enter Tryz.func119, Tryz.ntmps119
    go_wp2
    go_loopw [5] (fun iv w' => ∃ q : Nat, iv = .int .i64 (q : Int) ∧ q ≤ n ∧ Hid (rowsTo rs d q = 0 ∧ Gr w w')) (fun iv _ => n - (intOf iv).toNat)
    case atStart => exact ⟨0, rfl, Nat.zero_le _, rfl, Gr.refl _⟩
    case round =>
      obtain ⟨q, rfl, hq, X⟩ := hrel
      by_cases hqn : q < n
      · have hqi : (q : Int) < (n : Int) := by omega
        have hql : q < rs.length := by have := N.out; omega
        obtain ⟨b, o, u, ea, h1, h2, h3⟩ := A.out q hql
        have EE : Hid (rowE rs d q = if ((idsOf rs).take q).contains rs[q]!.1 = false ∧ okId rs[q]!.1 = true then chk rs[q]!.2 d else 50) := rfl
        have hE : Hid (rowE rs d q ≠ 0 → idsE rs d = rowE rs d q) := fun h => rowsTo_err hql X.out.1 h (by have := N.out; omega)
        have hNext : Hid (rowE rs d q = 0 → rowsTo rs d (q + 1) = 0) := fun h => rowsTo_next X.out.1 h
        replace h1 := X.out.2.keeps h1
        replace h2 := X.out.2.keeps h2
        have h3 := h3.gb X.out.2.gb
        subst ea
        cases hok : okId rs[q]!.1 with
        | false =>
          have c66 := fun W => rid_v rs[q]!.1 false hok W
          have R : Hid (idsE rs d = 50 ∧ Gr w wr) := by
            have e1 := EE.out
            rw [if_neg (by rw [hok]; simp)] at e1
            exact ⟨by rw [hE.out (by omega), e1], X.out.2⟩
          generalize rs[q]!.1 = x at *
          clear EE hE hNext hok h3
          go_wp2_with (go_at_call 120; refine (c66 _).mono ?_; rintro e w' ⟨rfl, e2⟩; subst e2)
          go_ret
          exact ⟨by rw [R.out.1]; rfl, R.out.2⟩
        | true =>
          have c66 := fun W => rid_v rs[q]!.1 true hok W
          have c15 := fun W (g : Gr wr W) r h => rcheck_v (h3.gb g.gb) d r h
          have IDS : Hid (∀ k, k < rs.length → (idsOf rs)[k]! = rs[k]!.1) := fun k hk => by
            unfold idsOf
            rw [getElem!_pos _ k (by simpa using hk), getElem!_pos rs k hk]; simp
          have CT : Hid (((idsOf rs).take q).contains rs[q]!.1 = true ↔ ∃ k, k < q ∧ rs[k]!.1 = rs[q]!.1) := by
            unfold Hid
            rw [contains_take (by unfold idsOf; rw [List.length_map]; omega)]
            exact ⟨fun ⟨k, hk, e⟩ => ⟨k, hk, by rw [← IDS.out k (by omega)]; exact e⟩, fun ⟨k, hk, e⟩ => ⟨k, hk, by rw [IDS.out k (by omega)]; exact e⟩⟩
          obtain ⟨a1, c1, rfl, _⟩ := h3
          obtain ⟨x, hx⟩ : ∃ x, x = rs[q]!.1 := ⟨_, rfl⟩
          obtain ⟨m, hm⟩ : ∃ m, m = rs[q]!.2.length := ⟨_, rfl⟩
          rw [← hx] at h1 c66 CT EE
          rw [← hm] at h2 c15
          have XM : Hid (x = rs[q]!.1 ∧ m = rs[q]!.2.length ∧ q < rs.length ∧ okId x = true) := ⟨hx, hm, hql, by rw [hx]; exact hok⟩
          clear hql hx hm hok
          go_wp2_with (go_at_call 120; refine (c66 _).mono ?_; rintro e w' ⟨rfl, e2⟩; subst e2)
          clear c66
          go_loopw [6] (fun iv w' => ∃ p : Nat, iv = .int .i64 (p : Int) ∧ p ≤ q ∧ Hid ((∀ i, i < p → rs[i]!.1 ≠ x) ∧ Gr wr w')) (fun iv _ => q - (intOf iv).toNat)
          case atStart => exact ⟨0, rfl, Nat.zero_le _, fun i hi => absurd hi (Nat.not_lt_zero _), Gr.refl _⟩
          case round =>
            obtain ⟨p, rfl, hp, Y⟩ := hrel
            by_cases hpq : p < q
            · have hpi : (p : Int) < (q : Int) := by omega
              have hpn : (p : Int) < (n : Int) := by omega
              obtain ⟨b', o', u', ea, y1, _, _⟩ := A.out p (by have := N.out; omega)
              cases ea
              replace y1 := (X.out.2.trans Y.out.2).keeps y1
              have z1 := Y.out.2.keeps h1
              by_cases hxy : rs[p]!.1 = x
              · have R : Hid (idsE rs d = 50 ∧ Gr w wr) := by
                  have e1 := EE.out
                  rw [if_neg (by rw [CT.out.2 ⟨p, hpq, hxy⟩]; simp)] at e1
                  exact ⟨by rw [hE.out (by omega), e1], X.out.2.trans Y.out.2⟩
                rw [hxy] at y1
                clear EE hE hNext hxy CT IDS c15
                go_wp2
                go_quiet (fail)
                go_wp2
                go_ret
                exact ⟨by rw [R.out.1]; rfl, R.out.2.drewN _⟩
              · have R : Hid (∀ i, i < p + 1 → rs[i]!.1 ≠ x) := fun i hi => by
                  by_cases e : i = p
                  · rw [e]; exact hxy
                  · exact Y.out.1 i (by omega)
                have hxy' : (rs[p]!.1 == x) = false := by rw [beq_eq_false_iff_ne]; exact hxy
                generalize rs[p]!.1 = y at *
                clear EE hE hNext CT IDS c15
                go_wp2
                go_quiet (fail)
                go_wp2
                go_roundw
                case rel => exact ⟨p + 1, by simp, hpq, R.out, Y.out.2.drewN _⟩
                case measure => simp [intOf]; omega
            · have hpi : ¬ (p : Int) < (q : Int) := by omega
              have EE2 : Hid (rowE rs d q = chk rs[q]!.2 d) := by
                have e1 := EE.out
                rw [if_pos ⟨by
                  cases hc : ((idsOf rs).take q).contains x with
                  | false => rfl
                  | true =>
                    obtain ⟨k, hk, e⟩ := CT.out.1 hc
                    exact absurd e (Y.out.1 k (by omega)), XM.out.2.2.2⟩] at e1
                exact e1
              have z2 := Y.out.2.keeps h2
              have GG : Hid (Gr w wr) := X.out.2.trans Y.out.2
              by_cases hv : chk rs[q]!.2 d = 0
              · have c := c15 _ Y.out.2 0 hv
                have R : Hid (rowsTo rs d (q + 1) = 0) := hNext.out (by rw [EE2.out, hv])
                clear EE hE hNext CT IDS c15 EE2 hv Y X
                go_wp2_with (go_at_call 100; refine c.mono ?_; rintro e w' ⟨rfl, e2⟩; subst e2)
                go_roundw
                case rel => exact ⟨q + 1, by simp, hqn, R.out, GG.out⟩
                case measure => simp [intOf]; omega
              · have c := c15 _ Y.out.2 _ rfl
                have R : Hid (idsE rs d = chk rs[q]!.2 d) := by
                  have := hE.out (by rw [EE2.out]; exact hv)
                  rw [EE2.out] at this; exact this
                have hv' : (chk rs[q]!.2 d == 0) = false := by rw [beq_eq_false_iff_ne]; exact hv
                generalize chk rs[q]!.2 d = ce at *
                clear EE hE hNext CT IDS c15 EE2 Y X
                go_wp2_with (go_at_call 100; refine c.mono ?_; rintro e w' ⟨rfl, e2⟩; subst e2)
                go_ret
                exact ⟨by rw [R.out]; rfl, GG.out⟩
      · have hqi : ¬ (q : Int) < (n : Int) := by omega
        have R : Hid (idsE rs d = 0 ∧ Gr w wr) := by
          have h1 := X.out.1
          rw [show q = rs.length by have := N.out; omega, ← E.out] at h1
          exact ⟨h1, X.out.2⟩
        clear X E
        go_wp2
        go_ret
        exact ⟨by rw [R.out.1]; rfl, R.out.2⟩
  · have E : Hid (idsE rs d = 2) := by unfold Hid idsE; rw [if_neg (by omega)]
    have hn' : (n : Int) > 512 := by omega
    clear hN
    go_enter Tryz.func119, Tryz.ntmps119
    go_wp2
    go_ret
    exact ⟨by rw [E.out]; rfl, Gr.refl _⟩
end Go.Proofs.YtdmdjmliggjbjaaGreat
