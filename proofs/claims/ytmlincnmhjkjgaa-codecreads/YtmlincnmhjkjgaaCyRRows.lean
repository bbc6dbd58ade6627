/- The reference's Ids and Rows. -/
import Derived.Test.YtmlincnmhjkjgaaCyRWith
import Derived.Test.YtmlincnmhjkjgaaCy24
import Derived.Test.YtmlincnmhjkjgaaCyRefV
namespace Go.Proofs.Ytmlincnmhjkjgaa
open Go.RowKit Go.Sort Go.Maps

theorem contains_take {l : List Int} {x : Int} {q : Nat} (hq : q ≤ l.length) : (l.take q).contains x = true ↔ ∃ k, k < q ∧ l[k]! = x := by
  rw [List.contains_iff_mem, List.mem_iff_getElem]
  constructor
  · rintro ⟨k, hk, e⟩
    have h1 : k < q := by rw [List.length_take] at hk; omega
    refine ⟨k, h1, ?_⟩
    rw [getElem!_pos l k (by omega), ← e]; simp
  · rintro ⟨k, hk, e⟩
    refine ⟨k, by rw [List.length_take]; omega, ?_⟩
    rw [getElem!_pos l k (by omega)] at e
    rw [← e]; simp

set_option maxHeartbeats 8000000 in
set_option maxRecDepth 100000 in
theorem rrows_c {w : World} {v : Value} {rs : List Rw} (h : RdW w v rs) (d : Int) (hlen : rs.length ≤ 4611686018427387904) :
    Calls Try.prog 41 #[v, .int .i64 d] w fun e w' => e = .returned (.int .i64 (idsE rs d)) ∧ Gr w w' := by
  obtain ⟨a, cap, rfl, ha⟩ := h
  have A : Hid (∀ i, i < rs.length → ∃ b o u, a = some ⟨b, o, none⟩ ∧ w.cell? ⟨b, o + i * 2, none⟩ = some (.int .i64 rs[i]!.1) ∧ w.cell? ⟨b, o + i * 2 + 1, none⟩ = some u ∧ RdI w u rs[i]!.2) := ha
  obtain ⟨n, hN⟩ : ∃ n, n = rs.length := ⟨_, rfl⟩
  have N : Hid (n = rs.length) := hN
  rw [← hN] at hlen ⊢
  clear ha
  by_cases hn : n ≤ 512
  · have E : Hid (idsE rs d = rowsTo rs d rs.length) := by unfold Hid idsE; rw [if_pos (by omega)]
    clear hN
    go_enter Try.func41, Try.ntmps41
    go_wp2
    go_loopw [5] (fun iv w' => ∃ q : Nat, iv = .int .i64 (q : Int) ∧ q ≤ n ∧ Hid (rowsTo rs d q = 0 ∧ Gr w w')) (fun iv _ => n - (intOf iv).toNat)
    case atStart => exact ⟨0, rfl, Nat.zero_le _, rfl, Gr.refl _⟩
    case round =>
      obtain ⟨q, rfl, hq, X⟩ := hrel
      by_cases hqn : q < n
      · have hqi : (q : Int) < (n : Int) := by omega
        have hql : q < rs.length := by have := N.out; omega
        obtain ⟨b, o, u, ea, h1, h2, h3⟩ := A.out q hql
        have EE : Hid (rowE rs d q = if ((idsOf rs).take q).contains rs[q]!.1 = false ∧ okId rs[q]!.1 = true then chk rs[q]!.2 d else 50) := rfl
        have hE : Hid (rowE rs d q ≠ 0 → idsE rs d = rowE rs d q) := fun h => rowsTo_err hql X.out.1 h (by have := N.out; omega)
        have hNext : Hid (rowE rs d q = 0 → rowsTo rs d (q + 1) = 0) := fun h => rowsTo_next X.out.1 h
        replace h1 := X.out.2.keeps h1
        replace h2 := X.out.2.keeps h2
        have h3 := h3.gb X.out.2.gb
        subst ea
        cases hok : okId rs[q]!.1 with
        | false =>
          have c66 := fun W => rid_v rs[q]!.1 false hok W
          have R : Hid (idsE rs d = 50 ∧ Gr w wr) := by
            have e1 := EE.out
            rw [if_neg (by rw [hok]; simp)] at e1
            exact ⟨by rw [hE.out (by omega), e1], X.out.2⟩
          generalize rs[q]!.1 = x at *
          clear EE hE hNext hok h3
          go_wp2_with (go_at_call 29; refine (c66 _).mono ?_; rintro e w' ⟨rfl, e2⟩; subst e2)
          go_ret
          exact ⟨by rw [R.out.1]; rfl, R.out.2⟩
        | true =>
          have c66 := fun W => rid_v rs[q]!.1 true hok W
          have c15 := fun W (g : Gr wr W) r h => rcheck_v (h3.gb g.gb) d r h
          have IDS : Hid (∀ k, k < rs.length → (idsOf rs)[k]! = rs[k]!.1) := fun k hk => by
            unfold idsOf
            rw [getElem!_pos _ k (by simpa using hk), getElem!_pos rs k hk]; simp
          have CT : Hid (((idsOf rs).take q).contains rs[q]!.1 = true ↔ ∃ k, k < q ∧ rs[k]!.1 = rs[q]!.1) := by
            unfold Hid
            rw [contains_take (by unfold idsOf; rw [List.length_map]; omega)]
            exact ⟨fun ⟨k, hk, e⟩ => ⟨k, hk, by rw [← IDS.out k (by omega)]; exact e⟩, fun ⟨k, hk, e⟩ => ⟨k, hk, by rw [IDS.out k (by omega)]; exact e⟩⟩
          obtain ⟨a1, c1, rfl, _⟩ := h3
          obtain ⟨x, hx⟩ : ∃ x, x = rs[q]!.1 := ⟨_, rfl⟩
          obtain ⟨m, hm⟩ : ∃ m, m = rs[q]!.2.length := ⟨_, rfl⟩
          rw [← hx] at h1 c66 CT EE
          rw [← hm] at h2 c15
          have XM : Hid (x = rs[q]!.1 ∧ m = rs[q]!.2.length ∧ q < rs.length ∧ okId x = true) := ⟨hx, hm, hql, by rw [hx]; exact hok⟩
          clear hql hx hm hok
          go_wp2_with (go_at_call 29; refine (c66 _).mono ?_; rintro e w' ⟨rfl, e2⟩; subst e2)
          clear c66
          go_loopw [6] (fun iv w' => ∃ p : Nat, iv = .int .i64 (p : Int) ∧ p ≤ q ∧ Hid ((∀ i, i < p → rs[i]!.1 ≠ x) ∧ Gr wr w')) (fun iv _ => q - (intOf iv).toNat)
          case atStart => exact ⟨0, rfl, Nat.zero_le _, fun i hi => absurd hi (Nat.not_lt_zero _), Gr.refl _⟩
          case round =>
            obtain ⟨p, rfl, hp, Y⟩ := hrel
            by_cases hpq : p < q
            · have hpi : (p : Int) < (q : Int) := by omega
              have hpn : (p : Int) < (n : Int) := by omega
              obtain ⟨b', o', u', ea, y1, _, _⟩ := A.out p (by have := N.out; omega)
              cases ea
              replace y1 := (X.out.2.trans Y.out.2).keeps y1
              have z1 := Y.out.2.keeps h1
              by_cases hxy : rs[p]!.1 = x
              · have R : Hid (idsE rs d = 50 ∧ Gr w wr) := by
                  have e1 := EE.out
                  rw [if_neg (by rw [CT.out.2 ⟨p, hpq, hxy⟩]; simp)] at e1
                  exact ⟨by rw [hE.out (by omega), e1], X.out.2.trans Y.out.2⟩
                rw [hxy] at y1
                clear EE hE hNext hxy CT IDS c15
                go_wp2
                go_quiet (fail)
                go_wp2
                go_ret
                exact ⟨by rw [R.out.1]; rfl, R.out.2.drewN _⟩
              · have R : Hid (∀ i, i < p + 1 → rs[i]!.1 ≠ x) := fun i hi => by
                  by_cases e : i = p
                  · rw [e]; exact hxy
                  · exact Y.out.1 i (by omega)
                have hxy' : (rs[p]!.1 == x) = false := by rw [beq_eq_false_iff_ne]; exact hxy
                generalize rs[p]!.1 = y at *
                clear EE hE hNext CT IDS c15
                go_wp2
                go_quiet (fail)
                go_wp2
                go_roundw
                case rel => exact ⟨p + 1, by simp, hpq, R.out, Y.out.2.drewN _⟩
                case measure => simp [intOf]; omega
            · have hpi : ¬ (p : Int) < (q : Int) := by omega
              have EE2 : Hid (rowE rs d q = chk rs[q]!.2 d) := by
                have e1 := EE.out
                rw [if_pos ⟨by
                  cases hc : ((idsOf rs).take q).contains x with
                  | false => rfl
                  | true =>
                    obtain ⟨k, hk, e⟩ := CT.out.1 hc
                    exact absurd e (Y.out.1 k (by omega)), XM.out.2.2.2⟩] at e1
                exact e1
              have z2 := Y.out.2.keeps h2
              have GG : Hid (Gr w wr) := X.out.2.trans Y.out.2
              by_cases hv : chk rs[q]!.2 d = 0
              · have c := c15 _ Y.out.2 0 hv
                have R : Hid (rowsTo rs d (q + 1) = 0) := hNext.out (by rw [EE2.out, hv])
                clear EE hE hNext CT IDS c15 EE2 hv Y X
                go_wp2_with (go_at_call 31; refine c.mono ?_; rintro e w' ⟨rfl, e2⟩; subst e2)
                go_roundw
                case rel => exact ⟨q + 1, by simp, hqn, R.out, GG.out⟩
                case measure => simp [intOf]; omega
              · have c := c15 _ Y.out.2 _ rfl
                have R : Hid (idsE rs d = chk rs[q]!.2 d) := by
                  have := hE.out (by rw [EE2.out]; exact hv)
                  rw [EE2.out] at this; exact this
                have hv' : (chk rs[q]!.2 d == 0) = false := by rw [beq_eq_false_iff_ne]; exact hv
                generalize chk rs[q]!.2 d = ce at *
                clear EE hE hNext CT IDS c15 EE2 Y X
                go_wp2_with (go_at_call 31; refine c.mono ?_; rintro e w' ⟨rfl, e2⟩; subst e2)
                go_ret
                exact ⟨by rw [R.out]; rfl, GG.out⟩
      · have hqi : ¬ (q : Int) < (n : Int) := by omega
        have R : Hid (idsE rs d = 0 ∧ Gr w wr) := by
          have h1 := X.out.1
          rw [show q = rs.length by have := N.out; omega, ← E.out] at h1
          exact ⟨h1, X.out.2⟩
        clear X E
        go_wp2
        go_ret
        exact ⟨by rw [R.out.1]; rfl, R.out.2⟩
  · have E : Hid (idsE rs d = 2) := by unfold Hid idsE; rw [if_neg (by omega)]
    have hn' : (n : Int) > 512 := by omega
    clear hN
    go_enter Try.func41, Try.ntmps41
    go_wp2
    go_ret
    exact ⟨by rw [E.out]; rfl, Gr.refl _⟩
end Go.Proofs.Ytmlincnmhjkjgaa
