/- PutRows. -/
import Derived.Test.YtmlincnmhjkjgaaCyCoG
import Derived.Test.YtmlincnmhjkjgaaCyCoE
namespace Go.Proofs.Ytmlincnmhjkjgaa
open Go.RowKit

/-- A row's bytes, rows', their text. -/
def rw1 (r : Rw) : List UInt8 := leB r.1.toNat 4 ++ coB r.2
def rwB (rs : List Rw) : List UInt8 := rs.flatMap rw1
def prT (rs : List Rw) : List UInt8 := leB (dimR rs) 1 ++ leB rs.length 2 ++ rwB rs
def prV (rs : List Rw) : Value := .tuple #[.string (sb (if crE rs = 0 then prT rs else [])), .int .i64 (crE rs)]
theorem rwB_take {rs : List Rw} {q : Nat} (hq : q < rs.length) : rwB (rs.take (q + 1)) = rwB (rs.take q) ++ (leB rs[q]!.1.toNat 4 ++ coB rs[q]!.2) := by
  unfold rwB
  rw [List.take_succ_eq_append_getElem hq, List.flatMap_append, getElem!_pos rs q hq]; simp [rw1]
/-- Rows that have a text. -/
structure RwT (rs : List Rw) : Prop where
  few : rs.length ≤ 512
  dim : dimR rs ≤ 64
  row : ∀ i, i < rs.length → 1 ≤ rs[i]!.1 ∧ rs[i]!.1 ≤ 1000000000 ∧ rs[i]!.2.length = dimR rs ∧ 1 ≤ dimR rs ∧ allR rs[i]!.2 = true
  rise : riseR rs (rs.length - 1) = true
theorem crE_zero {rs : List Rw} : crE rs = 0 ↔ RwT rs := by
  unfold crE
  by_cases h0 : rs.length = 0
  · rw [if_pos h0]
    have e := List.length_eq_zero_iff.1 h0
    refine ⟨fun _ => ⟨by omega, by rw [e]; simp [dimR], fun i hi => by omega, by rw [h0]; rfl⟩, fun _ => rfl⟩
  rw [if_neg h0]
  constructor
  · intro h
    split at h
    · rename_i hf
      split at h
      · rename_i hr
        unfold flE at hf
        split at hf
        · rename_i hd
          have k := cidsE_zero.1 hf
          refine ⟨k.few, by omega, fun i hi => ?_, hr⟩
          obtain ⟨k1, k2⟩ := k.row rs[i]! (by rw [getElem!_pos rs i hi]; exact List.getElem_mem hi)
          rw [okId_iff] at k1
          unfold chk at k2
          split at k2
          · rename_i k3
            refine ⟨k1.1, k1.2, by omega, by omega, ?_⟩
            unfold vErr at k2
            split at k2
            · assumption
            · omega
          · omega
        · omega
      · omega
    · rename_i hf; exact absurd h hf
  · intro k
    have hd := (k.row 0 (by omega)).2.2.2.1
    have hf : flE rs (dimR rs : Int) = 0 := by
      unfold flE
      rw [if_pos ⟨by omega, by have := k.dim; omega⟩]
      refine cidsE_zero.2 ⟨k.few, ?_, fun r hr => ?_⟩
      · have hlt : ∀ p, p ≤ rs.length - 1 → ∀ i, i < p → rs[i]!.1 < rs[p]!.1 := by
          intro p
          induction p with
          | zero => intro _ i hi; omega
          | succ p ih =>
            intro hp i hi
            have h1 : riseR rs (p + 1) = true := by
              cases e : riseR rs (p + 1) with
              | true => rfl
              | false => have := riseR_stay hp e; rw [k.rise] at this; cases this
            simp only [riseR, Bool.and_eq_true, decide_eq_true_eq] at h1
            by_cases e : i = p
            · subst e; exact h1.2
            · have := ih (by omega) i (by omega); have := h1.2; omega
        rw [List.pairwise_iff_getElem]
        intro i j hi hj hij e
        have hi' : i < rs.length := by simpa [idsOf] using hi
        have hj' : j < rs.length := by simpa [idsOf] using hj
        have := hlt j (by omega) i hij
        rw [getElem!_pos rs i hi', getElem!_pos rs j hj'] at this
        simp [idsOf] at e
        omega
      · obtain ⟨i, hi, rfl⟩ := List.mem_iff_getElem.1 hr
        have h2 := k.row i hi
        rw [getElem!_pos rs i hi] at h2
        refine ⟨(okId_iff _).2 ⟨h2.1, h2.2.1⟩, ?_⟩
        unfold chk
        rw [if_pos ⟨by omega, by have := k.dim; omega, by omega⟩]
        unfold vErr
        rw [if_pos h2.2.2.2.2]
    rw [if_pos hf, if_pos k.rise]
theorem rwB_len {rs : List Rw} (h : ∀ r ∈ rs, r.2.length ≤ 64) : (rwB rs).length ≤ 260 * rs.length := by
  induction rs with
  | nil => simp [rwB]
  | cons r l ih =>
    have h1 := h r (List.mem_cons_self ..)
    have h2 := ih (fun x hx => h x (List.mem_cons_of_mem _ hx))
    have h3 : (rw1 r).length = 4 + 4 * r.2.length := by unfold rw1; rw [List.length_append, leB_length, coB_length]
    unfold rwB at *
    rw [List.flatMap_cons, List.length_append, List.length_cons]
    omega
theorem GrB.keeps {w w' : World} {v v' : Value} (h : GrB w w' v v') {p : Addr} {x : Value} (hc : w.cell? p = some x) (hn : ∀ k, v.ownBlock = some k → k ≠ p.block) : w'.cell? p = some x :=
  grown_cell h.grown hc (fun e => hn _ e.symm rfl)
set_option maxHeartbeats 4000000 in
set_option maxRecDepth 100000 in
theorem putRows_c {w : World} {v : Value} {rs : List Rw} (h : RdW w v rs) (hrm : Rm v) (hwf : WfR rs) :
    Calls Try.prog 24 #[v] w fun e w' => e = .returned (prV rs) ∧ Gb w w' := by
  have cR := checkRows_c h hrm hwf
  have RD : Hid (RdW w v rs) := h
  obtain ⟨a, cap, rfl, ha⟩ := h
  by_cases hz : crE rs = 0
  · have PV : Hid (prV rs = .tuple #[.string (sb (prT rs)), .int .i64 0]) := by unfold Hid prV; rw [hz, if_pos rfl]
    have K : Hid (RwT rs) := crE_zero.1 hz
    have TT : Hid (prT rs = [] ++ leB (dimR rs) 1 ++ leB rs.length 2 ++ rwB rs) := by unfold Hid prT; simp
    have dO := fun W (g : Gb w W) => dimOf_c (RD.out.gb g)
    have hd : dimR rs ≤ 64 := K.out.dim
    have hn : rs.length ≤ 512 := K.out.few
    obtain ⟨n, hN⟩ : ∃ n, n = rs.length := ⟨_, rfl⟩
    have N : Hid (n = rs.length) := hN
    rw [← hN] at hn cR dO TT ⊢
    rw [hz] at cR
    generalize dimR rs = d at *
    clear ha hwf hN hz hrm
    go_enter Try.func24, Try.ntmps24
    go_wp2_with fail
    refine cR.mono ?_
    rintro e w1 ⟨rfl, g1⟩
    go_wp2_with fail
    refine (dO _ g1).mono ?_
    rintro e w' ⟨rfl, rfl⟩
    have G1 : Hid (Gb w w1) := g1
    have n1 := withNumber_g (Below.refl _ w1) (ownb_nil w1 w1.heap.size) d 1 (by omega) (by simp)
    go_wp2_with fail
    refine n1.mono ?_
    rintro e w2 ⟨v2, rfl, o2, g2⟩
    have n2 := withNumber_g g2 o2 n 2 (by omega) (by simp [leB_length])
    go_wp2_with fail
    refine n2.mono ?_
    rintro e w3 ⟨v3, rfl, o3, g3⟩
    have LP : Hid (([] ++ leB d 1 ++ leB n 2).length = 3) := by unfold Hid; simp [leB_length]
    generalize [] ++ leB d 1 ++ leB n 2 = pre at *
    have O : Hid (OwnB w3 w1.heap.size v3 pre ∧ Gb w1 w3) := ⟨o3, g3⟩
    clear o3 g3 o2 g2
    have LB : Hid (∀ q, q ≤ n → (pre ++ rwB (rs.take q)).length ≤ 140000) := by
      intro q hq
      have := rwB_len (rs := rs.take q) (fun r hr => by
        obtain ⟨i, hi, e⟩ := List.mem_iff_getElem.1 (List.mem_of_mem_take hr)
        have h2 := (K.out.row i hi).2.2.1
        rw [getElem!_pos rs i hi, e] at h2
        have := K.out.dim
        omega)
      rw [List.length_append, LP.out]
      rw [List.length_take] at this
      have : min q rs.length ≤ q := Nat.min_le_left _ _
      omega
    go_wp2
    go_loopw [5, 24] (fun bb iv w' => ∃ q : Nat, iv = .int .i64 (q : Int) ∧ q ≤ n ∧ Hid (OwnB w' w1.heap.size bb (pre ++ rwB (rs.take q)) ∧ Gb w1 w')) (fun _ iv _ => n - (intOf iv).toNat)
    case atStart => exact ⟨0, rfl, Nat.zero_le _, by simpa [rwB] using O.out.1, O.out.2⟩
    case round =>
      obtain ⟨q, rfl, hq, X⟩ := hrel
      by_cases hqn : q < n
      · have hqi : (q : Int) < (n : Int) := by omega
        have hql : q < rs.length := by have := N.out; omega
        obtain ⟨_, _, ee, ha⟩ := RD.out.gb (gb_trans G1.out X.out.2)
        cases ee
        obtain ⟨b, o, u, ea, c1, c2, hu⟩ := ha q hql
        have KQ := K.out.row q hql
        have UU : Hid (∃ a' c', u = .slice a' rs[q]!.2.length c') := by obtain ⟨p1, p2, p3, _⟩ := hu; exact ⟨p1, p2, p3⟩
        have hu1 : RdI w1 u rs[q]!.2 := by
          obtain ⟨_, _, e1, ha1⟩ := RD.out.gb G1.out
          cases e1
          obtain ⟨b', o', u', ea', c1', c2', hu'⟩ := ha1 q hql
          rw [ea] at ea'
          cases ea'
          have := gb_keeps X.out.2 c2'
          rw [c2] at this
          cases this
          exact hu'
        have T : Hid (pre ++ rwB (rs.take (q + 1)) = pre ++ rwB (rs.take q) ++ leB rs[q]!.1.toNat 4 ++ coB rs[q]!.2) := by unfold Hid; rw [rwB_take hql]; simp [List.append_assoc]
        have L1 := LB.out q hq
        have L2 := LB.out (q + 1) hqn
        rw [T.out] at L2
        have hid : ((rs[q]!.1.toNat : Nat) : Int) = rs[q]!.1 := by omega
        have XL : 0 ≤ rs[q]!.1 ∧ rs[q]!.1 ≤ 1000000000 := by omega
        have own : Hid (∀ ob, OwnB (wr.alloc ob) w1.heap.size v3 pre → True) := fun _ _ => trivial
        generalize pre ++ rwB (rs.take q) = cur at *
        generalize rs[q]!.2 = vs at *
        generalize hy : rs[q]!.1 = y at *
        clear hy ha KQ own
        obtain ⟨a', c', rfl⟩ := UU.out
        have HU : Hid (RdI w1 (.slice a' vs.length c') vs) := hu1
        have hlv : Hid (cur.length + 4 + 4 * vs.length ≤ 140000) := by
          unfold Hid; simp only [List.length_append, leB_length, coB_length] at L2; omega
        have m1 := fun ob => withNumber_c (OwnB.gb X.out.1 (gb_alloc (Below.refl _ wr) ob)) (by rw [World.size_alloc]; have := X.out.2.size; omega) y.toNat 4 (by omega) (by omega)
        rw [hid] at m1
        have hlo := X.out.1.lo
        clear hu hu1 UU L2
        generalize hnv : vs.length = nv at *
        have NV : Hid (vs.length = nv) := hnv
        clear hnv
        subst ea
        go_wp2_with fail
        refine (m1 _).mono ?_
        rintro e w5 ⟨v5, rfl, o5, g5⟩
        have GA : Gb w1 (wr.alloc (.cells #[.int .i64 y, .slice a' nv c'] 50)) := gb_alloc X.out.2 _
        have B1 : (wr.alloc (.cells #[.int .i64 y, .slice a' nv c'] 50)).cell? ⟨wr.heap.size, 1, none⟩ = some (.slice a' nv c') := by simp [go_sem]
        have B2 := g5.keeps B1 (fun k e => by have := (hlo k e).2; show k ≠ wr.heap.size; omega)
        have G5 : Gb w1 w5 := OwnB.below GA (OwnB.gb X.out.1 (gb_alloc (Below.refl _ wr) _)) g5
        have HV := HU.out
        have m2 := withVector_g HV G5 o5 (by rw [List.length_append, leB_length, NV.out]; have := hlv.out; omega)
        rw [T.out.symm] at m2
        go_wp2_with fail
        refine m2.mono ?_
        rintro e w6 ⟨v6, rfl, o6, g6⟩
        go_wp2
        exact ⟨⟨q + 1, by simp, hqn, o6, g6⟩, by simp [intOf]; omega⟩
      · have e : q = n := by omega
        subst e
        have R : Hid (rs.take q = rs) := by unfold Hid; rw [List.take_of_length_le (by have := N.out; omega)]
        have Y := X.out
        rw [R.out, ← TT.out] at Y
        have hs := str_of Y.1.rd
        have YG := Y.2
        clear Y X
        go_wp2
        exact bodyPost_ret (v := .tuple #[.string (sb (prT rs)), .int .i64 0]) (by simp [results, Try.results24, go_sem]) rfl ⟨by rw [PV.out], gb_trans G1.out YG⟩
  · have PV : Hid (prV rs = .tuple #[.string (sb []), .int .i64 (crE rs)]) := by unfold Hid prV; rw [if_neg hz]
    generalize crE rs = z at *
    have hz' : (z != 0) = true := by rw [bne_iff_ne]; exact hz
    clear hz ha
    generalize rs.length = n at *
    go_enter Try.func24, Try.ntmps24
    go_wp2_with fail
    refine cR.mono ?_
    rintro e w1 ⟨rfl, g1⟩
    go_wp2
    exact bodyPost_ret (v := .tuple #[.string (sb []), .int .i64 z]) (by simp [results, Try.results24, go_sem]; rfl) rfl ⟨by rw [PV.out], g1⟩
end Go.Proofs.Ytmlincnmhjkjgaa
