import Derived.Test.YtepjbdklljlecabGreatVsTkDown
import Derived.Test.YtepjbdklljlecabGreatVs3
/- container/heap's Push and Fix. -/
namespace Go.Proofs.YtepjbdklljlecabGreat.Tk
open Go.RowKit Go.Sort

theorem Kp.trans' {S T : Nat → Prop} {a b c : World} (h : Kp S a b) (k : Kp T b c) (hT : ∀ i, i < a.heap.size → T i → S i) : Kp S a c :=
  ⟨k.os.trans h.os, k.tape.trans h.tape, k.output.trans h.output, Nat.le_trans h.size k.size, fun i hi hn => (k.block i (Nat.lt_of_lt_of_le hi h.size) (fun t => hn (hT i hi t))).trans (h.block i hi hn)⟩

/-- What a heap is behind a hit more. -/
def More (w w' : World) (hb : Nat) (k : Int) (v : Value) (d : Array Ht) (x : Ht) : Prop :=
  ∃ g cap d', d'.toList.Perm (d.toList ++ [x]) ∧ MaxH d' ∧ Hp w' hb k (.slice (some ⟨g, 0, none⟩) (d.size + 1) cap) d' ∧ Kp (fun b => b = hb ∨ some b = v.ownBlock) w w' ∧ (v.ownBlock = some g ∨ w.heap.size ≤ g)

set_option maxHeartbeats 2000000 in
set_option maxRecDepth 100000 in
theorem push25 {w : World} {hb : Nat} {k : Int} {v : Value} {d : Array Ht} (h : Hp w hb k v d) (hm : MaxH d) (hn : d.size ≤ 3000) (x : Ht) :
    Calls Tryz.prog 94 #[.iface 158 (.pointer (some ⟨hb, 1, none⟩)), .iface 60 (hv x)] w fun e w' => e = .returned (.tuple #[]) ∧ More w w' hb k v d x := by
  have H : Hid (Hp w hb k v d ∧ MaxH d) := ⟨h, hm⟩
  have hp := push75 h (by omega) x
  have hi := inv_push hb w
  obtain ⟨n, hN⟩ : ∃ n, n = d.size := ⟨_, rfl⟩
  have N : Hid (n = d.size) := hN
  rw [← hN] at hn
  clear h hm hN
  go_enter Tryz.func94, Tryz.ntmps94
  go_wp2_with fail
  refine hp.mono ?_
  rintro e w1 ⟨rfl, g, cap, h1, k1, hg⟩
  have hu := up_push H.out.2 x
  have e1 := N.out
  have X : Hid (Hp w1 hb k (.slice (some ⟨g, 0, none⟩) (n + 1) cap) (d.push x) ∧ UpInv (d.push x) n ∧ (d.push x).size = n + 1) := ⟨by rw [e1]; exact h1, by rw [e1]; exact hu, by rw [Array.size_push, e1]⟩
  have K1 : Hid (Kp (fun b => b = hb ∨ some b = v.ownBlock) w w1 ∧ (v.ownBlock = some g ∨ w.heap.size ≤ g)) := ⟨k1, hg⟩
  clear hp hi h1 k1 hg hu e1
  have hi := inv_len hb _ w1 X.out.1.cell1
  go_wp2_with fail
  refine (len72 _ _ _ _).mono ?_
  rintro e w2 ⟨rfl, e2⟩
  subst e2
  have e3 : ((n + 1 : Nat) : Int) - 1 = (n : Int) := by omega
  clear hi
  go_wp2_with fail
  refine (up_c X.out.1 X.out.2.2 (by omega) n (by omega) X.out.2.1).mono ?_
  rintro e w3 ⟨rfl, d', p1, p2, p3, p4⟩
  have Y : Hid (d'.toList.Perm (d.push x).toList ∧ MaxH d' ∧ Hp w3 hb k (.slice (some ⟨g, 0, none⟩) (n + 1) cap) d' ∧ Kp (fun b => b = g) w2 w3) := ⟨p1, p2, p3, p4⟩
  clear p1 p2 p3 p4
  go_wp2
  go_end0
  obtain ⟨p1, p2, p3, p4⟩ := Y.out
  obtain ⟨k1, hg⟩ := K1.out
  refine ⟨rfl, g, cap, d', by simpa using p1, p2, by rw [← N.out]; exact p3, k1.trans' p4 ?_, hg⟩
  rintro i hi rfl
  rcases hg with hg | hg
  · exact .inr hg.symm
  · omega

set_option maxHeartbeats 2000000 in
set_option maxRecDepth 100000 in
theorem fix26 {w : World} {hb g n cap : Nat} {k : Int} {d : Array Ht} (h : Hp w hb k (.slice (some ⟨g, 0, none⟩) n cap) d) (hs : d.size = n) (hn : n ≤ 4000) (hn0 : 0 < n) (hu : DownInv d 0) :
    Calls Tryz.prog 96 #[.iface 158 (.pointer (some ⟨hb, 1, none⟩)), .int .i64 0] w fun e w' => e = .returned (.tuple #[]) ∧ Fixed w w' hb g n cap k d := by
  have H : Hid (Hp w hb k (.slice (some ⟨g, 0, none⟩) n cap) d ∧ DownInv d 0 ∧ d.size = n) := ⟨h, hu, hs⟩
  have hi := inv_len hb _ w h.cell1
  clear h hs hu
  go_enter Tryz.func96, Tryz.ntmps96
  go_wp2_with fail
  refine (len72 _ _ _ _).mono ?_
  rintro e w2 ⟨rfl, e2⟩
  subst e2
  clear hi
  go_wp2_with fail
  refine (down_c H.out.1 H.out.2.2 hn 0 hn0 H.out.2.1).mono ?_
  rintro e w3 ⟨⟨b, rfl⟩, d', p1, p2, p3, p4⟩
  have Y : Hid (d'.toList.Perm d.toList ∧ MaxH d' ∧ Hp w3 hb k (.slice (some ⟨g, 0, none⟩) n cap) d' ∧ Kp (fun b => b = g) w2 w3) := ⟨p1, p2, p3, p4⟩
  clear p1 p2 p3 p4
  cases b with
  | true =>
    go_wp2
    go_end0
    exact ⟨rfl, d', Y.out⟩
  | false =>
    go_wp2_with fail
    refine (up_c (d := d') Y.out.2.2.1 (by have := Y.out.1.length_eq; have := H.out.2.2; simp at *; omega) hn 0 hn0 ⟨fun i h0 h1 _ => Y.out.2.1 i h0 h1, fun _ _ _ _ h0 => absurd h0 (Nat.lt_irrefl _)⟩).mono ?_
    rintro e w4 ⟨rfl, d'', p1, p2, p3, p4⟩
    have Y2 : Hid (d''.toList.Perm d'.toList ∧ MaxH d'' ∧ Hp w4 hb k (.slice (some ⟨g, 0, none⟩) n cap) d'' ∧ Kp (fun b => b = g) w3 w4) := ⟨p1, p2, p3, p4⟩
    clear p1 p2 p3 p4
    go_wp2
    go_end0
    exact ⟨rfl, d'', Y2.out.1.trans Y.out.1, Y2.out.2.1, Y2.out.2.2.1, Y.out.2.2.2.trans Y2.out.2.2.2⟩
end Go.Proofs.YtepjbdklljlecabGreat.Tk

/- Roots; vec.ballBound. -/
namespace Go.Proofs.YtepjbdklljlecabGreat
open Go.RowKit

/-- The greatest number up to n whose square is not above a. -/
def rtTo (a : Nat) : Nat → Nat
  | 0 => 0
  | n + 1 => if (n + 1) * (n + 1) ≤ a then n + 1 else rtTo a n
def rt (a : Nat) : Nat := rtTo a a
theorem rtTo_is (a : Nat) : ∀ n, a < (n + 1) * (n + 1) → IsRoot a (rtTo a n)
  | 0, h => ⟨Nat.zero_le _, by simpa [rtTo] using h⟩
  | n + 1, h => by
    unfold rtTo
    split
    · rename_i h1; exact ⟨h1, h⟩
    · rename_i h1; exact rtTo_is a n (by omega)
theorem rt_is (a : Nat) : IsRoot a (rt a) := rtTo_is a a (by
  have : (a + 1) * 1 ≤ (a + 1) * (a + 1) := Nat.mul_le_mul_left _ (by omega)
  omega)
theorem root_le {a r s : Nat} (h1 : IsRoot a r) (h2 : IsRoot a s) : s ≤ r := by
  apply Nat.le_of_not_lt; intro hc
  have := sq_le (show r + 1 ≤ s by omega)
  have := h1.2; have := h2.1; omega
theorem root_one {a r : Nat} (h : IsRoot a r) : r = rt a := Nat.le_antisymm (root_le (rt_is a) h) (root_le h (rt_is a))
theorem rt_lt {a : Nat} (ha : a < 340282366920938463463374607431768211456) : rt a < 18446744073709551616 := by
  apply Nat.lt_of_not_le; intro hc
  have := sq_le hc
  have := (rt_is a).1; omega
theorem sqrt_c (a : Nat) (ha : a < 340282366920938463463374607431768211456) (w : World) :
    Calls Tryz.prog 120 #[Wd a] w fun e w' => e = .returned (.int .u64 (rt a : Int)) ∧ Gr w w' := by
  refine (sqrt_any a ha w).mono ?_
  rintro e w' ⟨r, rfl, _, hr, g⟩
  rw [root_one hr]; exact ⟨rfl, g⟩

/-- The least number whose square is not below R. -/
def rup (R : Nat) : Nat := if rt R * rt R = R then rt R else rt R + 1
/-- The bound of a ball: a the distance from its centre. -/
def ballV (a R : Nat) : Nat := if rt a ≤ rt R then 0 else (rt a - rup R) * (rt a - rup R)

theorem wd_ne (a b : Nat) (r : Bool) (h : (!decide (a = b)) = r) (W : World) : (binOp .neq 58 (.agg #[.int .u64 (hi a), .int .u64 (lo a)]) (.agg #[.int .u64 (hi b), .int .u64 (lo b)])).run Tryz.prog W = .ok (.bool r) W := by
  subst h
  have h1 := wd_eq a b W
  rw [run_eql_struct] at h1
  rw [run_neq_struct]
  revert h1
  generalize (Op.equalIn 10000 58 (Wd a) (Wd b)).run Tryz.prog W = x
  intro h1
  cases x with
  | ok v w' =>
    simp only [Result.andThen] at h1 ⊢
    injection h1 with h2 h3
    injection h2 with h4
    rw [h3, h4]
  | _ => simp [Result.andThen] at h1

set_option maxHeartbeats 4000000 in
set_option maxRecDepth 100000 in
theorem ballBound_c {w : World} {v u : Value} {r : Reg} {a : List Int} (hv : RdR w v r) (hu : RdI w u a) (hl : r.L.length = a.length) (hn : r.L.length ≤ 64) (rl : allR r.L = true) (ra : allR a = true) (hR : r.R < 340282366920938463463374607431768211456) :
    Calls Tryz.prog 79 #[v, u] w fun e w' => e = .returned (Wd (ballV (dst r.L a) r.R)) ∧ Gr w w' := by
  have HV : Hid (RdR w v r) := hv
  obtain ⟨vl, vh, vi, rfl, hL, hH, hI⟩ := hv
  have RA : Hid (RegAt (w.alloc (rc r vl vh vi)) w.heap.size r vl vh vi) := RegAt.new w r vl vh vi
  have G00 : Gr w (w.alloc (rc r vl vh vi)) := (Gr.refl _).alloc _ _
  have G0 : Gr w ((w.alloc (rc r vl vh vi)).alloc (.cells #[.int .u64 0, .int .u64 0] 58)) := G00.alloc _ _
  have c1 := distance_c (hL.gb G0.gb) (hu.gb G0.gb) hl hn rl ra
  have c2 := fun W => sqrt_c (dst r.L a) (dst_lt rl ra hl hn) W
  have c3 := fun W => sqrt_c r.R hR W
  have l1 := rt_lt (dst_lt rl ra hl hn)
  have l2 := rt_lt hR
  have l3 := (rt_is (dst r.L a)).1
  have l4 := dst_lt rl ra hl hn
  clear hH hI HV hl hn rl ra
  obtain ⟨S, L, H, R, I⟩ := r
  dsimp only at *
  obtain ⟨pl, cl, rfl, _⟩ := hL
  obtain ⟨pa, ca, rfl, _⟩ := hu
  generalize L.length = nl at *
  generalize a.length = na at *
  have E : Hid (ballV (dst L a) R = if rt (dst L a) ≤ rt R then 0 else (rt (dst L a) - rup R) * (rt (dst L a) - rup R)) := rfl
  generalize ballV (dst L a) R = res at *
  generalize dst L a = D at *
  have E2 : Hid (rup R = if rt R * rt R = R then rt R else rt R + 1) := rfl
  generalize rt D = s at *
  generalize rup R = t' at *
  generalize rt R = t at *
  clear l3 l4
  have W0 : Hid (Gr (w.alloc (.cells #[.int .i64 S, .slice pl nl cl, vh, .int .u64 (hi R), .int .u64 (lo R), vi] 79)) ((w.alloc (.cells #[.int .i64 S, .slice pl nl cl, vh, .int .u64 (hi R), .int .u64 (lo R), vi] 79)).alloc (.cells #[.int .u64 0, .int .u64 0] 58))) := (Gr.refl _).alloc _ _
  go_enter Tryz.func79, Tryz.ntmps79
  go_wp2_with fail
  refine c1.mono ?_
  rintro e w1 ⟨rfl, g1⟩
  go_wp2_with fail
  refine (c2 _).mono ?_
  rintro e w2 ⟨rfl, g2⟩
  have g2 := g1.trans g2
  obtain ⟨_, _, _, q3, q4, _⟩ := RA.out.gb (W0.out.trans g2).gb
  dsimp only at q3 q4
  go_wp2_with fail
  refine (c3 _).mono ?_
  rintro e w3 ⟨rfl, g3⟩
  have G3 := g2.trans g3
  have VV := G3.var2
  simp only [World.size_alloc] at VV
  obtain ⟨v0, v1, v2, v3⟩ := VV
  clear c1 c2 c3 g1 g2 g3 q3 q4
  by_cases hst : s ≤ t
  · rw [if_pos hst] at E
    have e := E.out
    subst e
    have hst' : (s : Int) ≤ (t : Int) := by omega
    clear E E2 hst
    go_wp2
    exact bodyPost_ret (v := Wd 0) (by simp [results, Tryz.results79, go_sem, v0, v1, hi, lo]) rfl ⟨rfl, by repeat (first | exact G0.trans G3 | refine Gr.setCell ?_ (by simp) _)⟩
  · rw [if_neg hst] at E
    have hst' : ¬ (s : Int) ≤ (t : Int) := by omega
    obtain ⟨_, _, _, q3, q4, _⟩ := RA.out.gb (W0.out.trans G3).gb
    dsimp only at q3 q4
    have cm := fun W => mul_any t t l2 l2 W
    have reg : ∀ r' : Bool, (!decide (t * t = R)) = r' → Hid ((!decide (t * t = R)) = r') := fun _ h => h
    by_cases ht : t * t = R
    · have hne := fun W => wd_ne (t * t) R false (by simp [ht]) W
      rw [if_pos ht] at E2
      have e := E2.out
      subst e
      have cs := fun W => mul_int ((s : Int) - (t' : Int)) ((s : Int) - (t' : Int)) (by omega) (by omega) (by omega) (by omega) W
      have E3 : Hid (((s : Int) - (t' : Int)).toNat * ((s : Int) - (t' : Int)).toNat = res) := by unfold Hid; rw [E.out]; congr 1 <;> omega
      rw [E3.out] at cs
      have b1 : 0 ≤ (s : Int) - (t' : Int) := by omega
      have b2 : (s : Int) - (t' : Int) < 18446744073709551616 := by omega
      clear E E2 E3 hst ht reg
      go_wp2
      go_region_held3 (fun w' => w'.cell? ⟨w.heap.size, 3, none⟩ = some (.int .u64 (hi R)) ∧ w'.cell? ⟨w.heap.size, 4, none⟩ = some (.int .u64 (lo R))) (first | (with_reducible exact call_keeps2 (by assumption) (by assumption)) | exact ⟨q3, q4⟩)
        (first
          | (go_at_call 122; refine (cm _).mono ?_; rintro e w4 ⟨rfl, g4⟩))
      all_goals
        have G4 := G3.drew.trans g4
        go_wp2_with fail
        refine (cs _).mono ?_
        rintro e w5 ⟨rfl, g5⟩
        have G5 := G4.trans g5
        have VV := G5.var2
        simp only [World.size_alloc] at VV
        obtain ⟨u0, u1, u2, u3⟩ := VV
        go_wp2
        exact bodyPost_ret (v := Wd res) (by simp [results, Tryz.results79, go_sem, u0, u1]) rfl ⟨rfl, by repeat (first | exact G0.trans G5 | refine Gr.setCell ?_ (by simp) _)⟩
    · have hne := fun W => wd_ne (t * t) R true (by simp [ht]) W
      rw [if_neg ht] at E2
      have e := E2.out
      have T1 : Hid ((t : Int) + 1 = (t' : Int)) := by unfold Hid; omega
      have cs := fun W => mul_int ((s : Int) - (t' : Int)) ((s : Int) - (t' : Int)) (by omega) (by omega) (by omega) (by omega) W
      have E3 : Hid (((s : Int) - (t' : Int)).toNat * ((s : Int) - (t' : Int)).toNat = res) := by unfold Hid; rw [E.out]; congr 1 <;> omega
      rw [E3.out] at cs
      have BB : Hid (0 ≤ (s : Int) - (t' : Int) ∧ (s : Int) - (t' : Int) < 18446744073709551616) := ⟨by omega, by omega⟩
      clear e
      clear E E2 E3 hst ht reg
      go_wp2
      go_region_held3 (fun w' => w'.cell? ⟨w.heap.size, 3, none⟩ = some (.int .u64 (hi R)) ∧ w'.cell? ⟨w.heap.size, 4, none⟩ = some (.int .u64 (lo R))) (first | (with_reducible exact call_keeps2 (by assumption) (by assumption)) | exact ⟨q3, q4⟩)
        (first
          | (go_at_call 122; refine (cm _).mono ?_; rintro e w4 ⟨rfl, g4⟩))
      all_goals
        have G4 := G3.drew.trans g4
        have T2 := T1.out
        obtain ⟨b1, b2⟩ := BB.out
        go_wp2_with fail
        refine (cs _).mono ?_
        rintro e w5 ⟨rfl, g5⟩
        have G5 := G4.trans g5
        have VV := G5.var2
        simp only [World.size_alloc] at VV
        obtain ⟨u0, u1, u2, u3⟩ := VV
        go_wp2
        exact bodyPost_ret (v := Wd res) (by simp [results, Tryz.results79, go_sem, u0, u1]) rfl ⟨rfl, by repeat (first | exact G0.trans G5 | refine Gr.setCell ?_ (by simp) _)⟩
end Go.Proofs.YtepjbdklljlecabGreat
