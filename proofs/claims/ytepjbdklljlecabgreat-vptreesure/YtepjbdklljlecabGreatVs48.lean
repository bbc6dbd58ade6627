import Derived.Test.YtepjbdklljlecabGreatVs4
import Derived.Test.YtepjbdklljlecabGreatVsTimes
import Derived.Test.YtepjbdklljlecabGreatVs6
import Derived.Test.YtepjbdklljlecabGreatVs11
import Derived.Test.YtepjbdklljlecabGreatVs20
import Derived.Test.YtepjbdklljlecabGreatVsInB
import Derived.Test.YtepjbdklljlecabGreatVsFar
import Derived.Test.YtepjbdklljlecabGreatVs31
/- theodolitekeep.Vectors: it tells some number. -/
namespace Go.Proofs.YtepjbdklljlecabGreat
open Go.RowKit Go.Sort
set_option maxHeartbeats 2000000 in
set_option maxRecDepth 100000 in
theorem vects_c {w : World} {v : Value} {rs : List Rw} (h : RdW w v rs) (most : Int) (hlen : rs.length ≤ 9223372036854775807) :
    Calls Tryz.prog 13 #[v, .int .i64 most] w fun e w' => (∃ z : Int, e = .returned (.int .i64 z)) ∧ w = w' := by
  obtain ⟨a, cap, rfl, ha⟩ := h
  have A : Hid (∀ i, i < rs.length → ∃ b o u, a = some ⟨b, o, none⟩ ∧ w.cell? ⟨b, o + i * 2, none⟩ = some (.int .i64 rs[i]!.1) ∧ w.cell? ⟨b, o + i * 2 + 1, none⟩ = some u ∧ RdI w u rs[i]!.2) := ha
  obtain ⟨n, hN⟩ : ∃ n, n = rs.length := ⟨_, rfl⟩
  have N : Hid (n = rs.length) := hN
  rw [← hN] at hlen ⊢
  clear ha hN
  go_enter Tryz.func13, Tryz.ntmps13
  go_wp2
  go_loopw [5, 6] (fun zv iv w' => ∃ (q : Nat) (z : Int), zv = .int .i64 z ∧ iv = .int .i64 (q : Int) ∧ q ≤ n ∧ w = w') (fun _ iv _ => n - (intOf iv).toNat)
  case atStart => exact ⟨0, n, rfl, rfl, Nat.zero_le _, rfl⟩
  case round =>
    obtain ⟨q, z, rfl, rfl, hq, rfl⟩ := hrel
    by_cases hqn : q < n
    · have hqi : (q : Int) < (n : Int) := by omega
      by_cases hz : z ≤ most
      · have hql : q < rs.length := by have := N.out; omega
        obtain ⟨b, o, u, ea, hc, hd, hr⟩ := A.out q hql
        obtain ⟨pu, cu, eu, _⟩ := hr
        subst ea; subst eu
        generalize rs[q]!.2.length = k at *
        generalize rs[q]!.1 = x at *
        clear hql
        go_wp2
        go_roundw
        case rel => exact ⟨q + 1, _, rfl, by simp, hqn, by first | rfl | trivial⟩
        case measure => simp [intOf]; omega
      · go_wp2
        go_ret
        exact ⟨⟨_, rfl⟩, by first | rfl | trivial⟩
    · have hqi : ¬ (q : Int) < (n : Int) := by omega
      go_wp2
      go_ret
      exact ⟨⟨_, rfl⟩, by first | rfl | trivial⟩
end Go.Proofs.YtepjbdklljlecabGreat

/- The reference's Mul, as a contract. -/
namespace Go.Proofs.YtepjbdklljlecabGreat
open Go.RowKit

theorem of_small (x : Nat) (h : x < 18446744073709551616) (w : World) :
    Calls Tryz.prog 53 #[.agg #[.int .u64 0, .int .u64 (x : Int)]] w fun e w' => e = .returned (Nm x false) ∧ Gr w w' := by
  rw [small_wd x h]; exact of_any x (by omega) w
theorem times_ok (n m : Nat) (hn : n < 340282366920938463463374607431768211456) (hm : m < 340282366920938463463374607431768211456) (h : n * m < 340282366920938463463374607431768211456) (w : World) :
    Calls Tryz.prog 91 #[Nm n false, Nm m false] w fun e w' => e = .returned (Nm (n * m) false) ∧ Gr w w' := by
  have := times_false n m hn hm false w
  rw [Nat.mod_eq_of_lt h, decide_eq_false (by omega)] at this
  exact this
set_option maxHeartbeats 1000000 in
theorem rmul_any (x y : Nat) (hx : x < 18446744073709551616) (hy : y < 18446744073709551616) (w : World) :
    Calls Tryz.prog 58 #[.int .u64 (x : Int), .int .u64 (y : Int)] w fun e w' => e = .returned (Wd (x * y)) ∧ Gr w w' := by
  have hxy := mul_lt x y hx hy
  go_enter Tryz.func58, Tryz.ntmps58
  go_wp2_with fail
  refine (of_small x hx _).mono ?_
  rintro e w1 ⟨rfl, g1⟩
  go_wp2_with fail
  refine (of_small y hy _).mono ?_
  rintro e w2 ⟨rfl, g2⟩
  go_wp2_with fail
  refine (times_ok x y (by omega) (by omega) hxy _).mono ?_
  rintro e w3 ⟨rfl, g3⟩
  go_wp2_with fail
  refine (wide_any (x * y) hxy false _).mono ?_
  rintro e w4 ⟨rfl, g4⟩
  have G := ((g1.trans g2).trans g3).trans g4
  obtain ⟨v0, v1, v2, v3⟩ := G.var2
  go_wp2
  exact bodyPost_ret (v := Wd (x * y)) (by simp [results, Tryz.results58, go_sem, v0, v1]) rfl ⟨rfl, ((((Gr.refl _).alloc _ _).trans G).setCell (by dsimp only; omega) _).setCell (by dsimp only; omega) _⟩

end Go.Proofs.YtepjbdklljlecabGreat

/- theodoliteref03.Root. -/
namespace Go.Proofs.YtepjbdklljlecabGreat
open Go.RowKit

theorem rless_v (a b : Nat) (ha : a < 340282366920938463463374607431768211456) (hb : b < 340282366920938463463374607431768211456) (r : Bool) (h : decide (a < b) = r) (w : World) :
    Calls Tryz.prog 24 #[Wd a, Wd b] w fun e w' => e = .returned (.bool r) ∧ Gr w w' := by
  subst h; exact less_any a b ha hb w
set_option maxHeartbeats 2000000 in
theorem rroot_c (a : Nat) (ha : a < 340282366920938463463374607431768211456) (w : World) :
    Calls Tryz.prog 56 #[Wd a] w fun e w' => e = .returned (.int .u64 (rt a : Int)) ∧ Gr w w' := by
  go_enter Tryz.func56, Tryz.ntmps56
  go_wp2
  go_loopw [3, 4] (fun lv hv w' => ∃ x y : Nat, lv = .int .u64 (x : Int) ∧ hv = .int .u64 (y : Int) ∧ x ≤ y ∧ y < 18446744073709551616 ∧ Hid (x * x ≤ a ∧ a < (y + 1) * (y + 1)) ∧ Gr (w.alloc (.cells #[.int .u64 (hi a), .int .u64 (lo a)] 58)) w') (fun lv hv _ => (intOf hv - intOf lv).toNat)
  case atStart => exact ⟨0, 18446744073709551615, by simp, by simp, by omega, by omega, ⟨by omega, by omega⟩, Gr.refl _⟩
  case round =>
    obtain ⟨x, y, rfl, rfl, hxy, hy, X, hg⟩ := hrel
    obtain ⟨c0, c1, _, _⟩ := hg.var2
    by_cases hc : x < y
    · have hci : (x : Int) < (y : Int) := by omega
      obtain ⟨k, hk⟩ : ∃ k : Nat, k = x + (y - x) / 2 := ⟨_, rfl⟩
      obtain ⟨m, hm⟩ : ∃ m : Nat, m = k + 1 := ⟨_, rfl⟩
      have e1 : (x : Int) + ((y : Int) - (x : Int)) / 2 = (k : Int) := by omega
      have e2 : (k : Int) + 1 = (m : Int) := by omega
      have K : Hid (k = x + (y - x) / 2 ∧ m = k + 1 ∧ x < m ∧ m ≤ y) := ⟨hk, hm, by omega, by omega⟩
      have hm1 : m < 18446744073709551616 := by omega
      have hk1 : k < 18446744073709551616 := by omega
      have hmm := mul_lt m m hm1 hm1
      clear hk hm
      by_cases hlt : a < m * m
      · have cl := fun W => rless_v a (m * m) ha hmm true (decide_eq_true hlt) W
        have R : Hid (a < (m - 1 + 1) * (m - 1 + 1)) := by
          have := K.out.2.2.1
          unfold Hid; rw [Nat.sub_add_cancel (by omega)]; exact hlt
        clear hlt
        go_wp2
        go_region_held3 (fun w' => w'.cell? ⟨w.heap.size, 0, none⟩ = some (.int .u64 (hi a)) ∧ w'.cell? ⟨w.heap.size, 1, none⟩ = some (.int .u64 (lo a))) (first | (with_reducible exact call_keeps2 (by assumption) (by assumption)) | exact ⟨c0, c1⟩)
          (first
            | (go_at_call 58; refine (rmul_any m m hm1 hm1 _).mono ?_; rintro e w1 ⟨rfl, g1⟩)
            | (go_at_call 24; refine (cl _).mono ?_; rintro e w2 ⟨rfl, g2⟩))
        all_goals
          have hG := (hg.drew.trans g1).trans g2
          have hm0 : 1 ≤ m := by have := K.out; omega
          clear c0 c1 hg g1 g2
          go_wp2
          refine ⟨⟨x, m - 1, by go_num, ?_, ?_, by omega, ⟨X.out.1, R.out⟩, hG⟩, ?_⟩
          · rw [Int.natCast_sub hm0]; rfl
          · have := K.out; omega
          · have := K.out; simp [intOf]; omega
      · have cl := fun W => rless_v a (m * m) ha hmm false (decide_eq_false hlt) W
        have R : Hid (m * m ≤ a) := by unfold Hid; omega
        clear hlt
        go_wp2
        go_region_held3 (fun w' => w'.cell? ⟨w.heap.size, 0, none⟩ = some (.int .u64 (hi a)) ∧ w'.cell? ⟨w.heap.size, 1, none⟩ = some (.int .u64 (lo a))) (first | (with_reducible exact call_keeps2 (by assumption) (by assumption)) | exact ⟨c0, c1⟩)
          (first
            | (go_at_call 58; refine (rmul_any m m hm1 hm1 _).mono ?_; rintro e w1 ⟨rfl, g1⟩)
            | (go_at_call 24; refine (cl _).mono ?_; rintro e w2 ⟨rfl, g2⟩))
        all_goals
          have hG := (hg.drew.trans g1).trans g2
          clear c0 c1 hg g1 g2
          go_wp2
          refine ⟨⟨m, y, rfl, by go_num, ?_, hy, ⟨R.out, X.out.2⟩, hG⟩, ?_⟩
          · have := K.out; omega
          · have := K.out; simp [intOf]; omega
    · have hci : ¬ (x : Int) < (y : Int) := by omega
      have E : Hid (x = rt a) := by
        have h1 := X.out
        rw [show y = x by omega] at h1
        exact root_one h1
      go_wp2
      go_ret
      exact ⟨by rw [← E.out]; rfl, ((Gr.refl _).alloc _ _).trans hg⟩
end Go.Proofs.YtepjbdklljlecabGreat

/- The reference's In and Inside. -/
namespace Go.Proofs.YtepjbdklljlecabGreat
open Go.RowKit

end Go.Proofs.YtepjbdklljlecabGreat

/- The reference's region: one whose rows lie in it. -/
namespace Go.Proofs.YtepjbdklljlecabGreat
open Go.RowKit Go.Sort

end Go.Proofs.YtepjbdklljlecabGreat

/- flat.risingIds, somewhere. -/
namespace Go.Proofs.YtepjbdklljlecabGreat
open Go.RowKit Go.Sort

/-- Behind some rounds: the list of the ids so far. -/
structure UpSt (w W : World) (v : Value) (l : List Int) : Prop where
  row : Own W w.heap.size v l
  gb : Gb w W
theorem UpSt.alloc {w W : World} {v : Value} {l : List Int} (h : UpSt w W v l) (o : Obj) : UpSt w (W.alloc o) v l :=
  ⟨World.ownsRow.alloc h.row o, gb_alloc h.gb o⟩
theorem UpSt.next {w W W2 : World} {v v' : Value} {l : List Int} {x : Int} (h : UpSt w W v l)
    (hr : W2.ownsRow w.heap.size 3 1 v' (l.length + 1) (l.map (Value.int .i64) ++ [.int .i64 x])) (hg2 : W.grownBy W2 v.ownBlock) : UpSt w W2 v' (l ++ [x]) := by
  refine ⟨?_, below_grown h.gb hg2 (fun k e => (World.ownsRow.lt h.row k e).1) h.gb.size⟩
  unfold Own
  rw [List.length_append, List.map_append]
  exact hr

end Go.Proofs.YtepjbdklljlecabGreat

/- flat.Search. -/
namespace Go.Proofs.YtepjbdklljlecabGreat
open Go.RowKit Go.Sort

theorem grown_setCell (w : World) (p : Addr) (u : Value) : w.grownBy (w.setCell p u) (some p.block) :=
  ⟨rfl, rfl, rfl, by simp [World.setCell], fun k _ hn => Below.heap_setCell _ _ _ _ (by rintro rfl; exact hn rfl)⟩

/-- Rows that were not looked at, in memory from B on. -/
def RestAt (w : World) (B : Nat) (v : Value) (rs : List Rw) : Prop := (rs = [] ∧ v = .slice none 0 0) ∨ rs ≠ [] ∧ ∃ vi g, v = .slice (some ⟨g, 0, none⟩) 1 1 ∧ B ≤ g ∧
  w.heap[g]? = some (.cells #[.int .i64 1, .slice none 0 0, .slice none 0 0, .int .u64 0, .int .u64 0, vi] 79 (0, 0)) ∧ Own w B vi (srt (idsOf rs))
theorem RestAt.grown {w w' : World} {B : Nat} {v : Value} {rs : List Rw} {b : Nat} (h : RestAt w B v rs) (g : w.grownBy w' (some b)) (hb : b < B) : RestAt w' B v rs := by
  rcases h with h | ⟨h0, vi, x, h1, h2, h3, h4⟩
  · exact .inl h
  · refine .inr ⟨h0, vi, x, h1, h2, (g.block x (Array.getElem?_eq_some_iff.1 h3).1 (by simp; omega)).trans h3, h4.kept g (.inr fun e => ?_)⟩
    have := (World.ownsRow.lt h4 b e).1
    omega
/-- An answer: hits, ids that were seen, the rest; each in memory of its own. -/
def AnsB (w w' : World) (B1 B2 : Nat) (vh vs vr : Value) (rs : List Rw) (q : List Int) (k c : Nat) : Prop := w.heap.size ≤ B1 ∧ B1 ≤ B2 ∧ B2 ≤ w'.heap.size ∧ Gb w w' ∧ Tk.Own w' vh (Tk.firsts k (hitsOf q (rs.take c))).toArray ∧
  (∀ g, vh.ownBlock = some g → w.heap.size ≤ g ∧ g < B1) ∧ Own w' B1 vs (srt (idsOf (rs.take c))) ∧ (∀ g, vs.ownBlock = some g → g < B2) ∧ RestAt w' B2 vr (rs.drop c)
theorem AnsB.set {w w' : World} {B1 B2 : Nat} {vh vs vr : Value} {rs : List Rw} {q : List Int} {k c : Nat} (h : AnsB w w' B1 B2 vh vs vr rs q k c) (hne : vh.ownBlock ≠ some w.heap.size) (h1 : vs.ownBlock ≠ some w.heap.size) (h2 : w.heap.size < B2) (o : Nat) (u : Value) :
    AnsB w (w'.setCell ⟨w.heap.size, o, none⟩ u) B1 B2 vh vs vr rs q k c := by
  obtain ⟨b1, b2, b3, g, t, b4, b5, b6, b7⟩ := h
  have gs := grown_setCell w' ⟨w.heap.size, o, none⟩ u
  refine ⟨b1, b2, by have := gs.size; omega, gb_set g (Nat.le_refl _) u, ?_, b4, b5.kept gs (.inr h1), b6, b7.grown gs h2⟩
  exact Tk.own_kp t (Tk.Kp.grown gs) fun x hx e => hne (by rw [hx, e])

end Go.Proofs.YtepjbdklljlecabGreat
