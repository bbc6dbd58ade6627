/- kmeans.divide, moveToMiddle. -/
import Derived.Test.YtblfmhdcgmkpgaaKRd
namespace Go.Proofs.Ytblfmhdcgmkpgaa
open Go.RowKit

/-- Of what was there only blocks of S may have turned. -/
structure Kp (S : Nat → Prop) (w w' : World) : Prop where
  os : w'.os = w.os
  tape : w'.tape = w.tape
  output : w'.output = w.output
  size : w.heap.size ≤ w'.heap.size
  block : ∀ b, b < w.heap.size → ¬ S b → w'.heap[b]? = w.heap[b]?
theorem Kp.refl (S : Nat → Prop) (w : World) : Kp S w w := ⟨rfl, rfl, rfl, Nat.le_refl _, fun _ _ _ => rfl⟩
theorem Kp.trans {S : Nat → Prop} {a b c : World} (h : Kp S a b) (k : Kp S b c) : Kp S a c :=
  ⟨k.os.trans h.os, k.tape.trans h.tape, k.output.trans h.output, Nat.le_trans h.size k.size, fun i hi hn => (k.block i (Nat.lt_of_lt_of_le hi h.size) hn).trans (h.block i hi hn)⟩
theorem Kp.set {S : Nat → Prop} {a w : World} (h : Kp S a w) {p : Addr} (hp : S p.block ∨ a.heap.size ≤ p.block) (u : Value) : Kp S a (w.setCell p u) :=
  ⟨h.os, h.tape, h.output, Nat.le_trans h.size (KeepsWalks.setCell w p u).size, fun k hk hn => (Below.heap_setCell w p u k (fun e => by
    rcases hp with hp | hp
    · exact hn (by rw [e]; exact hp)
    · omega)).trans (h.block k hk hn)⟩
theorem Kp.below {S : Nat → Prop} {w0 w w' : World} (h : Kp S w w') (g : Gb w0 w) (hS : ∀ b, S b → w0.heap.size ≤ b) : Gb w0 w' :=
  ⟨h.os.trans g.os, h.tape.trans g.tape, h.output.trans g.output, Nat.le_trans g.size h.size, fun k hk => (h.block k (Nat.lt_of_lt_of_le hk g.size) (fun e => by have := hS k e; omega)).trans (g.block k hk)⟩
theorem Kp.mono {S T : Nat → Prop} {w w' : World} (h : Kp S w w') (hS : ∀ b, S b → T b) : Kp T w w' := ⟨h.os, h.tape, h.output, h.size, fun b hb hn => h.block b hb (fun e => hn (hS b e))⟩
theorem Kp.gb {S : Nat → Prop} {w w' : World} (g : Gb w w') : Kp S w w' := ⟨g.os, g.tape, g.output, g.size, fun b hb _ => g.block b hb⟩
theorem Kp.cell {S : Nat → Prop} {w w' : World} (h : Kp S w w') {p : Addr} {v : Value} (hc : w.cell? p = some v) (hn : ¬ S p.block) : w'.cell? p = some v :=
  (World.cell?_of_block (h.block p.block (World.block_lt_of_cell? w p hc) hn)).trans hc
theorem arr_kp {S : Nat → Prop} {w w' : World} {g n cap : Nat} {f : Nat → Int} (h : Rn.Arr w g n cap f) (k : Kp S w w') (hn : ¬ S g) : Rn.Arr w' g n cap f := by
  have hl := h.lt
  obtain ⟨cur, h1, h2⟩ := h
  exact ⟨cur, (k.block g hl hn).trans h1, h2⟩
theorem own_kp {S : Nat → Prop} {w w' : World} {B : Nat} {v : Value} {l : List Int} (h : Own w B v l) (k : Kp S w w') (hn : ∀ g, v.ownBlock = some g → ¬ S g) : Own w' B v l := by
  refine ⟨h.1, ?_⟩
  rcases h.2 with h | ⟨g, cap, cur, rfl, h1, h2, r⟩
  · exact .inl h
  · exact .inr ⟨g, cap, cur, rfl, h1, (k.block g (Array.getElem?_eq_some_iff.1 h2).1 (hn g rfl)).trans h2, r⟩
theorem arr_rd {w : World} {g n cap : Nat} {f : Nat → Int} {l : List Int} (h : Rn.Arr w g n cap f) (hn : l.length = n) (hf : ∀ i, i < n → f i = l[i]!) : RdI w (.slice (some ⟨g, 0, none⟩) n cap) l :=
  ⟨some ⟨g, 0, none⟩, cap, by rw [hn], fun i hi => ⟨g, 0, rfl, by rw [Nat.zero_add, h.cell (by omega), hf i (by omega)]⟩⟩

theorem ediv_uniq {a b q : Int} (hb : 0 < b) (h1 : q * b ≤ a) (h2 : a < (q + 1) * b) : a / b = q := by
  have h3 := (Int.le_ediv_iff_mul_le hb).2 h1
  have h4 := Int.ediv_lt_of_lt_mul hb h2
  omega
theorem div_neg {a : Int} {b : Nat} (hb : 0 < b) (h : a.tmod b < 0) : a.tdiv b - 1 = a / b := by
  have h1 := Int.tmod_add_mul_tdiv a b
  have h2 := Int.lt_tmod_of_pos a (b := (b : Int)) (by omega)
  refine (ediv_uniq (by omega) ?_ ?_).symm
  · rw [Int.sub_mul, Int.mul_comm]; omega
  · rw [Int.sub_add_cancel, Int.mul_comm]; omega
theorem div_pos {a : Int} {b : Nat} (hb : 0 < b) (h : ¬ a.tmod b < 0) : a.tdiv b = a / b := by
  have h1 := Int.tmod_add_mul_tdiv a b
  have h2 := Int.tmod_lt_of_pos a (b := (b : Int)) (by omega)
  refine (ediv_uniq (by omega) ?_ ?_).symm
  · rw [Int.mul_comm]; omega
  · rw [Int.add_mul, Int.mul_comm]; omega
set_option maxHeartbeats 1000000 in
theorem divide_c (a : Int) (b : Nat) (hb : 0 < b) (ha : -4611686018427387904 ≤ a ∧ a ≤ 4611686018427387904) (w : World) :
    Calls Try.prog 86 #[.int .i64 a, .int .i64 (b : Int)] w fun e w' => e = .returned (.int .i64 (a / b)) ∧ w = w' := by
  have hq : -4611686018427387904 ≤ a / b ∧ a / b ≤ 4611686018427387904 := by
    refine div_within (by omega) ?_ ?_
    · have : (-4611686018427387904 : Int) * b ≤ -4611686018427387904 := by omega
      omega
    · have : (4611686018427387904 : Int) ≤ 4611686018427387904 * b := by omega
      omega
  have hb0 : ((b : Int) == 0) = false := by rw [beq_eq_false_iff_ne]; omega
  have hb1 : ¬ (b : Int) = 0 := by omega
  have hb2 : ¬ (b : Int) = -1 := by omega
  by_cases h : a.tmod b < 0
  · have e := div_neg hb h
    have hq2 : -4611686018427387904 ≤ a.tdiv b ∧ a.tdiv b ≤ 4611686018427387905 := by omega
    obtain ⟨q1, q2⟩ := hq2
    have w1 : IntKind.i64.wrap (a.tdiv b) = a.tdiv b := by rw [IntKind.wrap_i64]; omega
    have w2 : IntKind.i64.wrap (a.tdiv b - 1) = a.tdiv b - 1 := by rw [IntKind.wrap_i64]; omega
    rw [← e]
    go_enter Try.func86, Try.ntmps86
    go_wp2
    go_ret
    exact ⟨by simp; exact e.symm, rfl⟩
  · have e := div_pos hb h
    have hq2 : -4611686018427387904 ≤ a.tdiv b ∧ a.tdiv b ≤ 4611686018427387905 := by omega
    obtain ⟨q1, q2⟩ := hq2
    have w1 : IntKind.i64.wrap (a.tdiv b) = a.tdiv b := by rw [IntKind.wrap_i64]; omega
    rw [← e]
    go_enter Try.func86, Try.ntmps86
    go_wp2
    go_ret
    exact ⟨by simp, rfl⟩

/-- Where coordinate t of vector j lies. -/
theorem coord_at {w : World} {a : Option Addr} {n cap : Nat} {l : Vs} (h : RdV w (.slice a n cap) l) {j t : Nat} (hj : j < l.length) (ht : t < l[j]!.length) : ∃ b o b' o' c', a = some ⟨b, o, none⟩ ∧ w.cell? ⟨b, o + j, none⟩ = some (.slice (some ⟨b', o', none⟩) l[j]!.length c') ∧ w.cell? ⟨b', o' + t, none⟩ = some (.int .i64 l[j]![t]!) := by
  obtain ⟨_, _, e, h⟩ := h
  cases e
  obtain ⟨b, o, u, e1, h1, pu, cu, rfl, h2⟩ := h j hj
  obtain ⟨b', o', e2, h3⟩ := h2 t ht
  subst e2
  exact ⟨b, o, b', o', cu, e1, h1, h3⟩
/-- What a centre's coordinates become. -/
def midF (l : Vs) (f : Nat → Int) (ps : List Nat) : Nat → Int := if ps.length = 0 then f else fun t => sumTo l ps t ps.length / (ps.length : Int)
theorem place_at {w : World} {a : Option Addr} {n cap : Nat} {ps : List Nat} (h : RdI w (.slice a n cap) (ps.map Int.ofNat)) {i : Nat} (hi : i < ps.length) : ∃ b o, a = some ⟨b, o, none⟩ ∧ w.cell? ⟨b, o + i, none⟩ = some (.int .i64 (ps[i]! : Nat)) := by
  obtain ⟨_, _, e, h⟩ := h
  cases e
  obtain ⟨b, o, e1, h1⟩ := h i (by simpa using hi)
  refine ⟨b, o, e1, ?_⟩
  rw [h1, getElem!_pos _ i (by simpa using hi), getElem!_pos ps i hi]; simp

set_option maxHeartbeats 4000000 in
set_option maxRecDepth 100000 in
theorem move_c {w : World} {lv pv : Value} {l : Vs} {g d cap : Nat} {f : Nat → Int} {ps : List Nat} (hl : ∀ W, Kp (fun b => b = g) w W → RdV W lv l) (hp : ∀ W, Kp (fun b => b = g) w W → RdI W pv (ps.map Int.ofNat))
    (hA : Rn.Arr w g d cap f) (hd : d ≤ 64) (hps : ∀ i, i < ps.length → ps[i]! < l.length) (hlen : ps.length ≤ 512) (hok : ∀ j, j < l.length → l[j]!.length = d ∧ allR l[j]! = true) :
    Calls Try.prog 79 #[.slice (some ⟨g, 0, none⟩) d cap, lv, pv] w fun e w' => e = .returned (.tuple #[]) ∧ Rn.Arr w' g d cap (midF l f ps) ∧ Kp (fun b => b = g) w w' := by
  have L : Hid (∀ W, Kp (fun b => b = g) w W → RdV W lv l) := hl
  have P : Hid (∀ W, Kp (fun b => b = g) w W → RdI W pv (ps.map Int.ofNat)) := hp
  have O : Hid ((∀ i, i < ps.length → ps[i]! < l.length) ∧ ∀ j, j < l.length → l[j]!.length = d ∧ allR l[j]! = true) := ⟨hps, hok⟩
  obtain ⟨al, cl, rfl, _⟩ := hl w (Kp.refl _ _)
  obtain ⟨ap, cp, rfl, _⟩ := hp w (Kp.refl _ _)
  rw [List.length_map] at P ⊢
  obtain ⟨n, hN⟩ : ∃ n, n = ps.length := ⟨_, rfl⟩
  have N : Hid (n = ps.length) := hN
  rw [← hN] at P hlen ⊢
  clear hl hp hps hok
  by_cases hn : n = 0
  · have E : Hid (midF l f ps = f) := by unfold Hid midF; rw [if_pos (by omega)]
    subst hn
    clear hN
    go_enter Try.func79, Try.ntmps79
    go_wp2
    refine bodyPost_ret (results_none rfl _ _ _) rfl ?_
    exact ⟨rfl, by rw [E.out]; exact hA, Kp.refl _ _⟩
  · have E : Hid (midF l f ps = fun t => sumTo l ps t n / (n : Int)) := by unfold Hid midF; rw [if_neg (by omega), hN]
    have hn' : ((n : Int) == 0) = false := by rw [beq_eq_false_iff_ne]; omega
    have hn0 : 0 < n := by omega
    clear hN hn
    go_enter Try.func79, Try.ntmps79
    go_wp2
    go_loopw [14] (fun iv W => ∃ q : Nat, iv = .int .i64 (q : Int) ∧ q ≤ d ∧ Kp (fun b => b = g) w W ∧ Rn.Arr W g d cap (fun t => if t < q then sumTo l ps t n / (n : Int) else f t)) (fun iv _ => d - (intOf iv).toNat)
    case atStart => exact ⟨0, rfl, Nat.zero_le _, Kp.refl _ _, hA.congr (fun i _ => by simp)⟩
    case round =>
      obtain ⟨q, rfl, hq, hK, hB⟩ := hrel
      by_cases hqn : q < d
      · have hqi : decide ((q : Int) < (d : Int)) = true := by rw [decide_eq_true_eq]; omega
        have LW := L.out wr hK
        have PW := P.out wr hK
        have bd : ∀ r, r ≤ n → -4611686018427387904 ≤ sumTo l ps q r ∧ sumTo l ps q r ≤ 4611686018427387904 := by
          intro r hr
          have hr' : r ≤ 512 := by omega
          have := sumTo_within l ps q (-2147483647) 2147483647 r (by have := N.out; omega) (fun i hi => by
            have h1 := O.out.1 i (by have := N.out; omega)
            have h2 := O.out.2 _ h1
            exact allR_get h2.2 (by omega))
          omega
        have BD : Hid (∀ r, r ≤ n → -4611686018427387904 ≤ sumTo l ps q r ∧ sumTo l ps q r ≤ 4611686018427387904) := bd
        have LW' : Hid (RdV wr (.slice al l.length cl) l) := LW
        have PW' : Hid (RdI wr (.slice ap n cp) (ps.map Int.ofNat)) := PW
        clear LW PW bd
        go_wp2
        go_loopw [7, 19] (fun sv iv W => ∃ r : Nat, iv = .int .i64 (r : Int) ∧ r ≤ n ∧ sv = .int .i64 (sumTo l ps q r) ∧ wr = W) (fun _ iv _ => n - (intOf iv).toNat)
        case atStart => exact ⟨0, rfl, Nat.zero_le _, rfl, rfl⟩
        case round =>
          obtain ⟨r, rfl, hr, rfl, rfl⟩ := hrel
          by_cases hrn : r < n
          · have hri : (r : Int) < (n : Int) := by omega
            have hrl : r < ps.length := by have := N.out; omega
            obtain ⟨b1, o1, ea, k1⟩ := place_at PW'.out hrl
            have hj := O.out.1 r hrl
            have hjd := O.out.2 _ hj
            obtain ⟨b2, o2, b3, o3, c3, eb, k2, k3⟩ := coord_at LW'.out (j := ps[r]!) (t := q) hj (by omega)
            rw [hjd.1] at k2
            have NX : Hid (sumTo l ps q (r + 1) = sumTo l ps q r + l[ps[r]!]![q]!) := rfl
            have hb1 := BD.out r hr
            have hb2 := BD.out (r + 1) hrn
            rw [NX.out] at hb2
            generalize sumTo l ps q r = s at *
            generalize l[ps[r]!]![q]! = y at *
            generalize ps[r]! = j at *
            obtain ⟨nl, hnl⟩ : ∃ nl, nl = l.length := ⟨_, rfl⟩
            rw [← hnl] at hj
            have hji : (j : Int) < (nl : Int) := by omega
            have hqd : (q : Int) < (d : Int) := by omega
            subst ea
            subst eb
            obtain ⟨m1, m2⟩ := hb1
            obtain ⟨m3, m4⟩ := hb2
            have ww : IntKind.i64.wrap (s + y) = s + y := by rw [IntKind.wrap_i64]; omega
            clear hjd L P LW' PW' O BD
            rw [← hnl]
            clear hnl
            go_wp2
            go_roundw
            case rel => exact ⟨r + 1, by go_num, hrn, by rw [NX.out], by first | rfl | trivial⟩
            case measure => simp [intOf]; omega
          · have hri : ¬ (r : Int) < (n : Int) := by omega
            have hrn' : r = n := by omega
            subst hrn'
            have hb := BD.out r (Nat.le_refl _)
            have cd := fun W => divide_c (sumTo l ps q r) r hn0 hb W
            have cA := hB.cell hqn
            have fA := hB.frozen q
            have hqd : (q : Int) < (d : Int) := by omega
            have HB := (hB.set hqn (sumTo l ps q r / (r : Int))).congr (f' := fun t => if t < q + 1 then sumTo l ps t r / (r : Int) else f t) (fun i hi => by
              by_cases e : i = q
              · subst e; simp
              · simp only [if_neg e]; by_cases e2 : i < q
                · rw [if_pos e2, if_pos (by omega)]
                · rw [if_neg e2, if_neg (by omega)])
            have HK := hK.set (p := ⟨g, q, none⟩) (.inl rfl) (.int .i64 (sumTo l ps q r / (r : Int)))
            generalize sumTo l ps q r / (r : Int) = z at *
            generalize sumTo l ps q r = s at *
            clear L P LW' PW' O BD hb hB hK
            go_wp2_with (go_at_call 86; refine (cd _).mono ?_; rintro e w' ⟨rfl, e2⟩; subst e2)
            go_roundw
            case rel => exact ⟨q + 1, by go_num, hqn, HK, HB⟩
            case measure => simp [intOf]; omega
      · have hqi : ¬ (q : Int) < (d : Int) := by omega
        go_wp2
        refine bodyPost_end (results_none rfl _ _ _) rfl ?_
        exact ⟨rfl, by rw [E.out]; exact hB.congr (fun i hi => by rw [if_pos (by omega)]), hK⟩
end Go.Proofs.Ytblfmhdcgmkpgaa
