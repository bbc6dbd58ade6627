/- The reference's source: Next, Below, Perm. -/
import Derived.Test.YtblfmhdcgmkpgaaRnPerm
import Derived.Maps.AppendAt
import Derived.Maps.OwnSet
namespace Go.Proofs.Ytblfmhdcgmkpgaa.Rn
open Go.RowKit Go.Shelf

theorem grown_trans {a b c : World} {r : Nat} {q : Option Nat} (h : a.grownBy b q) (k : b.grownBy c (some r)) (hr : q = some r ∨ a.heap.size ≤ r) : a.grownBy c q :=
  ⟨k.os.trans h.os, k.tape.trans h.tape, k.output.trans h.output, Nat.le_trans h.size k.size, fun i hi hn => (k.block i (Nat.lt_of_lt_of_le hi h.size) (fun e => by
    rcases hr with hr | hr
    · exact hn (by rw [e, hr])
    · cases e; omega)).trans (h.block i hi hn)⟩
def belV (x n : Int) : Int := if ckOk n 1 1000000000 then mx (stp x) % n else 0
def belS (x n : Int) : Int := if ckOk n 1 1000000000 then stp x else x
set_option maxHeartbeats 1000000 in
theorem rnext_c (b : Nat) (x : Int) (w : World) (hb : Boxed w b 86 (.int .u64 x)) :
    Calls Try.prog 72 #[.pointer (some ⟨b, 0, none⟩)] w fun e w' => e = .returned (.int .u64 (mx (stp x))) ∧ Boxed w' b 86 (.int .u64 (stp x)) ∧ w.grownBy w' (some b) := by
  have c1 := hb.cell
  have f1 := hb.frozen
  have F : Boxed (w.setCell ⟨b, 0, none⟩ (.int .u64 (IntKind.u64.wrap (x + 11400714819323198485)))) b 86 (.int .u64 (stp x)) := hb.set _
  have G := grownBy_set (grownBy_refl w (some b)) (p := ⟨b, 0, none⟩) (.inl rfl) (.int .u64 (IntKind.u64.wrap (x + 11400714819323198485)))
  have c2 := F.cell
  obtain ⟨z1, z2⟩ := u_stp x
  have hmx : bits .xor .u64 (IntKind.u64.wrap (bits .xor .u64 (IntKind.u64.wrap (bits .xor .u64 (stp x) (stp x / 1073741824) * 13787848793156543929)) (IntKind.u64.wrap (bits .xor .u64 (stp x) (stp x / 1073741824) * 13787848793156543929) / 134217728) * 10723151780598845931))
      (IntKind.u64.wrap (bits .xor .u64 (IntKind.u64.wrap (bits .xor .u64 (stp x) (stp x / 1073741824) * 13787848793156543929)) (IntKind.u64.wrap (bits .xor .u64 (stp x) (stp x / 1073741824) * 13787848793156543929) / 134217728) * 10723151780598845931) / 2147483648) = mx (stp x) := rfl
  generalize stp x = y at *
  go_enter Try.func72, Try.ntmps72
  go_wp2
  go_ret
  exact ⟨by rw [← hmx]; rfl, F, G⟩

set_option maxHeartbeats 400000 in
theorem rbelow_c (b : Nat) (x n : Int) (w : World) (hb : Boxed w b 86 (.int .u64 x)) :
    Calls Try.prog 63 #[.pointer (some ⟨b, 0, none⟩), .int .i64 n] w fun e w' => e = .returned (.tuple #[.int .i64 (belV x n), .int .i64 (ckE n 1 1000000000)]) ∧ Boxed w' b 86 (.int .u64 (belS x n)) ∧ w.grownBy w' (some b) := by
  by_cases h1 : n < 1
  · rw [belV, belS, if_neg (by omega), if_neg (by omega), ckE_no (by omega)]
    go_enter Try.func63, Try.ntmps63
    go_wp2
    exact bodyPost_ret (v := .tuple #[.int .i64 0, .int .i64 1]) (by simp [results, Try.results63, go_sem]) rfl ⟨rfl, hb, grownBy_refl _ _⟩
  by_cases h2 : 1000000000 < n
  · rw [belV, belS, if_neg (by omega), if_neg (by omega), ckE_no (by omega)]
    go_enter Try.func63, Try.ntmps63
    go_wp2
    exact bodyPost_ret (v := .tuple #[.int .i64 0, .int .i64 1]) (by simp [results, Try.results63, go_sem]) rfl ⟨rfl, hb, grownBy_refl _ _⟩
  · rw [belV, belS, if_pos (by omega), if_pos (by omega), ckE_ok (by omega)]
    have hn := rnext_c b x w hb
    obtain ⟨z1, z2⟩ := u_mx (stp x)
    have r1 := Int.emod_nonneg (mx (stp x)) (b := n) (by omega)
    have r2 := Int.emod_lt_of_pos (mx (stp x)) (b := n) (by omega)
    have e1 : wrap64 (mx (stp x) % n) = mx (stp x) % n := by simp only [wrap64]; omega
    generalize mx (stp x) = z at *
    go_enter Try.func63, Try.ntmps63
    go_wp2_with (go_at_call 72; refine hn.mono ?_; rintro e w1 ⟨rfl, b1, g1⟩)
    exact bodyPost_ret (v := .tuple #[.int .i64 (z % n), .int .i64 0]) (by simp [results, Try.results63, go_sem]) rfl ⟨rfl, b1, g1⟩

/-- A slice of n numbers f 0 .. f (n - 1). -/
def RdA (w : World) (v : Value) (n : Nat) (f : Nat → Int) : Prop := ∃ p cap, v = .slice p n cap ∧ (n = 0 ∨ ∃ g, p = some ⟨g, 0, none⟩ ∧ Arr w g n cap f)

def nums (k : Nat) : List Value := (List.range k).map (fun (t : Nat) => Value.int .i64 (t : Int))
theorem nums_succ (k : Nat) : nums (k + 1) = nums k ++ [.int .i64 (k : Int)] := by simp [nums, List.range_succ]
theorem nums_len (k : Nat) : (nums k).length = k := by simp [nums]
theorem arr_of_row {w : World} {base n : Nat} {v : Value} (h : w.ownsRow base 3 1 v n (nums n)) (hn : n ≠ 0) : ∃ g cap, v = .slice (some ⟨g, 0, none⟩) n cap ∧ base ≤ g ∧ Arr w g n cap (fun t => (t : Int)) := by
  obtain ⟨_, h⟩ := h
  rcases h with ⟨_, h0⟩ | ⟨g, cap, cur, rfl, hg, hh, h1, h2, h3, h4⟩
  · exact (hn h0).elim
  · refine ⟨g, cap, rfl, hg, cur, hh, by omega, h1, fun i hi => ?_⟩
    have e1 : (List.take (n * 1) cur.toList)[i]? = some (.int .i64 (i : Int)) := by rw [h4]; simp [nums, hi]
    rw [List.getElem?_take_of_lt (by omega)] at e1
    rw [← Array.getElem?_toList]
    exact e1

set_option maxRecDepth 100000 in
set_option maxHeartbeats 4000000 in
theorem rperm_ok (b n : Nat) (x : Int) (w : World) (hb : Boxed w b 86 (.int .u64 x)) (hn : n ≤ 65536) :
    Calls Try.prog 49 #[.pointer (some ⟨b, 0, none⟩), .int .i64 n] w fun e w' => ∃ v, e = .returned (.tuple #[v, .int .i64 0]) ∧
      RdA w' v n (pS x n (n - 1)) ∧ Boxed w' b 86 (.int .u64 (stN x (n - 1))) ∧ w.grownBy w' (some b) ∧ (∀ k, v.ownBlock = some k → w.heap.size ≤ k) := by
  obtain ⟨i0, II⟩ := info_parts Try.info3'
  have hbl := hb.lt
  have hn0 : ¬ (n : Int) < 0 := by omega
  have hn1 : ¬ (65536 : Int) < n := by omega
  go_enter Try.func49, Try.ntmps49
  go_wp2
  go_loopw [6, 7] (fun u v wr => ∃ k : Nat, v = .int .i64 k ∧ k ≤ n ∧ wr.ownsRow w.heap.size 3 1 u k (nums k) ∧ w.grownBy wr none) (fun _ v _ => n - (intOf v).toNat)
  case atStart => exact ⟨0, rfl, Nat.zero_le _, World.ownsRow_nil _ _ _ _, grownBy_refl _ _⟩
  case round =>
    obtain ⟨k, rfl, hk, hrow, hg⟩ := hrel
    by_cases hlt : k < n
    · have hlt' : (k : Int) < n := by omega
      have hsz := hg.size
      go_wp2_with first
        | (at_builtin; refine wpList_append_own_at _ rfl _ _ 40 rfl w.heap.size 3 i0 (.int .i64 0) 1 8 Try.underlying40 II.1 II.2.1 II.2.2.1 II.2.2.2 rfl (by decide) _ _ _ rfl (World.ownsRow.alloc hrow _) ⟨wr.heap.size, 0, none⟩ 1 1 [.int .i64 (k : Int)] rfl rfl (cell_one_new _ _ _) (ints_oneCell .i64 [(k : Int)]) (by unfold maxLen; omega) (by omega) (by simp; omega) ?_; intro v' w2 hown' hgrow2 hnil2 hloc)
        | go_in
      go_roundw
      case rel =>
        refine ⟨k + 1, by simp, by omega, by rw [nums_succ]; exact hown', ?_⟩
        have G1 := grownBy_al hg (.cells #[.int .i64 (k : Int)] 3)
        refine ⟨hgrow2.os.trans G1.os, hgrow2.tape.trans G1.tape, hgrow2.output.trans G1.output, Nat.le_trans G1.size hgrow2.size, fun j hj hne => (hgrow2.block j (Nat.lt_of_lt_of_le hj G1.size) (fun e => ?_)).trans (G1.block j hj hne)⟩
        have := (World.ownsRow.lt hrow j e.symm).1
        omega
      case measure => simp [intOf]; omega
    · have hkn : k = n := by omega
      subst k
      have hlt' : ¬ (n : Int) < n := by omega
      have hR : ∃ p cap, u6 = .slice p n cap ∧ (n = 0 ∨ ∃ g, p = some ⟨g, 0, none⟩ ∧ w.heap.size ≤ g ∧ Arr wr g n cap (pS x n 0)) := by
        by_cases h0 : n = 0
        · subst h0
          rcases hrow.2 with ⟨rfl, _⟩ | ⟨g, cap, cur, rfl, _⟩
          · exact ⟨_, _, rfl, .inl rfl⟩
          · exact ⟨_, _, rfl, .inl rfl⟩
        · obtain ⟨g, cap, rfl, hg', hA⟩ := arr_of_row hrow h0
          exact ⟨_, cap, rfl, .inr ⟨g, rfl, hg', hA⟩⟩
      have hO := fun k h => (World.ownsRow.lt hrow k h).1
      obtain ⟨p, cap, rfl, hR⟩ := hR
      have hbW : Boxed wr b 86 (.int .u64 x) := hb.kept hg (by simp)
      have hgW : w.grownBy wr (some b) := ⟨hg.os, hg.tape, hg.output, hg.size, fun j hj _ => hg.block j hj (by simp)⟩
      clear hrow hg hb hk hlt
      go_wp2
      go_loopw [8] (fun iv V => ∃ k : Nat, iv = .int .i64 ((n : Int) - 1 - k) ∧ k ≤ n - 1 ∧ (n = 0 ∨ ∃ g, p = some ⟨g, 0, none⟩ ∧ w.heap.size ≤ g ∧ Arr V g n cap (pS x n k)) ∧ Boxed V b 86 (.int .u64 (stN x k)) ∧ w.grownBy V (some b)) (fun iv _ => (intOf iv).toNat)
      case atStart => exact ⟨0, by simp, Nat.zero_le _, hR, hbW, hgW⟩
      case round =>
        clear hR hbW hgW
        obtain ⟨k, rfl, hk, hR, hbW, hgW⟩ := hrel
        by_cases hge : (1 : Int) ≤ (n : Int) - 1 - k
        · obtain ⟨g, rfl, hgl, hA⟩ : ∃ g, p = some ⟨g, 0, none⟩ ∧ w.heap.size ≤ g ∧ Arr wr g n cap (pS x n k) := by
            rcases hR with h | h
            · omega
            · exact h
          clear hR
          have hi : (n : Int) - 1 - k = ((n - 1 - k : Nat) : Int) := by omega
          have hin : n - 1 - k < n := by omega
          have hbel := rbelow_c b (stN x k) ((n : Int) - 1 - k + 1) wr hbW
          rw [hi, ckE_ok ⟨by omega, by omega⟩, belV, belS, if_pos ⟨by omega, by omega⟩, if_pos ⟨by omega, by omega⟩] at hbel
          have hz := u_mx (stp (stN x k))
          have hpS : pS x n (k + 1) = swp (pS x n k) (n - 1 - k) (mx (stp (stN x k)) % ((n - 1 - k : Nat) + 1)).toNat := rfl
          have hst : stp (stN x k) = stN x (k + 1) := rfl
          rw [hi] at hge ⊢
          have hnext : (n : Int) - 1 - (k + 1 : Nat) = ((n - 1 - k : Nat) : Int) - 1 := by omega
          generalize mx (stp (stN x k)) = z at *
          generalize hii : n - 1 - k = i at *
          have r1 := Int.emod_nonneg z (b := (i : Int) + 1) (by omega)
          have r2 := Int.emod_lt_of_pos z (b := (i : Int) + 1) (by omega)
          obtain ⟨j, hj⟩ : ∃ j : Nat, z % ((i : Int) + 1) = j := ⟨(z % ((i : Int) + 1)).toNat, by omega⟩
          have hjn : j < n := by omega
          rw [hj] at hbel
          have hpS' : pS x n (k + 1) = swp (pS x n k) i j := by rw [hpS, hj]; simp
          have hk1 : k + 1 ≤ n - 1 := by omega
          clear hpS r1 r2 hj hz hi
          rw [hst] at hbel
          have hgb : g ≠ b := by omega
          go_wp2_with fail
          refine hbel.mono ?_
          rintro e V ⟨rfl, bV, gV⟩
          have hA2 := hA.kept gV (by simpa using hgb)
          have hg2 := grown_trans hgW gV (.inl rfl)
          have cI := hA2.cell hin
          have cJ := hA2.cell hjn
          have fI := hA2.frozen i
          have A3 := hA2.set hin (pS x n k j)
          have fJ := A3.frozen j
          have cJ3 := A3.cell hjn
          have FIN : Arr ((V.setCell ⟨g, i, none⟩ (.int .i64 (pS x n k j))).setCell ⟨g, j, none⟩ (.int .i64 (pS x n k i))) g n cap (pS x n (k + 1)) ∧ Boxed ((V.setCell ⟨g, i, none⟩ (.int .i64 (pS x n k j))).setCell ⟨g, j, none⟩ (.int .i64 (pS x n k i))) b 86 (.int .u64 (stN x (k + 1))) ∧
              w.grownBy ((V.setCell ⟨g, i, none⟩ (.int .i64 (pS x n k j))).setCell ⟨g, j, none⟩ (.int .i64 (pS x n k i))) (some b) := by
            refine ⟨?_, boxed_off (boxed_off bV (by dsimp only; omega) _) (by dsimp only; omega) _, grownBy_new (p := ⟨g, j, none⟩) (grownBy_new (p := ⟨g, i, none⟩) hg2 hgl _) hgl _⟩
            rw [hpS']
            exact A3.set hjn (pS x n k i)
          obtain ⟨F1, F2, F3⟩ := FIN
          clear hA hbW hgW gV bV hbel hA2 hg2 A3
          go_wp2
          go_roundw
          case rel => exact ⟨k + 1, by rw [hnext], hk1, .inr ⟨g, rfl, hgl, F1⟩, F2, F3⟩
          case measure => simp [intOf]; omega
        · have hkn : k = n - 1 := by omega
          subst k
          go_wp2
          refine bodyPost_ret (v := .tuple #[.slice p n cap, .int .i64 0]) (by simp [results, Try.results49, go_sem]) rfl ⟨_, rfl, ⟨p, cap, rfl, ?_⟩, hbW, hgW, hO⟩
          rcases hR with h | ⟨g, h1, h2, h3⟩
          · exact .inl h
          · exact .inr ⟨g, h1, h3⟩

end Go.Proofs.Ytblfmhdcgmkpgaa.Rn
