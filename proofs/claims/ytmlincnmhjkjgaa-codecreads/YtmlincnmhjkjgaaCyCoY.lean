/- The reference's coords. -/
import Derived.Test.YtmlincnmhjkjgaaCyCoR
import Derived.Test.YtmlincnmhjkjgaaCyCoK
namespace Go.Proofs.Ytmlincnmhjkjgaa
open Go.RowKit Go.Lib

theorem app_I1 {W : World} {ops : Array Oper} {rest : List Oper} {o : Oper} {a : Act} {Q : Exit → Act → World → Prop} (hgd : o.guard = none) (s x : Operand)
    (ho : o.op = .call { callee := .builtin .append, args := #[s, x], argTypes := #[23, 23] }) (B : Nat) {v : Value} {l : List Int} (hs : a.eval s = v) (h : Own W B v l) (hB : B ≤ W.heap.size) (hl : l.length ≤ 1000000) {b : Nat} {z : Int} (hx : a.eval x = .slice (some ⟨b, 0, none⟩) 1 1) (hc : W.cell? ⟨b, 0, none⟩ = some (.int .i64 z))
    (k : ∀ v' w', Own w' B v' (l ++ [z]) → W.grownBy w' v.ownBlock → wpList Try.prog ops Q rest (a.put o.dst v') w') : wpList Try.prog ops Q (o :: rest) a W := by
  obtain ⟨i0, hi0, hz0, hz1, hz2⟩ := info_parts Try.info3
  unfold Own at h
  refine wpList_append_own_at W hgd s x 23 ho B 3 i0 (.int .i64 0) 1 8 Try.underlying23 hi0 hz0 hz1 hz2 rfl (by decide) v l.length (l.map (Value.int .i64)) hs h ⟨b, 0, none⟩ 1 1 [.int .i64 z] hx rfl (fun j u hj => ?_) (ints_oneCell .i64 [z]) (by unfold maxLen; omega) (by omega) hB ?_
  · cases j with
    | zero => simp at hj; subst hj; rw [Addr.add_lit]; exact hc
    | succ j => simp at hj
  · intro v' w' ho' hg' _ _
    refine k v' w' ?_ hg'
    unfold Own
    rw [List.length_append, List.map_append]
    exact ho'
theorem own_nilI (w : World) (B : Nat) : Own w B (.slice none 0 0) [] := ⟨by simp, .inl ⟨rfl, rfl⟩⟩
theorem Own.gbg {w1 w w' : World} {v : Value} {l : List Int} (g : Gb w1 w) (h : Own w w1.heap.size v l) (k : w.grownBy w' v.ownBlock) : Gb w1 w' :=
  below_grown' g k (fun i e => (World.ownsRow.lt h i e).1)
set_option maxHeartbeats 2000000 in
set_option maxRecDepth 400000 in
theorem coords_c (s : ByteArray) (a n : Nat) (h : a + 4 * n ≤ s.size) (hn : n ≤ 1000) (hs : s.size ≤ 4611686018427387904) (w : World) :
    Calls Try.prog 16 #[.string s, .int .i64 (a : Int), .int .i64 (n : Int)] w fun e w' => ∃ v', e = .returned v' ∧ Own w' w.heap.size v' (vecOf n (s.data.toList.drop a)) ∧ Gb w w' := by
  have SZ : Hid (s.data.toList.length = s.size) := by unfold Hid; simp
  go_enter Try.func16, Try.ntmps16
  go_wp2
  go_loopw [7, 8] (fun vv iv w' => ∃ q : Nat, iv = .int .i64 (q : Int) ∧ q ≤ n ∧ Hid (Own w' w.heap.size vv (vecOf q (s.data.toList.drop a)) ∧ Gb w w')) (fun _ iv _ => n - (intOf iv).toNat)
  case atStart => exact ⟨0, rfl, Nat.zero_le _, own_nilI _ _, Below.refl _ _⟩
  case round =>
    obtain ⟨q, rfl, hq, X⟩ := hrel
    by_cases hqn : q < n
    · have hqi : (q : Int) < (n : Int) := by omega
      have S : Hid (vecOf (q + 1) (s.data.toList.drop a) = vecOf q (s.data.toList.drop a) ++ [cvI (leN (cut s.data.toList (a + 4 * q) 4))]) := by
        unfold Hid
        rw [vecOf]
        unfold cvN
        rw [List.drop_drop, cut_tk (by rw [SZ.out]; omega)]
      have hb : leN (cut s.data.toList (a + 4 * q) 4) < 4294967296 := by
        have := leN_lt (cut s.data.toList (a + 4 * q) 4)
        rwa [cut_length (by rw [SZ.out]; omega)] at this
      have gg := get_c s (a + 4 * q) 4 (by omega) (by decide) hs
      have LV : Hid ((vecOf q (s.data.toList.drop a)).length ≤ 1000) := by unfold Hid; rw [vecOf_length]; omega
      rw [show ((a + 4 * q : Nat) : Int) = (a : Int) + 4 * (q : Int) by omega] at gg
      have hbd : (a : Int) + 4 * (q : Int) ≤ 4611686018427387904 := by omega
      generalize vecOf q (s.data.toList.drop a) = L at *
      generalize leN (cut s.data.toList (a + 4 * q) 4) = m at *
      go_wp2_with fail
      refine (gg _).mono ?_
      rintro e w' ⟨rfl, rfl⟩
      by_cases hm : (2147483648 : Int) ≤ (m : Int)
      · have CV : Hid (cvI m = (m : Int) - 4294967296) := by unfold Hid cvI; rw [if_neg (by omega)]
        go_wp2_with (first
          | (at_builtin; refine app_I1 rfl _ _ rfl w.heap.size rfl (X.out.1.gb (gb_alloc (Below.refl _ _) _)) (by have := X.out.2.size; simp; omega) (by have := LV.out; omega) rfl (cell_new1 _ _ _) ?_; intro v2 w2 o2 g2)
          | fail)
        rw [← CV.out, ← S.out] at o2
        exact ⟨⟨q + 1, by simp, hqn, o2, Own.gbg (gb_alloc X.out.2 _) (X.out.1.gb (gb_alloc (Below.refl _ _) _)) g2⟩, by simp [intOf]; omega⟩
      · have CV : Hid (cvI m = (m : Int)) := by unfold Hid cvI; rw [if_pos (by omega)]
        have hm' : ¬ (2147483648 : Int) ≤ (m : Int) := hm
        have hm2 : decide ((2147483648 : Int) ≤ (m : Int)) = false := decide_eq_false hm
        clear hm hb
        go_wp2_with (first
          | (at_builtin; refine app_I1 rfl _ _ rfl w.heap.size rfl (X.out.1.gb (gb_alloc (Below.refl _ _) _)) (by have := X.out.2.size; simp; omega) (by have := LV.out; omega) rfl (cell_new1 _ _ _) ?_; intro v2 w2 o2 g2)
          | fail)
        rw [← CV.out, ← S.out] at o2
        exact ⟨⟨q + 1, by simp, hqn, o2, Own.gbg (gb_alloc X.out.2 _) (X.out.1.gb (gb_alloc (Below.refl _ _) _)) g2⟩, by simp [intOf]; omega⟩
    · have e : q = n := by omega
      subst e
      go_wp2
      go_ret
      exact ⟨_, rfl, X.out.1, X.out.2⟩
end Go.Proofs.Ytmlincnmhjkjgaa
