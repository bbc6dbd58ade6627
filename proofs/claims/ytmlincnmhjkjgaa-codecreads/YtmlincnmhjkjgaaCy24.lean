import Derived.Test.YtmlincnmhjkjgaaCyCoD
import Derived.Test.YtmlincnmhjkjgaaCy17
import Derived.Test.YtmlincnmhjkjgaaCyRefV
import Derived.Test.YtmlincnmhjkjgaaCyKeep
/- append of a byte, of a string, of bytes, onto bytes of the call's own. -/
namespace Go.Proofs.Ytmlincnmhjkjgaa
open Go.RowKit Go.Lib

theorem GrB.of_own {w w' : World} {v v' : Value} (g : w.grownBy w' v.ownBlock) (h : v'.ownBlock = v.ownBlock ∨ v'.ownBlock = some w.heap.size) : GrB w w' v v' :=
  ⟨g, h.elim .inl fun e => .inr ⟨_, e, Nat.le_refl _⟩⟩
theorem app_B {W : World} {ops : Array Oper} {rest : List Oper} {o : Oper} {a : Act} {Q : Exit → Act → World → Prop} (hgd : o.guard = none) (s x : Operand)
    (ho : o.op = .call { callee := .builtin .append, args := #[s, x], argTypes := #[40, 40] }) (B : Nat) {v : Value} {l : List UInt8} (hs : a.eval s = v) (h : OwnB W B v l) (hB : B ≤ W.heap.size) (hl : l.length ≤ 140737488355327) {b : Nat} {y : UInt8} {z : Int} (hz : (y.toNat : Int) = z) (hx : a.eval x = .slice (some ⟨b, 0, none⟩) 1 1) (hc : W.cell? ⟨b, 0, none⟩ = some (.int .u8 z))
    (k : ∀ v' w', OwnB w' B v' (l ++ [y]) → GrB W w' v v' → wpList Try.prog ops Q rest (a.put o.dst v') w') : wpList Try.prog ops Q (o :: rest) a W := by
  obtain ⟨i0, II⟩ := info5
  unfold OwnB at h
  refine wpList_append_own_at W hgd s x 40 ho B 5 i0 (.int .u8 0) 1 1 Try.underlying40 II.1 II.2.1 II.2.2.1 II.2.2.2 rfl (by decide) v l.length (l.map bv) hs h ⟨b, 0, none⟩ 1 1 [.int .u8 z] hx rfl (fun j u hj => ?_) (ints_oneCell .u8 [z]) (by unfold maxLen; omega) (by omega) hB ?_
  · cases j with
    | zero => simp at hj; subst hj; rw [Addr.add_lit]; exact hc
    | succ j => simp at hj
  · intro v' w' ho' hg' _ hb'
    refine k v' w' ?_ (GrB.of_own hg' hb')
    subst hz
    unfold OwnB
    rw [List.length_append, List.map_append]
    exact ho'
theorem app_S {W : World} {ops : Array Oper} {rest : List Oper} {o : Oper} {a : Act} {Q : Exit → Act → World → Prop} (hgd : o.guard = none) (s x : Operand)
    (ho : o.op = .call { callee := .builtin .append, args := #[s, x], argTypes := #[40, 9] }) (B : Nat) {v : Value} {l m : List UInt8} (hs : a.eval s = v) (h : OwnB W B v l) (hB : B ≤ W.heap.size) {S : ByteArray} (hx : a.eval x = .string S) (hS : S = sb m) (hl : l.length + m.length ≤ 140737488355328)
    (k : ∀ v' w', OwnB w' B v' (l ++ m) → W.grownBy w' v.ownBlock → wpList Try.prog ops Q rest (a.put o.dst v') w') : wpList Try.prog ops Q (o :: rest) a W := by
  obtain ⟨i0, II⟩ := info5
  unfold OwnB at h
  subst hS
  have hsz := sb_size m
  refine wpList_append_own_string W hgd s x 40 9 ho B 5 i0 Try.underlying40 Try.underlying9 II.1 II.2.1 II.2.2.1 II.2.2.2 v l.length (l.map bv) hs h (sb m) hx (by unfold maxLen; omega) (by omega) hB ?_
  intro v' w' ho' hg' _
  refine k v' w' ?_ hg'
  unfold OwnB
  rw [List.length_append, List.map_append, ← strCells_sb, ← hsz]
  exact ho'
end Go.Proofs.Ytmlincnmhjkjgaa

/- The reference's Id, ids and form. -/
namespace Go.Proofs.Ytmlincnmhjkjgaa
open Go.RowKit

theorem rid_c (x : Int) (w : World) : Calls Try.prog 29 #[.int .i64 x] w fun e w' => e = .returned (.bool (okId x)) ∧ w = w' := by
  by_cases h : 1 ≤ x
  · by_cases h2 : x ≤ 1000000000
    · have E : Hid (okId x = true) := (okId_iff x).2 ⟨h, h2⟩
      go_enter Try.func29, Try.ntmps29
      go_wp2
      go_ret
      exact ⟨by rw [E.out]; rfl, rfl⟩
    · have E : Hid (okId x = false) := by unfold Hid; rw [← Bool.not_eq_true, okId_iff]; omega
      go_enter Try.func29, Try.ntmps29
      go_wp2
      go_ret
      exact ⟨by rw [E.out]; rfl, rfl⟩
  · have E : Hid (okId x = false) := by unfold Hid; rw [← Bool.not_eq_true, okId_iff]; omega
    go_enter Try.func29, Try.ntmps29
    go_wp2
    go_ret
    exact ⟨by rw [E.out]; rfl, rfl⟩
theorem rid_v (x : Int) (b : Bool) (h : okId x = b) (w : World) : Calls Try.prog 29 #[.int .i64 x] w fun e w' => e = .returned (.bool b) ∧ w = w' := by
  subst h; exact rid_c x w

end Go.Proofs.Ytmlincnmhjkjgaa

/- The reference's Ints and Same. -/
namespace Go.Proofs.Ytmlincnmhjkjgaa
open Go.RowKit Go.Sort Go.Maps

theorem wd_same (a b : Int) (W : World) : (binOp .eql 69 (.agg #[.int .u64 a, .int .u64 b]) (.agg #[.int .u64 a, .int .u64 b])).run Try.prog W = .ok (.bool true) W := by
  rw [wd_run]; simp
end Go.Proofs.Ytmlincnmhjkjgaa
