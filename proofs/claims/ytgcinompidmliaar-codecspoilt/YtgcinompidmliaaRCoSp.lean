/- CodecSpoilt: append of bytes; what another byte does; its walk. -/
import Derived.Test.YtgcinompidmliaaRCoX
import Derived.Test.YtgcinompidmliaaRCoW
import Derived.Laws.AppendOwnNone
namespace Go.Proofs.YtgcinompidmliaaR
open Go.RowKit Go.Lib

/-- A slice without memory has no room. -/
def NilB (v : Value) : Prop := ∀ n c, v = .slice none n c → n = 0 ∧ c = 0
theorem OwnB.nilB {w : World} {B : Nat} {v : Value} {l : List UInt8} (h : OwnB w B v l) : NilB v := by
  intro n c e
  subst e
  rcases h.2 with ⟨e, _⟩ | ⟨g, cap, cur, e, _⟩
  · cases e; exact ⟨rfl, rfl⟩
  · cases e
theorem app_L {W : World} {ops : Array Oper} {rest : List Oper} {o : Oper} {a : Act} {Q : Exit → Act → World → Prop} (hgd : o.guard = none) (s x : Operand)
    (ho : o.op = .call { callee := .builtin .append, args := #[s, x], argTypes := #[22, 22] }) (B : Nat) {v : Value} {l m : List UInt8} (hs : a.eval s = v) (h : OwnB W B v l) (hB : B ≤ W.heap.size) {u : Value} (hx : a.eval x = u) (hr : RdB W u m) (hn : NilB u) (hl : l.length + m.length ≤ 140737488355328)
    (k : ∀ v' w', OwnB w' B v' (l ++ m) → W.grownBy w' v.ownBlock → wpList Try.prog ops Q rest (a.put o.dst v') w') : wpList Try.prog ops Q (o :: rest) a W := by
  obtain ⟨i0, II⟩ := info5
  unfold OwnB at h
  obtain ⟨ax, cap, rfl, _, ha⟩ := hr
  cases ax with
  | none =>
    obtain ⟨e0, e1⟩ := hn _ _ rfl
    subst e1
    rw [e0] at hx
    refine wpList_append_own_none hgd s x 22 ho B 5 i0 1 Try.underlying22 II.1 v l.length (l.map bv) hs h hx (k v W ?_ ⟨rfl, rfl, rfl, Nat.le_refl _, fun _ _ _ => rfl⟩)
    rw [List.length_eq_zero_iff.1 e0, List.append_nil]
    exact h
  | some ad =>
    have had : ∀ i, i < m.length → ad = ⟨ad.block, ad.off, none⟩ ∧ W.cell? ⟨ad.block, ad.off + i, none⟩ = some (.int .u8 (m[i]!.toNat : Int)) := by
      intro i hi
      obtain ⟨b, o, e, hc⟩ := ha i hi
      cases e
      exact ⟨rfl, hc⟩
    refine wpList_append_own_at W hgd s x 22 ho B 5 i0 (.int .u8 0) 1 1 Try.underlying22 II.1 II.2.1 II.2.2.1 II.2.2.2 rfl (by decide) v l.length (l.map bv) hs h ad m.length cap (m.map bv) hx (by simp) (fun j u hj => ?_) (by intro u hu; obtain ⟨x, _, rfl⟩ := List.mem_map.1 hu; simp [bv, Value.oneCell']) (by unfold maxLen; omega) (by omega) hB ?_
    · rw [List.getElem?_map] at hj
      obtain ⟨y, hy, e⟩ := Option.map_eq_some_iff.1 hj
      obtain ⟨hj2, ey⟩ := List.getElem?_eq_some_iff.1 hy
      obtain ⟨e2, hc⟩ := had j hj2
      rw [e2, Addr.add_lit]
      show W.cell? ⟨ad.block, ad.off + j, none⟩ = _
      rw [hc, ← e, ← ey, getElem!_pos m j hj2]; rfl
    · intro v' w' ho' hg' _ _
      refine k v' w' ?_ hg'
      unfold OwnB
      rw [List.length_append, List.map_append]
      exact ho'
/-- A record, and what stands behind. -/
theorem en_form (k : Nat) (t B : List UInt8) : enT k t ++ B = UInt8.ofNat k :: (leB t.length 4 ++ (leB (crc (UInt8.ofNat k :: t)).toNat 4 ++ (t ++ B))) := by
  unfold enT
  rw [show leB k 1 = [UInt8.ofNat k] from rfl]
  simp [List.append_assoc]
theorem crc_nat (l : List UInt8) : ((leN (leB (crc l).toNat 4) : Nat) : Int) = crc l := by
  have hU : U3 (crc l) := by unfold crc; exact u3_bits _ _ _
  rw [leN_leB]
  unfold U3 at hU
  omega
theorem en_dec {k : Nat} {t : List UInt8} (B : List UInt8) (h1 : 1 ≤ k) (h2 : k ≤ 255) (ht : t.length ≤ 262144) : dcV (enT k t ++ B) = .tuple #[.int .i64 (k : Int), .string (sb t), .int .i64 ((9 + t.length : Nat) : Int), .int .i64 0] := by
  have f := dc_form (UInt8.ofNat k) (C := leB (crc (UInt8.ofNat k :: t)).toNat 4) (B := B) (leB_length _ _) (T := t) rfl ht
  rw [← en_form] at f
  obtain ⟨f1, f2, f3, f4⟩ := f
  have hk : (UInt8.ofNat k).toNat = k := by simp; omega
  rw [crc_nat, if_pos rfl, if_neg (fun e => by have := congrArg UInt8.toNat e; rw [hk] at this; simp at this; omega)] at f1
  unfold dcV
  rw [if_pos f1, f2, f3, f4, hk]
theorem set_self {α : Type} [Inhabited α] {l : List α} {i : Nat} {y : α} (hi : i < l.length) (h : l.set i y = l) : y = l[i]! := by
  have e : (l.set i y)[i]! = l[i]! := by rw [h]
  rw [← e, getElem!_pos _ i (by simpa using hi)]
  simp
theorem en_spoilt {k : Nat} {t : List UInt8} (B : List UInt8) (ht : t.length ≤ 262144) (h1 : 1 ≤ k) (h2 : k ≤ 255) {a : Nat} (ha : a < 9 + t.length) (hb : ¬ (1 ≤ a ∧ a ≤ 4)) {y : UInt8} (hy : y ≠ (enT k t ++ B)[a]!) :
    dcE ((enT k t ++ B).set a y) = 162 ∨ dcE ((enT k t ++ B).set a y) = 160 ∧ a = 0 := by
  have hlen : (enT k t ++ B).length = 9 + t.length + B.length := by unfold enT; simp only [List.length_append, leB_length]
  have hx0 : UInt8.ofNat k ≠ 0 := fun e => by have := congrArg UInt8.toNat e; simp at this; omega
  have hne : (enT k t ++ B).set a y ≠ enT k t ++ B := fun e => hy (set_self (by omega) e)
  rw [en_form] at hne ⊢
  have l4 := leB_length t.length 4
  have l5 := leB_length (crc (UInt8.ofNat k :: t)).toNat 4
  have hC := crc_nat (UInt8.ofNat k :: t)
  generalize leB (crc (UInt8.ofNat k :: t)).toNat 4 = C at *
  generalize UInt8.ofNat k = x at *
  by_cases a0 : a = 0
  · subst a0
    rw [List.set_cons_zero] at hne ⊢
    rw [(dc_form y l5 rfl ht).1]
    by_cases y0 : y = 0
    · rw [if_pos y0]; exact .inr ⟨rfl, rfl⟩
    · rw [if_neg y0, if_neg (fun e => hne ?_)]
      · exact .inl rfl
      · rw [hC] at e
        have := crc_byte (p := []) e
        rw [this]
  · obtain ⟨b, rfl⟩ : ∃ b, a = b + 1 := ⟨a - 1, by omega⟩
    have hb4 : 4 ≤ b := by omega
    have e1 : (x :: (leB t.length 4 ++ (C ++ (t ++ B)))).set (b + 1) y = x :: (leB t.length 4 ++ (C ++ (t ++ B)).set (b - 4) y) := by
      rw [List.set_cons_succ, List.set_append_right _ _ (by omega), l4]
    rw [e1] at hne ⊢
    by_cases b8 : b < 8
    · have e2 : (C ++ (t ++ B)).set (b - 4) y = C.set (b - 4) y ++ (t ++ B) := List.set_append_left _ _ (by omega)
      rw [e2] at hne ⊢
      rw [(dc_form x (C := C.set (b - 4) y) (by rw [List.length_set, l5]) rfl ht).1, if_neg hx0, if_neg (fun e => hne ?_)]
      · exact .inl rfl
      · rw [← hC] at e
        have e3 : leN C = leN (C.set (b - 4) y) := Int.ofNat_inj.1 e
        have e4 : C.set (b - 4) y = C := by
          rw [← leB_leN (C.set (b - 4) y), ← e3, List.length_set, leB_leN]
        rw [e4]
    · have e2 : (C ++ (t ++ B)).set (b - 4) y = C ++ (t.set (b - 8) y ++ B) := by
        rw [List.set_append_right _ _ (by omega), List.set_append_left _ _ (by omega), l5, show b - 4 - 4 = b - 8 by omega]
      rw [e2] at hne ⊢
      have hj : b - 8 < t.length := by omega
      rw [(dc_form x (T := t.set (b - 8) y) (B := B) l5 (by rw [List.length_set]) ht).1, if_neg hx0, if_neg (fun e => hne ?_)]
      · exact .inl rfl
      · rw [hC] at e
        have e3 : t.set (b - 8) y = t.take (b - 8) ++ y :: t.drop (b - 8 + 1) := List.set_eq_take_append_cons_drop.trans (if_pos hj)
        have e4 : t = t.take (b - 8) ++ t[b - 8] :: t.drop (b - 8 + 1) := by rw [List.getElem_cons_drop, List.take_append_drop]
        have e5 : crc ((x :: t.take (b - 8)) ++ y :: t.drop (b - 8 + 1)) = crc ((x :: t.take (b - 8)) ++ t[b - 8] :: t.drop (b - 8 + 1)) := by
          rw [List.cons_append, List.cons_append, ← e3, ← e4]; exact e
        have e6 := crc_byte e5
        have e7 : t.set (b - 8) y = t := by rw [e3, e6, ← e4]
        rw [e7]
end Go.Proofs.YtgcinompidmliaaR
