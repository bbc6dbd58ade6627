/- The reference's get, Encode, Decode. -/
import Derived.Test.YtmlincnmhjkjgaaCy24
namespace Go.Proofs.Ytmlincnmhjkjgaa
open Go.RowKit Go.Lib

/-- So many bytes from a place on. -/
def cut (l : List UInt8) (at_ n : Nat) : List UInt8 := (l.drop at_).take n
theorem cut_length {l : List UInt8} {a n : Nat} (h : a + n ≤ l.length) : (cut l a n).length = n := by simp [cut]; omega
theorem leN_cut {l : List UInt8} {a n : Nat} (h : a < l.length) : leN (cut l a (n + 1)) = l[a]!.toNat + 256 * leN (cut l (a + 1) n) := by
  unfold cut
  rw [List.drop_eq_getElem_cons h, List.take_succ_cons, leN, getElem!_pos l a h]
theorem cut_tk {l : List UInt8} {a n : Nat} (h : a + n ≤ l.length) : tk n (l.drop a) = cut l a n := by
  unfold tk cut; rw [List.length_drop, Nat.sub_eq_zero_of_le (by omega)]; simp
set_option maxHeartbeats 1000000 in
theorem get_c (s : ByteArray) (a n : Nat) (h : a + n ≤ s.size) (hn : n ≤ 4) (hs : s.size ≤ 4611686018427387904) (w : World) :
    Calls Try.prog 15 #[.string s, .int .i64 (a : Int), .int .i64 (n : Int)] w fun e w' => e = .returned (.int .i64 (leN (cut s.data.toList a n) : Int)) ∧ w = w' := by
  go_enter Try.func15, Try.ntmps15
  go_wp2
  go_loopw [7, 8] (fun vv iv w' => ∃ q : Nat, iv = .int .i64 ((q : Int) - 1) ∧ q ≤ n ∧ vv = .int .i64 (leN (cut s.data.toList (a + q) (n - q)) : Int) ∧ w = w') (fun _ iv _ => (intOf iv + 1).toNat)
  case atStart => exact ⟨n, rfl, Nat.le_refl _, by simp [cut, leN], rfl⟩
  case round =>
    obtain ⟨q, rfl, hq, rfl, rfl⟩ := hrel
    by_cases h0 : q = 0
    · subst h0
      go_wp2
      go_ret
      exact ⟨by simp, by first | rfl | trivial⟩
    · obtain ⟨p, rfl⟩ : ∃ p, q = p + 1 := ⟨q - 1, by omega⟩
      have hpi : a + p < s.size := by omega
      have hpl : a + p < s.data.toList.length := by simpa using hpi
      have S : Hid (leN (cut s.data.toList (a + p) (n - p)) = s.data.toList[a + p]!.toNat + 256 * leN (cut s.data.toList (a + (p + 1)) (n - (p + 1)))) := by
        have e : n - p = (n - (p + 1)) + 1 := by omega
        unfold Hid; rw [e, leN_cut hpl]; rfl
      have hb : leN (cut s.data.toList (a + (p + 1)) (n - (p + 1))) < 256 ^ (n - (p + 1)) := by
        have := leN_lt (cut s.data.toList (a + (p + 1)) (n - (p + 1))); rwa [cut_length (by simp; omega)] at this
      have hb2 : leN (cut s.data.toList (a + (p + 1)) (n - (p + 1))) < 16777216 := Nat.lt_of_lt_of_le hb (by
        have : n - (p + 1) ≤ 3 := by omega
        calc 256 ^ (n - (p + 1)) ≤ 256 ^ 3 := Nat.pow_le_pow_right (by decide) this
          _ = 16777216 := by decide)
      generalize leN (cut s.data.toList (a + (p + 1)) (n - (p + 1))) = y at *
      clear hb
      have hw : Hid (wrap64 (256 * (y : Int) + wrap64 (s[a + p].toNat : Int)) = ((s.data.toList[a + p]!.toNat + 256 * y : Nat) : Int)) := by
        have hx : s.data.toList[a + p]! = s[a + p] := by rw [getElem!_pos s.data.toList (a + p) hpl]; rfl
        have := s[a + p].toNat_lt
        rw [hx]
        unfold Hid wrap64; omega
      go_wp2
      exact ⟨⟨p, rfl, by omega, by rw [hw.out, S.out], trivial⟩, by simp [intOf]⟩
theorem cell_new1 (W : World) (v : Value) (t : TypeId) : (W.alloc (.cells #[v] t)).cell? ⟨W.heap.size, 0, none⟩ = some v := by simp [go_sem]
/-- append turns nothing that was there. -/
theorem OwnB.gbg {w1 w w' : World} {v : Value} {l : List UInt8} (g : Gb w1 w) (h : OwnB w w1.heap.size v l) (k : w.grownBy w' v.ownBlock) : Gb w1 w' :=
  below_grown' g k (fun i e => (h.lo i e).1)
end Go.Proofs.Ytmlincnmhjkjgaa
