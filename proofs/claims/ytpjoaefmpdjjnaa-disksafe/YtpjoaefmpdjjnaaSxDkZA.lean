/- DiskSafe: its end. -/
import Derived.Test.YtpjoaefmpdjjnaaSxDkZ9
namespace Go.Proofs.Ytpjoaefmpdjjnaa
open Go.RowKit Go.Lib Go.Maps

variable {w W W' : World} {b : Nat} {q q' : Dq} {x : By} {m s n k : Nat} {u v z y : Value}
theorem EnS.base (h : EnS w b x m s n k z v y W) : Gb w W := by
  obtain ⟨q, all, r, h, _⟩ := h
  exact h.base
theorem EnS.gb (h : EnS w b x m s n k z v y W) (g : Gb W W') : EnS w b x m s n k z v y W' := by
  obtain ⟨q, all, r, h, t⟩ := h
  exact ⟨q, all, r, h.gb g, t⟩
theorem EnS.small (h : EnS w b x m s n k z v y W) : s ≤ k ∧ k ≤ n ∧ n ≤ 4194304 ∨ s ≤ k ∧ k ≤ 4194304 := by
  obtain ⟨q, all, r, _, sf, h1, h2, h3, rfl, _, _, ok, _⟩ := h
  have := ok.fb (num q.nm x)
  rw [sf.fb] at this
  exact .inr ⟨h1, this⟩
/-- What is safe is there. -/
theorem EnS.bytes {a : Option Addr} {c : Nat} (h : EnS w b x m s n k z v (.slice a k c) W) :
    Calls Try.prog 23 #[.slice a s c, z] W fun e w' => e = .returned (.bool true) ∧ Gb W w' := by
  obtain ⟨q, all, r, h, sf, h1, h2, h3, rfl, h4, _, ok, _⟩ := h
  have := ok.fb (num q.nm x)
  rw [sf.fb] at this
  have r1 := (h.rd (List.mem_cons_self ..)).take h1
  have r2 := h.rd (v := z) (l := all.take s) (List.mem_cons_of_mem _ (List.mem_cons_self ..))
  rw [h4] at r1
  exact bytes_same r1.1 r2.1 (by rw [List.length_take]; omega)
/-- What is there beyond what is safe: noughts, or the file's bytes. -/
theorem EnS.cells {a a' : Option Addr} {c c' : Nat} (h : EnS w b x m s n k z (.slice a' n c') (.slice a k c) W) :
    ∃ f g : Nat → Int, (∀ i, i < k → (∃ b o, a = some ⟨b, o, none⟩ ∧ W.cell? ⟨b, o + i, none⟩ = some (.int .u8 (f i))) ∧ ∃ b o, a' = some ⟨b, o, none⟩ ∧ W.cell? ⟨b, o + i, none⟩ = some (.int .u8 (g i))) ∧
      ((∀ i, s ≤ i → i < k → f i = 0) ∨ ∀ i, s ≤ i → i < k → f i = g i) := by
  obtain ⟨q, all, r, h, sf, h1, h2, rfl, rfl, h4, hor, _, _⟩ := h
  obtain ⟨⟨_, _, e1, _, r1⟩, _⟩ := h.rd (v := .slice a r.length c) (l := r) (List.mem_cons_self ..)
  obtain ⟨⟨_, _, e2, _, r2⟩, _⟩ := h.rd (v := .slice a' all.length c') (l := all) (by simp)
  cases e1
  cases e2
  refine ⟨fun i => (r[i]!.toNat : Int), fun i => (all[i]!.toNat : Int), fun i hi => ⟨r1 i hi, r2 i (by omega)⟩, ?_⟩
  rcases hor with hz | he
  · exact .inl fun i h1 h2 => by show (r[i]!.toNat : Int) = 0; rw [hz i h1 h2]; rfl
  · exact .inr fun i _ h2 => by show (r[i]!.toNat : Int) = _; rw [he i h2]
/-- Names, another crash, a Read; the same bytes, the same names; it runs. -/
theorem EnS.end (h : EnS w b x m s n k z v y W) (hm : m < 100000) (hx : KWfS x) {cs : List Int} (hu : RdI w u cs) (hcs : ∀ c ∈ cs, InR c) :
    Calls Try.prog 24 #[.pointer (some ⟨b, 0, none⟩)] W fun e w1 => ∃ a c, ∃ l : Nat, e = .returned (.slice a l c) ∧ Hid (
      Calls Try.prog 17 #[.pointer (some ⟨b, 0, none⟩), u] w1 fun e w2 => e = .returned (.int .i64 0) ∧ Hid (
        Calls Try.prog 21 #[.pointer (some ⟨b, 0, none⟩), .string (sb x)] w2 fun e w3 => ∃ a' c', e = .returned (.tuple #[.slice a' k c', .int .i64 0]) ∧ Hid (Gb w w3 ∧ ∀ w4, Gb w3 w4 →
          Calls Try.prog 23 #[.slice a' k c', y] w4 fun e w5 => e = .returned (.bool true) ∧ Hid (
            Calls Try.prog 24 #[.pointer (some ⟨b, 0, none⟩)] w5 fun e w6 => ∃ a2 c2, e = .returned (.slice a2 l c2) ∧ Hid (
              Calls Try.prog 25 #[.slice a2 l c2, .slice a l c] w6 fun e w7 => e = .returned (.bool true) ∧ Hid (
                Calls Try.prog 26 #[.pointer (some ⟨b, 0, none⟩)] w7 fun e w8 => e = .returned (.bool false) ∧ Gb w w8)))))) := by
  obtain ⟨q, all, r, ⟨F, h1, hk⟩, sf, _, _, _, rfl, _, _, ok, hst⟩ := h
  have lt := h1.1.lt
  have hF := h1.2.2
  have eN : nmL q = srtB (kys q.nm) := by unfold nmL; rw [if_neg (by rw [sf.lf]; decide)]
  have lN : (nmL q).length ≤ 1000000 := by
    have := ok.nmL
    rw [eN, srtB_len, kys_length]
    omega
  refine (names_c h1.1 ok (by omega)).mono ?_
  rintro e w1 ⟨v1, rfl, ho, g1⟩
  obtain ⟨a, c, rfl⟩ := row_fm ho
  refine ⟨a, c, _, rfl, ?_⟩
  have h2 := h1.gb g1
  refine (crash_c h2.1 ok (by omega) hcs (fun X kX => hu.gb (kf_base h2.2.1 hF kX))).mono ?_
  rintro e w2 ⟨rfl, o⟩
  have ho2 : OwnT w2 W.heap.size (.slice a (nmL q).length c) (nmL q) := row_same ho fun j e => by
    obtain ⟨_, h⟩ := World.ownsRow.lt ho j e
    rcases ho.2 with ⟨e2, _⟩ | ⟨g2, cap, cur, e2, h1, h2, _⟩
    · rw [e2] at e; cases e
    · rw [e2] at e; cases e
      exact o.2.block _ h fun f => by have := lt _ f; omega
  have S : SaE w w2 b (q.crash cs) [(y, r)] := ⟨_, h2.op o, fun p hp X kX => by
    rw [List.mem_singleton.1 hp]
    exact hk _ (List.mem_cons_self ..) X (((Kf.gb g1 F).then o.2 fun _ _ h => h).then kX fun j hj n => n.elim id fun n => absurd n.1 (by have := g1.size; omega))⟩
  obtain ⟨sf2, en⟩ := sf.again cs
  have ok2 := ok.crash cs
  have t : (q.crash cs).st = q.st := rfl
  have e2 : nmL (q.crash cs) = nmL q := by rw [eN, ← en]; unfold nmL; rw [if_neg (by rw [sf2.lf]; decide)]
  have hd : decide ((q.crash cs).lf = 0) = false := by rw [sf2.lf]; rfl
  refine ⟨rfl, ?_⟩
  generalize q.crash cs = q2 at *
  have e3 : rdV q2 x = r := by unfold rdV; rw [if_pos sf2.fi, sf2.fb]
  have cR := S.read ok2 hx
  rw [e3, sf2.fi] at cR
  refine cR.mono ?_
  rintro e w3 ⟨a', c', rfl, S3⟩
  obtain ⟨S3, g3⟩ := S3.out
  refine ⟨a', c', rfl, S3.base, fun w4 g4 => ?_⟩
  have S4 := S3.gb g4
  have hb := ok2.fb (num q2.nm x)
  rw [sf2.fb] at hb
  refine (bytes_same (S4.rd (List.mem_cons_self ..)).1 (S4.rd (v := y) (l := r) (by simp)).1 (by omega)).mono ?_
  rintro e w5 ⟨rfl, g5⟩
  have S5 := S4.gb g5
  obtain ⟨F5, h5, _⟩ := S5
  refine ⟨rfl, (names_c h5.1 ok2 (by omega)).mono ?_⟩
  rintro e w6 ⟨v2, rfl, hp, g6⟩
  rw [e2] at hp
  obtain ⟨a2, c2, rfl⟩ := row_fm hp
  refine ⟨a2, c2, rfl, ?_⟩
  have g26 := gb_trans (gb_trans (gb_trans g3 g4) g5) g6
  refine (texts_same hp (ho2.gb g26) lN).mono ?_
  rintro e w7 ⟨rfl, g7⟩
  have h7 := (h5.gb g6).gb g7
  have cD := down_c h7.1 ok2
  rw [hd] at cD
  refine ⟨rfl, cD.mono ?_⟩
  rintro e w8 ⟨rfl, rfl⟩
  exact ⟨rfl, h7.2.1⟩
end Go.Proofs.Ytpjoaefmpdjjnaa
