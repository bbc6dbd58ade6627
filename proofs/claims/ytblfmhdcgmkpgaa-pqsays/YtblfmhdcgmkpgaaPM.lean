/- What pq answers, plainly: parts of vectors, books, codes, what they say, tables, sums. -/
import Derived.Test.YtblfmhdcgmkpgaaKMath
namespace Go.Proofs.Ytblfmhdcgmkpgaa
open Go.RowKit

/-- Part i of a vector of m parts. -/
def partV (v : List Int) (m i : Nat) : List Int := (v.drop (i * (v.length / m))).take (v.length / m)
theorem part_room {n m i : Nat} (hi : i < m) : i * (n / m) + n / m ≤ n := by
  have h1 : (i + 1) * (n / m) ≤ m * (n / m) := Nat.mul_le_mul_right _ hi
  have h2 : m * (n / m) ≤ n := Nat.mul_div_le n m
  have h3 : (i + 1) * (n / m) = i * (n / m) + n / m := Nat.succ_mul _ _
  omega
theorem partV_len (v : List Int) {m i : Nat} (hi : i < m) : (partV v m i).length = v.length / m := by
  have := part_room (n := v.length) hi
  unfold partV
  rw [List.length_take, List.length_drop]; omega
theorem partV_get (v : List Int) {m i t : Nat} (hi : i < m) (ht : t < v.length / m) : (partV v m i)[t]! = v[i * (v.length / m) + t]! := by
  have h := part_room (n := v.length) hi
  rw [getElem!_pos _ t (by rw [partV_len v hi]; exact ht), getElem!_pos v _ (by omega)]
  unfold partV
  rw [List.getElem_take, List.getElem_drop]
theorem partV_all {v : List Int} {m i : Nat} (h : allR v = true) : allR (partV v m i) = true := by
  unfold allR at h ⊢
  rw [List.all_eq_true] at h ⊢
  exact fun y hy => h y (List.mem_of_mem_drop (List.mem_of_mem_take hy))
theorem partV_chk {v : List Int} {m s i : Nat} (hi : i < m) (h : chk v ((m * s : Nat) : Int) = 0) : chk (partV v m i) (s : Int) = 0 ∧ v.length / m = s ∧ 1 ≤ s ∧ s ≤ 64 := by
  obtain ⟨h1, h2, h3, h4⟩ := chk_ok h
  have h5 : v.length = m * s := by omega
  have h6 : v.length / m = s := by rw [h5]; exact Nat.mul_div_cancel_left s (by omega)
  have h7 : 1 ≤ s := by
    rcases Nat.eq_zero_or_pos s with e | e
    · rw [e, Nat.mul_zero] at h5; omega
    · exact e
  have h8 : s ≤ m * s := Nat.le_mul_of_pos_left s (by omega)
  refine ⟨?_, h6, h7, by omega⟩
  unfold chk
  rw [if_pos ⟨by omega, by omega, by rw [partV_len v hi, h6]⟩]
  unfold vErr; rw [partV_all h4]; rfl

/-- The parts i of vectors. -/
def cutV (l : Vs) (m i : Nat) : Vs := l.map fun v => partV v m i
theorem cutV_len (l : Vs) (m i : Nat) : (cutV l m i).length = l.length := by simp [cutV]
theorem cutV_get (l : Vs) (m i : Nat) {j : Nat} (hj : j < l.length) : (cutV l m i)[j]! = partV l[j]! m i := by
  rw [getElem!_pos _ j (by rw [cutV_len]; exact hj), getElem!_pos l j hj]; simp [cutV]
theorem cutV_take (l : Vs) (m i : Nat) {q : Nat} (hq : q < l.length) : (cutV l m i).take (q + 1) = (cutV l m i).take q ++ [partV l[q]! m i] := by
  have h : q < (cutV l m i).length := by rw [cutV_len]; exact hq
  rw [List.take_succ_eq_append_getElem h, ← getElem!_pos (cutV l m i) q h, cutV_get l m i hq]
/-- What Train answers. -/
def pqE (l : Vs) (d m k r : Int) : Int :=
  if 1 ≤ d ∧ d ≤ 64 then (if 1 ≤ m ∧ m ≤ 8 ∧ 1 ≤ k ∧ k ≤ 16 ∧ 0 ≤ r ∧ r ≤ 20 then (if d.tmod m = 0 then (if l.length ≤ 512 then (if (l.length : Int) < k then 60 else vecsE l d) else 2) else 100) else 1) else 30
theorem pqE_zero {l : Vs} {d m k r : Int} : pqE l d m k r = 0 ↔ (1 ≤ d ∧ d ≤ 64) ∧ (1 ≤ m ∧ m ≤ 8 ∧ 1 ≤ k ∧ k ≤ 16 ∧ 0 ≤ r ∧ r ≤ 20) ∧ d.tmod m = 0 ∧ l.length ≤ 512 ∧ k ≤ (l.length : Int) ∧ VsOk l d := by
  unfold pqE
  split
  · rename_i h1
    split
    · rename_i h2
      split
      · rename_i h3
        split
        · rename_i h4
          split
          · rename_i h5; exact ⟨fun e => by simp at e, fun e => by omega⟩
          · rename_i h5; rw [vecsE_zero]; exact ⟨fun e => ⟨h1, h2, h3, h4, by omega, e⟩, fun e => e.2.2.2.2.2⟩
        · rename_i h4; exact ⟨fun e => by simp at e, fun e => absurd e.2.2.2.1 h4⟩
      · rename_i h3; exact ⟨fun e => by simp at e, fun e => absurd e.2.2.1 h3⟩
    · rename_i h2; exact ⟨fun e => by simp at e, fun e => absurd e.2.1 h2⟩
  · rename_i h1; exact ⟨fun e => by simp at e, fun e => absurd e.1 h1⟩
/-- The seed of part i. -/
def seedAt (x : Int) (i : Nat) : Int := IntKind.u64.wrap (x + (i : Int))
theorem seedAt_u (x : Int) (i : Nat) : Rn.U (seedAt x i) := Rn.u_wrap _
def bookV (l : Vs) (m k r : Nat) (x : Int) (i : Nat) : Vs := trainV (cutV l m i) k r (seedAt x i)
def booksV (l : Vs) (m k r : Nat) (x : Int) : List Vs := (List.range m).map (bookV l m k r x)
theorem booksV_len (l : Vs) (m k r : Nat) (x : Int) : (booksV l m k r x).length = m := by simp [booksV]
theorem booksV_get (l : Vs) {m : Nat} (k r : Nat) (x : Int) {i : Nat} (hi : i < m) : (booksV l m k r x)[i]! = bookV l m k r x i := by
  rw [getElem!_pos _ i (by rw [booksV_len]; exact hi)]; simp [booksV]
/-- A training that may be: m parts of s coordinates, k of n vectors, r rounds. -/
structure TrOk (l : Vs) (m s k r : Nat) : Prop where
  m1 : 1 ≤ m
  m8 : m ≤ 8
  s1 : 1 ≤ s
  d64 : m * s ≤ 64
  k1 : 1 ≤ k
  k16 : k ≤ 16
  r20 : r ≤ 20
  kn : k ≤ l.length
  n512 : l.length ≤ 512
  ok : VsOk l ((m * s : Nat) : Int)
theorem TrOk.of {l : Vs} {d m k r : Int} (h : pqE l d m k r = 0) : ∃ M S K R : Nat, d = ((M * S : Nat) : Int) ∧ m = (M : Int) ∧ k = (K : Int) ∧ r = (R : Int) ∧ TrOk l M S K R := by
  obtain ⟨⟨h1, h2⟩, ⟨h3, h4, h5, h6, h7, h8⟩, h9, h10, h11, h12⟩ := pqE_zero.1 h
  obtain ⟨M, rfl⟩ : ∃ M : Nat, m = M := ⟨m.toNat, by omega⟩
  obtain ⟨K, rfl⟩ : ∃ K : Nat, k = K := ⟨k.toNat, by omega⟩
  obtain ⟨R, rfl⟩ : ∃ R : Nat, r = R := ⟨r.toNat, by omega⟩
  obtain ⟨D, rfl⟩ : ∃ D : Nat, d = D := ⟨d.toNat, by omega⟩
  have hd : D % M = 0 := by
    have : ((D : Int).tmod (M : Int)) = ((D % M : Nat) : Int) := rfl
    rw [this] at h9; omega
  have e : M * (D / M) = D := by have := Nat.div_add_mod D M; omega
  have e1 : 1 ≤ D / M := by
    rcases Nat.eq_zero_or_pos (D / M) with z | z
    · rw [z, Nat.mul_zero] at e; omega
    · exact z
  exact ⟨M, D / M, K, R, by rw [e], rfl, rfl, rfl, by omega, by omega, e1, by omega, by omega, by omega, by omega, by omega, h10, by rw [e]; exact h12⟩
theorem TrOk.pqE {l : Vs} {m s k r : Nat} (h : TrOk l m s k r) : pqE l ((m * s : Nat) : Int) (m : Int) (k : Int) (r : Int) = 0 := by
  have h1 := h.m1; have h2 := h.m8; have h3 := h.s1; have h4 := h.d64; have h5 := h.k1; have h6 := h.k16; have h7 := h.r20; have h8 := h.kn
  have h9 : s ≤ m * s := Nat.le_mul_of_pos_left s (by omega)
  refine pqE_zero.2 ⟨⟨by omega, by omega⟩, ⟨by omega, by omega, by omega, by omega, by omega, by omega⟩, ?_, h.n512, by omega, h.ok⟩
  have : (((m * s : Nat) : Int).tmod (m : Int)) = ((m * s % m : Nat) : Int) := rfl
  rw [this, Nat.mul_mod_right]; rfl
theorem TrOk.cut {l : Vs} {m s k r : Nat} (h : TrOk l m s k r) {i : Nat} (hi : i < m) : VsOk (cutV l m i) (s : Int) ∧ (cutV l m i)[0]!.length = s ∧ trainE (cutV l m i) (k : Int) (r : Int) = 0 := by
  have h1 : VsOk (cutV l m i) (s : Int) := fun j hj => by
    rw [cutV_len] at hj
    rw [cutV_get l m i hj]
    exact (partV_chk hi (h.ok j hj)).1
  have h5 := h.k1; have h6 := h.k16; have h7 := h.r20; have h8 := h.kn; have h9 := h.n512
  have h2 : (cutV l m i)[0]!.length = s := by
    have := h1.get (i := 0) (by rw [cutV_len]; omega)
    omega
  refine ⟨h1, h2, trainE_zero.2 ⟨⟨by omega, by omega, by omega, by omega⟩, by rw [cutV_len]; exact h9, by rw [cutV_len]; omega, by rw [h2]; exact h1⟩⟩
/-- Books that may be: m of k vectors of s coordinates. -/
structure Bks (bs : List Vs) (m s k : Nat) : Prop where
  len : bs.length = m
  m1 : 1 ≤ m
  m8 : m ≤ 8
  s1 : 1 ≤ s
  d64 : m * s ≤ 64
  k1 : 1 ≤ k
  k16 : k ≤ 16
  bk : ∀ i, i < m → bs[i]!.length = k ∧ VsOk bs[i]! (s : Int)
theorem TrOk.bks {l : Vs} {m s k r : Nat} (h : TrOk l m s k r) (x : Int) : Bks (booksV l m k r x) m s k := by
  refine ⟨booksV_len _ _ _ _ _, h.m1, h.m8, h.s1, h.d64, h.k1, h.k16, fun i hi => ?_⟩
  rw [booksV_get l k r x hi]
  obtain ⟨_, h2, h3⟩ := h.cut hi
  have h4 := (train_ok h3 (seedAt x i) r).2
  rw [h2] at h4
  exact ⟨h4.2, h4.1⟩
theorem Bks.part {bs : List Vs} {m s k : Nat} (_h : Bks bs m s k) {v : List Int} (hv : chk v ((m * s : Nat) : Int) = 0) {i : Nat} (hi : i < m) : chk (partV v m i) (s : Int) = 0 := (partV_chk hi hv).1

/-- A vector's code. -/
def encV (bs : List Vs) (v : List Int) : List Int := (List.range bs.length).map fun i => ((nearP bs[i]! (partV v bs.length i)).1 : Int)
theorem encV_len (bs : List Vs) (v : List Int) : (encV bs v).length = bs.length := by simp [encV]
theorem encV_get (bs : List Vs) (v : List Int) {i : Nat} (hi : i < bs.length) : (encV bs v)[i]! = ((nearP bs[i]! (partV v bs.length i)).1 : Int) := by
  rw [getElem!_pos _ i (by rw [encV_len]; exact hi)]; simp [encV]
theorem encV_take (bs : List Vs) (v : List Int) {q : Nat} (hq : q < bs.length) : (encV bs v).take (q + 1) = (encV bs v).take q ++ [((nearP bs[q]! (partV v bs.length q)).1 : Int)] := by
  have h : q < (encV bs v).length := by rw [encV_len]; exact hq
  rw [List.take_succ_eq_append_getElem h, ← getElem!_pos (encV bs v) q h, encV_get bs v hq]
/-- Numbers that are places in lists that are so long. -/
def Plc (code : List Int) (ns : List Nat) : Prop := code.length = ns.length ∧ ∀ i, i < code.length → 0 ≤ code[i]! ∧ code[i]! < (ns[i]! : Int)
/-- What the first q numbers of a code say. -/
def decTo (bs : List Vs) (code : List Int) : Nat → List Int
  | 0 => []
  | q + 1 => decTo bs code q ++ bs[q]![code[q]!.toNat]!
def decV (bs : List Vs) (code : List Int) : List Int := decTo bs code code.length
/-- How far each of the books is from a vector's parts. -/
def tabV (bs : List Vs) (v : List Int) : List (List Nat) := (List.range bs.length).map fun i => bs[i]!.map fun c => dst (partV v bs.length i) c
theorem tabV_len (bs : List Vs) (v : List Int) : (tabV bs v).length = bs.length := by simp [tabV]
theorem tabV_get (bs : List Vs) (v : List Int) {i : Nat} (hi : i < bs.length) : (tabV bs v)[i]! = bs[i]!.map fun c => dst (partV v bs.length i) c := by
  rw [getElem!_pos _ i (by rw [tabV_len]; exact hi)]; simp [tabV]
/-- The sum of a table's numbers at the first q places. -/
def estTo (t : List (List Nat)) (code : List Int) : Nat → Nat
  | 0 => 0
  | q + 1 => estTo t code q + t[q]![code[q]!.toNat]!
theorem estTo_mono (t : List (List Nat)) (code : List Int) {p q : Nat} (h : p ≤ q) : estTo t code p ≤ estTo t code q := by
  induction q with
  | zero => have : p = 0 := by omega
            subst this; exact Nat.le_refl _
  | succ q ih =>
    by_cases e : p = q + 1
    · subst e; exact Nat.le_refl _
    · rw [estTo]; have := ih (by omega); omega
/-- How long the lists are. -/
def lensV {α : Type} (bs : List (List α)) : List Nat := bs.map List.length
theorem lensV_len {α : Type} (bs : List (List α)) : (lensV bs).length = bs.length := by simp [lensV]
theorem lensV_get {α : Type} [Inhabited α] (bs : List (List α)) {i : Nat} (hi : i < bs.length) : (lensV bs)[i]! = bs[i]!.length := by
  rw [getElem!_pos _ i (by rw [lensV_len]; exact hi), getElem!_pos bs i hi]; simp [lensV]
theorem Plc.lt {code : List Int} {bs : List Vs} {m s k : Nat} (h : Bks bs m s k) (hp : Plc code (lensV bs)) {i : Nat} (hi : i < m) : 0 ≤ code[i]! ∧ code[i]!.toNat < k := by
  have h1 := hp.1
  rw [lensV_len, h.len] at h1
  have h2 := hp.2 i (by omega)
  rw [lensV_get bs (by rw [h.len]; exact hi), (h.bk i hi).1] at h2
  omega
theorem decTo_len {code : List Int} {bs : List Vs} {m s k : Nat} (h : Bks bs m s k) (hp : Plc code (lensV bs)) : ∀ q, q ≤ m → (decTo bs code q).length = q * s
  | 0, _ => by simp [decTo]
  | q + 1, hq => by
    have h1 := decTo_len h hp q (by omega)
    have h2 := hp.lt h (i := q) (by omega)
    have h3 := (h.bk q (by omega))
    have h4 := h3.2.get (i := code[q]!.toNat) (by omega)
    rw [decTo, List.length_append, h1, Nat.succ_mul]; omega
theorem encV_places {bs : List Vs} {m s k : Nat} (h : Bks bs m s k) (v : List Int) : Plc (encV bs v) (lensV bs) := by
  refine ⟨by rw [encV_len, lensV_len], fun i hi => ?_⟩
  rw [encV_len] at hi
  rw [encV_get bs v hi, lensV_get bs hi]
  have := nearP_lt (cs := bs[i]!) (by have := h.bk i (by rw [← h.len]; exact hi); have := h.k1; omega) (partV v bs.length i)
  omega
end Go.Proofs.Ytblfmhdcgmkpgaa
