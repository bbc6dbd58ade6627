/- Decode, Table, Encode of anything. -/
import Derived.Test.YtblfmhdcgmkpgaaPOpen
import Derived.Test.YtblfmhdcgmkpgaaPMs
import Derived.Test.YtblfmhdcgmkpgaaRDist
namespace Go.Proofs.Ytblfmhdcgmkpgaa
open Go.RowKit Go.Maps

/-- What Decode tells of any code. -/
def DecO (w w' : World) (bs : List Vs) (code : List Int) (u : Value) (z : Int) : Prop := (Plc code (lensV bs) ∧ z = 0 ∧ Own w' w.heap.size u (decV bs code)) ∨ (¬ Plc code (lensV bs) ∧ z = 101 ∧ u = .slice none 0 0)
theorem decode_any {w : World} {p : Nat} {bs : List Vs} {m s k : Nat} {v : Value} {code : List Int} (hc : CodAt w p (m * s) bs) (hb : Bks bs m s k) (hv : RdI w v code) (hlen : code.length ≤ 4611686018427387904) :
    Calls Try.prog 18 #[.pointer (some ⟨p, 0, none⟩), v] w fun e w' => ∃ u z, e = .returned (.tuple #[u, .int .i64 z]) ∧ DecO w w' bs code u z ∧ Gb w w' := by
  by_cases h : Plc code (lensV bs)
  · refine (decode_ok hc hb hv h).mono ?_
    rintro e w' ⟨u, rfl, o, g⟩
    exact ⟨u, 0, rfl, .inl ⟨h, rfl, o⟩, g⟩
  · refine (decode_no hc hv hlen h).mono ?_
    rintro e w' ⟨rfl, rfl⟩
    exact ⟨_, 101, rfl, .inr ⟨h, rfl, rfl⟩, Below.refl _ _⟩
theorem DecO.form {w w' : World} {bs : List Vs} {code : List Int} {u : Value} {z : Int} (h : DecO w w' bs code u z) : ∃ a n c, u = .slice a n c := by
  rcases h with ⟨_, _, o⟩ | ⟨_, _, rfl⟩
  · obtain ⟨a, c, e, _⟩ := o.rd
    exact ⟨_, _, _, e⟩
  · exact ⟨_, _, _, rfl⟩
/-- What Table tells of any vector. -/
def TabO (w w' : World) (bs : List Vs) (d : Nat) (x : List Int) (u : Value) (z : Int) : Prop := (chk x (d : Int) = 0 ∧ z = 0 ∧ OwnT w' w.heap.size u (tabV bs x)) ∨ (chk x (d : Int) ≠ 0 ∧ z = chk x (d : Int) ∧ u = .slice none 0 0)
theorem table_any {w : World} {p : Nat} {bs : List Vs} {m s k : Nat} {v : Value} {x : List Int} (hc : CodAt w p (m * s) bs) (hb : Bks bs m s k) (hv : RdJ w v x) :
    Calls Try.prog 20 #[.pointer (some ⟨p, 0, none⟩), v] w fun e w' => ∃ u z, e = .returned (.tuple #[u, .int .i64 z]) ∧ TabO w w' bs (m * s) x u z ∧ Gb w w' := by
  by_cases h : chk x ((m * s : Nat) : Int) = 0
  · refine (table_ok hc hb hv h).mono ?_
    rintro e w' ⟨u, rfl, o, g⟩
    exact ⟨u, 0, rfl, .inl ⟨h, rfl, o⟩, g⟩
  · refine (table_no hc hv.1 h).mono ?_
    rintro e w' ⟨rfl, rfl⟩
    exact ⟨_, _, rfl, .inr ⟨h, rfl, rfl⟩, Below.refl _ _⟩
theorem TabO.form {w w' : World} {bs : List Vs} {d : Nat} {x : List Int} {u : Value} {z : Int} (h : TabO w w' bs d x u z) : ∃ a n c, u = .slice a n c := by
  rcases h with ⟨_, _, o⟩ | ⟨_, _, rfl⟩
  · obtain ⟨a, c, e, _⟩ := o.rd
    exact ⟨_, _, _, e⟩
  · exact ⟨_, _, _, rfl⟩
/-- What Encode tells of any vector. -/
def EncO (w w' : World) (bs : List Vs) (d : Nat) (x : List Int) (u : Value) (z : Int) : Prop := (chk x (d : Int) = 0 ∧ z = 0 ∧ Own w' w.heap.size u (encV bs x)) ∨ (chk x (d : Int) ≠ 0 ∧ z = chk x (d : Int) ∧ u = .slice none 0 0)
theorem encode_any {w : World} {p : Nat} {bs : List Vs} {m s k : Nat} {v : Value} {x : List Int} (hc : CodAt w p (m * s) bs) (hb : Bks bs m s k) (hv : RdJ w v x) :
    Calls Try.prog 16 #[.pointer (some ⟨p, 0, none⟩), v] w fun e w' => ∃ u z, e = .returned (.tuple #[u, .int .i64 z]) ∧ EncO w w' bs (m * s) x u z ∧ Gb w w' := by
  by_cases h : chk x ((m * s : Nat) : Int) = 0
  · refine (encode_ok hc hb hv h).mono ?_
    rintro e w' ⟨u, rfl, o, g⟩
    exact ⟨u, 0, rfl, .inl ⟨h, rfl, o⟩, g⟩
  · refine (encode_no hc hv.1 h).mono ?_
    rintro e w' ⟨rfl, rfl⟩
    exact ⟨_, _, rfl, .inr ⟨h, rfl, rfl⟩, Below.refl _ _⟩
theorem EncO.form {w w' : World} {bs : List Vs} {d : Nat} {x : List Int} {u : Value} {z : Int} (h : EncO w w' bs d x u z) : ∃ a n c, u = .slice a n c := by
  rcases h with ⟨_, _, o⟩ | ⟨_, _, rfl⟩
  · obtain ⟨a, c, e, _⟩ := o.rd
    exact ⟨_, _, _, e⟩
  · exact ⟨_, _, _, rfl⟩
theorem Own.rdj {w : World} {B : Nat} {v : Value} {l : List Int} (h : Own w B v l) : RdJ w v l := by
  refine ⟨h.rd, fun a n c e => ?_⟩
  rcases h.2 with ⟨rfl, _⟩ | ⟨g, cap, cur, rfl, h1, h2, h3, h4⟩
  · cases e; exact Nat.le_refl _
  · cases e; first | exact h3 | exact h4.1 | omega
theorem tab_ok {bs : List Vs} {m s k : Nat} (h : Bks bs m s k) {x : List Int} (hx : chk x ((m * s : Nat) : Int) = 0) : TabOk (tabV bs x) := by
  intro i hi j hj
  rw [tabV_len] at hi
  have hi' : i < m := by rw [← h.len]; exact hi
  rw [tabV_get bs x hi] at hj ⊢
  rw [List.length_map] at hj
  rw [getElem!_pos _ j (by rw [List.length_map]; exact hj), List.getElem_map, h.len]
  have h1 := (h.bk i hi').2 j hj
  rw [getElem!_pos bs[i]! j hj] at h1
  have := dst_le (partV_chk hi' hx).1 h1
  omega
theorem tab_lens {bs : List Vs} (x : List Int) : lensV (tabV bs x) = lensV bs := by
  refine List.ext_getElem (by rw [lensV_len, lensV_len, tabV_len]) fun i h1 h2 => ?_
  rw [lensV_len] at h2
  have e1 := lensV_get bs h2
  have e2 := lensV_get (tabV bs x) (i := i) (by rw [tabV_len]; exact h2)
  rw [getElem!_pos _ i (by rw [lensV_len]; exact h2)] at e1
  rw [getElem!_pos _ i (by rw [lensV_len, tabV_len]; exact h2)] at e2
  rw [e1, e2, tabV_get bs x h2, List.length_map]
theorem dist_chk {x y : List Int} {d : Int} (hx : chk x d = 0) (hy : chk y d = 0) : distE x y = 0 ∧ distV x y = dst x y := by
  have h1 := chk_ok hx
  have e : distE x y = 0 := by unfold distE; rw [← h1.2.2.1, if_pos hx]; exact hy
  exact ⟨e, by unfold distV; rw [if_pos e]⟩
end Go.Proofs.Ytblfmhdcgmkpgaa
