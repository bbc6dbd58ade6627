import Derived.Test.YtkagnoinifffdaaRxDkRv
/- A disk and the reference's beside each other; one call on both. -/
namespace Go.Proofs.Ytkagnoinifffdaa
open Go.RowKit Go.Lib Go.Maps

variable {w w' W W1 W2 X : World} {b p : Nat} {q q1 q2 : Dq} {F G B : Nat → Prop}
def PrA (W : World) (b p : Nat) (q : Dq) (F G B : Nat → Prop) : Prop := DkAt W b q F ∧ RfD W p q G B ∧ ∀ j, F j → ¬ G j ∧ ¬ B j
def PrO (W W' : World) (b p : Nat) (q : Dq) (F G B : Nat → Prop) : Prop := ∃ F' G' B', PrA W' b p q F' G' B' ∧ (∀ j, j < W.heap.size → (F' j → F j) ∧ (G' j → G j) ∧ (B' j → B j)) ∧ Kf (fun j => F j ∨ G j) W W'
theorem RfD.bnd (h : RfD W p q G B) : (∀ j, G j → j < W.heap.size) ∧ ∀ j, B j → j < W.heap.size := by
  obtain ⟨_, _, _, _, _, _, _, _, _, h3, h4⟩ := h
  exact ⟨h3, h4⟩
theorem PrA.gb (h : PrA W b p q F G B) (g : Gb W W1) : PrA W1 b p q F G B := ⟨h.1.gb g, h.2.1.g g, h.2.2⟩
theorem PrO.self (h : PrA W b p q F G B) (g : Gb W W1) : PrO W W1 b p q F G B := ⟨F, G, B, h.gb g, fun _ _ => ⟨id, id, id⟩, Kf.gb g _⟩
/-- What was quiet ahead of it or behind it changes nothing. -/
theorem PrO.pre (g : Gb W W1) (h : PrO W1 W2 b p q F G B) : PrO W W2 b p q F G B := by
  obtain ⟨F', G', B', h1, h2, k⟩ := h
  exact ⟨F', G', B', h1, fun j hj => h2 j (Nat.lt_of_lt_of_le hj g.size), (Kf.gb g _).then k fun _ _ h => h⟩
theorem PrO.post (h : PrO W W1 b p q F G B) (g : Gb W1 W2) : PrO W W2 b p q F G B := by
  obtain ⟨F', G', B', h1, h2, k⟩ := h
  exact ⟨F', G', B', h1.gb g, h2, k.then (Kf.gb g fun _ => False) fun _ _ h => h.elim⟩
/-- The program's call first, then the reference's. -/
theorem PrA.both (h : PrA W b p q F G B) (o : DkOut W W1 b q1 F) : RfD W1 p q G B ∧ ∀ W2, RfO W1 W2 p q1 G B → PrO W W2 b p q1 F G B := by
  obtain ⟨h1, h2, h3⟩ := h
  obtain ⟨hG, hB⟩ := h2.bnd
  have R1 : RfD W1 p q G B := h2.kp o.2 (fun j f => (h3 j f).1) fun j f => (h3 j f).2
  refine ⟨R1, fun W2 ro => ?_⟩
  obtain ⟨G', B', r1, r2, r3, k⟩ := ro
  have lt1 := o.1.lt
  have nf : ∀ j, Nw F W W1 j → ¬ G j ∧ ¬ B j := fun j f => f.elim (h3 j) fun n => ⟨fun g => by have := hG j g; omega, fun bb => by have := hB j bb; omega⟩
  have s1 := o.2.size
  refine ⟨Nw F W W1, G', B', ⟨o.1.kp k fun j g f => (nf j f).1 g, r1, fun j f => ⟨fun g => (nf j f).1 (r2 j (lt1 j f) g), fun bb => (nf j f).2 (r3 j (lt1 j f) bb)⟩⟩, fun j hj => ⟨fun f => f.elim id fun n => by omega, fun g => r2 j (by omega) g, fun bb => r3 j (by omega) bb⟩, ?_⟩
  exact (o.2.mono fun _ f => .inl f).then k fun _ _ g => .inr g
/-- The reference's call first, then the program's. -/
theorem PrA.both' (h : PrA W b p q F G B) (ro : RfO W W1 p q1 G B) : DkAt W1 b q F ∧ ∀ W2, DkOut W1 W2 b q1 F → PrO W W2 b p q1 F G B := by
  obtain ⟨h1, h2, h3⟩ := h
  obtain ⟨hG, hB⟩ := h2.bnd
  obtain ⟨G', B', r1, r2, r3, k⟩ := ro
  have D1 : DkAt W1 b q F := h1.kp k fun j g f => (h3 j f).1 g
  refine ⟨D1, fun W2 o => ?_⟩
  have lt0 := h1.lt
  obtain ⟨hG1, hB1⟩ := r1.bnd
  have s1 := k.size
  have nf : ∀ j, F j → ¬ G' j ∧ ¬ B' j := fun j f => ⟨fun g => (h3 j f).1 (r2 j (lt0 j f) g), fun bb => (h3 j f).2 (r3 j (lt0 j f) bb)⟩
  refine ⟨Nw F W1 W2, G', B', ⟨o.1, r1.kp o.2 (fun j f => (nf j f).1) fun j f => (nf j f).2, fun j f => f.elim (nf j) fun n => ⟨fun g => by have := hG1 j g; omega, fun bb => by have := hB1 j bb; omega⟩⟩, fun j hj => ⟨fun f => f.elim id fun n => by omega, r2 j hj, r3 j hj⟩, ?_⟩
  exact (k.mono fun _ g => .inr g).then o.2 fun _ _ f => .inl f
end Go.Proofs.Ytkagnoinifffdaa

/- law17.step: lending to Append; Read; Crash; any other kind. -/
namespace Go.Proofs.Ytkagnoinifffdaa
open Go.RowKit Go.Lib Go.Maps

variable {w w' W W1 W2 w1 w2 w3 X : World} {b p g : Nat} {q q1 q2 : Dq} {F G B : Nat → Prop}
set_option maxHeartbeats 2000000 in
set_option maxRecDepth 100000 in
/-- BackBytes turns what was lent alone. -/
theorem backB_k {u : Value} {l : List UInt8} (h : LentB w g l) (hu : RdB w u l) (hn : l.length ≤ 1048576) :
    Calls Try.prog 45 #[.slice (some ⟨g, 0, none⟩) l.length (l.length + 2), u] w fun e w' => e = .returned (.bool true) ∧ Kf (fun j => j = g) w w' := by
  obtain ⟨m1, m2⟩ := h.marks
  have AA : Hid (AnyB w g (l.length + 2)) := h.any
  obtain ⟨a, cap, rfl, _, ha⟩ := hu
  obtain ⟨_, _, eh, _, hb⟩ := h.rd
  cases eh
  have A : Hid (∀ i, i < l.length → ∃ b o, a = some ⟨b, o, none⟩ ∧ w.cell? ⟨b, o + i, none⟩ = some (.int .u8 (l[i]!.toNat : Int))) := ha
  have B : Hid (∀ i, i < l.length → w.cell? ⟨g, i, none⟩ = some (.int .u8 (l[i]!.toNat : Int))) := fun i hi => by
    obtain ⟨b, o, e, k⟩ := hb i hi
    cases e
    rwa [Nat.zero_add] at k
  obtain ⟨n, hN⟩ : ∃ n, n = l.length := ⟨_, rfl⟩
  have N : Hid (n = l.length) := hN
  obtain ⟨m, hM⟩ : ∃ m, m = n + 2 := ⟨_, rfl⟩
  have A2 : Hid (AnyB w g m) := by rw [hM, hN]; exact AA.out
  rw [← hN] at m1 m2 hn ⊢
  rw [← hM]
  have hm : (n : Int) + 2 = (m : Int) := by omega
  have hnm : (n : Int) < (m : Int) := by omega
  have hnm1 : (n : Int) + 1 < (m : Int) := by omega
  have hnm2 : n ≤ m := by omega
  have hmb : m ≤ 1048578 := by omega
  clear ha hb h hN hM AA
  go_enter Try.func45, Try.ntmps45
  go_wp2
  go_loopw [6, 7] (fun ov iv W => ov = .bool true ∧ ∃ q : Nat, iv = .int .i64 (q : Int) ∧ q ≤ n ∧ Hid (Gb w W)) (fun _ iv _ => n - (intOf iv).toNat)
  case atStart => exact ⟨rfl, 0, rfl, Nat.zero_le _, Below.refl _ _⟩
  case round =>
    obtain ⟨rfl, q, rfl, hq, X⟩ := hrel
    by_cases hqn : q < n
    · have hqi : (q : Int) < (n : Int) := by omega
      obtain ⟨b1, o1, e1, k1⟩ := A.out q (by have := N.out; omega)
      have k1 := gb_keeps X.out k1
      have k2 := gb_keeps X.out (B.out q (by have := N.out; omega))
      generalize (l[q]!.toNat : Int) = z at *
      subst e1
      go_wp2
      go_quiet (fail)
      go_wp2
      exact ⟨⟨rfl, q + 1, by simp, hqn, below_drewN X.out _⟩, by simp [intOf]; omega⟩
    · have e : q = n := by omega
      subst e
      have A3 : Hid (AnyB wr g m) := by
        obtain ⟨cs, h1, h2⟩ := A2.out
        exact ⟨cs, (X.out.block g (Array.getElem?_eq_some_iff.1 h1).1).trans h1, h2⟩
      have G3 : Hid (Kf (fun j => j = g) w wr) := Kf.gb X.out _
      clear X
      go_wp2
      go_loopw [8] (fun iv W => ∃ q : Nat, iv = .int .i64 (q : Int) ∧ q ≤ m ∧ Hid (AnyB W g m ∧ Kf (fun j => j = g) w W)) (fun iv _ => m - (intOf iv).toNat)
      case atStart => exact ⟨0, rfl, Nat.zero_le _, A3.out, G3.out⟩
      case round =>
        obtain ⟨p, rfl, hp, Y⟩ := hrel
        by_cases hpm : p < m
        · have hpi : (p : Int) < (m : Int) := by omega
          obtain ⟨z, k1, k2⟩ := Y.out.1.cell hpm
          have Y1 := fun z' => Y.out.1.set (i := p) z'
          have Y2 := fun z' => Y.out.2.set (p := ⟨g, p, none⟩) (fun _ => rfl) (.int .u8 z')
          go_wp2
          exact ⟨⟨p + 1, by simp, hpm, Y1 _, Y2 _⟩, by simp [intOf]; omega⟩
        · have e : p = m := by omega
          subst e
          go_wp2
          go_ret
          exact ⟨rfl, Y.out.2⟩
theorem LentB.ag {l : By} (h : LentB w g l) : AgB w (.slice (some ⟨g, 0, none⟩) l.length (l.length + 2)) l := by
  refine ⟨_, _, rfl, .inr ⟨_, rfl, fun j u hj => ?_⟩⟩
  obtain ⟨_, _, e, _, hb⟩ := h.rd
  cases e
  have hj' : j < l.length := by
    rcases Nat.lt_or_ge j l.length with h | h
    · exact h
    · rw [List.getElem?_eq_none (by simpa using h)] at hj; cases hj
  obtain ⟨_, _, e, hc⟩ := hb j hj'
  cases e
  rw [Addr.add_lit, hc]
  rw [List.getElem?_map, List.getElem?_eq_getElem hj'] at hj
  rw [getElem!_pos l j hj']
  exact hj
/-- A call between what was lent and what was given back. -/
theorem DkOut.lent (gX : Gb X w1) (hF : ∀ j, F j → j < X.heap.size) (o : DkOut w1 w2 b q F) (k : Kf (fun j => j = g) w2 w3) (hg : X.heap.size ≤ g) (hg1 : g < w1.heap.size) : DkOut X w3 b q F := by
  obtain ⟨D, kf⟩ := o
  have nF : ¬ F g := fun f => by have := hF g f; omega
  have s1 := gX.size
  have s2 := kf.size
  have s3 := k.size
  have D3 : DkAt w3 b q (Nw F w1 w2) := D.kp k fun j e f => by
    subst e
    rcases f with f | f
    · exact nF f
    · omega
  refine ⟨?_, ((Kf.gb gX F).then kf fun _ _ f => f).then k fun j hj e => by omega⟩
  obtain ⟨ks, fm, nb, sn, cv, fv, h1, h2, h3, h4⟩ := D3
  exact ⟨ks, fm, nb, sn, cv, fv, h1.kp (fun _ _ _ => rfl) fun j f hj => f.imp id fun f => ⟨by omega, hj⟩, h2, h3, fun j f => f.elim (fun f => by have := hF j f; omega) fun f => f.2⟩
end Go.Proofs.Ytkagnoinifffdaa
