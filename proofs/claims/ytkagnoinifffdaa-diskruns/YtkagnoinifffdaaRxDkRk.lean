/- The reference's change: the walk. -/
import Derived.Test.YtkagnoinifffdaaRxDkRj
namespace Go.Proofs.Ytkagnoinifffdaa
open Go.RowKit Go.Lib Go.Maps

variable {w w' W : World} {p : Nat} {q q' : Dq} {nu : List Int} {r : Rf} {L : List (Value × Nat)} {fv nv sv cv : Value} {F G B : Nat → Prop}
def ChO (w w' : World) (p : Nat) (q : Dq) (nu : List Int) (r : Rf) (L : List (Value × Nat)) (c : Rc) (fv sv : Value) (G B : Nat → Prop) : Prop :=
  ∃ nv' cv' G' B', RfM w' p q.done nu ⟨apR r.nm c, r.sf, r.ch ++ [c]⟩ L fv nv' sv cv' G' B' ∧ (∀ j, G' j → j < w'.heap.size) ∧ (∀ j, B' j → j < w'.heap.size) ∧ (∀ j, j < w.heap.size → G' j → G j) ∧ (∀ j, j < w.heap.size → B' j → B j) ∧ Kf G w w'
/-- The changes' row, and the cell that leads to it. -/
def NxA (w : World) (p : Nat) (q : Dq) (nu : List Int) (r : Rf) (L : List (Value × Nat)) (c : Rc) (fv sv : Value) (ca : Option Addr) (cc : Nat) (G B : Nat → Prop) (X : World) : Prop :=
  (X.cell? ⟨p, 4, none⟩ = some (.slice ca r.ch.length cc) ∧ p < X.heap.size ∧ w.heap.size < X.heap.size) ∧
    ∃ ax c4 W4, (Builtin.append_ #[66, 66] 66 #[.slice ca r.ch.length cc, .slice (some ⟨X.heap.size, 0, none⟩) 1 1]).run Try.prog (ChW X.drew c.1 (sb c.2.1) (sb c.2.2.1) (c.2.2.2 : Int)) = .ok (.slice ax (r.ch.length + 1) c4) W4 ∧
      (∃ z, W4.cell? ⟨p, 4, none⟩ = some z) ∧ W4.frozen? ⟨p, 4, none⟩ = false ∧ p < W4.heap.size ∧
      Hid (Calls Try.prog 68 #[.pointer (some ⟨p, 0, none⟩)] (W4.setCell ⟨p, 4, none⟩ (.slice ax (r.ch.length + 1) c4)) fun e w' => e = .returned (.int .i64 0) ∧ Hid (ChO w w' p q nu r L c fv sv G B))
theorem nxA_of {ca : Option Addr} {cc : Nat} (h : RfM w p q nu r L fv nv sv (.slice ca r.ch.length cc) G B) (hG : ∀ j, G j → j < w.heap.size) (hB : ∀ j, B j → j < w.heap.size) (hlf : q.lf ≤ 9223372036854775807) (hst : q.st < 1000000) (hc : r.ch.length ≤ 100000) (c : Rc) {w1 : World} (g1 : Gb w w1) (hs1 : w.heap.size < w1.heap.size) {nv' : Value} (hn : OwR w1 w.heap.size nv' (apR r.nm c)) :
    NxA w p q nu r L c fv sv ca cc G B (w1.setCell ⟨p, 2, none⟩ nv') := by
  have hp := h.lt
  have h1 := h.g g1
  have npV : ∀ {W1 : World} {base m n : Nat} {e : TypeId} {v : Value} {xs : List Value}, W1.heap[p]? = some (.cells #[.int .i64 q.room, fv, nv, sv, .slice ca r.ch.length cc, .int .i64 (q.st : Int), .int .i64 q.lf] 68 (0, 0)) → W1.ownsRow base e m v n xs → e ≠ 68 → ∀ j, v.ownBlock = some j → j ≠ p := fun {W1 base m n e v xs} hbk ho hne j ej eq => by
    subst eq
    obtain ⟨cur, ec⟩ := row_cells ho ej
    exact hne (type_cells ec hbk)
  have nvp := npV h1.blk hn (by decide)
  have blkX : (w1.setCell ⟨p, 2, none⟩ nv').heap[p]? = some (.cells #[.int .i64 q.room, fv, nv', sv, .slice ca r.ch.length cc, .int .i64 (q.st : Int), .int .i64 q.lf] 68 (0, 0)) := by rw [heap_set0 h1.blk]; rfl
  have oth : ∀ k, k ≠ p → (w1.setCell ⟨p, 2, none⟩ nv').heap[k]? = w1.heap[k]? := fun k hk => Below.heap_setCell _ _ _ _ hk
  have nnB : ∀ j, nv'.ownBlock = some j → Nw B w w1 j := fun j e => .inr (World.ownsRow.lt hn j e)
  have GB : ∀ j, G j → ¬ Nw B w w1 j := fun j g b => b.elim (h.gb j g) fun n => by have := hG j g; omega
  have HX : RfM (w1.setCell ⟨p, 2, none⟩ nv') p q nu ⟨apR r.nm c, r.sf, r.ch⟩ L fv nv' sv (.slice ca r.ch.length cc) G (Nw B w w1) := by
    refine h1.mvA (fun k _ hk _ => oth k hk) blkX rfl rfl ?_ nnB ?_ (fun j e => .inl (h.sfB j e)) ?_ h.inG.2.2 (fun _ g => g) (fun _ b => .inl b) GB
    · exact row_same (hn.mono (Nat.zero_le _)) fun j e => oth j (nvp j e)
    · exact row_same h1.sfs fun j e => oth j (npV h1.blk h1.sfs (by decide) j e)
    · exact row_same h1.chs fun j e => oth j (npV h1.blk h1.chs (by decide) j e)
  have sX : (w1.setCell ⟨p, 2, none⟩ nv').heap.size = w1.heap.size := World.size_setCell _ _ _
  have kX : Kf G w (w1.setCell ⟨p, 2, none⟩ nv') := (Kf.gb g1 G).set (fun _ => h.inG.1) _
  generalize hX : w1.setCell ⟨p, 2, none⟩ nv' = X at *
  have HD := HX.g (Below.refl X.heap.size X).drew
  have p1 : p < w1.heap.size := h1.lt
  refine ⟨⟨HX.cells.1.2.2.2.2.1, by omega, by omega⟩, ?_⟩
  obtain ⟨ax, c4, W4, hr, ho, hg, hbk⟩ := appC_run HD.chs c hc
  have gA : Gb X (ChW X.drew c.1 (sb c.2.1) (sb c.2.2.1) (c.2.2.2 : Int)) := gb_alloc (Below.refl _ X).drew _
  have npc : (Value.slice ca r.ch.length cc).ownBlock ≠ some p := fun e => npV h1.blk h1.chs (by decide) p e rfl
  have keep : ∀ k, k < X.heap.size → (Value.slice ca r.ch.length cc).ownBlock ≠ some k → W4.heap[k]? = X.heap[k]? := fun k hk hne => (hg.block k (Nat.lt_of_lt_of_le hk gA.size) fun e => hne e.symm).trans (gA.block k hk)
  have blk4 := (keep p (by omega) npc).trans HX.blk
  have s4 : X.heap.size ≤ W4.heap.size := Nat.le_trans gA.size hg.size
  refine ⟨ax, c4, W4, hr, ⟨_, by simp [World.cell?, blk4]; rfl⟩, by simp [World.frozen?, blk4], by omega, ?_⟩
  have oth4 : ∀ k, k ≠ p → (W4.setCell ⟨p, 4, none⟩ (.slice ax (r.ch.length + 1) c4)).heap[k]? = W4.heap[k]? := fun k hk => Below.heap_setCell _ _ _ _ hk
  have ncT : ∀ {base m n : Nat} {e : TypeId} {v : Value} {xs : List Value}, X.ownsRow base e m v n xs → e ≠ 81 → ∀ j, v.ownBlock = some j → (Value.slice ca r.ch.length cc).ownBlock ≠ some j := fun {base m n e v xs} ho hne j ej eq => by
    obtain ⟨c1, e1⟩ := row_cells ho ej
    obtain ⟨c2, e2⟩ := row_cells HX.chs eq
    exact hne (type_cells e1 e2)
  have npX : ∀ {base m n : Nat} {e : TypeId} {v : Value} {xs : List Value}, X.ownsRow base e m v n xs → e ≠ 68 → ∀ j, v.ownBlock = some j → j ≠ p := fun {base m n e v xs} ho hne j ej eq => by
    subst eq
    obtain ⟨cur, ec⟩ := row_cells ho ej
    exact hne (type_cells ec HX.blk)
  have old : ∀ {base m n : Nat} {e : TypeId} {v : Value} {xs : List Value}, X.ownsRow base e m v n xs → e ≠ 68 → e ≠ 81 → (W4.setCell ⟨p, 4, none⟩ (.slice ax (r.ch.length + 1) c4)).ownsRow base e m v n xs := fun {base m n e v xs} ho h1 h2 =>
    row_same ho fun j ej => (oth4 j (npX ho h1 j ej)).trans (keep j (World.ownsRow.lt ho j ej).2 (ncT ho h2 j ej))
  have newc : ∀ j, (Value.slice ax (r.ch.length + 1) c4).ownBlock = some j → G j ∨ X.heap.size ≤ j := fun j e => (hbk j e).imp (fun e => h.inG.2.2 j e) id
  have M : RfM (W4.setCell ⟨p, 4, none⟩ (.slice ax (r.ch.length + 1) c4)) p q nu ⟨apR r.nm c, r.sf, r.ch ++ [c]⟩ L fv nv' sv (.slice ax (r.ch.length + 1) c4) (fun j => G j ∨ (Value.slice ax (r.ch.length + 1) c4).ownBlock = some j) (Nw B w w1) := by
    refine HX.mvA (fun k hk hkp hf => (oth4 k hkp).trans (keep k hk fun e => ?_)) (by rw [heap_set0 blk4]; rfl) rfl rfl (old HX.nms (by decide) (by decide)) nnB (old HX.sfs (by decide) (by decide)) (fun j e => .inl (h.sfB j e)) ?_ (fun _ e => .inr e) (fun _ g => .inl g) (fun _ b => b) ?_
    · rcases hf (h.inG.2.2 k e) with e' | e'
      · exact ncT HX.fls (by decide) k e' e
      · exact e' e
    · refine row_same ho fun j e => oth4 j fun eq => ?_
      subst eq
      obtain ⟨cur, ec⟩ := row_cells ho e
      exact absurd (type_cells ec blk4) (by decide)
    · rintro j (g | e) b
      · exact GB j g b
      · rcases newc j e with g | n
        · exact GB j g b
        · rcases b with b | b
          · have := hB j b; have := g1.size; omega
          · omega
  refine (rstep_c M hlf hst).mono ?_
  rintro e w' ⟨rfl, M', kp⟩
  have k4 : Kf G w (W4.setCell ⟨p, 4, none⟩ (.slice ax (r.ch.length + 1) c4)) := by
    refine Kf.set ?_ (fun _ => h.inG.1) _
    refine kX.then (F := G) (G := G) ⟨hg.os, hg.tape, hg.output, s4, fun k hk hn => keep k hk fun e => hn (h.inG.2.2 k e)⟩ fun _ _ g => g
  have kf := k4.then kp fun _ _ e => by subst e; exact h.inG.1
  have sz := kp.size
  rw [World.size_setCell] at sz
  refine ⟨rfl, nv', _, _, _, M', fun j hj => hj.elim (fun g => kf.size_eq (hG j g)) fun e => ?_, fun j b => b.elim (fun b => kf.size_eq (hB j b)) fun n => by omega, fun j hj g => g.elim id fun e => ?_, fun j hj b => b.elim id fun n => by omega, kf⟩
  · have := (World.ownsRow.lt ho j e).2; omega
  · rcases newc j e with g | n
    · exact g
    · have := g1.size; omega
set_option maxHeartbeats 4000000 in
set_option maxRecDepth 100000 in
theorem rchange_c (h : RfM w p q nu r L fv nv sv cv G B) (hG : ∀ j, G j → j < w.heap.size) (hB : ∀ j, B j → j < w.heap.size) (hlf : q.lf ≤ 9223372036854775807) (hst : q.st < 1000000) (hl : r.nm.length ≤ 10000) (hc : r.ch.length ≤ 100000) (c : Rc) :
    Calls Try.prog 67 #[.pointer (some ⟨p, 0, none⟩), .agg #[.int .i64 c.1, .string (sb c.2.1), .string (sb c.2.2.1), .int .i64 (c.2.2.2 : Int)]] w fun e w' => e = .returned (.int .i64 0) ∧ Hid (ChO w w' p q nu r L c fv sv G B) := by
  obtain ⟨ca, cc, rfl⟩ := row_fm h.chs
  obtain ⟨a, cap, rfl⟩ := row_fm h.nms
  have g0 : Gb w (ChW w c.1 (sb c.2.1) (sb c.2.2.1) (c.2.2.2 : Int)) := gb_alloc (Below.refl _ w) _
  have CA : Hid (∀ W, Gb (ChW w c.1 (sb c.2.1) (sb c.2.2.1) (c.2.2.2 : Int)) W → Calls Try.prog 71 #[.slice a r.nm.length cap, .agg #[.int .i64 c.1, .string (sb c.2.1), .string (sb c.2.2.1), .int .i64 (c.2.2.2 : Int)]] W fun e w1 => ∃ v, e = .returned v ∧ (∃ b m d, v = .slice b m d) ∧ (∃ z, w1.cell? ⟨p, 2, none⟩ = some z) ∧ w1.frozen? ⟨p, 2, none⟩ = false ∧ p < w1.heap.size ∧
      (w1.cell? ⟨w.heap.size, 0, none⟩ = some (.int .i64 c.1) ∧ w1.cell? ⟨w.heap.size, 1, none⟩ = some (.string (sb c.2.1)) ∧ w1.cell? ⟨w.heap.size, 2, none⟩ = some (.string (sb c.2.2.1)) ∧ w1.cell? ⟨w.heap.size, 3, none⟩ = some (.int .i64 (c.2.2.2 : Int)) ∧ w.heap.size < w1.heap.size ∧ p ≠ w.heap.size) ∧
      Hid (NxA w p q nu r L c fv sv ca cc G B (w1.setCell ⟨p, 2, none⟩ v))) := fun W gW => by
    have g := gb_trans g0 gW
    refine (rapply_c (h.g g).nms hl).mono ?_
    rintro e w1 ⟨v, rfl, o1, g1⟩
    have gk := gb_trans gW g1
    have h1 := h.g (gb_trans g g1)
    obtain ⟨⟨_, _, z2, _⟩, fz⟩ := h1.cells
    have b0 := gb_keeps gk (show (ChW w c.1 (sb c.2.1) (sb c.2.2.1) (c.2.2.2 : Int)).cell? ⟨w.heap.size, 0, none⟩ = some (.int .i64 c.1) by simp [go_sem, ChW])
    refine ⟨v, rfl, row_fm o1 |> fun ⟨b, d, e⟩ => ⟨b, _, d, e⟩, ⟨_, z2⟩, fz 2, h1.lt, ⟨b0, gb_keeps gk (by simp [go_sem, ChW]), gb_keeps gk (by simp [go_sem, ChW]), gb_keeps gk (by simp [go_sem, ChW]), cell_lt b0, by have := h.lt; omega⟩, ?_⟩
    exact nxA_of h hG hB hlf hst hc c (gb_trans g g1) (cell_lt b0) (o1.mono g.size)
  obtain ⟨⟨_, _, c2, _⟩, fz⟩ := h.cells
  have f2 := fz 2
  have hp := h.lt
  have C2 : Hid (∀ W, Gb w W → W.cell? ⟨p, 2, none⟩ = some (.slice a r.nm.length cap)) := fun W g => gb_keeps g c2
  clear h hG hB hlf hst hl hc g0
  unfold NxA at CA
  generalize sb c.2.1 = s1 at *
  generalize sb c.2.2.1 = s2 at *
  generalize (c.2.2.2 : Int) = f at *
  generalize hk : c.1 = k at *
  generalize r.nm.length = m at *
  generalize r.ch.length = n at *
  go_enter Try.func67, Try.ntmps67
  go_wp2
  go_region_with (go_at_call 71; refine (CA.out _ (Below.refl _ (ChW w k s1 s2 f)).drew).mono ?_; rintro e w1 ⟨_, rfl, ⟨b, mm, d, rfl⟩, ⟨z, z2⟩, z3, z4, ⟨b0, b1, b2, b3, b4, b5⟩, NX⟩)
  all_goals
    obtain ⟨⟨x4, xp, xw⟩, ax, c4, W4, hr, ⟨y, y4⟩, yf, yp, ST⟩ := NX.out
    have o0 : (w1.setCell ⟨p, 2, none⟩ (.slice b mm d)).cell? ⟨w.heap.size, 0, none⟩ = some (.int .i64 k) := (World.cell?_setCell_far _ _ _ _ b5).trans b0
    have o1 : (w1.setCell ⟨p, 2, none⟩ (.slice b mm d)).cell? ⟨w.heap.size, 1, none⟩ = some (.string s1) := (World.cell?_setCell_far _ _ _ _ b5).trans b1
    have o2 : (w1.setCell ⟨p, 2, none⟩ (.slice b mm d)).cell? ⟨w.heap.size, 2, none⟩ = some (.string s2) := (World.cell?_setCell_far _ _ _ _ b5).trans b2
    have o3 : (w1.setCell ⟨p, 2, none⟩ (.slice b mm d)).cell? ⟨w.heap.size, 3, none⟩ = some (.int .i64 f) := (World.cell?_setCell_far _ _ _ _ b5).trans b3
    clear CA C2 NX z2 z3 z4 b0 b1 b2 b3 b4 b5
    generalize w1.setCell ⟨p, 2, none⟩ (.slice b mm d) = X at *
    go_wp2
    go_region_law (refine step_append_run rfl (.tmp 18) (.tmp 20) 66 rfl _ _ (by simp [Act.eval]) (by simp [Act.eval]) hr ?_)
  all_goals
    have ST2 := ST.out
    clear ST
    go_wp2_with fail
    refine ST2.mono ?_
    rintro e w3 ⟨rfl, O⟩
    clear ST2
    go_wp2
    go_ret
    exact ⟨rfl, O⟩
end Go.Proofs.Ytkagnoinifffdaa
