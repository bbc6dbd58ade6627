/- The reference's Crash: what its loops keep. -/
import Derived.Test.YtkagnoinifffdaaRxDkRo
namespace Go.Proofs.Ytkagnoinifffdaa
open Go.RowKit Go.Lib Go.Maps

variable {w w' W W' : World} {p : Nat} {q q' : Dq} {nu : List Int} {r : Rf} {L : List (Value × Nat)} {fv nv sv cv : Value} {F G B : Nat → Prop}
def CrI (w : World) (p : Nat) (q : Dq) (nu : List Int) (r : Rf) (fv nv sv cv : Value) (cs : List Int) (G B : Nat → Prop) (i : Nat) (W : World) : Prop :=
  ∃ L B', RfM W p (crQ q cs i) nu ⟨crR r cs, r.sf, r.ch⟩ L fv nv sv cv G B' ∧ (∀ j, j < w.heap.size → B' j → B j) ∧ (∀ j, B' j → j < W.heap.size) ∧ Kf G w W
theorem CrI.g {cs : List Int} {i : Nat} (h : CrI w p q nu r fv nv sv cv cs G B i W) (g : Gb W W') : CrI w p q nu r fv nv sv cv cs G B i W' := by
  obtain ⟨L, B', h1, h2, h3, h4⟩ := h
  exact ⟨L, B', h1.g g, h2, fun j b => Nat.lt_of_lt_of_le (h3 j b) g.size, h4.then (Kf.gb g G) fun _ _ h => h⟩
theorem npB (hb : W.heap[p]? = some (.cells #[.int .i64 q.room, fv, nv, sv, cv, .int .i64 (q.st : Int), .int .i64 q.lf] 68 (0, 0))) {base m n : Nat} {e : TypeId} {v : Value} {xs : List Value} (ho : W.ownsRow base e m v n xs) (hne : e ≠ 68) : ∀ j, v.ownBlock = some j → j ≠ p := fun j ej eq => by
  subst eq
  obtain ⟨cur, ec⟩ := row_cells ho ej
  exact hne (type_cells ec hb)
/-- The names that survive are told. -/
theorem crI_start {cs : List Int} (h : RfM w p q nu r L fv nv sv cv G B) (hG : ∀ j, G j → j < w.heap.size) (hB : ∀ j, B j → j < w.heap.size) {w1 : World} (h1 : RfM w1 p { q with lf := -1 } nu r L fv nv sv cv G B) (k1 : Kf G w w1) {w2 : World} (g2 : Gb w1 w2) {v : Value} (hn : OwR w2 w1.heap.size v (crR r cs)) :
    CrI w p q nu r fv v sv cv cs G B 0 (w2.setCell ⟨p, 2, none⟩ v) := by
  have h2 := h1.g g2
  have s12 := g2.size
  have s01 := k1.size
  have oth : ∀ k, k ≠ p → (w2.setCell ⟨p, 2, none⟩ v).heap[k]? = w2.heap[k]? := fun k hk => Below.heap_setCell _ _ _ _ hk
  have GB : ∀ j, G j → ¬ Nw B w w2 j := fun j g b => b.elim (h.gb j g) fun n => by have := hG j g; omega
  refine ⟨L, Nw B w w2, ?_, fun j hj b => b.elim id fun n => by omega, fun j b => by rw [World.size_setCell]; exact b.elim (fun b => by have := hB j b; omega) fun n => n.2, (k1.then (Kf.gb g2 G) fun _ _ g => g).set (fun _ => h.inG.1) _⟩
  refine h2.mvA (fun k _ hk _ => oth k hk) (by rw [heap_set0 h2.blk]; rfl) rfl rfl ?_ (fun j e => .inr ?_) ?_ (fun j e => .inl (h.sfB j e)) ?_ h.inG.2.2 (fun _ g => g) (fun _ b => .inl b) GB
  · exact row_same (hn.mono (Nat.zero_le _)) fun j e => oth j (npB h2.blk hn (by decide) j e)
  · have := World.ownsRow.lt hn j e; omega
  · exact row_same h2.sfs fun j e => oth j (npB h2.blk h2.sfs (by decide) j e)
  · exact row_same h2.chs fun j e => oth j (npB h2.blk h2.chs (by decide) j e)
/-- All files have gone through. -/
theorem crI_end {cs : List Int} (h : CrI w p q nu r fv nv sv cv cs G B (crR r cs).length W) (hr : RelQ nu q r) (ok : q.Ok) (hi : q.Inj) (hG : ∀ j, G j → j < w.heap.size) {w2 : World} (g2 : Gb W w2) {v : Value} (hn : OwR w2 W.heap.size v (woR (crR r cs) [])) :
    RfO w ((w2.setCell ⟨p, 3, none⟩ v).setCell ⟨p, 4, none⟩ (.slice none 0 0)) p (q.crash cs) G B := by
  obtain ⟨L, B', M, b1, b2, k⟩ := h
  have M2 := M.g g2
  have s2 := g2.size
  have s0 := k.size
  have oth : ∀ k, k ≠ p → ((w2.setCell ⟨p, 3, none⟩ v).setCell ⟨p, 4, none⟩ (.slice none 0 0)).heap[k]? = w2.heap[k]? := fun k hk => by rw [Below.heap_setCell _ _ _ _ hk, Below.heap_setCell _ _ _ _ hk]
  have GB : ∀ j, G j → ¬ Nw B' W w2 j := fun j g b => b.elim (M.gb j g) fun n => by have := hG j g; omega
  have MF : RfM ((w2.setCell ⟨p, 3, none⟩ v).setCell ⟨p, 4, none⟩ (.slice none 0 0)) p (q.crash cs) nu ⟨crR r cs, woR (crR r cs) [], []⟩ L fv nv v (.slice none 0 0) G (Nw B' W w2) := by
    have e : q.crash cs = (crQ q cs (crR r cs).length).settle := by rw [crQ_len hr ok hi]; rfl
    rw [e]
    refine M2.mvA (fun k _ hk _ => oth k hk) (by rw [heap_set0 (heap_set0 M2.blk)]; rfl) rfl rfl ?_ (fun j e => .inl (M.nmB j e)) ?_ (fun j e => .inr (World.ownsRow.lt hn j e)) (World.ownsRow_nil _ _ _ _) (fun j e => by simp [Value.ownBlock] at e) (fun _ g => g) (fun _ b => .inl b) GB
    · exact row_same M2.nms fun j e => oth j (npB M2.blk M2.nms (by decide) j e)
    · exact row_same (hn.mono (Nat.zero_le _)) fun j e => oth j (npB M2.blk hn (by decide) j e)
  have kf : Kf G w ((w2.setCell ⟨p, 3, none⟩ v).setCell ⟨p, 4, none⟩ (.slice none 0 0)) := ((k.then (Kf.gb g2 G) fun _ _ g => g).set (fun _ => M.inG.1) _).set (fun _ => M.inG.1) _
  have sz : ((w2.setCell ⟨p, 3, none⟩ v).setCell ⟨p, 4, none⟩ (.slice none 0 0)).heap.size = w2.heap.size := by rw [World.size_setCell, World.size_setCell]
  exact ⟨G, Nw B' W w2, ⟨_, _, _, _, _, _, _, MF, hr.crash ok hi cs, fun j g => kf.size_eq (hG j g), fun j b => by rw [sz]; exact b.elim (fun b => by have := b2 j b; omega) fun n => n.2⟩, fun _ _ g => g, fun j hj b => b.elim (b1 j hj) fun n => by omega, kf⟩
/-- What a round of the files' loop meets. -/
def CrF (w : World) (p : Nat) (q : Dq) (nu : List Int) (r : Rf) (fv nv sv cv : Value) (cs : List Int) (G B : Nat → Prop) (i : Nat) (W : World) (g gn f s y : Nat) (b : Option Addr) (c cap capn : Nat) : Prop :=
  fv = .slice (some ⟨g, 0, none⟩) nu.length cap ∧ nv = .slice (some ⟨gn, 0, none⟩) (crR r cs).length capn ∧ f < nu.length ∧ s ≤ y ∧ y ≤ 4194304 ∧ y ≤ c ∧ (b = none → y = 0 ∧ c = 0) ∧
    (∀ X, Gb W X → X.cell? ⟨p, 1, none⟩ = some fv ∧ X.cell? ⟨p, 2, none⟩ = some nv ∧ X.cell? ⟨gn, i * 2 + 1, none⟩ = some (.int .i64 (f : Int)) ∧ X.cell? ⟨g, f * 2, none⟩ = some (.slice b y c) ∧ X.cell? ⟨g, f * 2 + 1, none⟩ = some (.int .i64 (s : Int)) ∧ (X.frozen? ⟨g, f * 2, none⟩ = false ∧ X.frozen? ⟨g, f * 2 + 1, none⟩ = false) ∧ p < X.heap.size ∧ g < X.heap.size ∧ gn < X.heap.size) ∧
    ∃ l : By, l.length = y ∧ OwnB W 0 (.slice b y c) l ∧
      ∀ X, Gb W X → ∀ v, OwnB X W.heap.size v (crB l s (chc cs (i + 1))) → CrI w p q nu r fv nv sv cv cs G B (i + 1) ((X.setCell ⟨g, f * 2, none⟩ v).setCell ⟨g, f * 2 + 1, none⟩ (.int .i64 ((crB l s (chc cs (i + 1))).length : Int)))
theorem crI_round {cs : List Int} {i : Nat} (h : CrI w p q nu r fv nv sv cv cs G B i W) (hr : RelQ nu q r) (ok : q.Ok) (hi : q.Inj) (hG : ∀ j, G j → j < w.heap.size) (hil : i < (crR r cs).length) :
    ∃ g gn f s y b c cap capn, CrF w p q nu r fv nv sv cv cs G B i W g gn f s y b c cap capn := by
  obtain ⟨L, B', M, b1, b2, k⟩ := h
  obtain ⟨f, ef⟩ : ∃ f, (crR r cs)[i]!.2 = f := ⟨_, rfl⟩
  obtain ⟨hf, eQ⟩ := crQ_next hr ok hi cs hil ef
  have okQ := ok.crQ cs i
  obtain ⟨an, capn, en, _, _, hn⟩ := M.nms.at_
  obtain ⟨gn, e1, _, n2⟩ := hn i hil
  subst e1
  rw [ef] at n2
  obtain ⟨af, cap, ev, hfl⟩ := M.files
  obtain ⟨g, e2, k1, k2, k3, b, c, eb⟩ := hfl f hf
  subst e2
  rw [eb] at k1 k3
  have hfb := okQ.fb nu[f]!
  have hfs := okQ.fs nu[f]!
  have hrow := M.fls
  rw [ev, ← M.len] at hrow
  have CE : ∀ X, Gb W X → X.cell? ⟨p, 1, none⟩ = some fv ∧ X.cell? ⟨p, 2, none⟩ = some nv ∧ X.cell? ⟨gn, i * 2 + 1, none⟩ = some (.int .i64 (f : Int)) ∧ X.cell? ⟨g, f * 2, none⟩ = some (.slice b ((crQ q cs i).fb nu[f]!).length c) ∧ X.cell? ⟨g, f * 2 + 1, none⟩ = some (.int .i64 ((crQ q cs i).fs nu[f]! : Int)) ∧ (X.frozen? ⟨g, f * 2, none⟩ = false ∧ X.frozen? ⟨g, f * 2 + 1, none⟩ = false) ∧ p < X.heap.size ∧ g < X.heap.size ∧ gn < X.heap.size := fun X gX => by
    have MX := M.g gX
    have rX := MX.fls
    rw [ev, ← M.len] at rX
    exact ⟨MX.cells.1.2.1, MX.cells.1.2.2.1, gb_keeps gX n2, gb_keeps gX k1, gb_keeps gX k2, ⟨World.ownsRow.frozenAt rX _, World.ownsRow.frozenAt rX _⟩, MX.lt, cell_lt (gb_keeps gX k1), cell_lt (gb_keeps gX n2)⟩
  have hcp : ((crQ q cs i).fb nu[f]!).length ≤ c ∧ (b = none → ((crQ q cs i).fb nu[f]!).length = 0 ∧ c = 0) := by
    rcases id k3.2 with ⟨e, e0⟩ | ⟨g', cap', cur, e, _, _, h3, _⟩
    · obtain ⟨e1, e2, e3⟩ := Value.slice.inj e
      exact ⟨by omega, fun _ => ⟨e0, e3⟩⟩
    · obtain ⟨e1, e2, e3⟩ := Value.slice.inj e
      exact ⟨by omega, fun e => by rw [e] at e1; cases e1⟩
  refine ⟨g, gn, f, (crQ q cs i).fs nu[f]!, ((crQ q cs i).fb nu[f]!).length, b, c, cap, capn, ev, en, hf, hfs, hfb, hcp.1, hcp.2, CE, (crQ q cs i).fb nu[f]!, rfl, k3, fun X gX v ho => ?_⟩
  have sW := k.size
  obtain ⟨M2, k2'⟩ := M.put2 hr.nd hf gX ev (s := (crB ((crQ q cs i).fb nu[f]!) ((crQ q cs i).fs nu[f]!) (chc cs (i + 1))).length) (ho.mono (Nat.zero_le _)) (B' := Nw B' W X) (fun j e => .inr (World.ownsRow.lt ho j e)) (fun _ b => .inl b) (fun j gj bj => bj.elim (M.gb j gj) fun n => by have := hG j gj; omega)
  refine ⟨L.set f (v, (crB ((crQ q cs i).fb nu[f]!) ((crQ q cs i).fs nu[f]!) (chc cs (i + 1))).length), Nw B' W X, ?_, fun j hj b => b.elim (b1 j hj) fun n => by omega, fun j b => by rw [World.size_setCell, World.size_setCell]; exact b.elim (fun b => Nat.lt_of_lt_of_le (b2 j b) gX.size) fun n => n.2, k.then k2' fun _ _ g => g⟩
  rw [eQ]
  have e3 : crN ((crQ q cs i).fb nu[f]!) ((crQ q cs i).fs nu[f]!) (chc cs (i + 1)) = (crB ((crQ q cs i).fb nu[f]!) ((crQ q cs i).fs nu[f]!) (chc cs (i + 1))).length := (crB_len _ hfs).symm
  rw [e3]
  exact M2
end Go.Proofs.Ytkagnoinifffdaa
