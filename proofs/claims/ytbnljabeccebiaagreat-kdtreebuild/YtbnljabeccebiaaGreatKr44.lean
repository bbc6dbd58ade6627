import Derived.Test.YtbnljabeccebiaaGreatKr43
import Derived.Test.YtbnljabeccebiaaGreatKr10
import Derived.Test.YtbnljabeccebiaaGreatKr40
/- The reference's Hits: all rows' hits in their order, by laying each in among those ahead. -/
namespace Go.Proofs.YtbnljabeccebiaaGreat
open Go.RowKit Go.Sort Go.Maps

theorem ins_at (x : Tk.Ht) : ∀ (l : List Tk.Ht) (q : Nat), (∀ i, i < q → Tk.hlt x l[i]! = false) → q ≤ l.length → (q < l.length → Tk.hlt x l[q]! = true) → Tk.ins x l = l.take q ++ x :: l.drop q
  | [], q, _, hq, _ => by
    obtain rfl : q = 0 := by simpa using hq
    rfl
  | y :: r, 0, _, _, h => by
    have := h (by simp)
    simp only [List.getElem!_cons_zero] at this
    unfold Tk.ins
    rw [if_pos this]; rfl
  | y :: r, q + 1, h1, h2, h3 => by
    have h0 := h1 0 (by omega)
    simp only [List.getElem!_cons_zero] at h0
    unfold Tk.ins
    rw [if_neg (by rw [h0]; simp), ins_at x r q (fun i hi => by have := h1 (i + 1) (by omega); simpa using this) (by simpa using h2) (fun hq => by have := h3 (by simpa using hq); simpa using this)]
    rfl
/-- Three cells hold a hit. -/
structure H3 (W : World) (b : Nat) (x : Tk.Ht) : Prop where
  c0 : W.cell? ⟨b, 0, none⟩ = some (.int .i64 x.1)
  c1 : W.cell? ⟨b, 1, none⟩ = some (.int .u64 x.2.1)
  c2 : W.cell? ⟨b, 2, none⟩ = some (.int .u64 x.2.2)
theorem H3.gb {W W' : World} {b : Nat} {x : Tk.Ht} (h : H3 W b x) (g : Gb W W') : H3 W' b x := ⟨gb_keeps g h.c0, gb_keeps g h.c1, gb_keeps g h.c2⟩
theorem H3.new (W : World) (x : Tk.Ht) (t : TypeId) : H3 (W.alloc (.cells #[.int .i64 x.1, .int .u64 x.2.1, .int .u64 x.2.2] t)) W.heap.size x := ⟨by simp [go_sem], by simp [go_sem], by simp [go_sem]⟩
theorem H3.block {W W' : World} {b : Nat} {x : Tk.Ht} (h : H3 W b x) (e : W'.heap[b]? = W.heap[b]?) : H3 W' b x :=
  ⟨(World.cell?_of_block (a := ⟨b, 0, none⟩) e).trans h.c0, (World.cell?_of_block (a := ⟨b, 1, none⟩) e).trans h.c1, (World.cell?_of_block (a := ⟨b, 2, none⟩) e).trans h.c2⟩
/-- What the region holds while it draws. -/
structure Hs (w W : World) (a b : Addr) (u v : Value) : Prop where
  gb : Gb w W
  ca : W.cell? a = some u
  cb : W.cell? b = some v
  la : a.block < w.heap.size
  lb : b.block < w.heap.size
theorem Hs.gr {w W W' : World} {a b : Addr} {u v : Value} (h : Hs w W a b u v) (g : Gb W W') : Hs w W' a b u v := ⟨gb_trans h.gb g, gb_keeps g h.ca, gb_keeps g h.cb, h.la, h.lb⟩
theorem Hs.set {w W : World} {a b : Addr} {u v : Value} {B : Nat} (h : Hs w W a b u v) (hB : w.heap.size ≤ B) (x y z : Value) : Hs w (((W.setCell ⟨B, 0, none⟩ x).setCell ⟨B, 1, none⟩ y).setCell ⟨B, 2, none⟩ z) a b u v := by
  have far : ∀ {p : Addr} {q : Value}, p.block ≠ B → W.cell? p = some q → (((W.setCell ⟨B, 0, none⟩ x).setCell ⟨B, 1, none⟩ y).setCell ⟨B, 2, none⟩ z).cell? p = some q := fun {p q} hp hc => by
    refine (World.cell?_of_block (Below.heap_setCell _ _ _ _ (by dsimp only; exact hp))).trans ?_
    refine (World.cell?_of_block (Below.heap_setCell _ _ _ _ (by dsimp only; exact hp))).trans ?_
    exact (World.cell?_of_block (Below.heap_setCell _ _ _ _ (by dsimp only; exact hp))).trans hc
  have ha := h.la
  have hb := h.lb
  exact ⟨gb_set (gb_set (gb_set h.gb (by dsimp only; exact hB) _) (by dsimp only; exact hB) _) (by dsimp only; exact hB) _, far (by omega) h.ca, far (by omega) h.cb, h.la, h.lb⟩
/-- A hit is laid in among others. -/
structure Lay (w W : World) (g n cap Bh k : Nat) (L : List Tk.Ht) (x : Tk.Ht) : Prop where
  arr : ∃ f, HA W g (n + 1) cap f ∧ (∀ t, t < k → f t = L[t]!) ∧ ∀ t, k < t → t ≤ n → f t = L[t - 1]!
  box : H3 W Bh x
  gb : Gb w W
  hg : w.heap.size ≤ g
  ne : Bh ≠ g
  more : ∀ t, k ≤ t → t < n → Tk.hlt x L[t]! = true
theorem Lay.gr {w W W' : World} {g n cap Bh k : Nat} {L : List Tk.Ht} {x : Tk.Ht} (h : Lay w W g n cap Bh k L x) (g' : Gb W W') : Lay w W' g n cap Bh k L x := by
  obtain ⟨f, h1, h2⟩ := h.arr
  exact ⟨⟨f, h1.block (g'.block _ h1.lt), h2⟩, h.box.gb g', gb_trans h.gb g', h.hg, h.ne, h.more⟩
theorem three_gb {g : Nat} {w W : World} (h : Gb w W) (hg : w.heap.size ≤ g) (o1 o2 o3 : Nat) (x y z : Value) : Gb w (((W.setCell ⟨g, o1, none⟩ x).setCell ⟨g, o2, none⟩ y).setCell ⟨g, o3, none⟩ z) :=
  gb_set (gb_set (gb_set h (by dsimp only; exact hg) _) (by dsimp only; exact hg) _) (by dsimp only; exact hg) _
theorem three_far {g b : Nat} {W : World} (hn : b ≠ g) (o1 o2 o3 : Nat) (x y z : Value) : (((W.setCell ⟨g, o1, none⟩ x).setCell ⟨g, o2, none⟩ y).setCell ⟨g, o3, none⟩ z).heap[b]? = W.heap[b]? :=
  (Below.heap_setCell _ _ _ _ (by dsimp only; exact hn)).trans ((Below.heap_setCell _ _ _ _ (by dsimp only; exact hn)).trans (Below.heap_setCell _ _ _ _ (by dsimp only; exact hn)))
/-- One place on. -/
theorem Lay.down {w W : World} {g n cap Bh k : Nat} {L : List Tk.Ht} {x : Tk.Ht} (h : Lay w W g n cap Bh (k + 1) L x) (hk : k + 1 ≤ n) (hx : Tk.hlt x L[k]! = true) :
    Lay w (((W.setCell ⟨g, (k + 1) * 3, none⟩ (.int .i64 L[k]!.1)).setCell ⟨g, (k + 1) * 3 + 1, none⟩ (.int .u64 L[k]!.2.1)).setCell ⟨g, (k + 1) * 3 + 2, none⟩ (.int .u64 L[k]!.2.2)) g n cap Bh k L x := by
  obtain ⟨f, h1, h2, h3⟩ := h.arr
  refine ⟨⟨_, h1.set (i := k + 1) (by omega) L[k]!, fun t ht => ?_, fun t ht1 ht2 => ?_⟩, h.box.block (three_far h.ne _ _ _ _ _ _), three_gb h.gb h.hg _ _ _ _ _ _, h.hg, h.ne, fun t ht1 ht2 => ?_⟩
  · rw [if_neg (by omega)]; exact h2 t (by omega)
  · by_cases e : t = k + 1
    · subst e; rw [if_pos rfl]; rfl
    · rw [if_neg e]; exact h3 t (by omega) ht2
  · by_cases e : t = k
    · subst e; exact hx
    · exact h.more t (by omega) ht2
/-- It lies. -/
theorem Lay.done {w W : World} {g n cap Bh k : Nat} {L : List Tk.Ht} {x : Tk.Ht} (h : Lay w W g n cap Bh k L x) (hk : k ≤ n) (hn : L.length = n) (hS : Tk.Srtd L) (hx : k = 0 ∨ Tk.hlt x L[k - 1]! = false) :
    OutH w (((W.setCell ⟨g, k * 3, none⟩ (.int .i64 x.1)).setCell ⟨g, k * 3 + 1, none⟩ (.int .u64 x.2.1)).setCell ⟨g, k * 3 + 2, none⟩ (.int .u64 x.2.2)) (.slice (some ⟨g, 0, none⟩) (n + 1) cap) (Tk.ins x L) := by
  obtain ⟨f, h1, h2, h3⟩ := h.arr
  have hahead : ∀ i, i < k → Tk.hlt x L[i]! = false := fun i hi => by
    rcases hx with e | e
    · omega
    · by_cases e2 : i = k - 1
      · rw [e2]; exact e
      · have := List.pairwise_iff_getElem.1 hS i (k - 1) (by omega) (by omega) (by omega)
        rw [← getElem!_pos L i (by omega), ← getElem!_pos L (k - 1) (by omega)] at this
        exact Tk.hlt_ntrans e this
  have hins := ins_at x L k hahead (by omega) (fun hq => h.more k (Nat.le_refl _) (by omega))
  have hl : (Tk.ins x L).length = n + 1 := by rw [Tk.ins_len, hn]
  refine ⟨?_, three_gb h.gb h.hg _ _ _ _ _ _, fun b e => by cases e; exact h.hg⟩
  have h4 := h1.set (i := k) (by omega) x
  rw [← hl] at h4 ⊢
  refine own_of_ha h4 (fun i hi => ?_)
  rw [getElem!_pos (Tk.ins x L) i hi]
  have : ∀ (M : List Tk.Ht) (hM : M = Tk.ins x L) (hi' : i < M.length), (Tk.ins x L)[i] = M[i] := fun M hM _ => by subst hM; rfl
  rw [this _ hins.symm (by rw [← hins]; exact hi)]
  by_cases e : i = k
  · subst e; rw [if_pos rfl, List.getElem_append_right (by rw [List.length_take]; omega)]
    simp only [List.length_take]
    rw [List.getElem_cons]
    simp
    omega
  · rw [if_neg e]
    by_cases e2 : i < k
    · rw [h2 i e2, List.getElem_append_left (by rw [List.length_take]; omega), List.getElem_take, getElem!_pos L i (by omega)]
    · rw [h3 i (by omega) (by omega), List.getElem_append_right (by rw [List.length_take]; omega)]
      rw [getElem!_pos L (i - 1) (by omega)]
      rw [List.getElem_cons]
      have e3 : ¬ (i - (List.take k L).length = 0) := by rw [List.length_take]; omega
      rw [dif_neg e3, List.getElem_drop]
      congr 1
      rw [List.length_take]; omega
end Go.Proofs.YtbnljabeccebiaaGreat

/- Answers as they are read; what a sound answer is. -/
namespace Go.Proofs.YtbnljabeccebiaaGreat
open Go.RowKit Go.Sort

/-- An answer, plainly. -/
structure Ans where
  hits : List Tk.Ht
  seen : List Int
  rest : List Reg
/-- A slice that reads as these regions. -/
def RdL (w : World) (v : Value) (l : List Reg) : Prop := ∃ a cap, v = .slice a l.length cap ∧ ∀ i (hi' : i < l.length), ∃ b o vl vh vi, a = some ⟨b, o, none⟩ ∧
  w.cell? ⟨b, o + i * 6, none⟩ = some (.int .i64 l[i].S) ∧ w.cell? ⟨b, o + i * 6 + 1, none⟩ = some vl ∧ w.cell? ⟨b, o + i * 6 + 2, none⟩ = some vh ∧ w.cell? ⟨b, o + i * 6 + 3, none⟩ = some (.int .u64 (hi l[i].R)) ∧
  w.cell? ⟨b, o + i * 6 + 4, none⟩ = some (.int .u64 (lo l[i].R)) ∧ w.cell? ⟨b, o + i * 6 + 5, none⟩ = some vi ∧ RdI w vl l[i].L ∧ RdI w vh l[i].H ∧ RdI w vi l[i].I
theorem RdL.gb {w w' : World} {v : Value} {l : List Reg} (h : RdL w v l) (g : Gb w w') : RdL w' v l := by
  obtain ⟨a, cap, e, h⟩ := h
  refine ⟨a, cap, e, fun i hi' => ?_⟩
  obtain ⟨b, o, vl, vh, vi, e0, c0, c1, c2, c3, c4, c5, r1, r2, r3⟩ := h i hi'
  exact ⟨b, o, vl, vh, vi, e0, gb_keeps g c0, gb_keeps g c1, gb_keeps g c2, gb_keeps g c3, gb_keeps g c4, gb_keeps g c5, r1.gb g, r2.gb g, r3.gb g⟩
/-- The parts of an answer's value read as this answer. -/
structure RdA (w : World) (vh vs vr : Value) (a : Ans) : Prop where
  hits : Tk.Rd w vh a.hits
  seen : RdI w vs a.seen
  rest : RdL w vr a.rest
theorem RdA.gb {w w' : World} {vh vs vr : Value} {a : Ans} (h : RdA w vh vs vr a) (g : Gb w w') : RdA w' vh vs vr a := ⟨h.hits.gr g, h.seen.gb g, h.rest.gb g⟩
end Go.Proofs.YtbnljabeccebiaaGreat

/- The reference's Near: a box. -/
namespace Go.Proofs.YtbnljabeccebiaaGreat
open Go.RowKit

end Go.Proofs.YtbnljabeccebiaaGreat

/- The reference's Near: a ball, and neither. -/
namespace Go.Proofs.YtbnljabeccebiaaGreat
open Go.RowKit

end Go.Proofs.YtbnljabeccebiaaGreat

/- The reference's Near and Bound. -/
namespace Go.Proofs.YtbnljabeccebiaaGreat
open Go.RowKit

end Go.Proofs.YtbnljabeccebiaaGreat

/- The reference's Ids and Rows. -/
namespace Go.Proofs.YtbnljabeccebiaaGreat
open Go.RowKit Go.Sort Go.Maps

set_option maxHeartbeats 4000000 in
set_option maxRecDepth 100000 in
theorem rIds_c {w : World} {v : Value} {rs : List Rw} (h : RdW w v rs) (hn : rs.length ≤ 2000) :
    Calls Tryz.prog 142 #[v] w fun e w' => ∃ v', e = .returned v' ∧ Own w' w.heap.size v' (srt (idsOf rs)) ∧ Gb w w' := by
  obtain ⟨a, cap, rfl, ha⟩ := h
  have A : Hid (∀ i, i < rs.length → ∃ b o u, a = some ⟨b, o, none⟩ ∧ w.cell? ⟨b, o + i * 2, none⟩ = some (.int .i64 rs[i]!.1) ∧ w.cell? ⟨b, o + i * 2 + 1, none⟩ = some u ∧ RdI w u rs[i]!.2) := ha
  obtain ⟨n, hN⟩ : ∃ n, n = rs.length := ⟨_, rfl⟩
  have N : Hid (n = rs.length) := hN
  rw [← hN] at hn ⊢
  clear ha hN
  go_enter Tryz.func142, Tryz.ntmps142
  go_wp2
  go_loopw [3, 4] (fun vv iv w' => ∃ q : Nat, iv = .int .i64 (q : Int) ∧ q ≤ n ∧ Hid (Own w' w.heap.size vv (srt ((idsOf rs).take q)) ∧ Gb w w')) (fun _ iv _ => n - (intOf iv).toNat)
  case atStart => exact ⟨0, rfl, Nat.zero_le _, ⟨by simp [srt]; exact own_nil _ _, Below.refl _ _⟩⟩
  case round =>
    obtain ⟨q, rfl, hq, X⟩ := hrel
    by_cases hqn : q < n
    · have hqi : (q : Int) < (n : Int) := by omega
      have hql : q < rs.length := by have := N.out; omega
      obtain ⟨b, o, u, ea, h1, h2, h3⟩ := A.out q hql
      subst ea
      have h1 := gb_keeps X.out.2 h1
      clear h2 h3
      have NX : Hid (srt ((idsOf rs).take (q + 1)) = insI rs[q]!.1 (srt ((idsOf rs).take q))) := by unfold Hid; rw [ids_take hql, srt_snocI]
      have c68 := rwith_c X.out.1 (by rw [srt_len, List.length_take]; omega) rs[q]!.1
      generalize rs[q]!.1 = x at *
      clear hql
      go_wp2_with fail
      refine c68.mono ?_
      rintro e w1 ⟨v', rfl, o1, g1⟩
      have R : Hid (Own w1 w.heap.size v' (srt ((idsOf rs).take (q + 1))) ∧ Gb w w1) := ⟨by rw [NX.out]; exact o1.mono X.out.2.size, gb_trans X.out.2 g1⟩
      clear c68 o1 g1 X NX h1
      go_wp2
      go_roundw
      case rel => exact ⟨q + 1, by simp, hqn, R⟩
      case measure => simp [intOf]; omega
    · have hqi : ¬ (q : Int) < (n : Int) := by omega
      have R : Hid (Own wr w.heap.size u3 (srt (idsOf rs)) ∧ Gb w wr) := by
        have h1 := X.out
        rw [List.take_of_length_le (by unfold idsOf; rw [List.length_map]; have := N.out; omega)] at h1
        exact h1
      clear X
      go_wp2
      go_ret
      exact ⟨_, rfl, R.out⟩
theorem contains_take {l : List Int} {x : Int} {q : Nat} (hq : q ≤ l.length) : (l.take q).contains x = true ↔ ∃ k, k < q ∧ l[k]! = x := by
  rw [List.contains_iff_mem, List.mem_iff_getElem]
  constructor
  · rintro ⟨k, hk, e⟩
    have h1 : k < q := by rw [List.length_take] at hk; omega
    refine ⟨k, h1, ?_⟩
    rw [getElem!_pos l k (by omega), ← e]; simp
  · rintro ⟨k, hk, e⟩
    refine ⟨k, by rw [List.length_take]; omega, ?_⟩
    rw [getElem!_pos l k (by omega)] at e
    rw [← e]; simp

set_option maxHeartbeats 8000000 in
set_option maxRecDepth 100000 in
theorem rrows_c {w : World} {v : Value} {rs : List Rw} (h : RdW w v rs) (d : Int) (hlen : rs.length ≤ 4611686018427387904) :
    Calls Tryz.prog 53 #[v, .int .i64 d] w fun e w' => e = .returned (.int .i64 (idsE rs d)) ∧ Gr w w' := by
  obtain ⟨a, cap, rfl, ha⟩ := h
  have A : Hid (∀ i, i < rs.length → ∃ b o u, a = some ⟨b, o, none⟩ ∧ w.cell? ⟨b, o + i * 2, none⟩ = some (.int .i64 rs[i]!.1) ∧ w.cell? ⟨b, o + i * 2 + 1, none⟩ = some u ∧ RdI w u rs[i]!.2) := ha
  obtain ⟨n, hN⟩ : ∃ n, n = rs.length := ⟨_, rfl⟩
  have N : Hid (n = rs.length) := hN
  rw [← hN] at hlen ⊢
  clear ha
  by_cases hn : n ≤ 512
  · have E : Hid (idsE rs d = rowsTo rs d rs.length) := by unfold Hid idsE; rw [if_pos (by omega)]
    clear hN
    go_enter Tryz.func53, Tryz.ntmps53
    go_wp2
    go_loopw [5] (fun iv w' => ∃ q : Nat, iv = .int .i64 (q : Int) ∧ q ≤ n ∧ Hid (rowsTo rs d q = 0 ∧ Gr w w')) (fun iv _ => n - (intOf iv).toNat)
    case atStart => exact ⟨0, rfl, Nat.zero_le _, rfl, Gr.refl _⟩
    case round =>
      obtain ⟨q, rfl, hq, X⟩ := hrel
      by_cases hqn : q < n
      · have hqi : (q : Int) < (n : Int) := by omega
        have hql : q < rs.length := by have := N.out; omega
        obtain ⟨b, o, u, ea, h1, h2, h3⟩ := A.out q hql
        have EE : Hid (rowE rs d q = if ((idsOf rs).take q).contains rs[q]!.1 = false ∧ okId rs[q]!.1 = true then chk rs[q]!.2 d else 50) := rfl
        have hE : Hid (rowE rs d q ≠ 0 → idsE rs d = rowE rs d q) := fun h => rowsTo_err hql X.out.1 h (by have := N.out; omega)
        have hNext : Hid (rowE rs d q = 0 → rowsTo rs d (q + 1) = 0) := fun h => rowsTo_next X.out.1 h
        replace h1 := X.out.2.keeps h1
        replace h2 := X.out.2.keeps h2
        have h3 := h3.gb X.out.2.gb
        subst ea
        cases hok : okId rs[q]!.1 with
        | false =>
          have c66 := fun W => rid_v rs[q]!.1 false hok W
          have R : Hid (idsE rs d = 50 ∧ Gr w wr) := by
            have e1 := EE.out
            rw [if_neg (by rw [hok]; simp)] at e1
            exact ⟨by rw [hE.out (by omega), e1], X.out.2⟩
          generalize rs[q]!.1 = x at *
          clear EE hE hNext hok h3
          go_wp2_with (go_at_call 59; refine (c66 _).mono ?_; rintro e w' ⟨rfl, e2⟩; subst e2)
          go_ret
          exact ⟨by rw [R.out.1]; rfl, R.out.2⟩
        | true =>
          have c66 := fun W => rid_v rs[q]!.1 true hok W
          have c15 := fun W (g : Gr wr W) r h => rcheck_v (h3.gb g.gb) d r h
          have IDS : Hid (∀ k, k < rs.length → (idsOf rs)[k]! = rs[k]!.1) := fun k hk => by
            unfold idsOf
            rw [getElem!_pos _ k (by simpa using hk), getElem!_pos rs k hk]; simp
          have CT : Hid (((idsOf rs).take q).contains rs[q]!.1 = true ↔ ∃ k, k < q ∧ rs[k]!.1 = rs[q]!.1) := by
            unfold Hid
            rw [contains_take (by unfold idsOf; rw [List.length_map]; omega)]
            exact ⟨fun ⟨k, hk, e⟩ => ⟨k, hk, by rw [← IDS.out k (by omega)]; exact e⟩, fun ⟨k, hk, e⟩ => ⟨k, hk, by rw [IDS.out k (by omega)]; exact e⟩⟩
          obtain ⟨a1, c1, rfl, _⟩ := h3
          obtain ⟨x, hx⟩ : ∃ x, x = rs[q]!.1 := ⟨_, rfl⟩
          obtain ⟨m, hm⟩ : ∃ m, m = rs[q]!.2.length := ⟨_, rfl⟩
          rw [← hx] at h1 c66 CT EE
          rw [← hm] at h2 c15
          have XM : Hid (x = rs[q]!.1 ∧ m = rs[q]!.2.length ∧ q < rs.length ∧ okId x = true) := ⟨hx, hm, hql, by rw [hx]; exact hok⟩
          clear hql hx hm hok
          go_wp2_with (go_at_call 59; refine (c66 _).mono ?_; rintro e w' ⟨rfl, e2⟩; subst e2)
          clear c66
          go_loopw [6] (fun iv w' => ∃ p : Nat, iv = .int .i64 (p : Int) ∧ p ≤ q ∧ Hid ((∀ i, i < p → rs[i]!.1 ≠ x) ∧ Gr wr w')) (fun iv _ => q - (intOf iv).toNat)
          case atStart => exact ⟨0, rfl, Nat.zero_le _, fun i hi => absurd hi (Nat.not_lt_zero _), Gr.refl _⟩
          case round =>
            obtain ⟨p, rfl, hp, Y⟩ := hrel
            by_cases hpq : p < q
            · have hpi : (p : Int) < (q : Int) := by omega
              have hpn : (p : Int) < (n : Int) := by omega
              obtain ⟨b', o', u', ea, y1, _, _⟩ := A.out p (by have := N.out; omega)
              cases ea
              replace y1 := (X.out.2.trans Y.out.2).keeps y1
              have z1 := Y.out.2.keeps h1
              by_cases hxy : rs[p]!.1 = x
              · have R : Hid (idsE rs d = 50 ∧ Gr w wr) := by
                  have e1 := EE.out
                  rw [if_neg (by rw [CT.out.2 ⟨p, hpq, hxy⟩]; simp)] at e1
                  exact ⟨by rw [hE.out (by omega), e1], X.out.2.trans Y.out.2⟩
                rw [hxy] at y1
                clear EE hE hNext hxy CT IDS c15
                go_wp2
                go_quiet (fail)
                go_wp2
                go_ret
                exact ⟨by rw [R.out.1]; rfl, R.out.2.drewN _⟩
              · have R : Hid (∀ i, i < p + 1 → rs[i]!.1 ≠ x) := fun i hi => by
                  by_cases e : i = p
                  · rw [e]; exact hxy
                  · exact Y.out.1 i (by omega)
                have hxy' : (rs[p]!.1 == x) = false := by rw [beq_eq_false_iff_ne]; exact hxy
                generalize rs[p]!.1 = y at *
                clear EE hE hNext CT IDS c15
                go_wp2
                go_quiet (fail)
                go_wp2
                go_roundw
                case rel => exact ⟨p + 1, by simp, hpq, R.out, Y.out.2.drewN _⟩
                case measure => simp [intOf]; omega
            · have hpi : ¬ (p : Int) < (q : Int) := by omega
              have EE2 : Hid (rowE rs d q = chk rs[q]!.2 d) := by
                have e1 := EE.out
                rw [if_pos ⟨by
                  cases hc : ((idsOf rs).take q).contains x with
                  | false => rfl
                  | true =>
                    obtain ⟨k, hk, e⟩ := CT.out.1 hc
                    exact absurd e (Y.out.1 k (by omega)), XM.out.2.2.2⟩] at e1
                exact e1
              have z2 := Y.out.2.keeps h2
              have GG : Hid (Gr w wr) := X.out.2.trans Y.out.2
              by_cases hv : chk rs[q]!.2 d = 0
              · have c := c15 _ Y.out.2 0 hv
                have R : Hid (rowsTo rs d (q + 1) = 0) := hNext.out (by rw [EE2.out, hv])
                clear EE hE hNext CT IDS c15 EE2 hv Y X
                go_wp2_with (go_at_call 60; refine c.mono ?_; rintro e w' ⟨rfl, e2⟩; subst e2)
                go_roundw
                case rel => exact ⟨q + 1, by simp, hqn, R.out, GG.out⟩
                case measure => simp [intOf]; omega
              · have c := c15 _ Y.out.2 _ rfl
                have R : Hid (idsE rs d = chk rs[q]!.2 d) := by
                  have := hE.out (by rw [EE2.out]; exact hv)
                  rw [EE2.out] at this; exact this
                have hv' : (chk rs[q]!.2 d == 0) = false := by rw [beq_eq_false_iff_ne]; exact hv
                generalize chk rs[q]!.2 d = ce at *
                clear EE hE hNext CT IDS c15 EE2 Y X
                go_wp2_with (go_at_call 60; refine c.mono ?_; rintro e w' ⟨rfl, e2⟩; subst e2)
                go_ret
                exact ⟨by rw [R.out]; rfl, GG.out⟩
      · have hqi : ¬ (q : Int) < (n : Int) := by omega
        have R : Hid (idsE rs d = 0 ∧ Gr w wr) := by
          have h1 := X.out.1
          rw [show q = rs.length by have := N.out; omega, ← E.out] at h1
          exact ⟨h1, X.out.2⟩
        clear X E
        go_wp2
        go_ret
        exact ⟨by rw [R.out.1]; rfl, R.out.2⟩
  · have E : Hid (idsE rs d = 2) := by unfold Hid idsE; rw [if_neg (by omega)]
    have hn' : (n : Int) > 512 := by omega
    clear hN
    go_enter Tryz.func53, Tryz.ntmps53
    go_wp2
    go_ret
    exact ⟨by rw [E.out]; rfl, Gr.refl _⟩
end Go.Proofs.YtbnljabeccebiaaGreat
