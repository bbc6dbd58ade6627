/- The reference's Hits: all rows' hits in their order, by laying each in among those ahead. -/
import Derived.Test.YtdmdjmliggjbjaaGreatCt26
import Derived.Test.YtdmdjmliggjbjaaGreatCt21
namespace Go.Proofs.YtdmdjmliggjbjaaGreat
open Go.RowKit Go.Sort Go.Maps

theorem ins_at (x : Tk.Ht) : ∀ (l : List Tk.Ht) (q : Nat), (∀ i, i < q → Tk.hlt x l[i]! = false) → q ≤ l.length → (q < l.length → Tk.hlt x l[q]! = true) → Tk.ins x l = l.take q ++ x :: l.drop q
  | [], q, _, hq, _ => by
    obtain rfl : q = 0 := by simpa using hq
    rfl
  | y :: r, 0, _, _, h => by
    have := h (by simp)
    simp only [List.getElem!_cons_zero] at this
    unfold Tk.ins
    rw [if_pos this]; rfl
  | y :: r, q + 1, h1, h2, h3 => by
    have h0 := h1 0 (by omega)
    simp only [List.getElem!_cons_zero] at h0
    unfold Tk.ins
    rw [if_neg (by rw [h0]; simp), ins_at x r q (fun i hi => by have := h1 (i + 1) (by omega); simpa using this) (by simpa using h2) (fun hq => by have := h3 (by simpa using hq); simpa using this)]
    rfl
/-- Three cells hold a hit. -/
structure H3 (W : World) (b : Nat) (x : Tk.Ht) : Prop where
  c0 : W.cell? ⟨b, 0, none⟩ = some (.int .i64 x.1)
  c1 : W.cell? ⟨b, 1, none⟩ = some (.int .u64 x.2.1)
  c2 : W.cell? ⟨b, 2, none⟩ = some (.int .u64 x.2.2)
theorem H3.gb {W W' : World} {b : Nat} {x : Tk.Ht} (h : H3 W b x) (g : Gb W W') : H3 W' b x := ⟨gb_keeps g h.c0, gb_keeps g h.c1, gb_keeps g h.c2⟩
theorem H3.new (W : World) (x : Tk.Ht) (t : TypeId) : H3 (W.alloc (.cells #[.int .i64 x.1, .int .u64 x.2.1, .int .u64 x.2.2] t)) W.heap.size x := ⟨by simp [go_sem], by simp [go_sem], by simp [go_sem]⟩
theorem H3.block {W W' : World} {b : Nat} {x : Tk.Ht} (h : H3 W b x) (e : W'.heap[b]? = W.heap[b]?) : H3 W' b x :=
  ⟨(World.cell?_of_block (a := ⟨b, 0, none⟩) e).trans h.c0, (World.cell?_of_block (a := ⟨b, 1, none⟩) e).trans h.c1, (World.cell?_of_block (a := ⟨b, 2, none⟩) e).trans h.c2⟩
/-- What the region holds while it draws. -/
structure Hs (w W : World) (a b : Addr) (u v : Value) : Prop where
  gb : Gb w W
  ca : W.cell? a = some u
  cb : W.cell? b = some v
  la : a.block < w.heap.size
  lb : b.block < w.heap.size
theorem Hs.gr {w W W' : World} {a b : Addr} {u v : Value} (h : Hs w W a b u v) (g : Gb W W') : Hs w W' a b u v := ⟨gb_trans h.gb g, gb_keeps g h.ca, gb_keeps g h.cb, h.la, h.lb⟩
theorem Hs.set {w W : World} {a b : Addr} {u v : Value} {B : Nat} (h : Hs w W a b u v) (hB : w.heap.size ≤ B) (x y z : Value) : Hs w (((W.setCell ⟨B, 0, none⟩ x).setCell ⟨B, 1, none⟩ y).setCell ⟨B, 2, none⟩ z) a b u v := by
  have far : ∀ {p : Addr} {q : Value}, p.block ≠ B → W.cell? p = some q → (((W.setCell ⟨B, 0, none⟩ x).setCell ⟨B, 1, none⟩ y).setCell ⟨B, 2, none⟩ z).cell? p = some q := fun {p q} hp hc => by
    refine (World.cell?_of_block (Below.heap_setCell _ _ _ _ (by dsimp only; exact hp))).trans ?_
    refine (World.cell?_of_block (Below.heap_setCell _ _ _ _ (by dsimp only; exact hp))).trans ?_
    exact (World.cell?_of_block (Below.heap_setCell _ _ _ _ (by dsimp only; exact hp))).trans hc
  have ha := h.la
  have hb := h.lb
  exact ⟨gb_set (gb_set (gb_set h.gb (by dsimp only; exact hB) _) (by dsimp only; exact hB) _) (by dsimp only; exact hB) _, far (by omega) h.ca, far (by omega) h.cb, h.la, h.lb⟩
/-- Each hit of rows is one of a row. -/
theorem hit_of_mem {q : List Int} {rs : List Rw} {x : Tk.Ht} (h : x ∈ Tk.srt (hitsOf q rs)) : ∃ r ∈ rs, x = hitOf q r := by
  have := (Tk.srt_perm _).mem_iff.1 h
  unfold hitsOf at this
  obtain ⟨r, hr, e⟩ := List.mem_map.1 this
  exact ⟨r, hr, e.symm⟩
/-- A hit is laid in among others. -/
structure Lay (w W : World) (g n cap Bh k : Nat) (L : List Tk.Ht) (x : Tk.Ht) : Prop where
  arr : ∃ f, HA W g (n + 1) cap f ∧ (∀ t, t < k → f t = L[t]!) ∧ ∀ t, k < t → t ≤ n → f t = L[t - 1]!
  box : H3 W Bh x
  gb : Gb w W
  hg : w.heap.size ≤ g
  ne : Bh ≠ g
  more : ∀ t, k ≤ t → t < n → Tk.hlt x L[t]! = true
theorem Lay.gr {w W W' : World} {g n cap Bh k : Nat} {L : List Tk.Ht} {x : Tk.Ht} (h : Lay w W g n cap Bh k L x) (g' : Gb W W') : Lay w W' g n cap Bh k L x := by
  obtain ⟨f, h1, h2⟩ := h.arr
  exact ⟨⟨f, h1.block (g'.block _ h1.lt), h2⟩, h.box.gb g', gb_trans h.gb g', h.hg, h.ne, h.more⟩
theorem three_gb {g : Nat} {w W : World} (h : Gb w W) (hg : w.heap.size ≤ g) (o1 o2 o3 : Nat) (x y z : Value) : Gb w (((W.setCell ⟨g, o1, none⟩ x).setCell ⟨g, o2, none⟩ y).setCell ⟨g, o3, none⟩ z) :=
  gb_set (gb_set (gb_set h (by dsimp only; exact hg) _) (by dsimp only; exact hg) _) (by dsimp only; exact hg) _
theorem three_far {g b : Nat} {W : World} (hn : b ≠ g) (o1 o2 o3 : Nat) (x y z : Value) : (((W.setCell ⟨g, o1, none⟩ x).setCell ⟨g, o2, none⟩ y).setCell ⟨g, o3, none⟩ z).heap[b]? = W.heap[b]? :=
  (Below.heap_setCell _ _ _ _ (by dsimp only; exact hn)).trans ((Below.heap_setCell _ _ _ _ (by dsimp only; exact hn)).trans (Below.heap_setCell _ _ _ _ (by dsimp only; exact hn)))
/-- One place on. -/
theorem Lay.down {w W : World} {g n cap Bh k : Nat} {L : List Tk.Ht} {x : Tk.Ht} (h : Lay w W g n cap Bh (k + 1) L x) (hk : k + 1 ≤ n) (hx : Tk.hlt x L[k]! = true) :
    Lay w (((W.setCell ⟨g, (k + 1) * 3, none⟩ (.int .i64 L[k]!.1)).setCell ⟨g, (k + 1) * 3 + 1, none⟩ (.int .u64 L[k]!.2.1)).setCell ⟨g, (k + 1) * 3 + 2, none⟩ (.int .u64 L[k]!.2.2)) g n cap Bh k L x := by
  obtain ⟨f, h1, h2, h3⟩ := h.arr
  refine ⟨⟨_, h1.set (i := k + 1) (by omega) L[k]!, fun t ht => ?_, fun t ht1 ht2 => ?_⟩, h.box.block (three_far h.ne _ _ _ _ _ _), three_gb h.gb h.hg _ _ _ _ _ _, h.hg, h.ne, fun t ht1 ht2 => ?_⟩
  · rw [if_neg (by omega)]; exact h2 t (by omega)
  · by_cases e : t = k + 1
    · subst e; rw [if_pos rfl]; rfl
    · rw [if_neg e]; exact h3 t (by omega) ht2
  · by_cases e : t = k
    · subst e; exact hx
    · exact h.more t (by omega) ht2
/-- It lies. -/
theorem Lay.done {w W : World} {g n cap Bh k : Nat} {L : List Tk.Ht} {x : Tk.Ht} (h : Lay w W g n cap Bh k L x) (hk : k ≤ n) (hn : L.length = n) (hS : Tk.Srtd L) (hx : k = 0 ∨ Tk.hlt x L[k - 1]! = false) :
    OutH w (((W.setCell ⟨g, k * 3, none⟩ (.int .i64 x.1)).setCell ⟨g, k * 3 + 1, none⟩ (.int .u64 x.2.1)).setCell ⟨g, k * 3 + 2, none⟩ (.int .u64 x.2.2)) (.slice (some ⟨g, 0, none⟩) (n + 1) cap) (Tk.ins x L) := by
  obtain ⟨f, h1, h2, h3⟩ := h.arr
  have hahead : ∀ i, i < k → Tk.hlt x L[i]! = false := fun i hi => by
    rcases hx with e | e
    · omega
    · by_cases e2 : i = k - 1
      · rw [e2]; exact e
      · have := List.pairwise_iff_getElem.1 hS i (k - 1) (by omega) (by omega) (by omega)
        rw [← getElem!_pos L i (by omega), ← getElem!_pos L (k - 1) (by omega)] at this
        exact Tk.hlt_ntrans e this
  have hins := ins_at x L k hahead (by omega) (fun hq => h.more k (Nat.le_refl _) (by omega))
  have hl : (Tk.ins x L).length = n + 1 := by rw [Tk.ins_len, hn]
  refine ⟨?_, three_gb h.gb h.hg _ _ _ _ _ _, fun b e => by cases e; exact h.hg⟩
  have h4 := h1.set (i := k) (by omega) x
  rw [← hl] at h4 ⊢
  refine own_of_ha h4 (fun i hi => ?_)
  rw [getElem!_pos (Tk.ins x L) i hi]
  have : ∀ (M : List Tk.Ht) (hM : M = Tk.ins x L) (hi' : i < M.length), (Tk.ins x L)[i] = M[i] := fun M hM _ => by subst hM; rfl
  rw [this _ hins.symm (by rw [← hins]; exact hi)]
  by_cases e : i = k
  · subst e; rw [if_pos rfl, List.getElem_append_right (by rw [List.length_take]; omega)]
    simp only [List.length_take]
    rw [List.getElem_cons]
    simp
    omega
  · rw [if_neg e]
    by_cases e2 : i < k
    · rw [h2 i e2, List.getElem_append_left (by rw [List.length_take]; omega), List.getElem_take, getElem!_pos L i (by omega)]
    · rw [h3 i (by omega) (by omega), List.getElem_append_right (by rw [List.length_take]; omega)]
      rw [getElem!_pos L (i - 1) (by omega)]
      rw [List.getElem_cons]
      have e3 : ¬ (i - (List.take k L).length = 0) := by rw [List.length_take]; omega
      rw [dif_neg e3, List.getElem_drop]
      congr 1
      rw [List.length_take]; omega
theorem three_new (w : World) (x : Tk.Ht) (t : TypeId) : ∀ j u, (Tk.enc x)[j]? = some u → (w.alloc (.cells #[.int .i64 x.1, .int .u64 x.2.1, .int .u64 x.2.2] t)).cell? ((⟨w.heap.size, 0, none⟩ : Addr).add j) = some u := by
  intro j u hu
  rw [Addr.add_lit]
  rcases j with _ | _ | _ | j <;> simp [Tk.enc] at hu <;> subst hu <;> simp [go_sem]
/-- Behind the append. -/
theorem lay_new {w wr W9 w2 : World} {ov v2 : Value} {L : List Tk.Ht} {x : Tk.Ht} {p Bh : Nat} {o : Obj} (hp : L.length = p) (F0 : H3 W9 Bh x) (FB : wr.heap.size ≤ Bh) (FL : Bh < W9.heap.size) (G9 : Gb w W9)
    (hob : ∀ g, ov.ownBlock = some g → w.heap.size ≤ g ∧ g < wr.heap.size) (hr : w2.ownsRow 0 43 3 v2 (p + 1) (Tk.fl L ++ Tk.enc x)) (hg : (W9.alloc o).grownBy w2 ov.ownBlock) (hloc : v2.ownBlock = ov.ownBlock ∨ v2.ownBlock = some (W9.alloc o).heap.size) :
    ∃ g cap, v2 = .slice (some ⟨g, 0, none⟩) (p + 1) cap ∧ Lay w w2 g p cap Bh p L x := by
  have hO : Tk.Own w2 v2 (L ++ [x]).toArray := by
    unfold Tk.Own
    rw [show (L ++ [x]).toArray.size = p + 1 by simp [hp], show (L ++ [x]).toArray.toList = L ++ [x] from rfl, Tk.fl_app, Tk.fl_one]
    exact hr
  rcases hr.2 with ⟨_, e0⟩ | ⟨g, cap, cur, rfl, _⟩
  · omega
  have hA := (ha_of_own hO).2
  rw [show (L ++ [x]).toArray.size = p + 1 by simp [hp]] at hA
  have hgl : w.heap.size ≤ g ∧ Bh ≠ g := by
    rcases hloc with e | e
    · have := hob g e.symm; omega
    · simp only [Value.ownBlock, Option.some.injEq] at e
      rw [World.size_alloc] at e
      have := G9.size
      omega
  refine ⟨g, cap, rfl, ⟨_, hA, fun t ht => ?_, fun t ht1 ht2 => by omega⟩, ?_, below_grown (gb_alloc G9 _) hg (fun k e => (hob k e).1) (by rw [World.size_alloc]; have := G9.size; omega), hgl.1, hgl.2, fun t ht1 ht2 => by omega⟩
  · show (L ++ [x])[t]! = L[t]!
    rw [getElem!_pos (L ++ [x]) t (by simp; omega), List.getElem_append_left (by omega), ← getElem!_pos L t (by omega)]
  · refine H3.block F0 ((hg.block Bh (by rw [World.size_alloc]; omega) (fun e => ?_)).trans (Below.heap_alloc W9 _ Bh FL))
    have := hob Bh e.symm
    omega
theorem own_fm {W : World} {ov : Value} {L : List Tk.Ht} {p : Nat} (h : Tk.Own W ov L.toArray) (hp : L.length = p) : ∃ a c, ov = .slice a p c := by
  rcases h.2 with ⟨e, e0⟩ | ⟨g, cap, cur, e, _⟩
  · have h0 : p = 0 := by rw [← hp]; simpa using e0
    subst h0
    exact ⟨none, 0, e⟩
  · exact ⟨some ⟨g, 0, none⟩, cap, by rw [e]; simp [hp]⟩
theorem six_gb {w0 W w' : World} {p0 p1 p2 q0 q1 q2 : Addr} {v0 v1 v2 u0 u1 u2 : Value} (g : Gr W w') (h : Gb w0 W ∧ W.cell? p0 = some v0 ∧ W.cell? p1 = some v1 ∧ W.cell? p2 = some v2 ∧ W.cell? q0 = some u0 ∧ W.cell? q1 = some u1 ∧ W.cell? q2 = some u2) :
    Gb w0 w' ∧ w'.cell? p0 = some v0 ∧ w'.cell? p1 = some v1 ∧ w'.cell? p2 = some v2 ∧ w'.cell? q0 = some u0 ∧ w'.cell? q1 = some u1 ∧ w'.cell? q2 = some u2 :=
  ⟨gb_trans h.1 g.gb, g.keeps h.2.1, g.keeps h.2.2.1, g.keeps h.2.2.2.1, g.keeps h.2.2.2.2.1, g.keeps h.2.2.2.2.2.1, g.keeps h.2.2.2.2.2.2⟩

set_option maxRecDepth 100000 in
set_option maxHeartbeats 2000000 in
theorem rhits_c {w : World} {v u : Value} {rs : List Rw} {q : List Int} (hv : RdW w v rs) (hu : RdI w u q) (hask : askE rs q = 0) :
    Calls Tryz.prog 50 #[v, u] w fun e w' => ∃ v', e = .returned v' ∧ OutH w w' v' (Tk.srt (hitsOf q rs)) := by
  have V : Hid (RdW w v rs) := hv
  have U : Hid (RdI w u q) := hu
  obtain ⟨hq0, hrok⟩ := askE_zero.1 hask
  have RO : Hid (∀ r ∈ rs, r.2.length = q.length ∧ allR r.2 = true) := fun r hr => by have := chk_ok (hrok.row r hr).2; exact ⟨by omega, this.2.2.2⟩
  have QO : Hid (allR q = true ∧ q.length ≤ 64) := by have := chk_ok hq0; exact ⟨this.2.2.2, this.2.1⟩
  have hn512 := hrok.few
  obtain ⟨av, cv, rfl, _⟩ := hv
  obtain ⟨au, cu, rfl, _⟩ := hu
  obtain ⟨n, hN⟩ : ∃ n, n = rs.length := ⟨_, rfl⟩
  have N : Hid (n = rs.length) := hN
  obtain ⟨m, hM⟩ : ∃ m, m = q.length := ⟨_, rfl⟩
  rw [← hN] at V hn512 ⊢
  rw [← hM] at U ⊢
  clear hN hM hask hq0 hrok
  obtain ⟨i0, z0, hi0, hz0, hz1, hz2, hz3⟩ := Tk.info43
  have Z : Hid (Tryz.prog.info? 43 = some i0 ∧ i0.zero = some z0 ∧ i0.size = 3 ∧ i0.bytes = 24 ∧ z0.cells.size = 3) := ⟨hi0, hz0, hz1, hz2, hz3⟩
  clear hi0 hz0 hz1 hz2 hz3
  go_enter Tryz.func50, Tryz.ntmps50
  go_wp2
  go_loopw [5, 6] (fun ov iv W => ∃ p : Nat, iv = .int .i64 (p : Int) ∧ p ≤ n ∧ Hid (OutH w W ov (Tk.srt (hitsOf q (rs.take p))))) (fun _ iv _ => n - (intOf iv).toNat)
  case atStart => exact ⟨0, rfl, Nat.zero_le _, by rw [List.take_zero]; exact ⟨by rw [show Tk.srt (hitsOf q []) = [] from by simp [hitsOf, Tk.srt]]; exact Tk.own_nil _, Below.refl _ _, fun g e => by simp [Value.ownBlock] at e⟩⟩
  case round =>
    obtain ⟨p, rfl, hp, X⟩ := hrel
    by_cases hpn : p < n
    · have hpi : decide ((p : Int) < (n : Int)) = true := by rw [decide_eq_true_eq]; omega
      have hpp : (p : Int) < (n : Int) := by omega
      have hpl : p < rs.length := by have := N.out; omega
      have NX : Hid (Tk.srt (hitsOf q (rs.take (p + 1))) = Tk.ins (hitOf q rs[p]!) (Tk.srt (hitsOf q (rs.take p)))) := by unfold Hid; rw [hitsOf_snoc q hpl, Tk.srt_snoc]
      have SL : Hid ((Tk.srt (hitsOf q (rs.take p))).length = p ∧ Tk.Srtd (Tk.srt (hitsOf q (rs.take p))) ∧ ∀ y ∈ Tk.srt (hitsOf q (rs.take p)), ∃ (i : Int) (d : Nat), y = (i, hi d, lo d) ∧ d < 340282366920938463463374607431768211456) :=
        ⟨by rw [Tk.srt_len, hitsOf_len, List.length_take]; omega, Tk.srt_srtd _, fun y hy => by
          obtain ⟨r, hr, e⟩ := hit_of_mem hy
          have h1 := RO.out r (List.mem_of_mem_take hr)
          exact ⟨r.1, dst q r.2, e, dst_lt QO.out.1 h1.2 (by omega) QO.out.2⟩⟩
      have hrp := RO.out rs[p]! (by rw [getElem!_pos rs p hpl]; exact List.getElem_mem hpl)
      have hdl : dst q rs[p]!.2 < 340282366920938463463374607431768211456 := dst_lt QO.out.1 hrp.2 (by omega) QO.out.2
      obtain ⟨_, _, ev, hA⟩ := V.out
      obtain ⟨b, o, ur, ea, k1, k2, k3⟩ := hA p hpl
      injection ev with ev1 ev2 ev3
      subst ev1
      subst ea
      clear hA ev2 ev3
      have cf := fun W (g : Gb w W) => far_c (k3.gb g) (U.out.gb g) hrp.1 (by have := QO.out.2; omega) hrp.2 QO.out.1
      rw [dst_comm5 hrp.1] at cf
      have gX := X.out.2.1
      have y0 := gb_keeps gX k1
      have y1 := gb_keeps gX k2
      obtain ⟨pr, cr, rfl, _⟩ := k3
      have GX : Hid (Gb w wr) := gX
      obtain ⟨x, hx⟩ : ∃ x : Tk.Ht, x = hitOf q rs[p]! := ⟨_, rfl⟩
      have HX : Hid (x = hitOf q rs[p]!) := hx
      rw [← hx] at NX
      have hx1 : rs[p]!.1 = x.1 := by rw [hx]
      have hx2 : hi (dst q rs[p]!.2) = x.2.1 := by rw [hx]
      have hx3 : lo (dst q rs[p]!.2) = x.2.2 := by rw [hx]
      have FS0 : Hs wr wr.drew ⟨b, o + p * 2, none⟩ ⟨b, o + p * 2 + 1, none⟩ (.int .i64 rs[p]!.1) (.slice pr rs[p]!.2.length cr) := ⟨(Below.refl _ _).drew, y0, y1, World.block_lt_of_cell? wr _ y0, World.block_lt_of_cell? wr _ y1⟩
      rw [hx1] at FS0
      have cf' : ∀ W, Gb w W → Calls Tryz.prog 71 #[.slice pr rs[p]!.2.length cr, .slice au m cu] W fun e w' => e = .returned (.agg #[.int .u64 x.2.1, .int .u64 x.2.2]) ∧ Gr W w' := fun W g => by have := cf W g; rw [show Wd (dst q rs[p]!.2) = .agg #[.int .u64 x.2.1, .int .u64 x.2.2] by rw [Wd, hx2, hx3]] at this; exact this
      have XD : Hid (∃ (i : Int) (d : Nat), x = (i, hi d, lo d) ∧ d < 340282366920938463463374607431768211456) := ⟨_, _, hx, hdl⟩
      generalize rs[p]!.2.length = nr at *
      clear k1 k2 gX y0 y1 cf hx hx1 hx2 hx3 hdl hrp
      go_wp2
      refine wp_region_held_drew (S := fun w' => Hs wr w' ⟨b, o + p * 2, none⟩ ⟨b, o + p * 2 + 1, none⟩ (.int .i64 x.1) (.slice pr nr cr)) (by kernel_rfl) (FS0) (fun hHeld => ?_)
      refine wpAnyH_take (i := 0) (v := ?_) rfl (by kernel_rfl) (by kernel_rfl) (by kernel_rfl) (fun _ _ _ h => h) (Or.inl ⟨by rfl, ?_⟩) (by assumption) ?_
      rotate_left 1
      · (intro w hSw; (obtain ⟨s1, s2, s3, s4, s5⟩ := hSw); go_simp; try with_reducible rfl)
      try simp only [Act.put, List.getElem_toArray, List.getElem_cons_zero, List.setIfInBounds_toArray, List.set_cons_zero, List.set_cons_succ]
      refine wpAnyH_take (i := 1) (v := ?_) rfl (by kernel_rfl) (by kernel_rfl) (by kernel_rfl) (fun _ _ _ h => h) (Or.inl ⟨by rfl, ?_⟩) (by assumption) ?_
      rotate_left 1
      · (intro w hSw; (obtain ⟨s1, s2, s3, s4, s5⟩ := hSw); go_simp; try with_reducible rfl)
      try simp only [Act.put, List.getElem_toArray, List.getElem_cons_zero, List.getElem_cons_succ, List.setIfInBounds_toArray, List.set_cons_zero, List.set_cons_succ]
      refine wpAnyH_take (i := 2) (v := ?_) rfl (by kernel_rfl) (by kernel_rfl) (by kernel_rfl) (fun _ _ _ h => h) (Or.inl ⟨by rfl, ?_⟩) (by assumption) ?_
      rotate_left 1
      · (intro w hSw; (obtain ⟨s1, s2, s3, s4, s5⟩ := hSw); go_simp; try with_reducible rfl)
      try simp only [Act.put, List.getElem_toArray, List.getElem_cons_zero, List.getElem_cons_succ, List.setIfInBounds_toArray, List.set_cons_zero, List.set_cons_succ]
      refine wpAnyH_take (i := 3) (v := ?_) rfl (by kernel_rfl) (by kernel_rfl) (by kernel_rfl) (fun _ _ _ h => h) (Or.inl ⟨by rfl, ?_⟩) (by assumption) ?_
      rotate_left 1
      · (intro w hSw; (obtain ⟨s1, s2, s3, s4, s5⟩ := hSw); go_simp; try with_reducible rfl)
      try simp only [Act.put, List.getElem_toArray, List.getElem_cons_zero, List.getElem_cons_succ, List.setIfInBounds_toArray, List.set_cons_zero, List.set_cons_succ]
      refine wpAnyH_take (i := 4) (v := ?_) rfl (by kernel_rfl) (by kernel_rfl) (by kernel_rfl) (fun _ _ _ h => h) (Or.inl ⟨by rfl, ?_⟩) (by assumption) ?_
      rotate_left 1
      · (intro w hSw; (obtain ⟨s1, s2, s3, s4, s5⟩ := hSw); go_simp; try with_reducible rfl)
      try simp only [Act.put, List.getElem_toArray, List.getElem_cons_zero, List.getElem_cons_succ, List.setIfInBounds_toArray, List.set_cons_zero, List.set_cons_succ]
      refine wpAnyH_take (i := 5) (v := ?_) rfl (by kernel_rfl) (by kernel_rfl) (by kernel_rfl) (fun _ _ _ h => h) (Or.inl ⟨by rfl, ?_⟩) (by assumption) ?_
      rotate_left 1
      · (intro w hSw; (obtain ⟨s1, s2, s3, s4, s5⟩ := hSw); go_simp; try with_reducible rfl)
      try simp only [Act.put, List.getElem_toArray, List.getElem_cons_zero, List.getElem_cons_succ, List.setIfInBounds_toArray, List.set_cons_zero, List.set_cons_succ]
      refine wpAnyH_take (i := 6) (v := ?_) rfl (by kernel_rfl) (by kernel_rfl) (by kernel_rfl) (fun _ _ _ h => h) (Or.inl ⟨by rfl, ?_⟩) (by assumption) ?_
      rotate_left 1
      · (intro w hSw; (obtain ⟨s1, s2, s3, s4, s5⟩ := hSw); go_simp; try with_reducible rfl)
      try simp only [Act.put, List.getElem_toArray, List.getElem_cons_zero, List.getElem_cons_succ, List.setIfInBounds_toArray, List.set_cons_zero, List.set_cons_succ]
      refine wpAnyH_take (i := 7) (v := ?_) rfl (by kernel_rfl) (by kernel_rfl) (by kernel_rfl) (fun _ _ _ h => h) (Or.inl ⟨by rfl, ?_⟩) (by assumption) ?_
      rotate_left 1
      · (intro w hSw; (obtain ⟨s1, s2, s3, s4, s5⟩ := hSw); go_simp; try with_reducible rfl)
      try simp only [Act.put, List.getElem_toArray, List.getElem_cons_zero, List.getElem_cons_succ, List.setIfInBounds_toArray, List.set_cons_zero, List.set_cons_succ]
      refine wpAnyH_take (i := 8) (v := ?_) rfl (by kernel_rfl) (by kernel_rfl) (by kernel_rfl) (fun _ _ _ h => h) (Or.inl ⟨by rfl, ?_⟩) (by assumption) ?_
      rotate_left 1
      · (intro w hSw; (obtain ⟨s1, s2, s3, s4, s5⟩ := hSw); go_simp; try with_reducible rfl)
      try simp only [Act.put, List.getElem_toArray, List.getElem_cons_zero, List.getElem_cons_succ, List.setIfInBounds_toArray, List.set_cons_zero, List.set_cons_succ]
      refine wpAnyH_take (i := 9) (v := ?_) rfl (by kernel_rfl) (by kernel_rfl) (by kernel_rfl) (fun _ _ _ h => h) (Or.inl ⟨by rfl, ?_⟩) (by assumption) ?_
      rotate_left 1
      · (intro w hSw; (obtain ⟨s1, s2, s3, s4, s5⟩ := hSw); go_simp; try with_reducible rfl)
      try simp only [Act.put, List.getElem_toArray, List.getElem_cons_zero, List.getElem_cons_succ, List.setIfInBounds_toArray, List.set_cons_zero, List.set_cons_succ]
      refine wpAnyH_take (i := 10) (v := ?_) rfl (by kernel_rfl) (by kernel_rfl) (by kernel_rfl) (fun _ _ _ h => h) (Or.inl ⟨by rfl, ?_⟩) (by assumption) ?_
      rotate_left 1
      · (intro w hSw; (obtain ⟨s1, s2, s3, s4, s5⟩ := hSw); go_simp; try with_reducible rfl)
      try simp only [Act.put, List.getElem_toArray, List.getElem_cons_zero, List.getElem_cons_succ, List.setIfInBounds_toArray, List.set_cons_zero, List.set_cons_succ]
      refine wpAnyH_ready (rs := [11, 13]) (by kernel_rfl) (by simp) ?_
      refine AllReadyH.cons rfl (fun K hK => ?_) (AllReadyH.cons rfl (fun K hK => ?_) AllReadyH.nil)
      · have hHeldC := hHeld
        go_simp
        refine (cf' _ (gb_trans GX.out hHeld.gb)).mono ?_
        rintro e w4 ⟨rfl, g4⟩
        refine hK.out _ _ (hHeld.gr g4.gb) (fun hHeld => ?_)
        clear hK K
        try simp only [Act.put, List.getElem_toArray, List.getElem_cons_zero, List.getElem_cons_succ, List.setIfInBounds_toArray, List.set_cons_zero, List.set_cons_succ]
        refine wpAnyH_take (i := 12) (v := ?_) rfl (by kernel_rfl) (by kernel_rfl) (by kernel_rfl) (fun _ _ _ h => h) (Or.inl ⟨by rfl, ?_⟩) (by assumption) ?_
        rotate_left 1
        · (intro w hSw; (obtain ⟨s1, s2, s3, s4, s5⟩ := hSw); go_simp; try with_reducible rfl)
        try simp only [Act.put, List.getElem_toArray, List.getElem_cons_zero, List.getElem_cons_succ, List.setIfInBounds_toArray, List.set_cons_zero, List.set_cons_succ]
        refine wpAnyH_ready (rs := [13]) (by kernel_rfl) (by simp) ?_
        refine AllReadyH.cons rfl (fun K hK => ?_) AllReadyH.nil
        go_simp
        refine hK.out _ _ (hHeld.gr (gb_alloc (Below.refl _ _) _)) (fun hHeld => ?_)
        clear hK K
        try simp only [Act.put, List.getElem_toArray, List.getElem_cons_zero, List.getElem_cons_succ, List.setIfInBounds_toArray, List.set_cons_zero, List.set_cons_succ]
        have hH4 := hHeldC.gr g4.gb
        refine wpAnyH_ready (rs := [14]) (by kernel_rfl) (by simp) ?_
        refine AllReadyH.cons rfl (fun K hK => ?_) AllReadyH.nil
        go_simp
        refine hK.out _ _ (hH4.gr (gb_alloc (Below.refl _ _) _)) (fun hHeld => ?_)
        clear hK K
        try simp only [Act.put, List.getElem_toArray, List.getElem_cons_zero, List.getElem_cons_succ, List.setIfInBounds_toArray, List.set_cons_zero, List.set_cons_succ]
        refine wpAnyH_done (by kernel_rfl) ?_ _
        have F0 : H3 (w4.alloc (.cells #[.int .i64 x.1, .int .u64 x.2.1, .int .u64 x.2.2] 43)) w4.heap.size x := H3.new w4 x _
        have FB : wr.heap.size ≤ w4.heap.size := hH4.gb.size
        have FL : w4.heap.size < (w4.alloc (.cells #[.int .i64 x.1, .int .u64 x.2.1, .int .u64 x.2.2] 43)).heap.size := by rw [World.size_alloc]; omega
        clear hHeldC g4 hH4
        generalize w4.heap.size = Bh at *

        have F2 := hHeld.gb
        generalize w4.alloc (.cells #[.int .i64 x.1, .int .u64 x.2.1, .int .u64 x.2.2] 43) = W9 at *
        clear hHeld
        obtain ⟨L, hL⟩ : ∃ L, L = Tk.srt (hitsOf q (rs.take p)) := ⟨_, rfl⟩
        rw [← hL] at X NX SL
        have OW : Tk.Own W9 u5 L.toArray := Tk.own_gr X.out.1 F2
        have hob : Hid (∀ g, u5.ownBlock = some g → w.heap.size ≤ g ∧ g < wr.heap.size) := fun g e => ⟨X.out.2.2 g e, Tk.own_lt X.out.1 e⟩
        have G9 : Hid (Gb w W9) := gb_trans X.out.2.1 F2
        obtain ⟨pv, cw, ev⟩ := own_fm OW SL.out.1
        subst ev
        have OW' : W9.ownsRow 0 43 3 (.slice pv p cw) p (Tk.fl L) := by have h := OW; unfold Tk.Own at h; rw [List.size_toArray, SL.out.1] at h; exact h
        have LN : Hid (∀ (v2 : Value) (w2 : World), w2.ownsRow 0 43 3 v2 (p + 1) (Tk.fl L ++ Tk.enc x) → (W9.alloc (.cells #[.int .i64 x.1, .int .u64 x.2.1, .int .u64 x.2.2] 43)).grownBy w2 (Value.slice pv p cw).ownBlock → (v2.ownBlock = (Value.slice pv p cw).ownBlock ∨ v2.ownBlock = some (W9.alloc (.cells #[.int .i64 x.1, .int .u64 x.2.1, .int .u64 x.2.2] 43)).heap.size) → ∃ g cap, v2 = .slice (some ⟨g, 0, none⟩) (p + 1) cap ∧ Lay w w2 g p cap Bh p L x) := fun v2 w2 h1 h2 h3 => lay_new SL.out.1 F0 FB FL G9.out hob.out h1 h2 h3
        obtain ⟨e0, e1, e2⟩ := F0
        have Z' := Z.out
        have hp512 : p ≤ 512 := by omega
        clear X OW F2 hL FB FL
        go_wp2_with (first
          | (at_builtin; refine wpList_append_own_at _ rfl _ _ 24 rfl 0 43 i0 z0 3 24 Tryz.underlying24 Z'.1 Z'.2.1 Z'.2.2.1 Z'.2.2.2.1 Z'.2.2.2.2 (by decide) (.slice pv p cw) p (Tk.fl L) rfl (World.ownsRow.alloc OW' _) ⟨W9.heap.size, 0, none⟩ 1 1 (Tk.enc x) rfl rfl (three_new _ _ _) (Tk.enc_one x) (by unfold maxLen; omega) (by omega) (Nat.zero_le _) ?_; intro v2 w2 hown2 hgrow2 hnil2 hloc2)
          | go_in)
        obtain ⟨g, cap2, ev2, hLay⟩ := LN.out v2 w2 hown2 hgrow2 hloc2
        subst ev2
        have LY0 : Hid (Lay w w2 g p cap2 Bh p L x) := hLay
        clear hown2 hgrow2 hnil2 hloc2 LN OW' hLay e0 e1 e2
        go_loopw [8] (fun kv W => ∃ k : Nat, kv = .int .i64 (k : Int) ∧ k ≤ p ∧ Hid (Lay w W g p cap2 Bh k L x)) (fun kv _ => (intOf kv).toNat)
        case atStart => exact ⟨p, rfl, Nat.le_refl _, LY0.out⟩
        case round =>
          clear LY0
          obtain ⟨k, rfl, hk, LY⟩ := hrel
          obtain ⟨f, hf1, hf2, hf3⟩ := LY.out.arr
          obtain ⟨e0, e1, e2⟩ := LY.out.box
          obtain ⟨c0, c1, c2⟩ := hf1.cell (i := k) (by omega)
          have z0' := hf1.frozen (k * 3)
          have z1' := hf1.frozen (k * 3 + 1)
          have z2' := hf1.frozen (k * 3 + 2)
          have hkp : (k : Int) < (p : Int) + 1 := by omega
          by_cases hk0 : k = 0
          · subst hk0
            have FN : Hid (∀ W', Gb wr W' → OutH w (((W'.setCell ⟨g, 0, none⟩ (.int .i64 x.1)).setCell ⟨g, 1, none⟩ (.int .u64 x.2.1)).setCell ⟨g, 2, none⟩ (.int .u64 x.2.2)) (.slice (some ⟨g, 0, none⟩) (p + 1) cap2) (Tk.srt (hitsOf q (rs.take (p + 1))))) := fun W' gW => by rw [NX.out]; have := (LY.out.gr gW).done (Nat.zero_le _) SL.out.1 SL.out.2.1 (.inl rfl); simpa using this
            simp only [Nat.zero_mul, Nat.zero_add] at c0 c1 c2 z0' z1' z2'
            clear LY hf1 hf2 hf3
            go_wp2
            go_quiet (fail)
            go_wp2
            exact ⟨⟨p + 1, by go_num, hpn, FN.out _ (below_drewN (Below.refl _ _) _)⟩, by simp [intOf]; omega⟩
          · obtain ⟨j, hj⟩ : ∃ j, k = j + 1 := ⟨k - 1, by omega⟩
            have hkpos : (0 : Int) < (k : Int) := by omega
            have hk1 : (k : Int) - 1 = (j : Int) := by omega
            have hjw : IntKind.i64.wrap (j : Int) = (j : Int) := by rw [IntKind.wrap_i64]; omega
            have hjp : (j : Int) < (p : Int) + 1 := by omega
            have hjn : j < p + 1 := by omega
            obtain ⟨d0, d1, d2⟩ := hf1.cell (i := j) (by omega)
            rw [hf2 j (by omega)] at d0 d1 d2
            obtain ⟨iy, dy, ey, hdy⟩ := SL.out.2.2 L[j]! (by rw [getElem!_pos L j (by have := SL.out.1; omega)]; exact List.getElem_mem _)
            obtain ⟨ix, dx, ex, hdx⟩ := XD.out
            have cb := fun W => before_c ix iy dx dy hdx hdy W
            rw [← ex, ← ey] at cb
            have DN : Hid (∀ W', Gb wr W' → Tk.hlt x L[j]! = true → Lay w (((W'.setCell ⟨g, k * 3, none⟩ (.int .i64 L[j]!.1)).setCell ⟨g, k * 3 + 1, none⟩ (.int .u64 L[j]!.2.1)).setCell ⟨g, k * 3 + 2, none⟩ (.int .u64 L[j]!.2.2)) g p cap2 Bh j L x) := fun W' gW hx => by subst hj; exact (LY.out.gr gW).down hk hx
            have FN : Hid (∀ W', Gb wr W' → Tk.hlt x L[j]! = false → OutH w (((W'.setCell ⟨g, k * 3, none⟩ (.int .i64 x.1)).setCell ⟨g, k * 3 + 1, none⟩ (.int .u64 x.2.1)).setCell ⟨g, k * 3 + 2, none⟩ (.int .u64 x.2.2)) (.slice (some ⟨g, 0, none⟩) (p + 1) cap2) (Tk.srt (hitsOf q (rs.take (p + 1))))) := fun W' gW hx => by rw [NX.out]; exact (LY.out.gr gW).done hk SL.out.1 SL.out.2.1 (.inr (by subst hj; exact hx))
            generalize L[j]! = y at *
            have hkd : decide (0 < k) = true := decide_eq_true (by omega)
            have dr : Gb wr wr.drew := (Below.refl _ _).drew
            have HH : Hid (HA wr g (p + 1) cap2 f) := hf1
            clear hf1 hf2 hf3 ey ex hdy hdx LY hj
            cases ht : Tk.hlt x y with
            | true =>
              have DN' : Hid (∀ W', Gb wr W' → Lay w (((W'.setCell ⟨g, k * 3, none⟩ (.int .i64 y.1)).setCell ⟨g, k * 3 + 1, none⟩ (.int .u64 y.2.1)).setCell ⟨g, k * 3 + 2, none⟩ (.int .u64 y.2.2)) g p cap2 Bh j L x) := fun W' gW => DN.out W' gW ht
              simp only [ht] at cb
              clear DN FN ht
              go_wp2
              go_region_held3 (fun w' => Gb wr w' ∧ w'.cell? ⟨Bh, 0, none⟩ = some (.int .i64 x.1) ∧ w'.cell? ⟨Bh, 1, none⟩ = some (.int .u64 x.2.1) ∧ w'.cell? ⟨Bh, 2, none⟩ = some (.int .u64 x.2.2) ∧ w'.cell? ⟨g, j * 3, none⟩ = some (.int .i64 y.1) ∧ w'.cell? ⟨g, j * 3 + 1, none⟩ = some (.int .u64 y.2.1) ∧ w'.cell? ⟨g, j * 3 + 2, none⟩ = some (.int .u64 y.2.2))
                (first | (with_reducible exact six_gb (by assumption) (by assumption)) | exact ⟨dr, e0, e1, e2, d0, d1, d2⟩)
                (first | (go_at_call 72; refine (cb _).mono ?_; rintro e w6 ⟨rfl, g6⟩))
              all_goals
                have G6 : Gb wr w6 := gb_trans dr g6.gb
                have c0 := gb_keeps G6 c0
                have c1 := gb_keeps G6 c1
                have c2 := gb_keeps G6 c2
                have d0 := gb_keeps G6 d0
                have d1 := gb_keeps G6 d1
                have d2 := gb_keeps G6 d2
                have hA6 := HH.out.block (G6.block _ HH.out.lt)
                have z0' := hA6.frozen (k * 3)
                have z1' := hA6.frozen (k * 3 + 1)
                have z2' := hA6.frozen (k * 3 + 2)
                have D6 := DN'.out w6 G6
                clear cb g6 G6 hA6 DN' HH e0 e1 e2
                go_wp2
                exact ⟨⟨j, by go_num, by omega, D6⟩, by simp [intOf]; omega⟩
            | false =>
              have FN' : Hid (∀ W', Gb wr W' → OutH w (((W'.setCell ⟨g, k * 3, none⟩ (.int .i64 x.1)).setCell ⟨g, k * 3 + 1, none⟩ (.int .u64 x.2.1)).setCell ⟨g, k * 3 + 2, none⟩ (.int .u64 x.2.2)) (.slice (some ⟨g, 0, none⟩) (p + 1) cap2) (Tk.srt (hitsOf q (rs.take (p + 1))))) := fun W' gW => FN.out W' gW ht
              simp only [ht] at cb
              clear DN FN ht
              go_wp2
              go_region_held3 (fun w' => Gb wr w' ∧ w'.cell? ⟨Bh, 0, none⟩ = some (.int .i64 x.1) ∧ w'.cell? ⟨Bh, 1, none⟩ = some (.int .u64 x.2.1) ∧ w'.cell? ⟨Bh, 2, none⟩ = some (.int .u64 x.2.2) ∧ w'.cell? ⟨g, j * 3, none⟩ = some (.int .i64 y.1) ∧ w'.cell? ⟨g, j * 3 + 1, none⟩ = some (.int .u64 y.2.1) ∧ w'.cell? ⟨g, j * 3 + 2, none⟩ = some (.int .u64 y.2.2))
                (first | (with_reducible exact six_gb (by assumption) (by assumption)) | exact ⟨dr, e0, e1, e2, d0, d1, d2⟩)
                (first | (go_at_call 72; refine (cb _).mono ?_; rintro e w6 ⟨rfl, g6⟩))
              all_goals
                have G6 : Gb wr w6 := gb_trans dr g6.gb
                have c0 := gb_keeps G6 c0
                have c1 := gb_keeps G6 c1
                have c2 := gb_keeps G6 c2
                have e0 := gb_keeps G6 e0
                have e1 := gb_keeps G6 e1
                have e2 := gb_keeps G6 e2
                have hA6 := HH.out.block (G6.block _ HH.out.lt)
                have z0' := hA6.frozen (k * 3)
                have z1' := hA6.frozen (k * 3 + 1)
                have z2' := hA6.frozen (k * 3 + 2)
                have D6 := FN'.out w6 G6
                clear cb g6 G6 hA6 FN' HH d0 d1 d2
                go_wp2
                exact ⟨⟨p + 1, by go_num, hpn, D6⟩, by simp [intOf]; omega⟩
      · have hHeldC := hHeld
        go_simp
        refine hK.out _ _ (hHeld.gr (gb_alloc (Below.refl _ _) _)) (fun hHeld => ?_)
        clear hK K
        try simp only [Act.put, List.getElem_toArray, List.getElem_cons_zero, List.getElem_cons_succ, List.setIfInBounds_toArray, List.set_cons_zero, List.set_cons_succ]
        refine wpAnyH_ready (rs := [11]) (by kernel_rfl) (by simp) ?_
        refine AllReadyH.cons rfl (fun K hK => ?_) AllReadyH.nil
        go_simp
        refine (cf' _ (gb_trans GX.out hHeld.gb)).mono ?_
        rintro e w4 ⟨rfl, g4⟩
        refine hK.out _ _ (hHeld.gr g4.gb) (fun hHeld => ?_)
        clear hK K
        try simp only [Act.put, List.getElem_toArray, List.getElem_cons_zero, List.getElem_cons_succ, List.setIfInBounds_toArray, List.set_cons_zero, List.set_cons_succ]
        refine wpAnyH_take (i := 12) (v := ?_) rfl (by kernel_rfl) (by kernel_rfl) (by kernel_rfl) (fun _ _ _ h => h) (Or.inl ⟨by rfl, ?_⟩) (by assumption) ?_
        rotate_left 1
        · (intro w hSw; (obtain ⟨s1, s2, s3, s4, s5⟩ := hSw); go_simp; try with_reducible rfl)
        try simp only [Act.put, List.getElem_toArray, List.getElem_cons_zero, List.getElem_cons_succ, List.setIfInBounds_toArray, List.set_cons_zero, List.set_cons_succ]
        have A4 : H3 w4 wr.heap.size (0, 0, 0) := (show H3 (wr.drew.alloc (.cells #[.int .i64 0, .int .u64 0, .int .u64 0] 43)) wr.heap.size (0, 0, 0) from H3.new wr.drew (0, 0, 0) _).gb g4.gb
        have FZ : ∀ o, w4.frozen? ⟨wr.heap.size, o, none⟩ = false := fun o => (g4.froz _).trans (by simp [go_sem])
        have FL0 : wr.heap.size < w4.heap.size := cell_lt A4.c0
        obtain ⟨a0, a1, a2⟩ := A4
        have f0 := FZ 0
        have f1 := FZ 1
        have f2 := FZ 2
        clear FZ
        refine wpAnyH_ready (rs := [14]) (by kernel_rfl) (by simp) ?_
        refine AllReadyH.cons rfl (fun K hK => ?_) AllReadyH.nil
        go_simp
        refine hK.out _ _ (hHeld.set (Nat.le_refl _) _ _ _) (fun hHeld => ?_)
        clear hK K
        try simp only [Act.put, List.getElem_toArray, List.getElem_cons_zero, List.getElem_cons_succ, List.setIfInBounds_toArray, List.set_cons_zero, List.set_cons_succ]
        refine wpAnyH_done (by kernel_rfl) ?_ _
        have F0 : H3 (((w4.setCell ⟨wr.heap.size, 0, none⟩ (.int .i64 x.1)).setCell ⟨wr.heap.size, 1, none⟩ (.int .u64 x.2.1)).setCell ⟨wr.heap.size, 2, none⟩ (.int .u64 x.2.2)) wr.heap.size x := ⟨by simp [go_sem, a0], by simp [go_sem, a1], by simp [go_sem, a2]⟩
        have FB : wr.heap.size ≤ wr.heap.size := Nat.le_refl _
        have FL : wr.heap.size < (((w4.setCell ⟨wr.heap.size, 0, none⟩ (.int .i64 x.1)).setCell ⟨wr.heap.size, 1, none⟩ (.int .u64 x.2.1)).setCell ⟨wr.heap.size, 2, none⟩ (.int .u64 x.2.2)).heap.size := by simpa [World.setCell] using FL0
        clear hHeldC g4 a0 a1 a2 f0 f1 f2 FL0
        obtain ⟨Bh, hBh⟩ : ∃ Bh, Bh = wr.heap.size := ⟨_, rfl⟩
        rw [← hBh] at F0 FL hHeld ⊢
        have FB : wr.heap.size ≤ Bh := by rw [hBh]; exact Nat.le_refl _
        clear hBh

        have F2 := hHeld.gb
        generalize ((w4.setCell ⟨Bh, 0, none⟩ (.int .i64 x.1)).setCell ⟨Bh, 1, none⟩ (.int .u64 x.2.1)).setCell ⟨Bh, 2, none⟩ (.int .u64 x.2.2) = W9 at *
        clear hHeld
        obtain ⟨L, hL⟩ : ∃ L, L = Tk.srt (hitsOf q (rs.take p)) := ⟨_, rfl⟩
        rw [← hL] at X NX SL
        have OW : Tk.Own W9 u5 L.toArray := Tk.own_gr X.out.1 F2
        have hob : Hid (∀ g, u5.ownBlock = some g → w.heap.size ≤ g ∧ g < wr.heap.size) := fun g e => ⟨X.out.2.2 g e, Tk.own_lt X.out.1 e⟩
        have G9 : Hid (Gb w W9) := gb_trans X.out.2.1 F2
        obtain ⟨pv, cw, ev⟩ := own_fm OW SL.out.1
        subst ev
        have OW' : W9.ownsRow 0 43 3 (.slice pv p cw) p (Tk.fl L) := by have h := OW; unfold Tk.Own at h; rw [List.size_toArray, SL.out.1] at h; exact h
        have LN : Hid (∀ (v2 : Value) (w2 : World), w2.ownsRow 0 43 3 v2 (p + 1) (Tk.fl L ++ Tk.enc x) → (W9.alloc (.cells #[.int .i64 x.1, .int .u64 x.2.1, .int .u64 x.2.2] 43)).grownBy w2 (Value.slice pv p cw).ownBlock → (v2.ownBlock = (Value.slice pv p cw).ownBlock ∨ v2.ownBlock = some (W9.alloc (.cells #[.int .i64 x.1, .int .u64 x.2.1, .int .u64 x.2.2] 43)).heap.size) → ∃ g cap, v2 = .slice (some ⟨g, 0, none⟩) (p + 1) cap ∧ Lay w w2 g p cap Bh p L x) := fun v2 w2 h1 h2 h3 => lay_new SL.out.1 F0 FB FL G9.out hob.out h1 h2 h3
        obtain ⟨e0, e1, e2⟩ := F0
        have Z' := Z.out
        have hp512 : p ≤ 512 := by omega
        clear X OW F2 hL FB FL
        go_wp2_with (first
          | (at_builtin; refine wpList_append_own_at _ rfl _ _ 24 rfl 0 43 i0 z0 3 24 Tryz.underlying24 Z'.1 Z'.2.1 Z'.2.2.1 Z'.2.2.2.1 Z'.2.2.2.2 (by decide) (.slice pv p cw) p (Tk.fl L) rfl (World.ownsRow.alloc OW' _) ⟨W9.heap.size, 0, none⟩ 1 1 (Tk.enc x) rfl rfl (three_new _ _ _) (Tk.enc_one x) (by unfold maxLen; omega) (by omega) (Nat.zero_le _) ?_; intro v2 w2 hown2 hgrow2 hnil2 hloc2)
          | go_in)
        obtain ⟨g, cap2, ev2, hLay⟩ := LN.out v2 w2 hown2 hgrow2 hloc2
        subst ev2
        have LY0 : Hid (Lay w w2 g p cap2 Bh p L x) := hLay
        clear hown2 hgrow2 hnil2 hloc2 LN OW' hLay e0 e1 e2
        go_loopw [8] (fun kv W => ∃ k : Nat, kv = .int .i64 (k : Int) ∧ k ≤ p ∧ Hid (Lay w W g p cap2 Bh k L x)) (fun kv _ => (intOf kv).toNat)
        case atStart => exact ⟨p, rfl, Nat.le_refl _, LY0.out⟩
        case round =>
          clear LY0
          obtain ⟨k, rfl, hk, LY⟩ := hrel
          obtain ⟨f, hf1, hf2, hf3⟩ := LY.out.arr
          obtain ⟨e0, e1, e2⟩ := LY.out.box
          obtain ⟨c0, c1, c2⟩ := hf1.cell (i := k) (by omega)
          have z0' := hf1.frozen (k * 3)
          have z1' := hf1.frozen (k * 3 + 1)
          have z2' := hf1.frozen (k * 3 + 2)
          have hkp : (k : Int) < (p : Int) + 1 := by omega
          by_cases hk0 : k = 0
          · subst hk0
            have FN : Hid (∀ W', Gb wr W' → OutH w (((W'.setCell ⟨g, 0, none⟩ (.int .i64 x.1)).setCell ⟨g, 1, none⟩ (.int .u64 x.2.1)).setCell ⟨g, 2, none⟩ (.int .u64 x.2.2)) (.slice (some ⟨g, 0, none⟩) (p + 1) cap2) (Tk.srt (hitsOf q (rs.take (p + 1))))) := fun W' gW => by rw [NX.out]; have := (LY.out.gr gW).done (Nat.zero_le _) SL.out.1 SL.out.2.1 (.inl rfl); simpa using this
            simp only [Nat.zero_mul, Nat.zero_add] at c0 c1 c2 z0' z1' z2'
            clear LY hf1 hf2 hf3
            go_wp2
            go_quiet (fail)
            go_wp2
            exact ⟨⟨p + 1, by go_num, hpn, FN.out _ (below_drewN (Below.refl _ _) _)⟩, by simp [intOf]; omega⟩
          · obtain ⟨j, hj⟩ : ∃ j, k = j + 1 := ⟨k - 1, by omega⟩
            have hkpos : (0 : Int) < (k : Int) := by omega
            have hk1 : (k : Int) - 1 = (j : Int) := by omega
            have hjw : IntKind.i64.wrap (j : Int) = (j : Int) := by rw [IntKind.wrap_i64]; omega
            have hjp : (j : Int) < (p : Int) + 1 := by omega
            have hjn : j < p + 1 := by omega
            obtain ⟨d0, d1, d2⟩ := hf1.cell (i := j) (by omega)
            rw [hf2 j (by omega)] at d0 d1 d2
            obtain ⟨iy, dy, ey, hdy⟩ := SL.out.2.2 L[j]! (by rw [getElem!_pos L j (by have := SL.out.1; omega)]; exact List.getElem_mem _)
            obtain ⟨ix, dx, ex, hdx⟩ := XD.out
            have cb := fun W => before_c ix iy dx dy hdx hdy W
            rw [← ex, ← ey] at cb
            have DN : Hid (∀ W', Gb wr W' → Tk.hlt x L[j]! = true → Lay w (((W'.setCell ⟨g, k * 3, none⟩ (.int .i64 L[j]!.1)).setCell ⟨g, k * 3 + 1, none⟩ (.int .u64 L[j]!.2.1)).setCell ⟨g, k * 3 + 2, none⟩ (.int .u64 L[j]!.2.2)) g p cap2 Bh j L x) := fun W' gW hx => by subst hj; exact (LY.out.gr gW).down hk hx
            have FN : Hid (∀ W', Gb wr W' → Tk.hlt x L[j]! = false → OutH w (((W'.setCell ⟨g, k * 3, none⟩ (.int .i64 x.1)).setCell ⟨g, k * 3 + 1, none⟩ (.int .u64 x.2.1)).setCell ⟨g, k * 3 + 2, none⟩ (.int .u64 x.2.2)) (.slice (some ⟨g, 0, none⟩) (p + 1) cap2) (Tk.srt (hitsOf q (rs.take (p + 1))))) := fun W' gW hx => by rw [NX.out]; exact (LY.out.gr gW).done hk SL.out.1 SL.out.2.1 (.inr (by subst hj; exact hx))
            generalize L[j]! = y at *
            have hkd : decide (0 < k) = true := decide_eq_true (by omega)
            have dr : Gb wr wr.drew := (Below.refl _ _).drew
            have HH : Hid (HA wr g (p + 1) cap2 f) := hf1
            clear hf1 hf2 hf3 ey ex hdy hdx LY hj
            cases ht : Tk.hlt x y with
            | true =>
              have DN' : Hid (∀ W', Gb wr W' → Lay w (((W'.setCell ⟨g, k * 3, none⟩ (.int .i64 y.1)).setCell ⟨g, k * 3 + 1, none⟩ (.int .u64 y.2.1)).setCell ⟨g, k * 3 + 2, none⟩ (.int .u64 y.2.2)) g p cap2 Bh j L x) := fun W' gW => DN.out W' gW ht
              simp only [ht] at cb
              clear DN FN ht
              go_wp2
              go_region_held3 (fun w' => Gb wr w' ∧ w'.cell? ⟨Bh, 0, none⟩ = some (.int .i64 x.1) ∧ w'.cell? ⟨Bh, 1, none⟩ = some (.int .u64 x.2.1) ∧ w'.cell? ⟨Bh, 2, none⟩ = some (.int .u64 x.2.2) ∧ w'.cell? ⟨g, j * 3, none⟩ = some (.int .i64 y.1) ∧ w'.cell? ⟨g, j * 3 + 1, none⟩ = some (.int .u64 y.2.1) ∧ w'.cell? ⟨g, j * 3 + 2, none⟩ = some (.int .u64 y.2.2))
                (first | (with_reducible exact six_gb (by assumption) (by assumption)) | exact ⟨dr, e0, e1, e2, d0, d1, d2⟩)
                (first | (go_at_call 72; refine (cb _).mono ?_; rintro e w6 ⟨rfl, g6⟩))
              all_goals
                have G6 : Gb wr w6 := gb_trans dr g6.gb
                have c0 := gb_keeps G6 c0
                have c1 := gb_keeps G6 c1
                have c2 := gb_keeps G6 c2
                have d0 := gb_keeps G6 d0
                have d1 := gb_keeps G6 d1
                have d2 := gb_keeps G6 d2
                have hA6 := HH.out.block (G6.block _ HH.out.lt)
                have z0' := hA6.frozen (k * 3)
                have z1' := hA6.frozen (k * 3 + 1)
                have z2' := hA6.frozen (k * 3 + 2)
                have D6 := DN'.out w6 G6
                clear cb g6 G6 hA6 DN' HH e0 e1 e2
                go_wp2
                exact ⟨⟨j, by go_num, by omega, D6⟩, by simp [intOf]; omega⟩
            | false =>
              have FN' : Hid (∀ W', Gb wr W' → OutH w (((W'.setCell ⟨g, k * 3, none⟩ (.int .i64 x.1)).setCell ⟨g, k * 3 + 1, none⟩ (.int .u64 x.2.1)).setCell ⟨g, k * 3 + 2, none⟩ (.int .u64 x.2.2)) (.slice (some ⟨g, 0, none⟩) (p + 1) cap2) (Tk.srt (hitsOf q (rs.take (p + 1))))) := fun W' gW => FN.out W' gW ht
              simp only [ht] at cb
              clear DN FN ht
              go_wp2
              go_region_held3 (fun w' => Gb wr w' ∧ w'.cell? ⟨Bh, 0, none⟩ = some (.int .i64 x.1) ∧ w'.cell? ⟨Bh, 1, none⟩ = some (.int .u64 x.2.1) ∧ w'.cell? ⟨Bh, 2, none⟩ = some (.int .u64 x.2.2) ∧ w'.cell? ⟨g, j * 3, none⟩ = some (.int .i64 y.1) ∧ w'.cell? ⟨g, j * 3 + 1, none⟩ = some (.int .u64 y.2.1) ∧ w'.cell? ⟨g, j * 3 + 2, none⟩ = some (.int .u64 y.2.2))
                (first | (with_reducible exact six_gb (by assumption) (by assumption)) | exact ⟨dr, e0, e1, e2, d0, d1, d2⟩)
                (first | (go_at_call 72; refine (cb _).mono ?_; rintro e w6 ⟨rfl, g6⟩))
              all_goals
                have G6 : Gb wr w6 := gb_trans dr g6.gb
                have c0 := gb_keeps G6 c0
                have c1 := gb_keeps G6 c1
                have c2 := gb_keeps G6 c2
                have e0 := gb_keeps G6 e0
                have e1 := gb_keeps G6 e1
                have e2 := gb_keeps G6 e2
                have hA6 := HH.out.block (G6.block _ HH.out.lt)
                have z0' := hA6.frozen (k * 3)
                have z1' := hA6.frozen (k * 3 + 1)
                have z2' := hA6.frozen (k * 3 + 2)
                have D6 := FN'.out w6 G6
                clear cb g6 G6 hA6 FN' HH d0 d1 d2
                go_wp2
                exact ⟨⟨p + 1, by go_num, hpn, D6⟩, by simp [intOf]; omega⟩
    · have hpi : ¬ (p : Int) < (n : Int) := by omega
      have X' := X.out
      rw [List.take_of_length_le (by have := N.out; omega)] at X'
      clear X
      go_wp2
      go_ret
      exact ⟨_, rfl, X'⟩
end Go.Proofs.YtdmdjmliggjbjaaGreat
