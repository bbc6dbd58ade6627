import Derived.Test.YtdmdjmliggjbjaaGreatCt24
import Derived.Maps.OwnIn
/- flat.nearest, TopK. -/
namespace Go.Proofs.YtdmdjmliggjbjaaGreat
open Go.RowKit Go.Shelf
attribute [local go_sem] Oper.semAt_some

theorem Boxed.kp {S : Nat → Prop} {W W' : World} {B : Nat} {t : TypeId} {v : Value} (h : Boxed W B t v) (k : Tk.Kp S W W') (hn : ¬ S B) : Boxed W' B t v :=
  (k.block B h.lt hn).trans h
theorem keeps_of_kp {S : Nat → Prop} {W W' : World} (k : Tk.Kp S W W') (hS : ∀ b, S b → ∃ o : Obj, W.heap[b]? = some o ∧ o.isCells = true) : KeepsOthers W W' := by
  refine ⟨k.size, fun b o hb ho => ?_⟩
  rw [k.block b (Array.getElem?_eq_some_iff.1 hb).1, hb]
  intro hs
  obtain ⟨o', e, h'⟩ := hS b hs
  rw [hb] at e
  injection e with e
  rw [e, h'] at ho
  cases ho
/-- A heap's block and its hits' block. -/
theorem Has.cells {W : World} {hb k : Nat} {v : Value} {m : List Tk.Ht} (h : Tk.Has W hb k v m) : ∃ cs, W.heap[hb]? = some (.cells cs 115 (0, 0)) := by
  obtain ⟨d, h1, _⟩ := h; exact ⟨_, h1.blk⟩
theorem Has.own {W : World} {hb k : Nat} {v : Value} {m : List Tk.Ht} (h : Tk.Has W hb k v m) {g : Nat} (hg : v.ownBlock = some g) : ∃ cs, W.heap[g]? = some (.cells cs 43 (0, 0)) := by
  obtain ⟨d, h1, _⟩ := h
  rcases h1.own.2 with ⟨rfl, _⟩ | ⟨g', cap', cur, rfl, _, hh, _⟩
  · cases hg
  · simp only [Value.ownBlock, Option.some.injEq] at hg
    exact ⟨cur, by rw [← hg]; exact hh⟩
theorem ownFrom_has {B hb k : Nat} {vh : Value} {m : Nat → List Tk.Ht} : OwnFrom B (fun (j : Nat) W => Tk.Has W hb k vh (m j)) := fun j W W' row h hg hr => by
  refine h.kp (Tk.Kp.grown hg) ?_ ?_
  · intro e
    obtain ⟨_, o, ho, hc⟩ := hr hb e.symm
    obtain ⟨cs, h1⟩ := Has.cells h
    rw [h1] at ho; injection ho with ho; subst ho; cases hc
  · intro g hg' e
    obtain ⟨_, o, ho, hc⟩ := hr g e.symm
    obtain ⟨cs, h1⟩ := Has.own h hg'
    rw [h1] at ho; injection ho with ho; subst ho; cases hc

theorem box_ne {W : World} {hb k : Nat} {vh : Value} {m : List Tk.Ht} (h : Tk.Has W hb k vh m) {B : Nat} {t : TypeId} {v : Value} (b : Boxed W B t v) (h1 : t ≠ 115) (h2 : t ≠ 43) : ¬ (B = hb ∨ some B = vh.ownBlock) := by
  have e : W.heap[B]? = some (.cells #[v] t (0, 0)) := b
  rintro (rfl | e2)
  · obtain ⟨cs, e3⟩ := Has.cells h
    rw [e] at e3; simp at e3; exact h1 e3.2
  · obtain ⟨cs, e3⟩ := Has.own h e2.symm
    rw [e] at e3; simp at e3; exact h2 e3.2
theorem gb_trans' {a b c : World} {B : Nat} (h : Below B a b) (k : Gb b c) (hB : B ≤ b.heap.size) : Below B a c := h.trans (k.mono hB)
theorem below_putObj {a b : World} {B D : Nat} (h : Below B a b) (hD : B ≤ D) (o : Obj) : Below B a (b.putObj D o) :=
  ⟨h.os, h.tape, h.output, by simpa [World.putObj] using h.size, fun k hk => (World.putObj_heap_other (by omega)).trans (h.block k hk)⟩
theorem own_putObj {w : World} {v : Value} {d : Array Tk.Ht} {D : Nat} {o : Obj} (h : Tk.Own w v d) (hK : w.heap[D]? = some o) (hc : o.isCells = false) (o' : Obj) : Tk.Own (w.putObj D o') v d := by
  refine Tk.own_kp h (Tk.Kp.grown (grownBy_putObj' w D o')) fun g hg e => ?_
  rcases h.2 with ⟨rfl, _⟩ | ⟨g', cap', cur, rfl, _, hh, _⟩
  · cases hg
  · simp only [Value.ownBlock, Option.some.injEq] at hg e
    subst hg; subst e
    rw [hh] at hK; injection hK with hK; subst hK; cases hc
/-- Behind j rounds. -/
def NearAt (w0 : World) (hb k Bb Br Bq : Nat) (v u : Value) (rs : List Rw) (q : List Int) (j : Nat) (W : World) : Prop :=
  ∃ vh, Tk.Has W hb k vh (Tk.firsts k (hitsOf q (rs.take j))) ∧ (∀ g, vh.ownBlock = some g → w0.heap.size ≤ g) ∧ Below w0.heap.size w0 W ∧ Boxed W Bb 63 (.pointer (some ⟨hb, 0, none⟩)) ∧ Boxed W Br 22 v ∧ Boxed W Bq 23 u
theorem ownFrom_ex {β γ : Type} {B : Nat} {I : γ → β → World → Prop} (h : ∀ x, OwnFrom B (I x)) : OwnFrom B (fun s W => ∃ x, I x s W) := fun s W W' row hs hg hr => by
  obtain ⟨x, hx⟩ := hs; exact ⟨x, h x s W W' row hx hg hr⟩
theorem ownFrom_box {β : Type} {B b : Nat} {t : TypeId} {v : β → Value} : OwnFrom B (fun (k : β) W => Boxed W b t (v k)) := (boxed_own b t v).from B
theorem ownFrom_near {w0 : World} {B hb k Bb Br Bq : Nat} {v u : Value} {rs : List Rw} {q : List Int} (hB : w0.heap.size ≤ B) : OwnFrom B (NearAt w0 hb k Bb Br Bq v u rs q) :=
  ownFrom_ex fun _ => ownFrom_has.and ((ownFrom_pure B _).and ((ownFrom_below (Nat.le_refl _) hB).and (ownFrom_box.and (ownFrom_box.and ownFrom_box))))

/-- A hit in a block of its own. -/
abbrev hitObj (x : Tk.Ht) : Obj := .cells #[.int .i64 x.1, .int .u64 x.2.1, .int .u64 x.2.2] 43
def HitBox (W : World) (p : Nat) (x : Tk.Ht) : Prop := W.heap[p]? = some (hitObj x)
theorem hitBox_new (W : World) (x : Tk.Ht) : HitBox (W.alloc (hitObj x)) W.heap.size x := World.alloc_heap_new W _
theorem HitBox.cells {W : World} {p : Nat} {x : Tk.Ht} (h : HitBox W p x) : W.cell? ⟨p, 0, none⟩ = some (.int .i64 x.1) ∧ W.cell? ⟨p, 1, none⟩ = some (.int .u64 x.2.1) ∧ W.cell? ⟨p, 2, none⟩ = some (.int .u64 x.2.2) := by
  have e : W.heap[p]? = some (hitObj x) := h
  refine ⟨?_, ?_, ?_⟩ <;> simp [World.cell?, e]
theorem ownFrom_hitBox {B p : Nat} {x : Nat → Tk.Ht} : OwnFrom B (fun (j : Nat) W => HitBox W p (x j)) := fun j W W' row h hg hr => by
  have e : W.heap[p]? = some (hitObj (x j)) := h
  refine (hg.block p (Array.getElem?_eq_some_iff.1 e).1 ?_).trans e
  intro e2
  obtain ⟨_, o, ho, hc⟩ := hr p e2.symm
  rw [e] at ho; injection ho with ho; subst ho; cases hc
/-- Offer, with what it leaves of other blocks told by their kind. -/
theorem offer_has' {w : World} {hb k : Nat} {v : Value} {m : List Tk.Ht} (h : Tk.Has w hb k v m) (x : Tk.Ht) :
    Calls Tryz.prog 57 #[.pointer (some ⟨hb, 0, none⟩), Tk.hv x] w fun e w' => (∃ b, e = .returned (.bool b)) ∧ ∃ v', Tk.Has w' hb k v' (Tk.keep k m x) ∧ Tk.Kp (fun b => b = hb ∨ some b = v.ownBlock) w w' ∧ (v'.ownBlock = v.ownBlock ∨ ∀ g, v'.ownBlock = some g → w.heap.size ≤ g) := by
  refine (Tk.offer_has h x).mono ?_
  rintro e w' ⟨rfl, v', h1, h2, h3⟩
  exact ⟨⟨_, rfl⟩, v', h1, h2, h3⟩

/-- Lists of hits that came out, in memory that w0 has not. -/
def OutH (w0 w' : World) (v : Value) (l : List Tk.Ht) : Prop := Tk.Own w' v l.toArray ∧ Below w0.heap.size w0 w' ∧ ∀ g, v.ownBlock = some g → w0.heap.size ≤ g

theorem rdw_below {w0 w : World} {v : Value} {rs : List Rw} (h : RdW w0 v rs) (g : Below w0.heap.size w0 w) : RdW w v rs := h.gb g

set_option maxRecDepth 100000 in
set_option maxHeartbeats 2000000 in
theorem nearest_c {w0 w : World} {hb k : Nat} {v u : Value} {rs : List Rw} {q : List Int} (hH : Tk.Has w hb k (.slice none 0 0) []) (hh : w0.heap.size ≤ hb) (hv : RdW w0 v rs) (hu : RdI w0 u q) (g0 : Below w0.heap.size w0 w) (hask : askE rs q = 0) :
    Calls Tryz.prog 30 #[.pointer (some ⟨hb, 0, none⟩), v, u] w fun e w' => ∃ v', e = .returned v' ∧ OutH w0 w' v' (Tk.firsts k (hitsOf q rs)) := by
  have V : Hid (RdW w0 v rs) := hv
  have U : Hid (RdI w0 u q) := hu
  obtain ⟨av, cv, rfl, _⟩ := hv
  obtain ⟨au, cu, rfl, _⟩ := hu
  obtain ⟨m, hm⟩ : ∃ m, m = q.length := ⟨_, rfl⟩
  obtain ⟨n, hn⟩ : ∃ n, n = rs.length := ⟨_, rfl⟩
  have NH : Hid (n = rs.length) := hn
  rw [← hm] at U
  rw [← hn] at V
  rw [← hm, ← hn]
  clear hm hn
  have hits := fun W => hits_c av au n m cv cu W
  refine (callsIn_wide (n := 4)).1 ?_
  refine callsIn_of_wp_marks Tryz.func30 rfl trivial ?_ rfl
  simp only [Tryz.ntmps30, List.size_toArray, List.length_cons, List.length_nil, Nat.reduceAdd, Nat.reduceSub, Array.replicate_succ, Array.replicate_zero, List.push_toArray, List.append_toArray, List.nil_append, List.cons_append]
  gi_wp2_with (refine ⟨trivial, ?_⟩; gi_at_call 56; refine (callsIn_wide.2 (hits _)).mono ?_; rintro e w1 ⟨rfl, hw1⟩)
  have V1 : Hid ((((w.alloc (.cells #[.pointer (some ⟨hb, 0, none⟩)] 63)).alloc (.cells #[.slice av n cv] 22)).alloc (.cells #[.slice au m cu] 23)) = w1) := hw1
  have N0 : NearAt w0 hb k w.heap.size (w.heap.size + 1) (w.heap.size + 1 + 1) (.slice av n cv) (.slice au m cu) rs q 0 w1 := by
    rw [← hw1]
    have b1 := ((Boxed.new w 63 (.pointer (some ⟨hb, 0, none⟩))).alloc (.cells #[.slice av n cv] 22)).alloc (.cells #[.slice au m cu] 23)
    have b2 := (Boxed.new (w.alloc (.cells #[.pointer (some ⟨hb, 0, none⟩)] 63)) 22 (.slice av n cv)).alloc (.cells #[.slice au m cu] 23)
    have b3 := Boxed.new ((w.alloc (.cells #[.pointer (some ⟨hb, 0, none⟩)] 63)).alloc (.cells #[.slice av n cv] 22)) 23 (.slice au m cu)
    simp only [World.size_alloc] at b2 b3
    refine ⟨.slice none 0 0, ?_, fun g e => by simp [Value.ownBlock] at e, ?_, b1, b2, b3⟩
    · rw [List.take_zero]
      show Tk.Has _ hb k _ (Tk.firsts k [])
      rw [Tk.firsts_nil]
      exact hH.gr (gb_alloc (gb_alloc (gb_alloc (Below.refl _ _) _) _) _)
    · exact ((g0.alloc g0.size _).alloc (by rw [World.size_alloc]; exact Nat.le_succ_of_le g0.size) _).alloc (by rw [World.size_alloc, World.size_alloc]; have := g0.size; omega) _
  have s1 : w.heap.size + 3 = w1.heap.size := by rw [← hw1]; simp
  have s0 := g0.size
  clear hw1 hits V1
  have hrd : ∀ j W, NearAt w0 hb k w.heap.size (w.heap.size + 1) (w.heap.size + 1 + 1) (.slice av n cv) (.slice au m cu) rs q j W → HitsAt W (w.heap.size + 1) (w.heap.size + 1 + 1) (.slice av n cv) (.slice au m cu) rs q := fun j W h => by
    obtain ⟨vh, h1, h2, h3, h4, h5, h6⟩ := h
    exact ⟨h5, h6, V.out.gb h3, U.out.gb h3⟩
  refine range_c (gf := 81) (lb := #[.pointer (some ⟨w.heap.size + 1, 0, none⟩), .pointer (some ⟨w.heap.size + 1 + 1, 0, none⟩)]) rfl (enters_of Tryz.func81 (by kernel_rfl) rfl) rfl
    n (fun j => Tk.hv (hitOf q rs[j]!)) (NearAt w0 hb k w.heap.size (w.heap.size + 1) (w.heap.size + 1 + 1) (.slice av n cv) (.slice au m cu) rs q)
    (fun j p W => NearAt w0 hb k w.heap.size (w.heap.size + 1) (w.heap.size + 1 + 1) (.slice av n cv) (.slice au m cu) rs q j W ∧ HitBox W p (hitOf q rs[j]!))
    (fun j => hitObj (hitOf q rs[j]!))
    (ownFrom_near (by omega)) (fun p => (ownFrom_near (by omega)).and ownFrom_hitBox) N0
    (fun j W _ h => ⟨ownFrom_near (B := 0 + w0.heap.size) (by omega) j W _ none h (grown_of_gb (gb_alloc (Below.refl _ _) _)) (fun r e => by cases e), hitBox_new W _⟩)
    (by have := hits1_gives 3 (by decide) (w.heap.size + 1) (w.heap.size + 1 + 1) (.slice av n cv) (.slice au m cu) rs q hask _ hrd
        rwa [← NH.out] at this)
    (fun j p => { tmps := #[.pointer (some ⟨hb, 0, none⟩), .slice av n cv, .slice au m cu, .pointer (some ⟨w.heap.size, 0, none⟩), undef, undef, .slice none 0 0, .pointer (some ⟨p, 0, none⟩), .slice av n cv, .slice au m cu,
      .func (.func 81) #[] #[.pointer (some ⟨w.heap.size + 1, 0, none⟩), .pointer (some ⟨w.heap.size + 1 + 1, 0, none⟩)], Tk.hv (hitOf q rs[j]!), undef, undef, undef, undef, undef], defers := [] }) ?assign ?body ?done
  case assign =>
    intro l j W K hK
    generalize rs[j]! = r at *
    gi_wp2
    exact hK
  case body =>
    clear N0
    rintro l j p W hj ⟨⟨vh, h1, h2, h3, h4, h5, h6⟩, hp⟩
    have hjr : j < rs.length := by have := NH.out; omega
    have hm := hitsOf_snoc q hjr
    have hoff := offer_has' h1 (hitOf q rs[j]!)
    rw [← Tk.firsts_snoc, ← hm] at hoff
    generalize hitOf q rs[j]! = x at *
    obtain ⟨x0, x1, x2⟩ := x
    have cB := h4.cell
    obtain ⟨y0, y1, y2⟩ := hp.cells
    gi_wp2_with (refine ⟨trivial, ?_⟩; gi_at_call 57; refine (CallsIn.inRound l (callsIn_wide.2 hoff)).mono ?_; rintro e w5 ⟨⟨b, rfl⟩, v', q1, q2, q3⟩)
    refine ⟨keeps_of_kp q2 ?_, v', q1, ?_, ?_, Boxed.kp h4 q2 (box_ne h1 h4 (by decide) (by decide)), Boxed.kp h5 q2 (box_ne h1 h5 (by decide) (by decide)), Boxed.kp h6 q2 (box_ne h1 h6 (by decide) (by decide))⟩
    · rintro b (rfl | e)
      · obtain ⟨cs, e⟩ := Has.cells h1; exact ⟨_, e, rfl⟩
      · obtain ⟨cs, e⟩ := Has.own h1 e.symm; exact ⟨_, e, rfl⟩
    · intro g e
      rcases q3 with q3 | q3
      · exact h2 g (by rw [← q3]; exact e)
      · have := q3 g e; have := h3.size; omega
    · refine h3.trans (q2.gr h3.size ?_)
      rintro b (rfl | e)
      · exact hh
      · exact h2 b e.symm
  case done =>
    clear N0
    rintro D W hD ⟨vh, h1, h2, h3, h4, h5, h6⟩ hK
    have cB := h4.cell
    have hl := Tk.list_has h1
    rw [List.take_of_length_le (by have := NH.out; omega)] at hl
    gi_wp2_with (refine ⟨trivial, ?_⟩; gi_at_call 58; refine (callsIn_wide.2 hl).mono ?_; rintro e w5 ⟨v', rfl, o1, o2, o3⟩)
    have hK' := gb_same o2 hK
    refine ⟨by simp, .inl ⟨_, _, rfl, run_takeDeferred hK', ?_⟩⟩
    exact ⟨v', by simp [results, Tryz.results30, go_sem], v', rfl, own_putObj o1 hK' rfl _, below_putObj (gb_trans' h3 o2 h3.size) (by omega) _, fun g e => by have := o3 g e; have := h3.size; omega⟩

set_option maxHeartbeats 1000000 in
theorem topk_c {w : World} {v u : Value} {rs : List Rw} {q : List Int} (hv : RdW w v rs) (hu : RdI w u q) (hwf : Wf rs) (k : Int) :
    Calls Tryz.prog 15 #[v, u, .int .i64 k] w fun e w' => ∃ v', e = .returned (.tuple #[v', .int .i64 (topE rs q k)]) ∧ Gb w w' ∧
      (topE rs q k ≠ 0 → v' = .slice none 0 0) ∧ (topE rs q k = 0 → OutH w w' v' (Tk.firsts k.toNat (hitsOf q rs))) := by
  have cb := begin_c hv hu hwf k
  have V : Hid (RdW w v rs) := hv
  have U : Hid (RdI w u q) := hu
  obtain ⟨av, cv, rfl, _⟩ := hv
  obtain ⟨au, cu, rfl, _⟩ := hu
  obtain ⟨n, hn⟩ : ∃ n, n = rs.length := ⟨_, rfl⟩
  obtain ⟨m, hm⟩ : ∃ m, m = q.length := ⟨_, rfl⟩
  rw [← hn] at V cb ⊢
  rw [← hm] at U cb ⊢
  clear hn hm
  by_cases hz : topE rs q k = 0
  · have hask := (topE_zero.1 hz).1
    have ZH : Hid (topE rs q k = 0) := hz
    rw [hz] at cb ⊢
    go_enter Tryz.func15, Tryz.ntmps15
    go_wp2_with fail
    refine cb.mono ?_
    rintro e w1 ⟨p, rfl, g1, _, hp⟩
    obtain ⟨hb, rfl, hhb, hH⟩ := hp ZH.out
    have cn := nearest_c hH hhb V.out U.out g1 hask
    clear cb hp
    go_wp2_with fail
    refine cn.mono ?_
    rintro e w2 ⟨v', rfl, o⟩
    clear cn
    go_wp2
    go_ret2
    exact ⟨_, rfl, o.2.1, fun e => absurd rfl e, fun _ => o⟩
  · have ZH : Hid (topE rs q k ≠ 0) := hz
    have hz' : (topE rs q k == 0) = false := by rw [beq_eq_false_iff_ne]; exact hz
    generalize topE rs q k = z at *
    go_enter Tryz.func15, Tryz.ntmps15
    go_wp2_with fail
    refine cb.mono ?_
    rintro e w1 ⟨p, rfl, g1, hp⟩
    clear cb hp
    go_wp2
    go_ret2
    exact ⟨_, rfl, g1, fun _ => rfl, fun e => absurd e ZH.out⟩
end Go.Proofs.YtdmdjmliggjbjaaGreat

/- flat.order, slices.SortFunc by it, Range. -/
namespace Go.Proofs.YtdmdjmliggjbjaaGreat
open Go.RowKit Go.Shelf Go.Sort Go.Lib
attribute [local go_sem] Oper.semAt_some

theorem cf_is (x y : Tk.Ht) : Tk.cf x y = if Tk.hlt x y = true then -1 else if Tk.hlt y x = true then 1 else 0 := by
  simp only [Tk.hlt_iff]
  unfold Tk.cf Tk.cor Tk.cw Tk.ci
  (repeat' split) <;> first | omega | rfl
end Go.Proofs.YtdmdjmliggjbjaaGreat

/- flat.Range. -/
namespace Go.Proofs.YtdmdjmliggjbjaaGreat
open Go.RowKit Go.Shelf Go.Sort Go.Lib
attribute [local go_sem] Oper.semAt_some

/-- Here a walk stands still. -/
def Stop (p : Prop) : Prop := p
theorem stop_at {p : Prop} (h : Stop p) : p := h

/-- Is a hit no farther than a radius? -/
def inRad (rh rl : Int) (x : Tk.Ht) : Bool := decide (Tk.cw x.2.1 x.2.2 rh rl ≤ 0)
def nearL (rh rl : Int) (q : List Int) (rs : List Rw) : List Tk.Ht := (hitsOf q rs).filter (inRad rh rl)
theorem nearL_snoc (rh rl : Int) (q : List Int) {rs : List Rw} {i : Nat} (h : i < rs.length) : nearL rh rl q (rs.take (i + 1)) = nearL rh rl q (rs.take i) ++ if inRad rh rl (hitOf q rs[i]!) = true then [hitOf q rs[i]!] else [] := by
  unfold nearL
  rw [hitsOf_snoc q h, List.filter_append]
  congr 1
  split
  · rename_i e; simp only [List.filter_cons, e, if_true, List.filter_nil]
  · rename_i e; simp only [List.filter_cons, e, List.filter_nil]; rfl
theorem nearL_len (rh rl : Int) (q : List Int) (rs : List Rw) : (nearL rh rl q rs).length ≤ rs.length := by
  unfold nearL; exact Nat.le_trans (List.length_filter_le _ _) (by rw [hitsOf_len]; exact Nat.le_refl _)

def RadBox (W : World) (p : Nat) (rh rl : Int) : Prop := W.heap[p]? = some (.cells #[.int .u64 rh, .int .u64 rl] 41 (0, 0))
theorem RadBox.cells {W : World} {p : Nat} {rh rl : Int} (h : RadBox W p rh rl) : W.cell? ⟨p, 0, none⟩ = some (.int .u64 rh) ∧ W.cell? ⟨p, 1, none⟩ = some (.int .u64 rl) := by
  have e : W.heap[p]? = _ := h
  refine ⟨?_, ?_⟩ <;> simp [World.cell?, e]
theorem RadBox.gb {W W' : World} {p : Nat} {rh rl : Int} (h : RadBox W p rh rl) (g : Gb W W') : RadBox W' p rh rl := gb_same g h
theorem ownFrom_rad {B p : Nat} {rh rl : Int} : OwnFrom B (fun (_ : Nat) W => RadBox W p rh rl) := fun j W W' row h hg hr => by
  have e : W.heap[p]? = _ := h
  refine (hg.block p (Array.getElem?_eq_some_iff.1 e).1 ?_).trans e
  intro e2
  obtain ⟨_, o, ho, hc⟩ := hr p e2.symm
  rw [e] at ho; injection ho with ho; subst ho; cases hc
theorem ownFrom_own {B : Nat} {v : Value} {d : Nat → Array Tk.Ht} : OwnFrom B (fun (j : Nat) W => Tk.Own W v (d j)) := fun j W W' row h hg hr => by
  refine Tk.own_kp h (Tk.Kp.grown hg) fun g hg' e => ?_
  rcases h.2 with ⟨rfl, _⟩ | ⟨g', cap', cur, rfl, _, hh, _⟩
  · cases hg'
  · simp only [Value.ownBlock, Option.some.injEq] at hg'
    subst hg'
    obtain ⟨_, o, ho, hc⟩ := hr _ e.symm
    rw [hh] at ho; injection ho with ho; subst ho; cases hc
theorem Boxed.gb {W W' : World} {B : Nat} {t : TypeId} {v : Value} (h : Boxed W B t v) (g : Gb W W') : Boxed W' B t v := gb_same g h
theorem own_type {W : World} {v : Value} {d : Array Tk.Ht} (h : Tk.Own W v d) {g : Nat} (hg : v.ownBlock = some g) : ∃ cs, W.heap[g]? = some (.cells cs 43 (0, 0)) := by
  rcases h.2 with ⟨rfl, _⟩ | ⟨g', cap', cur, rfl, _, hh, _⟩
  · cases hg
  · simp only [Value.ownBlock, Option.some.injEq] at hg
    exact ⟨cur, by rw [← hg]; exact hh⟩
theorem box_ne_own {W : World} {v : Value} {d : Array Tk.Ht} (h : Tk.Own W v d) {B : Nat} {cs : Array Value} {t : TypeId} (b : W.heap[B]? = some (.cells cs t (0, 0))) (h1 : t ≠ 43) : some B ≠ v.ownBlock := by
  intro e
  obtain ⟨cs', e3⟩ := own_type h e.symm
  rw [b] at e3; simp at e3; exact h1 e3.2

theorem own_slice {W : World} {v : Value} {d : Array Tk.Ht} (h : Tk.Own W v d) : ∃ a n c, v = .slice a n c := by
  rcases h.2 with ⟨rfl, _⟩ | ⟨g', cap', cur, rfl, _⟩
  · exact ⟨_, _, _, rfl⟩
  · exact ⟨_, _, _, rfl⟩
/-- Behind j rounds. -/
def RngAt (w0 : World) (Bn Bd Br Bq : Nat) (v u : Value) (rs : List Rw) (q : List Int) (rh rl : Int) (j : Nat) (W : World) : Prop :=
  ∃ vn, Boxed W Bn 24 vn ∧ Tk.Own W vn (nearL rh rl q (rs.take j)).toArray ∧ (∀ g, vn.ownBlock = some g → w0.heap.size ≤ g) ∧ Below w0.heap.size w0 W ∧ RadBox W Bd rh rl ∧ Boxed W Br 22 v ∧ Boxed W Bq 23 u
theorem ownFrom_rng {w0 : World} {B Bn Bd Br Bq : Nat} {v u : Value} {rs : List Rw} {q : List Int} {rh rl : Int} (hB : w0.heap.size ≤ B) : OwnFrom B (RngAt w0 Bn Bd Br Bq v u rs q rh rl) :=
  ownFrom_ex fun _ => ownFrom_box.and (ownFrom_own.and ((ownFrom_pure B _).and ((ownFrom_below (Nat.le_refl _) hB).and (ownFrom_rad.and (ownFrom_box.and ownFrom_box)))))

end Go.Proofs.YtdmdjmliggjbjaaGreat

/- flat.risingIds, somewhere. -/
namespace Go.Proofs.YtdmdjmliggjbjaaGreat
open Go.RowKit Go.Sort

/-- Behind some rounds: the list of the ids so far. -/
structure UpSt (w W : World) (v : Value) (l : List Int) : Prop where
  row : Own W w.heap.size v l
  gb : Gb w W
theorem UpSt.alloc {w W : World} {v : Value} {l : List Int} (h : UpSt w W v l) (o : Obj) : UpSt w (W.alloc o) v l :=
  ⟨World.ownsRow.alloc h.row o, gb_alloc h.gb o⟩
theorem UpSt.next {w W W2 : World} {v v' : Value} {l : List Int} {x : Int} (h : UpSt w W v l)
    (hr : W2.ownsRow w.heap.size 3 1 v' (l.length + 1) (l.map (Value.int .i64) ++ [.int .i64 x])) (hg2 : W.grownBy W2 v.ownBlock) : UpSt w W2 v' (l ++ [x]) := by
  refine ⟨?_, below_grown h.gb hg2 (fun k e => (World.ownsRow.lt h.row k e).1) h.gb.size⟩
  unfold Own
  rw [List.length_append, List.map_append]
  exact hr

/-- What is not looked at: nothing, or one region with all their ids. -/
def Rest (w w' : World) (v : Value) (rs : List Rw) : Prop := Gb w w' ∧ ((rs = [] ∧ v = .slice none 0 0) ∨ rs ≠ [] ∧ ∃ vi g, v = .slice (some ⟨g, 0, none⟩) 1 1 ∧ w.heap.size ≤ g ∧
  w'.heap[g]? = some (.cells #[.int .i64 1, .slice none 0 0, .slice none 0 0, .int .u64 0, .int .u64 0, vi] 48 (0, 0)) ∧ Own w' w.heap.size vi (srt (idsOf rs)))
end Go.Proofs.YtdmdjmliggjbjaaGreat
