import Derived.Test.YtepjbdklljlecaaGreatVa14
import Derived.Test.YtepjbdklljlecaaGreatVa17
import Derived.Test.YtepjbdklljlecaaGreatVa15
/- Parts of a vantage tree whose balls are raised, or whose halves are others. -/
namespace Go.Proofs.YtepjbdklljlecaaGreat
open Go.RowKit Go.Sort

theorem noF (W : World) : NoInt W (fun _ => False) := fun _ h => h.elim
theorem kpF {W W' : World} (g : Gb W W') : Tk.Kp (fun _ => False) W W' := Tk.Kp.of_gr g
theorem OwnRs.gb {Iq : Nat → Prop} {W W' : World} {v : Value} {d : List Rt} (h : OwnRs Iq W v d) (g : Gb W W') : OwnRs Iq W' v d := h.kp (kpF g) (noF _) (fun _ _ h => h)
theorem PcAt.gb {Iq : Nat → Prop} {W W' : World} {b : Nat} {p : Pt} {vl vh vr : Value} (h : PcAt Iq W b p vl vh vr) (g : Gb W W') : PcAt Iq W' b p vl vh vr := h.kp (kpF g) (noF _) (fun h => h)
theorem TrO.gb {Iq : Nat → Prop} {W W' : World} {T : Nat → Pt} {n b : Nat} {F : List Nat} (h : TrO Iq W T n b F) (g : Gb W W') : TrO Iq W' T n b F := TrO.kp (kpF g) (noF _) _ _ _ h (fun _ _ h => h)
theorem OwnRs.noint {Iq : Nat → Prop} {W : World} {v : Value} {d : List Rt} (h : OwnRs Iq W v d) : NoInt W (fun b => v.ownBlock = some b) := by
  intro k e cur s hc
  rcases h.row.2 with ⟨rfl, _⟩ | ⟨g, cap, cur', rfl, _, hh, _⟩
  · cases e
  · cases e
    rw [hh] at hc
    simp at hc
theorem TrO.noint {Iq : Nat → Prop} {w : World} {T : Nat → Pt} : ∀ {n b : Nat} {F : List Nat}, TrO Iq w T n b F → NoInt w (fun k => k ∈ F)
  | 0, _, _, h => h.elim
  | n + 1, b, F, h => by
    obtain ⟨vl, vh, vr, hp, h⟩ := h
    have hb : ∀ cur s, w.heap[b]? ≠ some (.cells cur 3 s) := fun cur s e => by rw [hp.blk] at e; simp at e
    cases hk : (T b).kids with
    | none =>
      rw [hk] at h
      obtain ⟨d, g, h1, h2, h3, rfl⟩ := h
      intro k hm cur s e
      simp only [List.mem_cons, List.not_mem_nil, or_false] at hm
      rcases hm with rfl | rfl
      · exact hb _ _ e
      · exact h1.noint _ h3 _ _ e
    | some lh =>
      obtain ⟨l, hh⟩ := lh
      rw [hk] at h
      obtain ⟨_, F1, F2, h1, h2, rfl⟩ := h
      have a1 := TrO.noint h1
      have a2 := TrO.noint h2
      intro k hm cur s e
      simp only [List.mem_cons, List.mem_append] at hm
      rcases hm with rfl | hm | hm
      · exact hb _ _ e
      · exact a1 _ hm _ _ e
      · exact a2 _ hm _ _ e
/-- A part that is cut, out of what lies in its block and two lesser ones. -/
theorem node_re {Iq : Nat → Prop} {W : World} {m b b1 b2 n1 n2 : Nat} {T1 T2 : Nat → Pt} {F1 F2 : List Nat} {q : Pt} {vl vh : Value} (hp : PcAt Iq W b q vl vh (.slice none 0 0)) (hq : q.kids = some (b1, b2))
    (t1 : TrO Iq W T1 (n1 + 1) b1 F1) (k1 : OkP T1 m n1 (T1 b1)) (t2 : TrO Iq W T2 (n2 + 1) b2 F2) (k2 : OkP T2 m n2 (T2 b2)) (bx : BoxOk m q (rowsP T1 n1 (T1 b1) ++ rowsP T2 n2 (T2 b2)))
    (a1 : ∀ r ∈ rowsP T1 n1 (T1 b1), isAb q r = true) (a2 : ∀ r ∈ rowsP T2 n2 (T2 b2), isAb q r = false) (hnd : (b :: (F1 ++ F2)).Nodup) :
    ∃ T n, TrO Iq W T (n + 1) b (b :: (F1 ++ F2)) ∧ OkP T m n (T b) ∧ rowsP T n (T b) = rowsP T1 n1 (T1 b1) ++ rowsP T2 n2 (T2 b2) := by
  obtain ⟨M, hM⟩ : ∃ M, M = (rowsP T1 n1 (T1 b1)).length + (rowsP T2 n2 (T2 b2)).length := ⟨_, rfl⟩
  obtain ⟨x1, x2, x3⟩ := TrO.any _ _ _ t1 k1 M (by omega)
  obtain ⟨y1, y2, y3⟩ := TrO.any _ _ _ t2 k2 M (by omega)
  rw [List.nodup_cons, List.nodup_append] at hnd
  obtain ⟨d1, _, _, d2⟩ := hnd
  generalize hT : (fun k => if k = b then q else if k ∈ F1 then T1 k else T2 k) = T
  have e0 : T b = q := by rw [← hT]; simp
  have e1 : ∀ x ∈ F1, T x = T1 x := fun x hx => by
    rw [← hT]
    simp only
    rw [if_neg (fun e => d1 (by rw [← e]; exact List.mem_append_left _ hx)), if_pos hx]
  have e2 : ∀ x ∈ F2, T x = T2 x := fun x hx => by
    rw [← hT]
    simp only
    rw [if_neg (fun e => d1 (by rw [← e]; exact List.mem_append_right _ hx)), if_neg (fun e => d2 x e x hx rfl)]
  obtain ⟨p1, p2⟩ := TrO.congr _ _ _ x1 e1
  obtain ⟨q1, q2⟩ := TrO.congr _ _ _ y1 e2
  obtain ⟨r1, r2⟩ := p2 M (by omega) m
  obtain ⟨u1, u2⟩ := q2 M (by omega) m
  have hk : (T b).kids = some (b1, b2) := by rw [e0]; exact hq
  refine ⟨T, M + 1, ⟨vl, vh, .slice none 0 0, by rw [e0]; exact hp, ?_⟩, ?_, ?_⟩
  · rw [hk]; exact ⟨rfl, F1, F2, p1, q1, rfl⟩
  · rw [OkP, hk]
    dsimp only
    rw [r1, u1, x3, y3, e0]
    exact ⟨r2.2 x2, u2.2 y2, bx, a1, a2⟩
  · rw [rowsP_node hk, r1, u1, x3, y3]

/-- A part whose ball reaches as far as D. -/
def rsd (p : Pt) (D : Nat) : Pt := ⟨⟨3, p.reg.L, [], max p.reg.R D, []⟩, p.rs, p.cut, p.kids⟩
theorem rsd_no {p : Pt} {D : Nat} (hb : p.reg = ⟨3, p.reg.L, [], p.reg.R, []⟩) (h : D ≤ p.reg.R) : rsd p D = p := by
  obtain ⟨⟨S, L, H, R, I⟩, rs, ct, kd⟩ := p
  simp only [Reg.mk.injEq] at hb
  obtain ⟨rfl, _, rfl, _, rfl⟩ := hb
  unfold rsd
  dsimp only at h ⊢
  rw [Nat.max_eq_left h]
theorem boxok_rsd {m : Nat} {p : Pt} {rs : List Rw} {D : Nat} (hb : p.reg = ⟨3, p.reg.L, [], p.reg.R, []⟩) (h : BoxOk m p rs) : BoxOk m (rsd p D) rs := by
  obtain ⟨⟨S, L, H, R, I⟩, rs0, ct, kd⟩ := p
  simp only [Reg.mk.injEq] at hb
  obtain ⟨rfl, _, rfl, _, rfl⟩ := hb
  refine ⟨?_, fun r hr => ⟨(h.2 r hr).1, ?_⟩⟩
  · have h1 := h.1
    simp only [ckR, uses] at h1
    simp only [pr, rsd, ckR, uses]
    exact h1
  · have h1 := (h.2 r hr).2
    simp only [inV] at h1
    simp only [pr, rsd, inV]
    simp at h1 ⊢
    exact decide_eq_true (by omega)
theorem boxok_add {m : Nat} {p : Pt} {rs : List Rw} {D : Nat} {x : Rw} (hb : p.reg = ⟨3, p.reg.L, [], p.reg.R, []⟩) (h : BoxOk m p rs) (hc : chk x.2 (m : Int) = 0) (hd : dst p.reg.L x.2 ≤ D) : BoxOk m (rsd p D) (x :: rs) := by
  have h1 := boxok_rsd (D := D) hb h
  refine ⟨h1.1, fun r hr => ?_⟩
  rcases List.mem_cons.1 hr with rfl | hr
  · refine ⟨hc, ?_⟩
    simp only [pr, rsd, inV]
    simp
    exact decide_eq_true (by omega)
  · exact h1.2 r hr
/-- In the block: the radius alone is another. -/
theorem pcat_rsd {Iq : Nat → Prop} {w : World} {b D : Nat} {p : Pt} {vl vh vr : Value} (h : PcAt Iq w b p vl vh vr) (hD : p.reg.R < D) (hl : D < 340282366920938463463374607431768211456) :
    PcAt Iq ((w.setCell ⟨b, 3, none⟩ (.int .u64 (hi D))).setCell ⟨b, 4, none⟩ (.int .u64 (lo D))) b (rsd p D) vl vh vr := by
  have kb : Tk.Kp (fun k => k = b) w ((w.setCell ⟨b, 3, none⟩ (.int .u64 (hi D))).setCell ⟨b, 4, none⟩ (.int .u64 (lo D))) := ((Tk.Kp.refl (fun k => k = b) w).setCell (.inl rfl) _).setCell (.inl rfl) _
  have nb : NoInt w (fun k => k = b) := fun k e cur s hc => by subst e; rw [h.blk] at hc; simp at hc
  have e : max p.reg.R D = D := Nat.max_eq_right (by omega)
  refine ⟨?_, ownq_noint h.low kb nb, ownq_noint h.high kb nb, ⟨rfl, ?_⟩, h.up.le kb.size⟩
  · simp [World.setCell, Array.getElem?_modify, h.blk, rsd, e]
  · show max p.reg.R D < _
    omega
/-- What is wanted of a tree that takes part p's place, for the whole to have one row more. -/
def Fil (Iq : Nat → Prop) (m : Nat) (x : Rw) (sb : Nat) (w0 : World) (b0 : Nat) (F0 : List Nat) (R0 : List Rw) (wr : World) (p : Nat) (Fp : List Nat) (Rp : List Rw) : Prop :=
  ∀ W T2 F2 n2, Tk.Kp (fun k => k ∈ Fp ∨ k = sb) wr W → TrO Iq W T2 (n2 + 1) p F2 → OkP T2 m n2 (T2 p) → (rowsP T2 n2 (T2 p)).Perm (x :: Rp) → F2.Nodup → (∀ y ∈ F2, y ∈ Fp ∨ wr.heap.size ≤ y) →
    ∃ T3 F3 n3, TrO Iq W T3 (n3 + 1) b0 F3 ∧ OkP T3 m n3 (T3 b0) ∧ (rowsP T3 n3 (T3 b0)).Perm (x :: R0) ∧ F3.Nodup ∧ ∀ y ∈ F3, y ∈ F0 ∨ w0.heap.size ≤ y
theorem fil_start (Iq : Nat → Prop) (m : Nat) (x : Rw) (sb : Nat) (w0 : World) (b0 : Nat) (F0 : List Nat) (R0 : List Rw) : Fil Iq m x sb w0 b0 F0 R0 w0 b0 F0 R0 :=
  fun _ T2 F2 n2 _ t ok pm nd l => ⟨T2, F2, n2, t, ok, pm, nd, l⟩
theorem fil_kp {Iq : Nat → Prop} {m : Nat} {x : Rw} {sb : Nat} {w0 : World} {b0 : Nat} {F0 : List Nat} {R0 : List Rw} {wr wr2 : World} {p : Nat} {Fp : List Nat} {Rp : List Rw} (h : Fil Iq m x sb w0 b0 F0 R0 wr p Fp Rp) (k : Tk.Kp (fun k => k ∈ Fp ∨ k = sb) wr wr2) : Fil Iq m x sb w0 b0 F0 R0 wr2 p Fp Rp :=
  fun W T2 F2 n2 kW t ok pm nd l => h W T2 F2 n2 (k.trans kW) t ok pm nd (fun y hy => (l y hy).imp id (fun e => Nat.le_trans k.size e))
/-- One part further down. -/
theorem fil_kid {Iq : Nat → Prop} {m : Nat} {x : Rw} {sb : Nat} {w0 : World} {b0 : Nat} {F0 : List Nat} {R0 : List Rw} {wr wr2 : World} {b l h n D : Nat} {F F1 F2 : List Nat} {T : Nat → Pt} {vl vh : Value}
    (hf : Fil Iq m x sb w0 b0 F0 R0 wr b F (rowsP T (n + 1) (T b))) (hk : (T b).kids = some (l, h)) (t1 : TrO Iq wr T (n + 1) l F1) (t2 : TrO Iq wr T (n + 1) h F2) (eF : F = b :: (F1 ++ F2)) (hnd : F.Nodup) (ok : OkP T m (n + 1) (T b)) (hsb : sb ∉ F) (hS : SrcAt wr sb) (hbl : (T b).reg = ⟨3, (T b).reg.L, [], (T b).reg.R, []⟩)
    (hp : PcAt Iq wr2 b (rsd (T b) D) vl vh (.slice none 0 0)) (k : Tk.Kp (fun k => k = b) wr wr2) (nb : NoInt wr (fun k => k = b)) (hc : chk x.2 (m : Int) = 0) (hD : dst (T b).reg.L x.2 ≤ D) :
    (isAb (T b) x = true → Fil Iq m x sb w0 b0 F0 R0 wr2 l F1 (rowsP T n (T l)) ∧ TrO Iq wr2 T (n + 1) l F1) ∧ (isAb (T b) x = false → Fil Iq m x sb w0 b0 F0 R0 wr2 h F2 (rowsP T n (T h)) ∧ TrO Iq wr2 T (n + 1) h F2) := by
  subst eF
  obtain ⟨n', e', o1, o2, o3, o4, o5⟩ := okP_node hk ok
  have e'' : n' = n := by omega
  subst e''
  have hnd2 := hnd
  rw [List.nodup_cons, List.nodup_append] at hnd2
  obtain ⟨hbn, nd1, nd2, dj⟩ := hnd2
  have b1 : b ∉ F1 := fun e => hbn (List.mem_append_left _ e)
  have b2 : b ∉ F2 := fun e => hbn (List.mem_append_right _ e)
  have bs : b ≠ sb := fun e => hsb (by rw [← e]; simp)
  have s1 : sb ∉ F1 := fun e => hsb (by simp [e])
  have s2 : sb ∉ F2 := fun e => hsb (by simp [e])
  have t1' : TrO Iq wr2 T (n' + 1) l F1 := TrO.kp k nb _ _ _ t1 (fun y hy e => b1 (by rw [← e]; exact hy))
  have t2' : TrO Iq wr2 T (n' + 1) h F2 := TrO.kp k nb _ _ _ t2 (fun y hy e => b2 (by rw [← e]; exact hy))
  have hS2 : SrcAt wr2 sb := by
    obtain ⟨y, hy, hx⟩ := hS
    exact ⟨y, hy, (k.block sb hx.lt (fun e => bs e.symm)).trans hx⟩
  have hkr : (rsd (T b) D).kids = some (l, h) := hk
  have kS : ∀ (G : List Nat) (W : World), (∀ y ∈ G, y ∈ b :: (F1 ++ F2)) → Tk.Kp (fun k => k ∈ G ∨ k = sb) wr2 W → Tk.Kp (fun k => k ∈ b :: (F1 ++ F2) ∨ k = sb) wr W := fun G W hG kW =>
    (k.mono (fun y _ e => .inl (by rw [e]; simp))).trans (kW.mono (fun y _ e => e.imp (hG y) id))
  have box := boxok_add hbl o3 hc hD
  constructor
  · intro hab
    refine ⟨fun W T2 G n2 kW tr okG pm nd l2 => ?_, t1'⟩
    have ni : NoInt wr2 (fun k => k ∈ F1 ∨ k = sb) := fun y hy cur s => hy.elim (fun e => t1'.noint y e cur s) (fun e => hS2.noint y e cur s)
    have hpW := hp.kp kW ni (fun e => e.elim b1 bs)
    have t2W := TrO.kp kW ni _ _ _ t2' (fun y hy e => e.elim (fun e => dj y e y hy rfl) (fun e => s2 (by rw [← e]; exact hy)))
    have lt2 := t2'.mem.2
    have hbs := (Array.getElem?_eq_some_iff.1 hp.blk).1
    have ndG : (b :: (G ++ F2)).Nodup := by
      rw [List.nodup_cons, List.nodup_append]
      refine ⟨fun e => ?_, nd, nd2, fun a ha c hc e => ?_⟩
      · rcases List.mem_append.1 e with e | e
        · rcases l2 b e with e | e
          · exact b1 e
          · omega
        · exact b2 e
      · subst e
        rcases l2 a ha with e | e
        · exact dj a e a hc rfl
        · have := lt2 a hc; omega
    obtain ⟨T', n3, r1, r2, r3⟩ := node_re hpW hkr tr okG t2W o2 (box.sub (fun r hr => by
      rcases List.mem_append.1 hr with hr | hr
      · rcases List.mem_cons.1 (pm.mem_iff.1 hr) with rfl | hr
        · exact List.mem_cons_self
        · exact List.mem_cons_of_mem _ (List.mem_append_left _ hr)
      · exact List.mem_cons_of_mem _ (List.mem_append_right _ hr))) (fun r hr => by
      rcases List.mem_cons.1 (pm.mem_iff.1 hr) with rfl | hr
      · exact hab
      · exact o4 r hr) (fun r hr => o5 r hr) ndG
    refine hf W T' _ n3 (kS F1 W (fun y hy => by simp [hy]) kW) r1 r2 ?_ ndG (fun y hy => ?_)
    · rw [r3, rowsP_node hk]
      exact (pm.append_right _)
    · rcases List.mem_cons.1 hy with rfl | hy
      · exact .inl (by simp)
      · rcases List.mem_append.1 hy with hy | hy
        · exact (l2 y hy).imp (fun e => by simp [e]) (fun e => Nat.le_trans k.size e)
        · exact .inl (by simp [hy])
  · intro hab
    refine ⟨fun W T2 G n2 kW tr okG pm nd l2 => ?_, t2'⟩
    have ni : NoInt wr2 (fun k => k ∈ F2 ∨ k = sb) := fun y hy cur s => hy.elim (fun e => t2'.noint y e cur s) (fun e => hS2.noint y e cur s)
    have hpW := hp.kp kW ni (fun e => e.elim b2 bs)
    have t1W := TrO.kp kW ni _ _ _ t1' (fun y hy e => e.elim (fun e => dj y hy y e rfl) (fun e => s1 (by rw [← e]; exact hy)))
    have lt1 := t1'.mem.2
    have hbs := (Array.getElem?_eq_some_iff.1 hp.blk).1
    have ndG : (b :: (F1 ++ G)).Nodup := by
      rw [List.nodup_cons, List.nodup_append]
      refine ⟨fun e => ?_, nd1, nd, fun a ha c hc e => ?_⟩
      · rcases List.mem_append.1 e with e | e
        · exact b1 e
        · rcases l2 b e with e | e
          · exact b2 e
          · omega
      · subst e
        rcases l2 a hc with e | e
        · exact dj a ha a e rfl
        · have := lt1 a ha; omega
    obtain ⟨T', n3, r1, r2, r3⟩ := node_re hpW hkr t1W o1 tr okG (box.sub (fun r hr => by
      rcases List.mem_append.1 hr with hr | hr
      · exact List.mem_cons_of_mem _ (List.mem_append_left _ hr)
      · rcases List.mem_cons.1 (pm.mem_iff.1 hr) with rfl | hr
        · exact List.mem_cons_self
        · exact List.mem_cons_of_mem _ (List.mem_append_right _ hr))) (fun r hr => o4 r hr) (fun r hr => by
      rcases List.mem_cons.1 (pm.mem_iff.1 hr) with rfl | hr
      · exact hab
      · exact o5 r hr) ndG
    refine hf W T' _ n3 (kS F2 W (fun y hy => by simp [hy]) kW) r1 r2 ?_ ndG (fun y hy => ?_)
    · rw [r3, rowsP_node hk]
      exact (pm.append_left _).trans List.perm_middle
    · rcases List.mem_cons.1 hy with rfl | hy
      · exact .inl (by simp)
      · rcases List.mem_append.1 hy with hy | hy
        · exact .inl (by simp [hy])
        · exact (l2 y hy).imp (fun e => by simp [e]) (fun e => Nat.le_trans k.size e)
/-- What lies in the block b2 as well as in b: the tree there. -/
theorem TrO.move {Iq : Nat → Prop} {W : World} {T : Nat → Pt} {n b b2 m : Nat} {F : List Nat} (h : TrO Iq W T (n + 1) b F) (ok : OkP T m n (T b)) (hb : W.heap[b2]? = W.heap[b]?) (hn : b2 ∉ F) (hnd : F.Nodup) :
    ∃ T2 F2, TrO Iq W T2 (n + 1) b2 F2 ∧ OkP T2 m n (T2 b2) ∧ rowsP T2 n (T2 b2) = rowsP T n (T b) ∧ F2.Nodup ∧ ∀ y ∈ F2, y = b2 ∨ y ∈ F := by
  have hbF := h.mem.1
  obtain ⟨vl, vh, vr, hp, h⟩ := h
  generalize hT : (fun k => if k = b2 then T b else T k) = T2
  have e0 : T2 b2 = T b := by rw [← hT]; simp
  have eT : ∀ x ∈ F, T2 x = T x := fun x hx => by
    rw [← hT]
    simp only
    rw [if_neg (fun e => hn (by rw [← e]; exact hx))]
  have hp2 : PcAt Iq W b2 (T2 b2) vl vh vr := ⟨by rw [hb, e0]; exact hp.blk, by rw [e0]; exact hp.low, hp.high, by rw [e0]; exact hp.ball, hp.up⟩
  cases hk : (T b).kids with
  | none =>
    rw [hk] at h
    obtain ⟨d, g, h1, h2, h3, rfl⟩ := h
    refine ⟨T2, [b2, g], ⟨vl, vh, vr, hp2, ?_⟩, ?_, ?_, ?_, ?_⟩
    · rw [e0, hk]; exact ⟨d, g, h1, h2, h3, rfl⟩
    · rw [e0]
      exact (okP_leaf hk _).2 ((okP_leaf hk _).1 ok)
    · rw [e0, rowsP_leaf hk, rowsP_leaf hk]
    · simp at hn ⊢; omega
    · intro y hy
      simp at hy ⊢
      omega
  | some lh =>
    obtain ⟨l, hh⟩ := lh
    rw [hk] at h
    obtain ⟨h0, F1, F2, h1, h2, rfl⟩ := h
    obtain ⟨n', e', o1, o2, o3, o4, o5⟩ := okP_node hk ok
    subst e'
    obtain ⟨p1, p2⟩ := TrO.congr _ _ _ h1 (fun x hx => eT x (by simp [hx]))
    obtain ⟨q1, q2⟩ := TrO.congr _ _ _ h2 (fun x hx => eT x (by simp [hx]))
    obtain ⟨r1, r2⟩ := p2 n' (by omega) m
    obtain ⟨u1, u2⟩ := q2 n' (by omega) m
    have hk2 : (T2 b2).kids = some (l, hh) := by rw [e0]; exact hk
    refine ⟨T2, b2 :: (F1 ++ F2), ⟨vl, vh, vr, hp2, ?_⟩, ?_, ?_, ?_, ?_⟩
    · rw [hk2]; exact ⟨h0, F1, F2, p1, q1, rfl⟩
    · rw [OkP, hk2]
      dsimp only
      rw [r1, u1, e0]
      exact ⟨r2.2 o1, u2.2 o2, o3, o4, o5⟩
    · rw [rowsP_node hk2, rowsP_node hk, r1, u1]
    · rw [List.nodup_cons] at hnd ⊢
      exact ⟨fun e => hn (List.mem_cons_of_mem _ e), hnd.2⟩
    · intro y hy
      rcases List.mem_cons.1 hy with e | hy
      · exact .inl e
      · exact .inr (List.mem_cons_of_mem _ hy)
end Go.Proofs.YtepjbdklljlecaaGreat

/- (*vptree.Tree).without: what it tells; at parts that are not cut. -/
namespace Go.Proofs.YtepjbdklljlecaaGreat
open Go.RowKit Go.Sort

theorem own_one {w : World} {B : Nat} {u : Value} {l : List Int} (h : Own w B u l) : u.oneCell' = true := by
  obtain ⟨a, c, rfl, _⟩ := h.rd; rfl
theorem erase_filter {d : List Rt} {i : Nat} (hi : i < d.length) (hnd : (d.map (·.1)).Pairwise (· ≠ ·)) : (d.eraseIdx i).map rwR = (d.map rwR).filter fun y => !decide (y.1 = d[i].1) := by
  have hne : ∀ (l : List Rt), (∀ y ∈ l, y.1 ≠ d[i].1) → (l.map rwR).filter (fun y => !decide (y.1 = d[i].1)) = l.map rwR := fun l h => by
    rw [List.filter_eq_self]
    intro r hr
    obtain ⟨y, hy, rfl⟩ := List.mem_map.1 hr
    simp [h y hy]
  have e : d = d.take i ++ d[i] :: d.drop (i + 1) := by
    rw [List.getElem_cons_drop, List.take_append_drop]
  rw [List.pairwise_iff_getElem] at hnd
  have hh : ∀ t (h : t < d.length), t ≠ i → d[t].1 ≠ d[i].1 := fun t h hti => by
    rcases Nat.lt_or_gt_of_ne hti with c | c
    · have := hnd t i (by simpa using h) (by simpa using hi) c; simpa using this
    · have := hnd i t (by simpa using hi) (by simpa using h) c; simp only [List.getElem_map] at this; exact fun e => this e.symm
  have h1 : (d.map rwR).filter (fun y => !decide (y.1 = d[i].1)) = ((d.take i ++ d[i] :: d.drop (i + 1)).map rwR).filter (fun y => !decide (y.1 = d[i].1)) := by rw [← e]
  rw [h1, List.map_append, List.filter_append, List.map_cons, List.filter_cons_of_neg (by simp), hne _ (fun y hy => ?_), hne _ (fun y hy => ?_), ← List.map_append, List.eraseIdx_eq_take_drop_succ]
  · obtain ⟨t, ht, rfl⟩ := List.getElem_of_mem hy
    rw [List.length_drop] at ht
    rw [List.getElem_drop]
    exact hh _ (by omega) (by omega)
  · obtain ⟨t, ht, rfl⟩ := List.getElem_of_mem hy
    rw [List.length_take] at ht
    rw [List.getElem_take]
    exact hh t (by omega) (by omega)
theorem kp_src {S : Nat → Prop} {w w' : World} {sb : Nat} (h : SrcAt w sb) (k : Tk.Kp S w w') (hn : ¬ S sb) : SrcAt w' sb := by
  obtain ⟨y, hy, hx⟩ := h
  exact ⟨y, hy, (k.block sb hx.lt hn).trans hx⟩
/-- What without tells: nothing of no rows; else a tree of them, in the blocks that there were, or new ones. -/
def RmOut (Iq : Nat → Prop) (w : World) (sb m : Nat) (F : List Nat) (R : List Rw) (e : Ending) (w' : World) : Prop :=
  Tk.Kp (fun k => k ∈ F ∨ k = sb) w w' ∧ SrcAt w' sb ∧ (R = [] → e = .returned (.pointer none)) ∧
  (R ≠ [] → ∃ b T F' n, e = .returned (.pointer (some ⟨b, 0, none⟩)) ∧ TrO Iq w' T (n + 1) b F' ∧ OkP T m n (T b) ∧ (rowsP T n (T b)).Perm R ∧ F'.Nodup ∧ ∀ y ∈ F', y ∈ F ∨ w.heap.size ≤ y)
theorem rm_parts {Iq : Nat → Prop} {w W W' : World} {sb m : Nat} {F : List Nat} {d : List Rt} {e : Ending} (k : Tk.Kp (fun b => b ∈ F ∨ b = sb) w W) (hS : SrcAt W sb) (h : CutOut Iq W sb m d e W') : RmOut Iq w sb m F (d.map rwR) e W' ∧ ∃ pv, e = .returned (.pointer pv) := by
  obtain ⟨h1, h2⟩ := h
  by_cases hd : d = []
  · obtain ⟨e1, g⟩ := h1 hd
    refine ⟨⟨k.trans (Tk.Kp.of_gr g), hS.gb g, fun _ => e1, fun hne => absurd (by rw [hd]; rfl) hne⟩, _, e1⟩
  · obtain ⟨⟨b, T, F', e1, t, nd, l⟩, h5, h6⟩ := h2 hd
    obtain ⟨t1, t2, t3⟩ := t d.length (Nat.le_refl _)
    refine ⟨⟨k.trans (h6.mono (fun y _ e => .inr e)), h5, fun he => absurd (List.map_eq_nil_iff.1 he) hd, fun _ => ⟨b, T, F', d.length, e1, t1, t2, t3, nd, fun y hy => .inr ?_⟩⟩, _, e1⟩
    have := l y hy
    have := k.size
    omega

set_option maxHeartbeats 1000000 in
set_option maxRecDepth 100000 in
theorem wo_leaf {Iq : Nat → Prop} {m leaf tb sb : Nat} (hm : 1 ≤ m ∧ m ≤ 64) (hlf : 1 ≤ leaf ∧ leaf ≤ 64) {x : Rt} {w : World} {b n : Nat} {F : List Nat} {T : Nat → Pt} (ht : TrO Iq w T (n + 1) b F) (hk : (T b).kids = none)
    (c1 : w.cell? ⟨tb, 1, none⟩ = some (.int .i64 (leaf : Int))) (c2 : w.cell? ⟨tb, 2, none⟩ = some (.pointer (some ⟨sb, 0, none⟩))) (hS : SrcAt w sb) (htb : tb ∉ F) (hsb : sb ∉ F) (hv : OwnQ Iq w x.2.1 x.2.2) (hx : rwR x ∈ (T b).rs) (h1 : RowsOk (T b).rs (m : Int)) :
    Calls Tryz.prog 85 #[.pointer (some ⟨tb, 0, none⟩), .pointer (some ⟨b, 0, none⟩), .agg #[.int .i64 x.1, x.2.1]] w fun e w' => RmOut Iq w sb m F (aft false (rwR x) (T b).rs) e w' := by
  obtain ⟨vl, vh, vr, hp, ht⟩ := ht
  rw [hk] at ht
  obtain ⟨d, g, hd, hdm, hvr, rfl⟩ := ht
  rw [← hdm] at hx h1 ⊢
  obtain ⟨y, hy, ey⟩ := List.mem_map.1 hx
  obtain ⟨i, hi, rfl⟩ := List.getElem_of_mem hy
  have eid : d[i].1 = x.1 := (Prod.mk.inj ey).1
  have hnd : (d.map (·.1)).Pairwise (· ≠ ·) := by
    have := h1.ids
    unfold idsOf at this
    rw [List.map_map] at this
    exact this
  have hn := h1.few
  rw [List.length_map] at hn
  obtain ⟨cap, evr, hle⟩ : ∃ cap, vr = .slice (some ⟨g, 0, none⟩) d.length cap ∧ d.length ≤ cap := by
    rcases hd.row.2 with ⟨rfl, _⟩ | ⟨g', cap', cur, rfl, _, _, hle, _⟩
    · cases hvr
    · cases hvr
      exact ⟨_, rfl, hle⟩
  subst evr
  obtain ⟨xi, u, xl⟩ := x
  obtain ⟨ua, uc, eu, _⟩ := hv.rd
  dsimp only at eu eid
  subst eu
  have gA : Gb w (w.alloc (.cells #[.int .i64 xi, .slice ua xl.length uc] 43)) := gb_alloc (Below.refl _ _) _
  have cI := isCut_c (hp.gb gA)
  rw [hk] at cI
  have c6 := cell_cur (i := 6) (hp.gb gA).blk rfl
  have gl := (hd.row.lt g rfl).2
  have cD := delf_c (cb := w.heap.size) (cap := cap) ((rwAt_own hd.row).1.gb gA) (fun y hy => own_one (hd.vec y hy).own) (by omega) hle (by omega) xi (by simp [go_sem]) hi eid hnd
  have eaft : (d.eraseIdx i).map rwR = aft false (xi, xl) (d.map rwR) := by
    unfold aft
    rw [if_neg (by decide), erase_filter hi hnd, eid]
  have tl : tb ≠ g := fun e => htb (by rw [e]; simp)
  have sg : ¬ sb = g := fun e => hsb (by rw [e]; simp)
  have PX : Hid (∀ e W', DelOut (w.alloc (.cells #[.int .i64 xi, .slice ua xl.length uc] 43)) g d.length cap i d e W' → e = .returned (.slice (some ⟨g, 0, none⟩) (d.length - 1) cap) ∧ Calls Tryz.prog 59 #[.pointer (some ⟨tb, 0, none⟩), .slice (some ⟨g, 0, none⟩) (d.length - 1) cap] W' fun e w' => RmOut Iq w sb m [b, g] (aft false (xi, xl) (d.map rwR)) e w' ∧ ∃ pv, e = .returned (.pointer pv)) := by
    rintro e W' ⟨rfl, hR, hK⟩
    refine ⟨rfl, ?_⟩
    have el : (d.eraseIdx i).length = d.length - 1 := List.length_eraseIdx_of_lt hi
    have ni : NoInt (w.alloc (.cells #[.int .i64 xi, .slice ua xl.length uc] 43)) (fun k => k = g) := fun k e cur s hc => (hd.gb gA).noint k (by rw [e]; rfl) cur s hc
    have hS' : SrcAt W' sb := kp_src (hS.gb gA) hK sg
    have hI : CutIn Iq W' m (d.eraseIdx i) := ⟨fun y hy => ownq_noint (((hd.gb gA)).vec y (List.mem_of_mem_eraseIdx hy)) hK ni, h1.sub ((List.eraseIdx_sublist _ _).map _), (hp.up.gb gA).le hK.size⟩
    have cP := partsOf_c hm ⟨hlf.1, by omega⟩ (d.eraseIdx i) (cap := cap) hR hI (by omega) (kp_cell hK (gb_keeps gA c1) tl) (kp_cell hK (gb_keeps gA c2) tl) hS'
    rw [el] at cP
    rw [← eaft]
    refine cP.mono ?_
    intro e w' h
    refine rm_parts ((Tk.Kp.of_gr gA).trans (hK.mono ?_)) hS' h
    intro k _ e
    exact .inl (by rw [e]; simp)
  clear hp hd hdm h1 gA hk hvr htb hsb hS hx hy ey eid hnd hn hle eaft c1 c2 hi gl tl sg hv hlf hm
  generalize aft false (xi, xl) (d.map rwR) = R at *
  generalize d.length - 1 = nd' at *
  generalize d.length = nd at *
  generalize xl.length = nx at *
  go_enter Tryz.func85, Tryz.ntmps85
  go_wp2_with fail
  go_fit cI
  rintro e w1 ⟨rfl, rfl⟩
  go_wp2_with fail
  go_fit cD
  intro e w2 hO
  obtain ⟨rfl, cP⟩ := PX.out _ _ hO
  clear hO cD PX cI c6
  go_wp2_with fail
  go_fit cP
  rintro e w3 ⟨hO, pv, rfl⟩
  have H : Hid _ := hO
  clear hO cP
  go_wp2
  go_ret
  exact H.out
/-- What the change of the near half leaves: the other half alone, or both. -/
def Alt_near (Iq : Nat → Prop) (w w2 : World) (sb m b h : Nat) (F : List Nat) (R : List Rw) (pv : Option Addr) : Prop :=
  (pv = none ∧ (w2.setCell ⟨b, 10, none⟩ (.pointer none)).cell? ⟨b, 10, none⟩ = some (.pointer none) ∧ (w2.setCell ⟨b, 10, none⟩ (.pointer none)).cell? ⟨b, 11, none⟩ = some (.pointer (some ⟨h, 0, none⟩)) ∧ RmOut Iq w sb m F R (.returned (.pointer (some ⟨h, 0, none⟩))) (w2.setCell ⟨b, 10, none⟩ (.pointer none))) ∨
  ∃ b', pv = some ⟨b', 0, none⟩ ∧ (w2.setCell ⟨b, 10, none⟩ (.pointer (some ⟨b', 0, none⟩))).cell? ⟨b, 10, none⟩ = some (.pointer (some ⟨b', 0, none⟩)) ∧ (w2.setCell ⟨b, 10, none⟩ (.pointer (some ⟨b', 0, none⟩))).cell? ⟨b, 11, none⟩ = some (.pointer (some ⟨h, 0, none⟩)) ∧ RmOut Iq w sb m F R (.returned (.pointer (some ⟨b, 0, none⟩))) (w2.setCell ⟨b, 10, none⟩ (.pointer (some ⟨b', 0, none⟩)))
theorem alt_near {Iq : Nat → Prop} {w w1 w2 : World} {sb m b l h n : Nat} {F1 F2 : List Nat} {T : Nat → Pt} {vl vh : Value} {r : Rw} {e : Ending} (hp : PcAt Iq w b (T b) vl vh (.slice none 0 0)) (hk : (T b).kids = some (l, h)) (t1 : TrO Iq w T (n + 1) l F1) (t2 : TrO Iq w T (n + 1) h F2)
    (ok : OkP T m (n + 1) (T b)) (hnd : (b :: (F1 ++ F2)).Nodup) (hS : SrcAt w sb) (hsb : sb ∉ b :: (F1 ++ F2)) (pm : (aft false r (rowsP T n (T l)) ++ rowsP T n (T h)).Perm (aft false r (rowsP T n (T l) ++ rowsP T n (T h)))) (g1 : Gb w w1) (hO : RmOut Iq w1 sb m F1 (aft false r (rowsP T n (T l))) e w2) :
    ∃ pv, e = .returned (.pointer pv) ∧ Alt_near Iq w w2 sb m b h (b :: (F1 ++ F2)) (aft false r (rowsP T n (T l) ++ rowsP T n (T h))) pv ∧ w2.cell? ⟨b, 10, none⟩ = some (.pointer (some ⟨l, 0, none⟩)) ∧ w2.frozen? ⟨b, 10, none⟩ = false ∧ ∀ (p : Addr) (y : Value), w.heap.size ≤ p.block → w1.cell? p = some y → w2.cell? p = some y := by
  obtain ⟨n', e', o1, o2, o3, o4, o5⟩ := okP_node hk ok
  have e'' : n' = n := by omega
  subst e''
  obtain ⟨k2, hS2, hn, hs⟩ := hO
  have bl := (Array.getElem?_eq_some_iff.1 hp.blk).1
  have s1 := g1.size
  have m1 := t1.mem
  have m2 := t2.mem
  have hsl := hS.lt
  have hnd2 := hnd
  rw [List.nodup_cons, List.nodup_append] at hnd2
  obtain ⟨hbn, nd1, nd2, dj⟩ := hnd2
  have hbk : b ∉ F1 := fun e => hbn (List.mem_append_left _ e)
  have hbs : ¬ b = sb := fun e => hsb (by rw [e]; simp)
  have hp2 : PcAt Iq w2 b (T b) vl vh (.slice none 0 0) := (hp.gb g1).kp k2 (fun y hy cur s => hy.elim (fun e => (t1.gb g1).noint y e cur s) (fun e => (hS.gb g1).noint y e cur s)) (fun e => e.elim hbk hbs)
  have hb2 : w2.heap[b]? = some (.cells #[.int .i64 3, vl, vh, .int .u64 (hi (T b).reg.R), .int .u64 (lo (T b).reg.R), .slice none 0 0, .slice none 0 0, .int .i64 (T b).cut.1, .int .u64 (T b).cut.2.1, .int .u64 (T b).cut.2.2, .pointer (some ⟨l, 0, none⟩), .pointer (some ⟨h, 0, none⟩)] 117 (0, 0)) := by
    have := hp2.blk
    rw [hk] at this
    exact this
  have ni : NoInt w1 (fun k => k ∈ F1 ∨ k = sb) := fun y hy cur s => hy.elim (fun e => (t1.gb g1).noint y e cur s) (fun e => (hS.gb g1).noint y e cur s)
  have toW : TrO Iq w2 T (n' + 1) h F2 := TrO.kp k2 ni _ _ _ (t2.gb g1) (fun y hy e => e.elim (fun e => dj y e y hy rfl) (fun e => hsb (by rw [← e]; exact List.mem_cons_of_mem _ (List.mem_append_right _ hy))))
  have nb : NoInt w2 (fun k => k = b) := fun k e cur s hc => by subst e; rw [hb2] at hc; simp at hc
  have kb : ∀ u, Tk.Kp (fun k => k = b) w2 (w2.setCell ⟨b, 10, none⟩ u) := fun u => (Tk.Kp.refl (fun k => k = b) w2).setCell (.inl rfl) u
  have toS : ∀ u, TrO Iq (w2.setCell ⟨b, 10, none⟩ u) T (n' + 1) h F2 := fun u => TrO.kp (kb u) nb _ _ _ toW (fun x hx e => hbn (by rw [← e]; exact List.mem_append_right _ hx))
  have srcS : ∀ u, SrcAt (w2.setCell ⟨b, 10, none⟩ u) sb := fun u => kp_src hS2 (kb u) (fun e => hbs e.symm)
  have kF : ∀ u, Tk.Kp (fun k => k ∈ b :: (F1 ++ F2) ∨ k = sb) w (w2.setCell ⟨b, 10, none⟩ u) := fun u => by
    have k0 : Tk.Kp (fun k => k ∈ b :: (F1 ++ F2) ∨ k = sb) w w2 := (Tk.Kp.of_gr g1).trans (k2.mono (fun k _ hk => hk.imp (fun hk => List.mem_cons_of_mem _ (List.mem_append_left _ hk)) id))
    exact k0.setCell (.inl (.inl List.mem_cons_self)) u
  have hcell : w2.cell? ⟨b, 10, none⟩ = some (.pointer (some ⟨l, 0, none⟩)) := cell_cur hb2 rfl
  have hfro : w2.frozen? ⟨b, 10, none⟩ = false := by simp [World.frozen?, hb2]
  have hkeep : ∀ (p : Addr) (y : Value), w.heap.size ≤ p.block → w1.cell? p = some y → w2.cell? p = some y := fun p y hp hc => k2.cell hc (fun e => by
    rcases e with e | e
    · have := (m1).2 _ e
      omega
    · omega)
  by_cases hR : aft false r (rowsP T n' (T l)) = []
  · refine ⟨none, hn hR, .inl ⟨rfl, ?_, ?_, kF _, srcS _, fun e => ?_, fun _ => ⟨h, T, F2, n', rfl, toS _, o2, ?_, nd2, fun y hy => .inl (List.mem_cons_of_mem _ (List.mem_append_right _ hy))⟩⟩, hcell, hfro, hkeep⟩
    · simp [World.cell?, World.setCell, Array.getElem?_modify, hb2]
    · simp [World.cell?, World.setCell, Array.getElem?_modify, hb2]
    · rw [hR, e] at pm
      exact absurd (List.append_eq_nil_iff.1 pm.eq_nil).2 (okP_ne _ _ o2)
    · rw [hR] at pm
      simpa using pm
  · obtain ⟨b', T', F', n'', e1, t3', ok3, pm3, nd, l3⟩ := hs hR
    have hbF' : b ∉ F' := fun e => by
      rcases l3 b e with h | h
      · exact hbk h
      · omega
    have t3 := TrO.kp (kb (.pointer (some ⟨b', 0, none⟩))) nb _ _ _ t3' (fun x hx e => hbF' (by rw [← e]; exact hx))
    have t4 := toS (.pointer (some ⟨b', 0, none⟩))
    have hp3 : PcAt Iq (w2.setCell ⟨b, 10, none⟩ (.pointer (some ⟨b', 0, none⟩))) b ⟨(T b).reg, (T b).rs, (T b).cut, some (b', h)⟩ vl vh (.slice none 0 0) := by
      refine ⟨?_, ownq_noint hp2.low (kb _) nb, ownq_noint hp2.high (kb _) nb, hp2.ball, hp2.up.le (kb (.pointer (some ⟨b', 0, none⟩))).size⟩
      simp [World.setCell, Array.getElem?_modify, hb2, kidV]
    have ndF : (b :: (F' ++ F2)).Nodup := by
      rw [List.nodup_cons, List.nodup_append]
      refine ⟨fun e => ?_, nd, nd2, fun a ha c hc e => ?_⟩
      · rcases List.mem_append.1 e with e | e
        · exact hbF' e
        · exact hbn (List.mem_append_right _ e)
      · subst e
        rcases l3 a ha with h | h
        · exact dj a h a hc rfl
        · have := (m2).2 a hc
          omega
    have sub : ∀ y ∈ rowsP T' n'' (T' b'), y ∈ rowsP T n' (T l) := fun y hy => by
      have := pm3.mem_iff.1 hy
      unfold aft at this
      rw [if_neg (by decide)] at this
      exact (List.mem_filter.1 this).1
    obtain ⟨T4, n4, r1, r2, r3⟩ := node_re (m := m) hp3 rfl t3 ok3 t4 o2 (o3.sub (fun y hy => (List.mem_append.1 hy).elim (fun hy => List.mem_append_left _ (sub y hy)) (fun hy => List.mem_append_right _ hy))) (fun y hy => o4 y (sub y hy)) o5 ndF
    have pm4 : (rowsP T4 n4 (T4 b)).Perm (aft false r (rowsP T n' (T l) ++ rowsP T n' (T h))) := by
      rw [r3]
      exact (pm3.append_right _).trans pm
    refine ⟨some ⟨b', 0, none⟩, e1, .inr ⟨b', rfl, ?_, ?_, kF _, srcS _, fun e => ?_, fun _ => ⟨b, T4, _, n4, rfl, r1, r2, pm4, ndF, fun y hy => ?_⟩⟩, hcell, hfro, hkeep⟩
    · simp [World.cell?, World.setCell, Array.getElem?_modify, hb2]
    · simp [World.cell?, World.setCell, Array.getElem?_modify, hb2]
    · rw [e] at pm4
      exact absurd pm4.eq_nil (okP_ne _ _ r2)
    · rcases List.mem_cons.1 hy with rfl | hy
      · exact .inl List.mem_cons_self
      · rcases List.mem_append.1 hy with hy | hy
        · exact (l3 y hy).imp (fun e => List.mem_cons_of_mem _ (List.mem_append_left _ e)) (fun e => by omega)
        · exact .inl (List.mem_cons_of_mem _ (List.mem_append_right _ hy))
/-- What the change of the far half leaves: the other half alone, or both. -/
def Alt_far (Iq : Nat → Prop) (w w2 : World) (sb m b l : Nat) (F : List Nat) (R : List Rw) (pv : Option Addr) : Prop :=
  (pv = none ∧ (w2.setCell ⟨b, 11, none⟩ (.pointer none)).cell? ⟨b, 11, none⟩ = some (.pointer none) ∧ (w2.setCell ⟨b, 11, none⟩ (.pointer none)).cell? ⟨b, 10, none⟩ = some (.pointer (some ⟨l, 0, none⟩)) ∧ RmOut Iq w sb m F R (.returned (.pointer (some ⟨l, 0, none⟩))) (w2.setCell ⟨b, 11, none⟩ (.pointer none))) ∨
  ∃ b', pv = some ⟨b', 0, none⟩ ∧ (w2.setCell ⟨b, 11, none⟩ (.pointer (some ⟨b', 0, none⟩))).cell? ⟨b, 11, none⟩ = some (.pointer (some ⟨b', 0, none⟩)) ∧ (w2.setCell ⟨b, 11, none⟩ (.pointer (some ⟨b', 0, none⟩))).cell? ⟨b, 10, none⟩ = some (.pointer (some ⟨l, 0, none⟩)) ∧ RmOut Iq w sb m F R (.returned (.pointer (some ⟨b, 0, none⟩))) (w2.setCell ⟨b, 11, none⟩ (.pointer (some ⟨b', 0, none⟩)))
theorem alt_far {Iq : Nat → Prop} {w w1 w2 : World} {sb m b l h n : Nat} {F1 F2 : List Nat} {T : Nat → Pt} {vl vh : Value} {r : Rw} {e : Ending} (hp : PcAt Iq w b (T b) vl vh (.slice none 0 0)) (hk : (T b).kids = some (l, h)) (t1 : TrO Iq w T (n + 1) l F1) (t2 : TrO Iq w T (n + 1) h F2)
    (ok : OkP T m (n + 1) (T b)) (hnd : (b :: (F1 ++ F2)).Nodup) (hS : SrcAt w sb) (hsb : sb ∉ b :: (F1 ++ F2)) (pm : (rowsP T n (T l) ++ aft false r (rowsP T n (T h))).Perm (aft false r (rowsP T n (T l) ++ rowsP T n (T h)))) (g1 : Gb w w1) (hO : RmOut Iq w1 sb m F2 (aft false r (rowsP T n (T h))) e w2) :
    ∃ pv, e = .returned (.pointer pv) ∧ Alt_far Iq w w2 sb m b l (b :: (F1 ++ F2)) (aft false r (rowsP T n (T l) ++ rowsP T n (T h))) pv ∧ w2.cell? ⟨b, 11, none⟩ = some (.pointer (some ⟨h, 0, none⟩)) ∧ w2.frozen? ⟨b, 11, none⟩ = false ∧ ∀ (p : Addr) (y : Value), w.heap.size ≤ p.block → w1.cell? p = some y → w2.cell? p = some y := by
  obtain ⟨n', e', o1, o2, o3, o4, o5⟩ := okP_node hk ok
  have e'' : n' = n := by omega
  subst e''
  obtain ⟨k2, hS2, hn, hs⟩ := hO
  have bl := (Array.getElem?_eq_some_iff.1 hp.blk).1
  have s1 := g1.size
  have m1 := t1.mem
  have m2 := t2.mem
  have hsl := hS.lt
  have hnd2 := hnd
  rw [List.nodup_cons, List.nodup_append] at hnd2
  obtain ⟨hbn, nd1, nd2, dj⟩ := hnd2
  have hbk : b ∉ F2 := fun e => hbn (List.mem_append_right _ e)
  have hbs : ¬ b = sb := fun e => hsb (by rw [e]; simp)
  have hp2 : PcAt Iq w2 b (T b) vl vh (.slice none 0 0) := (hp.gb g1).kp k2 (fun y hy cur s => hy.elim (fun e => (t2.gb g1).noint y e cur s) (fun e => (hS.gb g1).noint y e cur s)) (fun e => e.elim hbk hbs)
  have hb2 : w2.heap[b]? = some (.cells #[.int .i64 3, vl, vh, .int .u64 (hi (T b).reg.R), .int .u64 (lo (T b).reg.R), .slice none 0 0, .slice none 0 0, .int .i64 (T b).cut.1, .int .u64 (T b).cut.2.1, .int .u64 (T b).cut.2.2, .pointer (some ⟨l, 0, none⟩), .pointer (some ⟨h, 0, none⟩)] 117 (0, 0)) := by
    have := hp2.blk
    rw [hk] at this
    exact this
  have ni : NoInt w1 (fun k => k ∈ F2 ∨ k = sb) := fun y hy cur s => hy.elim (fun e => (t2.gb g1).noint y e cur s) (fun e => (hS.gb g1).noint y e cur s)
  have toW : TrO Iq w2 T (n' + 1) l F1 := TrO.kp k2 ni _ _ _ (t1.gb g1) (fun y hy e => e.elim (fun e => dj y hy y e rfl) (fun e => hsb (by rw [← e]; exact List.mem_cons_of_mem _ (List.mem_append_left _ hy))))
  have nb : NoInt w2 (fun k => k = b) := fun k e cur s hc => by subst e; rw [hb2] at hc; simp at hc
  have kb : ∀ u, Tk.Kp (fun k => k = b) w2 (w2.setCell ⟨b, 11, none⟩ u) := fun u => (Tk.Kp.refl (fun k => k = b) w2).setCell (.inl rfl) u
  have toS : ∀ u, TrO Iq (w2.setCell ⟨b, 11, none⟩ u) T (n' + 1) l F1 := fun u => TrO.kp (kb u) nb _ _ _ toW (fun x hx e => hbn (by rw [← e]; exact List.mem_append_left _ hx))
  have srcS : ∀ u, SrcAt (w2.setCell ⟨b, 11, none⟩ u) sb := fun u => kp_src hS2 (kb u) (fun e => hbs e.symm)
  have kF : ∀ u, Tk.Kp (fun k => k ∈ b :: (F1 ++ F2) ∨ k = sb) w (w2.setCell ⟨b, 11, none⟩ u) := fun u => by
    have k0 : Tk.Kp (fun k => k ∈ b :: (F1 ++ F2) ∨ k = sb) w w2 := (Tk.Kp.of_gr g1).trans (k2.mono (fun k _ hk => hk.imp (fun hk => List.mem_cons_of_mem _ (List.mem_append_right _ hk)) id))
    exact k0.setCell (.inl (.inl List.mem_cons_self)) u
  have hcell : w2.cell? ⟨b, 11, none⟩ = some (.pointer (some ⟨h, 0, none⟩)) := cell_cur hb2 rfl
  have hfro : w2.frozen? ⟨b, 11, none⟩ = false := by simp [World.frozen?, hb2]
  have hkeep : ∀ (p : Addr) (y : Value), w.heap.size ≤ p.block → w1.cell? p = some y → w2.cell? p = some y := fun p y hp hc => k2.cell hc (fun e => by
    rcases e with e | e
    · have := (m2).2 _ e
      omega
    · omega)
  by_cases hR : aft false r (rowsP T n' (T h)) = []
  · refine ⟨none, hn hR, .inl ⟨rfl, ?_, ?_, kF _, srcS _, fun e => ?_, fun _ => ⟨l, T, F1, n', rfl, toS _, o1, ?_, nd1, fun y hy => .inl (List.mem_cons_of_mem _ (List.mem_append_left _ hy))⟩⟩, hcell, hfro, hkeep⟩
    · simp [World.cell?, World.setCell, Array.getElem?_modify, hb2]
    · simp [World.cell?, World.setCell, Array.getElem?_modify, hb2]
    · rw [hR, e] at pm
      exact absurd (List.append_eq_nil_iff.1 pm.eq_nil).1 (okP_ne _ _ o1)
    · rw [hR] at pm
      simpa using pm
  · obtain ⟨b', T', F', n'', e1, t3', ok3, pm3, nd, l3⟩ := hs hR
    have hbF' : b ∉ F' := fun e => by
      rcases l3 b e with h | h
      · exact hbk h
      · omega
    have t3 := TrO.kp (kb (.pointer (some ⟨b', 0, none⟩))) nb _ _ _ t3' (fun x hx e => hbF' (by rw [← e]; exact hx))
    have t4 := toS (.pointer (some ⟨b', 0, none⟩))
    have hp3 : PcAt Iq (w2.setCell ⟨b, 11, none⟩ (.pointer (some ⟨b', 0, none⟩))) b ⟨(T b).reg, (T b).rs, (T b).cut, some (l, b')⟩ vl vh (.slice none 0 0) := by
      refine ⟨?_, ownq_noint hp2.low (kb _) nb, ownq_noint hp2.high (kb _) nb, hp2.ball, hp2.up.le (kb (.pointer (some ⟨b', 0, none⟩))).size⟩
      simp [World.setCell, Array.getElem?_modify, hb2, kidV]
    have ndF : (b :: (F1 ++ F')).Nodup := by
      rw [List.nodup_cons, List.nodup_append]
      refine ⟨fun e => ?_, nd1, nd, fun a ha c hc e => ?_⟩
      · rcases List.mem_append.1 e with e | e
        · exact hbn (List.mem_append_left _ e)
        · exact hbF' e
      · subst e
        rcases l3 a hc with h | h
        · exact dj a ha a h rfl
        · have := (m1).2 a ha
          omega
    have sub : ∀ y ∈ rowsP T' n'' (T' b'), y ∈ rowsP T n' (T h) := fun y hy => by
      have := pm3.mem_iff.1 hy
      unfold aft at this
      rw [if_neg (by decide)] at this
      exact (List.mem_filter.1 this).1
    obtain ⟨T4, n4, r1, r2, r3⟩ := node_re (m := m) hp3 rfl t4 o1 t3 ok3 (o3.sub (fun y hy => (List.mem_append.1 hy).elim (fun hy => List.mem_append_left _ hy) (fun hy => List.mem_append_right _ (sub y hy)))) o4 (fun y hy => o5 y (sub y hy)) ndF
    have pm4 : (rowsP T4 n4 (T4 b)).Perm (aft false r (rowsP T n' (T l) ++ rowsP T n' (T h))) := by
      rw [r3]
      exact (pm3.append_left _).trans pm
    refine ⟨some ⟨b', 0, none⟩, e1, .inr ⟨b', rfl, ?_, ?_, kF _, srcS _, fun e => ?_, fun _ => ⟨b, T4, _, n4, rfl, r1, r2, pm4, ndF, fun y hy => ?_⟩⟩, hcell, hfro, hkeep⟩
    · simp [World.cell?, World.setCell, Array.getElem?_modify, hb2]
    · simp [World.cell?, World.setCell, Array.getElem?_modify, hb2]
    · rw [e] at pm4
      exact absurd pm4.eq_nil (okP_ne _ _ r2)
    · rcases List.mem_cons.1 hy with rfl | hy
      · exact .inl List.mem_cons_self
      · rcases List.mem_append.1 hy with hy | hy
        · exact .inl (List.mem_cons_of_mem _ (List.mem_append_left _ hy))
        · exact (l3 y hy).imp (fun e => List.mem_cons_of_mem _ (List.mem_append_right _ e)) (fun e => by omega)
end Go.Proofs.YtepjbdklljlecaaGreat
