import Derived.Test.YtdmdjmliggjbjaaGreatCt16
import Derived.Test.YtdmdjmliggjbjaaGreatCt7
import Derived.Test.YtdmdjmliggjbjaaGreatCt2
import Derived.Test.YtdmdjmliggjbjaaGreatCt35
import Derived.Test.YtdmdjmliggjbjaaGreatCtInB
import Derived.Shelf.Abstract
/- cert.places' closure: ids are told to stand at a place. -/
namespace Go.Proofs.YtdmdjmliggjbjaaGreat
open Go.RowKit Go.Sort Go.Maps

/-- The map of the places, behind the variable in bm; how many ids are left, in bl. -/
structure PlSt (W : World) (bm bl M : Nat) (ks : List Int) (g : Int → Int) (L : Int) : Prop where
  m : W.cell? ⟨bm, 0, none⟩ = some (.map (some M))
  l : W.cell? ⟨bl, 0, none⟩ = some (.int .i64 L)
  f : W.frozen? ⟨bl, 0, none⟩ = false
  a : MapA Tryz.prog 3 W M ks (fun x => .int .i64 (g x))
  ne : bm ≠ bl
  nm : bm ≠ M
  nl : bl ≠ M
theorem PlSt.kp {S : Nat → Prop} {W W' : World} {bm bl M : Nat} {ks : List Int} {g : Int → Int} {L : Int} (h : PlSt W bm bl M ks g L) (k : Tk.Kp S W W') (h1 : ¬ S bm) (h2 : ¬ S bl) (h3 : ¬ S M) : PlSt W' bm bl M ks g L :=
  ⟨k.cell h.m h1, k.cell h.l h2, by
    have e := k.block bl (cell_lt h.l) h2
    have hf := h.f
    simp only [World.frozen?] at hf ⊢
    rw [e]; exact hf, h.a.same (k.block M h.a.lt h3), h.ne, h.nm, h.nl⟩
theorem PlSt.gb {W W' : World} {bm bl M : Nat} {ks : List Int} {g : Int → Int} {L : Int} (h : PlSt W bm bl M ks g L) (k : Gb W W') : PlSt W' bm bl M ks g L := h.kp (S := fun _ => False) (Tk.Kp.of_gr k) id id id
theorem zero3 (w : World) : (zeroValue 3).run Tryz.prog w = .ok (.int .i64 0) w := by kernel_rfl
/-- The map's entry is written, and one fewer is left. -/
theorem PlSt.put {W W1 : World} {bm bl M : Nat} {ks : List Int} {g : Int → Int} {L : Int} {x p : Int} (h : PlSt W bm bl M ks g L) (hx : x ∈ ks) (hm : MapA Tryz.prog 3 W1 M (putK ks x) (putF (fun x => .int .i64 (g x)) x (.int .i64 p))) (ht : W.mapTurned W1 M) : PlSt W1 bm bl M ks (fun y => if y = x then p else g y) L := by
  have k := Tk.Kp.grown ht.grown
  refine ⟨k.cell h.m (fun e => h.nm (by injection e)), k.cell h.l (fun e => h.nl (by injection e)), (ht.frozen _).trans h.f, ?_, h.ne, h.nm, h.nl⟩
  have e1 : putK ks x = ks := by unfold putK; rw [if_pos hx]
  rw [e1] at hm
  refine hm.ext (fun y _ => ?_)
  unfold putF
  split <;> rfl
theorem PlSt.less {W : World} {bm bl M : Nat} {ks : List Int} {g : Int → Int} {L L' : Int} (h : PlSt W bm bl M ks g L) : PlSt (W.setCell ⟨bl, 0, none⟩ (.int .i64 L')) bm bl M ks g L' := by
  have k : Tk.Kp (fun b => b = bl) W (W.setCell ⟨bl, 0, none⟩ (.int .i64 L')) := (Tk.Kp.refl (fun b => b = bl) W).setCell (p := ⟨bl, 0, none⟩) (.inl rfl) _
  refine ⟨k.cell h.m h.ne, ?_, ?_, h.a.same (k.block M h.a.lt (fun e => h.nl e.symm)), h.ne, h.nm, h.nl⟩
  · exact World.cell?_setCell_same W _ _ h.l
  · rw [World.frozen?_setCell]; exact h.f
def StOut (w : World) (bm bl M : Nat) (ks ids : List Int) (g : Int → Int) (L p : Int) (l : List Int) (e : Ending) (w' : World) : Prop :=
  (∃ g1, stand ids p l g = some g1 ∧ e = .returned (.bool true) ∧ PlSt w' bm bl M ks g1 (L - l.length) ∧ Tk.Kp (fun b => b = M ∨ b = bl) w w') ∨
  (stand ids p l g = none ∧ e = .returned (.bool false) ∧ ∃ g1 L1, PlSt w' bm bl M ks g1 L1 ∧ Tk.Kp (fun b => b = M ∨ b = bl) w w')
theorem KWf.of {x : Int} (h : (Lit.int .i64 x).wf = true) : KWf x := by
  have e1 : IntKind.i64.min = -9223372036854775808 := rfl
  have e2 : IntKind.i64.max = 9223372036854775807 := rfl
  simp [Lit.wf, e1, e2] at h
  exact ⟨h.1, h.2⟩
set_option maxRecDepth 100000 in
set_option maxHeartbeats 2000000 in
theorem standAt_c {w : World} {bm bl M : Nat} {ks ids : List Int} {g : Int → Int} {L p : Int} {v : Value} {l : List Int} (hs : PlSt w bm bl M ks g L) (hk : ∀ x, x ∈ ks ↔ x ∈ ids) (hkn : ks.length < 1000000) (hv : RdI w v l) (hn : l.length ≤ 1000000) (hw : ∀ i, i < l.length → KWf l[i]!) (hL : -1000000 ≤ L - l.length ∧ L ≤ 1000000) (hvb : ∀ b o n c, v = .slice (some ⟨b, o, none⟩) n c → n ≠ 0 → b ≠ bl) :
    Calls Tryz.prog 59 #[.int .i64 p, v, .pointer (some ⟨bm, 0, none⟩), .pointer (some ⟨bl, 0, none⟩)] w fun e w' => StOut w bm bl M ks ids g L p l e w' := by
  obtain ⟨a, cap, rfl, ha⟩ := hv
  have HA : Hid (∀ i, i < l.length → ∃ b o, a = some ⟨b, o, none⟩ ∧ w.cell? ⟨b, o + i, none⟩ = some (.int .i64 l[i]!)) := ha
  have HS : Hid (PlSt w bm bl M ks g L) := hs
  have HK : Hid (∀ x, x ∈ ks ↔ x ∈ ids) := hk
  have HW : Hid (∀ i, i < l.length → KWf l[i]!) := hw
  have HB : Hid (∀ b o n c, Value.slice a l.length cap = .slice (some ⟨b, o, none⟩) n c → n ≠ 0 → b ≠ bl) := hvb
  have HL : Hid (-1000000 ≤ L - l.length ∧ L ≤ 1000000) := hL
  obtain ⟨n, hN⟩ : ∃ n, n = l.length := ⟨_, rfl⟩
  have N : Hid (n = l.length) := hN
  rw [← hN] at hn ⊢
  clear ha hN hs hk hw hvb hL
  go_enter Tryz.func59, Tryz.ntmps59
  go_wp2
  go_loopw [13] (fun iv W => ∃ q : Nat, iv = .int .i64 (q : Int) ∧ q ≤ n ∧ Hid (∃ g1, stand ids p (l.take q) g = some g1 ∧ PlSt W bm bl M ks g1 (L - q) ∧ Tk.Kp (fun b => b = M ∨ b = bl) w W)) (fun iv _ => n - (intOf iv).toNat)
  case atStart => exact ⟨0, rfl, Nat.zero_le _, g, by rw [List.take_zero]; rfl, by simpa using HS.out, Tk.Kp.refl _ _⟩
  case round =>
    obtain ⟨q, rfl, hq, X⟩ := hrel
    obtain ⟨gq, hst, hP, hKp⟩ := X.out
    clear X
    have ST : Hid (stand ids p (l.take q) g = some gq) := hst
    have PS : Hid (PlSt wr bm bl M ks gq (L - q)) := hP
    have KP : Hid (Tk.Kp (fun b => b = M ∨ b = bl) w wr) := hKp
    clear hst hP hKp
    by_cases hqn : q < n
    · have hqi : (q : Int) < (n : Int) := by omega
      have hm : q < l.length := by have := N.out; omega
      obtain ⟨b, o, rfl, c0⟩ := HA.out q hm
      have hbl : b ≠ bl := HB.out b o _ _ rfl (by omega)
      have hbM : b ≠ M := fun e => by
        obtain ⟨es, ck, hmm⟩ := HS.out.a.isMap
        subst e
        simp only [World.cell?, hmm] at c0
        cases c0
      have c0 := KP.out.cell c0 (fun h => h.elim hbM hbl)
      have hxw := HW.out q hm
      have SN : Hid (stand ids p (l.take (q + 1)) g = if l[q]! ∈ ids ∧ gq l[q]! = 0 then some (fun y => if y = l[q]! then p else gq y) else none) := by
        unfold Hid
        rw [show l.take (q + 1) = l.take q ++ [l[q]!] by rw [List.take_succ_eq_append_getElem hm, getElem!_pos l q hm]]
        exact stand_snoc ST.out _
      have NL : Hid (∀ h : stand ids p (l.take (q + 1)) g = none, stand ids p l g = none) := fun h => by
        have e : l = l.take (q + 1) ++ l.drop (q + 1) := (List.take_append_drop _ _).symm
        rw [e]
        exact stand_more h
      obtain ⟨x, hx⟩ : ∃ x, x = l[q]! := ⟨_, rfl⟩
      rw [← hx] at c0 hxw SN
      clear hx hbl hbM
      obtain ⟨z, hz⟩ : ∃ z, z = L - (q : Int) := ⟨_, rfl⟩
      rw [← hz] at PS
      have hz1 : -1000000 < z := by have := HL.out; have := N.out; omega
      have hz2 : z ≤ 1000000 := by have := HL.out; omega
      have HZ : Hid (z - 1 = L - ((q + 1 : Nat) : Int)) := by unfold Hid; omega
      clear hz
      have m0 := PS.out.m
      have l0 := PS.out.l
      have f0 := PS.out.f
      have lk := PS.out.a.look_ok Tryz.underlying3 Tryz.underlying69 (zero3 wr) hxw
      by_cases hxk : x ∈ ks
      · rw [if_pos hxk, decide_eq_true hxk] at lk
        by_cases hg : gq x = 0
        · rw [hg] at lk
          obtain ⟨w1, hput, hma, hmt⟩ := PS.out.a.put Tryz.underlying3 Tryz.underlying69 hkn hxw (.int .i64 p)
          have P1 : Hid (PlSt w1 bm bl M ks (fun y => if y = x then p else gq y) z) := PS.out.put hxk hma hmt
          have K1 : Hid (Tk.Kp (fun b => b = M ∨ b = bl) w w1) := KP.out.trans ((Tk.Kp.grown hmt.grown).mono (fun k _ e => Or.inl (by injection e)))
          have S1 : Hid (stand ids p (l.take (q + 1)) g = some (fun y => if y = x then p else gq y)) := by
            unfold Hid; rw [SN.out, if_pos ⟨(HK.out x).1 hxk, hg⟩]
          have l1 := P1.out.l
          have f1 := P1.out.f
          have XN : Hid (∃ g1, stand ids p (l.take (q + 1)) g = some g1 ∧ PlSt (w1.setCell ⟨bl, 0, none⟩ (.int .i64 (z - 1))) bm bl M ks g1 (L - ((q + 1 : Nat) : Int)) ∧ Tk.Kp (fun b => b = M ∨ b = bl) w (w1.setCell ⟨bl, 0, none⟩ (.int .i64 (z - 1)))) :=
            ⟨_, S1.out, by rw [← HZ.out]; exact P1.out.less, K1.out.setCell (p := ⟨bl, 0, none⟩) (.inl (.inr rfl)) _⟩
          clear hma hmt SN NL ST PS KP hg hxk
          go_wp2
          go_roundw
          case rel => exact ⟨q + 1, by first | rfl | go_num, hqn, XN.out⟩
          case measure => simp [intOf]; omega
        · have hg' : (gq x != 0) = true := by simpa using hg
          have SO : Hid (stand ids p l g = none) := NL.out (by rw [SN.out, if_neg (fun h => hg h.2)])
          generalize gq x = y at *
          clear hg
          go_wp2
          go_ret
          exact Or.inr ⟨SO.out, rfl, gq, z, PS.out, KP.out⟩
      · rw [if_neg hxk, decide_eq_false hxk] at lk
        have SO : Hid (stand ids p l g = none) := NL.out (by rw [SN.out, if_neg (fun h => hxk ((HK.out x).2 h.1))])
        clear hxk
        go_wp2
        go_ret
        exact Or.inr ⟨SO.out, rfl, gq, z, PS.out, KP.out⟩
    · have hqi : ¬ (q : Int) < (n : Int) := by omega
      have FO : Hid (StOut w bm bl M ks ids g L p l (.returned (.bool true)) wr) := by
        have e : q = l.length := by have := N.out; omega
        have h1 := ST.out
        have h2 := PS.out
        rw [e] at h1 h2
        rw [List.take_length] at h1
        exact Or.inl ⟨gq, h1, rfl, h2, KP.out⟩
      clear ST PS KP
      go_wp2
      go_ret
      exact FO.out
end Go.Proofs.YtdmdjmliggjbjaaGreat

/- cert.mayBe and cert.isBeyond. -/
namespace Go.Proofs.YtdmdjmliggjbjaaGreat
open Go.RowKit Go.Sort Go.Shelf

/-- No region is so. -/
def noneR (p : Reg → Bool) (l : List Reg) : Bool := !l.any p
/-- May a region not be in an answer? -/
def badR (d : Int) (r : Reg) : Bool := decide (r.I.length = 0) || !decide (ckR r d = 0)
set_option maxRecDepth 100000 in
set_option maxHeartbeats 1000000 in
theorem mayBe1_c {w : World} {v : Value} {r : Reg} {cb : Nat} {d : Int} (h : RdR w v r) (hlen : r.I.length ≤ 4611686018427387904) (hc : w.cell? ⟨cb, 0, none⟩ = some (.int .i64 d)) :
    Calls Tryz.prog 62 #[v, .pointer (some ⟨cb, 0, none⟩)] w fun e w' => e = .returned (.bool (badR d r)) ∧ Gb w w' := by
  have HR : Hid (RdR w v r) := h
  obtain ⟨vl, vh, vi, rfl, hL, hH, hI⟩ := h
  have G0 : Gr w (w.alloc (rc r vl vh vi)) := (Gr.refl _).alloc _ _
  have C1 := fun x hx => checkRegion_v (HR.out.gb G0.gb) hlen d x hx
  have hc := G0.keeps hc
  have E : Hid (badR d r = (decide (r.I.length = 0) || !decide (ckR r d = 0))) := rfl
  generalize badR d r = res at *
  obtain ⟨a1, c1, rfl, z1⟩ := hL
  obtain ⟨a2, c2, rfl, z2⟩ := hH
  obtain ⟨a3, c3, rfl, z3⟩ := hI
  clear z1 z2 z3 HR
  by_cases h1 : r.I.length = 0
  · have e : res = true := by rw [E.out, decide_eq_true h1]; rfl
    subst e
    clear C1 E
    have h1' : ((r.I.length : Int) == 0) = true := by rw [h1]; rfl
    generalize r.I.length = n3 at *
    generalize r.L.length = n1 at *
    generalize r.H.length = n2 at *
    obtain ⟨S, L, H, R, I⟩ := r
    try dsimp only at *
    clear h1
    go_enter Tryz.func62, Tryz.ntmps62
    go_wp2
    go_ret
    exact ⟨rfl, G0.gb⟩
  · have h1' : ((r.I.length : Int) == 0) = false := by rw [beq_eq_false_iff_ne]; omega
    have e : res = !decide (ckR r d = 0) := by rw [E.out, decide_eq_false h1]; rfl
    obtain ⟨x, hx⟩ : ∃ x, x = ckR r d := ⟨_, rfl⟩
    have cc := C1 x hx.symm
    have hxr : (x != 0) = res := by
      rw [e, hx]
      by_cases h0 : ckR r d = 0
      · rw [h0]; rfl
      · rw [decide_eq_false h0]; simpa using h0
    clear C1 E e hx h1
    generalize r.I.length = n3 at *
    generalize r.L.length = n1 at *
    generalize r.H.length = n2 at *
    obtain ⟨S, L, H, R, I⟩ := r
    try dsimp only at *
    go_enter Tryz.func62, Tryz.ntmps62
    go_wp2_with fail
    refine cc.mono ?_
    rintro e w1 ⟨rfl, g1⟩
    go_wp2
    go_ret
    exact ⟨rfl, (G0.trans g1).gb⟩
set_option maxHeartbeats 1000000 in
theorem mayBe_c {w : World} {v : Value} {l : List Reg} (hv : RdL w v l) (hn : l.length ≤ 4611686018427387904) (hI : ∀ r ∈ l, r.I.length ≤ 4611686018427387904) (d : Int) :
    Calls Tryz.prog 37 #[v, .int .i64 d] w fun e w' => e = .returned (.bool (noneR (badR d) l)) ∧ Gb w w' := by
  have G0 : Gb w (w.alloc (.cells #[.int .i64 d] 3)) := gb_alloc (Below.refl _ _) _
  have hc : (w.alloc (.cells #[.int .i64 d] 3)).cell? ⟨w.heap.size, 0, none⟩ = some (.int .i64 d) := by simp [go_sem]
  have c := containsR_c (hv.gb G0) hn (fq := 62) (fv := #[.pointer (some ⟨w.heap.size, 0, none⟩)]) (p := badR d) ⟨enters_of Tryz.func62 (by kernel_rfl) rfl, fun r hr W g v hv => mayBe1_c hv (hI r hr) (gb_keeps g hc)⟩
  obtain ⟨a, cap, rfl, zz⟩ := hv
  clear zz hI
  generalize l.length = n at *
  go_enter Tryz.func37, Tryz.ntmps37
  go_wp2_with fail
  go_fit c
  rintro e w' ⟨rfl, hg⟩
  clear c
  have HN : Hid (noneR (badR d) l = !l.any (badR d)) := rfl
  generalize l.any (badR d) = r at *
  go_wp2
  go_ret
  exact ⟨by rw [HN.out]; rfl, gb_trans G0 hg⟩

/-- Is a region not beyond? -/
def nearR (q : List Int) (far : Nat) (r : Reg) : Bool := !decide (ckB r q = 0) || decide (bndV r q ≤ far)
set_option maxRecDepth 100000 in
set_option maxHeartbeats 1000000 in
theorem isBeyond1_c {w : World} {v u : Value} {r : Reg} {qb fb far : Nat} {q : List Int} (h : RdR w v r) (hu : RdI w u q) (hlen : r.I.length ≤ 4611686018427387904) (hR : r.R < 340282366920938463463374607431768211456) (hq : w.cell? ⟨qb, 0, none⟩ = some u)
    (hf : w.cell? ⟨fb, 0, none⟩ = some (.int .u64 (hi far)) ∧ w.cell? ⟨fb, 1, none⟩ = some (.int .u64 (lo far))) :
    Calls Tryz.prog 65 #[v, .pointer (some ⟨qb, 0, none⟩), .pointer (some ⟨fb, 0, none⟩)] w fun e w' => e = .returned (.bool (nearR q far r)) ∧ Gb w w' := by
  have HR : Hid (RdR w v r) := h
  have HU : Hid (RdI w u q) := hu
  obtain ⟨vl, vh, vi, rfl, hL, hH, hI⟩ := h
  have G0 : Gr w (w.alloc (rc r vl vh vi)) := (Gr.refl _).alloc _ _
  have C1 := bound_c (HR.out.gb G0.gb) (HU.out.gb G0.gb) hlen hR
  have hq := G0.keeps hq
  have hf1 := G0.keeps hf.1
  have hf2 := G0.keeps hf.2
  have E : Hid (nearR q far r = (!decide (ckB r q = 0) || decide (bndV r q ≤ far))) := rfl
  generalize nearR q far r = res at *
  obtain ⟨a0, c0, rfl, z0⟩ := hu
  obtain ⟨a1, c1, rfl, z1⟩ := hL
  obtain ⟨a2, c2, rfl, z2⟩ := hH
  obtain ⟨a3, c3, rfl, z3⟩ := hI
  generalize ckB r q = er at *
  generalize bndV r q = bd at *
  clear z0 z1 z2 z3 HR HU hf hlen hR
  generalize r.I.length = n3 at *
  generalize r.L.length = n1 at *
  generalize r.H.length = n2 at *
  generalize q.length = n0 at *
  obtain ⟨S, L, H, R, I⟩ := r
  dsimp only [rv, rc] at *
  by_cases h0 : er = 0
  · subst h0
    have c := fun W => cmp_any bd far W
    have hcm : Hid (decide (cmp3 bd far ≤ 0) = res) := by
      unfold Hid
      rw [cmp3_le, E.out]; rfl
    generalize cmp3 bd far = z at *
    clear E
    dsimp only [Wd] at C1 c
    go_enter Tryz.func65, Tryz.ntmps65
    go_wp2_with fail
    refine C1.mono ?_
    rintro e w1 ⟨rfl, g1⟩
    have hq := g1.keeps hq
    have hf1 := g1.keeps hf1
    have hf2 := g1.keeps hf2
    have hlt := cell_lt hf1
    dsimp only at hlt
    go_wp2_with fail
    refine (c _).mono ?_
    rintro e w2 ⟨rfl, g2⟩
    go_wp2
    go_ret
    exact ⟨by rw [← hcm.out]; rfl, gb_trans (G0.trans g1).gb (gb_trans (gb_alloc (Below.refl _ _) _) g2.gb)⟩
  · have e : res = true := by rw [E.out, decide_eq_false h0]; rfl
    subst e
    have h0' : (er != 0) = true := by simpa using h0
    clear E h0
    dsimp only [Wd] at C1
    go_enter Tryz.func65, Tryz.ntmps65
    go_wp2_with fail
    refine C1.mono ?_
    rintro e w1 ⟨rfl, g1⟩
    have hq := g1.keeps hq
    have hf1 := g1.keeps hf1
    have hf2 := g1.keeps hf2
    have hlt := cell_lt hf1
    dsimp only at hlt
    go_wp2
    go_ret
    exact ⟨rfl, gb_trans (G0.trans g1).gb (gb_alloc (Below.refl _ _) _)⟩
set_option maxHeartbeats 1000000 in
theorem isBeyond_c {w : World} {v u : Value} {l : List Reg} {q : List Int} {far : Nat} (hv : RdL w v l) (hu : RdI w u q) (hn : l.length ≤ 4611686018427387904) (hI : ∀ r ∈ l, r.I.length ≤ 4611686018427387904 ∧ r.R < 340282366920938463463374607431768211456) :
    Calls Tryz.prog 45 #[v, u, .agg #[.int .u64 (hi far), .int .u64 (lo far)]] w fun e w' => e = .returned (.bool (noneR (nearR q far) l)) ∧ Gb w w' := by
  obtain ⟨W, hW⟩ : ∃ W, W = (w.alloc (.cells #[u] 23)).alloc (.cells #[.int .u64 (hi far), .int .u64 (lo far)] 41) := ⟨_, rfl⟩
  have G0 : Gb w W := by rw [hW]; exact gb_alloc (gb_alloc (Below.refl _ _) _) _
  have hq : W.cell? ⟨w.heap.size, 0, none⟩ = some u := by rw [hW]; simp [go_sem]
  have hf : W.cell? ⟨w.heap.size + 1, 0, none⟩ = some (.int .u64 (hi far)) ∧ W.cell? ⟨w.heap.size + 1, 1, none⟩ = some (.int .u64 (lo far)) := by rw [hW]; simp [go_sem]
  have c := containsR_c (hv.gb G0) hn (fq := 65) (fv := #[.pointer (some ⟨w.heap.size, 0, none⟩), .pointer (some ⟨w.heap.size + 1, 0, none⟩)]) (p := nearR q far)
    ⟨enters_of Tryz.func65 (by kernel_rfl) rfl, fun r hr W' g v hv => isBeyond1_c hv ((hu.gb G0).gb g) (hI r hr).1 (hI r hr).2 (gb_keeps g hq) ⟨gb_keeps g hf.1, gb_keeps g hf.2⟩⟩
  obtain ⟨a, cap, rfl, zz⟩ := hv
  obtain ⟨a0, c0, rfl, z0⟩ := hu
  clear zz hI z0 hq hf
  subst hW
  generalize hi far = f1 at *
  generalize lo far = f2 at *
  generalize l.length = n at *
  generalize q.length = m at *
  go_enter Tryz.func45, Tryz.ntmps45
  go_wp2_with fail
  go_fit c
  rintro e w' ⟨rfl, hg⟩
  clear c
  have HN : Hid (noneR (nearR q far) l = !l.any (nearR q far)) := rfl
  generalize l.any (nearR q far) = r at *
  go_wp2
  go_ret
  exact ⟨by rw [HN.out]; rfl, gb_trans G0 hg⟩
end Go.Proofs.YtdmdjmliggjbjaaGreat
