/- RandRuns' walk. -/
import Derived.Test.YtjediopfnjkihaaDoorWork
import Derived.Test.YtjediopfnjkihaaDoorNil
import Derived.LaidEqlPtr
namespace Go.Proofs.YtjediopfnjkihaaDoor
open Go.RowKit Go.Shelf

theorem OpAt.kept {w w' : World} {a : Option Addr} {n : Nat} {K N : Nat → Int} (h : OpAt w a n K N) (g : w.grownBy w' none) : OpAt w' a n K N := fun i hi => by
  obtain ⟨b, o, rfl, h0, h1⟩ := h i hi
  exact ⟨b, o, rfl, World.grownBy.cell g h0 (by simp), World.grownBy.cell g h1 (by simp)⟩
theorem Tab.kept {w w' : World} (h : Tab w) (g : w.grownBy w' none) : Tab w' := fun j hj => World.grownBy.cell g (h j hj) (by simp)

/-- The sources of a run: that at hand and the elder one, each with the reference's. -/
structure Rn (w W : World) (s r e k : Nat) (x y : Int) : Prop where
  bs : Boxed W s 46 (.int .u64 x)
  br : Boxed W r 30 (.int .u64 x)
  be : Boxed W e 46 (.int .u64 y)
  bk : Boxed W k 30 (.int .u64 y)
  ux : U x
  uy : U y
  ls : w.heap.size ≤ s
  lr : w.heap.size ≤ r
  le : w.heap.size ≤ e
  lk : w.heap.size ≤ k
  g : w.grownBy W none
  alt : (e = s ∧ k = r) ∨ (e ≠ s ∧ k ≠ r)
theorem Rn.pr {w W : World} {s r e k : Nat} {x y : Int} (h : Rn w W s r e k x y) : Pr W W s r x := ⟨h.bs, h.br, h.ux, G2.refl _ _ _⟩
theorem Rn.pe {w W : World} {s r e k : Nat} {x y : Int} (h : Rn w W s r e k x y) : Pr W W e k y := ⟨h.be, h.bk, h.uy, G2.refl _ _ _⟩
theorem grown_g2 {s r : Nat} {w a b : World} (h : w.grownBy a none) (g : G2 s r a b) (hs : w.heap.size ≤ s) (hr : w.heap.size ≤ r) : w.grownBy b none :=
  ⟨g.os.trans h.os, g.tape.trans h.tape, g.output.trans h.output, Nat.le_trans h.size g.size, fun k hk hn => (g.block k (Nat.lt_of_lt_of_le hk h.size) (by omega) (by omega)).trans (h.block k hk hn)⟩
theorem G2.boxed {s r : Nat} {a b : World} (g : G2 s r a b) {B : Nat} {t : TypeId} {v : Value} (h : Boxed a B t v) (hs : B ≠ s) (hr : B ≠ r) : Boxed b B t v := (g.block B h.lt hs hr).trans h
theorem Rn.step {w W W' : World} {s r e k : Nat} {x y z : Int} (h : Rn w W s r e k x y) (p : Pr W W' s r z) : ∃ y', Rn w W' s r e k z y' := by
  have hg := grown_g2 h.g p.g h.ls h.lr
  rcases h.alt with ⟨rfl, rfl⟩ | ⟨h1, h2⟩
  · exact ⟨z, p.bs, p.br, p.bs, p.br, p.u, p.u, h.ls, h.lr, h.ls, h.lr, hg, .inl ⟨rfl, rfl⟩⟩
  · exact ⟨y, p.bs, p.br, p.g.boxed h.be h1 (Boxed.ne h.be h.br (by decide)), p.g.boxed h.bk (Ne.symm (Boxed.ne h.bs h.bk (by decide))) h2, p.u, h.uy, h.ls, h.lr, h.le, h.lk, hg, h.alt⟩
theorem Rn.still {w W W' : World} {s r e k : Nat} {x y : Int} (h : Rn w W s r e k x y) (g : W.grownBy W' none) : Rn w W' s r e k x y :=
  ⟨h.bs.kept g (by simp), h.br.kept g (by simp), h.be.kept g (by simp), h.bk.kept g (by simp), h.ux, h.uy, h.ls, h.lr, h.le, h.lk, grown_none h.g g, h.alt⟩
theorem Rn.clone {w W : World} {s r e k : Nat} {x y : Int} (h : Rn w W s r e k x y) :
    Rn w ((W.alloc (.cells #[.int .u64 x] 46)).alloc (.cells #[.int .u64 x] 30)) W.heap.size (W.heap.size + 1) s r x x := by
  have b2 := Boxed.new (W.alloc (.cells #[.int .u64 x] 46)) 30 (.int .u64 x)
  rw [World.size_alloc] at b2
  have := h.bs.lt
  have := h.br.lt
  have := h.g.size
  exact ⟨(Boxed.new W _ _).alloc _, b2, (h.bs.alloc _).alloc _, (h.br.alloc _).alloc _, h.ux, h.ux, by omega, by omega, h.ls, h.lr, grownBy_al (grownBy_al h.g _) _, .inr ⟨by omega, by omega⟩⟩
theorem rn_new (w : World) (x : Int) (hx : U x) : Rn w ((w.alloc (.cells #[.int .u64 x] 46)).alloc (.cells #[.int .u64 x] 30)) w.heap.size (w.heap.size + 1) w.heap.size (w.heap.size + 1) x x := by
  have b2 := Boxed.new (w.alloc (.cells #[.int .u64 x] 46)) 30 (.int .u64 x)
  rw [World.size_alloc] at b2
  have b1 := (Boxed.new w 46 (.int .u64 x)).alloc (.cells #[.int .u64 x] 30)
  exact ⟨b1, b2, b1, b2, hx, hx, by omega, by omega, by omega, by omega, grownBy_al (grownBy_al (grownBy_refl _ _) _) _, .inl ⟨rfl, rfl⟩⟩

theorem Tryd.info46 : (Tryd.prog.info? 46).map (fun i => i.size) = some 1 := by kernel_rfl
theorem eql_same (W : World) (e : Nat) : (binOp .eql 26 (.pointer (some ⟨e, 0, none⟩)) (.pointer (some ⟨e, 0, none⟩))).run Tryd.prog W = .ok (.bool true) W := by
  obtain ⟨i, hi, _⟩ := Option.map_eq_some_iff.1 Tryd.info46
  exact run_eql_ptr_same W _ Tryd.underlying26 hi
theorem eql_other {w W : World} {s r e k : Nat} {x y : Int} (h : Rn w W s r e k x y) (hn : e ≠ s) : (binOp .eql 26 (.pointer (some ⟨e, 0, none⟩)) (.pointer (some ⟨s, 0, none⟩))).run Tryd.prog W = .ok (.bool false) W := by
  obtain ⟨i, hi, hs⟩ := Option.map_eq_some_iff.1 Tryd.info46
  exact run_eql_ptr_other W Tryd.underlying26 hi (by rw [hs]; decide) (fun e => hn (by cases e; rfl)) h.be h.bs

set_option maxHeartbeats 2000000 in
theorem runs_long (a : Option Addr) (n cap : Nat) (x : Int) (w : World) (hn : 1000 < n) :
    Calls Tryd.prog 3 #[.int .u64 x, .slice a n cap] w fun e w' => e = .returned (.bool true) ∧ w.grownBy w' none := by
  have hn' : (1000 : Int) < n := by omega
  go_enter Tryd.func3, Tryd.ntmps3
  go_wp2_with fail
  refine (awake_c _).mono ?_
  rintro e w1 ⟨rfl, g1⟩
  go_wp2
  go_ret
  exact ⟨rfl, g1⟩

set_option maxRecDepth 100000 in
set_option maxHeartbeats 4000000 in
theorem runs_short (a : Option Addr) (n cap : Nat) (K N : Nat → Int) (x : Int) (w : World) (h : OpAt w a n K N) (hn : n ≤ 1000) (hx : U x) (hT : Tab w) (hw : 0 < w.heap.size) :
    Calls Tryd.prog 3 #[.int .u64 x, .slice a n cap] w fun e w' => e = .returned (.bool true) ∧ w.grownBy w' none := by
  have hn' : ¬ (1000 : Int) < n := by omega
  have R0 := rn_new w x hx
  have hwk := work_c a n cap K N w h hn
  go_enter Tryd.func3, Tryd.ntmps3
  go_wp2_with fail
  refine hwk.mono ?_
  rintro e w1 ⟨m, rfl, rfl⟩
  clear hwk
  by_cases hm : 1048576 < m
  · go_wp2_with fail
    refine (awake_c _).mono ?_
    rintro e w1 ⟨rfl, g1⟩
    go_wp2
    go_ret
    exact ⟨rfl, g1⟩
  · go_wp2_with fail
    refine (new_c _ _).mono ?_
    rintro e w1 ⟨rfl, rfl⟩
    go_wp2
    go_loopw [5, 6, 7, 8, 9] (fun vs vr ve vk vi wr => ∃ (s r e k q : Nat) (y z : Int), vs = .pointer (some ⟨s, 0, none⟩) ∧ vr = .pointer (some ⟨r, 0, none⟩) ∧ ve = .pointer (some ⟨e, 0, none⟩) ∧ vk = .pointer (some ⟨k, 0, none⟩) ∧ vi = .int .i64 q ∧ q ≤ n ∧ Rn w wr s r e k y z) (fun _ _ _ _ vi _ => n - (intOf vi).toNat)
    case atStart => exact ⟨_, _, _, _, 0, _, _, rfl, rfl, rfl, rfl, rfl, Nat.zero_le _, R0⟩
    case round =>
      clear R0
      obtain ⟨s, r, e, k, q, y, z, rfl, rfl, rfl, rfl, rfl, hq, R⟩ := hrel
      have hs0 : 0 < s := by have := R.ls; omega
      have he0 : 0 < e := by have := R.le; omega
      have T := hT.kept R.g
      by_cases hlt : q < n
      · have hlt' : (q : Int) < n := by omega
        obtain ⟨b, o, rfl, c0, c1⟩ := h.kept R.g q hlt
        generalize K q = kk at c0
        generalize N q = nn at c1
        by_cases h4 : kk = 4
        · subst h4
          have R2 := R.clone
          have hcl := clone_c s y wr R.bs
          have cr := (R.br.alloc (.cells #[.int .u64 y] 46)).cell
          go_wp2_with fail
          refine hcl.mono ?_
          rintro e1 w1 ⟨rfl, rfl⟩
          go_wp2
          go_roundw
          case rel => exact ⟨_, _, _, _, q + 1, _, _, by simp, by simp, rfl, rfl, by simp, by omega, R2⟩
          case measure => simp [intOf]; omega
        · have hst := step_c s r y kk nn wr R.pr T hs0
          go_wp2_with fail
          refine hst.mono ?_
          rintro e1 w1 ⟨rfl, z', P1⟩
          obtain ⟨y', R2⟩ := R.step P1
          clear hst R
          go_wp2
          go_roundw
          case rel => exact ⟨_, _, _, _, q + 1, _, _, rfl, rfl, rfl, rfl, by simp, by omega, R2⟩
          case measure => simp [intOf]; omega
      · obtain rfl : q = n := by omega
        have hlt' : ¬ (q : Int) < q := by omega
        clear h
        go_wp2_with fail
        refine (awake_c _).mono ?_
        rintro e1 w1 ⟨rfl, g1⟩
        replace R := R.still g1
        replace T := T.kept g1
        clear g1
        go_wp2_with fail
        refine (step_c s r y 0 0 w1 R.pr T hs0).mono ?_
        rintro e1 w2 ⟨rfl, z', P1⟩
        obtain ⟨y', R2⟩ := R.step P1
        have T2 := hT.kept R2.g
        clear R P1 T
        by_cases hes : e = s
        · subst hes
          have he := eql_same w2 e
          go_wp2
          go_ret
          exact ⟨rfl, R2.g⟩
        · have he := eql_other R2 hes
          go_wp2_with fail
          refine (step_c e k y' 0 0 w2 R2.pe T2 he0).mono ?_
          rintro e1 w3 ⟨rfl, z2, P2⟩
          have G := grown_g2 R2.g P2.g R2.le R2.lk
          go_wp2
          go_ret
          exact ⟨rfl, G⟩

theorem randRuns_any (a : Option Addr) (n cap : Nat) (K N : Nat → Int) (x : Int) (w : World) (h : OpAt w a n K N) (hx : U x) (hT : Tab w) (hw : 0 < w.heap.size) :
    Calls Tryd.prog 3 #[.int .u64 x, .slice a n cap] w fun e w' => e = .returned (.bool true) ∧ w.grownBy w' none := by
  by_cases hn : n ≤ 1000
  · exact runs_short a n cap K N x w h hn hx hT hw
  · exact runs_long a n cap x w (by omega)

end Go.Proofs.YtjediopfnjkihaaDoor
