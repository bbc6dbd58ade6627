import Derived.Test.YtgbgejflmbhigaaGreatKw0
namespace Go.Proofs.YtgbgejflmbhigaaGreat
open Go.RowKit
set_option maxHeartbeats 1000000
def dd (n i:Nat):Int:=((n / 65536 ^ i % 65536:Nat):Int)
abbrev Nm (n:Nat) (o:Bool):Value:=.agg #[.int .i64 (dd n 0),.int .i64 (dd n 1),.int .i64 (dd n 2),.int .i64 (dd n 3),.int .i64 (dd n 4),.int .i64 (dd n 5),.int .i64 (dd n 6),.int .i64 (dd n 7),.bool o]
theorem dd_lo (n:Nat):dd n 0=lo n % 65536/\dd n 1=lo n / 65536 % 65536/\dd n 2=lo n / 65536 / 65536 % 65536/\dd n 3=lo n / 65536 / 65536 / 65536 % 65536:=by
 unfold dd lo;simp only [Nat.reducePow];omega
theorem dd_hi (n:Nat):dd n 4=hi n % 65536/\dd n 5=hi n / 65536 % 65536/\dd n 6=hi n / 65536 / 65536 % 65536/\dd n 7=hi n / 65536 / 65536 / 65536 % 65536:=by
 unfold dd hi;simp only [Nat.reducePow];omega
theorem of_c (h l:Int) (h0:0<=h) (h1:h < 18446744073709551616) (l0:0<=l) (l1:l < 18446744073709551616) (w:World) :
  Calls Tryz.prog 162 #[.agg #[.int .u64 h,.int .u64 l]] w fun e w' =>
   e=.returned (.agg #[.int .i64 (l % 65536),.int .i64 (l / 65536 % 65536),.int .i64 (l / 65536 / 65536 % 65536),.int .i64 (l / 65536 / 65536 / 65536 % 65536),.int .i64 (h % 65536),.int .i64 (h / 65536 % 65536),.int .i64 (h / 65536 / 65536 % 65536),.int .i64 (h / 65536 / 65536 / 65536 % 65536),.bool false])/\Gr w w':=by
 go_enter Tryz.func162,Tryz.ntmps162
 go_wp2
 go_rounds 5
 exact bodyPost_ret (v:=.agg #[.int .i64 (l % 65536),.int .i64 (l / 65536 % 65536),.int .i64 (l / 65536 / 65536 % 65536),.int .i64 (l / 65536 / 65536 / 65536 % 65536),.int .i64 (h % 65536),.int .i64 (h / 65536 % 65536),.int .i64 (h / 65536 / 65536 % 65536),.int .i64 (h / 65536 / 65536 / 65536 % 65536),.bool false]) (by simp [results,Tryz.results162,go_sem]) rfl
  ⟨rfl,(((Gr.refl _).alloc _ _).alloc _ _).alloc _ _⟩
theorem of_any (n:Nat) (hn:n < 340282366920938463463374607431768211456) (w:World) :
  Calls Tryz.prog 162 #[Wd n] w fun e w'=>e=.returned (Nm n false)/\Gr w w':=by
 obtain ⟨a0,a1,a2,a3⟩:=dd_lo n
 obtain ⟨b0,b1,b2,b3⟩:=dd_hi n
 rw [Nm,a0,a1,a2,a3,b0,b1,b2,b3]
 exact of_c (hi n) (lo n) (hi_bd hn).1 (hi_bd hn).2 (lo_bd n).1 (lo_bd n).2 w
structure NumAt (w:World) (B n:Nat) (o:Bool):Prop where
 d:∀ j,j < 8->w.cell? ⟨B,j,none⟩=some (.int .i64 (dd n j))
 o:w.cell? ⟨B,8,none⟩=some (.bool o)
 f:∀ j,j < 9->w.frozen? ⟨B,j,none⟩=false
theorem NumAt.call {w w':World} {B n:Nat} {o:Bool} (h:NumAt w B n o) (g:Gr w w'):NumAt w' B n o :=
 ⟨fun j hj=>g.keeps (h.d j hj),g.keeps h.o,fun j hj=>(g.froz _).trans (h.f j hj)⟩
theorem NumAt.far {w:World} {B n:Nat} {o:Bool} (h:NumAt w B n o) (b k:Nat) (hb:b ≠ B) (x:Value):NumAt (w.setCell ⟨b,k,none⟩ x) B n o :=
 ⟨fun j hj=>(World.cell?_setCell_far w _ _ x hb).trans (h.d j hj),(World.cell?_setCell_far w _ _ x hb).trans h.o,fun j hj=>(World.frozen?_setCell _ _ _ _).trans (h.f j hj)⟩
theorem NumAt.setOver {w:World} {B n:Nat} {o:Bool} (h:NumAt w B n o) (o':Bool):NumAt (w.setCell ⟨B,8,none⟩ (.bool o')) B n o' :=
 ⟨fun j hj=>(World.cell?_setCell_other w _ _ _ (by intro e;injection e;omega)).trans (h.d j hj),World.cell?_setCell_same _ _ _ h.o,fun j hj=>(World.frozen?_setCell _ _ _ _).trans (h.f j hj)⟩
theorem NumAt.setDigit {w:World} {B n m:Nat} {o:Bool} (h:NumAt w B n o) (i:Nat) (hi:i < 8) (x:Int) (hx:dd m i=x) (hm:∀ j,j < 8->j ≠ i->dd m j=dd n j):NumAt (w.setCell ⟨B,i,none⟩ (.int .i64 x)) B m o:=by
 refine ⟨fun j hj=>?_,(World.cell?_setCell_other w _ _ _ (by intro e;injection e;omega)).trans h.o,fun j hj=>(World.frozen?_setCell _ _ _ _).trans (h.f j hj)⟩
 by_cases e:j=i
 ·subst e;rw [hx];exact World.cell?_setCell_same _ _ _ (h.d j hj)
 ·rw [hm j hj e];exact (World.cell?_setCell_other w _ _ _ (by intro e2;injection e2;omega)).trans (h.d j hj)
theorem NumAt.cells {w:World} {B n:Nat} {o:Bool} (h:NumAt w B n o) :
  w.cell? ⟨B,0,none⟩=some (.int .i64 (dd n 0))/\w.cell? ⟨B,1,none⟩=some (.int .i64 (dd n 1))/\w.cell? ⟨B,2,none⟩=some (.int .i64 (dd n 2))/\w.cell? ⟨B,3,none⟩=some (.int .i64 (dd n 3)) /\
  w.cell? ⟨B,4,none⟩=some (.int .i64 (dd n 4))/\w.cell? ⟨B,5,none⟩=some (.int .i64 (dd n 5))/\w.cell? ⟨B,6,none⟩=some (.int .i64 (dd n 6))/\w.cell? ⟨B,7,none⟩=some (.int .i64 (dd n 7))/\w.cell? ⟨B,8,none⟩=some (.bool o) :=
 ⟨h.d 0 (by omega),h.d 1 (by omega),h.d 2 (by omega),h.d 3 (by omega),h.d 4 (by omega),h.d 5 (by omega),h.d 6 (by omega),h.d 7 (by omega),h.o⟩
theorem NumAt.open9 {w:World} {B n:Nat} {o:Bool} (h:NumAt w B n o) :
  w.frozen? ⟨B,0,none⟩=false/\w.frozen? ⟨B,1,none⟩=false/\w.frozen? ⟨B,2,none⟩=false/\w.frozen? ⟨B,3,none⟩=false/\w.frozen? ⟨B,4,none⟩=false/\w.frozen? ⟨B,5,none⟩=false/\w.frozen? ⟨B,6,none⟩=false/\w.frozen? ⟨B,7,none⟩=false/\w.frozen? ⟨B,8,none⟩=false :=
 ⟨h.f 0 (by omega),h.f 1 (by omega),h.f 2 (by omega),h.f 3 (by omega),h.f 4 (by omega),h.f 5 (by omega),h.f 6 (by omega),h.f 7 (by omega),h.f 8 (by omega)⟩
theorem NumAt.new (w:World) (n:Nat) (o:Bool) (t:TypeId):NumAt (w.alloc (.cells #[.int .i64 (dd n 0),.int .i64 (dd n 1),.int .i64 (dd n 2),.int .i64 (dd n 3),.int .i64 (dd n 4),.int .i64 (dd n 5),.int .i64 (dd n 6),.int .i64 (dd n 7),.bool o] t)) w.heap.size n o:=by
 refine ⟨fun j hj=>?_,by simp [go_sem],fun j _=>by simp [go_sem]⟩
 rw [World.cell?_alloc_at _ _ _ _ rfl]
 have:j=0 ∨ j=1 ∨ j=2 ∨ j=3 ∨ j=4 ∨ j=5 ∨ j=6 ∨ j=7:=by omega
 rcases this with rfl | rfl | rfl | rfl | rfl | rfl | rfl | rfl <;> rfl
theorem NumAt.store {w:World} {B n:Nat} {o:Bool} (h:NumAt w B n o) (m:Nat) (p:Bool) :
  NumAt (((((((((w.setCell ⟨B,0,none⟩ (.int .i64 (dd m 0))).setCell ⟨B,1,none⟩ (.int .i64 (dd m 1))).setCell ⟨B,2,none⟩ (.int .i64 (dd m 2))).setCell ⟨B,3,none⟩ (.int .i64 (dd m 3))).setCell ⟨B,4,none⟩ (.int .i64 (dd m 4))).setCell ⟨B,5,none⟩ (.int .i64 (dd m 5))).setCell ⟨B,6,none⟩ (.int .i64 (dd m 6))).setCell ⟨B,7,none⟩ (.int .i64 (dd m 7))).setCell ⟨B,8,none⟩ (.bool p)) B m p:=by
 obtain ⟨c0,c1,c2,c3,c4,c5,c6,c7,c8⟩:=h.cells
 refine ⟨fun j hj=>?_,by simp [go_sem,c8],fun j hj=>?_⟩
 ·have:j=0 ∨ j=1 ∨ j=2 ∨ j=3 ∨ j=4 ∨ j=5 ∨ j=6 ∨ j=7:=by omega
  rcases this with rfl | rfl | rfl | rfl | rfl | rfl | rfl | rfl <;> simp [go_sem, *]
 ·simp only [World.frozen?_setCell];exact h.f j hj
def setD (n i x:Nat):Nat:=n + x * 65536 ^ i - n / 65536 ^ i % 65536 * 65536 ^ i
theorem setD_spec (n i x:Nat) (hn:n < 340282366920938463463374607431768211456) (hi:i < 8) (hx:x < 65536) :
  dd (setD n i x) i=(x:Int)/\(∀ j,j < 8->j ≠ i->dd (setD n i x) j=dd n j)/\setD n i x < 340282366920938463463374607431768211456/\setD n i x + n / 65536 ^ i % 65536 * 65536 ^ i=n + x * 65536 ^ i:=by
 have hc:i=0 ∨ i=1 ∨ i=2 ∨ i=3 ∨ i=4 ∨ i=5 ∨ i=6 ∨ i=7:=by omega
 rcases hc with rfl | rfl | rfl | rfl | rfl | rfl | rfl | rfl
 all_goals
  unfold dd setD
  simp only [Nat.reducePow]
  refine ⟨by omega,fun j hj hne=>?_,by omega,by omega⟩
  have hj2:j=0 ∨ j=1 ∨ j=2 ∨ j=3 ∨ j=4 ∨ j=5 ∨ j=6 ∨ j=7:=by omega
  rcases hj2 with rfl | rfl | rfl | rfl | rfl | rfl | rfl | rfl
  all_goals first | (exfalso;omega) | (simp only [Nat.reducePow];omega)
end Go.Proofs.YtgbgejflmbhigaaGreat
