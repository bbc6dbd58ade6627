import Derived.Test.YtcipdampcmfmaabGreatProg
import Derived.WalkKit
import Derived.WalkSpells
import Derived.WalkLawsBesides
import Derived.Laws.Externs
import Derived.RowKit3
import Derived.WalkSmall
import Derived.Deep.RegionHeld3
import Derived.Handy
import Derived.Lib.Mul64
import Derived.Laws.Bits64b
import Derived.WalkMore
import Derived.BigQuiet
namespace Go.Proofs.YtcipdampcmfmaabGreat
open Go.RowKit
structure Gr (w w':World):Prop where
 below:Below w.heap.size w w'
 froz:∀ a,w'.frozen? a=w.frozen? a
theorem Gr.refl (w:World):Gr w w:=⟨Below.refl _ _,fun _=>rfl⟩
theorem Gr.trans {a b c:World} (h:Gr a b) (k:Gr b c):Gr a c :=
 ⟨h.below.trans (k.below.mono h.below.size),fun x=>(k.froz x).trans (h.froz x)⟩
theorem Gr.alloc {a w:World} (h:Gr a w) (c:Array Value) (t:TypeId):Gr a (w.alloc (.cells c t)) :=
 ⟨h.below.alloc h.below.size _,fun x=>(frozen?_alloc_cells _ _ _ x).trans (h.froz x)⟩
theorem Gr.setCell {a w:World} (h:Gr a w) {p:Addr} (hp:a.heap.size<=p.block) (u:Value):Gr a (w.setCell p u) :=
 ⟨h.below.setCell hp u,fun x=>(World.frozen?_setCell _ _ _ _).trans (h.froz x)⟩
theorem Gr.drew {a w:World} (h:Gr a w):Gr a w.drew:=⟨h.below.drew,h.froz⟩
theorem Gr.size {a b:World} (h:Gr a b):a.heap.size<=b.heap.size:=h.below.size
theorem Gr.cell {a b:World} (h:Gr a b):∀ k o,k < a.heap.size->b.cell? ⟨k,o,none⟩=a.cell? ⟨k,o,none⟩ :=
 fun k o hk=>h.below.cell (p:=⟨k,o,none⟩) hk
theorem Gr.drewN {a w:World} (h:Gr a w) (n:Nat):Gr a (w.drewN n):=⟨below_drewN h.below n,h.froz⟩
theorem Gr.rules {a b:World} (h:Gr a b):(∀ k o,k < a.heap.size->b.cell? ⟨k,o,none⟩=a.cell? ⟨k,o,none⟩)/\(∀ p,b.frozen? p=a.frozen? p)/\(∀ k,k < a.heap.size->k < b.heap.size) :=
 ⟨h.cell,h.froz,fun _ hk=>Nat.lt_of_lt_of_le hk h.size⟩
theorem Gr.keeps {a b:World} (h:Gr a b) {p:Addr} {v:Value} (hc:a.cell? p=some v):b.cell? p=some v :=
 (h.below.cell (World.block_lt_of_cell? a p hc)).trans hc
theorem alloc_keeps {a:World} {p:Addr} {v:Value} (hc:a.cell? p=some v) (o:Obj):(a.alloc o).cell? p=some v :=
 (World.cell?_alloc_lt _ _ _ (World.block_lt_of_cell? a p hc)).trans hc
theorem call_keeps2 {W w':World} {p q:Addr} {u v:Value} (h:Gr W w') (hs:W.cell? p=some u/\W.cell? q=some v):w'.cell? p=some u/\w'.cell? q=some v:=⟨h.keeps hs.1,h.keeps hs.2⟩
theorem alloc_keeps2 {W:World} {p q:Addr} {u v:Value} {o:Obj} (hs:W.cell? p=some u/\W.cell? q=some v):(W.alloc o).cell? p=some u/\(W.alloc o).cell? q=some v:=⟨alloc_keeps hs.1 o,alloc_keeps hs.2 o⟩
theorem set_far2 {W:World} {p q:Addr} {u v:Value} {b o:Nat} {x:Value} (hp:b ≠ p.block) (hq:b ≠ q.block) (h:W.cell? p=some u/\W.cell? q=some v) :
  (W.setCell ⟨b,o,none⟩ x).cell? p=some u/\(W.setCell ⟨b,o,none⟩ x).cell? q=some v:=⟨(World.cell?_setCell_far W _ p x hp).trans h.1,(World.cell?_setCell_far W _ q x hq).trans h.2⟩
theorem Gr.var2 {w w':World} {x y:Value} {t:TypeId} (h:Gr (w.alloc (.cells #[x,y] t)) w') :
  w'.cell? ⟨w.heap.size,0,none⟩=some x/\w'.cell? ⟨w.heap.size,1,none⟩=some y/\w'.frozen? ⟨w.heap.size,0,none⟩=false/\w'.frozen? ⟨w.heap.size,1,none⟩=false :=
 ⟨h.keeps (by simp [go_sem]),h.keeps (by simp [go_sem]),(h.froz _).trans (by simp [go_sem]),(h.froz _).trans (by simp [go_sem])⟩
theorem lt_two (n:Nat):n < n + 1 + 1:=by omega
theorem lt_three (n:Nat):n < n + 1 + 1 + 1:=by omega
theorem cell_lt {a:World} {p:Addr} {v:Value} (hc:a.cell? p=some v):p.block < a.heap.size:=World.block_lt_of_cell? a p hc
def hi (n:Nat):Int:=((n / 18446744073709551616:Nat):Int)
def lo (n:Nat):Int:=((n % 18446744073709551616:Nat):Int)
abbrev Wd (n:Nat):Value:=.agg #[.int .u64 (hi n),.int .u64 (lo n)]
theorem lo_bd (n:Nat):0<=lo n/\lo n < 18446744073709551616:=by unfold lo;omega
theorem hi_nn (n:Nat):0<=hi n:=by unfold hi;omega
theorem hi_bd {n:Nat} (h:n < 340282366920938463463374607431768211456):0<=hi n/\hi n < 18446744073709551616:=by unfold hi;omega
theorem add64 (x y c:Int) (hx:0<=x) (hy:0<=y) (hc0:0<=c) (hc:c<=1) (w:World):(callFunc 186 #[.int .u64 x,.int .u64 y,.int .u64 c]).run Tryz.prog w =
  .ok (.value (.tuple #[.int .u64 ((x + y + c) % 18446744073709551616),.int .u64 ((x + y + c) / 18446744073709551616)])) w:=by
 rw [run_callFunc_extern Tryz.func186 (by kernel_rfl) (by kernel_rfl) (by kernel_rfl) (e:=add64Entry) (by kernel_rfl),run_add64 x y c hx hy hc0 hc]
 simp only [Result.andThen]
theorem add64_0 (x y:Int) (hx:0<=x) (hy:0<=y) (w:World):(callFunc 186 #[.int .u64 x,.int .u64 y,.int .u64 0]).run Tryz.prog w =
  .ok (.value (.tuple #[.int .u64 ((x + y) % 18446744073709551616),.int .u64 ((x + y) / 18446744073709551616)])) w:=by
 simpa using add64 x y 0 hx hy (Int.le_refl 0) (by decide) w
theorem ret_bool {a b:Bool} (h:a=b):Ending.returned (.bool a)=.returned (.bool b):=by rw [h]
theorem small_wd (d:Nat) (h:d < 18446744073709551616):(Value.agg #[.int .u64 0,.int .u64 (d:Int)])=Wd d:=by
 have e1:hi d=0:=by unfold hi;omega
 have e2:lo d=(d:Int):=by unfold lo;omega
 rw [Wd,e1,e2]
theorem call_keeps4 {W w':World} {p q r s:Addr} {x y u v:Value} (h:Gr W w') (hs:W.cell? p=some x/\W.cell? q=some y/\W.cell? r=some u/\W.cell? s=some v) :
  w'.cell? p=some x/\w'.cell? q=some y/\w'.cell? r=some u/\w'.cell? s=some v:=⟨h.keeps hs.1,h.keeps hs.2.1,h.keeps hs.2.2.1,h.keeps hs.2.2.2⟩
end Go.Proofs.YtcipdampcmfmaabGreat

namespace Go.Proofs.YtcipdampcmfmaabGreat
open Go.RowKit
set_option maxHeartbeats 400000
theorem addc_ok (ah al bh bl:Int) (a0:0<=ah) (b0:0<=al) (b1:al < 18446744073709551616) (c0:0<=bh) (d0:0<=bl) (d1:bl < 18446744073709551616)
  (hlt:(ah + bh + (al + bl) / 18446744073709551616) / 18446744073709551616=0) (w:World) :
  Calls Tryz.prog 161 #[.agg #[.int .u64 ah,.int .u64 al],.agg #[.int .u64 bh,.int .u64 bl]] w fun e w' =>
   e=.returned (.tuple #[.agg #[.int .u64 ((ah + bh + (al + bl) / 18446744073709551616) % 18446744073709551616),.int .u64 ((al + bl) % 18446744073709551616)],.int .i64 0])/\Gr w w':=by
 have k0:0<=(al + bl) / 18446744073709551616:=by omega
 have k1:(al + bl) / 18446744073709551616<=1:=by omega
 go_enter Tryz.func161,Tryz.ntmps161
 go_wp2_with (first | simp only [add64_0 al bl b0 d0] | simp only [add64 ah bh _ a0 c0 k0 k1])
 exact bodyPost_ret (v:=.tuple #[.agg #[.int .u64 ((ah + bh + (al + bl) / 18446744073709551616) % 18446744073709551616),.int .u64 ((al + bl) % 18446744073709551616)],.int .i64 0]) (by simp [results,Tryz.results161,go_sem]) rfl
  ⟨rfl,(((Gr.refl _).alloc _ _).alloc _ _).alloc _ _⟩
theorem add_ok (a b:Nat) (h:a + b < 340282366920938463463374607431768211456) (w:World) :
  Calls Tryz.prog 161 #[Wd a,Wd b] w fun e w'=>e=.returned (.tuple #[Wd (a + b),.int .i64 0])/\Gr w w':=by
 have e1:(hi a + hi b + (lo a + lo b) / 18446744073709551616) % 18446744073709551616=hi (a + b):=by unfold hi lo;omega
 have e2:(lo a + lo b) % 18446744073709551616=lo (a + b):=by unfold lo;omega
 have e3:(hi a + hi b + (lo a + lo b) / 18446744073709551616) / 18446744073709551616=0:=by unfold hi lo;omega
 have:=addc_ok (hi a) (lo a) (hi b) (lo b) (hi_nn a) (lo_bd a).1 (lo_bd a).2 (hi_nn b) (lo_bd b).1 (lo_bd b).2 e3 w
 rw [e1,e2] at this
 exact this
theorem cmpc_eq (ah al:Int) (w:World) :
  Calls Tryz.prog 54 #[.agg #[.int .u64 ah,.int .u64 al],.agg #[.int .u64 ah,.int .u64 al]] w fun e w'=>e=.returned (.int .i64 0)/\Gr w w':=by
 go_enter Tryz.func54,Tryz.ntmps54
 go_wp2
 go_ret
 exact ⟨rfl,((Gr.refl _).alloc _ _).alloc _ _⟩
theorem cmpc_hi (ah al bh bl:Int) (h:ah < bh) (w:World) :
  Calls Tryz.prog 54 #[.agg #[.int .u64 ah,.int .u64 al],.agg #[.int .u64 bh,.int .u64 bl]] w fun e w'=>e=.returned (.int .i64 (-1))/\Gr w w':=by
 have h1:(ah == bh)=false:=by rw [beq_eq_false_iff_ne];omega
 go_enter Tryz.func54,Tryz.ntmps54
 go_wp2
 go_ret
 exact ⟨rfl,((Gr.refl _).alloc _ _).alloc _ _⟩
theorem cmpc_hi' (ah al bh bl:Int) (h:bh < ah) (w:World) :
  Calls Tryz.prog 54 #[.agg #[.int .u64 ah,.int .u64 al],.agg #[.int .u64 bh,.int .u64 bl]] w fun e w'=>e=.returned (.int .i64 1)/\Gr w w':=by
 have h1:(ah == bh)=false:=by rw [beq_eq_false_iff_ne];omega
 go_enter Tryz.func54,Tryz.ntmps54
 go_wp2
 go_ret
 exact ⟨rfl,((Gr.refl _).alloc _ _).alloc _ _⟩
theorem cmpc_lo (ah al bl:Int) (h:al < bl) (w:World) :
  Calls Tryz.prog 54 #[.agg #[.int .u64 ah,.int .u64 al],.agg #[.int .u64 ah,.int .u64 bl]] w fun e w'=>e=.returned (.int .i64 (-1))/\Gr w w':=by
 have h1:(al == bl)=false:=by rw [beq_eq_false_iff_ne];omega
 go_enter Tryz.func54,Tryz.ntmps54
 go_wp2
 go_ret
 exact ⟨rfl,((Gr.refl _).alloc _ _).alloc _ _⟩
theorem cmpc_lo' (ah al bl:Int) (h:bl < al) (w:World) :
  Calls Tryz.prog 54 #[.agg #[.int .u64 ah,.int .u64 al],.agg #[.int .u64 ah,.int .u64 bl]] w fun e w'=>e=.returned (.int .i64 1)/\Gr w w':=by
 have h1:(al == bl)=false:=by rw [beq_eq_false_iff_ne];omega
 go_enter Tryz.func54,Tryz.ntmps54
 go_wp2
 go_ret
 exact ⟨rfl,((Gr.refl _).alloc _ _).alloc _ _⟩
def cmp3 (a b:Nat):Int:=if a < b then -1 else if a=b then 0 else 1
theorem cmp_any (a b:Nat) (w:World) :
  Calls Tryz.prog 54 #[Wd a,Wd b] w fun e w'=>e=.returned (.int .i64 (cmp3 a b))/\Gr w w':=by
 by_cases h1:hi a < hi b
 ·have e:cmp3 a b=-1:=by unfold cmp3;rw [if_pos];unfold hi at h1;omega
  rw [e];exact cmpc_hi _ _ _ _ h1 w
 by_cases h2:hi b < hi a
 ·have e:cmp3 a b=1:=by unfold cmp3;unfold hi at h1 h2;rw [if_neg (by omega),if_neg (by omega)]
  rw [e];exact cmpc_hi' _ _ _ _ h2 w
 have h3:hi b=hi a:=by omega
 by_cases h4:lo a < lo b
 ·have e:cmp3 a b=-1:=by unfold cmp3;rw [if_pos];unfold hi lo at *;omega
  rw [e,Wd,Wd,h3];exact cmpc_lo _ _ _ h4 w
 by_cases h5:lo b < lo a
 ·have e:cmp3 a b=1:=by unfold cmp3;unfold hi lo at *;rw [if_neg (by omega),if_neg (by omega)]
  rw [e,Wd,Wd,h3];exact cmpc_lo' _ _ _ h5 w
 have h6:lo b=lo a:=by omega
 have e:cmp3 a b=0:=by unfold cmp3;unfold hi lo at *;rw [if_neg (by omega),if_pos (by omega)]
 rw [e,Wd,Wd,h3,h6];exact cmpc_eq _ _ w
end Go.Proofs.YtcipdampcmfmaabGreat

namespace Go.Proofs.YtcipdampcmfmaabGreat
open Go.RowKit
set_option maxHeartbeats 1000000
theorem mask32 (a:Nat) (ha:a < 18446744073709551616):bits .and .u64 (a:Int) 4294967295=((a % 4294967296:Nat):Int) :=
 (bits_and_u64_nat a 4294967295 ha (by omega)).trans (congrArg Int.ofNat (Nat.and_two_pow_sub_one_eq_mod a 32))
theorem ret2u {k k':IntKind} {a a' b b':Int} (h:a=a') (h':b=b'):Ending.returned (.tuple #[.int k a,.int k' b])=.returned (.tuple #[.int k a',.int k' b']):=by rw [h,h']
theorem mul64 (x y:Nat) (hx:x < 18446744073709551616) (hy:y < 18446744073709551616) (w:World) :
  Calls Tryz.prog 187 #[.int .u64 (x:Int),.int .u64 (y:Int)] w fun e w'=>e=.returned (.tuple #[.int .u64 (hi (x * y)),.int .u64 (lo (x * y))])/\w'=w:=by
 obtain ⟨k1,k2,k3,k4⟩:=Lib.mul64_hi x y hx hy
 have ks:=Lib.half_mul_le (a:=x / 4294967296) (b:=y / 4294967296) (by omega) (by omega)
 have kq:=Lib.half_mul_le (a:=x / 4294967296) (b:=y % 4294967296) (by omega) (by omega)
 have kr:=Lib.half_mul_le (a:=x % 4294967296) (b:=y / 4294967296) (by omega) (by omega)
 have mx:=mask32 x hx
 have my:=mask32 y hy
 have dx:(x:Int) / 4294967296=((x / 4294967296:Nat):Int):=by omega
 have dy:(y:Int) / 4294967296=((y / 4294967296:Nat):Int):=by omega
 have L:Hid (IntKind.u64.wrap ((x:Int) * (y:Int))=lo (x * y)):=by
  unfold Hid lo;rw [<- Int.natCast_mul,IntKind.wrap_u64];omega
 generalize x % 4294967296=x0 at *
 generalize x / 4294967296=x1 at *
 generalize y % 4294967296=y0 at *
 generalize y / 4294967296=y1 at *
 have p1:(x0:Int) * (y0:Int)=((x0 * y0:Nat):Int):=(Int.natCast_mul _ _).symm
 have p2:(x1:Int) * (y0:Int)=((x1 * y0:Nat):Int):=(Int.natCast_mul _ _).symm
 have p3:(x0:Int) * (y1:Int)=((x0 * y1:Nat):Int):=(Int.natCast_mul _ _).symm
 have p4:(x1:Int) * (y1:Int)=((x1 * y1:Nat):Int):=(Int.natCast_mul _ _).symm
 generalize x0 * y0=p at *
 generalize x1 * y0=q at *
 generalize x0 * y1=r at *
 generalize x1 * y1=s at *
 have mt:=mask32 (q + p / 4294967296) k2
 have et:(q:Int) + (p:Int) / 4294967296=((q + p / 4294967296:Nat):Int):=by omega
 generalize q + p / 4294967296=t at *
 have K:Hid (s + t / 4294967296 + (t % 4294967296 + r) / 4294967296=x * y / 18446744073709551616):=k4
 clear k4
 go_enter Tryz.func187,Tryz.ntmps187
 go_wp2
 go_ret2
 refine ⟨ret2u ?_ L.out,rfl⟩
 unfold hi
 rw [<- K.out]
 omega
theorem mul_any (x y:Nat) (hx:x < 18446744073709551616) (hy:y < 18446744073709551616) (w:World) :
  Calls Tryz.prog 162 #[.int .u64 (x:Int),.int .u64 (y:Int)] w fun e w'=>e=.returned (Wd (x * y))/\Gr w w':=by
 go_enter Tryz.func162,Tryz.ntmps162
 go_wp2_with (go_at_call 187;refine (mul64 x y hx hy _).mono ?_;rintro e w' ⟨rfl,rfl⟩)
 exact bodyPost_ret (v:=Wd (x * y)) (by simp [results,Tryz.results162,go_sem]) rfl ⟨rfl,(Gr.refl _).alloc _ _⟩
theorem mul_int (x y:Int) (hx:0<=x) (hx':x < 18446744073709551616) (hy:0<=y) (hy':y < 18446744073709551616) (w:World) :
  Calls Tryz.prog 162 #[.int .u64 x,.int .u64 y] w fun e w'=>e=.returned (Wd (x.toNat * y.toNat))/\Gr w w':=by
 obtain ⟨x,rfl⟩:=Int.eq_ofNat_of_zero_le hx
 obtain ⟨y,rfl⟩:=Int.eq_ofNat_of_zero_le hy
 exact mul_any x y (by omega) (by omega) w
theorem mul_lt (x y:Nat) (hx:x < 18446744073709551616) (hy:y < 18446744073709551616):x * y < 340282366920938463463374607431768211456:=by
 have:x * y<=18446744073709551615 * 18446744073709551615:=Nat.mul_le_mul (by omega) (by omega)
 omega
end Go.Proofs.YtcipdampcmfmaabGreat

namespace Go.Proofs.YtcipdampcmfmaabGreat
open Go.RowKit
set_option maxHeartbeats 1000000
def IsRoot (a r:Nat):Prop:=r * r<=a/\a < (r + 1) * (r + 1)
theorem sq_le {x y:Nat} (h:x<=y):x * x<=y * y:=Nat.mul_le_mul h h
theorem sqrt_any (a:Nat) (ha:a < 340282366920938463463374607431768211456) (w:World) :
  Calls Tryz.prog 166 #[Wd a] w fun e w'=>∃ r:Nat,e=.returned (.int .u64 (r:Int))/\r < 18446744073709551616/\IsRoot a r/\Gr w w':=by
 go_enter Tryz.func166,Tryz.ntmps166
 go_wp2
 go_step3
 go_wp2
 go_step3
 go_wp2
 go_loopw [3,4] (fun lv hv w'=>∃ x y:Nat,lv=.int .u64 (x:Int)/\hv=.int .u64 (y:Int)/\x<=y/\y < 18446744073709551616/\x * x<=a/\a < (y + 1) * (y + 1)/\Gr (w.alloc (.cells #[.int .u64 (hi a),.int .u64 (lo a)] 40)) w') (fun lv hv _=>(intOf hv - intOf lv).toNat)
 case atStart=>exact ⟨0,18446744073709551615,by simp,by simp,by omega,by omega,by omega,by omega,Gr.refl _⟩
 case round =>
  obtain ⟨x,y,rfl,rfl,hxy,hy,hx2,hy2,hg⟩:=hrel
  have hz:w.heap.size < wr.heap.size:=by have:=hg.size;simp at this;omega
  have c0:wr.cell? ⟨w.heap.size,0,none⟩=some (.int .u64 (hi a)):=by rw [hg.cell _ _ (by simp)];simp [go_sem]
  have c1:wr.cell? ⟨w.heap.size,1,none⟩=some (.int .u64 (lo a)):=by rw [hg.cell _ _ (by simp)];simp [go_sem]
  by_cases hc:x < y
  ·obtain ⟨m,hm⟩:∃ m:Nat,m=y - (y - x) / 2:=⟨_,rfl⟩
   have hm0:((y:Int) - ((y:Int) - (x:Int)) / 2)=(m:Int):=by omega
   have M:Hid (m=y - (y - x) / 2):=hm
   have hm1:m < 18446744073709551616:=by omega
   clear hm
   go_wp2
   go_region_held3 (fun w'=>w'.cell? ⟨w.heap.size,0,none⟩=some (.int .u64 (hi a))/\w'.cell? ⟨w.heap.size,1,none⟩=some (.int .u64 (lo a))) (first | exact ⟨c0,c1⟩ | exact ⟨k0,k1⟩)
    (first
     | (go_at_call 162;refine (mul_any m m hm1 hm1 _).mono ?_;rintro e w1 ⟨rfl,hg1⟩;have k0:w1.cell? ⟨w.heap.size,0,none⟩=some (.int .u64 (hi a)):=(hg1.cell _ _ hz).trans c0;have k1:w1.cell? ⟨w.heap.size,1,none⟩=some (.int .u64 (lo a)):=(hg1.cell _ _ hz).trans c1)
     | (go_at_call 54;refine (cmp_any (m * m) a _).mono ?_;rintro e w2 ⟨rfl,hg2⟩;have k0:w2.cell? ⟨w.heap.size,0,none⟩=some (.int .u64 (hi a)):=(hg2.cell _ _ (Nat.lt_of_lt_of_le hz hg1.size)).trans k0;have k1:w2.cell? ⟨w.heap.size,1,none⟩=some (.int .u64 (lo a)):=(hg2.cell _ _ (Nat.lt_of_lt_of_le hz hg1.size)).trans k1))
   have hG:Gr (w.alloc (.cells #[.int .u64 (hi a),.int .u64 (lo a)] 40)) w2:=(hg.drew.trans hg1).trans hg2
   have hmx:x < m:=by have:=M.out;omega
   have hmy:m<=y:=by have:=M.out;omega
   clear c0 c1 hg hg1 hg2 hz
   by_cases h1:m * m < a
   ·have e1:cmp3 (m * m) a=-1:=by unfold cmp3;rw [if_pos h1]
    go_wp2
    go_roundw
    case rel=>exact ⟨m,y,rfl,rfl,hmy,hy,by omega,hy2,hG⟩
    case measure=>simp [intOf];omega
   by_cases h2:m * m=a
   ·have e1:cmp3 (m * m) a=0:=by unfold cmp3;rw [if_neg h1,if_pos h2]
    have H2:Hid (m * m=a):=h2
    clear h2
    go_wp2
    simp only [Exit.noGoto_ret]
    go_ret
    have h3:=H2.out
    exact ⟨m,rfl,hm1,⟨by omega,by rw [Nat.add_mul,Nat.mul_add];omega⟩,((Gr.refl _).alloc _ _).trans hG⟩
   ·have e1:cmp3 (m * m) a=1:=by unfold cmp3;rw [if_neg h1,if_neg h2]
    have hlt:a < m * m:=by omega
    have H2:Hid (a < m * m):=hlt
    have hm0':1<=m:=by omega
    clear h2 h1 hlt
    go_wp2
    go_roundw
    case rel =>
     obtain ⟨k,rfl⟩:∃ k,m=k + 1:=⟨m - 1,by omega⟩
     exact ⟨x,k,rfl,by simp,by omega,by omega,hx2,H2.out,hG⟩
    case measure=>simp [intOf];omega
  ·go_wp2
   simp only [Exit.noGoto_ret]
   go_ret
   have hyx:y=x:=by omega
   subst hyx
   exact ⟨y,rfl,hy,⟨hx2,hy2⟩,((Gr.refl _).alloc _ _).trans hg⟩
end Go.Proofs.YtcipdampcmfmaabGreat

namespace Go.Proofs.YtcipdampcmfmaabGreat
open Go.RowKit
set_option maxHeartbeats 1000000
def dd (n i:Nat):Int:=((n / 65536 ^ i % 65536:Nat):Int)
abbrev Nm (n:Nat) (o:Bool):Value:=.agg #[.int .i64 (dd n 0),.int .i64 (dd n 1),.int .i64 (dd n 2),.int .i64 (dd n 3),.int .i64 (dd n 4),.int .i64 (dd n 5),.int .i64 (dd n 6),.int .i64 (dd n 7),.bool o]
theorem dd_lo (n:Nat):dd n 0=lo n % 65536/\dd n 1=lo n / 65536 % 65536/\dd n 2=lo n / 65536 / 65536 % 65536/\dd n 3=lo n / 65536 / 65536 / 65536 % 65536:=by
 unfold dd lo;simp only [Nat.reducePow];omega
theorem dd_hi (n:Nat):dd n 4=hi n % 65536/\dd n 5=hi n / 65536 % 65536/\dd n 6=hi n / 65536 / 65536 % 65536/\dd n 7=hi n / 65536 / 65536 / 65536 % 65536:=by
 unfold dd hi;simp only [Nat.reducePow];omega
theorem of_c (h l:Int) (h0:0<=h) (h1:h < 18446744073709551616) (l0:0<=l) (l1:l < 18446744073709551616) (w:World) :
  Calls Tryz.prog 32 #[.agg #[.int .u64 h,.int .u64 l]] w fun e w' =>
   e=.returned (.agg #[.int .i64 (l % 65536),.int .i64 (l / 65536 % 65536),.int .i64 (l / 65536 / 65536 % 65536),.int .i64 (l / 65536 / 65536 / 65536 % 65536),.int .i64 (h % 65536),.int .i64 (h / 65536 % 65536),.int .i64 (h / 65536 / 65536 % 65536),.int .i64 (h / 65536 / 65536 / 65536 % 65536),.bool false])/\Gr w w':=by
 go_enter Tryz.func32,Tryz.ntmps32
 go_wp2
 go_rounds 5
 exact bodyPost_ret (v:=.agg #[.int .i64 (l % 65536),.int .i64 (l / 65536 % 65536),.int .i64 (l / 65536 / 65536 % 65536),.int .i64 (l / 65536 / 65536 / 65536 % 65536),.int .i64 (h % 65536),.int .i64 (h / 65536 % 65536),.int .i64 (h / 65536 / 65536 % 65536),.int .i64 (h / 65536 / 65536 / 65536 % 65536),.bool false]) (by simp [results,Tryz.results32,go_sem]) rfl
  ⟨rfl,(((Gr.refl _).alloc _ _).alloc _ _).alloc _ _⟩
theorem of_any (n:Nat) (hn:n < 340282366920938463463374607431768211456) (w:World) :
  Calls Tryz.prog 32 #[Wd n] w fun e w'=>e=.returned (Nm n false)/\Gr w w':=by
 obtain ⟨a0,a1,a2,a3⟩:=dd_lo n
 obtain ⟨b0,b1,b2,b3⟩:=dd_hi n
 rw [Nm,a0,a1,a2,a3,b0,b1,b2,b3]
 exact of_c (hi n) (lo n) (hi_bd hn).1 (hi_bd hn).2 (lo_bd n).1 (lo_bd n).2 w
structure NumAt (w:World) (B n:Nat) (o:Bool):Prop where
 d:∀ j,j < 8->w.cell? ⟨B,j,none⟩=some (.int .i64 (dd n j))
 o:w.cell? ⟨B,8,none⟩=some (.bool o)
 f:∀ j,j < 9->w.frozen? ⟨B,j,none⟩=false
theorem NumAt.call {w w':World} {B n:Nat} {o:Bool} (h:NumAt w B n o) (g:Gr w w'):NumAt w' B n o :=
 ⟨fun j hj=>g.keeps (h.d j hj),g.keeps h.o,fun j hj=>(g.froz _).trans (h.f j hj)⟩
theorem NumAt.far {w:World} {B n:Nat} {o:Bool} (h:NumAt w B n o) (b k:Nat) (hb:b ≠ B) (x:Value):NumAt (w.setCell ⟨b,k,none⟩ x) B n o :=
 ⟨fun j hj=>(World.cell?_setCell_far w _ _ x hb).trans (h.d j hj),(World.cell?_setCell_far w _ _ x hb).trans h.o,fun j hj=>(World.frozen?_setCell _ _ _ _).trans (h.f j hj)⟩
theorem NumAt.setOver {w:World} {B n:Nat} {o:Bool} (h:NumAt w B n o) (o':Bool):NumAt (w.setCell ⟨B,8,none⟩ (.bool o')) B n o' :=
 ⟨fun j hj=>(World.cell?_setCell_other w _ _ _ (by intro e;injection e;omega)).trans (h.d j hj),World.cell?_setCell_same _ _ _ h.o,fun j hj=>(World.frozen?_setCell _ _ _ _).trans (h.f j hj)⟩
theorem NumAt.setDigit {w:World} {B n m:Nat} {o:Bool} (h:NumAt w B n o) (i:Nat) (hi:i < 8) (x:Int) (hx:dd m i=x) (hm:∀ j,j < 8->j ≠ i->dd m j=dd n j):NumAt (w.setCell ⟨B,i,none⟩ (.int .i64 x)) B m o:=by
 refine ⟨fun j hj=>?_,(World.cell?_setCell_other w _ _ _ (by intro e;injection e;omega)).trans h.o,fun j hj=>(World.frozen?_setCell _ _ _ _).trans (h.f j hj)⟩
 by_cases e:j=i
 ·subst e;rw [hx];exact World.cell?_setCell_same _ _ _ (h.d j hj)
 ·rw [hm j hj e];exact (World.cell?_setCell_other w _ _ _ (by intro e2;injection e2;omega)).trans (h.d j hj)
theorem NumAt.cells {w:World} {B n:Nat} {o:Bool} (h:NumAt w B n o) :
  w.cell? ⟨B,0,none⟩=some (.int .i64 (dd n 0))/\w.cell? ⟨B,1,none⟩=some (.int .i64 (dd n 1))/\w.cell? ⟨B,2,none⟩=some (.int .i64 (dd n 2))/\w.cell? ⟨B,3,none⟩=some (.int .i64 (dd n 3)) /\
  w.cell? ⟨B,4,none⟩=some (.int .i64 (dd n 4))/\w.cell? ⟨B,5,none⟩=some (.int .i64 (dd n 5))/\w.cell? ⟨B,6,none⟩=some (.int .i64 (dd n 6))/\w.cell? ⟨B,7,none⟩=some (.int .i64 (dd n 7))/\w.cell? ⟨B,8,none⟩=some (.bool o) :=
 ⟨h.d 0 (by omega),h.d 1 (by omega),h.d 2 (by omega),h.d 3 (by omega),h.d 4 (by omega),h.d 5 (by omega),h.d 6 (by omega),h.d 7 (by omega),h.o⟩
theorem NumAt.open9 {w:World} {B n:Nat} {o:Bool} (h:NumAt w B n o) :
  w.frozen? ⟨B,0,none⟩=false/\w.frozen? ⟨B,1,none⟩=false/\w.frozen? ⟨B,2,none⟩=false/\w.frozen? ⟨B,3,none⟩=false/\w.frozen? ⟨B,4,none⟩=false/\w.frozen? ⟨B,5,none⟩=false/\w.frozen? ⟨B,6,none⟩=false/\w.frozen? ⟨B,7,none⟩=false/\w.frozen? ⟨B,8,none⟩=false :=
 ⟨h.f 0 (by omega),h.f 1 (by omega),h.f 2 (by omega),h.f 3 (by omega),h.f 4 (by omega),h.f 5 (by omega),h.f 6 (by omega),h.f 7 (by omega),h.f 8 (by omega)⟩
theorem NumAt.new (w:World) (n:Nat) (o:Bool) (t:TypeId):NumAt (w.alloc (.cells #[.int .i64 (dd n 0),.int .i64 (dd n 1),.int .i64 (dd n 2),.int .i64 (dd n 3),.int .i64 (dd n 4),.int .i64 (dd n 5),.int .i64 (dd n 6),.int .i64 (dd n 7),.bool o] t)) w.heap.size n o:=by
 refine ⟨fun j hj=>?_,by simp [go_sem],fun j _=>by simp [go_sem]⟩
 rw [World.cell?_alloc_at _ _ _ _ rfl]
 have:j=0 ∨ j=1 ∨ j=2 ∨ j=3 ∨ j=4 ∨ j=5 ∨ j=6 ∨ j=7:=by omega
 rcases this with rfl | rfl | rfl | rfl | rfl | rfl | rfl | rfl <;> rfl
theorem NumAt.store {w:World} {B n:Nat} {o:Bool} (h:NumAt w B n o) (m:Nat) (p:Bool) :
  NumAt (((((((((w.setCell ⟨B,0,none⟩ (.int .i64 (dd m 0))).setCell ⟨B,1,none⟩ (.int .i64 (dd m 1))).setCell ⟨B,2,none⟩ (.int .i64 (dd m 2))).setCell ⟨B,3,none⟩ (.int .i64 (dd m 3))).setCell ⟨B,4,none⟩ (.int .i64 (dd m 4))).setCell ⟨B,5,none⟩ (.int .i64 (dd m 5))).setCell ⟨B,6,none⟩ (.int .i64 (dd m 6))).setCell ⟨B,7,none⟩ (.int .i64 (dd m 7))).setCell ⟨B,8,none⟩ (.bool p)) B m p:=by
 obtain ⟨c0,c1,c2,c3,c4,c5,c6,c7,c8⟩:=h.cells
 refine ⟨fun j hj=>?_,by simp [go_sem,c8],fun j hj=>?_⟩
 ·have:j=0 ∨ j=1 ∨ j=2 ∨ j=3 ∨ j=4 ∨ j=5 ∨ j=6 ∨ j=7:=by omega
  rcases this with rfl | rfl | rfl | rfl | rfl | rfl | rfl | rfl <;> simp [go_sem, *]
 ·simp only [World.frozen?_setCell];exact h.f j hj
def setD (n i x:Nat):Nat:=n + x * 65536 ^ i - n / 65536 ^ i % 65536 * 65536 ^ i
theorem setD_spec (n i x:Nat) (hn:n < 340282366920938463463374607431768211456) (hi:i < 8) (hx:x < 65536) :
  dd (setD n i x) i=(x:Int)/\(∀ j,j < 8->j ≠ i->dd (setD n i x) j=dd n j)/\setD n i x < 340282366920938463463374607431768211456/\setD n i x + n / 65536 ^ i % 65536 * 65536 ^ i=n + x * 65536 ^ i:=by
 have hc:i=0 ∨ i=1 ∨ i=2 ∨ i=3 ∨ i=4 ∨ i=5 ∨ i=6 ∨ i=7:=by omega
 rcases hc with rfl | rfl | rfl | rfl | rfl | rfl | rfl | rfl
 all_goals
  unfold dd setD
  simp only [Nat.reducePow]
  refine ⟨by omega,fun j hj hne=>?_,by omega,by omega⟩
  have hj2:j=0 ∨ j=1 ∨ j=2 ∨ j=3 ∨ j=4 ∨ j=5 ∨ j=6 ∨ j=7:=by omega
  rcases hj2 with rfl | rfl | rfl | rfl | rfl | rfl | rfl | rfl
  all_goals first | (exfalso;omega) | (simp only [Nat.reducePow];omega)
end Go.Proofs.YtcipdampcmfmaabGreat

namespace Go.Proofs.YtcipdampcmfmaabGreat
open Go.RowKit
set_option maxHeartbeats 4000000
theorem Gr.store9 {a w:World} (h:Gr a w) {B:Nat} (hB:a.heap.size<=B) (x0 x1 x2 x3 x4 x5 x6 x7 x8:Value) :
  Gr a ((((((((((w.setCell ⟨B,0,none⟩ x0).setCell ⟨B,1,none⟩ x1).setCell ⟨B,2,none⟩ x2).setCell ⟨B,3,none⟩ x3).setCell ⟨B,4,none⟩ x4).setCell ⟨B,5,none⟩ x5).setCell ⟨B,6,none⟩ x6).setCell ⟨B,7,none⟩ x7).setCell ⟨B,8,none⟩ x8)) :=
 (((((((((h.setCell (p:=⟨B,0,none⟩) hB x0).setCell (p:=⟨B,1,none⟩) hB x1).setCell (p:=⟨B,2,none⟩) hB x2).setCell (p:=⟨B,3,none⟩) hB x3).setCell (p:=⟨B,4,none⟩) hB x4).setCell (p:=⟨B,5,none⟩) hB x5).setCell (p:=⟨B,6,none⟩) hB x6).setCell (p:=⟨B,7,none⟩) hB x7).setCell (p:=⟨B,8,none⟩) hB x8)
theorem dd_nat (m k:Nat):∃ e:Nat,dd m k=(e:Int)/\e < 65536/\e=m / 65536 ^ k % 65536:=⟨_,rfl,Nat.mod_lt _ (by omega),rfl⟩
theorem pow_past (k:Nat) (h:8<=k) (c m:Nat) (hm:m < 340282366920938463463374607431768211456) (hc:0 < c) :
  (m + c * 65536 ^ k) % 340282366920938463463374607431768211456=m/\340282366920938463463374607431768211456<=m + c * 65536 ^ k:=by
 obtain ⟨j,rfl⟩:∃ j,k=8 + j:=⟨k - 8,by omega⟩
 have e:c * 65536 ^ (8 + j)=340282366920938463463374607431768211456 * (c * 65536 ^ j):=by
  rw [Nat.pow_add,show (65536:Nat) ^ 8=340282366920938463463374607431768211456 by decide,Nat.mul_left_comm]
 have hp:0 < c * 65536 ^ j:=Nat.mul_pos hc (Nat.pow_pos (by omega))
 rw [e]
 refine ⟨by rw [Nat.add_mul_mod_self_left];exact Nat.mod_eq_of_lt hm,?_⟩
 have:340282366920938463463374607431768211456 * 1<=340282366920938463463374607431768211456 * (c * 65536 ^ j):=Nat.mul_le_mul_left _ hp
 omega
theorem plus_round (m c k:Nat) (hm:m < 340282366920938463463374607431768211456) (hk:k < 8) :
  setD m k ((c + m / 65536 ^ k % 65536) % 65536) + (c + m / 65536 ^ k % 65536) / 65536 * 65536 ^ (k + 1)=m + c * 65536 ^ k:=by
 obtain ⟨_,_,_,h⟩:=setD_spec m k ((c + m / 65536 ^ k % 65536) % 65536) hm hk (Nat.mod_lt _ (by omega))
 generalize m / 65536 ^ k % 65536=e at *
 have h2:(c + e) / 65536 * 65536 ^ (k + 1) + (c + e) % 65536 * 65536 ^ k=(c + e) * 65536 ^ k:=by
  rw [Nat.pow_succ,<- Nat.mul_assoc,Nat.mul_right_comm,<- Nat.add_mul]
  congr 1;omega
 rw [Nat.add_mul] at h2
 omega
theorem plus_any (n:Nat) (hn:n < 340282366920938463463374607431768211456) (o:Bool) (at' v:Nat) (hat:at'<=14) (hv:v < 8589934592) (w:World) :
  Calls Tryz.prog 150 #[Nm n o,.int .i64 (at':Int),.int .i64 (v:Int)] w fun e w' =>
   e=.returned (Nm ((n + v * 65536 ^ at') % 340282366920938463463374607431768211456) (o || decide (340282366920938463463374607431768211456<=n + v * 65536 ^ at')))/\Gr w w':=by
 go_enter Tryz.func150,Tryz.ntmps150
 go_wp2
 go_loopw [2,7] (fun vv iv w'=>∃ m c k:Nat,vv=.int .i64 (c:Int)/\iv=.int .i64 (k:Int)/\k<=15/\m < 340282366920938463463374607431768211456/\c < 8589934592/\Hid (m + c * 65536 ^ k=n + v * 65536 ^ at')/\Gr w w'/\NumAt w' w.heap.size m o/\NumAt w' (w.heap.size + 1) 0 false) (fun _ iv _=>16 - (intOf iv).toNat)
 case atStart =>
  refine ⟨n,v,at',rfl,rfl,by omega,hn,hv,rfl,((Gr.refl _).alloc _ _).alloc _ _,(NumAt.new w n o 85).call ((Gr.refl _).alloc _ _),?_⟩
  have:=NumAt.new (w.alloc (.cells #[.int .i64 (dd n 0),.int .i64 (dd n 1),.int .i64 (dd n 2),.int .i64 (dd n 3),.int .i64 (dd n 4),.int .i64 (dd n 5),.int .i64 (dd n 6),.int .i64 (dd n 7),.bool o] 85)) 0 false 85
  rw [World.size_alloc] at this
  exact this
 case round =>
  obtain ⟨m,c,k,rfl,rfl,hk,hm,hc,X,hG,hN,hR⟩:=hrel
  obtain ⟨r0,r1,r2,r3,r4,r5,r6,r7,r8⟩:=hR.cells
  obtain ⟨f0,f1,f2,f3,f4,f5,f6,f7,f8⟩:=hR.open9
  by_cases hc0:c=0
  ·subst hc0
   obtain ⟨c0,c1,c2,c3,c4,c5,c6,c7,c8⟩:=hN.cells
   have E:Hid (m=(n + v * 65536 ^ at') % 340282366920938463463374607431768211456/\o=(o || decide (340282366920938463463374607431768211456<=n + v * 65536 ^ at'))):=by
    have:=X.out
    rw [Nat.zero_mul,Nat.add_zero] at this
    rw [<- this]
    exact ⟨(Nat.mod_eq_of_lt hm).symm,by rw [decide_eq_false (by omega)];simp⟩
   clear X hN hR
   go_wp2
   refine bodyPost_ret (v:=Nm m o) (by simp [results,Tryz.results150,go_sem,r0,r1,r2,r3,r4,r5,r6,r7,r8]) rfl ⟨by rw [<- E.out.1,<- E.out.2],?_⟩
   exact hG.store9 (by omega) _ _ _ _ _ _ _ _ _
  ·by_cases hk8:k < 8
   ·obtain ⟨e,he,he1,he2⟩:=dd_nat m k
    have hcell:=hN.d k hk8
    rw [he] at hcell
    have hfr:=hN.f k (by omega)
    obtain ⟨s1,s2,s3,_⟩:=setD_spec m k ((c + e) % 65536) hm hk8 (by omega)
    have hpr:=plus_round m c k hm hk8
    rw [<- he2] at hpr
    have P:Hid (setD m k ((c + e) % 65536) + (c + e) / 65536 * 65536 ^ (k + 1)=m + c * 65536 ^ k):=hpr
    have S1:Hid (dd (setD m k ((c + e) % 65536)) k=(((c + e) % 65536:Nat):Int)):=s1
    have S2:Hid (∀ j,j < 8->j ≠ k->dd (setD m k ((c + e) % 65536)) j=dd m j):=s2
    clear he he2 hpr s1 s2 r0 r1 r2 r3 r4 r5 r6 r7 r8 f0 f1 f2 f3 f4 f5 f6 f7 f8
    go_wp2
    refine ⟨⟨setD m k ((c + e) % 65536),(c + e) / 65536,k + 1,by go_num,by go_num,by omega,s3,by omega,P.out.trans X.out,hG.setCell (by simp) _,?_,hR.far _ _ (by omega) _⟩,by simp [intOf];omega⟩
    exact hN.setDigit k hk8 _ (S1.out.trans (by omega)) S2.out
   ·obtain ⟨c0,c1,c2,c3,c4,c5,c6,c7,c8⟩:=hN.cells
    have f9:=hN.f 8 (by omega)
    have E:Hid (m=(n + v * 65536 ^ at') % 340282366920938463463374607431768211456/\true=(o || decide (340282366920938463463374607431768211456<=n + v * 65536 ^ at'))):=by
     obtain ⟨p1,p2⟩:=pow_past k (by omega) c m hm (by omega)
     have:=X.out
     rw [<- this]
     exact ⟨p1.symm,by rw [decide_eq_true p2];simp⟩
    clear X hN hR
    go_wp2
    refine bodyPost_ret (v:=Nm m true) (by simp [results,Tryz.results150,go_sem,r0,r1,r2,r3,r4,r5,r6,r7,r8]) rfl ⟨by rw [<- E.out.1,<- E.out.2],?_⟩
    exact (hG.setCell (by simp) _).store9 (by omega) _ _ _ _ _ _ _ _ _
end Go.Proofs.YtcipdampcmfmaabGreat

namespace Go.Proofs.YtcipdampcmfmaabGreat
open Go.RowKit
set_option maxHeartbeats 2000000
theorem ret_int {k:IntKind} {a b:Int} (h:a=b):Ending.returned (.int k a)=.returned (.int k b):=by rw [h]
theorem up_digit (a t:Nat):a / 65536 ^ t=a / 65536 ^ (t + 1) * 65536 + a / 65536 ^ t % 65536:=by
 rw [Nat.pow_succ,<- Nat.div_div_eq_div_mul];omega
theorem lt_of_div {a b d:Nat} (h:a / d < b / d):a < b:=by
 apply Nat.lt_of_not_le;intro hc
 exact absurd (Nat.div_le_div_right (c:=d) hc) (by omega)
theorem refcmp_any (a b:Nat) (ha:a < 340282366920938463463374607431768211456) (hb:b < 340282366920938463463374607431768211456) (o p:Bool) (w:World) :
  Calls Tryz.prog 31 #[Nm a o,Nm b p] w fun e w'=>e=.returned (.int .i64 (cmp3 a b))/\Gr w w':=by
 have n0:=(NumAt.new w a o 85).call ((Gr.refl _).alloc #[.int .i64 (dd b 0),.int .i64 (dd b 1),.int .i64 (dd b 2),.int .i64 (dd b 3),.int .i64 (dd b 4),.int .i64 (dd b 5),.int .i64 (dd b 6),.int .i64 (dd b 7),.bool p] 85)
 have n1:=NumAt.new (w.alloc (.cells #[.int .i64 (dd a 0),.int .i64 (dd a 1),.int .i64 (dd a 2),.int .i64 (dd a 3),.int .i64 (dd a 4),.int .i64 (dd a 5),.int .i64 (dd a 6),.int .i64 (dd a 7),.bool o] 85)) b p 85
 simp only [World.size_alloc] at n1
 go_enter Tryz.func31,Tryz.ntmps31
 go_wp2
 go_loopw [5] (fun iv w'=>∃ z:Int,∃ k:Nat,iv=.int .i64 z/\z=(k:Int) - 1/\k<=8/\Hid (a / 65536 ^ k=b / 65536 ^ k)/\Gr w w'/\NumAt w' w.heap.size a o/\NumAt w' (w.heap.size + 1) b p) (fun iv _=>(intOf iv + 1).toNat)
 case atStart =>
  refine ⟨7,8,rfl,by omega,by omega,?_,((Gr.refl _).alloc _ _).alloc _ _,n0,n1⟩
  show a / 65536 ^ 8=b / 65536 ^ 8
  rw [Nat.div_eq_of_lt ha,Nat.div_eq_of_lt hb]
 case round =>
  clear n0 n1
  obtain ⟨z,k,rfl,hz,hk,X,hG,hA,hB⟩:=hrel
  cases k with
  | zero =>
   have E:Hid (cmp3 a b=0):=by
    have:=X.out
    simp at this
    subst this;unfold Hid cmp3;simp
   have hz':z < 0:=by omega
   clear hz X hA hB
   go_wp2
   go_ret
   exact ⟨ret_int E.out.symm,hG⟩
  | succ t =>
   have hzt:z=(t:Int):=by omega
   subst hzt
   obtain ⟨e,he,he1,he2⟩:=dd_nat a t
   obtain ⟨f,hf,hf1,hf2⟩:=dd_nat b t
   have ca:=hA.d t (by omega)
   have cb:=hB.d t (by omega)
   rw [he] at ca;rw [hf] at cb
   have ua:=up_digit a t
   have ub:=up_digit b t
   rw [<- he2] at ua;rw [<- hf2] at ub
   have hX:=X.out
   by_cases hlt:e < f
   ·have E:Hid (cmp3 a b=-1):=by unfold Hid cmp3;rw [if_pos (lt_of_div (d:=65536 ^ t) (by omega))]
    have g1:((e:Int) == (f:Int))=false:=by rw [beq_eq_false_iff_ne];omega
    clear he he2 hf hf2 ua ub hX X hz hA hB
    go_wp2
    go_quiet (fail)
    go_wp2
    go_quiet (fail)
    go_wp2
    go_ret
    exact ⟨ret_int E.out.symm,(hG.drewN _).drewN _⟩
   by_cases hgt:f < e
   ·have hba:b < a:=lt_of_div (d:=65536 ^ t) (by omega)
    have E:Hid (cmp3 a b=1):=by unfold Hid cmp3;rw [if_neg (by omega),if_neg (by omega)]
    have g1:((e:Int) == (f:Int))=false:=by rw [beq_eq_false_iff_ne];omega
    clear he he2 hf hf2 ua ub hX X hz hA hB hba
    go_wp2
    go_quiet (fail)
    go_wp2
    go_quiet (fail)
    go_wp2
    go_ret
    exact ⟨ret_int E.out.symm,(hG.drewN _).drewN _⟩
   ·have hef:f=e:=by omega
    subst hef
    have E:Hid (a / 65536 ^ t=b / 65536 ^ t):=by unfold Hid;omega
    clear he he2 hf hf2 ua ub hX X hz hlt hgt
    go_wp2
    go_quiet (fail)
    go_wp2
    refine ⟨⟨(t:Int) - 1,t,by go_num,rfl,by omega,E,hG.drewN _,hA.call ((Gr.refl _).drewN _),hB.call ((Gr.refl _).drewN _)⟩,by simp [intOf]⟩
theorem less_any (a b:Nat) (ha:a < 340282366920938463463374607431768211456) (hb:b < 340282366920938463463374607431768211456) (w:World) :
  Calls Tryz.prog 12 #[Wd a,Wd b] w fun e w'=>e=.returned (.bool (decide (a < b)))/\Gr w w':=by
 have c0:((w.alloc (.cells #[.int .u64 (hi a),.int .u64 (lo a)] 40)).alloc (.cells #[.int .u64 (hi b),.int .u64 (lo b)] 40)).cell? ⟨w.heap.size,0,none⟩=some (.int .u64 (hi a)):=by simp [go_sem]
 have c1:((w.alloc (.cells #[.int .u64 (hi a),.int .u64 (lo a)] 40)).alloc (.cells #[.int .u64 (hi b),.int .u64 (lo b)] 40)).cell? ⟨w.heap.size,1,none⟩=some (.int .u64 (lo a)):=by simp [go_sem]
 have c2:((w.alloc (.cells #[.int .u64 (hi a),.int .u64 (lo a)] 40)).alloc (.cells #[.int .u64 (hi b),.int .u64 (lo b)] 40)).cell? ⟨w.heap.size + 1,0,none⟩=some (.int .u64 (hi b)):=by simp [go_sem]
 have c3:((w.alloc (.cells #[.int .u64 (hi a),.int .u64 (lo a)] 40)).alloc (.cells #[.int .u64 (hi b),.int .u64 (lo b)] 40)).cell? ⟨w.heap.size + 1,1,none⟩=some (.int .u64 (lo b)):=by simp [go_sem]
 have E:Hid (decide (cmp3 a b < 0)=decide (a < b)):=by
  unfold Hid cmp3
  by_cases h:a < b
  ·simp [h]
  ·rw [if_neg h];split <;> simp [h]
 go_enter Tryz.func12,Tryz.ntmps12
 go_wp2
 go_region_held3 (fun w'=>w'.cell? ⟨w.heap.size,0,none⟩=some (.int .u64 (hi a))/\w'.cell? ⟨w.heap.size,1,none⟩=some (.int .u64 (lo a))/\w'.cell? ⟨w.heap.size + 1,0,none⟩=some (.int .u64 (hi b))/\w'.cell? ⟨w.heap.size + 1,1,none⟩=some (.int .u64 (lo b))) (first | exact ⟨c0,c1,c2,c3⟩ | exact call_keeps4 (by assumption) (by assumption))
  (first
   | (go_at_call_of 32 (hi a);refine (of_any a ha _).mono ?_;rintro e w1 ⟨rfl,g1⟩)
   | (go_at_call_of 32 (hi b);refine (of_any b hb _).mono ?_;rintro e w2 ⟨rfl,g2⟩)
   | (go_at_call 31;refine (refcmp_any a b ha hb false false _).mono ?_;rintro e w3 ⟨rfl,g3⟩))
 all_goals
  go_wp2
  go_ret
  exact ⟨ret_bool E.out,by repeat (first | exact ((Gr.refl _).alloc _ _).alloc _ _ | apply Gr.drew | refine Gr.trans ?_ g3 | refine Gr.trans ?_ g2 | refine Gr.trans ?_ g1)⟩
end Go.Proofs.YtcipdampcmfmaabGreat
