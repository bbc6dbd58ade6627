import Derived.Test.YtcipdampcmfmaaaGreatProg
import Derived.WalkKit
import Derived.WalkSpells
import Derived.WalkLawsBesides
import Derived.Laws.Externs
import Derived.RowKit3
import Derived.WalkSmall
import Derived.Deep.RegionHeld3
import Derived.Handy
import Derived.Lib.Mul64
import Derived.Laws.Bits64b
import Derived.WalkMore
import Derived.Sort.Grow
import Derived.Deep.RegionWith
import Derived.BigQuiet
namespace Go.Proofs.YtcipdampcmfmaaaGreat
open Go.RowKit
structure Gr (w w':World):Prop where
 below:Below w.heap.size w w'
 froz:∀ a,w'.frozen? a=w.frozen? a
theorem Gr.refl (w:World):Gr w w:=⟨Below.refl _ _,fun _=>rfl⟩
theorem Gr.trans {a b c:World} (h:Gr a b) (k:Gr b c):Gr a c :=
 ⟨h.below.trans (k.below.mono h.below.size),fun x=>(k.froz x).trans (h.froz x)⟩
theorem Gr.alloc {a w:World} (h:Gr a w) (c:Array Value) (t:TypeId):Gr a (w.alloc (.cells c t)) :=
 ⟨h.below.alloc h.below.size _,fun x=>(frozen?_alloc_cells _ _ _ x).trans (h.froz x)⟩
theorem Gr.setCell {a w:World} (h:Gr a w) {p:Addr} (hp:a.heap.size<=p.block) (u:Value):Gr a (w.setCell p u) :=
 ⟨h.below.setCell hp u,fun x=>(World.frozen?_setCell _ _ _ _).trans (h.froz x)⟩
theorem Gr.drew {a w:World} (h:Gr a w):Gr a w.drew:=⟨h.below.drew,h.froz⟩
theorem Gr.size {a b:World} (h:Gr a b):a.heap.size<=b.heap.size:=h.below.size
theorem Gr.cell {a b:World} (h:Gr a b):∀ k o,k < a.heap.size->b.cell? ⟨k,o,none⟩=a.cell? ⟨k,o,none⟩ :=
 fun k o hk=>h.below.cell (p:=⟨k,o,none⟩) hk
theorem Gr.drewN {a w:World} (h:Gr a w) (n:Nat):Gr a (w.drewN n):=⟨below_drewN h.below n,h.froz⟩
theorem Gr.rules {a b:World} (h:Gr a b):(∀ k o,k < a.heap.size->b.cell? ⟨k,o,none⟩=a.cell? ⟨k,o,none⟩)/\(∀ p,b.frozen? p=a.frozen? p)/\(∀ k,k < a.heap.size->k < b.heap.size) :=
 ⟨h.cell,h.froz,fun _ hk=>Nat.lt_of_lt_of_le hk h.size⟩
theorem Gr.keeps {a b:World} (h:Gr a b) {p:Addr} {v:Value} (hc:a.cell? p=some v):b.cell? p=some v :=
 (h.below.cell (World.block_lt_of_cell? a p hc)).trans hc
theorem alloc_keeps {a:World} {p:Addr} {v:Value} (hc:a.cell? p=some v) (o:Obj):(a.alloc o).cell? p=some v :=
 (World.cell?_alloc_lt _ _ _ (World.block_lt_of_cell? a p hc)).trans hc
theorem call_keeps2 {W w':World} {p q:Addr} {u v:Value} (h:Gr W w') (hs:W.cell? p=some u/\W.cell? q=some v):w'.cell? p=some u/\w'.cell? q=some v:=⟨h.keeps hs.1,h.keeps hs.2⟩
theorem alloc_keeps2 {W:World} {p q:Addr} {u v:Value} {o:Obj} (hs:W.cell? p=some u/\W.cell? q=some v):(W.alloc o).cell? p=some u/\(W.alloc o).cell? q=some v:=⟨alloc_keeps hs.1 o,alloc_keeps hs.2 o⟩
theorem set_far2 {W:World} {p q:Addr} {u v:Value} {b o:Nat} {x:Value} (hp:b ≠ p.block) (hq:b ≠ q.block) (h:W.cell? p=some u/\W.cell? q=some v) :
  (W.setCell ⟨b,o,none⟩ x).cell? p=some u/\(W.setCell ⟨b,o,none⟩ x).cell? q=some v:=⟨(World.cell?_setCell_far W _ p x hp).trans h.1,(World.cell?_setCell_far W _ q x hq).trans h.2⟩
theorem Gr.var2 {w w':World} {x y:Value} {t:TypeId} (h:Gr (w.alloc (.cells #[x,y] t)) w') :
  w'.cell? ⟨w.heap.size,0,none⟩=some x/\w'.cell? ⟨w.heap.size,1,none⟩=some y/\w'.frozen? ⟨w.heap.size,0,none⟩=false/\w'.frozen? ⟨w.heap.size,1,none⟩=false :=
 ⟨h.keeps (by simp [go_sem]),h.keeps (by simp [go_sem]),(h.froz _).trans (by simp [go_sem]),(h.froz _).trans (by simp [go_sem])⟩
theorem lt_two (n:Nat):n < n + 1 + 1:=by omega
theorem lt_three (n:Nat):n < n + 1 + 1 + 1:=by omega
theorem cell_lt {a:World} {p:Addr} {v:Value} (hc:a.cell? p=some v):p.block < a.heap.size:=World.block_lt_of_cell? a p hc
def hi (n:Nat):Int:=((n / 18446744073709551616:Nat):Int)
def lo (n:Nat):Int:=((n % 18446744073709551616:Nat):Int)
abbrev Wd (n:Nat):Value:=.agg #[.int .u64 (hi n),.int .u64 (lo n)]
theorem lo_bd (n:Nat):0<=lo n/\lo n < 18446744073709551616:=by unfold lo;omega
theorem hi_nn (n:Nat):0<=hi n:=by unfold hi;omega
theorem add64 (x y c:Int) (hx:0<=x) (hy:0<=y) (hc0:0<=c) (hc:c<=1) (w:World):(callFunc 223 #[.int .u64 x,.int .u64 y,.int .u64 c]).run Tryz.prog w =
  .ok (.value (.tuple #[.int .u64 ((x + y + c) % 18446744073709551616),.int .u64 ((x + y + c) / 18446744073709551616)])) w:=by
 rw [run_callFunc_extern Tryz.func223 (by kernel_rfl) (by kernel_rfl) (by kernel_rfl) (e:=add64Entry) (by kernel_rfl),run_add64 x y c hx hy hc0 hc]
 simp only [Result.andThen]
theorem add64_0 (x y:Int) (hx:0<=x) (hy:0<=y) (w:World):(callFunc 223 #[.int .u64 x,.int .u64 y,.int .u64 0]).run Tryz.prog w =
  .ok (.value (.tuple #[.int .u64 ((x + y) % 18446744073709551616),.int .u64 ((x + y) / 18446744073709551616)])) w:=by
 simpa using add64 x y 0 hx hy (Int.le_refl 0) (by decide) w
end Go.Proofs.YtcipdampcmfmaaaGreat

namespace Go.Proofs.YtcipdampcmfmaaaGreat
open Go.RowKit
set_option maxHeartbeats 400000
theorem addc_ok (ah al bh bl:Int) (a0:0<=ah) (b0:0<=al) (b1:al < 18446744073709551616) (c0:0<=bh) (d0:0<=bl) (d1:bl < 18446744073709551616)
  (hlt:(ah + bh + (al + bl) / 18446744073709551616) / 18446744073709551616=0) (w:World) :
  Calls Tryz.prog 194 #[.agg #[.int .u64 ah,.int .u64 al],.agg #[.int .u64 bh,.int .u64 bl]] w fun e w' =>
   e=.returned (.tuple #[.agg #[.int .u64 ((ah + bh + (al + bl) / 18446744073709551616) % 18446744073709551616),.int .u64 ((al + bl) % 18446744073709551616)],.int .i64 0])/\Gr w w':=by
 have k0:0<=(al + bl) / 18446744073709551616:=by omega
 have k1:(al + bl) / 18446744073709551616<=1:=by omega
 go_enter Tryz.func194,Tryz.ntmps194
 go_wp2_with (first | simp only [add64_0 al bl b0 d0] | simp only [add64 ah bh _ a0 c0 k0 k1])
 exact bodyPost_ret (v:=.tuple #[.agg #[.int .u64 ((ah + bh + (al + bl) / 18446744073709551616) % 18446744073709551616),.int .u64 ((al + bl) % 18446744073709551616)],.int .i64 0]) (by simp [results,Tryz.results194,go_sem]) rfl
  ⟨rfl,(((Gr.refl _).alloc _ _).alloc _ _).alloc _ _⟩
theorem add_ok (a b:Nat) (h:a + b < 340282366920938463463374607431768211456) (w:World) :
  Calls Tryz.prog 194 #[Wd a,Wd b] w fun e w'=>e=.returned (.tuple #[Wd (a + b),.int .i64 0])/\Gr w w':=by
 have e1:(hi a + hi b + (lo a + lo b) / 18446744073709551616) % 18446744073709551616=hi (a + b):=by unfold hi lo;omega
 have e2:(lo a + lo b) % 18446744073709551616=lo (a + b):=by unfold lo;omega
 have e3:(hi a + hi b + (lo a + lo b) / 18446744073709551616) / 18446744073709551616=0:=by unfold hi lo;omega
 have:=addc_ok (hi a) (lo a) (hi b) (lo b) (hi_nn a) (lo_bd a).1 (lo_bd a).2 (hi_nn b) (lo_bd b).1 (lo_bd b).2 e3 w
 rw [e1,e2] at this
 exact this
theorem cmpc_eq (ah al:Int) (w:World) :
  Calls Tryz.prog 76 #[.agg #[.int .u64 ah,.int .u64 al],.agg #[.int .u64 ah,.int .u64 al]] w fun e w'=>e=.returned (.int .i64 0)/\Gr w w':=by
 go_enter Tryz.func76,Tryz.ntmps76
 go_wp2
 go_ret
 exact ⟨rfl,((Gr.refl _).alloc _ _).alloc _ _⟩
theorem cmpc_hi (ah al bh bl:Int) (h:ah < bh) (w:World) :
  Calls Tryz.prog 76 #[.agg #[.int .u64 ah,.int .u64 al],.agg #[.int .u64 bh,.int .u64 bl]] w fun e w'=>e=.returned (.int .i64 (-1))/\Gr w w':=by
 have h1:(ah == bh)=false:=by rw [beq_eq_false_iff_ne];omega
 go_enter Tryz.func76,Tryz.ntmps76
 go_wp2
 go_ret
 exact ⟨rfl,((Gr.refl _).alloc _ _).alloc _ _⟩
theorem cmpc_hi' (ah al bh bl:Int) (h:bh < ah) (w:World) :
  Calls Tryz.prog 76 #[.agg #[.int .u64 ah,.int .u64 al],.agg #[.int .u64 bh,.int .u64 bl]] w fun e w'=>e=.returned (.int .i64 1)/\Gr w w':=by
 have h1:(ah == bh)=false:=by rw [beq_eq_false_iff_ne];omega
 go_enter Tryz.func76,Tryz.ntmps76
 go_wp2
 go_ret
 exact ⟨rfl,((Gr.refl _).alloc _ _).alloc _ _⟩
theorem cmpc_lo (ah al bl:Int) (h:al < bl) (w:World) :
  Calls Tryz.prog 76 #[.agg #[.int .u64 ah,.int .u64 al],.agg #[.int .u64 ah,.int .u64 bl]] w fun e w'=>e=.returned (.int .i64 (-1))/\Gr w w':=by
 have h1:(al == bl)=false:=by rw [beq_eq_false_iff_ne];omega
 go_enter Tryz.func76,Tryz.ntmps76
 go_wp2
 go_ret
 exact ⟨rfl,((Gr.refl _).alloc _ _).alloc _ _⟩
theorem cmpc_lo' (ah al bl:Int) (h:bl < al) (w:World) :
  Calls Tryz.prog 76 #[.agg #[.int .u64 ah,.int .u64 al],.agg #[.int .u64 ah,.int .u64 bl]] w fun e w'=>e=.returned (.int .i64 1)/\Gr w w':=by
 have h1:(al == bl)=false:=by rw [beq_eq_false_iff_ne];omega
 go_enter Tryz.func76,Tryz.ntmps76
 go_wp2
 go_ret
 exact ⟨rfl,((Gr.refl _).alloc _ _).alloc _ _⟩
def cmp3 (a b:Nat):Int:=if a < b then -1 else if a=b then 0 else 1
theorem cmp_any (a b:Nat) (w:World) :
  Calls Tryz.prog 76 #[Wd a,Wd b] w fun e w'=>e=.returned (.int .i64 (cmp3 a b))/\Gr w w':=by
 by_cases h1:hi a < hi b
 ·have e:cmp3 a b=-1:=by unfold cmp3;rw [if_pos];unfold hi at h1;omega
  rw [e];exact cmpc_hi _ _ _ _ h1 w
 by_cases h2:hi b < hi a
 ·have e:cmp3 a b=1:=by unfold cmp3;unfold hi at h1 h2;rw [if_neg (by omega),if_neg (by omega)]
  rw [e];exact cmpc_hi' _ _ _ _ h2 w
 have h3:hi b=hi a:=by omega
 by_cases h4:lo a < lo b
 ·have e:cmp3 a b=-1:=by unfold cmp3;rw [if_pos];unfold hi lo at *;omega
  rw [e,Wd,Wd,h3];exact cmpc_lo _ _ _ h4 w
 by_cases h5:lo b < lo a
 ·have e:cmp3 a b=1:=by unfold cmp3;unfold hi lo at *;rw [if_neg (by omega),if_neg (by omega)]
  rw [e,Wd,Wd,h3];exact cmpc_lo' _ _ _ h5 w
 have h6:lo b=lo a:=by omega
 have e:cmp3 a b=0:=by unfold cmp3;unfold hi lo at *;rw [if_neg (by omega),if_pos (by omega)]
 rw [e,Wd,Wd,h3,h6];exact cmpc_eq _ _ w
end Go.Proofs.YtcipdampcmfmaaaGreat

namespace Go.Proofs.YtcipdampcmfmaaaGreat
open Go.RowKit
set_option maxHeartbeats 1000000
theorem mask32 (a:Nat) (ha:a < 18446744073709551616):bits .and .u64 (a:Int) 4294967295=((a % 4294967296:Nat):Int) :=
 (bits_and_u64_nat a 4294967295 ha (by omega)).trans (congrArg Int.ofNat (Nat.and_two_pow_sub_one_eq_mod a 32))
theorem ret2u {k k':IntKind} {a a' b b':Int} (h:a=a') (h':b=b'):Ending.returned (.tuple #[.int k a,.int k' b])=.returned (.tuple #[.int k a',.int k' b']):=by rw [h,h']
theorem mul64 (x y:Nat) (hx:x < 18446744073709551616) (hy:y < 18446744073709551616) (w:World) :
  Calls Tryz.prog 224 #[.int .u64 (x:Int),.int .u64 (y:Int)] w fun e w'=>e=.returned (.tuple #[.int .u64 (hi (x * y)),.int .u64 (lo (x * y))])/\w'=w:=by
 obtain ⟨k1,k2,k3,k4⟩:=Lib.mul64_hi x y hx hy
 have ks:=Lib.half_mul_le (a:=x / 4294967296) (b:=y / 4294967296) (by omega) (by omega)
 have kq:=Lib.half_mul_le (a:=x / 4294967296) (b:=y % 4294967296) (by omega) (by omega)
 have kr:=Lib.half_mul_le (a:=x % 4294967296) (b:=y / 4294967296) (by omega) (by omega)
 have mx:=mask32 x hx
 have my:=mask32 y hy
 have dx:(x:Int) / 4294967296=((x / 4294967296:Nat):Int):=by omega
 have dy:(y:Int) / 4294967296=((y / 4294967296:Nat):Int):=by omega
 have L:Hid (IntKind.u64.wrap ((x:Int) * (y:Int))=lo (x * y)):=by
  unfold Hid lo;rw [<- Int.natCast_mul,IntKind.wrap_u64];omega
 generalize x % 4294967296=x0 at *
 generalize x / 4294967296=x1 at *
 generalize y % 4294967296=y0 at *
 generalize y / 4294967296=y1 at *
 have p1:(x0:Int) * (y0:Int)=((x0 * y0:Nat):Int):=(Int.natCast_mul _ _).symm
 have p2:(x1:Int) * (y0:Int)=((x1 * y0:Nat):Int):=(Int.natCast_mul _ _).symm
 have p3:(x0:Int) * (y1:Int)=((x0 * y1:Nat):Int):=(Int.natCast_mul _ _).symm
 have p4:(x1:Int) * (y1:Int)=((x1 * y1:Nat):Int):=(Int.natCast_mul _ _).symm
 generalize x0 * y0=p at *
 generalize x1 * y0=q at *
 generalize x0 * y1=r at *
 generalize x1 * y1=s at *
 have mt:=mask32 (q + p / 4294967296) k2
 have et:(q:Int) + (p:Int) / 4294967296=((q + p / 4294967296:Nat):Int):=by omega
 generalize q + p / 4294967296=t at *
 have K:Hid (s + t / 4294967296 + (t % 4294967296 + r) / 4294967296=x * y / 18446744073709551616):=k4
 clear k4
 go_enter Tryz.func224,Tryz.ntmps224
 go_wp2
 go_ret2
 refine ⟨ret2u ?_ L.out,rfl⟩
 unfold hi
 rw [<- K.out]
 omega
theorem mul_any (x y:Nat) (hx:x < 18446744073709551616) (hy:y < 18446744073709551616) (w:World) :
  Calls Tryz.prog 195 #[.int .u64 (x:Int),.int .u64 (y:Int)] w fun e w'=>e=.returned (Wd (x * y))/\Gr w w':=by
 go_enter Tryz.func195,Tryz.ntmps195
 go_wp2_with (go_at_call 224;refine (mul64 x y hx hy _).mono ?_;rintro e w' ⟨rfl,rfl⟩)
 exact bodyPost_ret (v:=Wd (x * y)) (by simp [results,Tryz.results195,go_sem]) rfl ⟨rfl,(Gr.refl _).alloc _ _⟩
theorem mul_int (x y:Int) (hx:0<=x) (hx':x < 18446744073709551616) (hy:0<=y) (hy':y < 18446744073709551616) (w:World) :
  Calls Tryz.prog 195 #[.int .u64 x,.int .u64 y] w fun e w'=>e=.returned (Wd (x.toNat * y.toNat))/\Gr w w':=by
 obtain ⟨x,rfl⟩:=Int.eq_ofNat_of_zero_le hx
 obtain ⟨y,rfl⟩:=Int.eq_ofNat_of_zero_le hy
 exact mul_any x y (by omega) (by omega) w
end Go.Proofs.YtcipdampcmfmaaaGreat

namespace Go.Proofs.YtcipdampcmfmaaaGreat
open Go.RowKit
set_option maxHeartbeats 1000000
def IsRoot (a r:Nat):Prop:=r * r<=a/\a < (r + 1) * (r + 1)
theorem sq_le {x y:Nat} (h:x<=y):x * x<=y * y:=Nat.mul_le_mul h h
theorem sqrt_any (a:Nat) (ha:a < 340282366920938463463374607431768211456) (w:World) :
  Calls Tryz.prog 199 #[Wd a] w fun e w'=>∃ r:Nat,e=.returned (.int .u64 (r:Int))/\r < 18446744073709551616/\IsRoot a r/\Gr w w':=by
 go_enter Tryz.func199,Tryz.ntmps199
 go_wp2
 go_step3
 go_wp2
 go_step3
 go_wp2
 go_loopw [3,4] (fun lv hv w'=>∃ x y:Nat,lv=.int .u64 (x:Int)/\hv=.int .u64 (y:Int)/\x<=y/\y < 18446744073709551616/\x * x<=a/\a < (y + 1) * (y + 1)/\Gr (w.alloc (.cells #[.int .u64 (hi a),.int .u64 (lo a)] 79)) w') (fun lv hv _=>(intOf hv - intOf lv).toNat)
 case atStart=>exact ⟨0,18446744073709551615,by simp,by simp,by omega,by omega,by omega,by omega,Gr.refl _⟩
 case round =>
  obtain ⟨x,y,rfl,rfl,hxy,hy,hx2,hy2,hg⟩:=hrel
  have hz:w.heap.size < wr.heap.size:=by have:=hg.size;simp at this;omega
  have c0:wr.cell? ⟨w.heap.size,0,none⟩=some (.int .u64 (hi a)):=by rw [hg.cell _ _ (by simp)];simp [go_sem]
  have c1:wr.cell? ⟨w.heap.size,1,none⟩=some (.int .u64 (lo a)):=by rw [hg.cell _ _ (by simp)];simp [go_sem]
  by_cases hc:x < y
  ·obtain ⟨m,hm⟩:∃ m:Nat,m=y - (y - x) / 2:=⟨_,rfl⟩
   have hm0:((y:Int) - ((y:Int) - (x:Int)) / 2)=(m:Int):=by omega
   have M:Hid (m=y - (y - x) / 2):=hm
   have hm1:m < 18446744073709551616:=by omega
   clear hm
   go_wp2
   go_region_held3 (fun w'=>w'.cell? ⟨w.heap.size,0,none⟩=some (.int .u64 (hi a))/\w'.cell? ⟨w.heap.size,1,none⟩=some (.int .u64 (lo a))) (first | exact ⟨c0,c1⟩ | exact ⟨k0,k1⟩)
    (first
     | (go_at_call 195;refine (mul_any m m hm1 hm1 _).mono ?_;rintro e w1 ⟨rfl,hg1⟩;have k0:w1.cell? ⟨w.heap.size,0,none⟩=some (.int .u64 (hi a)):=(hg1.cell _ _ hz).trans c0;have k1:w1.cell? ⟨w.heap.size,1,none⟩=some (.int .u64 (lo a)):=(hg1.cell _ _ hz).trans c1)
     | (go_at_call 76;refine (cmp_any (m * m) a _).mono ?_;rintro e w2 ⟨rfl,hg2⟩;have k0:w2.cell? ⟨w.heap.size,0,none⟩=some (.int .u64 (hi a)):=(hg2.cell _ _ (Nat.lt_of_lt_of_le hz hg1.size)).trans k0;have k1:w2.cell? ⟨w.heap.size,1,none⟩=some (.int .u64 (lo a)):=(hg2.cell _ _ (Nat.lt_of_lt_of_le hz hg1.size)).trans k1))
   have hG:Gr (w.alloc (.cells #[.int .u64 (hi a),.int .u64 (lo a)] 79)) w2:=(hg.drew.trans hg1).trans hg2
   have hmx:x < m:=by have:=M.out;omega
   have hmy:m<=y:=by have:=M.out;omega
   clear c0 c1 hg hg1 hg2 hz
   by_cases h1:m * m < a
   ·have e1:cmp3 (m * m) a=-1:=by unfold cmp3;rw [if_pos h1]
    go_wp2
    go_roundw
    case rel=>exact ⟨m,y,rfl,rfl,hmy,hy,by omega,hy2,hG⟩
    case measure=>simp [intOf];omega
   by_cases h2:m * m=a
   ·have e1:cmp3 (m * m) a=0:=by unfold cmp3;rw [if_neg h1,if_pos h2]
    have H2:Hid (m * m=a):=h2
    clear h2
    go_wp2
    simp only [Exit.noGoto_ret]
    go_ret
    have h3:=H2.out
    exact ⟨m,rfl,hm1,⟨by omega,by rw [Nat.add_mul,Nat.mul_add];omega⟩,((Gr.refl _).alloc _ _).trans hG⟩
   ·have e1:cmp3 (m * m) a=1:=by unfold cmp3;rw [if_neg h1,if_neg h2]
    have hlt:a < m * m:=by omega
    have H2:Hid (a < m * m):=hlt
    have hm0':1<=m:=by omega
    clear h2 h1 hlt
    go_wp2
    go_roundw
    case rel =>
     obtain ⟨k,rfl⟩:∃ k,m=k + 1:=⟨m - 1,by omega⟩
     exact ⟨x,k,rfl,by simp,by omega,by omega,hx2,H2.out,hG⟩
    case measure=>simp [intOf];omega
  ·go_wp2
   simp only [Exit.noGoto_ret]
   go_ret
   have hyx:y=x:=by omega
   subst hyx
   exact ⟨y,rfl,hy,⟨hx2,hy2⟩,((Gr.refl _).alloc _ _).trans hg⟩
end Go.Proofs.YtcipdampcmfmaaaGreat

namespace Go.Proofs.YtcipdampcmfmaaaGreat
open Go.RowKit
set_option maxRecDepth 100000
set_option maxHeartbeats 2000000
abbrev Gb (w w':World):Prop:=Below w.heap.size w w'
theorem gb_trans {a b c:World} (h:Gb a b) (k:Gb b c):Gb a c:=h.trans (k.mono h.size)
theorem gb_alloc {a w:World} (h:Gb a w) (o:Obj):Gb a (w.alloc o):=h.alloc h.size o
theorem gb_keeps {a b:World} (h:Gb a b) {p:Addr} {v:Value} (hc:a.cell? p=some v):b.cell? p=some v :=
 (h.cell (World.block_lt_of_cell? a p hc)).trans hc
theorem gb_set {a w:World} (h:Gb a w) {p:Addr} (hp:a.heap.size<=p.block) (u:Value):Gb a (w.setCell p u):=h.setCell hp u
def RdI (w:World) (v:Value) (l:List Int):Prop:=∃ a cap,v=.slice a l.length cap/\∀ i,i < l.length->∃ b o,a=some ⟨b,o,none⟩/\w.cell? ⟨b,o + i,none⟩=some (.int .i64 l[i]!)
theorem RdI.gb {w w':World} {v:Value} {l:List Int} (h:RdI w v l) (g:Gb w w'):RdI w' v l:=by
 obtain ⟨a,cap,e,h⟩:=h
 refine ⟨a,cap,e,fun i hi=>?_⟩
 obtain ⟨b,o,e1,e2⟩:=h i hi
 exact ⟨b,o,e1,gb_keeps g e2⟩
theorem rdi_nil (w:World):RdI w (.slice none 0 0) []:=⟨none,0,rfl,fun _ hi=>absurd hi (Nat.not_lt_zero _)⟩
def inR (x:Int):Bool:=decide (-2147483647<=x) && decide (x<=2147483647)
theorem inR_iff (x:Int):inR x=true ↔ -2147483647<=x/\x<=2147483647:=by simp [inR]
def allR (l:List Int):Bool:=l.all inR
theorem allR_get {l:List Int} (h:allR l=true) {i:Nat} (hi:i < l.length):-2147483647<=l[i]! /\ l[i]! <= 2147483647:=by
 rw [<- inR_iff,getElem!_pos l i hi]
 exact List.all_eq_true.1 h _ (List.getElem_mem hi)
theorem allR_take {l:List Int} {q:Nat} (hq:q < l.length) (h:allR (l.take q)=true) (hx:inR l[q]! = true):allR (l.take (q + 1))=true:=by
 unfold allR at *
 rw [List.take_succ_eq_append_getElem hq,List.all_append,h,getElem!_pos l q hq] at *
 simpa using hx
theorem allR_no {l:List Int} {q:Nat} (hq:q < l.length) (hx:inR l[q]! = false):allR l=false:=by
 unfold allR
 rw [List.all_eq_false]
 refine ⟨l[q],List.getElem_mem hq,?_⟩
 rw [getElem!_pos l q hq] at hx
 simp [hx]
def vErr (l:List Int):Int:=if allR l=true then 0 else 31
def chk (l:List Int) (dim:Int):Int:=if 1<=dim/\dim<=64/\(l.length:Int)=dim then (vErr l) else 30
theorem isDim_c (d:Int) (w:World):Calls Tryz.prog 72 #[.int .i64 d] w fun e w'=>e=.returned (.bool (decide (1<=d) && decide (d<=64)))/\w=w':=by
 by_cases h:1<=d
 ·go_enter Tryz.func72,Tryz.ntmps72
  go_wp2
  go_ret
  exact ⟨by simp [h],rfl⟩
 ·go_enter Tryz.func72,Tryz.ntmps72
  go_wp2
  go_ret
  exact ⟨by simp;omega,rfl⟩
theorem isDim_v (d:Int) (b:Bool) (h:(decide (1<=d) && decide (d<=64))=b) (w:World):Calls Tryz.prog 72 #[.int .i64 d] w fun e w'=>e=.returned (.bool b)/\w=w':=by
 subst h;exact isDim_c d w
theorem check_no {w:World} {v:Value} {l:List Int} (h:RdI w v l) (d:Int) (hn:¬ (1<=d/\d<=64/\(l.length:Int)=d)) :
  Calls Tryz.prog 45 #[v,.int .i64 d] w fun e w'=>e=.returned (.int .i64 30)/\w=w':=by
 obtain ⟨a,cap,rfl,ha⟩:=h
 clear ha
 generalize l.length=n at *
 by_cases h1:(decide (1<=d) && decide (d<=64))=true
 ·have h2:((n:Int) == d)=false:=by rw [beq_eq_false_iff_ne];simp at h1;omega
  have c:=fun W=>isDim_v d true h1 W
  clear hn h1
  go_enter Tryz.func45,Tryz.ntmps45
  go_wp2_with (go_at_call 72;refine (c _).mono ?_;rintro e w' ⟨rfl,rfl⟩)
  go_ret
  exact ⟨rfl,rfl⟩
 ·have c:=fun W=>isDim_v d false (by simpa using h1) W
  clear hn h1
  go_enter Tryz.func45,Tryz.ntmps45
  go_wp2_with (go_at_call 72;refine (c _).mono ?_;rintro e w' ⟨rfl,rfl⟩)
  go_ret
  exact ⟨rfl,rfl⟩
theorem check_in {w:World} {v:Value} {l:List Int} (h:RdI w v l) (hn:1<=l.length/\l.length<=64) :
  Calls Tryz.prog 45 #[v,.int .i64 (l.length:Int)] w fun e w'=>e=.returned (.int .i64 (vErr l))/\w=w':=by
 obtain ⟨a,cap,rfl,ha⟩:=h
 have A:Hid (∀ i,i < l.length->∃ b o,a=some ⟨b,o,none⟩/\w.cell? ⟨b,o + i,none⟩=some (.int .i64 l[i]!)):=ha
 obtain ⟨n,hN⟩:∃ n,n=l.length:=⟨_,rfl⟩
 have N:Hid (n=l.length):=hN
 rw [<- hN] at hn ⊢
 obtain ⟨hn1,hn2⟩:=hn
 have c:=fun W=>isDim_v (n:Int) true (by simp;omega) W
 clear ha hN
 go_enter Tryz.func45,Tryz.ntmps45
 go_wp2_with (go_at_call 72;refine (c _).mono ?_;rintro e w' ⟨rfl,rfl⟩)
 go_loopw [18] (fun iv w'=>∃ q:Nat,iv=.int .i64 (q:Int)/\q<=n/\w=w'/\Hid (allR (l.take q)=true)) (fun iv _=>n - (intOf iv).toNat)
 case atStart=>exact ⟨0,rfl,Nat.zero_le _,rfl,by simp [Hid,allR]⟩
 case round =>
  obtain ⟨q,rfl,hq,rfl,X⟩:=hrel
  by_cases hqn:q < n
  ·have hqi:(q:Int) < (n:Int):=by omega
   obtain ⟨b,o,ea,hc⟩:=A.out q (by have:=N.out;omega)
   subst ea
   obtain ⟨x,hx⟩:∃ x,x=l[q]! := ⟨_,rfl⟩
   rw [<- hx] at hc
   have XX:Hid (x=l[q]! /\ q < l.length):=⟨hx,by have:=N.out;omega⟩
   clear hx
   by_cases h1:x < -2147483647
   ·have R:Hid (vErr l=31):=by unfold Hid vErr;rw [allR_no XX.out.2 (by rw [<- XX.out.1,<- Bool.not_eq_true,inR_iff];omega)];rfl
    go_wp2
    go_ret
    exact ⟨by rw [R.out];rfl,by first | rfl | trivial⟩
   by_cases h2:x > 2147483647
   ·have R:Hid (vErr l=31):=by unfold Hid vErr;rw [allR_no XX.out.2 (by rw [<- XX.out.1,<- Bool.not_eq_true,inR_iff];omega)];rfl
    go_wp2
    go_ret
    exact ⟨by rw [R.out];rfl,by first | rfl | trivial⟩
   ·have R:Hid (allR (l.take (q + 1))=true):=allR_take XX.out.2 X.out (by rw [<- XX.out.1,inR_iff];omega)
    go_wp2
    go_roundw
    case rel=>exact ⟨q + 1,by simp,hqn,by first | rfl | trivial,R⟩
    case measure=>simp [intOf];omega
  ·have hqi:¬ (q:Int) < (n:Int):=by omega
   have R:Hid (vErr l=0):=by
    have:=X.out
    rw [List.take_of_length_le (by have:=N.out;omega)] at this
    unfold Hid vErr;rw [this];rfl
   go_wp2
   go_ret
   exact ⟨by rw [R.out];rfl,by first | rfl | trivial⟩
theorem check_c {w:World} {v:Value} {l:List Int} (h:RdI w v l) (d:Int) :
  Calls Tryz.prog 45 #[v,.int .i64 d] w fun e w'=>e=.returned (.int .i64 (chk l d))/\w=w':=by
 unfold chk
 by_cases hn:1<=d/\d<=64/\(l.length:Int)=d
 ·rw [if_pos hn]
  obtain ⟨h1,h2,rfl⟩:=hn
  exact check_in h (by omega)
 ·rw [if_neg hn]
  exact check_no h d hn
theorem check_v {w:World} {v:Value} {l:List Int} (h:RdI w v l) (d r:Int) (hr:chk l d=r) :
  Calls Tryz.prog 45 #[v,.int .i64 d] w fun e w'=>e=.returned (.int .i64 r)/\w=w':=by
 subst hr;exact check_c h d
end Go.Proofs.YtcipdampcmfmaaaGreat

namespace Go.Proofs.YtcipdampcmfmaaaGreat
open Go.RowKit
set_option maxHeartbeats 2000000
def gap (l h x:Int):Nat:=if x < l then (l - x).toNat else if h < x then (x - h).toNat else 0
theorem side_c (l h:Int) (w:World):Calls Tryz.prog 152 #[.int .i64 l,.int .i64 h] w fun e w' =>
  e=.returned (.func (.func 196) #[] #[.pointer (some ⟨w.heap.size,0,none⟩),.pointer (some ⟨w.heap.size + 1,0,none⟩)])/\w'=(w.alloc (.cells #[.int .i64 l] 3)).alloc (.cells #[.int .i64 h] 3):=by
 go_enter Tryz.func152,Tryz.ntmps152
 go_wp2
 go_ret
 exact ⟨rfl,rfl⟩
theorem side1_c (l h x:Int) (hl:-2147483647<=l/\l<=2147483647) (hh:-2147483647<=h/\h<=2147483647) (hx:-2147483647<=x/\x<=2147483647) (b c:Nat) (w:World)
  (c0:w.cell? ⟨b,0,none⟩=some (.int .i64 l)) (c1:w.cell? ⟨c,0,none⟩=some (.int .i64 h)) :
  Calls Tryz.prog 196 #[.int .i64 x,.pointer (some ⟨b,0,none⟩),.pointer (some ⟨c,0,none⟩)] w fun e w'=>e=.returned (.int .u64 (gap l h x:Int))/\w=w':=by
 obtain ⟨l0,l1⟩:=hl
 obtain ⟨h0,h1⟩:=hh
 obtain ⟨x0,x1⟩:=hx
 by_cases k1:x < l
 ·have G:Hid ((gap l h x:Int)=l - x):=by unfold Hid gap;rw [if_pos k1];omega
  go_enter Tryz.func196,Tryz.ntmps196
  go_wp2
  go_ret
  exact ⟨by rw [G.out];simp,rfl⟩
 by_cases k2:h < x
 ·have G:Hid ((gap l h x:Int)=x - h):=by unfold Hid gap;rw [if_neg k1,if_pos k2];omega
  go_enter Tryz.func196,Tryz.ntmps196
  go_wp2
  go_ret
  exact ⟨by rw [G.out];simp,rfl⟩
 ·have G:Hid ((gap l h x:Int)=0):=by unfold Hid gap;rw [if_neg k1,if_neg k2];rfl
  go_enter Tryz.func196,Tryz.ntmps196
  go_wp2
  go_ret
  exact ⟨by rw [G.out];rfl,rfl⟩
theorem withSquare_c (s n:Nat) (hn:n < 18446744073709551616) (hs:s + n * n < 340282366920938463463374607431768211456) (w:World) :
  Calls Tryz.prog 151 #[Wd s,.int .u64 (n:Int)] w fun e w'=>e=.returned (Wd (s + n * n))/\Gr w w':=by
 have c0:((w.alloc (.cells #[.int .u64 (hi s),.int .u64 (lo s)] 79)).alloc (.cells #[.int .u64 0,.int .u64 0] 79)).cell? ⟨w.heap.size,0,none⟩=some (.int .u64 (hi s)):=by simp [go_sem]
 have c1:((w.alloc (.cells #[.int .u64 (hi s),.int .u64 (lo s)] 79)).alloc (.cells #[.int .u64 0,.int .u64 0] 79)).cell? ⟨w.heap.size,1,none⟩=some (.int .u64 (lo s)):=by simp [go_sem]
 have l1:∀ n:Nat,n < n + 1:=fun n=>by omega
 have l2:=lt_two
 have l3:=lt_three
 go_enter Tryz.func151,Tryz.ntmps151
 go_wp2
 go_region_held3 (fun w'=>w'.cell? ⟨w.heap.size,0,none⟩=some (.int .u64 (hi s))/\w'.cell? ⟨w.heap.size,1,none⟩=some (.int .u64 (lo s))) (first | exact ⟨c0,c1⟩ | exact call_keeps2 (by assumption) (by assumption) | exact alloc_keeps2 (by assumption) | exact alloc_keeps2 ⟨c0,c1⟩ | exact alloc_keeps2 (call_keeps2 g2 (call_keeps2 g1 ⟨c0,c1⟩)) | exact set_far2 (by dsimp only;omega) (by dsimp only;omega) (set_far2 (by dsimp only;omega) (by dsimp only;omega) (by assumption)))
  (first
   | (go_at_call 195;refine (mul_any n n hn hn _).mono ?_;rintro e w1 ⟨rfl,g1⟩;obtain ⟨hc1,hf1,hz1⟩:=g1.rules;have z1:=g1.size;simp only [World.size_alloc,World.size_drew] at z1)
   | (go_at_call 194;refine (add_ok s (n * n) hs _).mono ?_;rintro e w2 ⟨rfl,g2⟩;obtain ⟨hc2,hf2,hz2⟩:=g2.rules))
 ·have hG:Gr ((w.alloc (.cells #[.int .u64 (hi s),.int .u64 (lo s)] 79)).alloc (.cells #[.int .u64 0,.int .u64 0] 79)) (w2.alloc (.cells #[.int .u64 (hi (s + n * n)),.int .u64 (lo (s + n * n))] 79)):=((((Gr.refl _).drew.trans g1).trans g2).alloc _ _)
  have hV:=hG.var2;simp only [World.size_alloc] at hV;obtain ⟨v0,v1,v2,v3⟩:=hV
  go_wp2
  exact bodyPost_ret (v:=Wd (s + n * n)) (by simp [results,Tryz.results151,go_sem,v0,v1]) rfl ⟨rfl,by repeat (first | exact ((Gr.refl _).alloc _ _).trans (((Gr.refl _).alloc _ _).trans hG) | refine Gr.setCell ?_ (by simp) _)⟩
 ·have hq:=g2.var2
  obtain ⟨q0,q1,q2,q3⟩:=hq
  have hG:Gr ((w.alloc (.cells #[.int .u64 (hi s),.int .u64 (lo s)] 79)).alloc (.cells #[.int .u64 0,.int .u64 0] 79)) ((w2.setCell ⟨w1.heap.size,0,none⟩ (.int .u64 (hi (s + n * n)))).setCell ⟨w1.heap.size,1,none⟩ (.int .u64 (lo (s + n * n)))):=((((((Gr.refl _).drew.trans g1).alloc _ _).trans g2).setCell (by simp;omega) _).setCell (by simp;omega) _)
  have hV:=hG.var2;simp only [World.size_alloc] at hV;obtain ⟨v0,v1,v2,v3⟩:=hV
  go_wp2
  exact bodyPost_ret (v:=Wd (s + n * n)) (by simp [results,Tryz.results151,go_sem,v0,v1]) rfl ⟨rfl,by repeat (first | exact ((Gr.refl _).alloc _ _).trans (((Gr.refl _).alloc _ _).trans hG) | refine Gr.setCell ?_ (by simp) _)⟩
 ·have hq:=(((Gr.refl _).drew.trans g1).trans g2).var2
  simp only [World.size_alloc] at hq
  obtain ⟨q0,q1,q2,q3⟩:=hq
  have hG:Gr ((w.alloc (.cells #[.int .u64 (hi s),.int .u64 (lo s)] 79)).alloc (.cells #[.int .u64 0,.int .u64 0] 79)) ((w2.setCell ⟨w.heap.size + 1 + 1,0,none⟩ (.int .u64 (hi (s + n * n)))).setCell ⟨w.heap.size + 1 + 1,1,none⟩ (.int .u64 (lo (s + n * n)))):=((((((Gr.refl _).alloc _ _).drew.trans g1).trans g2).setCell (by simp only [World.size_alloc];omega) _).setCell (by simp only [World.size_alloc];omega) _)
  have hV:=hG.var2;simp only [World.size_alloc] at hV;obtain ⟨v0,v1,v2,v3⟩:=hV
  go_wp2
  exact bodyPost_ret (v:=Wd (s + n * n)) (by simp [results,Tryz.results151,go_sem,v0,v1]) rfl ⟨rfl,by repeat (first | exact ((Gr.refl _).alloc _ _).trans (((Gr.refl _).alloc _ _).trans hG) | refine Gr.setCell ?_ (by simp) _)⟩
end Go.Proofs.YtcipdampcmfmaaaGreat
