import Derived.Test.YtcipdampcmfmaabGreatProg
import Derived.WalkKit
import Derived.WalkSpells
import Derived.WalkLawsBesides
import Derived.RowKit3
import Derived.WalkSmall
import Derived.Deep.RegionHeld3
import Derived.Deep.RegionWith
import Derived.Handy
import Derived.Sort.Grow
import Derived.RangeFuncNested
import Derived.RangeFuncBound
import Derived.RangeFuncCalls
import Derived.RangeFuncLeaves
import Derived.Shelf.Abstract
import Derived.Shelf.RegionOpen
import Derived.OwnWalkIn
import Derived.TacticsInMore
import Derived.LoopNIn
import Derived.LoopIn
namespace Go.Proofs.YtcipdampcmfmaabGreat.Tk
open Go.RowKit Go.Sort
set_option maxHeartbeats 1000000
abbrev Ht:Type:=Int × Int × Int
abbrev Ht.id (x:Ht):Int:=x.1
abbrev Ht.hi (x:Ht):Int:=x.2.1
abbrev Ht.lo (x:Ht):Int:=x.2.2
theorem Ht.ext' {a b:Ht} (h1:a.id=b.id) (h2:a.hi=b.hi) (h3:a.lo=b.lo):a=b:=by
 exact Prod.ext h1 (Prod.ext h2 h3)
def enc (x:Ht):List Value:=[.int .i64 x.id,.int .u64 x.hi,.int .u64 x.lo]
abbrev hv (x:Ht):Value:=.agg #[.int .i64 x.id,.int .u64 x.hi,.int .u64 x.lo]
def cw (a b c d:Int):Int:=if a=c/\b=d then 0 else if a < c ∨ a=c/\b < d then -1 else 1
def ci (a b:Int):Int:=if a < b then -1 else if b < a then 1 else 0
def cor (x y:Int):Int:=if x=0 then y else x
def cf (x y:Ht):Int:=cor (cw x.hi x.lo y.hi y.lo) (ci x.id y.id)
def hlt (x y:Ht):Bool:=decide (cf x y < 0)
theorem hlt_iff (x y:Ht):hlt x y=true ↔ (x.hi < y.hi ∨ x.hi=y.hi/\(x.lo < y.lo ∨ x.lo=y.lo/\x.id < y.id)):=by
 unfold hlt cf cor cw ci
 simp only [decide_eq_true_eq]
 (repeat' split) <;> omega
theorem hlt_f (x y:Ht):hlt x y=false ↔ ¬ (x.hi < y.hi ∨ x.hi=y.hi/\(x.lo < y.lo ∨ x.lo=y.lo/\x.id < y.id)):=by
 rw [<- hlt_iff,Bool.not_eq_true]
theorem hlt_irrefl (x:Ht):hlt x x=false:=by rw [hlt_f];omega
theorem hlt_trans {x y z:Ht} (h1:hlt x y=true) (h2:hlt y z=true):hlt x z=true:=by rw [hlt_iff] at *;omega
theorem hlt_ntrans {x y z:Ht} (h1:hlt x y=false) (h2:hlt y z=false):hlt x z=false:=by rw [hlt_f] at *;omega
theorem hlt_asymm {x y:Ht} (h:hlt x y=true):hlt y x=false:=by rw [hlt_iff] at h;rw [hlt_f];omega
theorem hlt_tot {x y:Ht} (h1:hlt x y=false) (h2:hlt y x=false):x=y:=by
 rw [hlt_f] at *;exact Ht.ext' (by omega) (by omega) (by omega)
abbrev Gr (w w':World):Prop:=Below w.heap.size w w'
def Gw (w w':World):Prop:=∃ q os,w'=grow (w.drewN q) os
theorem Gw.refl (w:World):Gw w w:=⟨0,#[],by rw [grow_empty];rfl⟩
theorem Gw.alloc {a w:World} (h:Gw a w) (o:Obj):Gw a (w.alloc o):=by
 obtain ⟨q,os,rfl⟩:=h
 exact ⟨q,os ++ #[o],by rw [alloc_eq_grow,grow_grow]⟩
theorem Gw.drew {a w:World} (h:Gw a w):Gw a w.drew:=by
 obtain ⟨q,os,rfl⟩:=h
 exact ⟨q + 1,os,rfl⟩
theorem Gw.trans {a b c:World} (h:Gw a b) (k:Gw b c):Gw a c:=by
 obtain ⟨q,os,rfl⟩:=h
 obtain ⟨p,os',rfl⟩:=k
 refine ⟨q + p,os ++ os',?_⟩
 show grow (grow ((a.drewN q).drewN p) os) os'=_
 rw [grow_grow,World.drewN_drewN]
theorem Gw.gr {a b:World} (h:Gw a b):Gr a b:=by
 obtain ⟨q,os,rfl⟩:=h
 exact ⟨rfl,rfl,rfl,by simp [World.drewN],fun k hk=>heap_grow_old _ _ hk⟩
theorem gr_trans {a b c:World} (h:Gr a b) (k:Gr b c):Gr a c:=h.trans (k.mono h.size)
theorem gr_alloc {a w:World} (h:Gr a w) (o:Obj):Gr a (w.alloc o):=h.alloc h.size o
theorem gr_keeps {a b:World} (h:Gr a b) {p:Addr} {v:Value} (hc:a.cell? p=some v):b.cell? p=some v :=
 (h.cell (World.block_lt_of_cell? a p hc)).trans hc
theorem alloc_keeps {a:World} {p:Addr} {v:Value} (hc:a.cell? p=some v) (o:Obj):(a.alloc o).cell? p=some v :=
 (World.cell?_alloc_lt _ _ _ (World.block_lt_of_cell? a p hc)).trans hc
theorem cmpw_eq (ah al:Int) (w:World) :
  Calls Tryz.prog 54 #[.agg #[.int .u64 ah,.int .u64 al],.agg #[.int .u64 ah,.int .u64 al]] w fun e w'=>e=.returned (.int .i64 0)/\Gw w w':=by
 go_enter Tryz.func54,Tryz.ntmps54
 go_wp2
 go_ret
 exact ⟨rfl,((Gw.refl _).alloc _).alloc _⟩
theorem cmpw_hi (ah al bh bl:Int) (h:ah < bh) (w:World) :
  Calls Tryz.prog 54 #[.agg #[.int .u64 ah,.int .u64 al],.agg #[.int .u64 bh,.int .u64 bl]] w fun e w'=>e=.returned (.int .i64 (-1))/\Gw w w':=by
 have h1:(ah == bh)=false:=by rw [beq_eq_false_iff_ne];omega
 go_enter Tryz.func54,Tryz.ntmps54
 go_wp2
 go_ret
 exact ⟨rfl,((Gw.refl _).alloc _).alloc _⟩
theorem cmpw_hi' (ah al bh bl:Int) (h:bh < ah) (w:World) :
  Calls Tryz.prog 54 #[.agg #[.int .u64 ah,.int .u64 al],.agg #[.int .u64 bh,.int .u64 bl]] w fun e w'=>e=.returned (.int .i64 1)/\Gw w w':=by
 have h1:(ah == bh)=false:=by rw [beq_eq_false_iff_ne];omega
 go_enter Tryz.func54,Tryz.ntmps54
 go_wp2
 go_ret
 exact ⟨rfl,((Gw.refl _).alloc _).alloc _⟩
theorem cmpw_lo (ah al bl:Int) (h:al < bl) (w:World) :
  Calls Tryz.prog 54 #[.agg #[.int .u64 ah,.int .u64 al],.agg #[.int .u64 ah,.int .u64 bl]] w fun e w'=>e=.returned (.int .i64 (-1))/\Gw w w':=by
 have h1:(al == bl)=false:=by rw [beq_eq_false_iff_ne];omega
 go_enter Tryz.func54,Tryz.ntmps54
 go_wp2
 go_ret
 exact ⟨rfl,((Gw.refl _).alloc _).alloc _⟩
theorem cmpw_lo' (ah al bl:Int) (h:bl < al) (w:World) :
  Calls Tryz.prog 54 #[.agg #[.int .u64 ah,.int .u64 al],.agg #[.int .u64 ah,.int .u64 bl]] w fun e w'=>e=.returned (.int .i64 1)/\Gw w w':=by
 have h1:(al == bl)=false:=by rw [beq_eq_false_iff_ne];omega
 go_enter Tryz.func54,Tryz.ntmps54
 go_wp2
 go_ret
 exact ⟨rfl,((Gw.refl _).alloc _).alloc _⟩
theorem cmpw (a b c d:Int) (w:World) :
  Calls Tryz.prog 54 #[.agg #[.int .u64 a,.int .u64 b],.agg #[.int .u64 c,.int .u64 d]] w fun e w'=>e=.returned (.int .i64 (cw a b c d))/\Gw w w':=by
 by_cases h1:a < c
 ·rw [show cw a b c d=-1 by unfold cw;rw [if_neg (by omega),if_pos (by omega)]];exact cmpw_hi _ _ _ _ h1 w
 by_cases h2:c < a
 ·rw [show cw a b c d=1 by unfold cw;rw [if_neg (by omega),if_neg (by omega)]];exact cmpw_hi' _ _ _ _ h2 w
 obtain rfl:a=c:=by omega
 by_cases h4:b < d
 ·rw [show cw a b a d=-1 by unfold cw;rw [if_neg (by omega),if_pos (by omega)]];exact cmpw_lo _ _ _ h4 w
 by_cases h5:d < b
 ·rw [show cw a b a d=1 by unfold cw;rw [if_neg (by omega),if_neg (by omega)]];exact cmpw_lo' _ _ _ h5 w
 obtain rfl:b=d:=by omega
 rw [show cw a b a b=0 by unfold cw;rw [if_pos (by omega)]];exact cmpw_eq _ _ w
theorem isNaN_c (x:Int) (w:World):Calls Tryz.prog 107 #[.int .i64 x] w fun e w'=>e=.returned (.bool false)/\w'=w:=by
 go_enter Tryz.func107,Tryz.ntmps107
 go_wp2
 go_ret
 exact ⟨by simp,rfl⟩
theorem compare_c (a b:Int) (w:World):Calls Tryz.prog 68 #[.int .i64 a,.int .i64 b] w fun e w'=>e=.returned (.int .i64 (ci a b))/\w'=w:=by
 by_cases h1:a < b
 ·rw [show ci a b=-1 by unfold ci;rw [if_pos h1]]
  go_enter Tryz.func68,Tryz.ntmps68
  go_wp2_with (go_at_call 107;refine (isNaN_c _ _).mono ?_;rintro e w' ⟨rfl,rfl⟩)
  go_ret
  exact ⟨rfl,rfl⟩
 by_cases h2:b < a
 ·rw [show ci a b=1 by unfold ci;rw [if_neg h1,if_pos h2]]
  go_enter Tryz.func68,Tryz.ntmps68
  go_wp2_with (go_at_call 107;refine (isNaN_c _ _).mono ?_;rintro e w' ⟨rfl,rfl⟩)
  go_ret
  exact ⟨rfl,rfl⟩
 rw [show ci a b=0 by unfold ci;rw [if_neg h1,if_neg h2]]
 go_enter Tryz.func68,Tryz.ntmps68
 go_wp2_with (go_at_call 107;refine (isNaN_c _ _).mono ?_;rintro e w' ⟨rfl,rfl⟩)
 go_ret
 exact ⟨rfl,rfl⟩
theorem or_c (b:Nat) (x y:Int) (w:World) (h0:w.cell? ⟨b,0,none⟩=some (.int .i64 x)) (h1:w.cell? ⟨b,1,none⟩=some (.int .i64 y)) :
  Calls Tryz.prog 141 #[.slice (some ⟨b,0,none⟩) 2 2] w fun e w'=>e=.returned (.int .i64 (cor x y))/\w'=w:=by
 by_cases hx:x=0
 ·subst hx
  rw [show cor 0 y=y by simp [cor]]
  by_cases hy:y=0
  ·subst hy
   go_enter Tryz.func141,Tryz.ntmps141
   go_wp2
   refine wp_loop_rounds 3 ?_
   repeat (rw [rounds_succ];go_wp2)
   go_ret
   exact ⟨rfl,rfl⟩
  ·go_enter Tryz.func141,Tryz.ntmps141
   go_wp2
   refine wp_loop_rounds 2 ?_
   repeat (rw [rounds_succ];go_wp2)
   go_ret
   exact ⟨rfl,rfl⟩
 ·rw [show cor x y=x by simp [cor,hx]]
  go_enter Tryz.func141,Tryz.ntmps141
  go_wp2
  refine wp_loop_rounds 1 ?_
  repeat (rw [rounds_succ];go_wp2)
  go_ret
  exact ⟨rfl,rfl⟩
end Go.Proofs.YtcipdampcmfmaabGreat.Tk

namespace Go.Proofs.YtcipdampcmfmaabGreat.Tk
open Go.RowKit Go.Sort
set_option maxHeartbeats 2000000
theorem six_call {w0 W w':World} {p0 p1 p2 p3 p4 p5:Addr} {v0 v1 v2 v3 v4 v5:Value} (g:Gw W w')
  (h:Gw w0 W/\W.cell? p0=some v0/\W.cell? p1=some v1/\W.cell? p2=some v2/\W.cell? p3=some v3/\W.cell? p4=some v4/\W.cell? p5=some v5) :
  Gw w0 w'/\w'.cell? p0=some v0/\w'.cell? p1=some v1/\w'.cell? p2=some v2/\w'.cell? p3=some v3/\w'.cell? p4=some v4/\w'.cell? p5=some v5:=by
 obtain ⟨a,b0,b1,b2,b3,b4,b5⟩:=h
 exact ⟨a.trans g,gr_keeps g.gr b0,gr_keeps g.gr b1,gr_keeps g.gr b2,gr_keeps g.gr b3,gr_keeps g.gr b4,gr_keeps g.gr b5⟩
theorem six_alloc {w0 W:World} {o:Obj} {p0 p1 p2 p3 p4 p5:Addr} {v0 v1 v2 v3 v4 v5:Value}
  (h:Gw w0 W/\W.cell? p0=some v0/\W.cell? p1=some v1/\W.cell? p2=some v2/\W.cell? p3=some v3/\W.cell? p4=some v4/\W.cell? p5=some v5) :
  Gw w0 (W.alloc o)/\(W.alloc o).cell? p0=some v0/\(W.alloc o).cell? p1=some v1/\(W.alloc o).cell? p2=some v2/\(W.alloc o).cell? p3=some v3/\(W.alloc o).cell? p4=some v4/\(W.alloc o).cell? p5=some v5 :=
 six_call ((Gw.refl _).alloc _) h
theorem or_new (x y:Int) (W:World) :
  Calls Tryz.prog 141 #[.slice (some ⟨W.heap.size,0,none⟩) 2 2] (W.alloc (.cells #[.int .i64 x,.int .i64 y] 3)) fun e w'=>e=.returned (.int .i64 (cor x y))/\w'=W.alloc (.cells #[.int .i64 x,.int .i64 y] 3) :=
 or_c _ x y _ (by simp [go_sem]) (by simp [go_sem])
theorem order_c (x y:Ht) (w:World):Calls Tryz.prog 96 #[hv x,hv y] w fun e w'=>e=.returned (.int .i64 (cf x y))/\Gw w w':=by
 obtain ⟨a0,a1,a2⟩:=x
 obtain ⟨b0,b1,b2⟩:=y
 show Calls Tryz.prog 96 #[.agg #[.int .i64 a0,.int .u64 a1,.int .u64 a2],.agg #[.int .i64 b0,.int .u64 b1,.int .u64 b2]] w fun e w'=>e=.returned (.int .i64 (cor (cw a1 a2 b1 b2) (ci a0 b0)))/\Gw w w'
 go_enter Tryz.func96,Tryz.ntmps96
 go_wp2
 have C:Gw w ((w.alloc (.cells #[.int .i64 a0,.int .u64 a1,.int .u64 a2] 58)).alloc (.cells #[.int .i64 b0,.int .u64 b1,.int .u64 b2] 58)):=((Gw.refl _).alloc _).alloc _
 go_region_held3 (fun w'=>Gw w w'/\w'.cell? ⟨w.heap.size,0,none⟩=some (.int .i64 a0)/\w'.cell? ⟨w.heap.size,1,none⟩=some (.int .u64 a1)/\w'.cell? ⟨w.heap.size,2,none⟩=some (.int .u64 a2)/\w'.cell? ⟨w.heap.size + 1,0,none⟩=some (.int .i64 b0)/\w'.cell? ⟨w.heap.size + 1,1,none⟩=some (.int .u64 b1)/\w'.cell? ⟨w.heap.size + 1,2,none⟩=some (.int .u64 b2)) (first | (with_reducible exact six_call (by assumption) (by assumption)) | (with_reducible assumption) | (with_reducible exact six_alloc (by assumption)) | exact ⟨C.drew,by simp [go_sem],by simp [go_sem],by simp [go_sem],by simp [go_sem],by simp [go_sem],by simp [go_sem]⟩) (first | (go_at_call 54;refine (cmpw _ _ _ _ _).mono ?_;rintro e w' ⟨rfl,hg⟩) | (go_at_call 68;refine (compare_c _ _ _).mono ?_;rintro e w' ⟨rfl,rfl⟩) | (go_at_call 141;refine (or_new _ _ _).mono ?_;rintro e w' ⟨rfl,rfl⟩))
 all_goals
  go_wp2
  go_ret
  exact ⟨rfl,And.left (by assumption)⟩
theorem less_c (x y:Ht) (w:World):Calls Tryz.prog 115 #[hv x,hv y] w fun e w'=>e=.returned (.bool (hlt x y))/\Gw w w':=by
 have ho:=fun w=>order_c x y w
 unfold hlt
 generalize cf x y=r at ho ⊢
 go_enter Tryz.func115,Tryz.ntmps115
 go_wp2_with (go_at_call 96;refine (ho _).mono ?_;rintro e w' ⟨rfl,hg⟩)
 go_ret
 exact ⟨rfl,(((Gw.refl _).alloc _).alloc _).trans hg⟩
end Go.Proofs.YtcipdampcmfmaabGreat.Tk

namespace Go.Proofs.YtcipdampcmfmaabGreat.Rn
open Go.RowKit Go.Shelf
set_option maxHeartbeats 400000
abbrev U (z:Int):Prop:=0<=z/\z < 18446744073709551616
theorem u_wrap (z:Int):U (IntKind.u64.wrap z):=by
 rw [IntKind.wrap_u64];exact ⟨Int.emod_nonneg _ (by decide),Int.emod_lt_of_pos _ (by decide)⟩
theorem u_bits (o:BinOp) (x y:Int):U (bits o .u64 x y):=by
 unfold bits;exact u_wrap _
def stp (x:Int):Int:=IntKind.u64.wrap (x + 11400714819323198485)
def sh (z m c:Int):Int:=IntKind.u64.wrap (bits .xor .u64 z (z / m) * c)
def mx0 (z:Int):Int:=bits .xor .u64 z (z / 2147483648)
def mx (z:Int):Int:=mx0 (sh (sh z 1073741824 13787848793156543929) 134217728 10723151780598845931)
theorem u_mx (z:Int):U (mx z):=by unfold mx mx0;exact u_bits _ _ _
def stN (x:Int):Nat->Int
 | 0=>x
 | k + 1=>stp (stN x k)
theorem stN_succ (x:Int) (k:Nat):stN x (k + 1)=IntKind.u64.wrap (stN x k + 11400714819323198485):=rfl
theorem mix_c (z:Int) (w:World) (h:U z) :
  Calls Tryz.prog 197 #[.int .u64 z] w fun e w'=>e=.returned (.int .u64 (mx z))/\w=w':=by
 obtain ⟨h0,h1⟩:=h
 go_enter Tryz.func197,Tryz.ntmps197
 go_wp2
 go_ret
 exact ⟨rfl,rfl⟩
theorem rest_c (z n:Int) (w:World) (h:U z) (hn:1<=n) (hm:n<=1000000000) :
  Calls Tryz.prog 183 #[.int .u64 z,.int .i64 n] w fun e w'=>e=.returned (.int .i64 (z % n))/\w=w':=by
 obtain ⟨h0,h1⟩:=h
 have e1:wrap64 (z % n)=z % n:=by
  have:=Int.emod_nonneg z (b:=n) (by omega)
  have:=Int.emod_lt_of_pos z (b:=n) (by omega)
  simp only [wrap64];omega
 go_enter Tryz.func183,Tryz.ntmps183
 go_wp2
 go_ret
 exact ⟨by simp [e1],rfl⟩
theorem new_c (x:Int) (w:World) :
  Calls Tryz.prog 155 #[.int .u64 x] w fun e w'=>e=.returned (.pointer (some ⟨w.heap.size,0,none⟩))/\w'=w.alloc (.cells #[.int .u64 x] 235):=by
 go_enter Tryz.func155,Tryz.ntmps155
 go_wp2
 go_ret
 exact ⟨rfl,rfl⟩
theorem draws_c (p:Option Addr) (k:Int) (w:World) :
  Calls Tryz.prog 182 #[.pointer p,.int .i64 k] w fun e w'=>e=.returned (.func (.func 196) #[] #[.pointer (some ⟨w.heap.size,0,none⟩),.pointer (some ⟨w.heap.size + 1,0,none⟩)])/\w'=(w.alloc (.cells #[.pointer p] 218)).alloc (.cells #[.int .i64 k] 3):=by
 go_enter Tryz.func182,Tryz.ntmps182
 go_wp2
 go_ret
 exact ⟨rfl,rfl⟩
def ckE (n lo hi:Int):Int:=if n < lo ∨ hi < n then 1 else 0
theorem check_c (a:Addr) (n lo hi:Int) (w:World) :
  Calls Tryz.prog 180 #[.pointer (some a),.int .i64 n,.int .i64 lo,.int .i64 hi] w fun e w'=>e=.returned (.int .i64 (ckE n lo hi))/\w=w':=by
 unfold ckE
 by_cases h1:n < lo
 ·rw [if_pos (.inl h1)]
  go_enter Tryz.func180,Tryz.ntmps180
  go_wp2
  go_ret
  exact ⟨rfl,rfl⟩
 ·by_cases h2:hi < n
  ·rw [if_pos (.inr h2)]
   go_enter Tryz.func180,Tryz.ntmps180
   go_wp2
   go_ret
   exact ⟨rfl,rfl⟩
  ·rw [if_neg (by omega)]
   go_enter Tryz.func180,Tryz.ntmps180
   go_wp2
   go_ret
   exact ⟨rfl,rfl⟩
end Go.Proofs.YtcipdampcmfmaabGreat.Rn

namespace Go.Proofs.YtcipdampcmfmaabGreat.Rn
open Go.RowKit Go.Shelf
attribute [local go_sem] Oper.semAt_some
def leftBy (I:Nat->World->Prop) (Ir:Nat->World->Prop) (k:Nat) (W:World):Exit->Act->World->Prop
 | .normal,_,W'=>KeepsOthers W W'/\I k W'
 | .ret,_,W'=>KeepsOthers W W'/\Ir k W'
 | _,_,_=>False
def Gives (n:Nat) (P:Program) (gf:Nat) (lb:Array Value) (N b:Nat) (put arg:Nat->Value) (I:Nat->World->Prop):Prop :=
 ∀ (l:Nat) (J J1 Jx:Nat->World->Prop) (W:World),(∀ k W,J k W->I k W) ->
  (∀ k W,k < N->J k W->J1 k (W.setCell ⟨b,0,none⟩ (put k))) ->
  (∀ k W,k < N->J1 k W->YieldAt Fence.wide (n - 1) P l #[arg k] W fun e W' =>
   (e=.returned (.bool true)/\J (k + 1) W') ∨ (e=.returned (.bool false)/\Jx (k + 1) W')) ->
  J 0 W ->
  CallsIn Fence.wide n P gf (#[.func (.yield l) #[] #[]] ++ lb) W fun e W'=>(∃ v,e=.returned v)/\(J N W' ∨ ∃ k,k < N/\Jx (k + 1) W')
theorem range_c {n:Nat} {P:Program} {g:Operand} {ps:Array Tmp} {assign body:Code} {Q:Exit->Act->World->Prop} {a:Act} {w:World}
  {gf:Nat} {lb:Array Value} (hg:a.eval g=.func (.func gf) #[] lb) (eg:∀ args w,(callFunc gf args).run P w=.ok (.enter gf args) w)
  (hps:ps.size=1) (N b:Nat) (put arg:Nat->Value) (I I1 Ir:Nat->World->Prop)
  (hI:OwnFrom w.heap.size I) (hI1:OwnFrom w.heap.size I1) (hIr:OwnFrom w.heap.size Ir) (h0:I 0 w)
  (hst:∀ k W,k < N->I k W->I1 k (W.setCell ⟨b,0,none⟩ (put k)))
  (hit:Gives (n - 1) P gf lb N b put arg I) (a₁:Nat->Act)
  (hassign:∀ (l k:Nat) (W:World) (K:Act->World->Prop),K (a₁ k) W ->
   assign.wpIn (Fence.wide.inRound l) (n - 1 - 1) P (Exit.then K (fun _ _ _=>False)) { tmps:=(ps.zip #[arg k]).foldl (fun t (p,v)=>t.setIfInBounds p v) a.tmps,defers:=[] } W)
  (hbody:∀ (l k:Nat) (W:World),k < N->I1 k W->body.wpIn (Fence.wide.inRound l) (n - 1 - 1) P (leftBy I Ir (k + 1) W) (a₁ k) W)
  (hdone:∀ (D:Nat) (W:World),w.heap.size<=D->I N W->W.heap[D]? = some (.deferred (some []))->Q .normal { a with defers:={ target:=.collected D,args:=#[] } :: a.defers } W)
  (hstop:∀ (D k:Nat) (W:World),w.heap.size<=D->k < N->Ir (k + 1) W->W.heap[D]? = some (.deferred (some []))->Code.ret.wpIn Fence.wide n P Q { a with defers:={ target:=.collected D,args:=#[] } :: a.defers } W) :
  (Code.rangeFunc g ps assign body).wpIn Fence.wide n P Q a w:=by
 refine wpIn_rangeFunc fun fn hfn=>?_
 obtain ⟨rc,hrc⟩:∃ rc:LoopState->Option Code->Loop,rc=fun s p=>{ state:=s,pending:=p,fn:=fn,tmps:=a.tmps,params:=ps,assign:=assign,body:=body,defers:=w.heap.size }:=⟨_,rfl⟩
 obtain ⟨V,hV⟩:∃ V,(w.alloc (.deferred (some []))).alloc (.loop (rc .ready none))=V:=⟨_,rfl⟩
 have hlV:V.heap[w.heap.size + 1]? = some (.loop (rc .ready none)):=by
  rw [<- hV];have:=World.alloc_heap_new (w.alloc (.deferred (some []))) (.loop (rc .ready none));rwa [World.size_alloc] at this
 have hdV:V.heap[w.heap.size]? = some (.deferred (some [])):=by
  rw [<- hV];exact (Below.heap_alloc _ _ _ (by simp)).trans (World.alloc_heap_new w _)
 have hIV:I 0 V:=by rw [<- hV];exact hI.alloc _ (hI.alloc _ h0)
 refine ⟨w.heap.size + 1,[{ target:=.collected w.heap.size,args:=#[] }],V,{ target:=.fn (.func gf) lb,args:=#[.func (.yield (w.heap.size + 1)) #[] #[]] },V,gf,
  #[.func (.yield (w.heap.size + 1)) #[] #[]] ++ lb,V,?_,?_,fun _ _=>trivial,?_,fun h=>by simp [Fence.wide] at h,?_⟩
 ·rw [<- hV,hrc];exact run_enterLoop_outer _ _ _ _ _
 ·simp only [resolve,hg]
  simp [go_sem]
 ·simp [invoke,go_sem,eg]
 refine (hit (w.heap.size + 1)
  (fun k W=>I k W/\W.heap[w.heap.size + 1]? = some (.loop (rc .ready none))/\W.heap[w.heap.size]? = some (.deferred (some [])))
  (fun k W=>I1 k W/\W.heap[w.heap.size + 1]? = some (.loop (rc .ready none))/\W.heap[w.heap.size]? = some (.deferred (some [])))
  (fun k W=>Ir k W/\W.heap[w.heap.size + 1]? = some (.loop (rc .done (some .ret)))/\W.heap[w.heap.size]? = some (.deferred (some [])))
  V (fun _ _ h=>h.1) (fun k W hk h=>⟨hst k W hk h.1,(KeepsOthers.setCell W _ _).same _ _ h.2.1 rfl,(KeepsOthers.setCell W _ _).same _ _ h.2.2 rfl⟩) ?_ ⟨hIV,hlV,hdV⟩).mono ?_
 ·-- one round
  rintro k W hk ⟨hi,hl,hd⟩
  have hlt:w.heap.size + 1 < W.heap.size:=(Array.getElem?_eq_some_iff.1 hl).1
  have hy:=run_yield (P:=P) (args:=#[arg k]) hl (by rw [hrc];simp [hps])
  rw [hrc] at hy
  refine ⟨fn,_,assign,body,hy,roundIn_of_wpIn hfn (hassign _ k W _ ⟨_,run_beginRound hl (by rw [hrc]),?_⟩)⟩
  obtain ⟨W2,hW2⟩:∃ W2,W.putObj (w.heap.size + 1) (.loop { rc .ready none with state:=.busy })=W2:=⟨_,rfl⟩
  rw [hW2]
  have hl2:W2.heap[w.heap.size + 1]? = some (.loop { rc .ready none with state:=.busy }):=by rw [<- hW2];exact World.putObj_heap_same hlt
  have hd2:W2.heap[w.heap.size]? = some (.deferred (some [])):=by rw [<- hW2];exact (World.putObj_heap_other (by omega)).trans hd
  have hi2:I1 k W2:=by rw [<- hW2];exact hI1.putObj _ hi (by omega) hl rfl
  refine wpIn_mono (hbody _ k W2 hk hi2) ?_
  have fin:∀ (j:Option Code) (W3:World),KeepsOthers W2 W3 ->
    (Instr.endRound (w.heap.size + 1) j).run P W3=.ok (.bool j.isNone) (W3.putObj (w.heap.size + 1) (.loop (rc (if j.isNone then .ready else .done) j))) /\
    W3.heap[w.heap.size + 1]? = some (.loop { rc .ready none with state:=.busy }) /\
    (W3.putObj (w.heap.size + 1) (.loop (rc (if j.isNone then .ready else .done) j))).heap[w.heap.size + 1]? = some (.loop (rc (if j.isNone then .ready else .done) j)) /\
    (W3.putObj (w.heap.size + 1) (.loop (rc (if j.isNone then .ready else .done) j))).heap[w.heap.size]? = some (.deferred (some [])):=fun j W3 hk3=>by
   have hl3:=hk3.same _ _ hl2 rfl
   have:=run_endRound (P:=P) j hl3
   rw [hrc] at this ⊢
   exact ⟨this,by rw [hrc] at hl3;exact hl3,World.putObj_heap_same (Array.getElem?_eq_some_iff.1 hl3).1,(World.putObj_heap_other (by omega)).trans (hk3.same _ _ hd2 rfl)⟩
  rintro e a3 W3 hp
  cases e with
  | normal =>
   obtain ⟨hk3,hi3⟩:=hp
   obtain ⟨hr,hl3,hl4,hd4⟩:=fin none W3 hk3
   exact ⟨_,_,hr,.inl ⟨rfl,hI.putObj _ hi3 (by omega) hl3 rfl,hl4,hd4⟩⟩
  | ret =>
   obtain ⟨hk3,hi3⟩:=hp
   obtain ⟨hr,hl3,hl4,hd4⟩:=fin (some .ret) W3 hk3
   exact ⟨_,_,hr,.inr ⟨rfl,hIr.putObj _ hi3 (by omega) hl3 rfl,hl4,hd4⟩⟩
  | exit id=>exact hp.elim
  | goto t=>exact hp.elim
  | panic ch=>exact hp.elim
  | outgrown=>exact hp.elim
 ·-- behind it
  rintro e W2 ⟨⟨v,rfl⟩,⟨hi,hl,hd⟩ | ⟨k,hk,hi,hl,hd⟩⟩
  ·exact ⟨none,_,by have:=run_endLoop (P:=P) hl (by rw [hrc];simp);rw [hrc] at this;exact this,hdone _ _ (Nat.le_refl _) (hI.putObj _ hi (by omega) hl rfl) ((World.putObj_heap_other (by omega)).trans hd)⟩
  ·exact ⟨some .ret,_,by have:=run_endLoop (P:=P) hl (by rw [hrc];simp);rw [hrc] at this;exact this,hstop _ k _ (Nat.le_refl _) hk (hIr.putObj _ hi (by omega) hl rfl) ((World.putObj_heap_other (by omega)).trans hd)⟩
end Go.Proofs.YtcipdampcmfmaabGreat.Rn
