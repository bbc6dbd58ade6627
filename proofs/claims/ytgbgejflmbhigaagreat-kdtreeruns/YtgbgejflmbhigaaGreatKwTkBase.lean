import Derived.Test.YtgbgejflmbhigaaGreatProg
import Derived.WalkKit
import Derived.WalkSpells
import Derived.WalkLawsBesides
import Derived.RowKit3
import Derived.WalkSmall
import Derived.Deep.RegionHeld3
import Derived.Deep.RegionWith
import Derived.Handy
import Derived.Sort.Grow
namespace Go.Proofs.YtgbgejflmbhigaaGreat.Tk
open Go.RowKit Go.Sort
set_option maxHeartbeats 1000000
abbrev Ht:Type:=Int × Int × Int
abbrev Ht.id (x:Ht):Int:=x.1
abbrev Ht.hi (x:Ht):Int:=x.2.1
abbrev Ht.lo (x:Ht):Int:=x.2.2
theorem Ht.ext' {a b:Ht} (h1:a.id=b.id) (h2:a.hi=b.hi) (h3:a.lo=b.lo):a=b:=by
 exact Prod.ext h1 (Prod.ext h2 h3)
def enc (x:Ht):List Value:=[.int .i64 x.id,.int .u64 x.hi,.int .u64 x.lo]
abbrev hv (x:Ht):Value:=.agg #[.int .i64 x.id,.int .u64 x.hi,.int .u64 x.lo]
def cw (a b c d:Int):Int:=if a=c/\b=d then 0 else if a < c ∨ a=c/\b < d then -1 else 1
def ci (a b:Int):Int:=if a < b then -1 else if b < a then 1 else 0
def cor (x y:Int):Int:=if x=0 then y else x
def cf (x y:Ht):Int:=cor (cw x.hi x.lo y.hi y.lo) (ci x.id y.id)
def hlt (x y:Ht):Bool:=decide (cf x y < 0)
theorem hlt_iff (x y:Ht):hlt x y=true ↔ (x.hi < y.hi ∨ x.hi=y.hi/\(x.lo < y.lo ∨ x.lo=y.lo/\x.id < y.id)):=by
 unfold hlt cf cor cw ci
 simp only [decide_eq_true_eq]
 (repeat' split) <;> omega
theorem hlt_f (x y:Ht):hlt x y=false ↔ ¬ (x.hi < y.hi ∨ x.hi=y.hi/\(x.lo < y.lo ∨ x.lo=y.lo/\x.id < y.id)):=by
 rw [<- hlt_iff,Bool.not_eq_true]
theorem hlt_irrefl (x:Ht):hlt x x=false:=by rw [hlt_f];omega
theorem hlt_trans {x y z:Ht} (h1:hlt x y=true) (h2:hlt y z=true):hlt x z=true:=by rw [hlt_iff] at *;omega
theorem hlt_ntrans {x y z:Ht} (h1:hlt x y=false) (h2:hlt y z=false):hlt x z=false:=by rw [hlt_f] at *;omega
theorem hlt_asymm {x y:Ht} (h:hlt x y=true):hlt y x=false:=by rw [hlt_iff] at h;rw [hlt_f];omega
theorem hlt_tot {x y:Ht} (h1:hlt x y=false) (h2:hlt y x=false):x=y:=by
 rw [hlt_f] at *;exact Ht.ext' (by omega) (by omega) (by omega)
abbrev Gr (w w':World):Prop:=Below w.heap.size w w'
def Gw (w w':World):Prop:=∃ q os,w'=grow (w.drewN q) os
theorem Gw.refl (w:World):Gw w w:=⟨0,#[],by rw [grow_empty];rfl⟩
theorem Gw.alloc {a w:World} (h:Gw a w) (o:Obj):Gw a (w.alloc o):=by
 obtain ⟨q,os,rfl⟩:=h
 exact ⟨q,os ++ #[o],by rw [alloc_eq_grow,grow_grow]⟩
theorem Gw.drew {a w:World} (h:Gw a w):Gw a w.drew:=by
 obtain ⟨q,os,rfl⟩:=h
 exact ⟨q + 1,os,rfl⟩
theorem Gw.trans {a b c:World} (h:Gw a b) (k:Gw b c):Gw a c:=by
 obtain ⟨q,os,rfl⟩:=h
 obtain ⟨p,os',rfl⟩:=k
 refine ⟨q + p,os ++ os',?_⟩
 show grow (grow ((a.drewN q).drewN p) os) os'=_
 rw [grow_grow,World.drewN_drewN]
theorem Gw.gr {a b:World} (h:Gw a b):Gr a b:=by
 obtain ⟨q,os,rfl⟩:=h
 exact ⟨rfl,rfl,rfl,by simp [World.drewN],fun k hk=>heap_grow_old _ _ hk⟩
theorem gr_trans {a b c:World} (h:Gr a b) (k:Gr b c):Gr a c:=h.trans (k.mono h.size)
theorem gr_alloc {a w:World} (h:Gr a w) (o:Obj):Gr a (w.alloc o):=h.alloc h.size o
theorem gr_keeps {a b:World} (h:Gr a b) {p:Addr} {v:Value} (hc:a.cell? p=some v):b.cell? p=some v :=
 (h.cell (World.block_lt_of_cell? a p hc)).trans hc
theorem alloc_keeps {a:World} {p:Addr} {v:Value} (hc:a.cell? p=some v) (o:Obj):(a.alloc o).cell? p=some v :=
 (World.cell?_alloc_lt _ _ _ (World.block_lt_of_cell? a p hc)).trans hc
theorem cmpw_eq (ah al:Int) (w:World) :
  Calls Tryz.prog 102 #[.agg #[.int .u64 ah,.int .u64 al],.agg #[.int .u64 ah,.int .u64 al]] w fun e w'=>e=.returned (.int .i64 0)/\Gw w w':=by
 go_enter Tryz.func102,Tryz.ntmps102
 go_wp2
 go_ret
 exact ⟨rfl,((Gw.refl _).alloc _).alloc _⟩
theorem cmpw_hi (ah al bh bl:Int) (h:ah < bh) (w:World) :
  Calls Tryz.prog 102 #[.agg #[.int .u64 ah,.int .u64 al],.agg #[.int .u64 bh,.int .u64 bl]] w fun e w'=>e=.returned (.int .i64 (-1))/\Gw w w':=by
 have h1:(ah == bh)=false:=by rw [beq_eq_false_iff_ne];omega
 go_enter Tryz.func102,Tryz.ntmps102
 go_wp2
 go_ret
 exact ⟨rfl,((Gw.refl _).alloc _).alloc _⟩
theorem cmpw_hi' (ah al bh bl:Int) (h:bh < ah) (w:World) :
  Calls Tryz.prog 102 #[.agg #[.int .u64 ah,.int .u64 al],.agg #[.int .u64 bh,.int .u64 bl]] w fun e w'=>e=.returned (.int .i64 1)/\Gw w w':=by
 have h1:(ah == bh)=false:=by rw [beq_eq_false_iff_ne];omega
 go_enter Tryz.func102,Tryz.ntmps102
 go_wp2
 go_ret
 exact ⟨rfl,((Gw.refl _).alloc _).alloc _⟩
theorem cmpw_lo (ah al bl:Int) (h:al < bl) (w:World) :
  Calls Tryz.prog 102 #[.agg #[.int .u64 ah,.int .u64 al],.agg #[.int .u64 ah,.int .u64 bl]] w fun e w'=>e=.returned (.int .i64 (-1))/\Gw w w':=by
 have h1:(al == bl)=false:=by rw [beq_eq_false_iff_ne];omega
 go_enter Tryz.func102,Tryz.ntmps102
 go_wp2
 go_ret
 exact ⟨rfl,((Gw.refl _).alloc _).alloc _⟩
theorem cmpw_lo' (ah al bl:Int) (h:bl < al) (w:World) :
  Calls Tryz.prog 102 #[.agg #[.int .u64 ah,.int .u64 al],.agg #[.int .u64 ah,.int .u64 bl]] w fun e w'=>e=.returned (.int .i64 1)/\Gw w w':=by
 have h1:(al == bl)=false:=by rw [beq_eq_false_iff_ne];omega
 go_enter Tryz.func102,Tryz.ntmps102
 go_wp2
 go_ret
 exact ⟨rfl,((Gw.refl _).alloc _).alloc _⟩
theorem cmpw (a b c d:Int) (w:World) :
  Calls Tryz.prog 102 #[.agg #[.int .u64 a,.int .u64 b],.agg #[.int .u64 c,.int .u64 d]] w fun e w'=>e=.returned (.int .i64 (cw a b c d))/\Gw w w':=by
 by_cases h1:a < c
 ·rw [show cw a b c d=-1 by unfold cw;rw [if_neg (by omega),if_pos (by omega)]];exact cmpw_hi _ _ _ _ h1 w
 by_cases h2:c < a
 ·rw [show cw a b c d=1 by unfold cw;rw [if_neg (by omega),if_neg (by omega)]];exact cmpw_hi' _ _ _ _ h2 w
 obtain rfl:a=c:=by omega
 by_cases h4:b < d
 ·rw [show cw a b a d=-1 by unfold cw;rw [if_neg (by omega),if_pos (by omega)]];exact cmpw_lo _ _ _ h4 w
 by_cases h5:d < b
 ·rw [show cw a b a d=1 by unfold cw;rw [if_neg (by omega),if_neg (by omega)]];exact cmpw_lo' _ _ _ h5 w
 obtain rfl:b=d:=by omega
 rw [show cw a b a b=0 by unfold cw;rw [if_pos (by omega)]];exact cmpw_eq _ _ w
theorem isNaN_c (x:Int) (w:World):Calls Tryz.prog 55 #[.int .i64 x] w fun e w'=>e=.returned (.bool false)/\w'=w:=by
 go_enter Tryz.func55,Tryz.ntmps55
 go_wp2
 go_ret
 exact ⟨by simp,rfl⟩
theorem compare_c (a b:Int) (w:World):Calls Tryz.prog 32 #[.int .i64 a,.int .i64 b] w fun e w'=>e=.returned (.int .i64 (ci a b))/\w'=w:=by
 by_cases h1:a < b
 ·rw [show ci a b=-1 by unfold ci;rw [if_pos h1]]
  go_enter Tryz.func32,Tryz.ntmps32
  go_wp2_with (go_at_call 55;refine (isNaN_c _ _).mono ?_;rintro e w' ⟨rfl,rfl⟩)
  go_ret
  exact ⟨rfl,rfl⟩
 by_cases h2:b < a
 ·rw [show ci a b=1 by unfold ci;rw [if_neg h1,if_pos h2]]
  go_enter Tryz.func32,Tryz.ntmps32
  go_wp2_with (go_at_call 55;refine (isNaN_c _ _).mono ?_;rintro e w' ⟨rfl,rfl⟩)
  go_ret
  exact ⟨rfl,rfl⟩
 rw [show ci a b=0 by unfold ci;rw [if_neg h1,if_neg h2]]
 go_enter Tryz.func32,Tryz.ntmps32
 go_wp2_with (go_at_call 55;refine (isNaN_c _ _).mono ?_;rintro e w' ⟨rfl,rfl⟩)
 go_ret
 exact ⟨rfl,rfl⟩
theorem or_c (b:Nat) (x y:Int) (w:World) (h0:w.cell? ⟨b,0,none⟩=some (.int .i64 x)) (h1:w.cell? ⟨b,1,none⟩=some (.int .i64 y)) :
  Calls Tryz.prog 98 #[.slice (some ⟨b,0,none⟩) 2 2] w fun e w'=>e=.returned (.int .i64 (cor x y))/\w'=w:=by
 by_cases hx:x=0
 ·subst hx
  rw [show cor 0 y=y by simp [cor]]
  by_cases hy:y=0
  ·subst hy
   go_enter Tryz.func98,Tryz.ntmps98
   go_wp2
   refine wp_loop_rounds 3 ?_
   repeat (rw [rounds_succ];go_wp2)
   go_ret
   exact ⟨rfl,rfl⟩
  ·go_enter Tryz.func98,Tryz.ntmps98
   go_wp2
   refine wp_loop_rounds 2 ?_
   repeat (rw [rounds_succ];go_wp2)
   go_ret
   exact ⟨rfl,rfl⟩
 ·rw [show cor x y=x by simp [cor,hx]]
  go_enter Tryz.func98,Tryz.ntmps98
  go_wp2
  refine wp_loop_rounds 1 ?_
  repeat (rw [rounds_succ];go_wp2)
  go_ret
  exact ⟨rfl,rfl⟩
end Go.Proofs.YtgbgejflmbhigaaGreat.Tk
