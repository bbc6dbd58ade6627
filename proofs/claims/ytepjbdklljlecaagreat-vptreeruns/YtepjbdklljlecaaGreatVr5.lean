import Derived.Test.YtepjbdklljlecaaGreatProg
import Derived.WalkKit
import Derived.WalkSpells
import Derived.WalkLawsBesides
import Derived.RowKit3
import Derived.WalkSmall
import Derived.Deep.RegionHeld3
import Derived.Deep.RegionWith
import Derived.Handy
import Derived.Sort.Grow
import Derived.Shelf.GgSortFunc.RowK
import Derived.Shelf.GgSortFunc.InsertionK
import Derived.Deep.AppendLies
import Derived.Deep.DrawnRows
namespace Go.Proofs.YtepjbdklljlecaaGreat.Tk
open Go.RowKit Go.Sort
set_option maxHeartbeats 1000000
abbrev Ht:Type:=Int × Int × Int
abbrev Ht.id (x:Ht):Int:=x.1
abbrev Ht.hi (x:Ht):Int:=x.2.1
abbrev Ht.lo (x:Ht):Int:=x.2.2
theorem Ht.ext' {a b:Ht} (h1:a.id=b.id) (h2:a.hi=b.hi) (h3:a.lo=b.lo):a=b:=by
 exact Prod.ext h1 (Prod.ext h2 h3)
def enc (x:Ht):List Value:=[.int .i64 x.id,.int .u64 x.hi,.int .u64 x.lo]
abbrev hv (x:Ht):Value:=.agg #[.int .i64 x.id,.int .u64 x.hi,.int .u64 x.lo]
def cw (a b c d:Int):Int:=if a=c/\b=d then 0 else if a < c ∨ a=c/\b < d then -1 else 1
def ci (a b:Int):Int:=if a < b then -1 else if b < a then 1 else 0
def cor (x y:Int):Int:=if x=0 then y else x
def cf (x y:Ht):Int:=cor (cw x.hi x.lo y.hi y.lo) (ci x.id y.id)
def hlt (x y:Ht):Bool:=decide (cf x y < 0)
theorem hlt_iff (x y:Ht):hlt x y=true ↔ (x.hi < y.hi ∨ x.hi=y.hi/\(x.lo < y.lo ∨ x.lo=y.lo/\x.id < y.id)):=by
 unfold hlt cf cor cw ci
 simp only [decide_eq_true_eq]
 (repeat' split) <;> omega
theorem hlt_f (x y:Ht):hlt x y=false ↔ ¬ (x.hi < y.hi ∨ x.hi=y.hi/\(x.lo < y.lo ∨ x.lo=y.lo/\x.id < y.id)):=by
 rw [<- hlt_iff,Bool.not_eq_true]
theorem hlt_irrefl (x:Ht):hlt x x=false:=by rw [hlt_f];omega
theorem hlt_trans {x y z:Ht} (h1:hlt x y=true) (h2:hlt y z=true):hlt x z=true:=by rw [hlt_iff] at *;omega
theorem hlt_ntrans {x y z:Ht} (h1:hlt x y=false) (h2:hlt y z=false):hlt x z=false:=by rw [hlt_f] at *;omega
theorem hlt_asymm {x y:Ht} (h:hlt x y=true):hlt y x=false:=by rw [hlt_iff] at h;rw [hlt_f];omega
theorem hlt_tot {x y:Ht} (h1:hlt x y=false) (h2:hlt y x=false):x=y:=by
 rw [hlt_f] at *;exact Ht.ext' (by omega) (by omega) (by omega)
abbrev Gr (w w':World):Prop:=Below w.heap.size w w'
def Gw (w w':World):Prop:=∃ q os,w'=grow (w.drewN q) os
theorem Gw.refl (w:World):Gw w w:=⟨0,#[],by rw [grow_empty];rfl⟩
theorem Gw.alloc {a w:World} (h:Gw a w) (o:Obj):Gw a (w.alloc o):=by
 obtain ⟨q,os,rfl⟩:=h
 exact ⟨q,os ++ #[o],by rw [alloc_eq_grow,grow_grow]⟩
theorem Gw.drew {a w:World} (h:Gw a w):Gw a w.drew:=by
 obtain ⟨q,os,rfl⟩:=h
 exact ⟨q + 1,os,rfl⟩
theorem Gw.trans {a b c:World} (h:Gw a b) (k:Gw b c):Gw a c:=by
 obtain ⟨q,os,rfl⟩:=h
 obtain ⟨p,os',rfl⟩:=k
 refine ⟨q + p,os ++ os',?_⟩
 show grow (grow ((a.drewN q).drewN p) os) os'=_
 rw [grow_grow,World.drewN_drewN]
theorem Gw.gr {a b:World} (h:Gw a b):Gr a b:=by
 obtain ⟨q,os,rfl⟩:=h
 exact ⟨rfl,rfl,rfl,by simp [World.drewN],fun k hk=>heap_grow_old _ _ hk⟩
theorem gr_trans {a b c:World} (h:Gr a b) (k:Gr b c):Gr a c:=h.trans (k.mono h.size)
theorem gr_alloc {a w:World} (h:Gr a w) (o:Obj):Gr a (w.alloc o):=h.alloc h.size o
theorem gr_keeps {a b:World} (h:Gr a b) {p:Addr} {v:Value} (hc:a.cell? p=some v):b.cell? p=some v :=
 (h.cell (World.block_lt_of_cell? a p hc)).trans hc
theorem alloc_keeps {a:World} {p:Addr} {v:Value} (hc:a.cell? p=some v) (o:Obj):(a.alloc o).cell? p=some v :=
 (World.cell?_alloc_lt _ _ _ (World.block_lt_of_cell? a p hc)).trans hc
theorem cmpw_eq (ah al:Int) (w:World) :
  Calls Tryz.prog 70 #[.agg #[.int .u64 ah,.int .u64 al],.agg #[.int .u64 ah,.int .u64 al]] w fun e w'=>e=.returned (.int .i64 0)/\Gw w w':=by
 go_enter Tryz.func70,Tryz.ntmps70
 go_wp2
 go_ret
 exact ⟨rfl,((Gw.refl _).alloc _).alloc _⟩
theorem cmpw_hi (ah al bh bl:Int) (h:ah < bh) (w:World) :
  Calls Tryz.prog 70 #[.agg #[.int .u64 ah,.int .u64 al],.agg #[.int .u64 bh,.int .u64 bl]] w fun e w'=>e=.returned (.int .i64 (-1))/\Gw w w':=by
 have h1:(ah == bh)=false:=by rw [beq_eq_false_iff_ne];omega
 go_enter Tryz.func70,Tryz.ntmps70
 go_wp2
 go_ret
 exact ⟨rfl,((Gw.refl _).alloc _).alloc _⟩
theorem cmpw_hi' (ah al bh bl:Int) (h:bh < ah) (w:World) :
  Calls Tryz.prog 70 #[.agg #[.int .u64 ah,.int .u64 al],.agg #[.int .u64 bh,.int .u64 bl]] w fun e w'=>e=.returned (.int .i64 1)/\Gw w w':=by
 have h1:(ah == bh)=false:=by rw [beq_eq_false_iff_ne];omega
 go_enter Tryz.func70,Tryz.ntmps70
 go_wp2
 go_ret
 exact ⟨rfl,((Gw.refl _).alloc _).alloc _⟩
theorem cmpw_lo (ah al bl:Int) (h:al < bl) (w:World) :
  Calls Tryz.prog 70 #[.agg #[.int .u64 ah,.int .u64 al],.agg #[.int .u64 ah,.int .u64 bl]] w fun e w'=>e=.returned (.int .i64 (-1))/\Gw w w':=by
 have h1:(al == bl)=false:=by rw [beq_eq_false_iff_ne];omega
 go_enter Tryz.func70,Tryz.ntmps70
 go_wp2
 go_ret
 exact ⟨rfl,((Gw.refl _).alloc _).alloc _⟩
theorem cmpw_lo' (ah al bl:Int) (h:bl < al) (w:World) :
  Calls Tryz.prog 70 #[.agg #[.int .u64 ah,.int .u64 al],.agg #[.int .u64 ah,.int .u64 bl]] w fun e w'=>e=.returned (.int .i64 1)/\Gw w w':=by
 have h1:(al == bl)=false:=by rw [beq_eq_false_iff_ne];omega
 go_enter Tryz.func70,Tryz.ntmps70
 go_wp2
 go_ret
 exact ⟨rfl,((Gw.refl _).alloc _).alloc _⟩
theorem cmpw (a b c d:Int) (w:World) :
  Calls Tryz.prog 70 #[.agg #[.int .u64 a,.int .u64 b],.agg #[.int .u64 c,.int .u64 d]] w fun e w'=>e=.returned (.int .i64 (cw a b c d))/\Gw w w':=by
 by_cases h1:a < c
 ·rw [show cw a b c d=-1 by unfold cw;rw [if_neg (by omega),if_pos (by omega)]];exact cmpw_hi _ _ _ _ h1 w
 by_cases h2:c < a
 ·rw [show cw a b c d=1 by unfold cw;rw [if_neg (by omega),if_neg (by omega)]];exact cmpw_hi' _ _ _ _ h2 w
 obtain rfl:a=c:=by omega
 by_cases h4:b < d
 ·rw [show cw a b a d=-1 by unfold cw;rw [if_neg (by omega),if_pos (by omega)]];exact cmpw_lo _ _ _ h4 w
 by_cases h5:d < b
 ·rw [show cw a b a d=1 by unfold cw;rw [if_neg (by omega),if_neg (by omega)]];exact cmpw_lo' _ _ _ h5 w
 obtain rfl:b=d:=by omega
 rw [show cw a b a b=0 by unfold cw;rw [if_pos (by omega)]];exact cmpw_eq _ _ w
theorem isNaN_c (x:Int) (w:World):Calls Tryz.prog 91 #[.int .i64 x] w fun e w'=>e=.returned (.bool false)/\w'=w:=by
 go_enter Tryz.func91,Tryz.ntmps91
 go_wp2
 go_ret
 exact ⟨by simp,rfl⟩
theorem compare_c (a b:Int) (w:World):Calls Tryz.prog 58 #[.int .i64 a,.int .i64 b] w fun e w'=>e=.returned (.int .i64 (ci a b))/\w'=w:=by
 by_cases h1:a < b
 ·rw [show ci a b=-1 by unfold ci;rw [if_pos h1]]
  go_enter Tryz.func58,Tryz.ntmps58
  go_wp2_with (go_at_call 91;refine (isNaN_c _ _).mono ?_;rintro e w' ⟨rfl,rfl⟩)
  go_ret
  exact ⟨rfl,rfl⟩
 by_cases h2:b < a
 ·rw [show ci a b=1 by unfold ci;rw [if_neg h1,if_pos h2]]
  go_enter Tryz.func58,Tryz.ntmps58
  go_wp2_with (go_at_call 91;refine (isNaN_c _ _).mono ?_;rintro e w' ⟨rfl,rfl⟩)
  go_ret
  exact ⟨rfl,rfl⟩
 rw [show ci a b=0 by unfold ci;rw [if_neg h1,if_neg h2]]
 go_enter Tryz.func58,Tryz.ntmps58
 go_wp2_with (go_at_call 91;refine (isNaN_c _ _).mono ?_;rintro e w' ⟨rfl,rfl⟩)
 go_ret
 exact ⟨rfl,rfl⟩
theorem or_c (b:Nat) (x y:Int) (w:World) (h0:w.cell? ⟨b,0,none⟩=some (.int .i64 x)) (h1:w.cell? ⟨b,1,none⟩=some (.int .i64 y)) :
  Calls Tryz.prog 136 #[.slice (some ⟨b,0,none⟩) 2 2] w fun e w'=>e=.returned (.int .i64 (cor x y))/\w'=w:=by
 by_cases hx:x=0
 ·subst hx
  rw [show cor 0 y=y by simp [cor]]
  by_cases hy:y=0
  ·subst hy
   go_enter Tryz.func136,Tryz.ntmps136
   go_wp2
   refine wp_loop_rounds 3 ?_
   repeat (rw [rounds_succ];go_wp2)
   go_ret
   exact ⟨rfl,rfl⟩
  ·go_enter Tryz.func136,Tryz.ntmps136
   go_wp2
   refine wp_loop_rounds 2 ?_
   repeat (rw [rounds_succ];go_wp2)
   go_ret
   exact ⟨rfl,rfl⟩
 ·rw [show cor x y=x by simp [cor,hx]]
  go_enter Tryz.func136,Tryz.ntmps136
  go_wp2
  refine wp_loop_rounds 1 ?_
  repeat (rw [rounds_succ];go_wp2)
  go_ret
  exact ⟨rfl,rfl⟩
end Go.Proofs.YtepjbdklljlecaaGreat.Tk

namespace Go.Proofs.YtepjbdklljlecaaGreat.Tk
open Go.RowKit Go.Sort
set_option maxHeartbeats 2000000
theorem six_call {w0 W w':World} {p0 p1 p2 p3 p4 p5:Addr} {v0 v1 v2 v3 v4 v5:Value} (g:Gw W w')
  (h:Gw w0 W/\W.cell? p0=some v0/\W.cell? p1=some v1/\W.cell? p2=some v2/\W.cell? p3=some v3/\W.cell? p4=some v4/\W.cell? p5=some v5) :
  Gw w0 w'/\w'.cell? p0=some v0/\w'.cell? p1=some v1/\w'.cell? p2=some v2/\w'.cell? p3=some v3/\w'.cell? p4=some v4/\w'.cell? p5=some v5:=by
 obtain ⟨a,b0,b1,b2,b3,b4,b5⟩:=h
 exact ⟨a.trans g,gr_keeps g.gr b0,gr_keeps g.gr b1,gr_keeps g.gr b2,gr_keeps g.gr b3,gr_keeps g.gr b4,gr_keeps g.gr b5⟩
theorem six_alloc {w0 W:World} {o:Obj} {p0 p1 p2 p3 p4 p5:Addr} {v0 v1 v2 v3 v4 v5:Value}
  (h:Gw w0 W/\W.cell? p0=some v0/\W.cell? p1=some v1/\W.cell? p2=some v2/\W.cell? p3=some v3/\W.cell? p4=some v4/\W.cell? p5=some v5) :
  Gw w0 (W.alloc o)/\(W.alloc o).cell? p0=some v0/\(W.alloc o).cell? p1=some v1/\(W.alloc o).cell? p2=some v2/\(W.alloc o).cell? p3=some v3/\(W.alloc o).cell? p4=some v4/\(W.alloc o).cell? p5=some v5 :=
 six_call ((Gw.refl _).alloc _) h
theorem or_new (x y:Int) (W:World) :
  Calls Tryz.prog 136 #[.slice (some ⟨W.heap.size,0,none⟩) 2 2] (W.alloc (.cells #[.int .i64 x,.int .i64 y] 3)) fun e w'=>e=.returned (.int .i64 (cor x y))/\w'=W.alloc (.cells #[.int .i64 x,.int .i64 y] 3) :=
 or_c _ x y _ (by simp [go_sem]) (by simp [go_sem])
theorem order_c (x y:Ht) (w:World):Calls Tryz.prog 112 #[hv x,hv y] w fun e w'=>e=.returned (.int .i64 (cf x y))/\Gw w w':=by
 obtain ⟨a0,a1,a2⟩:=x
 obtain ⟨b0,b1,b2⟩:=y
 show Calls Tryz.prog 112 #[.agg #[.int .i64 a0,.int .u64 a1,.int .u64 a2],.agg #[.int .i64 b0,.int .u64 b1,.int .u64 b2]] w fun e w'=>e=.returned (.int .i64 (cor (cw a1 a2 b1 b2) (ci a0 b0)))/\Gw w w'
 go_enter Tryz.func112,Tryz.ntmps112
 go_wp2
 have C:Gw w ((w.alloc (.cells #[.int .i64 a0,.int .u64 a1,.int .u64 a2] 68)).alloc (.cells #[.int .i64 b0,.int .u64 b1,.int .u64 b2] 68)):=((Gw.refl _).alloc _).alloc _
 go_region_held3 (fun w'=>Gw w w'/\w'.cell? ⟨w.heap.size,0,none⟩=some (.int .i64 a0)/\w'.cell? ⟨w.heap.size,1,none⟩=some (.int .u64 a1)/\w'.cell? ⟨w.heap.size,2,none⟩=some (.int .u64 a2)/\w'.cell? ⟨w.heap.size + 1,0,none⟩=some (.int .i64 b0)/\w'.cell? ⟨w.heap.size + 1,1,none⟩=some (.int .u64 b1)/\w'.cell? ⟨w.heap.size + 1,2,none⟩=some (.int .u64 b2)) (first | (with_reducible exact six_call (by assumption) (by assumption)) | (with_reducible assumption) | (with_reducible exact six_alloc (by assumption)) | exact ⟨C.drew,by simp [go_sem],by simp [go_sem],by simp [go_sem],by simp [go_sem],by simp [go_sem],by simp [go_sem]⟩) (first | (go_at_call 70;refine (cmpw _ _ _ _ _).mono ?_;rintro e w' ⟨rfl,hg⟩) | (go_at_call 58;refine (compare_c _ _ _).mono ?_;rintro e w' ⟨rfl,rfl⟩) | (go_at_call 136;refine (or_new _ _ _).mono ?_;rintro e w' ⟨rfl,rfl⟩))
 all_goals
  go_wp2
  go_ret
  exact ⟨rfl,And.left (by assumption)⟩
theorem less_c (x y:Ht) (w:World):Calls Tryz.prog 115 #[hv x,hv y] w fun e w'=>e=.returned (.bool (hlt x y))/\Gw w w':=by
 have ho:=fun w=>order_c x y w
 unfold hlt
 generalize cf x y=r at ho ⊢
 go_enter Tryz.func115,Tryz.ntmps115
 go_wp2_with (go_at_call 112;refine (ho _).mono ?_;rintro e w' ⟨rfl,hg⟩)
 go_ret
 exact ⟨rfl,(((Gw.refl _).alloc _).alloc _).trans hg⟩
end Go.Proofs.YtepjbdklljlecaaGreat.Tk

namespace Go.Proofs.YtepjbdklljlecaaGreat.Tk
open Go.RowKit Go.Sort
def fl (l:List Ht):List Value:=l.flatMap enc
theorem fl_len (l:List Ht):(fl l).length=l.length * 3:=by
 induction l with
 | nil=>rfl
 | cons a r ih=>simp only [fl,List.flatMap_cons,List.length_append,List.length_cons] at *;rw [ih];simp [enc];omega
theorem fl_app (a b:List Ht):fl (a ++ b)=fl a ++ fl b:=by simp [fl]
theorem fl_one (x:Ht):fl [x]=enc x:=by simp [fl]
theorem fl_get (l:List Ht) (i c:Nat) (hi:i < l.length) (hc:c < 3):(fl l)[i * 3 + c]? = (enc (l[i]'hi))[c]? := by
 induction l generalizing i with
 | nil=>exact absurd hi (Nat.not_lt_zero _)
 | cons a r ih =>
  have e:fl (a :: r)=enc a ++ fl r:=by simp [fl]
  rw [e]
  cases i with
  | zero =>
   rw [List.getElem?_append_left (by simp [enc];omega)]
   simp
  | succ i =>
   rw [List.getElem?_append_right (by simp [enc];omega)]
   have:(i + 1) * 3 + c - (enc a).length=i * 3 + c:=by simp [enc];omega
   rw [this,ih i (by simpa using hi)]
   simp
theorem fl_one_cell (l:List Ht):∀ u ∈ fl l,u.oneCell'=true:=by
 intro u hu
 simp only [fl,List.mem_flatMap,enc,List.mem_cons,List.not_mem_nil,or_false] at hu
 obtain ⟨x,_,rfl | rfl | rfl⟩:=hu <;> rfl
theorem enc_len (x:Ht):(enc x).length=3:=rfl
theorem enc_one (x:Ht):∀ v ∈ enc x,v.oneCell'=true:=by
 intro v hv;simp only [enc,List.mem_cons,List.not_mem_nil,or_false] at hv;rcases hv with rfl | rfl | rfl <;> rfl
theorem flatK_fl (d:Array Ht):(flatK enc 3 d).toList=fl d.toList:=by
 apply List.ext_getElem?
 intro t
 by_cases h:t < d.size * 3
 ·have hi:t / 3 < d.size:=by omega
  have h2:=fl_get d.toList (t / 3) (t % 3) (by simpa using hi) (Nat.mod_lt _ (by omega))
  rw [show t / 3 * 3 + t % 3=t by omega] at h2
  rw [h2]
  have h3:=get_flatK enc 3 d t h
  rw [getElem!_pos (flatK enc 3 d) t (by simpa using h)] at h3
  rw [List.getElem?_eq_getElem (by simpa using h)]
  simp only [Array.getElem_toList]
  rw [h3,getElem!_pos d (t / 3) hi]
  have hm:t % 3 < (enc d[t / 3]).length:=by rw [enc_len];exact Nat.mod_lt _ (by omega)
  rw [getElem!_pos (enc d[t / 3]) (t % 3) hm,List.getElem?_eq_getElem hm]
 ·rw [List.getElem?_eq_none (by simp;omega),List.getElem?_eq_none (by rw [fl_len];simp;omega)]
def Own (w:World) (v:Value) (d:Array Ht):Prop:=w.ownsRow 0 68 3 v d.size (fl d.toList)
theorem own_nil (w:World):Own w (.slice none 0 0) #[]:=World.ownsRow_nil w 0 68 3
theorem own_form {w:World} {v:Value} {d:Array Ht} (h:Own w v d) (hn:0 < d.size) :
  ∃ g cap cur,v=.slice (some ⟨g,0,none⟩) d.size cap/\w.heap[g]? = some (.cells cur 68 (0,0))/\d.size<=cap/\cap<=maxLen/\cur.size=cap * 3/\cur.toList.take (d.size * 3)=fl d.toList:=by
 rcases h.2 with ⟨_,h2⟩ | ⟨g,cap,cur,rfl,_,r⟩
 ·omega
 ·exact ⟨g,cap,cur,rfl,r⟩
theorem own_kept {w w':World} {g n cap:Nat} {d:Array Ht} (h:Own w (.slice (some ⟨g,0,none⟩) n cap) d) (hb:w'.heap[g]? = w.heap[g]?):Own w' (.slice (some ⟨g,0,none⟩) n cap) d:=by
 refine ⟨h.1,?_⟩
 rcases h.2 with ⟨h1,_⟩ | ⟨g',cap',cur,e,hb',hh,r⟩
 ·cases h1
 ·cases e
  exact .inr ⟨_,_,cur,rfl,hb',by rw [hb];exact hh,r⟩
theorem own_gr {w w':World} {v:Value} {d:Array Ht} (h:Own w v d) (g:Gr w w'):Own w' v d:=by
 refine ⟨h.1,?_⟩
 rcases h.2 with h1 | ⟨g',cap',cur,e,hb',hh,r⟩
 ·exact .inl h1
 ·exact .inr ⟨g',cap',cur,e,hb',by rw [g.block g' (Array.getElem?_eq_some_iff.1 hh).1];exact hh,r⟩
theorem own_lt {w:World} {v:Value} {d:Array Ht} (h:Own w v d) {g:Nat} (hg:v.ownBlock=some g):g < w.heap.size:=(h.lt g hg).2
theorem own_cell {w:World} {g n cap:Nat} {d:Array Ht} (h:Own w (.slice (some ⟨g,0,none⟩) n cap) d) {i:Nat} (hi:i < d.size) :
  w.cell? ⟨g,i * 3,none⟩=some (.int .i64 d[i]!.id)/\w.cell? ⟨g,i * 3 + 1,none⟩=some (.int .u64 d[i]!.hi)/\w.cell? ⟨g,i * 3 + 2,none⟩=some (.int .u64 d[i]!.lo):=by
 have hc:=h.cells (g:=g) rfl
 have e:d[i]! = d.toList[i]'(by simpa using hi):=by rw [getElem!_pos d i hi];simp
 have hh:∀ c,c < 3->∀ u,(enc d[i]!)[c]? = some u->w.cell? ⟨g,i * 3 + c,none⟩=some u:=by
  intro c hc3 u hu
  have:=hc (i * 3 + c) u (by rw [fl_get _ _ _ (by simpa using hi) hc3,<- e];exact hu)
  rw [Addr.add_lit,Nat.zero_add] at this;exact this
 exact ⟨hh 0 (by omega) _ rfl,hh 1 (by omega) _ rfl,hh 2 (by omega) _ rfl⟩
theorem own_froz {w:World} {g n cap:Nat} {d:Array Ht} (h:Own w (.slice (some ⟨g,0,none⟩) n cap) d) (o:Nat):w.frozen? ⟨g,o,none⟩=false:=by
 rcases h.2 with ⟨h1,_⟩ | ⟨g',cap',cur,e,_,hh,_⟩
 ·cases h1
 ·cases e
  simp [World.frozen?,hh]
theorem own_holds {w:World} {g n cap:Nat} {d:Array Ht} (h:Own w (.slice (some ⟨g,0,none⟩) n cap) d):HoldsK enc 3 w g 0 d:=by
 intro t ht
 have ht':t < d.size * 3:=by simpa using ht
 refine ⟨?_,own_froz h _⟩
 have hc:=h.cells (g:=g) rfl t ((flatK enc 3 d)[t]!) (by
  rw [<- flatK_fl,getElem!_pos (flatK enc 3 d) t ht,List.getElem?_eq_getElem (by simpa using ht')];simp)
 rw [Addr.add_lit] at hc;exact hc
theorem heap_putRow (w:World) (g m:Nat) (d:Array Ht) (cur:Array Value) (hh:w.heap[g]? = some (.cells cur 68 (0,0))) :
  (putRowK enc 3 (Sort.ahead w m) g 0 d).heap[g]? = some (.cells (putCells id 0 (flatK enc 3 d) cur) 68 (0,0)):=by
 simp [putRowK,putRow,mapBlock,Array.getElem?_modify,hh,onCells]
theorem own_put {w:World} {g n cap:Nat} {d:Array Ht} (h:Own w (.slice (some ⟨g,0,none⟩) n cap) d) (m:Nat) (d':Array Ht) (hs:d'.size=d.size) :
  Own (putRowK enc 3 (Sort.ahead w m) g 0 d') (.slice (some ⟨g,0,none⟩) n cap) d':=by
 refine ⟨by rw [fl_len];simp,?_⟩
 rcases h.2 with ⟨h1,_⟩ | ⟨g',cap',cur,e,hb',hh,hle,hmx,hsz,htk⟩
 ·cases h1
 ·cases e
  refine .inr ⟨_,_,_,by rw [hs],hb',heap_putRow w g m d' cur hh,by rw [hs];exact hle,hmx,by simp [putCells,hsz],?_⟩
  rw [<- flatK_fl]
  apply List.ext_getElem?
  intro t
  by_cases ht:t < d'.size * 3
  ·have ht2:t < cur.size:=by rw [hsz];have:=Nat.mul_le_mul_right 3 hle;omega
   rw [List.getElem?_take,if_pos ht,List.getElem?_eq_getElem (by simpa [putCells] using ht2),List.getElem?_eq_getElem (by simpa using ht)]
   simp only [Array.getElem_toList,putCells,Array.getElem_mapIdx]
   rw [if_pos ⟨by omega,by simp;omega⟩]
   simp [getElem!_pos,ht]
  ·rw [List.getElem?_eq_none (by simp;omega),List.getElem?_eq_none (by simp;omega)]
structure Kp (S:Nat->Prop) (w w':World):Prop where
 os:w'.os=w.os
 tape:w'.tape=w.tape
 output:w'.output=w.output
 size:w.heap.size<=w'.heap.size
 block:∀ k,k < w.heap.size->¬ S k->w'.heap[k]? = w.heap[k]?
theorem Kp.refl (S:Nat->Prop) (w:World):Kp S w w:=⟨rfl,rfl,rfl,Nat.le_refl _,fun _ _ _=>rfl⟩
theorem Kp.trans {S:Nat->Prop} {a b c:World} (h:Kp S a b) (k:Kp S b c):Kp S a c :=
 ⟨k.os.trans h.os,k.tape.trans h.tape,k.output.trans h.output,Nat.le_trans h.size k.size,fun i hi hn=>(k.block i (Nat.lt_of_lt_of_le hi h.size) hn).trans (h.block i hi hn)⟩
theorem Kp.mono {S T:Nat->Prop} {a b:World} (h:Kp S a b) (hst:∀ k,k < a.heap.size->S k->T k):Kp T a b :=
 ⟨h.os,h.tape,h.output,h.size,fun i hi hn=>h.block i hi (fun hs=>hn (hst i hi hs))⟩
theorem Kp.of_gr {S:Nat->Prop} {a b:World} (h:Gr a b):Kp S a b:=⟨h.os,h.tape,h.output,h.size,fun i hi _=>h.block i hi⟩
theorem Kp.gr {S:Nat->Prop} {a b:World} (h:Kp S a b) {B:Nat} (hB:B<=a.heap.size) (hS:∀ k,S k->B<=k):Below B a b :=
 ⟨h.os,h.tape,h.output,h.size,fun i hi=>h.block i (by omega) (fun hs=>by have:=hS i hs;omega)⟩
theorem Kp.grown {a b:World} {r:Option Nat} (h:a.grownBy b r):Kp (fun k=>some k=r) a b:=⟨h.os,h.tape,h.output,h.size,fun i hi hn=>h.block i hi hn⟩
theorem Kp.setCell {S:Nat->Prop} {a w:World} (h:Kp S a w) {p:Addr} (hp:S p.block ∨ a.heap.size<=p.block) (u:Value):Kp S a (w.setCell p u) :=
 ⟨h.os,h.tape,h.output,by simpa [World.setCell] using h.size,fun k hk hn=>(Below.heap_setCell _ _ _ _ (by rintro rfl;rcases hp with hp | hp;exact hn hp;omega)).trans (h.block k hk hn)⟩
theorem Kp.put {g m:Nat} (w:World) (d:Array Ht):Kp (fun k=>k=g) w (putRowK enc 3 (Sort.ahead w m) g 0 d):=by
 refine ⟨rfl,rfl,rfl,by simp [putRowK],fun k _ hn=>?_⟩
 simp [putRowK,putRow,mapBlock,Array.getElem?_modify,Ne.symm hn]
theorem Kp.cell {S:Nat->Prop} {a b:World} (h:Kp S a b) {p:Addr} {v:Value} (hc:a.cell? p=some v) (hn:¬ S p.block):b.cell? p=some v :=
 (World.cell?_of_block (h.block p.block (World.block_lt_of_cell? a p hc) hn)).trans hc
theorem own_kp {S:Nat->Prop} {w w':World} {v:Value} {d:Array Ht} (h:Own w v d) (k:Kp S w w') (hn:∀ g,v.ownBlock=some g->¬ S g):Own w' v d:=by
 refine ⟨h.1,?_⟩
 rcases h.2 with h1 | ⟨g',cap',cur,rfl,hb',hh,r⟩
 ·exact .inl h1
 ·exact .inr ⟨g',cap',cur,rfl,hb',by rw [k.block g' (Array.getElem?_eq_some_iff.1 hh).1 (hn _ rfl)];exact hh,r⟩
end Go.Proofs.YtepjbdklljlecaaGreat.Tk

namespace Go.Proofs.YtepjbdklljlecaaGreat.Tk
open Go.RowKit Go.Sort
def MaxH (d:Array Ht):Prop:=∀ i,0 < i->i < d.size->hlt d[(i - 1) / 2]! d[i]! = false
def UpInv (d:Array Ht) (j:Nat):Prop :=
 (∀ i,0 < i->i < d.size->i ≠ j->hlt d[(i - 1) / 2]! d[i]! = false)/\∀ c,0 < c->c < d.size->(c - 1) / 2=j->0 < j->hlt d[(j - 1) / 2]! d[c]! = false
def DownInv (d:Array Ht) (i:Nat):Prop :=
 (∀ c,0 < c->c < d.size->(c - 1) / 2 ≠ i->hlt d[(c - 1) / 2]! d[c]! = false)/\∀ c,0 < c->c < d.size->(c - 1) / 2=i->0 < i->hlt d[(i - 1) / 2]! d[c]! = false
theorem swp_perm (d:Array Ht) (i j:Nat) (hi:i < d.size) (hj:j < d.size):(swp d i j).toList.Perm d.toList:=by
 have h:=(swp_permIn d 0 d.size i j (Nat.zero_le _) hi (Nat.zero_le _) hj (Nat.le_refl _)).2.2
 rw [show (swp d i j).extract 0 d.size=swp d i j by rw [<- size_swp d i j,Array.extract_size],Array.extract_size] at h
 exact h
theorem maxh_root {d:Array Ht} (h:MaxH d):∀ i,i < d.size->hlt d[0]! d[i]! = false:=by
 intro i
 induction i using Nat.strongRecOn with
 | _ i ih =>
  intro hi
  by_cases h0:i=0
  ·subst h0;exact hlt_irrefl _
  ·exact hlt_ntrans (ih ((i - 1) / 2) (by omega) (by omega)) (h i (by omega) hi)
theorem up_zero {d:Array Ht} (h:UpInv d 0):MaxH d:=fun i h0 h1=>h.1 i h0 h1 (by omega)
theorem up_stop {d:Array Ht} {j:Nat} (h:UpInv d j) (hn:0 < j->hlt d[(j - 1) / 2]! d[j]! = false):MaxH d:=by
 intro i h0 h1
 by_cases e:i=j
 ·subst e;exact hn h0
 ·exact h.1 i h0 h1 e
theorem up_step {d:Array Ht} {j:Nat} (h:UpInv d j) (h0:0 < j) (hj:j < d.size) (hl:hlt d[(j - 1) / 2]! d[j]! = true):UpInv (swp d ((j - 1) / 2) j) ((j - 1) / 2):=by
 have hi:(j - 1) / 2 < d.size:=by omega
 have g:=swp_get d hi hj
 constructor
 ·intro c c0 c1 c2
  rw [size_swp] at c1
  rw [g,g]
  by_cases e1:c=j
  ·subst e1
   rw [if_neg (by omega),if_pos rfl,if_pos rfl]
   exact hlt_asymm hl
  ·rw [if_neg e1,if_neg c2]
   by_cases e2:(c - 1) / 2=j
   ·rw [if_pos e2]
    exact h.2 c c0 c1 e2 h0
   ·rw [if_neg e2]
    by_cases e3:(c - 1) / 2=(j - 1) / 2
    ·rw [if_pos e3]
     have:=h.1 c c0 c1 e1
     rw [e3] at this
     exact hlt_ntrans (hlt_asymm hl) this
    ·rw [if_neg e3]
     exact h.1 c c0 c1 e1
 ·intro c c0 c1 c2 c3
  rw [size_swp] at c1
  rw [g,g,if_neg (by omega),if_neg (by omega)]
  by_cases e1:c=j
  ·subst e1
   rw [if_pos rfl]
   exact h.1 _ c3 hi (by omega)
  ·rw [if_neg e1,if_neg (by omega)]
   have a:=h.1 c c0 c1 e1
   rw [c2] at a
   exact hlt_ntrans (h.1 _ c3 hi (by omega)) a
theorem up_push {d:Array Ht} (h:MaxH d) (x:Ht):UpInv (d.push x) d.size:=by
 constructor
 ·intro i h0 h1 h2
  rw [Array.size_push] at h1
  have:=h i h0 (by omega)
  rw [getElem!_pos d _ (show (i - 1) / 2 < d.size by omega),getElem!_pos d _ (show i < d.size by omega)] at this
  rw [getElem!_pos (d.push x) _ (show (i - 1) / 2 < (d.push x).size by rw [Array.size_push];omega),getElem!_pos (d.push x) _ (show i < (d.push x).size by rw [Array.size_push];omega),Array.getElem_push_lt (by omega),Array.getElem_push_lt (by omega)]
  exact this
 ·intro c h0 h1 h2 _
  rw [Array.size_push] at h1;omega
theorem down_stop0 {d:Array Ht} {i:Nat} (h:DownInv d i) (hn:d.size<=2 * i + 1):MaxH d:=fun c c0 c1=>h.1 c c0 c1 (by omega)
def Child (d:Array Ht) (i j:Nat):Prop:=0 < j/\j < d.size/\(j - 1) / 2=i/\∀ c,0 < c->c < d.size->(c - 1) / 2=i->hlt d[j]! d[c]! = false
theorem down_stop1 {d:Array Ht} {i j:Nat} (h:DownInv d i) (hc:Child d i j) (hn:hlt d[i]! d[j]! = false):MaxH d:=by
 intro c c0 c1
 by_cases e:(c - 1) / 2=i
 ·rw [e];exact hlt_ntrans hn (hc.2.2.2 c c0 c1 e)
 ·exact h.1 c c0 c1 e
theorem down_step {d:Array Ht} {i j:Nat} (h:DownInv d i) (hc:Child d i j) (hl:hlt d[i]! d[j]! = true):DownInv (swp d i j) j:=by
 obtain ⟨j0,j1,j2,j3⟩:=hc
 have hi:i < d.size:=by omega
 have g:=swp_get d hi j1
 constructor
 ·intro c c0 c1 c2
  rw [size_swp] at c1
  rw [g,g,if_neg c2]
  by_cases e1:(c - 1) / 2=i
  ·rw [if_pos e1]
   by_cases e2:c=j
   ·rw [if_pos e2];exact hlt_asymm hl
   ·rw [if_neg e2,if_neg (by omega)]
    exact j3 c c0 c1 e1
  ·rw [if_neg e1]
   by_cases e2:c=j
   ·subst e2;omega
   ·rw [if_neg e2]
    by_cases e3:c=i
    ·subst e3
     rw [if_pos rfl]
     exact h.2 j j0 j1 j2 c0
    ·rw [if_neg e3];exact h.1 c c0 c1 e1
 ·intro c c0 c1 c2 _
  rw [size_swp] at c1
  rw [g,g,if_neg (by omega),if_pos j2,if_neg (by omega),if_neg (by omega)]
  have:=h.1 c c0 c1 (by omega)
  rw [c2] at this
  exact this
theorem child_one {d:Array Ht} {i:Nat} (h1:2 * i + 1 < d.size) (h2:d.size<=2 * i + 2):Child d i (2 * i + 1) :=
 ⟨by
   omega,h1,by omega,fun c _ c1 c2=>by
   obtain rfl:c=2 * i + 1:=by omega
   exact hlt_irrefl _⟩
theorem child_l {d:Array Ht} {i:Nat} (h2:2 * i + 2 < d.size) (hl:hlt d[2 * i + 1]! d[2 * i + 2]! = false):Child d i (2 * i + 1) :=
 ⟨by omega,by omega,by omega,fun c _ c1 c2=>by
  have:c=2 * i + 1 ∨ c=2 * i + 2:=by omega
  rcases this with rfl | rfl
  ·exact hlt_irrefl _
  ·exact hl⟩
theorem child_r {d:Array Ht} {i:Nat} (h2:2 * i + 2 < d.size) (hl:hlt d[2 * i + 1]! d[2 * i + 2]! = true):Child d i (2 * i + 2) :=
 ⟨by omega,by omega,by omega,fun c _ c1 c2=>by
  have:c=2 * i + 1 ∨ c=2 * i + 2:=by omega
  rcases this with rfl | rfl
  ·exact hlt_asymm hl
  ·exact hlt_irrefl _⟩
theorem down_set {d:Array Ht} (h:MaxH d) (x:Ht):DownInv (d.setIfInBounds 0 x) 0:=by
 constructor
 ·intro c c0 c1 c2
  rw [Array.size_setIfInBounds] at c1
  rw [getElem!_set_other d 0 _ x c2,getElem!_set_other d 0 _ x (by omega)]
  exact h c c0 c1
 ·intro c _ _ _ h0;exact absurd h0 (Nat.lt_irrefl _)
end Go.Proofs.YtepjbdklljlecaaGreat.Tk

namespace Go.Proofs.YtepjbdklljlecaaGreat
open Go.RowKit
theorem tkn {P : Program} {ops : Array Oper} {Q : Exit → Act → World → Prop} {md : Region.Mode} {S : World → Prop} (i : Nat) {oi : Oper} {fuel : Nat} {listed : Array Bool} {a : Act} {w : World} (v : Value) (hi : ops[i]? = some oi) (hy : ∀ w, S w → (execOp a.eval oi).run P w = .ok (.value v) w)
 (h : wpAnyH P md ops Q S fuel (listed.setIfInBounds i true) (a.put oi.dst v) w) (hs : Region.noSelect ops = true := by kernel_rfl) (hf : Region.free md ops listed i = true := by kernel_rfl) (hr : (Region.ready md ops listed).contains i = true := by kernel_rfl) (hQ : ∀ c a w, Q (.panic c) (a.put oi.dst v) w → Q (.panic c) a w := by exact fun _ _ _ h => h)
 (hw : Region.wanted oi (yielded ops a.tmps) = true := by rfl) (hS : S w := by assumption) : wpAnyH P md ops Q S (fuel + 1) listed a w := wpAnyH_take hi hs hf hr hQ (Or.inl ⟨hw, hy⟩) hS h
theorem rdn {P : Program} {ops : Array Oper} {Q : Exit → Act → World → Prop} {md : Region.Mode} {S : World → Prop} (i : Nat) {o : Oper} {fuel : Nat} {listed : Array Bool} {a : Act} {w : World} (ho : ops[i]? = some o)
 (h : ∀ K' : Act → World → Prop, Shut (∀ a w, S w → (S w → wpAnyH P md ops Q S fuel (listed.setIfInBounds i true) a w) → K' a w) → if Region.wanted o (yielded ops a.tmps) = true then Oper.wp P o a w K' Q else K' (a.put o.dst undef) w) (hr : Region.ready md ops listed = [i] := by kernel_rfl) : wpAnyH P md ops Q S (fuel + 1) listed a w := wpAnyH_ready hr (by simp) (AllReadyH.cons ho h AllReadyH.nil)
theorem kp4 {a b : World} (g : Below a.heap.size a b) {p0 : Addr} {v0 : Value} {p1 : Addr} {v1 : Value} {p2 : Addr} {v2 : Value} {p3 : Addr} {v3 : Value} (h0 : a.cell? p0 = some v0) (h1 : a.cell? p1 = some v1) (h2 : a.cell? p2 = some v2) (h3 : a.cell? p3 = some v3) : b.cell? p0 = some v0 ∧ b.cell? p1 = some v1 ∧ b.cell? p2 = some v2 ∧ b.cell? p3 = some v3 := ⟨(g.cell (World.block_lt_of_cell? a _ h0)).trans h0, (g.cell (World.block_lt_of_cell? a _ h1)).trans h1, (g.cell (World.block_lt_of_cell? a _ h2)).trans h2, (g.cell (World.block_lt_of_cell? a _ h3)).trans h3⟩
theorem kp7 {a b : World} (g : Below a.heap.size a b) {p0 : Addr} {v0 : Value} {p1 : Addr} {v1 : Value} {p2 : Addr} {v2 : Value} {p3 : Addr} {v3 : Value} {p4 : Addr} {v4 : Value} {p5 : Addr} {v5 : Value} {p6 : Addr} {v6 : Value} (h0 : a.cell? p0 = some v0) (h1 : a.cell? p1 = some v1) (h2 : a.cell? p2 = some v2) (h3 : a.cell? p3 = some v3) (h4 : a.cell? p4 = some v4) (h5 : a.cell? p5 = some v5) (h6 : a.cell? p6 = some v6) : b.cell? p0 = some v0 ∧ b.cell? p1 = some v1 ∧ b.cell? p2 = some v2 ∧ b.cell? p3 = some v3 ∧ b.cell? p4 = some v4 ∧ b.cell? p5 = some v5 ∧ b.cell? p6 = some v6 := ⟨(g.cell (World.block_lt_of_cell? a _ h0)).trans h0, (g.cell (World.block_lt_of_cell? a _ h1)).trans h1, (g.cell (World.block_lt_of_cell? a _ h2)).trans h2, (g.cell (World.block_lt_of_cell? a _ h3)).trans h3, (g.cell (World.block_lt_of_cell? a _ h4)).trans h4, (g.cell (World.block_lt_of_cell? a _ h5)).trans h5, (g.cell (World.block_lt_of_cell? a _ h6)).trans h6⟩
theorem kp10 {a b : World} (g : Below a.heap.size a b) {p0 : Addr} {v0 : Value} {p1 : Addr} {v1 : Value} {p2 : Addr} {v2 : Value} {p3 : Addr} {v3 : Value} {p4 : Addr} {v4 : Value} {p5 : Addr} {v5 : Value} {p6 : Addr} {v6 : Value} {p7 : Addr} {v7 : Value} {p8 : Addr} {v8 : Value} {p9 : Addr} {v9 : Value} (h0 : a.cell? p0 = some v0) (h1 : a.cell? p1 = some v1) (h2 : a.cell? p2 = some v2) (h3 : a.cell? p3 = some v3) (h4 : a.cell? p4 = some v4) (h5 : a.cell? p5 = some v5) (h6 : a.cell? p6 = some v6) (h7 : a.cell? p7 = some v7) (h8 : a.cell? p8 = some v8) (h9 : a.cell? p9 = some v9) : b.cell? p0 = some v0 ∧ b.cell? p1 = some v1 ∧ b.cell? p2 = some v2 ∧ b.cell? p3 = some v3 ∧ b.cell? p4 = some v4 ∧ b.cell? p5 = some v5 ∧ b.cell? p6 = some v6 ∧ b.cell? p7 = some v7 ∧ b.cell? p8 = some v8 ∧ b.cell? p9 = some v9 := ⟨(g.cell (World.block_lt_of_cell? a _ h0)).trans h0, (g.cell (World.block_lt_of_cell? a _ h1)).trans h1, (g.cell (World.block_lt_of_cell? a _ h2)).trans h2, (g.cell (World.block_lt_of_cell? a _ h3)).trans h3, (g.cell (World.block_lt_of_cell? a _ h4)).trans h4, (g.cell (World.block_lt_of_cell? a _ h5)).trans h5, (g.cell (World.block_lt_of_cell? a _ h6)).trans h6, (g.cell (World.block_lt_of_cell? a _ h7)).trans h7, (g.cell (World.block_lt_of_cell? a _ h8)).trans h8, (g.cell (World.block_lt_of_cell? a _ h9)).trans h9⟩
end Go.Proofs.YtepjbdklljlecaaGreat
