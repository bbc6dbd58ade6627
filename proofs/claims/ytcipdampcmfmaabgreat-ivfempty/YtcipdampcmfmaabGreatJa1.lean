import Derived.Test.YtcipdampcmfmaabGreatJa0
import Derived.Sort.Grow
import Derived.Deep.RegionWith
import Derived.BigQuiet
namespace Go.Proofs.YtcipdampcmfmaabGreat
open Go.RowKit
set_option maxRecDepth 100000
set_option maxHeartbeats 2000000
abbrev Gb (w w':World):Prop:=Below w.heap.size w w'
theorem gb_trans {a b c:World} (h:Gb a b) (k:Gb b c):Gb a c:=h.trans (k.mono h.size)
theorem gb_alloc {a w:World} (h:Gb a w) (o:Obj):Gb a (w.alloc o):=h.alloc h.size o
theorem gb_keeps {a b:World} (h:Gb a b) {p:Addr} {v:Value} (hc:a.cell? p=some v):b.cell? p=some v :=
 (h.cell (World.block_lt_of_cell? a p hc)).trans hc
theorem gb_set {a w:World} (h:Gb a w) {p:Addr} (hp:a.heap.size<=p.block) (u:Value):Gb a (w.setCell p u):=h.setCell hp u
def RdI (w:World) (v:Value) (l:List Int):Prop:=∃ a cap,v=.slice a l.length cap/\∀ i,i < l.length->∃ b o,a=some ⟨b,o,none⟩/\w.cell? ⟨b,o + i,none⟩=some (.int .i64 l[i]!)
theorem RdI.gb {w w':World} {v:Value} {l:List Int} (h:RdI w v l) (g:Gb w w'):RdI w' v l:=by
 obtain ⟨a,cap,e,h⟩:=h
 refine ⟨a,cap,e,fun i hi=>?_⟩
 obtain ⟨b,o,e1,e2⟩:=h i hi
 exact ⟨b,o,e1,gb_keeps g e2⟩
theorem rdi_nil (w:World):RdI w (.slice none 0 0) []:=⟨none,0,rfl,fun _ hi=>absurd hi (Nat.not_lt_zero _)⟩
def inR (x:Int):Bool:=decide (-2147483647<=x) && decide (x<=2147483647)
theorem inR_iff (x:Int):inR x=true ↔ -2147483647<=x/\x<=2147483647:=by simp [inR]
def allR (l:List Int):Bool:=l.all inR
theorem allR_get {l:List Int} (h:allR l=true) {i:Nat} (hi:i < l.length):-2147483647<=l[i]! /\ l[i]! <= 2147483647:=by
 rw [<- inR_iff,getElem!_pos l i hi]
 exact List.all_eq_true.1 h _ (List.getElem_mem hi)
theorem allR_take {l:List Int} {q:Nat} (hq:q < l.length) (h:allR (l.take q)=true) (hx:inR l[q]! = true):allR (l.take (q + 1))=true:=by
 unfold allR at *
 rw [List.take_succ_eq_append_getElem hq,List.all_append,h,getElem!_pos l q hq] at *
 simpa using hx
theorem allR_no {l:List Int} {q:Nat} (hq:q < l.length) (hx:inR l[q]! = false):allR l=false:=by
 unfold allR
 rw [List.all_eq_false]
 refine ⟨l[q],List.getElem_mem hq,?_⟩
 rw [getElem!_pos l q hq] at hx
 simp [hx]
def vErr (l:List Int):Int:=if allR l=true then 0 else 31
def chk (l:List Int) (dim:Int):Int:=if 1<=dim/\dim<=64/\(l.length:Int)=dim then (vErr l) else 30
theorem isDim_c (d:Int) (w:World):Calls Tryz.prog 50 #[.int .i64 d] w fun e w'=>e=.returned (.bool (decide (1<=d) && decide (d<=64)))/\w=w':=by
 by_cases h:1<=d
 ·go_enter Tryz.func50,Tryz.ntmps50
  go_wp2
  go_ret
  exact ⟨by simp [h],rfl⟩
 ·go_enter Tryz.func50,Tryz.ntmps50
  go_wp2
  go_ret
  exact ⟨by simp;omega,rfl⟩
theorem isDim_v (d:Int) (b:Bool) (h:(decide (1<=d) && decide (d<=64))=b) (w:World):Calls Tryz.prog 50 #[.int .i64 d] w fun e w'=>e=.returned (.bool b)/\w=w':=by
 subst h;exact isDim_c d w
theorem check_no {w:World} {v:Value} {l:List Int} (h:RdI w v l) (d:Int) (hn:¬ (1<=d/\d<=64/\(l.length:Int)=d)) :
  Calls Tryz.prog 27 #[v,.int .i64 d] w fun e w'=>e=.returned (.int .i64 30)/\w=w':=by
 obtain ⟨a,cap,rfl,ha⟩:=h
 clear ha
 generalize l.length=n at *
 by_cases h1:(decide (1<=d) && decide (d<=64))=true
 ·have h2:((n:Int) == d)=false:=by rw [beq_eq_false_iff_ne];simp at h1;omega
  have c:=fun W=>isDim_v d true h1 W
  clear hn h1
  go_enter Tryz.func27,Tryz.ntmps27
  go_wp2_with (go_at_call 50;refine (c _).mono ?_;rintro e w' ⟨rfl,rfl⟩)
  go_ret
  exact ⟨rfl,rfl⟩
 ·have c:=fun W=>isDim_v d false (by simpa using h1) W
  clear hn h1
  go_enter Tryz.func27,Tryz.ntmps27
  go_wp2_with (go_at_call 50;refine (c _).mono ?_;rintro e w' ⟨rfl,rfl⟩)
  go_ret
  exact ⟨rfl,rfl⟩
theorem check_in {w:World} {v:Value} {l:List Int} (h:RdI w v l) (hn:1<=l.length/\l.length<=64) :
  Calls Tryz.prog 27 #[v,.int .i64 (l.length:Int)] w fun e w'=>e=.returned (.int .i64 (vErr l))/\w=w':=by
 obtain ⟨a,cap,rfl,ha⟩:=h
 have A:Hid (∀ i,i < l.length->∃ b o,a=some ⟨b,o,none⟩/\w.cell? ⟨b,o + i,none⟩=some (.int .i64 l[i]!)):=ha
 obtain ⟨n,hN⟩:∃ n,n=l.length:=⟨_,rfl⟩
 have N:Hid (n=l.length):=hN
 rw [<- hN] at hn ⊢
 obtain ⟨hn1,hn2⟩:=hn
 have c:=fun W=>isDim_v (n:Int) true (by simp;omega) W
 clear ha hN
 go_enter Tryz.func27,Tryz.ntmps27
 go_wp2_with (go_at_call 50;refine (c _).mono ?_;rintro e w' ⟨rfl,rfl⟩)
 go_loopw [18] (fun iv w'=>∃ q:Nat,iv=.int .i64 (q:Int)/\q<=n/\w=w'/\Hid (allR (l.take q)=true)) (fun iv _=>n - (intOf iv).toNat)
 case atStart=>exact ⟨0,rfl,Nat.zero_le _,rfl,by simp [Hid,allR]⟩
 case round =>
  obtain ⟨q,rfl,hq,rfl,X⟩:=hrel
  by_cases hqn:q < n
  ·have hqi:(q:Int) < (n:Int):=by omega
   obtain ⟨b,o,ea,hc⟩:=A.out q (by have:=N.out;omega)
   subst ea
   obtain ⟨x,hx⟩:∃ x,x=l[q]! := ⟨_,rfl⟩
   rw [<- hx] at hc
   have XX:Hid (x=l[q]! /\ q < l.length):=⟨hx,by have:=N.out;omega⟩
   clear hx
   by_cases h1:x < -2147483647
   ·have R:Hid (vErr l=31):=by unfold Hid vErr;rw [allR_no XX.out.2 (by rw [<- XX.out.1,<- Bool.not_eq_true,inR_iff];omega)];rfl
    go_wp2
    go_ret
    exact ⟨by rw [R.out];rfl,by first | rfl | trivial⟩
   by_cases h2:x > 2147483647
   ·have R:Hid (vErr l=31):=by unfold Hid vErr;rw [allR_no XX.out.2 (by rw [<- XX.out.1,<- Bool.not_eq_true,inR_iff];omega)];rfl
    go_wp2
    go_ret
    exact ⟨by rw [R.out];rfl,by first | rfl | trivial⟩
   ·have R:Hid (allR (l.take (q + 1))=true):=allR_take XX.out.2 X.out (by rw [<- XX.out.1,inR_iff];omega)
    go_wp2
    go_roundw
    case rel=>exact ⟨q + 1,by simp,hqn,by first | rfl | trivial,R⟩
    case measure=>simp [intOf];omega
  ·have hqi:¬ (q:Int) < (n:Int):=by omega
   have R:Hid (vErr l=0):=by
    have:=X.out
    rw [List.take_of_length_le (by have:=N.out;omega)] at this
    unfold Hid vErr;rw [this];rfl
   go_wp2
   go_ret
   exact ⟨by rw [R.out];rfl,by first | rfl | trivial⟩
theorem check_c {w:World} {v:Value} {l:List Int} (h:RdI w v l) (d:Int) :
  Calls Tryz.prog 27 #[v,.int .i64 d] w fun e w'=>e=.returned (.int .i64 (chk l d))/\w=w':=by
 unfold chk
 by_cases hn:1<=d/\d<=64/\(l.length:Int)=d
 ·rw [if_pos hn]
  obtain ⟨h1,h2,rfl⟩:=hn
  exact check_in h (by omega)
 ·rw [if_neg hn]
  exact check_no h d hn
theorem check_v {w:World} {v:Value} {l:List Int} (h:RdI w v l) (d r:Int) (hr:chk l d=r) :
  Calls Tryz.prog 27 #[v,.int .i64 d] w fun e w'=>e=.returned (.int .i64 r)/\w=w':=by
 subst hr;exact check_c h d
end Go.Proofs.YtcipdampcmfmaabGreat

namespace Go.Proofs.YtcipdampcmfmaabGreat
open Go.RowKit
set_option maxHeartbeats 2000000
def gap (l h x:Int):Nat:=if x < l then (l - x).toNat else if h < x then (x - h).toNat else 0
theorem side_c (l h:Int) (w:World):Calls Tryz.prog 123 #[.int .i64 l,.int .i64 h] w fun e w' =>
  e=.returned (.func (.func 163) #[] #[.pointer (some ⟨w.heap.size,0,none⟩),.pointer (some ⟨w.heap.size + 1,0,none⟩)])/\w'=(w.alloc (.cells #[.int .i64 l] 3)).alloc (.cells #[.int .i64 h] 3):=by
 go_enter Tryz.func123,Tryz.ntmps123
 go_wp2
 go_ret
 exact ⟨rfl,rfl⟩
theorem side1_c (l h x:Int) (hl:-2147483647<=l/\l<=2147483647) (hh:-2147483647<=h/\h<=2147483647) (hx:-2147483647<=x/\x<=2147483647) (b c:Nat) (w:World)
  (c0:w.cell? ⟨b,0,none⟩=some (.int .i64 l)) (c1:w.cell? ⟨c,0,none⟩=some (.int .i64 h)) :
  Calls Tryz.prog 163 #[.int .i64 x,.pointer (some ⟨b,0,none⟩),.pointer (some ⟨c,0,none⟩)] w fun e w'=>e=.returned (.int .u64 (gap l h x:Int))/\w=w':=by
 obtain ⟨l0,l1⟩:=hl
 obtain ⟨h0,h1⟩:=hh
 obtain ⟨x0,x1⟩:=hx
 by_cases k1:x < l
 ·have G:Hid ((gap l h x:Int)=l - x):=by unfold Hid gap;rw [if_pos k1];omega
  go_enter Tryz.func163,Tryz.ntmps163
  go_wp2
  go_ret
  exact ⟨by rw [G.out];simp,rfl⟩
 by_cases k2:h < x
 ·have G:Hid ((gap l h x:Int)=x - h):=by unfold Hid gap;rw [if_neg k1,if_pos k2];omega
  go_enter Tryz.func163,Tryz.ntmps163
  go_wp2
  go_ret
  exact ⟨by rw [G.out];simp,rfl⟩
 ·have G:Hid ((gap l h x:Int)=0):=by unfold Hid gap;rw [if_neg k1,if_neg k2];rfl
  go_enter Tryz.func163,Tryz.ntmps163
  go_wp2
  go_ret
  exact ⟨by rw [G.out];rfl,rfl⟩
theorem withSquare_c (s n:Nat) (hn:n < 18446744073709551616) (hs:s + n * n < 340282366920938463463374607431768211456) (w:World) :
  Calls Tryz.prog 122 #[Wd s,.int .u64 (n:Int)] w fun e w'=>e=.returned (Wd (s + n * n))/\Gr w w':=by
 have c0:((w.alloc (.cells #[.int .u64 (hi s),.int .u64 (lo s)] 40)).alloc (.cells #[.int .u64 0,.int .u64 0] 40)).cell? ⟨w.heap.size,0,none⟩=some (.int .u64 (hi s)):=by simp [go_sem]
 have c1:((w.alloc (.cells #[.int .u64 (hi s),.int .u64 (lo s)] 40)).alloc (.cells #[.int .u64 0,.int .u64 0] 40)).cell? ⟨w.heap.size,1,none⟩=some (.int .u64 (lo s)):=by simp [go_sem]
 have l1:∀ n:Nat,n < n + 1:=fun n=>by omega
 have l2:=lt_two
 have l3:=lt_three
 go_enter Tryz.func122,Tryz.ntmps122
 go_wp2
 go_region_held3 (fun w'=>w'.cell? ⟨w.heap.size,0,none⟩=some (.int .u64 (hi s))/\w'.cell? ⟨w.heap.size,1,none⟩=some (.int .u64 (lo s))) (first | exact ⟨c0,c1⟩ | exact call_keeps2 (by assumption) (by assumption) | exact alloc_keeps2 (by assumption) | exact alloc_keeps2 ⟨c0,c1⟩ | exact alloc_keeps2 (call_keeps2 g2 (call_keeps2 g1 ⟨c0,c1⟩)) | exact set_far2 (by dsimp only;omega) (by dsimp only;omega) (set_far2 (by dsimp only;omega) (by dsimp only;omega) (by assumption)))
  (first
   | (go_at_call 162;refine (mul_any n n hn hn _).mono ?_;rintro e w1 ⟨rfl,g1⟩;obtain ⟨hc1,hf1,hz1⟩:=g1.rules;have z1:=g1.size;simp only [World.size_alloc,World.size_drew] at z1)
   | (go_at_call 161;refine (add_ok s (n * n) hs _).mono ?_;rintro e w2 ⟨rfl,g2⟩;obtain ⟨hc2,hf2,hz2⟩:=g2.rules))
 ·have hG:Gr ((w.alloc (.cells #[.int .u64 (hi s),.int .u64 (lo s)] 40)).alloc (.cells #[.int .u64 0,.int .u64 0] 40)) (w2.alloc (.cells #[.int .u64 (hi (s + n * n)),.int .u64 (lo (s + n * n))] 40)):=((((Gr.refl _).drew.trans g1).trans g2).alloc _ _)
  have hV:=hG.var2;simp only [World.size_alloc] at hV;obtain ⟨v0,v1,v2,v3⟩:=hV
  go_wp2
  exact bodyPost_ret (v:=Wd (s + n * n)) (by simp [results,Tryz.results122,go_sem,v0,v1]) rfl ⟨rfl,by repeat (first | exact ((Gr.refl _).alloc _ _).trans (((Gr.refl _).alloc _ _).trans hG) | refine Gr.setCell ?_ (by simp) _)⟩
 ·have hq:=g2.var2
  obtain ⟨q0,q1,q2,q3⟩:=hq
  have hG:Gr ((w.alloc (.cells #[.int .u64 (hi s),.int .u64 (lo s)] 40)).alloc (.cells #[.int .u64 0,.int .u64 0] 40)) ((w2.setCell ⟨w1.heap.size,0,none⟩ (.int .u64 (hi (s + n * n)))).setCell ⟨w1.heap.size,1,none⟩ (.int .u64 (lo (s + n * n)))):=((((((Gr.refl _).drew.trans g1).alloc _ _).trans g2).setCell (by simp;omega) _).setCell (by simp;omega) _)
  have hV:=hG.var2;simp only [World.size_alloc] at hV;obtain ⟨v0,v1,v2,v3⟩:=hV
  go_wp2
  exact bodyPost_ret (v:=Wd (s + n * n)) (by simp [results,Tryz.results122,go_sem,v0,v1]) rfl ⟨rfl,by repeat (first | exact ((Gr.refl _).alloc _ _).trans (((Gr.refl _).alloc _ _).trans hG) | refine Gr.setCell ?_ (by simp) _)⟩
 ·have hq:=(((Gr.refl _).drew.trans g1).trans g2).var2
  simp only [World.size_alloc] at hq
  obtain ⟨q0,q1,q2,q3⟩:=hq
  have hG:Gr ((w.alloc (.cells #[.int .u64 (hi s),.int .u64 (lo s)] 40)).alloc (.cells #[.int .u64 0,.int .u64 0] 40)) ((w2.setCell ⟨w.heap.size + 1 + 1,0,none⟩ (.int .u64 (hi (s + n * n)))).setCell ⟨w.heap.size + 1 + 1,1,none⟩ (.int .u64 (lo (s + n * n)))):=((((((Gr.refl _).alloc _ _).drew.trans g1).trans g2).setCell (by simp only [World.size_alloc];omega) _).setCell (by simp only [World.size_alloc];omega) _)
  have hV:=hG.var2;simp only [World.size_alloc] at hV;obtain ⟨v0,v1,v2,v3⟩:=hV
  go_wp2
  exact bodyPost_ret (v:=Wd (s + n * n)) (by simp [results,Tryz.results122,go_sem,v0,v1]) rfl ⟨rfl,by repeat (first | exact ((Gr.refl _).alloc _ _).trans (((Gr.refl _).alloc _ _).trans hG) | refine Gr.setCell ?_ (by simp) _)⟩
end Go.Proofs.YtcipdampcmfmaabGreat

namespace Go.Proofs.YtcipdampcmfmaabGreat
open Go.RowKit
set_option maxRecDepth 100000
set_option maxHeartbeats 4000000
theorem Gr.gb {a b:World} (h:Gr a b):Gb a b:=h.below
def sumN (f:Nat->Nat):Nat->Nat
 | 0=>0
 | n + 1=>sumN f n + f n
theorem sumN_le (f:Nat->Nat) (c n:Nat) (h:∀ i,i < n->f i<=c):sumN f n<=n * c:=by
 induction n with
 | zero=>simp [sumN]
 | succ n ih =>
  have:=ih (fun i hi=>h i (by omega))
  have:=h n (by omega)
  simp only [sumN,Nat.add_mul];omega
theorem sq_small (g:Nat) (h:g<=4294967294):g * g<=18446744056529682436:=by
 have:=Nat.mul_le_mul h h;omega
theorem gap_le (l h x:Int) (hl:-2147483647<=l/\l<=2147483647) (hh:-2147483647<=h/\h<=2147483647) (hx:-2147483647<=x/\x<=2147483647):gap l h x<=4294967294:=by
 unfold gap;split
 ·omega
 ·split <;> omega
def dst (a b:List Int):Nat:=sumN (fun i=>gap a[i]! a[i]! b[i]! * gap a[i]! a[i]! b[i]!) a.length
def dstN (a b:List Int) (q:Nat):Nat:=sumN (fun i=>gap a[i]! a[i]! b[i]! * gap a[i]! a[i]! b[i]!) q
theorem dstN_le {a b:List Int} (ha:allR a=true) (hb:allR b=true) (hab:a.length=b.length) (q:Nat) (hq:q<=a.length):dstN a b q<=q * 18446744056529682436 :=
 sumN_le _ _ _ (fun i hi=>sq_small _ (gap_le _ _ _ (allR_get ha (by omega)) (allR_get ha (by omega)) (allR_get hb (by omega))))
structure At2 (w:World) (b s:Nat):Prop where
 c0:w.cell? ⟨b,0,none⟩=some (.int .u64 (hi s))
 c1:w.cell? ⟨b,1,none⟩=some (.int .u64 (lo s))
 f0:w.frozen? ⟨b,0,none⟩=false
 f1:w.frozen? ⟨b,1,none⟩=false
theorem At2.gr {w w':World} {b s:Nat} (h:At2 w b s) (g:Gr w w'):At2 w' b s:=⟨g.keeps h.c0,g.keeps h.c1,(g.froz _).trans h.f0,(g.froz _).trans h.f1⟩
theorem At2.new (w:World) (s:Nat) (t:TypeId):At2 (w.alloc (.cells #[.int .u64 (hi s),.int .u64 (lo s)] t)) w.heap.size s:=⟨by simp [go_sem],by simp [go_sem],by simp [go_sem],by simp [go_sem]⟩
theorem At2.set {w:World} {b s:Nat} (h:At2 w b s) (t:Nat):At2 ((w.setCell ⟨b,0,none⟩ (.int .u64 (hi t))).setCell ⟨b,1,none⟩ (.int .u64 (lo t))) b t:=by
 obtain ⟨c0,c1,f0,f1⟩:=h
 exact ⟨by simp [go_sem,c0],by simp [go_sem,c1],by simp [go_sem,f0],by simp [go_sem,f1]⟩
theorem side_at (l h:Int) (w:World):Calls Tryz.prog 123 #[.int .i64 l,.int .i64 h] w fun e w'=>∃ b c:Nat,
  e=.returned (.func (.func 163) #[] #[.pointer (some ⟨b,0,none⟩),.pointer (some ⟨c,0,none⟩)])/\w'.cell? ⟨b,0,none⟩=some (.int .i64 l)/\w'.cell? ⟨c,0,none⟩=some (.int .i64 h)/\Gr w w':=by
 refine (side_c l h w).mono ?_
 rintro e w' ⟨rfl,rfl⟩
 exact ⟨_,_,rfl,by simp [go_sem],by simp [go_sem],((Gr.refl _).alloc _ _).alloc _ _⟩
theorem distance_c {w:World} {u v:Value} {a b:List Int} (hu:RdI w u a) (hv:RdI w v b) (hab:a.length=b.length) (hn:a.length<=64) (ha:allR a=true) (hb:allR b=true) :
  Calls Tryz.prog 80 #[u,v] w fun e w'=>e=.returned (Wd (dst a b))/\Gr w w':=by
 obtain ⟨pa,ca,rfl,hu⟩:=hu
 obtain ⟨pb,cb,rfl,hv⟩:=hv
 have A:Hid (∀ i,i < a.length->∃ b o,pa=some ⟨b,o,none⟩/\w.cell? ⟨b,o + i,none⟩=some (.int .i64 a[i]!)):=hu
 have B:Hid (∀ i,i < b.length->∃ b' o,pb=some ⟨b',o,none⟩/\w.cell? ⟨b',o + i,none⟩=some (.int .i64 b[i]!)):=hv
 have H:Hid (a.length=b.length/\allR a=true/\allR b=true):=⟨hab,ha,hb⟩
 rw [<- hab]
 obtain ⟨n,hN⟩:∃ n,n=a.length:=⟨_,rfl⟩
 have N:Hid (n=a.length):=hN
 rw [<- hN] at hn ⊢
 clear hu hv hab ha hb hN
 have S0:At2 ((w.alloc (.cells #[.int .u64 0,.int .u64 0] 40)).alloc (.cells #[.int .u64 0,.int .u64 0] 40)) (w.heap.size + 1) 0:=by
  have:=At2.new (w.alloc (.cells #[.int .u64 0,.int .u64 0] 40)) 0 40
  rw [World.size_alloc] at this
  exact this
 have G0:Gr (w.alloc (.cells #[.int .u64 0,.int .u64 0] 40)) ((w.alloc (.cells #[.int .u64 0,.int .u64 0] 40)).alloc (.cells #[.int .u64 0,.int .u64 0] 40)):=(Gr.refl _).alloc _ _
 go_enter Tryz.func80,Tryz.ntmps80
 go_wp2
 go_loopw [10] (fun iv w'=>∃ q s:Nat,iv=.int .i64 (q:Int)/\q<=n/\Hid (s=dstN a b q)/\Gr (w.alloc (.cells #[.int .u64 0,.int .u64 0] 40)) w'/\At2 w' (w.heap.size + 1) s) (fun iv _=>n - (intOf iv).toNat)
 case atStart=>exact ⟨0,0,rfl,Nat.zero_le _,rfl,G0,S0⟩
 case round =>
  clear S0 G0
  obtain ⟨q,s,rfl,hq,X,hG,hS⟩:=hrel
  by_cases hqn:q < n
  ·have hqi:(q:Int) < (n:Int):=by omega
   have hqa:q < a.length:=by have:=N.out;omega
   have hqb:q < b.length:=by have:=H.out.1;omega
   obtain ⟨b1,o1,ea,h1⟩:=A.out q hqa
   obtain ⟨b2,o2,eb,h2⟩:=B.out q hqb
   subst ea;subst eb
   have G1:Gr w wr:=((Gr.refl _).alloc _ _).trans hG
   have x0:=G1.keeps h1
   have y0:=G1.keeps h2
   have hx:=allR_get H.out.2.1 hqa
   have hy:=allR_get H.out.2.2 hqb
   have hs0:s<=q * 18446744056529682436:=by rw [X.out];exact dstN_le H.out.2.1 H.out.2.2 H.out.1 q (by omega)
   have Y:Hid (dstN a b (q + 1)=dstN a b q + gap a[q]! a[q]! b[q]! * gap a[q]! a[q]! b[q]!):=rfl
   generalize a[q]! = x at *
   generalize b[q]! = y at *
   have hg:gap x x y < 18446744073709551616:=by have:=gap_le x x y hx hx hy;omega
   have hgs:s + gap x x y * gap x x y < 340282366920938463463374607431768211456:=by have:=sq_small _ (gap_le x x y hx hx hy);omega
   have Z:Hid (s + gap x x y * gap x x y=dstN a b (q + 1)):=by unfold Hid;rw [Y.out,X.out]
   have c57:=fun W=>withSquare_c s (gap x x y) hg hgs W
   have c70:=fun b c W c0 c1=>side1_c x x y hx hx hy b c W c0 c1
   have hS0:=hS
   obtain ⟨s0,s1,s2,s3⟩:=hS
   clear h1 h2 hx hy hs0 Y X hg hgs hqa hqb G1
   generalize s + gap x x y * gap x x y=t at *
   generalize gap x x y=g at *
   go_wp2
   go_region_with (first
     | (go_at_call 123;refine (side_at _ _ _).mono ?_;rintro e w1 ⟨bb,cc,rfl,k0,k1,g1⟩;have s0:=g1.keeps s0;have s1:=g1.keeps s1;have y0:=g1.keeps y0;have s2:=(g1.froz _).trans s2;have s3:=(g1.froz _).trans s3)
     | (go_at_call 163;refine (c70 _ _ _ k0 k1).mono ?_;rintro e w2 ⟨rfl,e2⟩;subst e2)
     | (go_at_call 122;refine (c57 _).mono ?_;rintro e w3 ⟨rfl,g3⟩;have s0:=g3.keeps s0;have s1:=g3.keeps s1;have s2:=(g3.froz _).trans s2;have s3:=(g3.froz _).trans s3))
   all_goals
    have hG3:=(hG.drew.trans g1).trans g3
    have hS3:At2 w3 (w.heap.size + 1) s:=⟨s0,s1,s2,s3⟩
    clear c57 c70 hS0 x0 y0 s0 s1 s2 s3 k0 k1 g1 g3 hG
    go_wp2
    refine ⟨⟨q + 1,t,by go_num,hqn,Z,(hG3.setCell (by simp) _).setCell (by simp) _,hS3.set t⟩,by simp [intOf];omega⟩
  ·have hqi:¬ (q:Int) < (n:Int):=by omega
   have E:Hid (s=dst a b):=by
    have h1:=X.out
    have h2:q=a.length:=by have:=N.out;omega
    rw [h2] at h1;exact h1
   obtain ⟨s0,s1,s2,s3⟩:=hS
   obtain ⟨v0,v1,v2,v3⟩:=hG.var2
   go_wp2
   exact bodyPost_ret (v:=Wd s) (by simp [results,Tryz.results80,go_sem,v0,v1]) rfl ⟨by rw [E.out],by repeat (first | exact ((Gr.refl _).alloc _ _).trans hG | refine Gr.setCell ?_ (by simp) _)⟩
theorem dst_lt {a b:List Int} (ha:allR a=true) (hb:allR b=true) (hab:a.length=b.length) (hn:a.length<=64):dst a b < 340282366920938463463374607431768211456:=by
 have:=dstN_le ha hb hab a.length (Nat.le_refl _)
 have h2:dst a b=dstN a b a.length:=rfl
 omega
theorem vErr_ok {l:List Int} (h:vErr l=0):allR l=true:=by
 unfold vErr at h;split at h
 ·assumption
 ·cases h
theorem chk_ok {l:List Int} {d:Int} (h:chk l d=0):1<=l.length/\l.length<=64/\d=(l.length:Int)/\allR l=true:=by
 unfold chk at h;split at h
 ·exact ⟨by omega,by omega,by omega,vErr_ok h⟩
 ·cases h
def distE (a b:List Int):Int:=if chk a a.length=0 then chk b a.length else chk a a.length
def distV (a b:List Int):Nat:=if distE a b=0 then dst a b else 0
theorem distE_ok {a b:List Int} (h:distE a b=0):chk a a.length=0/\chk b a.length=0/\a.length=b.length/\1<=a.length/\a.length<=64/\allR a=true/\allR b=true:=by
 unfold distE at h;split at h
 ·rename_i h1
  have h2:=chk_ok h1
  have h3:=chk_ok h
  exact ⟨h1,h,by omega,by omega,by omega,h2.2.2.2,h3.2.2.2⟩
 ·rename_i h1;exact absurd h h1
theorem dist_c {w:World} {u v:Value} {a b:List Int} (hu:RdI w u a) (hv:RdI w v b) :
  Calls Tryz.prog 51 #[u,v] w fun e w'=>e=.returned (.tuple #[Wd (distV a b),.int .i64 (distE a b)])/\Gr w w':=by
 have U:Hid (RdI w u a):=hu
 have V:Hid (RdI w v b):=hv
 have G0:Gr w (w.alloc (.cells #[.int .u64 0,.int .u64 0] 40)):=(Gr.refl _).alloc _ _
 have cA:=fun r h=>check_v (hu.gb G0.gb) (a.length:Int) r h
 have cB:=fun r h=>check_v (hv.gb G0.gb) (a.length:Int) r h
 obtain ⟨pa,ca,rfl,_⟩:=hu
 obtain ⟨pb,cb,rfl,_⟩:=hv
 by_cases h1:chk a a.length=0
 ·have c1:=cA _ h1
  by_cases h2:chk b a.length=0
  ·have c2:=cB _ h2
   have E:distE a b=0:=by unfold distE;rw [if_pos h1,h2]
   have E2:distV a b=dst a b:=by unfold distV;rw [if_pos E]
   obtain ⟨_,_,h3,h4,h5,h6,h7⟩:=distE_ok E
   have c3:=distance_c (U.out.gb G0.gb) (V.out.gb G0.gb) h3 h5 h6 h7
   rw [E,E2]
   clear cA cB h1 h2 h3 h4 h5 h6 h7 E E2 U V
   generalize dst a b=s at *
   generalize b.length=m at *
   generalize a.length=n at *
   go_enter Tryz.func51,Tryz.ntmps51
   go_wp2_with fail
   refine c1.mono ?_
   rintro e w' ⟨rfl,e2⟩
   subst e2
   go_wp2_with fail
   refine c2.mono ?_
   rintro e w' ⟨rfl,e2⟩
   subst e2
   go_wp2_with fail
   refine c3.mono ?_
   rintro e w' ⟨rfl,g⟩
   obtain ⟨v0,v1,v2,v3⟩:=g.var2
   go_wp2
   exact bodyPost_ret (v:=.tuple #[Wd s,.int .i64 0]) (by simp [results,Tryz.results51,go_sem,v0,v1]) rfl ⟨rfl,((G0.trans g).setCell (by simp) _).setCell (by simp) _⟩
  ·have c2:=cB _ rfl
   have E:distE a b=chk b a.length:=by unfold distE;rw [if_pos h1]
   have E2:distV a b=0:=by unfold distV;rw [E,if_neg h2]
   have h3:(chk b a.length == 0)=false:=by rw [beq_eq_false_iff_ne];exact h2
   rw [E,E2]
   clear cA cB h1 h2 E E2 U V
   generalize chk b a.length=s at *
   generalize b.length=m at *
   generalize a.length=n at *
   go_enter Tryz.func51,Tryz.ntmps51
   go_wp2_with fail
   refine c1.mono ?_
   rintro e w' ⟨rfl,e2⟩
   subst e2
   go_wp2_with fail
   refine c2.mono ?_
   rintro e w' ⟨rfl,e2⟩
   subst e2
   go_wp2
   exact bodyPost_ret (v:=.tuple #[Wd 0,.int .i64 s]) (by simp [results,Tryz.results51,go_sem,hi,lo]) rfl ⟨rfl,G0⟩
 ·have c1:=cA _ rfl
  have E:distE a b=chk a a.length:=by unfold distE;rw [if_neg h1]
  have E2:distV a b=0:=by unfold distV;rw [E,if_neg h1]
  have h3:(chk a a.length == 0)=false:=by rw [beq_eq_false_iff_ne];exact h1
  rw [E,E2]
  clear cA cB h1 E E2 U V
  generalize chk a a.length=s at *
  generalize b.length=m at *
  generalize a.length=n at *
  go_enter Tryz.func51,Tryz.ntmps51
  go_wp2_with fail
  refine c1.mono ?_
  rintro e w' ⟨rfl,e2⟩
  subst e2
  go_wp2
  exact bodyPost_ret (v:=.tuple #[Wd 0,.int .i64 s]) (by simp [results,Tryz.results51,go_sem,hi,lo]) rfl ⟨rfl,G0⟩
end Go.Proofs.YtcipdampcmfmaabGreat

namespace Go.Proofs.YtcipdampcmfmaabGreat
open Go.RowKit
set_option maxRecDepth 100000
set_option maxHeartbeats 2000000
structure Reg where
 S:Int
 L:List Int
 H:List Int
 R:Nat
 I:List Int
abbrev rv (r:Reg) (vl vh vi:Value):Value:=.agg #[.int .i64 r.S,vl,vh,.int .u64 (hi r.R),.int .u64 (lo r.R),vi]
def RdR (w:World) (v:Value) (r:Reg):Prop:=∃ vl vh vi,v=rv r vl vh vi/\RdI w vl r.L/\RdI w vh r.H/\RdI w vi r.I
theorem RdR.gb {w w':World} {v:Value} {r:Reg} (h:RdR w v r) (g:Gb w w'):RdR w' v r:=by
 obtain ⟨vl,vh,vi,e,h1,h2,h3⟩:=h
 exact ⟨vl,vh,vi,e,h1.gb g,h2.gb g,h3.gb g⟩
theorem wd_run (a b c d:Int) (W:World):(binOp .eql 40 (.agg #[.int .u64 a,.int .u64 b]) (.agg #[.int .u64 c,.int .u64 d])).run Tryz.prog W=.ok (.bool (a == c && b == d)) W:=by
 have u24:=Tryz.underlying23
 have a24:=Tryz.isAgg23
 have z24:=Tryz.sizeOf23
 have hS:Tryz.prog.underlying 40=some (.struct (Tryz.prog.fieldsOf 40)):=by kernel_rfl
 have hp:Tryz.prog.stoodInHeld 40=false:=by kernel_rfl
 have h:(Op.equalIn 10000 40 (.agg #[.int .u64 a,.int .u64 b]) (.agg #[.int .u64 c,.int .u64 d])).run Tryz.prog W=.ok (a == c && b == d) W:=by
  rw [show (10000:Nat)=9999 + 1 from rfl,run_equalIn_agg W 9999 40 _ _ hS hp]
  simp only [Program.fieldsOf,Tryz.underlying40]
  go_simp
  by_cases h1:a=c <;> by_cases h2:b=d <;> simp [h1,h2]
 rw [run_eql_struct,h];rfl
theorem wd_inj {a b:Nat} (h:hi a=hi b) (k:lo a=lo b):a=b:=by unfold hi at h;unfold lo at k;omega
theorem wd_eq (a b:Nat) (W:World):(binOp .eql 40 (Wd a) (Wd b)).run Tryz.prog W=.ok (.bool (decide (a=b))) W:=by
 rw [wd_run]
 have:(hi a == hi b && lo a == lo b)=decide (a=b):=by
  by_cases h:a=b
  ·subst h;simp
  ·rw [decide_eq_false h,Bool.and_eq_false_iff,beq_eq_false_iff_ne,beq_eq_false_iff_ne]
   by_cases h1:hi a=hi b
   ·right;intro h2;exact h (wd_inj h1 h2)
   ·exact .inl h1
 rw [this]
theorem wd_eq0 (a:Nat) (r:Bool) (h:decide (a=0)=r) (W:World):(binOp .eql 40 (.agg #[.int .u64 (hi a),.int .u64 (lo a)]) (.agg #[.int .u64 0,.int .u64 0])).run Tryz.prog W=.ok (.bool r) W:=by
 subst h;exact wd_eq a 0 W
def okId (x:Int):Bool:=decide (1<=x) && decide (x<=1000000000)
theorem okId_iff (x:Int):okId x=true ↔ 1<=x/\x<=1000000000:=by simp [okId]
theorem isId_c (x:Int) (w:World):Calls Tryz.prog 153 #[.int .i64 x] w fun e w'=>e=.returned (.bool (okId x))/\w=w':=by
 by_cases h:1<=x
 ·by_cases h2:x<=1000000000
  ·have E:Hid (okId x=true):=(okId_iff x).2 ⟨h,h2⟩
   go_enter Tryz.func153,Tryz.ntmps153
   go_wp2
   go_ret
   exact ⟨by rw [E.out];rfl,rfl⟩
  ·have E:Hid (okId x=false):=by unfold Hid;rw [<- Bool.not_eq_true,okId_iff];omega
   go_enter Tryz.func153,Tryz.ntmps153
   go_wp2
   go_ret
   exact ⟨by rw [E.out];rfl,rfl⟩
 ·have E:Hid (okId x=false):=by unfold Hid;rw [<- Bool.not_eq_true,okId_iff];omega
  go_enter Tryz.func153,Tryz.ntmps153
  go_wp2
  go_ret
  exact ⟨by rw [E.out];rfl,rfl⟩
theorem isId_v (x:Int) (b:Bool) (h:okId x=b) (w:World):Calls Tryz.prog 153 #[.int .i64 x] w fun e w'=>e=.returned (.bool b)/\w=w':=by
 subst h;exact isId_c x w
def okAt (l:List Int) (i:Nat):Bool:=okId l[i]! && (i == 0 || decide (l[i - 1]! < l[i]!))
def riseTo (l:List Int):Nat->Bool
 | 0=>true
 | q + 1=>riseTo l q && okAt l q
def rise (l:List Int):Bool:=riseTo l l.length
theorem riseTo_le {l:List Int} {p q:Nat} (h:p<=q) (hp:riseTo l p=false):riseTo l q=false:=by
 induction q with
 | zero =>
   have:p=0:=by omega
   subst this;exact hp
 | succ q ih =>
  by_cases e:p=q + 1
  ·subst e;exact hp
  ·simp only [riseTo];rw [ih (by omega)];rfl
theorem rise_no {l:List Int} {q:Nat} (hq:q < l.length) (h:okAt l q=false):rise l=false :=
 riseTo_le (p:=q + 1) (by omega) (by simp only [riseTo];rw [h,Bool.and_false])
theorem idsRise_c {w:World} {v:Value} {l:List Int} (h:RdI w v l) (hlen:l.length<=4611686018427387904) :
  Calls Tryz.prog 190 #[v] w fun e w'=>e=.returned (.bool (rise l))/\w=w':=by
 obtain ⟨a,cap,rfl,ha⟩:=h
 have A:Hid (∀ i,i < l.length->∃ b o,a=some ⟨b,o,none⟩/\w.cell? ⟨b,o + i,none⟩=some (.int .i64 l[i]!)):=ha
 obtain ⟨n,hN⟩:∃ n,n=l.length:=⟨_,rfl⟩
 have N:Hid (n=l.length):=hN
 rw [<- hN] at hlen ⊢
 clear ha hN
 go_enter Tryz.func190,Tryz.ntmps190
 go_wp2
 go_loopw [7] (fun iv w'=>∃ q:Nat,iv=.int .i64 (q:Int)/\q<=n/\w=w'/\Hid (riseTo l q=true)) (fun iv _=>n - (intOf iv).toNat)
 case atStart=>exact ⟨0,rfl,Nat.zero_le _,rfl,rfl⟩
 case round =>
  obtain ⟨q,rfl,hq,rfl,X⟩:=hrel
  by_cases hqn:q < n
  ·have hqi:(q:Int) < (n:Int):=by omega
   have hql:q < l.length:=by have:=N.out;omega
   obtain ⟨b,o,ea,hc⟩:=A.out q hql
   by_cases hid:okId l[q]! = true
   ·have c:=fun W=>isId_v l[q]! true hid W
    by_cases h0:q=0
    ·have R:Hid (riseTo l (q + 1)=true):=by unfold Hid;simp only [riseTo,okAt];rw [X.out,hid,h0];rfl
     subst ea
     have h0':¬ (q:Int) > 0:=by omega
     generalize l[q]! = x at *
     clear X hid hql h0
     go_wp2_with (go_at_call 153;refine (c _).mono ?_;rintro e w' ⟨rfl,e2⟩;subst e2)
     go_roundw
     case rel=>exact ⟨q + 1,by simp,hqn,by first | rfl | trivial,R⟩
     case measure=>simp [intOf];omega
    ·obtain ⟨p,hp⟩:∃ p,q=p + 1:=⟨q - 1,by omega⟩
     subst hp
     obtain ⟨b',o',ea',hc'⟩:=A.out p (by omega)
     rw [ea] at ea'
     cases ea'
     have hpi:((p + 1:Nat):Int) - 1=(p:Int):=by omega
     have hp0:((p + 1:Nat):Int) > 0:=by omega
     by_cases hlt:l[p]! < l[p + 1]!
     ·have R:Hid (riseTo l (p + 1 + 1)=true):=by
       have x1:=X.out
       unfold Hid
       rw [riseTo,x1,okAt,hid,Nat.add_sub_cancel,decide_eq_true hlt];simp
      have hlt':¬ l[p + 1]! <= l[p]! := by omega
      subst ea
      generalize l[p + 1]! = x at *
      generalize l[p]! = y at *
      clear X hid hql
      go_wp2_with (go_at_call 153;refine (c _).mono ?_;rintro e w' ⟨rfl,e2⟩;subst e2)
      go_roundw
      case rel=>exact ⟨p + 1 + 1,by simp,hqn,by first | rfl | trivial,R⟩
      case measure=>simp [intOf];omega
     ·have R:Hid (rise l=false):=rise_no hql (by rw [okAt,hid,Nat.add_sub_cancel,decide_eq_false hlt];simp)
      have hlt':l[p + 1]! <= l[p]! := by omega
      subst ea
      generalize l[p + 1]! = x at *
      generalize l[p]! = y at *
      clear X hid hql
      go_wp2_with (go_at_call 153;refine (c _).mono ?_;rintro e w' ⟨rfl,e2⟩;subst e2)
      go_ret
      exact ⟨by rw [R.out];rfl,by first | rfl | trivial⟩
   ·have c:=fun W=>isId_v l[q]! false (by simpa using hid) W
    have R:Hid (rise l=false):=rise_no hql (by rw [okAt,show okId l[q]! = false by simpa using hid];rfl)
    subst ea
    generalize l[q]! = x at *
    clear X hid hql
    go_wp2_with (go_at_call 153;refine (c _).mono ?_;rintro e w' ⟨rfl,e2⟩;subst e2)
    go_ret
    exact ⟨by rw [R.out];rfl,by first | rfl | trivial⟩
  ·have hqi:¬ (q:Int) < (n:Int):=by omega
   have R:Hid (rise l=true):=by
    have h1:=X.out
    have h2:q=l.length:=by have:=N.out;omega
    rw [h2] at h1;exact h1
   go_wp2
   go_ret
   exact ⟨by rw [R.out];rfl,by first | rfl | trivial⟩
def uses (r:Reg):Bool:=if r.S=1 then decide (r.L.length=0) && decide (r.H.length=0) && decide (r.R=0) else if r.S=2 then decide (r.R=0) else if r.S=3 then decide (r.H.length=0) else false
structure RegAt (w:World) (b:Nat) (r:Reg) (vl vh vi:Value):Prop where
 c0:w.cell? ⟨b,0,none⟩=some (.int .i64 r.S)
 c1:w.cell? ⟨b,1,none⟩=some vl
 c2:w.cell? ⟨b,2,none⟩=some vh
 c3:w.cell? ⟨b,3,none⟩=some (.int .u64 (hi r.R))
 c4:w.cell? ⟨b,4,none⟩=some (.int .u64 (lo r.R))
 c5:w.cell? ⟨b,5,none⟩=some vi
theorem RegAt.gb {w w':World} {b:Nat} {r:Reg} {vl vh vi:Value} (h:RegAt w b r vl vh vi) (g:Gb w w'):RegAt w' b r vl vh vi :=
 ⟨gb_keeps g h.c0,gb_keeps g h.c1,gb_keeps g h.c2,gb_keeps g h.c3,gb_keeps g h.c4,gb_keeps g h.c5⟩
abbrev rc (r:Reg) (vl vh vi:Value):Obj:=.cells #[.int .i64 r.S,vl,vh,.int .u64 (hi r.R),.int .u64 (lo r.R),vi] 98
theorem RegAt.new (w:World) (r:Reg) (vl vh vi:Value):RegAt (w.alloc (rc r vl vh vi)) w.heap.size r vl vh vi :=
 ⟨by simp [go_sem],by simp [go_sem],by simp [go_sem],by simp [go_sem],by simp [go_sem],by simp [go_sem]⟩
theorem uses_c {w:World} {v:Value} {r:Reg} (h:RdR w v r) :
  Calls Tryz.prog 189 #[v] w fun e w'=>e=.returned (.bool (uses r))/\Gr w w':=by
 obtain ⟨vl,vh,vi,rfl,⟨pl,cl,rfl,_⟩,⟨ph,ch,rfl,_⟩,h3⟩:=h
 clear h3
 have E:Hid (uses r=if r.S=1 then decide (r.L.length=0) && decide (r.H.length=0) && decide (r.R=0) else if r.S=2 then decide (r.R=0) else if r.S=3 then decide (r.H.length=0) else false):=rfl
 generalize uses r=res at *
 obtain ⟨S,L,H,R,I⟩:=r
 dsimp only at *
 generalize L.length=nl at *
 generalize H.length=nh at *
 by_cases s1:S=1
 ·subst s1
  rw [if_pos rfl] at E
  by_cases k1:nl=0
  ·subst k1
   by_cases k2:nh=0
   ·subst k2
    have hz:=fun W=>wd_eq0 R res (by have:=E.out;simpa using this.symm) W
    go_enter Tryz.func189,Tryz.ntmps189
    go_wp2
    go_ret
    exact ⟨rfl,(Gr.refl _).alloc _ _⟩
   ·have e:res=false:=by have:=E.out;rw [this];simp [k2]
    subst e
    have k2':((nh:Int) == 0)=false:=by rw [beq_eq_false_iff_ne];omega
    clear k2 E
    go_enter Tryz.func189,Tryz.ntmps189
    go_wp2
    go_ret
    exact ⟨rfl,(Gr.refl _).alloc _ _⟩
  ·have e:res=false:=by have:=E.out;rw [this];simp [k1]
   subst e
   have k2':((nl:Int) == 0)=false:=by rw [beq_eq_false_iff_ne];omega
   clear k1 E
   go_enter Tryz.func189,Tryz.ntmps189
   go_wp2
   go_ret
   exact ⟨rfl,(Gr.refl _).alloc _ _⟩
 ·have s1':(S == 1)=false:=by rw [beq_eq_false_iff_ne];exact s1
  by_cases s2:S=2
  ·subst s2
   have hz:=fun W=>wd_eq0 R res (by have:=E.out;simpa using this.symm) W
   clear E s1
   go_enter Tryz.func189,Tryz.ntmps189
   go_wp2
   go_ret
   exact ⟨rfl,(Gr.refl _).alloc _ _⟩
  ·have s2':(S == 2)=false:=by rw [beq_eq_false_iff_ne];exact s2
   by_cases s3:S=3
   ·subst s3
    have e:Hid (res=((nh:Int) == 0)):=by
     have:=E.out
     unfold Hid
     rw [this]
     by_cases k:nh=0
     ·simp [k]
     ·have:((nh:Int) == 0)=false:=by rw [beq_eq_false_iff_ne];omega
      rw [this];simp [k]
    clear E s1 s2
    go_enter Tryz.func189,Tryz.ntmps189
    go_wp2
    go_ret
    exact ⟨by rw [e.out];rfl,(Gr.refl _).alloc _ _⟩
   ·have s3':(S == 3)=false:=by rw [beq_eq_false_iff_ne];exact s3
    have e:res=false:=by have:=E.out;rw [this,if_neg s1,if_neg s2,if_neg s3]
    subst e
    clear E s1 s2 s3
    go_enter Tryz.func189,Tryz.ntmps189
    go_wp2
    go_ret
    exact ⟨rfl,(Gr.refl _).alloc _ _⟩
theorem uses_v {w:World} {v:Value} {r:Reg} (h:RdR w v r) (b:Bool) (hb:uses r=b) :
  Calls Tryz.prog 189 #[v] w fun e w'=>e=.returned (.bool b)/\Gr w w':=by
 subst hb;exact uses_c h
theorem idsRise_v {w:World} {v:Value} {l:List Int} (h:RdI w v l) (hlen:l.length<=4611686018427387904) (b:Bool) (hb:rise l=b) :
  Calls Tryz.prog 190 #[v] w fun e w'=>e=.returned (.bool b)/\w=w':=by
 subst hb;exact idsRise_c h hlen
def below (l h:List Int):Nat->Bool
 | 0=>true
 | q + 1=>below l h q && decide (l[q]! <= h[q]!)
theorem below_le {l h:List Int} {p q:Nat} (hpq:p<=q) (hp:below l h p=false):below l h q=false:=by
 induction q with
 | zero =>
   have:p=0:=by omega
   subst this;exact hp
 | succ q ih =>
  by_cases e:p=q + 1
  ·subst e;exact hp
  ·simp only [below];rw [ih (by omega)];rfl
theorem below_get {l h:List Int} {q:Nat} (hb:below l h q=true) {i:Nat} (hi:i < q):l[i]! <= h[i]! := by
 induction q with
 | zero=>omega
 | succ q ih =>
  simp only [below,Bool.and_eq_true,decide_eq_true_eq] at hb
  by_cases e:i=q
  ·subst e;exact hb.2
  ·exact ih hb.1 (by omega)
def cornE (l h:List Int) (d:Int):Int:=if chk l d=0 then (if chk h d=0 then (if below l h l.length=true then 0 else 32) else chk h d) else chk l d
theorem corners_c {w:World} {u v:Value} {l h:List Int} (hu:RdI w u l) (hv:RdI w v h) (d:Int) :
  Calls Tryz.prog 191 #[u,v,.int .i64 d] w fun e w'=>e=.returned (.int .i64 (cornE l h d))/\w=w':=by
 have cA:=fun r k=>check_v hu d r k
 have cB:=fun r k=>check_v hv d r k
 obtain ⟨pa,ca,rfl,ha⟩:=hu
 obtain ⟨pb,cb,rfl,hb⟩:=hv
 have A:Hid (∀ i,i < l.length->∃ b o,pa=some ⟨b,o,none⟩/\w.cell? ⟨b,o + i,none⟩=some (.int .i64 l[i]!)):=ha
 have B:Hid (∀ i,i < h.length->∃ b o,pb=some ⟨b,o,none⟩/\w.cell? ⟨b,o + i,none⟩=some (.int .i64 h[i]!)):=hb
 clear ha hb
 by_cases h1:chk l d=0
 ·have c1:=cA _ h1
  by_cases h2:chk h d=0
  ·have c2:=cB _ h2
   have E:Hid (cornE l h d=if below l h l.length=true then 0 else 32):=by unfold Hid cornE;rw [if_pos h1,if_pos h2]
   obtain ⟨k1,k2,k3,_⟩:=chk_ok h1
   obtain ⟨_,_,k4,_⟩:=chk_ok h2
   have LL:Hid (h.length=l.length):=by unfold Hid;omega
   rw [show h.length=l.length by omega] at c2 ⊢
   obtain ⟨n,hN⟩:∃ n,n=l.length:=⟨_,rfl⟩
   have N:Hid (n=l.length):=hN
   rw [<- hN] at c1 c2 k1 k2 ⊢
   generalize cornE l h d=res at *
   clear cA cB h1 h2 k3 k4 hN
   go_enter Tryz.func191,Tryz.ntmps191
   go_wp2_with fail
   refine c1.mono ?_
   rintro e w' ⟨rfl,e2⟩
   subst e2
   go_wp2_with fail
   refine c2.mono ?_
   rintro e w' ⟨rfl,e2⟩
   subst e2
   clear c1 c2
   go_wp2
   go_loopw [25] (fun iv w'=>∃ q:Nat,iv=.int .i64 (q:Int)/\q<=n/\w=w'/\Hid (below l h q=true)) (fun iv _=>n - (intOf iv).toNat)
   case atStart=>exact ⟨0,rfl,Nat.zero_le _,rfl,rfl⟩
   case round =>
    obtain ⟨q,rfl,hq,rfl,X⟩:=hrel
    by_cases hqn:q < n
    ·have hqi:(q:Int) < (n:Int):=by omega
     have hql:q < l.length:=by have:=N.out;omega
     obtain ⟨b1,o1,ea,hc1⟩:=A.out q hql
     obtain ⟨b2,o2,eb,hc2⟩:=B.out q (by have:=LL.out;omega)
     subst ea;subst eb
     by_cases hle:l[q]! <= h[q]!
     ·have R:Hid (below l h (q + 1)=true):=by unfold Hid;rw [below,X.out,decide_eq_true hle];rfl
      have hle':¬ l[q]! > h[q]! := by omega
      generalize l[q]! = x at *
      generalize h[q]! = y at *
      clear hle
      go_wp2
      go_roundw
      case rel=>exact ⟨q + 1,by simp,hqn,by first | rfl | trivial,R⟩
      case measure=>simp [intOf];omega
     ·have R:Hid (res=32):=by
       have h1:below l h l.length=false:=below_le (p:=q + 1) (by omega) (by rw [below,decide_eq_false hle,Bool.and_false])
       have h2:=E.out
       rw [h1] at h2;exact h2
      have hle':l[q]! > h[q]! := by omega
      generalize l[q]! = x at *
      generalize h[q]! = y at *
      clear hle
      go_wp2
      go_ret
      exact ⟨by rw [R.out];rfl,by first | rfl | trivial⟩
    ·have hqi:¬ (q:Int) < (n:Int):=by omega
     have R:Hid (res=0):=by
      have h1:=X.out
      have h2:=E.out
      rw [show q=l.length by have:=N.out;omega] at h1
      rw [h1] at h2;exact h2
     go_wp2
     go_ret
     exact ⟨by rw [R.out];rfl,by first | rfl | trivial⟩
  ·have c2:=cB _ rfl
   have E:cornE l h d=chk h d:=by unfold cornE;rw [if_pos h1,if_neg h2]
   have h3:(chk h d == 0)=false:=by rw [beq_eq_false_iff_ne];exact h2
   rw [E]
   clear cA cB h1 h2 E A B
   generalize chk h d=s at *
   generalize l.length=m at *
   generalize h.length=n at *
   go_enter Tryz.func191,Tryz.ntmps191
   go_wp2_with fail
   refine c1.mono ?_
   rintro e w' ⟨rfl,e2⟩
   subst e2
   go_wp2_with fail
   refine c2.mono ?_
   rintro e w' ⟨rfl,e2⟩
   subst e2
   go_wp2
   go_ret
   exact ⟨rfl,rfl⟩
 ·have c1:=cA _ rfl
  have E:cornE l h d=chk l d:=by unfold cornE;rw [if_neg h1]
  have h3:(chk l d == 0)=false:=by rw [beq_eq_false_iff_ne];exact h1
  rw [E]
  clear cA cB h1 E A B
  generalize chk l d=s at *
  generalize l.length=m at *
  generalize h.length=n at *
  go_enter Tryz.func191,Tryz.ntmps191
  go_wp2_with fail
  refine c1.mono ?_
  rintro e w' ⟨rfl,e2⟩
  subst e2
  go_wp2
  go_ret
  exact ⟨rfl,rfl⟩
theorem corners_v {w:World} {u v:Value} {l h:List Int} (hu:RdI w u l) (hv:RdI w v h) (d r:Int) (hr:cornE l h d=r) :
  Calls Tryz.prog 191 #[u,v,.int .i64 d] w fun e w'=>e=.returned (.int .i64 r)/\w=w':=by
 subst hr;exact corners_c hu hv d
end Go.Proofs.YtcipdampcmfmaabGreat

namespace Go.Proofs.YtcipdampcmfmaabGreat
open Go.RowKit
set_option maxRecDepth 100000
set_option maxHeartbeats 4000000
def rtTo (a:Nat):Nat->Nat
 | 0=>0
 | n + 1=>if (n + 1) * (n + 1)<=a then n + 1 else rtTo a n
def rt (a:Nat):Nat:=rtTo a a
theorem rtTo_is (a:Nat):∀ n,a < (n + 1) * (n + 1)->IsRoot a (rtTo a n)
 | 0,h=>⟨Nat.zero_le _,by simpa [rtTo] using h⟩
 | n + 1,h=>by
  unfold rtTo
  split
  ·rename_i h1;exact ⟨h1,h⟩
  ·rename_i h1;exact rtTo_is a n (by omega)
theorem rt_is (a:Nat):IsRoot a (rt a):=rtTo_is a a (by
 have:(a + 1) * 1<=(a + 1) * (a + 1):=Nat.mul_le_mul_left _ (by omega)
 omega)
theorem root_le {a r s:Nat} (h1:IsRoot a r) (h2:IsRoot a s):s<=r:=by
 apply Nat.le_of_not_lt;intro hc
 have:=sq_le (show r + 1<=s by omega)
 have:=h1.2;have:=h2.1;omega
theorem root_one {a r:Nat} (h:IsRoot a r):r=rt a:=Nat.le_antisymm (root_le (rt_is a) h) (root_le h (rt_is a))
theorem rt_lt {a:Nat} (ha:a < 340282366920938463463374607431768211456):rt a < 18446744073709551616:=by
 apply Nat.lt_of_not_le;intro hc
 have:=sq_le hc
 have:=(rt_is a).1;omega
theorem sqrt_c (a:Nat) (ha:a < 340282366920938463463374607431768211456) (w:World) :
  Calls Tryz.prog 166 #[Wd a] w fun e w'=>e=.returned (.int .u64 (rt a:Int))/\Gr w w':=by
 refine (sqrt_any a ha w).mono ?_
 rintro e w' ⟨r,rfl,_,hr,g⟩
 rw [root_one hr];exact ⟨rfl,g⟩
def rup (R:Nat):Nat:=if rt R * rt R=R then rt R else rt R + 1
def ballV (a R:Nat):Nat:=if rt a<=rt R then 0 else (rt a - rup R) * (rt a - rup R)
theorem wd_ne (a b:Nat) (r:Bool) (h:(!decide (a=b))=r) (W:World):(binOp .neq 40 (.agg #[.int .u64 (hi a),.int .u64 (lo a)]) (.agg #[.int .u64 (hi b),.int .u64 (lo b)])).run Tryz.prog W=.ok (.bool r) W:=by
 subst h
 have h1:=wd_eq a b W
 rw [run_eql_struct] at h1
 rw [run_neq_struct]
 revert h1
 generalize (Op.equalIn 10000 40 (Wd a) (Wd b)).run Tryz.prog W=x
 intro h1
 cases x with
 | ok v w' =>
  simp only [Result.andThen] at h1 ⊢
  injection h1 with h2 h3
  injection h2 with h4
  rw [h3,h4]
 | _=>simp [Result.andThen] at h1
theorem ballBound_c {w:World} {v u:Value} {r:Reg} {a:List Int} (hv:RdR w v r) (hu:RdI w u a) (hl:r.L.length=a.length) (hn:r.L.length<=64) (rl:allR r.L=true) (ra:allR a=true) (hR:r.R < 340282366920938463463374607431768211456) :
  Calls Tryz.prog 130 #[v,u] w fun e w'=>e=.returned (Wd (ballV (dst r.L a) r.R))/\Gr w w':=by
 have HV:Hid (RdR w v r):=hv
 obtain ⟨vl,vh,vi,rfl,hL,hH,hI⟩:=hv
 have RA:Hid (RegAt (w.alloc (rc r vl vh vi)) w.heap.size r vl vh vi):=RegAt.new w r vl vh vi
 have G00:Gr w (w.alloc (rc r vl vh vi)):=(Gr.refl _).alloc _ _
 have G0:Gr w ((w.alloc (rc r vl vh vi)).alloc (.cells #[.int .u64 0,.int .u64 0] 40)):=G00.alloc _ _
 have c1:=distance_c (hL.gb G0.gb) (hu.gb G0.gb) hl hn rl ra
 have c2:=fun W=>sqrt_c (dst r.L a) (dst_lt rl ra hl hn) W
 have c3:=fun W=>sqrt_c r.R hR W
 have l1:=rt_lt (dst_lt rl ra hl hn)
 have l2:=rt_lt hR
 have l3:=(rt_is (dst r.L a)).1
 have l4:=dst_lt rl ra hl hn
 clear hH hI HV hl hn rl ra
 obtain ⟨S,L,H,R,I⟩:=r
 dsimp only at *
 obtain ⟨pl,cl,rfl,_⟩:=hL
 obtain ⟨pa,ca,rfl,_⟩:=hu
 generalize L.length=nl at *
 generalize a.length=na at *
 have E:Hid (ballV (dst L a) R=if rt (dst L a)<=rt R then 0 else (rt (dst L a) - rup R) * (rt (dst L a) - rup R)):=rfl
 generalize ballV (dst L a) R=res at *
 generalize dst L a=D at *
 have E2:Hid (rup R=if rt R * rt R=R then rt R else rt R + 1):=rfl
 generalize rt D=s at *
 generalize rup R=t' at *
 generalize rt R=t at *
 clear l3 l4
 have W0:Hid (Gr (w.alloc (.cells #[.int .i64 S,.slice pl nl cl,vh,.int .u64 (hi R),.int .u64 (lo R),vi] 98)) ((w.alloc (.cells #[.int .i64 S,.slice pl nl cl,vh,.int .u64 (hi R),.int .u64 (lo R),vi] 98)).alloc (.cells #[.int .u64 0,.int .u64 0] 40))):=(Gr.refl _).alloc _ _
 go_enter Tryz.func130,Tryz.ntmps130
 go_wp2_with fail
 refine c1.mono ?_
 rintro e w1 ⟨rfl,g1⟩
 go_wp2_with fail
 refine (c2 _).mono ?_
 rintro e w2 ⟨rfl,g2⟩
 have g2:=g1.trans g2
 obtain ⟨_,_,_,q3,q4,_⟩:=RA.out.gb (W0.out.trans g2).gb
 dsimp only at q3 q4
 go_wp2_with fail
 refine (c3 _).mono ?_
 rintro e w3 ⟨rfl,g3⟩
 have G3:=g2.trans g3
 have VV:=G3.var2
 simp only [World.size_alloc] at VV
 obtain ⟨v0,v1,v2,v3⟩:=VV
 clear c1 c2 c3 g1 g2 g3 q3 q4
 by_cases hst:s<=t
 ·rw [if_pos hst] at E
  have e:=E.out
  subst e
  have hst':(s:Int)<=(t:Int):=by omega
  clear E E2 hst
  go_wp2
  exact bodyPost_ret (v:=Wd 0) (by simp [results,Tryz.results130,go_sem,v0,v1,hi,lo]) rfl ⟨rfl,by repeat (first | exact G0.trans G3 | refine Gr.setCell ?_ (by simp) _)⟩
 ·rw [if_neg hst] at E
  have hst':¬ (s:Int)<=(t:Int):=by omega
  obtain ⟨_,_,_,q3,q4,_⟩:=RA.out.gb (W0.out.trans G3).gb
  dsimp only at q3 q4
  have cm:=fun W=>mul_any t t l2 l2 W
  have reg:∀ r':Bool,(!decide (t * t=R))=r'->Hid ((!decide (t * t=R))=r'):=fun _ h=>h
  by_cases ht:t * t=R
  ·have hne:=fun W=>wd_ne (t * t) R false (by simp [ht]) W
   rw [if_pos ht] at E2
   have e:=E2.out
   subst e
   have cs:=fun W=>mul_int ((s:Int) - (t':Int)) ((s:Int) - (t':Int)) (by omega) (by omega) (by omega) (by omega) W
   have E3:Hid (((s:Int) - (t':Int)).toNat * ((s:Int) - (t':Int)).toNat=res):=by unfold Hid;rw [E.out];congr 1 <;> omega
   rw [E3.out] at cs
   have b1:0<=(s:Int) - (t':Int):=by omega
   have b2:(s:Int) - (t':Int) < 18446744073709551616:=by omega
   clear E E2 E3 hst ht reg
   go_wp2
   go_region_held3 (fun w'=>w'.cell? ⟨w.heap.size,3,none⟩=some (.int .u64 (hi R))/\w'.cell? ⟨w.heap.size,4,none⟩=some (.int .u64 (lo R))) (first | (with_reducible exact call_keeps2 (by assumption) (by assumption)) | exact ⟨q3,q4⟩)
    (first
     | (go_at_call 162;refine (cm _).mono ?_;rintro e w4 ⟨rfl,g4⟩))
   all_goals
    have G4:=G3.drew.trans g4
    go_wp2_with fail
    refine (cs _).mono ?_
    rintro e w5 ⟨rfl,g5⟩
    have G5:=G4.trans g5
    have VV:=G5.var2
    simp only [World.size_alloc] at VV
    obtain ⟨u0,u1,u2,u3⟩:=VV
    go_wp2
    exact bodyPost_ret (v:=Wd res) (by simp [results,Tryz.results130,go_sem,u0,u1]) rfl ⟨rfl,by repeat (first | exact G0.trans G5 | refine Gr.setCell ?_ (by simp) _)⟩
  ·have hne:=fun W=>wd_ne (t * t) R true (by simp [ht]) W
   rw [if_neg ht] at E2
   have e:=E2.out
   have T1:Hid ((t:Int) + 1=(t':Int)):=by unfold Hid;omega
   have cs:=fun W=>mul_int ((s:Int) - (t':Int)) ((s:Int) - (t':Int)) (by omega) (by omega) (by omega) (by omega) W
   have E3:Hid (((s:Int) - (t':Int)).toNat * ((s:Int) - (t':Int)).toNat=res):=by unfold Hid;rw [E.out];congr 1 <;> omega
   rw [E3.out] at cs
   have BB:Hid (0<=(s:Int) - (t':Int)/\(s:Int) - (t':Int) < 18446744073709551616):=⟨by omega,by omega⟩
   clear e
   clear E E2 E3 hst ht reg
   go_wp2
   go_region_held3 (fun w'=>w'.cell? ⟨w.heap.size,3,none⟩=some (.int .u64 (hi R))/\w'.cell? ⟨w.heap.size,4,none⟩=some (.int .u64 (lo R))) (first | (with_reducible exact call_keeps2 (by assumption) (by assumption)) | exact ⟨q3,q4⟩)
    (first
     | (go_at_call 162;refine (cm _).mono ?_;rintro e w4 ⟨rfl,g4⟩))
   all_goals
    have G4:=G3.drew.trans g4
    have T2:=T1.out
    obtain ⟨b1,b2⟩:=BB.out
    go_wp2_with fail
    refine (cs _).mono ?_
    rintro e w5 ⟨rfl,g5⟩
    have G5:=G4.trans g5
    have VV:=G5.var2
    simp only [World.size_alloc] at VV
    obtain ⟨u0,u1,u2,u3⟩:=VV
    go_wp2
    exact bodyPost_ret (v:=Wd res) (by simp [results,Tryz.results130,go_sem,u0,u1]) rfl ⟨rfl,by repeat (first | exact G0.trans G5 | refine Gr.setCell ?_ (by simp) _)⟩
end Go.Proofs.YtcipdampcmfmaabGreat
