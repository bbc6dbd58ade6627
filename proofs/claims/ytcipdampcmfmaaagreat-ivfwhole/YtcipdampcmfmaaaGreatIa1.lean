import Derived.Test.YtcipdampcmfmaaaGreatIa0
import Derived.Maps.OwnSet
import Derived.Maps.RangeWalk
import Derived.Below
namespace Go.Proofs.YtcipdampcmfmaaaGreat
open Go.RowKit
set_option maxRecDepth 100000
set_option maxHeartbeats 4000000
theorem Gr.gb {a b:World} (h:Gr a b):Gb a b:=h.below
def sumN (f:Nat->Nat):Nat->Nat
 | 0=>0
 | n + 1=>sumN f n + f n
theorem sumN_le (f:Nat->Nat) (c n:Nat) (h:∀ i,i < n->f i<=c):sumN f n<=n * c:=by
 induction n with
 | zero=>simp [sumN]
 | succ n ih =>
  have:=ih (fun i hi=>h i (by omega))
  have:=h n (by omega)
  simp only [sumN,Nat.add_mul];omega
theorem sq_small (g:Nat) (h:g<=4294967294):g * g<=18446744056529682436:=by
 have:=Nat.mul_le_mul h h;omega
theorem gap_le (l h x:Int) (hl:-2147483647<=l/\l<=2147483647) (hh:-2147483647<=h/\h<=2147483647) (hx:-2147483647<=x/\x<=2147483647):gap l h x<=4294967294:=by
 unfold gap;split
 ·omega
 ·split <;> omega
def dst (a b:List Int):Nat:=sumN (fun i=>gap a[i]! a[i]! b[i]! * gap a[i]! a[i]! b[i]!) a.length
def dstN (a b:List Int) (q:Nat):Nat:=sumN (fun i=>gap a[i]! a[i]! b[i]! * gap a[i]! a[i]! b[i]!) q
theorem dstN_le {a b:List Int} (ha:allR a=true) (hb:allR b=true) (hab:a.length=b.length) (q:Nat) (hq:q<=a.length):dstN a b q<=q * 18446744056529682436 :=
 sumN_le _ _ _ (fun i hi=>sq_small _ (gap_le _ _ _ (allR_get ha (by omega)) (allR_get ha (by omega)) (allR_get hb (by omega))))
structure At2 (w:World) (b s:Nat):Prop where
 c0:w.cell? ⟨b,0,none⟩=some (.int .u64 (hi s))
 c1:w.cell? ⟨b,1,none⟩=some (.int .u64 (lo s))
 f0:w.frozen? ⟨b,0,none⟩=false
 f1:w.frozen? ⟨b,1,none⟩=false
theorem At2.gr {w w':World} {b s:Nat} (h:At2 w b s) (g:Gr w w'):At2 w' b s:=⟨g.keeps h.c0,g.keeps h.c1,(g.froz _).trans h.f0,(g.froz _).trans h.f1⟩
theorem At2.new (w:World) (s:Nat) (t:TypeId):At2 (w.alloc (.cells #[.int .u64 (hi s),.int .u64 (lo s)] t)) w.heap.size s:=⟨by simp [go_sem],by simp [go_sem],by simp [go_sem],by simp [go_sem]⟩
theorem At2.set {w:World} {b s:Nat} (h:At2 w b s) (t:Nat):At2 ((w.setCell ⟨b,0,none⟩ (.int .u64 (hi t))).setCell ⟨b,1,none⟩ (.int .u64 (lo t))) b t:=by
 obtain ⟨c0,c1,f0,f1⟩:=h
 exact ⟨by simp [go_sem,c0],by simp [go_sem,c1],by simp [go_sem,f0],by simp [go_sem,f1]⟩
theorem side_at (l h:Int) (w:World):Calls Tryz.prog 152 #[.int .i64 l,.int .i64 h] w fun e w'=>∃ b c:Nat,
  e=.returned (.func (.func 196) #[] #[.pointer (some ⟨b,0,none⟩),.pointer (some ⟨c,0,none⟩)])/\w'.cell? ⟨b,0,none⟩=some (.int .i64 l)/\w'.cell? ⟨c,0,none⟩=some (.int .i64 h)/\Gr w w':=by
 refine (side_c l h w).mono ?_
 rintro e w' ⟨rfl,rfl⟩
 exact ⟨_,_,rfl,by simp [go_sem],by simp [go_sem],((Gr.refl _).alloc _ _).alloc _ _⟩
theorem distance_c {w:World} {u v:Value} {a b:List Int} (hu:RdI w u a) (hv:RdI w v b) (hab:a.length=b.length) (hn:a.length<=64) (ha:allR a=true) (hb:allR b=true) :
  Calls Tryz.prog 103 #[u,v] w fun e w'=>e=.returned (Wd (dst a b))/\Gr w w':=by
 obtain ⟨pa,ca,rfl,hu⟩:=hu
 obtain ⟨pb,cb,rfl,hv⟩:=hv
 have A:Hid (∀ i,i < a.length->∃ b o,pa=some ⟨b,o,none⟩/\w.cell? ⟨b,o + i,none⟩=some (.int .i64 a[i]!)):=hu
 have B:Hid (∀ i,i < b.length->∃ b' o,pb=some ⟨b',o,none⟩/\w.cell? ⟨b',o + i,none⟩=some (.int .i64 b[i]!)):=hv
 have H:Hid (a.length=b.length/\allR a=true/\allR b=true):=⟨hab,ha,hb⟩
 rw [<- hab]
 obtain ⟨n,hN⟩:∃ n,n=a.length:=⟨_,rfl⟩
 have N:Hid (n=a.length):=hN
 rw [<- hN] at hn ⊢
 clear hu hv hab ha hb hN
 have S0:At2 ((w.alloc (.cells #[.int .u64 0,.int .u64 0] 79)).alloc (.cells #[.int .u64 0,.int .u64 0] 79)) (w.heap.size + 1) 0:=by
  have:=At2.new (w.alloc (.cells #[.int .u64 0,.int .u64 0] 79)) 0 79
  rw [World.size_alloc] at this
  exact this
 have G0:Gr (w.alloc (.cells #[.int .u64 0,.int .u64 0] 79)) ((w.alloc (.cells #[.int .u64 0,.int .u64 0] 79)).alloc (.cells #[.int .u64 0,.int .u64 0] 79)):=(Gr.refl _).alloc _ _
 go_enter Tryz.func103,Tryz.ntmps103
 go_wp2
 go_loopw [10] (fun iv w'=>∃ q s:Nat,iv=.int .i64 (q:Int)/\q<=n/\Hid (s=dstN a b q)/\Gr (w.alloc (.cells #[.int .u64 0,.int .u64 0] 79)) w'/\At2 w' (w.heap.size + 1) s) (fun iv _=>n - (intOf iv).toNat)
 case atStart=>exact ⟨0,0,rfl,Nat.zero_le _,rfl,G0,S0⟩
 case round =>
  clear S0 G0
  obtain ⟨q,s,rfl,hq,X,hG,hS⟩:=hrel
  by_cases hqn:q < n
  ·have hqi:(q:Int) < (n:Int):=by omega
   have hqa:q < a.length:=by have:=N.out;omega
   have hqb:q < b.length:=by have:=H.out.1;omega
   obtain ⟨b1,o1,ea,h1⟩:=A.out q hqa
   obtain ⟨b2,o2,eb,h2⟩:=B.out q hqb
   subst ea;subst eb
   have G1:Gr w wr:=((Gr.refl _).alloc _ _).trans hG
   have x0:=G1.keeps h1
   have y0:=G1.keeps h2
   have hx:=allR_get H.out.2.1 hqa
   have hy:=allR_get H.out.2.2 hqb
   have hs0:s<=q * 18446744056529682436:=by rw [X.out];exact dstN_le H.out.2.1 H.out.2.2 H.out.1 q (by omega)
   have Y:Hid (dstN a b (q + 1)=dstN a b q + gap a[q]! a[q]! b[q]! * gap a[q]! a[q]! b[q]!):=rfl
   generalize a[q]! = x at *
   generalize b[q]! = y at *
   have hg:gap x x y < 18446744073709551616:=by have:=gap_le x x y hx hx hy;omega
   have hgs:s + gap x x y * gap x x y < 340282366920938463463374607431768211456:=by have:=sq_small _ (gap_le x x y hx hx hy);omega
   have Z:Hid (s + gap x x y * gap x x y=dstN a b (q + 1)):=by unfold Hid;rw [Y.out,X.out]
   have c57:=fun W=>withSquare_c s (gap x x y) hg hgs W
   have c70:=fun b c W c0 c1=>side1_c x x y hx hx hy b c W c0 c1
   have hS0:=hS
   obtain ⟨s0,s1,s2,s3⟩:=hS
   clear h1 h2 hx hy hs0 Y X hg hgs hqa hqb G1
   generalize s + gap x x y * gap x x y=t at *
   generalize gap x x y=g at *
   go_wp2
   go_region_with (first
     | (go_at_call 152;refine (side_at _ _ _).mono ?_;rintro e w1 ⟨bb,cc,rfl,k0,k1,g1⟩;have s0:=g1.keeps s0;have s1:=g1.keeps s1;have y0:=g1.keeps y0;have s2:=(g1.froz _).trans s2;have s3:=(g1.froz _).trans s3)
     | (go_at_call 196;refine (c70 _ _ _ k0 k1).mono ?_;rintro e w2 ⟨rfl,e2⟩;subst e2)
     | (go_at_call 151;refine (c57 _).mono ?_;rintro e w3 ⟨rfl,g3⟩;have s0:=g3.keeps s0;have s1:=g3.keeps s1;have s2:=(g3.froz _).trans s2;have s3:=(g3.froz _).trans s3))
   all_goals
    have hG3:=(hG.drew.trans g1).trans g3
    have hS3:At2 w3 (w.heap.size + 1) s:=⟨s0,s1,s2,s3⟩
    clear c57 c70 hS0 x0 y0 s0 s1 s2 s3 k0 k1 g1 g3 hG
    go_wp2
    refine ⟨⟨q + 1,t,by go_num,hqn,Z,(hG3.setCell (by simp) _).setCell (by simp) _,hS3.set t⟩,by simp [intOf];omega⟩
  ·have hqi:¬ (q:Int) < (n:Int):=by omega
   have E:Hid (s=dst a b):=by
    have h1:=X.out
    have h2:q=a.length:=by have:=N.out;omega
    rw [h2] at h1;exact h1
   obtain ⟨s0,s1,s2,s3⟩:=hS
   obtain ⟨v0,v1,v2,v3⟩:=hG.var2
   go_wp2
   exact bodyPost_ret (v:=Wd s) (by simp [results,Tryz.results103,go_sem,v0,v1]) rfl ⟨by rw [E.out],by repeat (first | exact ((Gr.refl _).alloc _ _).trans hG | refine Gr.setCell ?_ (by simp) _)⟩
theorem dst_lt {a b:List Int} (ha:allR a=true) (hb:allR b=true) (hab:a.length=b.length) (hn:a.length<=64):dst a b < 340282366920938463463374607431768211456:=by
 have:=dstN_le ha hb hab a.length (Nat.le_refl _)
 have h2:dst a b=dstN a b a.length:=rfl
 omega
theorem vErr_ok {l:List Int} (h:vErr l=0):allR l=true:=by
 unfold vErr at h;split at h
 ·assumption
 ·cases h
theorem chk_ok {l:List Int} {d:Int} (h:chk l d=0):1<=l.length/\l.length<=64/\d=(l.length:Int)/\allR l=true:=by
 unfold chk at h;split at h
 ·exact ⟨by omega,by omega,by omega,vErr_ok h⟩
 ·cases h
def distE (a b:List Int):Int:=if chk a a.length=0 then chk b a.length else chk a a.length
def distV (a b:List Int):Nat:=if distE a b=0 then dst a b else 0
theorem distE_ok {a b:List Int} (h:distE a b=0):chk a a.length=0/\chk b a.length=0/\a.length=b.length/\1<=a.length/\a.length<=64/\allR a=true/\allR b=true:=by
 unfold distE at h;split at h
 ·rename_i h1
  have h2:=chk_ok h1
  have h3:=chk_ok h
  exact ⟨h1,h,by omega,by omega,by omega,h2.2.2.2,h3.2.2.2⟩
 ·rename_i h1;exact absurd h h1
theorem dist_c {w:World} {u v:Value} {a b:List Int} (hu:RdI w u a) (hv:RdI w v b) :
  Calls Tryz.prog 73 #[u,v] w fun e w'=>e=.returned (.tuple #[Wd (distV a b),.int .i64 (distE a b)])/\Gr w w':=by
 have U:Hid (RdI w u a):=hu
 have V:Hid (RdI w v b):=hv
 have G0:Gr w (w.alloc (.cells #[.int .u64 0,.int .u64 0] 79)):=(Gr.refl _).alloc _ _
 have cA:=fun r h=>check_v (hu.gb G0.gb) (a.length:Int) r h
 have cB:=fun r h=>check_v (hv.gb G0.gb) (a.length:Int) r h
 obtain ⟨pa,ca,rfl,_⟩:=hu
 obtain ⟨pb,cb,rfl,_⟩:=hv
 by_cases h1:chk a a.length=0
 ·have c1:=cA _ h1
  by_cases h2:chk b a.length=0
  ·have c2:=cB _ h2
   have E:distE a b=0:=by unfold distE;rw [if_pos h1,h2]
   have E2:distV a b=dst a b:=by unfold distV;rw [if_pos E]
   obtain ⟨_,_,h3,h4,h5,h6,h7⟩:=distE_ok E
   have c3:=distance_c (U.out.gb G0.gb) (V.out.gb G0.gb) h3 h5 h6 h7
   rw [E,E2]
   clear cA cB h1 h2 h3 h4 h5 h6 h7 E E2 U V
   generalize dst a b=s at *
   generalize b.length=m at *
   generalize a.length=n at *
   go_enter Tryz.func73,Tryz.ntmps73
   go_wp2_with fail
   refine c1.mono ?_
   rintro e w' ⟨rfl,e2⟩
   subst e2
   go_wp2_with fail
   refine c2.mono ?_
   rintro e w' ⟨rfl,e2⟩
   subst e2
   go_wp2_with fail
   refine c3.mono ?_
   rintro e w' ⟨rfl,g⟩
   obtain ⟨v0,v1,v2,v3⟩:=g.var2
   go_wp2
   exact bodyPost_ret (v:=.tuple #[Wd s,.int .i64 0]) (by simp [results,Tryz.results73,go_sem,v0,v1]) rfl ⟨rfl,((G0.trans g).setCell (by simp) _).setCell (by simp) _⟩
  ·have c2:=cB _ rfl
   have E:distE a b=chk b a.length:=by unfold distE;rw [if_pos h1]
   have E2:distV a b=0:=by unfold distV;rw [E,if_neg h2]
   have h3:(chk b a.length == 0)=false:=by rw [beq_eq_false_iff_ne];exact h2
   rw [E,E2]
   clear cA cB h1 h2 E E2 U V
   generalize chk b a.length=s at *
   generalize b.length=m at *
   generalize a.length=n at *
   go_enter Tryz.func73,Tryz.ntmps73
   go_wp2_with fail
   refine c1.mono ?_
   rintro e w' ⟨rfl,e2⟩
   subst e2
   go_wp2_with fail
   refine c2.mono ?_
   rintro e w' ⟨rfl,e2⟩
   subst e2
   go_wp2
   exact bodyPost_ret (v:=.tuple #[Wd 0,.int .i64 s]) (by simp [results,Tryz.results73,go_sem,hi,lo]) rfl ⟨rfl,G0⟩
 ·have c1:=cA _ rfl
  have E:distE a b=chk a a.length:=by unfold distE;rw [if_neg h1]
  have E2:distV a b=0:=by unfold distV;rw [E,if_neg h1]
  have h3:(chk a a.length == 0)=false:=by rw [beq_eq_false_iff_ne];exact h1
  rw [E,E2]
  clear cA cB h1 E E2 U V
  generalize chk a a.length=s at *
  generalize b.length=m at *
  generalize a.length=n at *
  go_enter Tryz.func73,Tryz.ntmps73
  go_wp2_with fail
  refine c1.mono ?_
  rintro e w' ⟨rfl,e2⟩
  subst e2
  go_wp2
  exact bodyPost_ret (v:=.tuple #[Wd 0,.int .i64 s]) (by simp [results,Tryz.results73,go_sem,hi,lo]) rfl ⟨rfl,G0⟩
end Go.Proofs.YtcipdampcmfmaaaGreat

namespace Go.Proofs.YtcipdampcmfmaaaGreat
open Go.RowKit Go.Maps
def slf (v:Value):Option (DataW Value × List MemPlace):=some (.held v,[])
abbrev ky (x:Int):Lit:=.int .i64 x
def KWf (x:Int):Prop:=-9223372036854775808<=x/\x<=9223372036854775807
theorem KWf.wf {x:Int} (h:KWf x):(Lit.int .i64 x).wf=true:=by
 obtain ⟨h1,h2⟩:=h
 have e1:IntKind.i64.min=-9223372036854775808:=rfl
 have e2:IntKind.i64.max=9223372036854775807:=rfl
 simp [Lit.wf,e1,e2]
 omega
def MapA (P:Program) (kt:TypeId) (w:World) (b:Nat) (ks:List Int) (f:Int->Value):Prop :=
 ∃ D:DataW Value,w.ownsMap P kt slf b (Maps.size D) D/\ks.Nodup/\(∀ x ∈ ks,KWf x)/\Maps.size D=ks.length/\(∀ x,KWf x->Maps.has D (ky x)=decide (x ∈ ks))/\∀ x ∈ ks,∀ z,D.atKey (ky x) z=.held (f x)
variable {P:Program} {kt t e:TypeId} {w w':World} {b:Nat} {ks:List Int} {f:Int->Value}
theorem ky_is (x:Int):WideAt.IsKeyLit (ky x):=by
 simp [WideAt.IsKeyLit]
theorem own_tight {k:TypeId} {R:Value->Option (DataW Value × List MemPlace)} {n:Nat} {D:DataW Value} (h:w.ownsMap P k R b n D):w.ownsMap P k R b (Maps.size D) D:=by
 obtain ⟨es,clock,hb,F,_,rfl⟩:=h
 exact ⟨es,clock,hb,F,by simp [Maps.size,length_sorted],rfl⟩
theorem own_same {k:TypeId} {R:Value->Option (DataW Value × List MemPlace)} {n:Nat} {D:DataW Value} (h:w.ownsMap P k R b n D) (hb:w'.heap[b]? = w.heap[b]?):w'.ownsMap P k R b n D:=by
 obtain ⟨es,clock,h1,F,h2,h3⟩:=h
 exact ⟨es,clock,hb.trans h1,F,h2,h3⟩
theorem MapA.same (h:MapA P kt w b ks f) (hb:w'.heap[b]? = w.heap[b]?):MapA P kt w' b ks f:=by
 obtain ⟨D,ho,r⟩:=h
 exact ⟨D,own_same ho hb,r⟩
theorem MapA.lt (h:MapA P kt w b ks f):b < w.heap.size:=by
 obtain ⟨D,ho,_⟩:=h
 exact ho.lt
theorem MapA.isMap (h:MapA P kt w b ks f):∃ es clock,w.heap[b]? = some (.map es clock):=by
 obtain ⟨D,⟨es,clock,hb,_⟩,_⟩:=h
 exact ⟨es,clock,hb⟩
theorem MapA.new (w:World) (f:Int->Value):MapA P kt (w.alloc (.map #[] 0)) w.heap.size [] f :=
 ⟨.map [],World.ownsMap_made w P kt slf,List.nodup_nil,by simp,rfl,fun x _=>by simp [Maps.has],by simp⟩
theorem MapA.ext {g:Int->Value} (h:MapA P kt w b ks f) (hg:∀ x ∈ ks,g x=f x):MapA P kt w b ks g:=by
 obtain ⟨D,ho,hn,hw,hs,hh,ha⟩:=h
 exact ⟨D,ho,hn,hw,hs,hh,fun x hx z=>by rw [ha x hx z,hg x hx]⟩
theorem MapA.perm {ls:List Int} (h:MapA P kt w b ks f) (hp:ls.Perm ks):MapA P kt w b ls f:=by
 obtain ⟨D,ho,hn,hw,hs,hh,ha⟩:=h
 refine ⟨D,ho,hp.nodup_iff.2 hn,fun x hx=>hw x (hp.mem_iff.1 hx),by rw [hs,hp.length_eq],fun x hx=>?_,fun x hx z=>ha x (hp.mem_iff.1 hx) z⟩
 rw [hh x hx]
 exact decide_eq_decide.2 hp.mem_iff.symm
theorem MapA.len (h:MapA P kt w b ks f) (ht:P.underlying t=some (.map kt e)) (ty:TypeId):(Builtin.len_ #[t] ty #[.map (some b)]).run P w=.ok (.int .i64 (ks.length:Int)) w:=by
 obtain ⟨D,ho,hn,hw,hs,hh,ha⟩:=h
 rw [ho.len ht ty,hs]
theorem MapA.look_ok (h:MapA P kt w b ks f) (hk:P.underlying kt=some (.int .i64)) (ht:P.underlying t=some (.map kt e)) {z:Value} (hz:(zeroValue e).run P w=.ok z w) {x:Int} (hx:KWf x) :
  (Instr.lookup t (.map (some b)) (.int .i64 x) true).run P w=.ok (.tuple #[if x ∈ ks then f x else z,.bool (decide (x ∈ ks))]) w:=by
 obtain ⟨D,ho,hn,hw,hs,hh,ha⟩:=h
 obtain ⟨v,ps,hrun,hv⟩:=ho.look_ok (int_keyed hk) ht hz (zd:=.held z) (zp:=[]) rfl (keyOf_int_mk hk hx.wf)
 rw [hrun,hh x hx]
 simp only [slf,Option.some.injEq,Prod.mk.injEq] at hv
 by_cases hm:x ∈ ks
 ·rw [ha x hm] at hv
  injection hv.1 with e1
  rw [if_pos hm,e1]
 ·have h0:Maps.has D (ky x)=false:=by rw [hh x hx];simp [hm]
  rw [atKey_of_not_has h0] at hv
  injection hv.1 with e1
  rw [if_neg hm,e1]
theorem MapA.look (h:MapA P kt w b ks f) (hk:P.underlying kt=some (.int .i64)) (ht:P.underlying t=some (.map kt e)) {z:Value} (hz:(zeroValue e).run P w=.ok z w) {x:Int} (hx:KWf x) :
  (Instr.lookup t (.map (some b)) (.int .i64 x) false).run P w=.ok (if x ∈ ks then f x else z) w:=by
 obtain ⟨D,ho,hn,hw,hs,hh,ha⟩:=h
 obtain ⟨v,ps,hrun,hv⟩:=ho.lookup (int_keyed hk) ht hz (zd:=.held z) (zp:=[]) rfl (keyOf_int_mk hk hx.wf)
 rw [hrun]
 simp only [slf,Option.some.injEq,Prod.mk.injEq] at hv
 by_cases hm:x ∈ ks
 ·rw [ha x hm] at hv
  injection hv.1 with e1
  rw [if_pos hm,e1]
 ·have h0:Maps.has D (ky x)=false:=by rw [hh x hx];simp [hm]
  rw [atKey_of_not_has h0] at hv
  injection hv.1 with e1
  rw [if_neg hm,e1]
def putK (ks:List Int) (x:Int):List Int:=if x ∈ ks then ks else x :: ks
def putF (f:Int->Value) (x:Int) (v:Value):Int->Value:=fun y=>if y=x then v else f y
theorem ky_ne {x y:Int} (h:y ≠ x):ky y ≠ ky x:=by
 intro e
 injection e with _ e
 exact h e
theorem mem_putK {ks:List Int} {x y:Int}:y ∈ putK ks x ↔ y=x ∨ y ∈ ks:=by
 unfold putK
 split
 ·rename_i h
  constructor
  ·exact Or.inr
  ·rintro (rfl | h')
   ·exact h
   ·exact h'
 ·simp
theorem MapA.put (h:MapA P kt w b ks f) (hk:P.underlying kt=some (.int .i64)) (ht:P.underlying t=some (.map kt e)) (hn:ks.length < 1000000) {x:Int} (hx:KWf x) (v:Value) :
  ∃ w',(Instr.mapUpdate t (.map (some b)) (.int .i64 x) v).run P w=.ok () w'/\MapA P kt w' b (putK ks x) (putF f x v)/\w.mapTurned w' b:=by
 obtain ⟨D,ho,hnd,hw,hs,hh,ha⟩:=h
 have htidy:=ho.tidy (int_keyed hk)
 obtain ⟨w',hrun,ho',hm⟩:=ho.store (int_keyed hk) ht (by rw [hs];unfold maxLen;omega) (keyOf_int_mk hk hx.wf) (d:=.held v) (ps:=[]) rfl
 refine ⟨w',hrun,⟨D.put (ky x) (.held v),own_tight ho',?_,?_,?_,?_,?_⟩,hm⟩
 ·unfold putK;split
  ·exact hnd
  ·rename_i hx';exact List.nodup_cons.2 ⟨hx',hnd⟩
 ·intro y hy
  rcases mem_putK.1 hy with rfl | hy
  ·exact hx
  ·exact hw y hy
 ·rw [size_put htidy,hh x hx]
  unfold putK
  by_cases hm':x ∈ ks
  ·simp [hm',hs]
  ·simp [hm',hs]
 ·intro y hy
  by_cases hyx:y=x
  ·subst hyx
   rw [has_put_same htidy.isMap (ky_is y)]
   simp [mem_putK]
  ·rw [has_put_other (ky_ne hyx),hh y hy]
   exact decide_eq_decide.2 (by rw [mem_putK];simp [hyx])
 ·intro y hy z
  by_cases hyx:y=x
  ·subst hyx
   rw [atKey_put_same htidy.isMap (ky_is y)]
   simp [putF]
  ·rw [atKey_put_other (ky_ne hyx)]
   have hy':y ∈ ks:=by
    rcases mem_putK.1 hy with h1 | h1
    ·exact absurd h1 hyx
    ·exact h1
   rw [ha y hy' z]
   simp [putF,hyx]
theorem MapA.del (h:MapA P kt w b ks f) (hk:P.underlying kt=some (.int .i64)) (ht:P.underlying t=some (.map kt e)) {x:Int} (hx:KWf x) (ty:TypeId) :
  ∃ w',(Builtin.delete_ #[t,kt] ty #[.map (some b),.int .i64 x]).run P w=.ok (.tuple #[]) w'/\MapA P kt w' b (ks.erase x) f/\w.mapTurned w' b:=by
 obtain ⟨D,ho,hnd,hw,hs,hh,ha⟩:=h
 have htidy:=ho.tidy (int_keyed hk)
 obtain ⟨w',hrun,ho',hm⟩:=ho.drop (int_keyed hk) ht (keyOf_int_mk hk hx.wf) ty
 refine ⟨w',hrun,⟨D.del (ky x),own_tight ho',hnd.erase x,fun y hy=>hw y (List.mem_of_mem_erase hy),?_,?_,?_⟩,hm⟩
 ·have e1:=size_del (k:=ky x) htidy
  rw [hh x hx,hs] at e1
  rw [List.length_erase]
  by_cases hm':x ∈ ks
  ·have:0 < ks.length:=List.length_pos_of_mem hm'
   simp [hm'] at e1 ⊢
   omega
  ·simp [hm'] at e1 ⊢
   omega
 ·intro y hy
  by_cases hyx:y=x
  ·subst hyx
   rw [has_del_same]
   have:y ∉ ks.erase y:=fun h'=>(List.Nodup.not_mem_erase hnd) h'
   simp [this]
  ·rw [has_del_other (ky_ne hyx),hh y hy]
   exact decide_eq_decide.2 (by rw [List.mem_erase_of_ne hyx])
 ·intro y hy z
  have hyx:y ≠ x:=fun h'=>by subst h';exact (List.Nodup.not_mem_erase hnd) hy
  rw [atKey_del_other (ky_ne hyx),ha y (List.mem_of_mem_erase hy) z]
def RngA (P:Program) (kt:TypeId) (w:World) (b r:Nat) (ks lf:List Int) (f:Int->Value):Prop :=
 ∃ (D:DataW Value) (left:Lit->Bool) (cnt:Nat),w.ranges P kt slf b r (Maps.size D) D left cnt/\(ks.Nodup/\(∀ x ∈ ks,KWf x)/\Maps.size D=ks.length/\(∀ x,KWf x->Maps.has D (ky x)=decide (x ∈ ks))/\∀ x ∈ ks,∀ z,D.atKey (ky x) z=.held (f x)) /\
  lf.Nodup/\(∀ x ∈ lf,x ∈ ks)/\∀ x,KWf x->left (ky x)=decide (x ∈ lf)
theorem RngA.map {r:Nat} {lf:List Int} (h:RngA P kt w b r ks lf f):MapA P kt w b ks f:=by
 obtain ⟨D,left,cnt,hr,hD,_⟩:=h
 exact ⟨D,hr.owns,hD⟩
theorem RngA.same {r:Nat} {lf:List Int} (h:RngA P kt w b r ks lf f) (hb:w'.heap[b]? = w.heap[b]?) (hr':w'.heap[r]? = w.heap[r]?):RngA P kt w' b r ks lf f:=by
 obtain ⟨D,left,cnt,⟨es,clock,since,seen,c0,h1,F,h2,h3,h4,h5⟩,hD⟩:=h
 exact ⟨D,left,cnt,⟨es,clock,since,seen,c0,hb.trans h1,F,h2,h3,hr'.trans h4,h5⟩,hD⟩
theorem RngA.ne {r:Nat} {lf:List Int} (h:RngA P kt w b r ks lf f):r ≠ b:=by
 obtain ⟨D,left,cnt,hr,_⟩:=h
 exact hr.ne
theorem RngA.lt {r:Nat} {lf:List Int} (h:RngA P kt w b r ks lf f):r < w.heap.size:=by
 obtain ⟨D,left,cnt,hr,_⟩:=h
 exact hr.lt
theorem MapA.range (h:MapA P kt w b ks f) (hk:P.underlying kt=some (.int .i64)) (ht:P.underlying t=some (.map kt e)) :
  ∃ w',(Instr.range t (.map (some b))).run P w=.ok (.pointer (some ⟨w.heap.size,0,none⟩)) w'/\RngA P kt w' b w.heap.size ks ks f/\w.grownBy w' none/\w'.heap.size=w.heap.size + 1:=by
 obtain ⟨D,ho,hD⟩:=h
 obtain ⟨w',hrun,hr,hg,hs⟩:=ho.range (int_keyed hk) ht
 exact ⟨w',hrun,⟨D,_,_,hr,hD,hD.1,fun x hx=>hx,fun x hx=>hD.2.2.2.1 x hx⟩,hg,hs⟩
theorem same_ky {x y:Int}:(ky y).sameKey (ky x)=decide (y=x):=by
 by_cases h:y=x
 ·subst h
  rw [WideAt.sameKey_self (ky_is y)];simp
 ·rw [sameKey_ne (ky_ne h)];simp [h]
theorem RngA.next {r:Nat} {lf:List Int} (h:RngA P kt w b r ks lf f) (hk:P.underlying kt=some (.int .i64)) (ty:TypeId) :
  (lf=[]/\(Instr.next (.pointer (some ⟨r,0,none⟩)) false ty).run P w=.ok (.tuple #[.bool false]) w) ∨
  ∃ x w',x ∈ lf/\(Instr.next (.pointer (some ⟨r,0,none⟩)) false ty).run P w=.ok (.tuple #[.bool true,.int .i64 x,f x]) w'/\RngA P kt w' b r ks (lf.erase x) f/\w.grownBy w' (some r)/\w'.heap.size=w.heap.size /\
   (Instr.entry (.pointer (some ⟨r,0,none⟩))).run P w'=.ok (.tuple #[.int .i64 x,f x]) w':=by
 obtain ⟨D,left,cnt,hr,hD,hl1,hl2,hl3⟩:=h
 rcases hr.next (int_keyed hk) ty with ⟨_,h0,hrun⟩ | ⟨key,v,kl,y,w',cnt',hkey,hlk,hv,hat,hrun,hrg,_,hg,hs,hen⟩
 ·refine Or.inl ⟨?_,hrun⟩
  cases lf with
  | nil=>rfl
  | cons x r' =>
   have h1:=hl3 x (hD.2.1 x (hl2 x List.mem_cons_self))
   rw [h0] at h1
   simp at h1
 ·obtain ⟨x,rfl,rfl,hw⟩:=keyOf_int_inv hk hkey
  have hx:KWf x:=by
   have e1:IntKind.i64.min=-9223372036854775808:=rfl
   have e2:IntKind.i64.max=9223372036854775807:=rfl
   simp [Lit.wf,e1,e2] at hw
   exact ⟨hw.1,hw.2⟩
  have hm:x ∈ lf:=by
   have:=hl3 x hx
   rw [show left (ky x)=true from hlk] at this
   simpa using this.symm
  have hv':v=f x:=by
   have h1:=hat (.held v)
   rw [hD.2.2.2.2 x (hl2 x hm)] at h1
   simp only [slf,Option.some.injEq] at hv
   rw [<- hv] at h1
   injection h1 with h1
   exact h1.symm
  subst hv'
  refine Or.inr ⟨x,w',hm,hrun,⟨D,_,cnt',hrg,hD,hl1.erase x,fun z hz=>hl2 z (List.mem_of_mem_erase hz),fun z hz=>?_⟩,hg,hs,hen⟩
  show (left (ky z) && !(ky z).sameKey (ky x))=_
  rw [hl3 z hz,same_ky]
  by_cases hzx:z=x
  ·subst hzx
   have:z ∉ lf.erase z:=fun h'=>(List.Nodup.not_mem_erase hl1) h'
   simp [this]
  ·simp [hzx,List.mem_erase_of_ne hzx]
end Go.Proofs.YtcipdampcmfmaaaGreat
