import Derived.Test.YtgbgejflmbhigaaGreatKwSquare
namespace Go.Proofs.YtgbgejflmbhigaaGreat
open Go.RowKit
set_option maxRecDepth 100000
set_option maxHeartbeats 4000000
theorem Gr.gb {a b:World} (h:Gr a b):Gb a b:=h.below
def sumN (f:Nat->Nat):Nat->Nat
 | 0=>0
 | n + 1=>sumN f n + f n
theorem sumN_le (f:Nat->Nat) (c n:Nat) (h:∀ i,i < n->f i<=c):sumN f n<=n * c:=by
 induction n with
 | zero=>simp [sumN]
 | succ n ih =>
  have:=ih (fun i hi=>h i (by omega))
  have:=h n (by omega)
  simp only [sumN,Nat.add_mul];omega
theorem sq_small (g:Nat) (h:g<=4294967294):g * g<=18446744056529682436:=by
 have:=Nat.mul_le_mul h h;omega
theorem gap_le (l h x:Int) (hl:-2147483647<=l/\l<=2147483647) (hh:-2147483647<=h/\h<=2147483647) (hx:-2147483647<=x/\x<=2147483647):gap l h x<=4294967294:=by
 unfold gap;split
 ·omega
 ·split <;> omega
def dst (a b:List Int):Nat:=sumN (fun i=>gap a[i]! a[i]! b[i]! * gap a[i]! a[i]! b[i]!) a.length
def dstN (a b:List Int) (q:Nat):Nat:=sumN (fun i=>gap a[i]! a[i]! b[i]! * gap a[i]! a[i]! b[i]!) q
theorem dstN_le {a b:List Int} (ha:allR a=true) (hb:allR b=true) (hab:a.length=b.length) (q:Nat) (hq:q<=a.length):dstN a b q<=q * 18446744056529682436 :=
 sumN_le _ _ _ (fun i hi=>sq_small _ (gap_le _ _ _ (allR_get ha (by omega)) (allR_get ha (by omega)) (allR_get hb (by omega))))
structure At2 (w:World) (b s:Nat):Prop where
 c0:w.cell? ⟨b,0,none⟩=some (.int .u64 (hi s))
 c1:w.cell? ⟨b,1,none⟩=some (.int .u64 (lo s))
 f0:w.frozen? ⟨b,0,none⟩=false
 f1:w.frozen? ⟨b,1,none⟩=false
theorem At2.gr {w w':World} {b s:Nat} (h:At2 w b s) (g:Gr w w'):At2 w' b s:=⟨g.keeps h.c0,g.keeps h.c1,(g.froz _).trans h.f0,(g.froz _).trans h.f1⟩
theorem At2.new (w:World) (s:Nat) (t:TypeId):At2 (w.alloc (.cells #[.int .u64 (hi s),.int .u64 (lo s)] t)) w.heap.size s:=⟨by simp [go_sem],by simp [go_sem],by simp [go_sem],by simp [go_sem]⟩
theorem At2.set {w:World} {b s:Nat} (h:At2 w b s) (t:Nat):At2 ((w.setCell ⟨b,0,none⟩ (.int .u64 (hi t))).setCell ⟨b,1,none⟩ (.int .u64 (lo t))) b t:=by
 obtain ⟨c0,c1,f0,f1⟩:=h
 exact ⟨by simp [go_sem,c0],by simp [go_sem,c1],by simp [go_sem,f0],by simp [go_sem,f1]⟩
theorem side_at (l h:Int) (w:World):Calls Tryz.prog 136 #[.int .i64 l,.int .i64 h] w fun e w'=>∃ b c:Nat,
  e=.returned (.func (.func 172) #[] #[.pointer (some ⟨b,0,none⟩),.pointer (some ⟨c,0,none⟩)])/\w'.cell? ⟨b,0,none⟩=some (.int .i64 l)/\w'.cell? ⟨c,0,none⟩=some (.int .i64 h)/\Gr w w':=by
 refine (side_c l h w).mono ?_
 rintro e w' ⟨rfl,rfl⟩
 exact ⟨_,_,rfl,by simp [go_sem],by simp [go_sem],((Gr.refl _).alloc _ _).alloc _ _⟩
theorem distance_c {w:World} {u v:Value} {a b:List Int} (hu:RdI w u a) (hv:RdI w v b) (hab:a.length=b.length) (hn:a.length<=64) (ha:allR a=true) (hb:allR b=true) :
  Calls Tryz.prog 138 #[u,v] w fun e w'=>e=.returned (Wd (dst a b))/\Gr w w':=by
 obtain ⟨pa,ca,rfl,hu⟩:=hu
 obtain ⟨pb,cb,rfl,hv⟩:=hv
 have A:Hid (∀ i,i < a.length->∃ b o,pa=some ⟨b,o,none⟩/\w.cell? ⟨b,o + i,none⟩=some (.int .i64 a[i]!)):=hu
 have B:Hid (∀ i,i < b.length->∃ b' o,pb=some ⟨b',o,none⟩/\w.cell? ⟨b',o + i,none⟩=some (.int .i64 b[i]!)):=hv
 have H:Hid (a.length=b.length/\allR a=true/\allR b=true):=⟨hab,ha,hb⟩
 rw [<- hab]
 obtain ⟨n,hN⟩:∃ n,n=a.length:=⟨_,rfl⟩
 have N:Hid (n=a.length):=hN
 rw [<- hN] at hn ⊢
 clear hu hv hab ha hb hN
 have S0:At2 ((w.alloc (.cells #[.int .u64 0,.int .u64 0] 58)).alloc (.cells #[.int .u64 0,.int .u64 0] 58)) (w.heap.size + 1) 0:=by
  have:=At2.new (w.alloc (.cells #[.int .u64 0,.int .u64 0] 58)) 0 58
  rw [World.size_alloc] at this
  exact this
 have G0:Gr (w.alloc (.cells #[.int .u64 0,.int .u64 0] 58)) ((w.alloc (.cells #[.int .u64 0,.int .u64 0] 58)).alloc (.cells #[.int .u64 0,.int .u64 0] 58)):=(Gr.refl _).alloc _ _
 go_enter Tryz.func138,Tryz.ntmps138
 go_wp2
 go_loopw [10] (fun iv w'=>∃ q s:Nat,iv=.int .i64 (q:Int)/\q<=n/\Hid (s=dstN a b q)/\Gr (w.alloc (.cells #[.int .u64 0,.int .u64 0] 58)) w'/\At2 w' (w.heap.size + 1) s) (fun iv _=>n - (intOf iv).toNat)
 case atStart=>exact ⟨0,0,rfl,Nat.zero_le _,rfl,G0,S0⟩
 case round =>
  clear S0 G0
  obtain ⟨q,s,rfl,hq,X,hG,hS⟩:=hrel
  by_cases hqn:q < n
  ·have hqi:(q:Int) < (n:Int):=by omega
   have hqa:q < a.length:=by have:=N.out;omega
   have hqb:q < b.length:=by have:=H.out.1;omega
   obtain ⟨b1,o1,ea,h1⟩:=A.out q hqa
   obtain ⟨b2,o2,eb,h2⟩:=B.out q hqb
   subst ea;subst eb
   have G1:Gr w wr:=((Gr.refl _).alloc _ _).trans hG
   have x0:=G1.keeps h1
   have y0:=G1.keeps h2
   have hx:=allR_get H.out.2.1 hqa
   have hy:=allR_get H.out.2.2 hqb
   have hs0:s<=q * 18446744056529682436:=by rw [X.out];exact dstN_le H.out.2.1 H.out.2.2 H.out.1 q (by omega)
   have Y:Hid (dstN a b (q + 1)=dstN a b q + gap a[q]! a[q]! b[q]! * gap a[q]! a[q]! b[q]!):=rfl
   generalize a[q]! = x at *
   generalize b[q]! = y at *
   have hg:gap x x y < 18446744073709551616:=by have:=gap_le x x y hx hx hy;omega
   have hgs:s + gap x x y * gap x x y < 340282366920938463463374607431768211456:=by have:=sq_small _ (gap_le x x y hx hx hy);omega
   have Z:Hid (s + gap x x y * gap x x y=dstN a b (q + 1)):=by unfold Hid;rw [Y.out,X.out]
   have c57:=fun W=>withSquare_c s (gap x x y) hg hgs W
   have c70:=fun b c W c0 c1=>side1_c x x y hx hx hy b c W c0 c1
   have hS0:=hS
   obtain ⟨s0,s1,s2,s3⟩:=hS
   clear h1 h2 hx hy hs0 Y X hg hgs hqa hqb G1
   generalize s + gap x x y * gap x x y=t at *
   generalize gap x x y=g at *
   go_wp2
   go_region_with (first
     | (go_at_call 136;refine (side_at _ _ _).mono ?_;rintro e w1 ⟨bb,cc,rfl,k0,k1,g1⟩;have s0:=g1.keeps s0;have s1:=g1.keeps s1;have y0:=g1.keeps y0;have s2:=(g1.froz _).trans s2;have s3:=(g1.froz _).trans s3)
     | (go_at_call 172;refine (c70 _ _ _ k0 k1).mono ?_;rintro e w2 ⟨rfl,e2⟩;subst e2)
     | (go_at_call 135;refine (c57 _).mono ?_;rintro e w3 ⟨rfl,g3⟩;have s0:=g3.keeps s0;have s1:=g3.keeps s1;have s2:=(g3.froz _).trans s2;have s3:=(g3.froz _).trans s3))
   all_goals
    have hG3:=(hG.drew.trans g1).trans g3
    have hS3:At2 w3 (w.heap.size + 1) s:=⟨s0,s1,s2,s3⟩
    clear c57 c70 hS0 x0 y0 s0 s1 s2 s3 k0 k1 g1 g3 hG
    go_wp2
    refine ⟨⟨q + 1,t,by go_num,hqn,Z,(hG3.setCell (by simp) _).setCell (by simp) _,hS3.set t⟩,by simp [intOf];omega⟩
  ·have hqi:¬ (q:Int) < (n:Int):=by omega
   have E:Hid (s=dst a b):=by
    have h1:=X.out
    have h2:q=a.length:=by have:=N.out;omega
    rw [h2] at h1;exact h1
   obtain ⟨s0,s1,s2,s3⟩:=hS
   obtain ⟨v0,v1,v2,v3⟩:=hG.var2
   go_wp2
   exact bodyPost_ret (v:=Wd s) (by simp [results,Tryz.results138,go_sem,v0,v1]) rfl ⟨by rw [E.out],by repeat (first | exact ((Gr.refl _).alloc _ _).trans hG | refine Gr.setCell ?_ (by simp) _)⟩
theorem dst_lt {a b:List Int} (ha:allR a=true) (hb:allR b=true) (hab:a.length=b.length) (hn:a.length<=64):dst a b < 340282366920938463463374607431768211456:=by
 have:=dstN_le ha hb hab a.length (Nat.le_refl _)
 have h2:dst a b=dstN a b a.length:=rfl
 omega
theorem vErr_ok {l:List Int} (h:vErr l=0):allR l=true:=by
 unfold vErr at h;split at h
 ·assumption
 ·cases h
theorem chk_ok {l:List Int} {d:Int} (h:chk l d=0):1<=l.length/\l.length<=64/\d=(l.length:Int)/\allR l=true:=by
 unfold chk at h;split at h
 ·exact ⟨by omega,by omega,by omega,vErr_ok h⟩
 ·cases h
def distE (a b:List Int):Int:=if chk a a.length=0 then chk b a.length else chk a a.length
def distV (a b:List Int):Nat:=if distE a b=0 then dst a b else 0
theorem distE_ok {a b:List Int} (h:distE a b=0):chk a a.length=0/\chk b a.length=0/\a.length=b.length/\1<=a.length/\a.length<=64/\allR a=true/\allR b=true:=by
 unfold distE at h;split at h
 ·rename_i h1
  have h2:=chk_ok h1
  have h3:=chk_ok h
  exact ⟨h1,h,by omega,by omega,by omega,h2.2.2.2,h3.2.2.2⟩
 ·rename_i h1;exact absurd h h1
theorem dist_c {w:World} {u v:Value} {a b:List Int} (hu:RdI w u a) (hv:RdI w v b) :
  Calls Tryz.prog 107 #[u,v] w fun e w'=>e=.returned (.tuple #[Wd (distV a b),.int .i64 (distE a b)])/\Gr w w':=by
 have U:Hid (RdI w u a):=hu
 have V:Hid (RdI w v b):=hv
 have G0:Gr w (w.alloc (.cells #[.int .u64 0,.int .u64 0] 58)):=(Gr.refl _).alloc _ _
 have cA:=fun r h=>check_v (hu.gb G0.gb) (a.length:Int) r h
 have cB:=fun r h=>check_v (hv.gb G0.gb) (a.length:Int) r h
 obtain ⟨pa,ca,rfl,_⟩:=hu
 obtain ⟨pb,cb,rfl,_⟩:=hv
 by_cases h1:chk a a.length=0
 ·have c1:=cA _ h1
  by_cases h2:chk b a.length=0
  ·have c2:=cB _ h2
   have E:distE a b=0:=by unfold distE;rw [if_pos h1,h2]
   have E2:distV a b=dst a b:=by unfold distV;rw [if_pos E]
   obtain ⟨_,_,h3,h4,h5,h6,h7⟩:=distE_ok E
   have c3:=distance_c (U.out.gb G0.gb) (V.out.gb G0.gb) h3 h5 h6 h7
   rw [E,E2]
   clear cA cB h1 h2 h3 h4 h5 h6 h7 E E2 U V
   generalize dst a b=s at *
   generalize b.length=m at *
   generalize a.length=n at *
   go_enter Tryz.func107,Tryz.ntmps107
   go_wp2_with fail
   refine c1.mono ?_
   rintro e w' ⟨rfl,e2⟩
   subst e2
   go_wp2_with fail
   refine c2.mono ?_
   rintro e w' ⟨rfl,e2⟩
   subst e2
   go_wp2_with fail
   refine c3.mono ?_
   rintro e w' ⟨rfl,g⟩
   obtain ⟨v0,v1,v2,v3⟩:=g.var2
   go_wp2
   exact bodyPost_ret (v:=.tuple #[Wd s,.int .i64 0]) (by simp [results,Tryz.results107,go_sem,v0,v1]) rfl ⟨rfl,((G0.trans g).setCell (by simp) _).setCell (by simp) _⟩
  ·have c2:=cB _ rfl
   have E:distE a b=chk b a.length:=by unfold distE;rw [if_pos h1]
   have E2:distV a b=0:=by unfold distV;rw [E,if_neg h2]
   have h3:(chk b a.length == 0)=false:=by rw [beq_eq_false_iff_ne];exact h2
   rw [E,E2]
   clear cA cB h1 h2 E E2 U V
   generalize chk b a.length=s at *
   generalize b.length=m at *
   generalize a.length=n at *
   go_enter Tryz.func107,Tryz.ntmps107
   go_wp2_with fail
   refine c1.mono ?_
   rintro e w' ⟨rfl,e2⟩
   subst e2
   go_wp2_with fail
   refine c2.mono ?_
   rintro e w' ⟨rfl,e2⟩
   subst e2
   go_wp2
   exact bodyPost_ret (v:=.tuple #[Wd 0,.int .i64 s]) (by simp [results,Tryz.results107,go_sem,hi,lo]) rfl ⟨rfl,G0⟩
 ·have c1:=cA _ rfl
  have E:distE a b=chk a a.length:=by unfold distE;rw [if_neg h1]
  have E2:distV a b=0:=by unfold distV;rw [E,if_neg h1]
  have h3:(chk a a.length == 0)=false:=by rw [beq_eq_false_iff_ne];exact h1
  rw [E,E2]
  clear cA cB h1 E E2 U V
  generalize chk a a.length=s at *
  generalize b.length=m at *
  generalize a.length=n at *
  go_enter Tryz.func107,Tryz.ntmps107
  go_wp2_with fail
  refine c1.mono ?_
  rintro e w' ⟨rfl,e2⟩
  subst e2
  go_wp2
  exact bodyPost_ret (v:=.tuple #[Wd 0,.int .i64 s]) (by simp [results,Tryz.results107,go_sem,hi,lo]) rfl ⟨rfl,G0⟩
end Go.Proofs.YtgbgejflmbhigaaGreat
