import Derived.Test.YtcipdampcmfmaaaGreatIa18
import Derived.Test.YtcipdampcmfmaaaGreatIaSmL
import Derived.Test.YtcipdampcmfmaaaGreatIa6
import Derived.Test.YtcipdampcmfmaaaGreatIa15
namespace Go.Proofs.YtcipdampcmfmaaaGreat
open Go.RowKit
set_option maxRecDepth 100000
set_option maxHeartbeats 4000000
theorem RdV.gr {w w':World} {v:Value} {vs:Vs} (h:RdV w v vs) (g:Gr w w'):RdV w' v vs:=h.gb g.gb
theorem RdI.gr {w w':World} {v:Value} {l:List Int} (h:RdI w v l) (g:Gr w w'):RdI w' v l:=h.gb g.gb
theorem cen_at {w:World} {a:Option Addr} {n cap:Nat} {cs:Vs} (h:RdV w (.slice a n cap) cs) {i:Nat} (hi:i < cs.length):∃ b o u,a=some ⟨b,o,none⟩/\w.cell? ⟨b,o + i,none⟩=some u/\RdI w u cs[i]! := by
 obtain ⟨_,_,e,h⟩:=h
 cases e
 exact h i hi
theorem dist_near {w:World} {u v:Value} {cs:Vs} {x:List Int} {d:Int} {i:Nat} (hi:i < cs.length) (hu:RdI w u cs[i]!) (hv:RdI w v x) (hc:VsOk cs d) (hx:chk x d=0) :
  Calls Tryz.prog 73 #[u,v] w fun e w'=>e=.returned (.tuple #[Wd (dst cs[i]! x),.int .i64 0])/\Gr w w':=by
 have c:=dist_c hu hv
 obtain ⟨e1,e2⟩:=near_dist hc hx hi
 rw [e1,e2] at c
 exact c
theorem k_nearest_c {w:World} {u v:Value} {cs:Vs} {x:List Int} {d:Int} (hu:RdV w u cs) (hv:RdI w v x) (hc:VsOk cs d) (hx:chk x d=0) (h0:1<=cs.length) (h64:cs.length<=64) :
  Calls Tryz.prog 178 #[u,v] w fun e w'=>e=.returned (.tuple #[.int .i64 ((nearP cs x).1:Int),Wd (nearP cs x).2])/\Gr w w':=by
 have U:Hid (RdV w u cs):=hu
 have V:Hid (RdI w v x):=hv
 have K:Hid (VsOk cs d/\chk x d=0):=⟨hc,hx⟩
 obtain ⟨a,cap,rfl,ha⟩:=hu
 obtain ⟨px,cx,rfl,_⟩:=hv
 obtain ⟨n,hN⟩:∃ n,n=cs.length:=⟨_,rfl⟩
 have N:Hid (n=cs.length):=hN
 rw [<- hN] at h0 h64 U ⊢
 obtain ⟨b,o,u0,ea,k1,k2⟩:=ha 0 (by omega)
 subst ea
 rw [Nat.add_zero] at k1
 have G0:Gr w (w.alloc (.cells #[.int .u64 0,.int .u64 0] 79)):=(Gr.refl _).alloc _ _
 replace k1:=G0.keeps k1
 have c0:=dist_near (i:=0) (by omega) (k2.gr G0) (V.out.gr G0) hc hx
 clear ha hN hc hx
 generalize x.length=nx at *
 have D0:Hid (dst cs[0]! x=(nearTo cs x 0).2):=rfl
 generalize dst cs[0]! x=s0 at *
 obtain ⟨pu,cu,rfl,_⟩:=k2
 generalize cs[0]!.length=m0 at *
 go_enter Tryz.func178,Tryz.ntmps178
 go_wp2_with fail
 refine c0.mono ?_
 rintro e w1 ⟨rfl,g1⟩
 have hB:(w.alloc (.cells #[.int .u64 0,.int .u64 0] 79)).heap.size<=w1.heap.size:=g1.size
 have S0:At2 (w1.alloc (.cells #[.int .u64 (hi s0),.int .u64 (lo s0)] 79)) w1.heap.size s0:=At2.new w1 s0 _
 have G1:Gr (w.alloc (.cells #[.int .u64 0,.int .u64 0] 79)) (w1.alloc (.cells #[.int .u64 (hi s0),.int .u64 (lo s0)] 79)):=g1.alloc _ _
 clear c0 k1
 go_wp2
 go_loopw [6,9] (fun pv iv w'=>∃ q:Nat,iv=.int .i64 ((q:Int) + 1)/\q + 1<=n/\pv=.int .i64 ((nearTo cs x q).1:Int)/\Gr (w.alloc (.cells #[.int .u64 0,.int .u64 0] 79)) w'/\At2 w' w1.heap.size (nearTo cs x q).2) (fun _ iv _=>n - (intOf iv).toNat)
 case atStart=>exact ⟨0,rfl,h0,rfl,G1,by rw [<- D0.out];exact S0⟩
 case round =>
  clear S0 G1 g1
  obtain ⟨q,rfl,hq,rfl,hG,hS⟩:=hrel
  by_cases hqn:q + 1 < n
  ·have hqi:(q:Int) + 1 < (n:Int):=by omega
   have hql:q + 1 < cs.length:=by have:=N.out;omega
   obtain ⟨b1,o1,u1,ea,k1,k2⟩:=cen_at U.out hql
   cases ea
   have G2:Gr w wr:=((Gr.refl _).alloc _ _).trans hG
   have x0:=G2.keeps k1
   have c:=dist_near hql (k2.gr G2) (V.out.gr G2) K.out.1 K.out.2
   have NX:Hid (nearTo cs x (q + 1)=if dst cs[q + 1]! x < (nearTo cs x q).2 then (q + 1,dst cs[q + 1]! x) else nearTo cs x q):=rfl
   obtain ⟨pu1,cu1,rfl,_⟩:=k2
   generalize cs[q + 1]!.length=m1 at *
   obtain ⟨p,hp⟩:∃ p,p=nearTo cs x q:=⟨_,rfl⟩
   rw [<- hp] at hS NX ⊢
   clear hp k1
   obtain ⟨pp,pd⟩:=p
   dsimp only at hS NX ⊢
   generalize dst cs[q + 1]! x=s at *
   have cc:=fun W=>cmp_any s pd W
   by_cases hlt:s < pd
   ·have e:cmp3 s pd=-1:=by unfold cmp3;rw [if_pos hlt]
    rw [if_pos hlt] at NX
    simp only [e] at cc
    clear e hlt
    go_wp2_with fail
    refine c.mono ?_
    rintro e w2 ⟨rfl,g2⟩
    have g3:Gr w2 (w2.alloc (.cells #[.int .u64 (hi s),.int .u64 (lo s)] 79)):=(Gr.refl _).alloc _ _
    have hS3:=(hS.gr g2).gr g3
    have hG3:=(hG.trans g2).trans g3
    have T3:At2 (w2.alloc (.cells #[.int .u64 (hi s),.int .u64 (lo s)] 79)) w2.heap.size s:=At2.new w2 s _
    have hne:w1.heap.size ≠ w2.heap.size:=by have:=cell_lt (hS.gr g2).c0;dsimp only at this;omega
    have hS4:=hS3
    obtain ⟨s0,s1,s2,s3⟩:=hS4
    clear hS hG g2 c x0 g3
    go_wp2_with fail
    refine (cc _).mono ?_
    rintro e w3 ⟨rfl,g4⟩
    have hS5:=hS3.gr g4
    have hT5:=T3.gr g4
    have hG5:=hG3.trans g4
    have hS6:=hS5
    have hT6:=hT5
    obtain ⟨q0,q1,q2,q3⟩:=hS6
    obtain ⟨r0,r1,r2,r3⟩:=hT6
    clear s0 s1 s2 s3 T3 hS3 hG3 g4 cc hT5
    go_wp2
    go_region
    all_goals
     have hG7:=((hG5.drew).setCell (p:=⟨w1.heap.size,0,none⟩) hB (.int .u64 (hi s))).setCell (p:=⟨w1.heap.size,1,none⟩) hB (.int .u64 (lo s))
     have hS7:=At2.set (w:=w3.drew) ⟨hS5.c0,hS5.c1,hS5.f0,hS5.f1⟩ s
     clear q0 q1 q2 q3 r0 r1 r2 r3 hS5 hG5
     go_wp2
     refine ⟨⟨q + 1,by go_num,hqn,by rw [NX.out];go_num,hG7,by rw [NX.out];exact hS7⟩,by simp [intOf];omega⟩
   ·have e:cmp3 s pd=0 ∨ cmp3 s pd=1:=by unfold cmp3;rw [if_neg hlt];split;exact .inl rfl;exact .inr rfl
    have he:¬ cmp3 s pd < 0:=by omega
    rw [if_neg hlt] at NX
    generalize cmp3 s pd=cz at *
    clear e hlt
    go_wp2_with fail
    refine c.mono ?_
    rintro e w2 ⟨rfl,g2⟩
    have g3:Gr w2 (w2.alloc (.cells #[.int .u64 (hi s),.int .u64 (lo s)] 79)):=(Gr.refl _).alloc _ _
    have hS3:=(hS.gr g2).gr g3
    have hG3:=(hG.trans g2).trans g3
    have hS4:=hS3
    obtain ⟨s0,s1,s2,s3⟩:=hS4
    clear hS hG g2 c x0 g3
    go_wp2_with fail
    refine (cc _).mono ?_
    rintro e w3 ⟨rfl,g4⟩
    have hS5:=hS3.gr g4
    have hG5:=hG3.trans g4
    clear s0 s1 s2 s3 hS3 hG3 g4 cc
    go_wp2
    go_roundw
    case rel=>exact ⟨q + 1,by go_num,hqn,by rw [NX.out],hG5,by rw [NX.out];exact hS5⟩
    case measure=>simp [intOf];omega
  ·have hqi:¬ (q:Int) + 1 < (n:Int):=by omega
   have E:Hid (nearP cs x=nearTo cs x q):=by
    unfold Hid nearP;rw [<- N.out,show n - 1=q by omega]
   obtain ⟨p,hp⟩:∃ p,p=nearTo cs x q:=⟨_,rfl⟩
   rw [<- hp] at hS E ⊢
   clear hp
   obtain ⟨pp,pd⟩:=p
   dsimp only at hS ⊢
   obtain ⟨s0,s1,s2,s3⟩:=hS
   obtain ⟨v0,v1,v2,v3⟩:=hG.var2
   go_wp2
   go_region
   all_goals
    go_wp2
    exact bodyPost_ret (v:=.tuple #[.int .i64 (pp:Int),Wd pd]) (by simp [results,Tryz.results178,go_sem,v0,v1]) rfl ⟨by rw [E.out],((((Gr.refl _).alloc _ _).trans hG.drew).setCell (by simp) _).setCell (by simp) _⟩
def nearE (cs:Vs) (x:List Int):Int:=if cenE cs=0 then chk x (cs[0]!.length:Int) else cenE cs
theorem near_c {w:World} {u v:Value} {cs:Vs} {x:List Int} (hu:RdV w u cs) (hv:RdI w v x) :
  Calls Tryz.prog 130 #[u,v] w fun e w'=>e=.returned (.tuple #[.int .i64 (if nearE cs x=0 then ((nearP cs x).1:Int) else 0),Wd (if nearE cs x=0 then (nearP cs x).2 else 0),.int .i64 (nearE cs x)])/\Gr w w':=by
 have G0:Gr w (w.alloc (.cells #[.int .u64 0,.int .u64 0] 79)):=(Gr.refl _).alloc _ _
 have cc:=checkCentres_c (hu.gr G0)
 have U:Hid (RdV w u cs):=hu
 have V:Hid (RdI w v x):=hv
 obtain ⟨a,cap,rfl,ha⟩:=hu
 obtain ⟨px,cx,rfl,_⟩:=hv
 by_cases h1:cenE cs=0
 ·have E:nearE cs x=chk x (cs[0]!.length:Int):=by unfold nearE;rw [if_pos h1]
  obtain ⟨⟨h2,h3⟩,h4⟩:=cenE_zero.1 h1
  rw [h1] at cc
  have cx':=check_c (V.out.gr G0) (cs[0]!.length:Int)
  obtain ⟨b,o,u0,ea,k1,k2⟩:=ha 0 (by omega)
  subst ea
  rw [Nat.add_zero] at k1
  replace k1:=G0.keeps k1
  obtain ⟨pu,cu,rfl,_⟩:=k2
  rw [E]
  by_cases h5:chk x (cs[0]!.length:Int)=0
  ·have cn:=k_nearest_c (U.out.gr G0) (V.out.gr G0) h4 h5 h2 h3
   rw [if_pos h5,if_pos h5]
   rw [h5] at cx' ⊢
   clear ha U V E h5 h4 h1
   generalize nearP cs x=p at *
   obtain ⟨pp,pd⟩:=p
   dsimp only at cn ⊢
   generalize cs.length=n at *
   generalize cs[0]!.length=m at *
   generalize x.length=nx at *
   go_enter Tryz.func130,Tryz.ntmps130
   go_wp2_with fail
   refine cc.mono ?_
   rintro e w' ⟨rfl,e2⟩
   subst e2
   go_wp2_with fail
   refine cx'.mono ?_
   rintro e w' ⟨rfl,e2⟩
   subst e2
   go_wp2_with fail
   refine cn.mono ?_
   rintro e w2 ⟨rfl,g2⟩
   have T2:At2 (w2.alloc (.cells #[.int .u64 (hi pd),.int .u64 (lo pd)] 79)) w2.heap.size pd:=At2.new w2 pd _
   have g3:=g2.alloc #[.int .u64 (hi pd),.int .u64 (lo pd)] 79
   obtain ⟨s0,s1,s2,s3⟩:=T2
   obtain ⟨v0,v1,v2,v3⟩:=g3.var2
   clear cc cx' cn k1
   go_wp2
   go_region
   all_goals
    go_wp2
    exact bodyPost_ret (v:=.tuple #[.int .i64 (pp:Int),Wd pd,.int .i64 0]) (by simp [results,Tryz.results130,go_sem,v0,v1]) rfl ⟨rfl,((G0.trans g3.drew).setCell (by simp) _).setCell (by simp) _⟩
  ·have h6:(chk x (cs[0]!.length:Int) == 0)=false:=by rw [beq_eq_false_iff_ne];exact h5
   rw [if_neg h5,if_neg h5]
   clear ha U V E h4 h1
   generalize chk x (cs[0]!.length:Int)=z at *
   generalize cs.length=n at *
   generalize cs[0]!.length=m at *
   generalize x.length=nx at *
   go_enter Tryz.func130,Tryz.ntmps130
   go_wp2_with fail
   refine cc.mono ?_
   rintro e w' ⟨rfl,e2⟩
   subst e2
   go_wp2_with fail
   refine cx'.mono ?_
   rintro e w' ⟨rfl,e2⟩
   subst e2
   go_wp2
   exact bodyPost_ret (v:=.tuple #[.int .i64 0,Wd 0,.int .i64 z]) (by simp [results,Tryz.results130,go_sem,hi,lo]) rfl ⟨by rfl,by repeat (first | exact G0 | refine Gr.setCell ?_ (by simp) _)⟩
 ·have E:nearE cs x=cenE cs:=by unfold nearE;rw [if_neg h1]
  have h6:(cenE cs == 0)=false:=by rw [beq_eq_false_iff_ne];exact h1
  rw [E,if_neg h1,if_neg h1]
  clear ha U V E
  generalize cenE cs=z at *
  generalize cs.length=n at *
  generalize x.length=nx at *
  go_enter Tryz.func130,Tryz.ntmps130
  go_wp2_with fail
  refine cc.mono ?_
  rintro e w' ⟨rfl,e2⟩
  subst e2
  go_wp2
  exact bodyPost_ret (v:=.tuple #[.int .i64 0,Wd 0,.int .i64 z]) (by simp [results,Tryz.results130,go_sem,hi,lo]) rfl ⟨by rfl,by repeat (first | exact G0 | refine Gr.setCell ?_ (by simp) _)⟩
end Go.Proofs.YtcipdampcmfmaaaGreat

namespace Go.Proofs.YtcipdampcmfmaaaGreat
open Go.RowKit Go.Sort
theorem symI {g o cap bf:Nat} {c lt:Int->Int->Prop} (ht:∀ x y z,lt x y->lt y z->lt x z):∀ (N a m b:Nat) (l:List Int) (w:World),b - a<=N->a < m->m < b->b<=l.length->l.length<=4000->IA w g o l->PreM c lt l a m b->CmpI w g bf l c ->
  Calls Tryz.prog 154 #[.slice (some ⟨g,o,none⟩) l.length cap,.int .i64 (a:Int),.int .i64 (m:Int),.int .i64 (b:Int),.func (.func 75) #[] #[.pointer (some ⟨bf,0,none⟩)]] w fun e w'=>e=.returned (.tuple #[])/\∃ l',Seg l l' a b/\Ri lt l' a b/\IA w' g o l'/\Tk.Kp (fun k=>k=g) w w'
 | 0,a,m,b,l,w,h0,h1,h2,_,_,_,_,_=>by omega
 | N + 1,a,m,b,l,w,h0,h1,h2,hb,hl,hI,hP,hC=>by
  by_cases e1:m=a + 1
  ·exact symI_one ht hI hl hb hP hC e1 h2
  ·by_cases e2:b=m + 1
   ·exact symI_last ht hI hl hb hP hC e2 (by omega)
   ·have RE:Hid (∀ (a' m' b':Nat) (l':List Int) (W:World),b' - a' < b - a->a' < m'->m' < b'->b'<=l.length->l'.length=l.length->IA W g o l'->PreM c lt l' a' m' b'->CmpI W g bf l' c->Calls Tryz.prog 154 #[.slice (some ⟨g,o,none⟩) l.length cap,.int .i64 (a':Int),.int .i64 (m':Int),.int .i64 (b':Int),.func (.func 75) #[] #[.pointer (some ⟨bf,0,none⟩)]] W fun e w'=>e=.returned (.tuple #[])/\∃ l2,Seg l' l2 a' b'/\Ri lt l2 a' b'/\IA w' g o l2/\Tk.Kp (fun k=>k=g) W w'):=by
     intro a' m' b' l' W q1 q2 q3 q4 q5 q6 q7 q8
     have:=symI (cap:=cap) ht N a' m' b' l' W (by omega) q2 q3 (by omega) (by omega) q6 q7 q8
     rw [q5] at this
     exact this
    by_cases e3:(a + b) / 2 < m
    ·exact symI_cutA ht hI hl hb hP hC (by omega) (by omega) rfl e3 RE
    ·exact symI_cutB ht hI hl hb hP hC (by omega) (by omega) rfl e3 RE
def Tag (c lt:Int->Int->Prop) (l:List Int) (a b:Nat):Prop:=∀ i j,a<=i->i < j->j < b->(c l[j]! l[i]! ↔ lt l[j]! l[i]!)/\(lt l[i]! l[j]! ∨ lt l[j]! l[i]!)
structure Ins (c lt:Int->Int->Prop) (l l1:List Int) (a i j:Nat):Prop where
 seg:Seg l l1 a (i + 1)
 lo:Ri lt l1 a j
 hi:Ri lt l1 j (i + 1)
 crs:∀ x y,a<=x->x < j->j < y->y < i + 1->lt l1[x]! l1[y]!
 tag:∀ x,a<=x->x < j->(c l1[j]! l1[x]! ↔ lt l1[j]! l1[x]!)/\(lt l1[x]! l1[j]! ∨ lt l1[j]! l1[x]!)
theorem Ins.down {c lt:Int->Int->Prop} {l l1:List Int} {a i j:Nat} (h:Ins c lt l l1 a i j) (haj:a < j) (hji:j<=i) (hil:i < l.length) (hlt:lt l1[j]! l1[j - 1]!):Ins c lt l (sws l1 j (j - 1)) a i (j - 1):=by
 have hl:=h.seg.len
 have g:=fun k=>sws_get l1 j (j - 1) k (by omega) (by omega)
 refine ⟨h.seg.sws ⟨by omega,by omega⟩ ⟨by omega,by omega⟩ (by omega),fun x y h1 h2 h3=>?_,fun x y h1 h2 h3=>?_,fun x y h1 h2 h3 h4=>?_,fun x h1 h2=>?_⟩
 ·rw [g,g,if_neg (by omega),if_neg (by omega),if_neg (by omega),if_neg (by omega)]
  exact h.lo x y h1 h2 (by omega)
 ·rw [g,g]
  by_cases hx:x=j - 1
  ·rw [if_pos hx,if_neg (by omega)]
   by_cases hy:y=j
   ·rw [if_pos hy];exact hlt
   ·rw [if_neg hy];exact h.hi j y (Nat.le_refl _) (by omega) h3
  ·rw [if_neg hx,if_neg (show ¬ y=j - 1 by omega),if_neg (show ¬ y=j by omega)]
   by_cases hxj:x=j
   ·rw [if_pos hxj];exact h.crs (j - 1) y (by omega) (by omega) (by omega) h3
   ·rw [if_neg hxj];exact h.hi x y (by omega) h2 h3
 ·rw [g,g,if_neg (by omega),if_neg (by omega),if_neg (by omega)]
  by_cases hyj:y=j
  ·rw [if_pos hyj];exact h.lo x (j - 1) h1 h2 (by omega)
  ·rw [if_neg hyj];exact h.crs x y h1 (by omega) (by omega) h4
 ·rw [g,g,if_pos rfl,if_neg (by omega),if_neg (by omega)]
  exact h.tag x h1 (by omega)
theorem Ins.fin {c lt:Int->Int->Prop} (ht:∀ x y z,lt x y->lt y z->lt x z) {l l1:List Int} {a i j:Nat} (h:Ins c lt l l1 a i j) (haj:a<=j) (hji:j<=i) (hd:j=a ∨ ¬ c l1[j]! l1[j - 1]!):Ri lt l1 a (i + 1):=by
 refine ri_join lt h.lo h.hi (fun x y h1 h2 h3 h4=>?_)
 by_cases hy:y=j
 ·subst hy
  have q:=h.tag (y - 1) (by omega) (by omega)
  have n:¬ lt l1[y]! l1[y - 1]! := fun e=>by
   rcases hd with hd | hd
   ·omega
   ·exact hd (q.1.2 e)
  exact ri_trans lt ht h.lo h1 (show x<=y - 1 by omega) (by omega) (q.2.resolve_right n)
 ·exact h.crs x y h1 h2 (by omega) h4
theorem Ins.start {c lt:Int->Int->Prop} {l:List Int} {a b i:Nat} (hr:Ri lt l a i) (ht:Tag c lt l a b) (hib:i < b) (_hai:a<=i):Ins c lt l l a i i :=
 ⟨Seg.refl _ _ _,hr,fun x y h1 h2 h3=>by omega,fun x y h1 h2 h3 h4=>by omega,fun x h1 h2=>ht x i h1 h2 hib⟩
end Go.Proofs.YtcipdampcmfmaaaGreat

namespace Go.Proofs.YtcipdampcmfmaaaGreat
open Go.RowKit Go.Sort
set_option maxRecDepth 100000
set_option maxHeartbeats 8000000
theorem tag_next {c lt:Int->Int->Prop} {l l1:List Int} {a b i:Nat} (h:Tag c lt l a b) (hs:Seg l l1 a i) (hr:Ri lt l1 a i) (hai:a<=i) (hib:i < b) (hb:b<=l.length):Ins c lt l1 l1 a i i:=by
 refine ⟨Seg.refl _ _ _,hr,fun x y h1 h2 h3=>by omega,fun x y h1 h2 h3 h4=>by omega,fun x h1 h2=>?_⟩
 obtain ⟨y,hy,e⟩:=hs.mem hai (by omega) (i:=x) ⟨h1,h2⟩
 rw [e,hs.out i (Or.inr (Nat.le_refl _))]
 exact h y i hy.1 hy.2 hib
theorem smInsI {w:World} {g o cap bf a b:Nat} {l:List Int} {c lt:Int->Int->Prop} (ht:∀ x y z,lt x y->lt y z->lt x z) (h:IA w g o l) (hl:l.length<=4000) (hab:a<=b) (hb:b<=l.length) (hT:Tag c lt l a b) (hc:CmpI w g bf l c) :
  Calls Tryz.prog 153 #[.slice (some ⟨g,o,none⟩) l.length cap,.int .i64 (a:Int),.int .i64 (b:Int),.func (.func 75) #[] #[.pointer (some ⟨bf,0,none⟩)]] w fun e w'=>e=.returned (.tuple #[])/\∃ l',Seg l l' a b/\Ri lt l' a b/\IA w' g o l'/\Tk.Kp (fun k=>k=g) w w':=by
 have H0:Hid (IA w g o l):=h
 have CC:Hid (CmpI w g bf l c):=hc
 have PM:Hid (Tag c lt l a b/\∀ x y z,lt x y->lt y z->lt x z):=⟨hT,ht⟩
 clear h hc hT ht
 go_enter Tryz.func153,Tryz.ntmps153
 go_wp2
 go_loopw [8] (fun iv W0=>∃ (W:World) (_:W=W0) (i:Nat) (l1:List Int),iv=.int .i64 (i:Int)/\a + 1<=i/\(i<=b ∨ (i=a + 1/\l1=l))/\Hid (Seg l l1 a i/\Ri lt l1 a i/\IA W g o l1/\Tk.Kp (fun k=>k=g) w W)) (fun iv _=>b - (intOf iv).toNat)
 case atStart=>exact ⟨_,rfl,a + 1,l,by go_num,Nat.le_refl _,Or.inr ⟨rfl,rfl⟩,Seg.refl _ _ _,fun x y h1 h2 h3=>by omega,H0.out,Tk.Kp.refl _ _⟩
 case round =>
  obtain ⟨W0,hW0,i,l1,rfl,hai,hib,X⟩:=hrel
  subst hW0
  by_cases hi:i < b
  ·have hii:(i:Int) < (b:Int):=by omega
   have hl1:Hid (l1.length=l.length):=X.out.1.len
   have I0:Hid (Ins c lt l1 l1 a i i):=tag_next PM.out.1 X.out.1 X.out.2.1 (by omega) hi hb
   go_wp2
   go_loopw [9] (fun jv W1=>∃ (W:World) (_:W=W1) (j:Nat) (l2:List Int),jv=.int .i64 (j:Int)/\a<=j/\j<=i/\Hid (Ins c lt l1 l2 a i j/\IA W g o l2/\Tk.Kp (fun k=>k=g) w W)) (fun jv _=>(intOf jv).toNat)
   case atStart=>exact ⟨_,rfl,i,l1,rfl,by omega,Nat.le_refl _,I0.out,X.out.2.2.1,X.out.2.2.2⟩
   case round =>
    obtain ⟨W,hW,j,l2,rfl,haj,hji,Y⟩:=hrel
    subst hW
    have DN:Hid (∀ (W2:World),Tk.Gw W W2->(j=a ∨ ¬ c l2[j]! l2[j - 1]!)->Seg l l2 a (i + 1)/\Ri lt l2 a (i + 1)/\IA W2 g o l2/\Tk.Kp (fun k=>k=g) w W2):=fun W2 hg hd =>
     ⟨(X.out.1.mono (Nat.le_refl _) (Nat.le_succ _)).trans Y.out.1.seg,Y.out.1.fin PM.out.2 haj hji hd,Y.out.2.1.same (hg.gr.block _ Y.out.2.1.lt),Y.out.2.2.trans (Tk.Kp.of_gr hg.gr)⟩
    by_cases hja:a < j
    ·obtain ⟨k,hjk⟩:∃ k,k + 1=j:=⟨j - 1,by omega⟩
     have ek:(j:Int) - 1=(k:Int):=by omega
     have haji:(a:Int) < (j:Int):=by omega
     have hl2:l2.length=l.length:=Y.out.1.seg.len.trans hl1.out
     have k1:(j:Int) < (l.length:Int):=by omega
     have k2:(k:Int) < (l.length:Int):=by omega
     have wk:IntKind.i64.wrap (k:Int)=(k:Int):=wrap_small (by omega)
     obtain ⟨x,y,c1,c2,E1,E2,XL⟩:∃ x y:Int,W.cell? ⟨g,o + j,none⟩=some (.int .i64 x)/\W.cell? ⟨g,o + k,none⟩=some (.int .i64 y)/\Hid (x ∈ l)/\Hid (y ∈ l)/\Hid (∀ z:Int,(z < 0 ↔ c x y)->(z < 0->Ins c lt l1 (sws l2 j k) a i k/\∀ W2,Tk.Gw W W2->IA ((W2.setCell ⟨g,o + j,none⟩ (.int .i64 y)).setCell ⟨g,o + k,none⟩ (.int .i64 x)) g o (sws l2 j k))/\(¬ z < 0->¬ c l2[j]! l2[j - 1]!)):=by
      have hm:∀ t,t < l2.length->l2[t]! ∈ l:=fun t ht=>X.out.1.perm.mem_iff.1 (Y.out.1.seg.perm.mem_iff.1 (get_mem ht))
      refine ⟨l2[j]!,l2[k]!,Y.out.2.1.cell (by omega),Y.out.2.1.cell (by omega),hm j (by omega),hm k (by omega),fun z hz=>⟨fun h=>⟨?_,fun W2 hg=>(Y.out.2.1.same (hg.gr.block _ Y.out.2.1.lt)).sws (by omega) (by omega)⟩,fun h h'=>h (hz.2 (by rw [show j - 1=k by omega] at h';exact h'))⟩⟩
      have hlt:lt l2[j]! l2[j - 1]! := (Y.out.1.tag (j - 1) (by omega) (by omega)).1.1 (by rw [show j - 1=k by omega];exact hz.1 h)
      have q:=Y.out.1.down hja hji (by have:=hl1.out;omega) hlt
      rw [show j - 1=k by omega] at q
      exact q
     have KW:Hid (Tk.Kp (fun k=>k=g) w W):=Y.out.2.2
     have f1:∀ W2,Tk.Gw W W2->W2.frozen? ⟨g,o + j,none⟩=false/\W2.frozen? ⟨g,o + k,none⟩=false/\W2.cell? ⟨g,o + j,none⟩=some (.int .i64 x)/\W2.cell? ⟨g,o + k,none⟩=some (.int .i64 y)/\g < W2.heap.size:=fun W2 hg=>by
      have q:=Y.out.2.1.same (hg.gr.block _ Y.out.2.1.lt)
      exact ⟨q.froz _,q.froz _,gwk hg c1,gwk hg c2,q.lt⟩
     have F1:Hid (∀ W2,Tk.Gw W W2->W2.frozen? ⟨g,o + j,none⟩=false/\W2.frozen? ⟨g,o + k,none⟩=false/\W2.cell? ⟨g,o + j,none⟩=some (.int .i64 x)/\W2.cell? ⟨g,o + k,none⟩=some (.int .i64 y)/\g < W2.heap.size):=f1
     have hne:j ≠ k:=by omega
     have JK:Hid (k + 1=j):=hjk
     clear f1 hl2 hjk
     go_wp2
     refine wp_region_held_drew (S:=fun W2=>Tk.Gw W W2) (by kernel_rfl) ((Tk.Gw.refl W).drew) (fun hHeld=>?_)
     refine tkn 0 ?_ rfl ?_ ?_;rotate_left;·(intro w hSw;(have s1:=gwk hSw c1;have s2:=gwk hSw c2);go_simp;try rfl)
     try simp only [pt]
     refine tkn 1 ?_ rfl ?_ ?_;rotate_left;·(intro w hSw;(have s1:=gwk hSw c1;have s2:=gwk hSw c2);go_simp;try rfl)
     try simp only [pt]
     refine tkn 2 ?_ rfl ?_ ?_;rotate_left;·(intro w hSw;(have s1:=gwk hSw c1;have s2:=gwk hSw c2);go_simp;try rfl)
     try simp only [pt]
     refine tkn 3 ?_ rfl ?_ ?_;rotate_left;·(intro w hSw;(have s1:=gwk hSw c1;have s2:=gwk hSw c2);go_simp;try rfl)
     try simp only [pt]
     refine tkn 4 ?_ rfl ?_ ?_;rotate_left;·(intro w hSw;(have s1:=gwk hSw c1;have s2:=gwk hSw c2);go_simp;try rfl)
     try simp only [pt]
     refine tkn 5 ?_ rfl ?_ ?_;rotate_left;·(intro w hSw;(have s1:=gwk hSw c1;have s2:=gwk hSw c2);go_simp;try rfl)
     try simp only [pt]
     refine tkn 6 ?_ rfl ?_ ?_;rotate_left;·(intro w hSw;(have s1:=gwk hSw c1;have s2:=gwk hSw c2);go_simp;try rfl)
     try simp only [pt]
     refine tkn 7 ?_ rfl ?_ ?_;rotate_left;·(intro w hSw;(have s1:=gwk hSw c1;have s2:=gwk hSw c2);go_simp;try rfl)
     try simp only [pt]
     refine tkn 8 ?_ rfl ?_ ?_;rotate_left;·(intro w hSw;(have s1:=gwk hSw c1;have s2:=gwk hSw c2);go_simp;try rfl)
     try simp only [pt]
     refine tkn 9 ?_ rfl ?_ ?_;rotate_left;·(intro w hSw;(have s1:=gwk hSw c1;have s2:=gwk hSw c2);go_simp;try rfl)
     try simp only [pt]
     refine tkn 10 ?_ rfl ?_ ?_;rotate_left;·(intro w hSw;(have s1:=gwk hSw c1;have s2:=gwk hSw c2);go_simp;try rfl)
     try simp only [pt]
     refine tkn 11 ?_ rfl ?_ ?_;rotate_left;·(intro w hSw;(have s1:=gwk hSw c1;have s2:=gwk hSw c2);go_simp;try rfl)
     try simp only [pt]
     refine tkn 12 ?_ rfl ?_ ?_;rotate_left;·(intro w hSw;(have s1:=gwk hSw c1;have s2:=gwk hSw c2);go_simp;try rfl)
     try simp only [pt]
     refine tkn 13 ?_ rfl ?_ ?_;rotate_left;·(intro w hSw;(have s1:=gwk hSw c1;have s2:=gwk hSw c2);go_simp;try rfl)
     try simp only [pt]
     refine rdn 14 rfl (fun K hK=>?_)
     go_simp
     refine (CC.out _ (KW.out.trans (Tk.Kp.of_gr hHeld.gr)) _ _ E1.out E2.out).mono ?_
     rintro e wa ⟨z,rfl,hz,ga⟩
     refine hK.out _ _ (hHeld.trans ga) (fun hHeld=>?_)
     clear hK K
     try simp only [pt]
     refine tkn 15 ?_ rfl ?_ ?_;rotate_left;·(intro w hSw;(have s1:=gwk hSw c1;have s2:=gwk hSw c2);go_simp;try rfl)
     try simp only [pt]
     refine tkn 16 ?_ rfl ?_ ?_;rotate_left;·(intro w hSw;(have s1:=gwk hSw c1;have s2:=gwk hSw c2);go_simp;try rfl)
     try simp only [pt]
     refine wpAnyH_done (by kernel_rfl) ?_ _
     have XZ:Hid _:=XL.out z hz
     obtain ⟨f1,f2,c3,c4,lt4⟩:=F1.out _ hHeld
     clear hz XL F1
     by_cases hz0:z < 0
     ·have N:=(XZ.out.1 hz0).1
      have N':Hid (Ins c lt l1 (sws l2 j k) a i k):=N
      have M:Hid (IA ((wa.setCell ⟨g,o + j,none⟩ (.int .i64 y)).setCell ⟨g,o + k,none⟩ (.int .i64 x)) g o (sws l2 j k)):=(XZ.out.1 hz0).2 _ hHeld
      clear N XZ
      go_wp2
      go_region
      go_wp2
      go_roundw
      case rel=>exact ⟨_,rfl,k,sws l2 j k,rfl,by have:=JK.out;omega,by have:=JK.out;omega,N'.out,M.out.same rfl,KW.out.trans ((Tk.Kp.of_gr hHeld.gr).trans (kp_swp _ g _ _ _ _))⟩
      case measure=>have:=JK.out;simp [intOf];omega
     ·have D:=DN.out _ hHeld (Or.inr (XZ.out.2 (by omega)))
      have D':Hid _:=D
      clear D XZ
      go_wp2
      go_roundw
      case rel=>exact ⟨_,rfl,i + 1,l2,by go_num,by omega,Or.inl hi,D'.out⟩
      case measure=>simp [intOf];omega
    ·obtain rfl:j=a:=by omega
     have haji:¬ (j:Int) < (j:Int):=by omega
     have JA:Hid (∀ W2,Tk.Gw W W2->Seg l l2 j (i + 1)/\Ri lt l2 j (i + 1)/\IA W2 g o l2/\Tk.Kp (fun k=>k=g) w W2):=fun W2 hg=>DN.out W2 hg (Or.inl rfl)
     clear DN Y I0 X
     go_wp2
     refine wp_region_held_drew (S:=fun W2=>Tk.Gw W W2) (by kernel_rfl) ((Tk.Gw.refl W).drew) (fun hHeld=>?_)
     refine tkn 0 ?_ rfl ?_ ?_;rotate_left;·(intro w hSw;(try dsimp only at hSw);go_simp;try rfl)
     try simp only [pt]
     refine tkn 1 ?_ rfl ?_ ?_;rotate_left;·(intro w hSw;(try dsimp only at hSw);go_simp;try rfl)
     try simp only [pt]
     refine tkn 2 ?_ rfl ?_ ?_;rotate_left;·(intro w hSw;(try dsimp only at hSw);go_simp;try rfl)
     try simp only [pt]
     refine tkn 3 ?_ rfl ?_ ?_;rotate_left;·(intro w hSw;(try dsimp only at hSw);go_simp;try rfl)
     try simp only [pt]
     refine wpAnyH_take (i:=4) (v:=undef) rfl (by kernel_rfl) (by kernel_rfl) (by kernel_rfl) (fun _ _ _ h=>h) (Or.inr ⟨by rfl,rfl⟩) (by assumption) ?_
     try simp only [pt]
     refine wpAnyH_take (i:=5) (v:=undef) rfl (by kernel_rfl) (by kernel_rfl) (by kernel_rfl) (fun _ _ _ h=>h) (Or.inr ⟨by rfl,rfl⟩) (by assumption) ?_
     try simp only [pt]
     refine wpAnyH_take (i:=6) (v:=undef) rfl (by kernel_rfl) (by kernel_rfl) (by kernel_rfl) (fun _ _ _ h=>h) (Or.inr ⟨by rfl,rfl⟩) (by assumption) ?_
     try simp only [pt]
     refine wpAnyH_take (i:=7) (v:=undef) rfl (by kernel_rfl) (by kernel_rfl) (by kernel_rfl) (fun _ _ _ h=>h) (Or.inr ⟨by rfl,rfl⟩) (by assumption) ?_
     try simp only [pt]
     refine wpAnyH_take (i:=8) (v:=undef) rfl (by kernel_rfl) (by kernel_rfl) (by kernel_rfl) (fun _ _ _ h=>h) (Or.inr ⟨by rfl,rfl⟩) (by assumption) ?_
     try simp only [pt]
     refine wpAnyH_take (i:=9) (v:=undef) rfl (by kernel_rfl) (by kernel_rfl) (by kernel_rfl) (fun _ _ _ h=>h) (Or.inr ⟨by rfl,rfl⟩) (by assumption) ?_
     try simp only [pt]
     refine wpAnyH_take (i:=10) (v:=undef) rfl (by kernel_rfl) (by kernel_rfl) (by kernel_rfl) (fun _ _ _ h=>h) (Or.inr ⟨by rfl,rfl⟩) (by assumption) ?_
     try simp only [pt]
     refine wpAnyH_take (i:=11) (v:=undef) rfl (by kernel_rfl) (by kernel_rfl) (by kernel_rfl) (fun _ _ _ h=>h) (Or.inr ⟨by rfl,rfl⟩) (by assumption) ?_
     try simp only [pt]
     refine wpAnyH_take (i:=12) (v:=undef) rfl (by kernel_rfl) (by kernel_rfl) (by kernel_rfl) (fun _ _ _ h=>h) (Or.inr ⟨by rfl,rfl⟩) (by assumption) ?_
     try simp only [pt]
     refine wpAnyH_take (i:=13) (v:=undef) rfl (by kernel_rfl) (by kernel_rfl) (by kernel_rfl) (fun _ _ _ h=>h) (Or.inr ⟨by rfl,rfl⟩) (by assumption) ?_
     try simp only [pt]
     refine wpAnyH_take (i:=14) (v:=undef) rfl (by kernel_rfl) (by kernel_rfl) (by kernel_rfl) (fun _ _ _ h=>h) (Or.inr ⟨by rfl,rfl⟩) (by assumption) ?_
     try simp only [pt]
     refine wpAnyH_take (i:=15) (v:=undef) rfl (by kernel_rfl) (by kernel_rfl) (by kernel_rfl) (fun _ _ _ h=>h) (Or.inr ⟨by rfl,rfl⟩) (by assumption) ?_
     try simp only [pt]
     refine tkn 16 ?_ rfl ?_ ?_;rotate_left;·(intro w hSw;(try dsimp only at hSw);go_simp;try rfl)
     try simp only [pt]
     refine wpAnyH_done (by kernel_rfl) ?_ _
     have D':Hid _:=JA.out _ hHeld
     clear JA
     go_wp2
     go_roundw
     case rel=>exact ⟨_,rfl,i + 1,l2,by go_num,by omega,Or.inl hi,D'.out⟩
     case measure=>simp [intOf];omega
  ·have hii:¬ (i:Int) < (b:Int):=by omega
   go_wp2
   go_end0
   refine ⟨rfl,l1,?_,?_,X.out.2.2⟩
   ·rcases hib with h1 | ⟨h1,h2⟩
    ·have e:i=b:=by omega
     have q:=X.out.1;rw [e] at q;exact q
    ·rw [h2];exact Seg.refl _ _ _
   ·intro p q h1 h2 h3
    exact X.out.2.1 p q h1 h2 (by omega)
end Go.Proofs.YtcipdampcmfmaaaGreat

namespace Go.Proofs.YtcipdampcmfmaaaGreat
structure SBk (lt:Int->Int->Prop) (l l1:List Int) (n s:Nat):Prop where
 perm:l1.Perm l
 run:∀ p,s ∣ p->Ri lt l1 p (min (p + s) n)
 loc:∀ p,s ∣ p->∀ i,p<=i->i < min (p + s) n->∃ j,(p<=j/\j < min (p + s) n)/\l1[i]! = l[j]!
structure Pa (lt:Int->Int->Prop) (l l0 l1:List Int) (n t a:Nat):Prop where
 perm:l1.Perm l
 run:∀ p,t ∣ p->p < a->Ri lt l1 p (min (p + t) n)
 loc:∀ p,t ∣ p->p < a->∀ i,p<=i->i < min (p + t) n->∃ j,(p<=j/\j < min (p + t) n)/\l1[i]! = l[j]!
 rest:∀ i,a<=i->l1[i]! = l0[i]!
theorem Pa.start {lt:Int->Int->Prop} {l l0:List Int} {n t:Nat} (h:l0.Perm l):Pa lt l l0 l0 n t 0 :=
 ⟨h,fun _p _ h=>absurd h (Nat.not_lt_zero _),fun _p _ h=>absurd h (Nat.not_lt_zero _),fun _ _=>rfl⟩
theorem dvd_next {t p a:Nat} (hp:t ∣ p) (ha:t ∣ a) (h:a < p):a + t<=p:=by
 have h1:t ∣ p - a:=Nat.dvd_sub hp ha
 have:=Nat.le_of_dvd (by omega) h1
 omega
theorem Pa.step {lt:Int->Int->Prop} {l l0 l1 l2:List Int} {n t a:Nat} (h:Pa lt l l0 l1 n t a) (ht:0 < t) (hta:t ∣ a) (han:a<=n) (hn:n<=l.length) (hs:Seg l1 l2 a (min (a + t) n)) (hr:Ri lt l2 a (min (a + t) n))
  (hl:∀ i,a<=i->i < min (a + t) n->∃ j,(a<=j/\j < min (a + t) n)/\l0[i]! = l[j]!):Pa lt l l0 l2 n t (a + t):=by
 have hlen:=h.perm.length_eq
 have old:∀ p,t ∣ p->p < a->∀ i,i < min (p + t) n->l2[i]! = l1[i]! := fun p hp hpa i hi=>hs.out i (Or.inl (by have:=dvd_next hta hp hpa;omega))
 have one:∀ p,t ∣ p->p < a + t->¬ p < a->p=a:=fun p hp h1 h2=>by
  by_cases h3:a < p
  ·have:=dvd_next hp hta h3;omega
  ·omega
 refine ⟨hs.perm.trans h.perm,fun p hp hpa=>?_,fun p hp hpa i h1 h2=>?_,fun i hi=>(hs.out i (by omega)).trans (h.rest i (by omega))⟩
 ·by_cases hlt:p < a
  ·intro i j h1 h2 h3
   rw [old p hp hlt i (by omega),old p hp hlt j h3]
   exact h.run p hp hlt i j h1 h2 h3
  ·obtain rfl:=one p hp hpa hlt
   exact hr
 ·by_cases hlt:p < a
  ·rw [old p hp hlt i h2]
   exact h.loc p hp hlt i h1 h2
  ·obtain rfl:=one p hp hpa hlt
   obtain ⟨k,hk,e⟩:=hs.mem (by omega) (by omega) (i:=i) ⟨h1,h2⟩
   rw [e,h.rest k hk.1]
   exact hl k hk.1 hk.2
theorem Pa.fin {lt:Int->Int->Prop} {l l0 l1:List Int} {n t a:Nat} (h:Pa lt l l0 l1 n t a) (hna:n<=a):SBk lt l l1 n t:=by
 refine ⟨h.perm,fun p hp=>?_,fun p hp i h1 h2=>?_⟩
 ·by_cases hpa:p < a
  ·exact h.run p hp hpa
  ·intro i j h1 h2 h3;omega
 ·by_cases hpa:p < a
  ·exact h.loc p hp hpa i h1 h2
  ·omega
theorem SBk.pre {c lt:Int->Int->Prop} {l l0 l1:List Int} {n s a b:Nat} (h:SBk lt l l0 n s) (hT:Tag c lt l 0 n) (hs:0 < s) (hsa:s ∣ a) (hb:b=min (a + 2 * s) n) (hmn:a + s < n) (hrest:∀ i,a<=i->l1[i]! = l0[i]!):PreM c lt l1 a (a + s) b:=by
 have r1:=h.run a hsa
 have r2:=h.run (a + s) (Nat.dvd_add hsa (Nat.dvd_refl s))
 have q1:=h.loc a hsa
 have q2:=h.loc (a + s) (Nat.dvd_add hsa (Nat.dvd_refl s))
 refine ⟨fun i j h1 h2 h3=>?_,fun i j h1 h2 h3=>?_,fun i j h1 h2 h3 h4=>?_⟩
 ·rw [hrest i h1,hrest j (by omega)]
  exact r1 i j h1 h2 (by omega)
 ·rw [hrest i (by omega),hrest j (by omega)]
  exact r2 i j h1 h2 (by omega)
 ·rw [hrest i h1,hrest j (by omega)]
  obtain ⟨i',hi',e1⟩:=q1 i h1 (by omega)
  obtain ⟨j',hj',e2⟩:=q2 j h3 (by omega)
  rw [e1,e2]
  exact hT i' j' (Nat.zero_le _) (by omega) (by omega)
theorem SBk.two {lt:Int->Int->Prop} {l l0:List Int} {n s a:Nat} (h:SBk lt l l0 n s) (hsa:s ∣ a) (i:Nat) (h1:a<=i) (h2:i < min (a + 2 * s) n):∃ j,(a<=j/\j < min (a + 2 * s) n)/\l0[i]! = l[j]! := by
 by_cases hi:i < a + s
 ·obtain ⟨j,hj,e⟩:=h.loc a hsa i h1 (by omega)
  exact ⟨j,by omega,e⟩
 ·obtain ⟨j,hj,e⟩:=h.loc (a + s) (Nat.dvd_add hsa (Nat.dvd_refl s)) i (by omega) (by omega)
  exact ⟨j,by omega,e⟩
theorem SBk.alone {lt:Int->Int->Prop} {l l0 l1:List Int} {n s a:Nat} (h:SBk lt l l0 n s) (hsa:s ∣ a) (hmn:n<=a + s) (hrest:∀ i,a<=i->l1[i]! = l0[i]!):Ri lt l1 a (min (a + 2 * s) n):=by
 intro i j h1 h2 h3
 rw [hrest i h1,hrest j (by omega)]
 exact h.run a hsa i j h1 h2 (by omega)
theorem SBk.done {lt:Int->Int->Prop} {l l0:List Int} {n s:Nat} (h:SBk lt l l0 n s) (hn:n<=s):Ri lt l0 0 n:=by
 have:=h.run 0 (Nat.dvd_zero s)
 rw [show min (0 + s) n=n by omega] at this
 exact this
end Go.Proofs.YtcipdampcmfmaaaGreat

namespace Go.Proofs.YtcipdampcmfmaaaGreat
open Go.RowKit Go.Sort Go.Maps
set_option maxRecDepth 100000
set_option maxHeartbeats 2000000
abbrev lv (r:Reg) (vl vh vi rows:Value):Value:=.agg #[.int .i64 r.S,vl,vh,.int .u64 (hi r.R),.int .u64 (lo r.R),vi,rows]
theorem keep_c {w:World} {tb lb p n cap:Nat} {a:Option Addr} {ks:List Int} {f:Int->Value} {u:Value} {cs:Vs} {rs:List Rw} (hc:w.cell? ⟨tb,1,none⟩=some u) (hu:RdV w u cs) (hp:w.cell? ⟨tb,2,none⟩=some (.map (some lb))) (hm:MapA Tryz.prog 3 w lb ks f) (hk:ks.length < 1000000) (hpl:p < cs.length) (hcl:cs.length<=100000)
  (h:RdW w (.slice a n cap) rs) (hn:0 < n) (hn2:n<=4000) (hlen:rs.length<=4611686018427387904) (hwf:∀ i,i < rs.length->(Lit.int .i64 rs[i]!.1).wf=true) :
  Calls Tryz.prog 88 #[.pointer (some ⟨tb,0,none⟩),.int .i64 (p:Int),.slice a n cap] w fun e w'=>e=.returned (.tuple #[])/\∃ w1 W vl vh vi,OutR w w1 (ballR cs[p]! rs) vl vh vi/\Gb w1 W/\MapA Tryz.prog 3 w' lb (putK ks p) (putF f p (lv (ballR cs[p]! rs) vl vh vi (.slice a n cap)))/\W.mapTurned w' lb:=by
 have KP:KWf (p:Int):=⟨by omega,by omega⟩
 have hlt:tb < w.heap.size:=cell_lt hp
 have ML:Hid (MapA Tryz.prog 3 w lb ks f):=hm
 obtain ⟨cu,cc,rfl,hU⟩:=hu
 obtain ⟨cb,co,uu,e0,c0,hV⟩:=hU p hpl
 subst e0
 have hpi:(p:Int) < (cs.length:Int):=by omega
 have hni:((n:Int) == 0)=false:=by rw [beq_eq_false_iff_ne];omega
 have cB:=ball_c hV h hlen hwf
 have PT:Hid (∀ w1 c t,Gb w w1->∀ v,∃ w',(Instr.mapUpdate 87 (.map (some lb)) (.int .i64 (p:Int)) v).run Tryz.prog (w1.alloc (.cells c t)).drew=.ok () w'/\MapA Tryz.prog 3 w' lb (putK ks p) (putF f p v)/\(w1.alloc (.cells c t)).drew.mapTurned w' lb):=fun w1 c t g v=>by
  have m1:=ML.out.same ((gb_alloc g (.cells c t)).drew.block _ ML.out.lt)
  exact m1.put Tryz.underlying3 Tryz.underlying87 hk KP v
 generalize cs[p]! = c at *
 generalize cs.length=nc at *
 generalize ballR c rs=B at *
 generalize ballE c rs=E at *
 clear hU h hV hm hlen hwf
 go_enter Tryz.func88,Tryz.ntmps88
 go_wp2_with fail
 refine cB.mono ?_
 rintro e w1 ⟨vl,vh,vi,rfl,hO⟩
 have HO:Hid (OutR w w1 B vl vh vi):=hO
 obtain ⟨al,cl,el,_⟩:=hO.2.1.rd
 obtain ⟨ah,ch,eh,_⟩:=hO.2.2.1.rd
 obtain ⟨ai,ci,ei,_⟩:=hO.2.2.2.1.rd
 subst el eh ei
 generalize B.L.length=nl at *
 generalize B.H.length=nh at *
 generalize B.I.length=ni at *
 have hG:=hO.1
 clear hO
 have hO:=hG
 have c1:=gb_keeps hO hc
 have c2:=gb_keeps hO hp
 have hlt1:tb < w1.heap.size:=cell_lt c1
 obtain ⟨w4,hrun,R⟩:=PT.out w1 #[.int .i64 B.S,.slice al nl cl,.slice ah nh ch,.int .u64 (hi B.R),.int .u64 (lo B.R),.slice ai ni ci] 99 hO (.agg #[.int .i64 B.S,.slice al nl cl,.slice ah nh ch,.int .u64 (hi B.R),.int .u64 (lo B.R),.slice ai ni ci,.slice a n cap])
 have RH:Hid (MapA Tryz.prog 3 w4 lb _ _/\_):=R
 clear hO R
 go_wp2_with fail
 have k2:(w1.alloc (.cells #[.int .i64 B.S,.slice al nl cl,.slice ah nh ch,.int .u64 (hi B.R),.int .u64 (lo B.R),.slice ai ni ci] 99)).cell? ⟨tb,2,none⟩=some (.map (some lb)):=alloc_keeps c2 _
 go_region
 all_goals
  go_wp2
  go_end0
  exact ⟨rfl,w1,_,_,_,_,HO.out,(gb_alloc (Below.refl _ _) _).drew,RH.out⟩
end Go.Proofs.YtcipdampcmfmaaaGreat
