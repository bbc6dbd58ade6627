import Derived.Test.YtcipdampcmfmaabGreatJa19
import Derived.Test.YtcipdampcmfmaabGreatJa5
import Derived.Test.YtcipdampcmfmaabGreatJaIvPi
namespace Go.Proofs.YtcipdampcmfmaabGreat
open Go.RowKit
set_option maxRecDepth 100000
set_option maxHeartbeats 2000000
def RdV (w:World) (v:Value) (vs:Vs):Prop:=∃ a cap,v=.slice a vs.length cap/\∀ i,i < vs.length->∃ b o u,a=some ⟨b,o,none⟩/\w.cell? ⟨b,o + i,none⟩=some u/\RdI w u vs[i]!
theorem RdV.gb {w w':World} {v:Value} {vs:Vs} (h:RdV w v vs) (g:Gb w w'):RdV w' v vs:=by
 obtain ⟨a,cap,e,h⟩:=h
 refine ⟨a,cap,e,fun i hi=>?_⟩
 obtain ⟨b,o,u,e1,e2,e3⟩:=h i hi
 exact ⟨b,o,u,e1,gb_keeps g e2,e3.gb g⟩
theorem checkAll_c {w:World} {v:Value} {vs:Vs} (h:RdV w v vs) (d:Int) (hlen:vs.length<=4611686018427387904) :
  Calls Tryz.prog 154 #[v,.int .i64 d] w fun e w'=>e=.returned (.int .i64 (vecsE vs d))/\w=w':=by
 obtain ⟨a,cap,rfl,ha⟩:=h
 have A:Hid (∀ i,i < vs.length->∃ b o u,a=some ⟨b,o,none⟩/\w.cell? ⟨b,o + i,none⟩=some u/\RdI w u vs[i]!):=ha
 obtain ⟨n,hN⟩:∃ n,n=vs.length:=⟨_,rfl⟩
 have N:Hid (n=vs.length):=hN
 rw [<- hN] at hlen ⊢
 clear ha hN
 go_enter Tryz.func154,Tryz.ntmps154
 go_wp2
 go_loopw [10] (fun iv w'=>∃ q:Nat,iv=.int .i64 (q:Int)/\q<=n/\w=w'/\Hid (vecsTo vs d q=0)) (fun iv _=>n - (intOf iv).toNat)
 case atStart=>exact ⟨0,rfl,Nat.zero_le _,rfl,rfl⟩
 case round =>
  obtain ⟨q,rfl,hq,rfl,X⟩:=hrel
  by_cases hqn:q < n
  ·have hqi:(q:Int) < (n:Int):=by omega
   have hql:q < vs.length:=by have:=N.out;omega
   obtain ⟨b,o,u,ea,h1,h2⟩:=A.out q hql
   subst ea
   have c:=check_v h2 d _ rfl
   obtain ⟨pu,cu,rfl,_⟩:=h2
   by_cases hz:chk vs[q]! d=0
   ·have R:Hid (vecsTo vs d (q + 1)=0):=vecsTo_next X.out hz
    rw [hz] at c
    generalize vs[q]!.length=m at *
    clear hz X hql
    go_wp2_with (go_at_call 27;refine c.mono ?_;rintro e w' ⟨rfl,e2⟩;subst e2)
    go_roundw
    case rel=>exact ⟨q + 1,by simp,hqn,by first | rfl | trivial,R⟩
    case measure=>simp [intOf];omega
   ·have hz':(chk vs[q]! d == 0)=false:=by rw [beq_eq_false_iff_ne];exact hz
    have R:Hid (vecsE vs d=chk vs[q]! d):=vecsTo_err hql X.out hz
    generalize chk vs[q]! d=ce at *
    generalize vs[q]!.length=m at *
    clear X hql
    go_wp2_with (go_at_call 27;refine c.mono ?_;rintro e w' ⟨rfl,e2⟩;subst e2)
    go_ret
    exact ⟨by rw [R.out];rfl,by first | rfl | trivial⟩
  ·have hqi:¬ (q:Int) < (n:Int):=by omega
   have R:Hid (vecsE vs d=0):=by
    have h1:=X.out
    have h2:q=vs.length:=by have:=N.out;omega
    rw [h2] at h1;exact h1
   go_wp2
   go_ret
   exact ⟨by rw [R.out];rfl,by first | rfl | trivial⟩
def cenE (cs:Vs):Int:=if 1<=cs.length/\cs.length<=64 then vecsE cs (cs[0]!.length:Int) else 1
theorem cenE_zero {cs:Vs}:cenE cs=0 ↔ (1<=cs.length/\cs.length<=64)/\VsOk cs (cs[0]!.length:Int):=by
 unfold cenE
 split
 ·rename_i h;rw [vecsE_zero];exact ⟨fun e=>⟨h,e⟩,fun e=>e.2⟩
 ·rename_i h;exact ⟨fun e=>by simp at e,fun e=>absurd e.1 h⟩
theorem checkCentres_c {w:World} {v:Value} {cs:Vs} (h:RdV w v cs) :
  Calls Tryz.prog 147 #[v] w fun e w'=>e=.returned (.int .i64 (cenE cs))/\w=w':=by
 unfold cenE
 by_cases h1:cs.length < 1
 ·rw [if_neg (by omega)]
  obtain ⟨a,cap,rfl,ha⟩:=h
  generalize cs.length=n at *
  clear ha
  go_enter Tryz.func147,Tryz.ntmps147
  go_wp2
  go_ret
  exact ⟨rfl,rfl⟩
 ·by_cases h2:64 < cs.length
  ·rw [if_neg (by omega)]
   obtain ⟨a,cap,rfl,ha⟩:=h
   generalize cs.length=n at *
   clear ha
   go_enter Tryz.func147,Tryz.ntmps147
   go_wp2
   go_ret
   exact ⟨rfl,rfl⟩
  ·rw [if_pos (by omega)]
   have c:=checkAll_c h (cs[0]!.length:Int) (by omega)
   obtain ⟨a,cap,rfl,ha⟩:=h
   obtain ⟨b,o,u,ea,k1,k2⟩:=ha 0 (by omega)
   subst ea
   rw [Nat.add_zero] at k1
   obtain ⟨pu,cu,rfl,_⟩:=k2
   generalize cs.length=n at *
   generalize cs[0]!.length=m at *
   generalize vecsE cs m=z at *
   clear ha
   go_enter Tryz.func147,Tryz.ntmps147
   go_wp2_with (go_at_call 154;refine c.mono ?_;rintro e w' ⟨rfl,e2⟩;subst e2)
   go_ret
   exact ⟨rfl,rfl⟩
theorem checkTraining_c {w:World} {v:Value} {l:Vs} (h:RdV w v l) (k r:Int) :
  Calls Tryz.prog 118 #[v,.int .i64 k,.int .i64 r] w fun e w'=>e=.returned (.int .i64 (trainE l k r))/\w=w':=by
 by_cases h1:1<=k/\k<=64/\0<=r/\r<=20
 ·by_cases h2:l.length<=512
  ·by_cases h3:(l.length:Int) < k
   ·have e:trainE l k r=60:=by unfold trainE;rw [if_pos h1,if_pos h2,if_pos h3]
    rw [e]
    obtain ⟨a,cap,rfl,ha⟩:=h
    obtain ⟨k1,k2,k3,k4⟩:=h1
    generalize l.length=n at *
    clear ha e
    go_enter Tryz.func118,Tryz.ntmps118
    go_wp2
    go_ret
    exact ⟨rfl,rfl⟩
   ·have e:trainE l k r=vecsE l (l[0]!.length:Int):=by unfold trainE;rw [if_pos h1,if_pos h2,if_neg h3]
    rw [e]
    have c:=checkAll_c h (l[0]!.length:Int) (by omega)
    obtain ⟨a,cap,rfl,ha⟩:=h
    obtain ⟨k1,k2,k3,k4⟩:=h1
    obtain ⟨b,o,u,ea,m1,m2⟩:=ha 0 (by omega)
    subst ea
    rw [Nat.add_zero] at m1
    obtain ⟨pu,cu,rfl,_⟩:=m2
    generalize vecsE l (l[0]!.length:Int)=z at *
    generalize l.length=n at *
    generalize l[0]!.length=m at *
    clear ha e
    go_enter Tryz.func118,Tryz.ntmps118
    go_wp2_with (go_at_call 154;refine c.mono ?_;rintro e w' ⟨rfl,e2⟩;subst e2)
    go_ret
    exact ⟨rfl,rfl⟩
  ·have e:trainE l k r=2:=by unfold trainE;rw [if_pos h1,if_neg h2]
   rw [e]
   obtain ⟨a,cap,rfl,ha⟩:=h
   obtain ⟨k1,k2,k3,k4⟩:=h1
   generalize l.length=n at *
   clear ha e
   go_enter Tryz.func118,Tryz.ntmps118
   go_wp2
   go_ret
   exact ⟨rfl,rfl⟩
 ·have e:trainE l k r=1:=by unfold trainE;rw [if_neg h1]
  rw [e]
  obtain ⟨a,cap,rfl,ha⟩:=h
  generalize l.length=n at *
  clear ha e
  by_cases k1:k < 1
  ·go_enter Tryz.func118,Tryz.ntmps118
   go_wp2
   go_ret
   exact ⟨rfl,rfl⟩
  by_cases k2:64 < k
  ·go_enter Tryz.func118,Tryz.ntmps118
   go_wp2
   go_ret
   exact ⟨rfl,rfl⟩
  by_cases k3:r < 0
  ·go_enter Tryz.func118,Tryz.ntmps118
   go_wp2
   go_ret
   exact ⟨rfl,rfl⟩
  have k4:20 < r:=by omega
  go_enter Tryz.func118,Tryz.ntmps118
  go_wp2
  go_ret
  exact ⟨rfl,rfl⟩
end Go.Proofs.YtcipdampcmfmaabGreat

namespace Go.Proofs.YtcipdampcmfmaabGreat
open Go.RowKit
set_option maxRecDepth 100000
set_option maxHeartbeats 4000000
theorem RdV.gr {w w':World} {v:Value} {vs:Vs} (h:RdV w v vs) (g:Gr w w'):RdV w' v vs:=h.gb g.gb
theorem RdI.gr {w w':World} {v:Value} {l:List Int} (h:RdI w v l) (g:Gr w w'):RdI w' v l:=h.gb g.gb
theorem cen_at {w:World} {a:Option Addr} {n cap:Nat} {cs:Vs} (h:RdV w (.slice a n cap) cs) {i:Nat} (hi:i < cs.length):∃ b o u,a=some ⟨b,o,none⟩/\w.cell? ⟨b,o + i,none⟩=some u/\RdI w u cs[i]! := by
 obtain ⟨_,_,e,h⟩:=h
 cases e
 exact h i hi
theorem dist_near {w:World} {u v:Value} {cs:Vs} {x:List Int} {d:Int} {i:Nat} (hi:i < cs.length) (hu:RdI w u cs[i]!) (hv:RdI w v x) (hc:VsOk cs d) (hx:chk x d=0) :
  Calls Tryz.prog 51 #[u,v] w fun e w'=>e=.returned (.tuple #[Wd (dst cs[i]! x),.int .i64 0])/\Gr w w':=by
 have c:=dist_c hu hv
 obtain ⟨e1,e2⟩:=near_dist hc hx hi
 rw [e1,e2] at c
 exact c
theorem k_nearest_c {w:World} {u v:Value} {cs:Vs} {x:List Int} {d:Int} (hu:RdV w u cs) (hv:RdI w v x) (hc:VsOk cs d) (hx:chk x d=0) (h0:1<=cs.length) (h64:cs.length<=64) :
  Calls Tryz.prog 148 #[u,v] w fun e w'=>e=.returned (.tuple #[.int .i64 ((nearP cs x).1:Int),Wd (nearP cs x).2])/\Gr w w':=by
 have U:Hid (RdV w u cs):=hu
 have V:Hid (RdI w v x):=hv
 have K:Hid (VsOk cs d/\chk x d=0):=⟨hc,hx⟩
 obtain ⟨a,cap,rfl,ha⟩:=hu
 obtain ⟨px,cx,rfl,_⟩:=hv
 obtain ⟨n,hN⟩:∃ n,n=cs.length:=⟨_,rfl⟩
 have N:Hid (n=cs.length):=hN
 rw [<- hN] at h0 h64 U ⊢
 obtain ⟨b,o,u0,ea,k1,k2⟩:=ha 0 (by omega)
 subst ea
 rw [Nat.add_zero] at k1
 have G0:Gr w (w.alloc (.cells #[.int .u64 0,.int .u64 0] 40)):=(Gr.refl _).alloc _ _
 replace k1:=G0.keeps k1
 have c0:=dist_near (i:=0) (by omega) (k2.gr G0) (V.out.gr G0) hc hx
 clear ha hN hc hx
 generalize x.length=nx at *
 have D0:Hid (dst cs[0]! x=(nearTo cs x 0).2):=rfl
 generalize dst cs[0]! x=s0 at *
 obtain ⟨pu,cu,rfl,_⟩:=k2
 generalize cs[0]!.length=m0 at *
 go_enter Tryz.func148,Tryz.ntmps148
 go_wp2_with fail
 refine c0.mono ?_
 rintro e w1 ⟨rfl,g1⟩
 have hB:(w.alloc (.cells #[.int .u64 0,.int .u64 0] 40)).heap.size<=w1.heap.size:=g1.size
 have S0:At2 (w1.alloc (.cells #[.int .u64 (hi s0),.int .u64 (lo s0)] 40)) w1.heap.size s0:=At2.new w1 s0 _
 have G1:Gr (w.alloc (.cells #[.int .u64 0,.int .u64 0] 40)) (w1.alloc (.cells #[.int .u64 (hi s0),.int .u64 (lo s0)] 40)):=g1.alloc _ _
 clear c0 k1
 go_wp2
 go_loopw [6,9] (fun pv iv w'=>∃ q:Nat,iv=.int .i64 ((q:Int) + 1)/\q + 1<=n/\pv=.int .i64 ((nearTo cs x q).1:Int)/\Gr (w.alloc (.cells #[.int .u64 0,.int .u64 0] 40)) w'/\At2 w' w1.heap.size (nearTo cs x q).2) (fun _ iv _=>n - (intOf iv).toNat)
 case atStart=>exact ⟨0,rfl,h0,rfl,G1,by rw [<- D0.out];exact S0⟩
 case round =>
  clear S0 G1 g1
  obtain ⟨q,rfl,hq,rfl,hG,hS⟩:=hrel
  by_cases hqn:q + 1 < n
  ·have hqi:(q:Int) + 1 < (n:Int):=by omega
   have hql:q + 1 < cs.length:=by have:=N.out;omega
   obtain ⟨b1,o1,u1,ea,k1,k2⟩:=cen_at U.out hql
   cases ea
   have G2:Gr w wr:=((Gr.refl _).alloc _ _).trans hG
   have x0:=G2.keeps k1
   have c:=dist_near hql (k2.gr G2) (V.out.gr G2) K.out.1 K.out.2
   have NX:Hid (nearTo cs x (q + 1)=if dst cs[q + 1]! x < (nearTo cs x q).2 then (q + 1,dst cs[q + 1]! x) else nearTo cs x q):=rfl
   obtain ⟨pu1,cu1,rfl,_⟩:=k2
   generalize cs[q + 1]!.length=m1 at *
   obtain ⟨p,hp⟩:∃ p,p=nearTo cs x q:=⟨_,rfl⟩
   rw [<- hp] at hS NX ⊢
   clear hp k1
   obtain ⟨pp,pd⟩:=p
   dsimp only at hS NX ⊢
   generalize dst cs[q + 1]! x=s at *
   have cc:=fun W=>cmp_any s pd W
   by_cases hlt:s < pd
   ·have e:cmp3 s pd=-1:=by unfold cmp3;rw [if_pos hlt]
    rw [if_pos hlt] at NX
    simp only [e] at cc
    clear e hlt
    go_wp2_with fail
    refine c.mono ?_
    rintro e w2 ⟨rfl,g2⟩
    have g3:Gr w2 (w2.alloc (.cells #[.int .u64 (hi s),.int .u64 (lo s)] 40)):=(Gr.refl _).alloc _ _
    have hS3:=(hS.gr g2).gr g3
    have hG3:=(hG.trans g2).trans g3
    have T3:At2 (w2.alloc (.cells #[.int .u64 (hi s),.int .u64 (lo s)] 40)) w2.heap.size s:=At2.new w2 s _
    have hne:w1.heap.size ≠ w2.heap.size:=by have:=cell_lt (hS.gr g2).c0;dsimp only at this;omega
    have hS4:=hS3
    obtain ⟨s0,s1,s2,s3⟩:=hS4
    clear hS hG g2 c x0 g3
    go_wp2_with fail
    refine (cc _).mono ?_
    rintro e w3 ⟨rfl,g4⟩
    have hS5:=hS3.gr g4
    have hT5:=T3.gr g4
    have hG5:=hG3.trans g4
    have hS6:=hS5
    have hT6:=hT5
    obtain ⟨q0,q1,q2,q3⟩:=hS6
    obtain ⟨r0,r1,r2,r3⟩:=hT6
    clear s0 s1 s2 s3 T3 hS3 hG3 g4 cc hT5
    go_wp2
    go_region
    all_goals
     have hG7:=((hG5.drew).setCell (p:=⟨w1.heap.size,0,none⟩) hB (.int .u64 (hi s))).setCell (p:=⟨w1.heap.size,1,none⟩) hB (.int .u64 (lo s))
     have hS7:=At2.set (w:=w3.drew) ⟨hS5.c0,hS5.c1,hS5.f0,hS5.f1⟩ s
     clear q0 q1 q2 q3 r0 r1 r2 r3 hS5 hG5
     go_wp2
     refine ⟨⟨q + 1,by go_num,hqn,by rw [NX.out];go_num,hG7,by rw [NX.out];exact hS7⟩,by simp [intOf];omega⟩
   ·have e:cmp3 s pd=0 ∨ cmp3 s pd=1:=by unfold cmp3;rw [if_neg hlt];split;exact .inl rfl;exact .inr rfl
    have he:¬ cmp3 s pd < 0:=by omega
    rw [if_neg hlt] at NX
    generalize cmp3 s pd=cz at *
    clear e hlt
    go_wp2_with fail
    refine c.mono ?_
    rintro e w2 ⟨rfl,g2⟩
    have g3:Gr w2 (w2.alloc (.cells #[.int .u64 (hi s),.int .u64 (lo s)] 40)):=(Gr.refl _).alloc _ _
    have hS3:=(hS.gr g2).gr g3
    have hG3:=(hG.trans g2).trans g3
    have hS4:=hS3
    obtain ⟨s0,s1,s2,s3⟩:=hS4
    clear hS hG g2 c x0 g3
    go_wp2_with fail
    refine (cc _).mono ?_
    rintro e w3 ⟨rfl,g4⟩
    have hS5:=hS3.gr g4
    have hG5:=hG3.trans g4
    clear s0 s1 s2 s3 hS3 hG3 g4 cc
    go_wp2
    go_roundw
    case rel=>exact ⟨q + 1,by go_num,hqn,by rw [NX.out],hG5,by rw [NX.out];exact hS5⟩
    case measure=>simp [intOf];omega
  ·have hqi:¬ (q:Int) + 1 < (n:Int):=by omega
   have E:Hid (nearP cs x=nearTo cs x q):=by
    unfold Hid nearP;rw [<- N.out,show n - 1=q by omega]
   obtain ⟨p,hp⟩:∃ p,p=nearTo cs x q:=⟨_,rfl⟩
   rw [<- hp] at hS E ⊢
   clear hp
   obtain ⟨pp,pd⟩:=p
   dsimp only at hS ⊢
   obtain ⟨s0,s1,s2,s3⟩:=hS
   obtain ⟨v0,v1,v2,v3⟩:=hG.var2
   go_wp2
   go_region
   all_goals
    go_wp2
    exact bodyPost_ret (v:=.tuple #[.int .i64 (pp:Int),Wd pd]) (by simp [results,Tryz.results148,go_sem,v0,v1]) rfl ⟨by rw [E.out],((((Gr.refl _).alloc _ _).trans hG.drew).setCell (by simp) _).setCell (by simp) _⟩
def nearE (cs:Vs) (x:List Int):Int:=if cenE cs=0 then chk x (cs[0]!.length:Int) else cenE cs
theorem near_c {w:World} {u v:Value} {cs:Vs} {x:List Int} (hu:RdV w u cs) (hv:RdI w v x) :
  Calls Tryz.prog 108 #[u,v] w fun e w'=>e=.returned (.tuple #[.int .i64 (if nearE cs x=0 then ((nearP cs x).1:Int) else 0),Wd (if nearE cs x=0 then (nearP cs x).2 else 0),.int .i64 (nearE cs x)])/\Gr w w':=by
 have G0:Gr w (w.alloc (.cells #[.int .u64 0,.int .u64 0] 40)):=(Gr.refl _).alloc _ _
 have cc:=checkCentres_c (hu.gr G0)
 have U:Hid (RdV w u cs):=hu
 have V:Hid (RdI w v x):=hv
 obtain ⟨a,cap,rfl,ha⟩:=hu
 obtain ⟨px,cx,rfl,_⟩:=hv
 by_cases h1:cenE cs=0
 ·have E:nearE cs x=chk x (cs[0]!.length:Int):=by unfold nearE;rw [if_pos h1]
  obtain ⟨⟨h2,h3⟩,h4⟩:=cenE_zero.1 h1
  rw [h1] at cc
  have cx':=check_c (V.out.gr G0) (cs[0]!.length:Int)
  obtain ⟨b,o,u0,ea,k1,k2⟩:=ha 0 (by omega)
  subst ea
  rw [Nat.add_zero] at k1
  replace k1:=G0.keeps k1
  obtain ⟨pu,cu,rfl,_⟩:=k2
  rw [E]
  by_cases h5:chk x (cs[0]!.length:Int)=0
  ·have cn:=k_nearest_c (U.out.gr G0) (V.out.gr G0) h4 h5 h2 h3
   rw [if_pos h5,if_pos h5]
   rw [h5] at cx' ⊢
   clear ha U V E h5 h4 h1
   generalize nearP cs x=p at *
   obtain ⟨pp,pd⟩:=p
   dsimp only at cn ⊢
   generalize cs.length=n at *
   generalize cs[0]!.length=m at *
   generalize x.length=nx at *
   go_enter Tryz.func108,Tryz.ntmps108
   go_wp2_with fail
   refine cc.mono ?_
   rintro e w' ⟨rfl,e2⟩
   subst e2
   go_wp2_with fail
   refine cx'.mono ?_
   rintro e w' ⟨rfl,e2⟩
   subst e2
   go_wp2_with fail
   refine cn.mono ?_
   rintro e w2 ⟨rfl,g2⟩
   have T2:At2 (w2.alloc (.cells #[.int .u64 (hi pd),.int .u64 (lo pd)] 40)) w2.heap.size pd:=At2.new w2 pd _
   have g3:=g2.alloc #[.int .u64 (hi pd),.int .u64 (lo pd)] 40
   obtain ⟨s0,s1,s2,s3⟩:=T2
   obtain ⟨v0,v1,v2,v3⟩:=g3.var2
   clear cc cx' cn k1
   go_wp2
   go_region
   all_goals
    go_wp2
    exact bodyPost_ret (v:=.tuple #[.int .i64 (pp:Int),Wd pd,.int .i64 0]) (by simp [results,Tryz.results108,go_sem,v0,v1]) rfl ⟨rfl,((G0.trans g3.drew).setCell (by simp) _).setCell (by simp) _⟩
  ·have h6:(chk x (cs[0]!.length:Int) == 0)=false:=by rw [beq_eq_false_iff_ne];exact h5
   rw [if_neg h5,if_neg h5]
   clear ha U V E h4 h1
   generalize chk x (cs[0]!.length:Int)=z at *
   generalize cs.length=n at *
   generalize cs[0]!.length=m at *
   generalize x.length=nx at *
   go_enter Tryz.func108,Tryz.ntmps108
   go_wp2_with fail
   refine cc.mono ?_
   rintro e w' ⟨rfl,e2⟩
   subst e2
   go_wp2_with fail
   refine cx'.mono ?_
   rintro e w' ⟨rfl,e2⟩
   subst e2
   go_wp2
   exact bodyPost_ret (v:=.tuple #[.int .i64 0,Wd 0,.int .i64 z]) (by simp [results,Tryz.results108,go_sem,hi,lo]) rfl ⟨by rfl,by repeat (first | exact G0 | refine Gr.setCell ?_ (by simp) _)⟩
 ·have E:nearE cs x=cenE cs:=by unfold nearE;rw [if_neg h1]
  have h6:(cenE cs == 0)=false:=by rw [beq_eq_false_iff_ne];exact h1
  rw [E,if_neg h1,if_neg h1]
  clear ha U V E
  generalize cenE cs=z at *
  generalize cs.length=n at *
  generalize x.length=nx at *
  go_enter Tryz.func108,Tryz.ntmps108
  go_wp2_with fail
  refine cc.mono ?_
  rintro e w' ⟨rfl,e2⟩
  subst e2
  go_wp2
  exact bodyPost_ret (v:=.tuple #[.int .i64 0,Wd 0,.int .i64 z]) (by simp [results,Tryz.results108,go_sem,hi,lo]) rfl ⟨by rfl,by repeat (first | exact G0 | refine Gr.setCell ?_ (by simp) _)⟩
end Go.Proofs.YtcipdampcmfmaabGreat

namespace Go.Proofs.YtcipdampcmfmaabGreat
open Go.RowKit Go.Sort
set_option maxRecDepth 100000
set_option maxHeartbeats 4000000
theorem cell_curP {W:World} {g:Nat} {cur:Array Value} {t:TypeId} (h:W.heap[g]? = some (.cells cur t (0,0))) {j:Nat} {v:Value} (hj:cur[j]? = some v):W.cell? ⟨g,j,none⟩=some v:=by simp [World.cell?,h,hj]
theorem clear_one {W:World} {g p c:Nat} {ty:TypeId} {cur:Array Value} (h:W.heap[g]? = some (.cells cur 45 (0,0))) (hp:p + 1 < cur.size) :
  (Builtin.clear_ #[22] ty #[.slice (some ⟨g,p,none⟩) 1 c]).run Tryz.prog W=.ok (.tuple #[]) (W.setCells g p [.int .i64 0,.slice none 0 0]):=by
 have hc:∀ j,j < 2->(W.cell? ⟨g,p + j,none⟩).isSome=true:=fun j hj=>by
  rw [cell_curP h (Array.getElem?_eq_getElem (show p + j < cur.size by omega))];rfl
 have hf:∀ j,j < 2->W.frozen? ⟨g,p + j,none⟩=false:=fun j _=>by simp [World.frozen?,h]
 have hst:=run_storeCells_cells (P:=Tryz.prog) g p [.int .i64 0,.slice none 0 0] 0 W (by simpa using hc) (by simpa using hf) (by intro v hv;simp only [List.mem_cons,List.not_mem_nil,or_false] at hv;rcases hv with rfl | rfl <;> rfl)
 simp only [Nat.add_zero] at hst
 have hzc:(Builtin.zeroCells (Value.agg #[.int .i64 0,.slice none 0 0]).cells 1).toList=[.int .i64 0,.slice none 0 0]:=by first | kernel_rfl | decide | simp [Builtin.zeroCells,Value.cells]
 simp [Builtin.clear_,run_underlying Tryz.underlying22,hzc,hst]
theorem setCells_nil (w:World) (g o:Nat):w.setCells g o []=w:=rfl
theorem delP_c {w:World} {g o n cap i:Nat} {xs:List Value} (h:PcR w g o n cap xs) (hi:i < n) (hn:n<=4000) (h1c:∀ v ∈ xs,v.oneCell'=true) :
  Calls Tryz.prog 61 #[.slice (some ⟨g,o,none⟩) n cap,.int .i64 (i:Int),.int .i64 ((i + 1:Nat):Int)] w fun e w'=>e=.returned (.slice (some ⟨g,o,none⟩) (n - 1) cap)/\PcR w' g o (n - 1) cap (xs.take (i * 2) ++ xs.drop ((i + 1) * 2))/\Tn w w' g o (cap * 2):=by
 obtain ⟨cur,hg,hsz,hle,hmx,hxl,htk⟩:=h
 obtain ⟨i0,hi0,_,hzs,_⟩:=info_insR
 have mixed:Tryz.prog.follows Departure.mixedOrders=true:=by kernel_rfl
 have hmx2:=hmx
 have hcs:∀ j v,xs[j]? = some v->w.cell? ⟨g,o + j,none⟩=some v:=fun j v hj=>by
  have hjl:=(List.getElem?_eq_some_iff.1 hj).1
  rw [<- htk,List.getElem?_take_of_lt (by omega),List.getElem?_drop,Array.getElem?_toList] at hj
  simp [World.cell?,hg,hj]
 have hdl:(xs.drop ((i + 1) * 2)).length=(n - (i + 1)) * 2:=by rw [List.length_drop,hxl];omega
 have hap:∀ (ty:TypeId) (a:Addr) (c:Nat),(i + 1 < n->a=⟨g,o + (i + 1) * 2,none⟩)->(Builtin.append_ #[22,22] ty #[.slice (some ⟨g,o,none⟩) i cap,.slice (some a) (n - (i + 1)) c]).run Tryz.prog w.drew=.ok (.slice (some ⟨g,o,none⟩) (n - 1) cap) (w.drew.setCells g (o + i * 2) (xs.drop ((i + 1) * 2))):=fun ty a c ha=>by
  have:=run_append_room_cells (P:=Tryz.prog) w.drew 22 ty 45 i0 Tryz.underlying22 hi0 g o i cap a (n - (i + 1)) c (xs.drop ((i + 1) * 2)) (by rw [hdl,hzs]) (fun j u hj=>by
   have hlt:=(List.getElem?_eq_some_iff.1 hj).1
   rw [hdl] at hlt
   rw [ha (by omega),Addr.add_lit,Nat.add_assoc]
   exact hcs _ u (by rwa [List.getElem?_drop] at hj)) (fun v hv=>h1c v (List.mem_of_mem_drop hv)) (by omega)
   (fun j hj=>by rw [hdl] at hj;rw [hzs];exact some_setCells g _ _ hg (by omega)) (fun j hj=>by simp [World.frozen?,show w.drew.heap[g]? = _ from hg])
  rw [hzs,show i + (n - (i + 1))=n - 1 by omega] at this
  exact this
 obtain ⟨c1,e1,s1,f1⟩:=setCells_heap g 45 (0,0) (xs.drop ((i + 1) * 2)) (o + i * 2) w.drew cur hg (by rw [hdl];omega)
 have hcl:=fun (c:Nat) (ty:TypeId)=>clear_one (c:=c) (ty:=ty) (p:=o + (n - 1) * 2) e1 (by omega)
 have hS:∀ c,w.heap[g]? = some (.cells c 45 (0,0))->o + cap * 2<=c.size:=fun c e=>by
  rw [hg] at e
  injection e with e
  injection e with e _ _
  subst e
  exact hsz
 have FK:Hid (Tn w ((w.drew.setCells g (o + i * 2) (xs.drop ((i + 1) * 2))).setCells g (o + (n - 1) * 2) [.int .i64 0,.slice none 0 0]) g o (cap * 2)):=by
  have t1:=tn_set (tn_drew (tn_refl (l:=cap * 2) (o:=o) hg)) (vs:=xs.drop ((i + 1) * 2)) (a:=o + i * 2) (by omega) (by rw [hdl];omega) hS
  exact tn_set t1 (vs:=[.int .i64 0,.slice none 0 0]) (a:=o + (n - 1) * 2) (by omega) (by simp;omega) hS
 have FD:Hid (PcR ((w.drew.setCells g (o + i * 2) (xs.drop ((i + 1) * 2))).setCells g (o + (n - 1) * 2) [.int .i64 0,.slice none 0 0]) g o (n - 1) cap (xs.take (i * 2) ++ xs.drop ((i + 1) * 2))):=by
  obtain ⟨c2,e2,s2,f2⟩:=setCells_heap g 45 (0,0) [.int .i64 0,.slice none 0 0] (o + (n - 1) * 2) _ c1 e1 (by simp;omega)
  refine ⟨c2,e2,by omega,by omega,hmx,by rw [List.length_append,hdl,List.length_take];omega,?_⟩
  have hcur:∀ t,t < n * 2->cur[o + t]? = xs[t]? := fun t ht=>by rw [<- htk,List.getElem?_take_of_lt (by omega),List.getElem?_drop,Array.getElem?_toList]
  apply List.ext_getElem?
  intro t
  by_cases ht:t < (n - 1) * 2
  ·rw [List.getElem?_take_of_lt ht,List.getElem?_drop,Array.getElem?_toList,f2,if_neg (by omega),f1,hdl]
   by_cases h0:t < i * 2
   ·rw [if_neg (by omega),hcur t (by omega),List.getElem?_append_left (by rw [List.length_take];omega),List.getElem?_take_of_lt h0]
   ·rw [if_pos (by omega),List.getElem?_append_right (by rw [List.length_take];omega),List.length_take,Nat.min_eq_left (by omega)]
    congr 1
    omega
  ·rw [List.getElem?_take,if_neg ht,List.getElem?_eq_none (by rw [List.length_append,hdl,List.length_take];omega)]
 have hz2:¬ ((i:Int)=(i:Int) + 1):=by omega
 have hb1:(i:Int) + 1<=(n:Int):=by omega
 have hb5:(i:Int)<=(i:Int) + 1:=by omega
 have hb6:(0:Int)<=(i:Int) + 1:=by omega
 have hb2:(n:Int)<=(cap:Int):=by omega
 have hb3:(i:Int)<=(cap:Int):=by omega
 have hb4:(i:Int)<=(n:Int):=by omega
 have hcn:¬ cap=n - 1:=by omega
 have hci:¬ cap=i:=by omega
 have hnn:n - (n - 1)=1:=by omega
 have hn1:1<=n:=by omega
 have hni:¬ n=i:=by omega
 have hii:i<=i + 1:=by omega
 have hdr:n=i + 1->xs.drop ((i + 1) * 2)=[]:=fun e=>List.drop_of_length_le (by omega)
 clear hg htk hxl hcs hdl hsz hi0 hzs e1 s1 f1 hmx h1c hS
 by_cases hcc:cap=i + 1
 ·have hin:n=i + 1:=by omega
  have hap2:=fun ty c=>hap ty ⟨g,o,none⟩ c (fun e=>by omega)
  clear hap
  subst hcc hin
  simp only [Nat.sub_self,Nat.add_sub_cancel,hdr rfl,setCells_nil] at hap2 hcl FD FK ⊢
  clear hdr
  go_enter Tryz.func61,Tryz.ntmps61
  go_wp2
  go_region_law_o (refine step_append_k rfl _ _ 22 22 rfl _ _ (by simp [Act.eval,Act.put]) (by simp [Act.eval,Act.put]) (hap2 _ _) ?_)
  go_wp2
  go_ret
  exact ⟨rfl,FD.out,FK.out⟩
 ·have hap2:=fun ty c=>hap ty ⟨g,o + (i + 1) * 2,none⟩ c (fun _=>rfl)
  clear hap
  go_enter Tryz.func61,Tryz.ntmps61
  go_wp2
  go_region_law_o (refine step_append_k rfl _ _ 22 22 rfl (.slice (some ⟨g,o,none⟩) i cap) (.slice (some ⟨g,o + (i + 1) * 2,none⟩) (n - (i + 1)) (cap - (i + 1))) (by simp [Act.eval,Act.put]) (by simp [Act.eval,Act.put]) (hap2 22 (cap - (i + 1))) ?_)
  go_wp2
  go_ret
  exact ⟨rfl,FD.out,FK.out⟩
end Go.Proofs.YtcipdampcmfmaabGreat

namespace Go.Proofs.YtcipdampcmfmaabGreat
open Go.RowKit
set_option maxRecDepth 100000
set_option maxHeartbeats 4000000
structure Kp (S:Nat->Prop) (w w':World):Prop where
 os:w'.os=w.os
 tape:w'.tape=w.tape
 output:w'.output=w.output
 size:w.heap.size<=w'.heap.size
 block:∀ b,b < w.heap.size->¬ S b->w'.heap[b]? = w.heap[b]?
theorem Kp.refl (S:Nat->Prop) (w:World):Kp S w w:=⟨rfl,rfl,rfl,Nat.le_refl _,fun _ _ _=>rfl⟩
theorem Kp.trans {S:Nat->Prop} {a b c:World} (h:Kp S a b) (k:Kp S b c):Kp S a c :=
 ⟨k.os.trans h.os,k.tape.trans h.tape,k.output.trans h.output,Nat.le_trans h.size k.size,fun i hi hn=>(k.block i (Nat.lt_of_lt_of_le hi h.size) hn).trans (h.block i hi hn)⟩
theorem Kp.set {S:Nat->Prop} {a w:World} (h:Kp S a w) {p:Addr} (hp:S p.block ∨ a.heap.size<=p.block) (u:Value):Kp S a (w.setCell p u) :=
 ⟨h.os,h.tape,h.output,Nat.le_trans h.size (KeepsWalks.setCell w p u).size,fun k hk hn=>(Below.heap_setCell w p u k (fun e=>by
  rcases hp with hp | hp
  ·exact hn (by rw [e];exact hp)
  ·omega)).trans (h.block k hk hn)⟩
theorem Kp.below {S:Nat->Prop} {w0 w w':World} (h:Kp S w w') (g:Gb w0 w) (hS:∀ b,S b->w0.heap.size<=b):Gb w0 w' :=
 ⟨h.os.trans g.os,h.tape.trans g.tape,h.output.trans g.output,Nat.le_trans g.size h.size,fun k hk=>(h.block k (Nat.lt_of_lt_of_le hk g.size) (fun e=>by have:=hS k e;omega)).trans (g.block k hk)⟩
theorem Kp.mono {S T:Nat->Prop} {w w':World} (h:Kp S w w') (hS:∀ b,S b->T b):Kp T w w':=⟨h.os,h.tape,h.output,h.size,fun b hb hn=>h.block b hb (fun e=>hn (hS b e))⟩
theorem Kp.gb {S:Nat->Prop} {w w':World} (g:Gb w w'):Kp S w w':=⟨g.os,g.tape,g.output,g.size,fun b hb _=>g.block b hb⟩
theorem Kp.cell {S:Nat->Prop} {w w':World} (h:Kp S w w') {p:Addr} {v:Value} (hc:w.cell? p=some v) (hn:¬ S p.block):w'.cell? p=some v :=
 (World.cell?_of_block (h.block p.block (World.block_lt_of_cell? w p hc) hn)).trans hc
theorem arr_kp {S:Nat->Prop} {w w':World} {g n cap:Nat} {f:Nat->Int} (h:Rn.Arr w g n cap f) (k:Kp S w w') (hn:¬ S g):Rn.Arr w' g n cap f:=by
 have hl:=h.lt
 obtain ⟨cur,h1,h2⟩:=h
 exact ⟨cur,(k.block g hl hn).trans h1,h2⟩
theorem own_kp {S:Nat->Prop} {w w':World} {B:Nat} {v:Value} {l:List Int} (h:Own w B v l) (k:Kp S w w') (hn:∀ g,v.ownBlock=some g->¬ S g):Own w' B v l:=by
 refine ⟨h.1,?_⟩
 rcases h.2 with h | ⟨g,cap,cur,rfl,h1,h2,r⟩
 ·exact .inl h
 ·exact .inr ⟨g,cap,cur,rfl,h1,(k.block g (Array.getElem?_eq_some_iff.1 h2).1 (hn g rfl)).trans h2,r⟩
theorem arr_rd {w:World} {g n cap:Nat} {f:Nat->Int} {l:List Int} (h:Rn.Arr w g n cap f) (hn:l.length=n) (hf:∀ i,i < n->f i=l[i]!):RdI w (.slice (some ⟨g,0,none⟩) n cap) l :=
 ⟨some ⟨g,0,none⟩,cap,by rw [hn],fun i hi=>⟨g,0,rfl,by rw [Nat.zero_add,h.cell (by omega),hf i (by omega)]⟩⟩
theorem ediv_uniq {a b q:Int} (hb:0 < b) (h1:q * b<=a) (h2:a < (q + 1) * b):a / b=q:=by
 have h3:=(Int.le_ediv_iff_mul_le hb).2 h1
 have h4:=Int.ediv_lt_of_lt_mul hb h2
 omega
theorem div_neg {a:Int} {b:Nat} (hb:0 < b) (h:a.tmod b < 0):a.tdiv b - 1=a / b:=by
 have h1:=Int.tmod_add_mul_tdiv a b
 have h2:=Int.lt_tmod_of_pos a (b:=(b:Int)) (by omega)
 refine (ediv_uniq (by omega) ?_ ?_).symm
 ·rw [Int.sub_mul,Int.mul_comm];omega
 ·rw [Int.sub_add_cancel,Int.mul_comm];omega
theorem div_pos {a:Int} {b:Nat} (hb:0 < b) (h:¬ a.tmod b < 0):a.tdiv b=a / b:=by
 have h1:=Int.tmod_add_mul_tdiv a b
 have h2:=Int.tmod_lt_of_pos a (b:=(b:Int)) (by omega)
 refine (ediv_uniq (by omega) ?_ ?_).symm
 ·rw [Int.mul_comm];omega
 ·rw [Int.add_mul,Int.mul_comm];omega
theorem divide_c (a:Int) (b:Nat) (hb:0 < b) (ha:-4611686018427387904<=a/\a<=4611686018427387904) (w:World) :
  Calls Tryz.prog 184 #[.int .i64 a,.int .i64 (b:Int)] w fun e w'=>e=.returned (.int .i64 (a / b))/\w=w':=by
 have hq:-4611686018427387904<=a / b/\a / b<=4611686018427387904:=by
  refine div_within (by omega) ?_ ?_
  ·have:(-4611686018427387904:Int) * b<=-4611686018427387904:=by omega
   omega
  ·have:(4611686018427387904:Int)<=4611686018427387904 * b:=by omega
   omega
 have hb0:((b:Int) == 0)=false:=by rw [beq_eq_false_iff_ne];omega
 have hb1:¬ (b:Int)=0:=by omega
 have hb2:¬ (b:Int)=-1:=by omega
 by_cases h:a.tmod b < 0
 ·have e:=div_neg hb h
  have hq2:-4611686018427387904<=a.tdiv b/\a.tdiv b<=4611686018427387905:=by omega
  obtain ⟨q1,q2⟩:=hq2
  have w1:IntKind.i64.wrap (a.tdiv b)=a.tdiv b:=by rw [IntKind.wrap_i64];omega
  have w2:IntKind.i64.wrap (a.tdiv b - 1)=a.tdiv b - 1:=by rw [IntKind.wrap_i64];omega
  rw [<- e]
  go_enter Tryz.func184,Tryz.ntmps184
  go_wp2
  go_ret
  exact ⟨by simp;exact e.symm,rfl⟩
 ·have e:=div_pos hb h
  have hq2:-4611686018427387904<=a.tdiv b/\a.tdiv b<=4611686018427387905:=by omega
  obtain ⟨q1,q2⟩:=hq2
  have w1:IntKind.i64.wrap (a.tdiv b)=a.tdiv b:=by rw [IntKind.wrap_i64];omega
  rw [<- e]
  go_enter Tryz.func184,Tryz.ntmps184
  go_wp2
  go_ret
  exact ⟨by simp,rfl⟩
theorem coord_at {w:World} {a:Option Addr} {n cap:Nat} {l:Vs} (h:RdV w (.slice a n cap) l) {j t:Nat} (hj:j < l.length) (ht:t < l[j]!.length):∃ b o b' o' c',a=some ⟨b,o,none⟩/\w.cell? ⟨b,o + j,none⟩=some (.slice (some ⟨b',o',none⟩) l[j]!.length c')/\w.cell? ⟨b',o' + t,none⟩=some (.int .i64 l[j]![t]!):=by
 obtain ⟨_,_,e,h⟩:=h
 cases e
 obtain ⟨b,o,u,e1,h1,pu,cu,rfl,h2⟩:=h j hj
 obtain ⟨b',o',e2,h3⟩:=h2 t ht
 subst e2
 exact ⟨b,o,b',o',cu,e1,h1,h3⟩
def midF (l:Vs) (f:Nat->Int) (ps:List Nat):Nat->Int:=if ps.length=0 then f else fun t=>sumTo l ps t ps.length / (ps.length:Int)
theorem place_at {w:World} {a:Option Addr} {n cap:Nat} {ps:List Nat} (h:RdI w (.slice a n cap) (ps.map Int.ofNat)) {i:Nat} (hi:i < ps.length):∃ b o,a=some ⟨b,o,none⟩/\w.cell? ⟨b,o + i,none⟩=some (.int .i64 (ps[i]! : Nat)):=by
 obtain ⟨_,_,e,h⟩:=h
 cases e
 obtain ⟨b,o,e1,h1⟩:=h i (by simpa using hi)
 refine ⟨b,o,e1,?_⟩
 rw [h1,getElem!_pos _ i (by simpa using hi),getElem!_pos ps i hi];simp
theorem move_c {w:World} {lv pv:Value} {l:Vs} {g d cap:Nat} {f:Nat->Int} {ps:List Nat} (hl:∀ W,Kp (fun b=>b=g) w W->RdV W lv l) (hp:∀ W,Kp (fun b=>b=g) w W->RdI W pv (ps.map Int.ofNat))
  (hA:Rn.Arr w g d cap f) (hd:d<=64) (hps:∀ i,i < ps.length->ps[i]! < l.length) (hlen:ps.length<=512) (hok:∀ j,j < l.length->l[j]!.length=d/\allR l[j]! = true) :
  Calls Tryz.prog 159 #[.slice (some ⟨g,0,none⟩) d cap,lv,pv] w fun e w'=>e=.returned (.tuple #[])/\Rn.Arr w' g d cap (midF l f ps)/\Kp (fun b=>b=g) w w':=by
 have L:Hid (∀ W,Kp (fun b=>b=g) w W->RdV W lv l):=hl
 have P:Hid (∀ W,Kp (fun b=>b=g) w W->RdI W pv (ps.map Int.ofNat)):=hp
 have O:Hid ((∀ i,i < ps.length->ps[i]! < l.length)/\∀ j,j < l.length->l[j]!.length=d/\allR l[j]! = true):=⟨hps,hok⟩
 obtain ⟨al,cl,rfl,_⟩:=hl w (Kp.refl _ _)
 obtain ⟨ap,cp,rfl,_⟩:=hp w (Kp.refl _ _)
 rw [List.length_map] at P ⊢
 obtain ⟨n,hN⟩:∃ n,n=ps.length:=⟨_,rfl⟩
 have N:Hid (n=ps.length):=hN
 rw [<- hN] at P hlen ⊢
 clear hl hp hps hok
 by_cases hn:n=0
 ·have E:Hid (midF l f ps=f):=by unfold Hid midF;rw [if_pos (by omega)]
  subst hn
  clear hN
  go_enter Tryz.func159,Tryz.ntmps159
  go_wp2
  refine bodyPost_ret (results_none rfl _ _ _) rfl ?_
  exact ⟨rfl,by rw [E.out];exact hA,Kp.refl _ _⟩
 ·have E:Hid (midF l f ps=fun t=>sumTo l ps t n / (n:Int)):=by unfold Hid midF;rw [if_neg (by omega),hN]
  have hn':((n:Int) == 0)=false:=by rw [beq_eq_false_iff_ne];omega
  have hn0:0 < n:=by omega
  clear hN hn
  go_enter Tryz.func159,Tryz.ntmps159
  go_wp2
  go_loopw [14] (fun iv W=>∃ q:Nat,iv=.int .i64 (q:Int)/\q<=d/\Kp (fun b=>b=g) w W/\Rn.Arr W g d cap (fun t=>if t < q then sumTo l ps t n / (n:Int) else f t)) (fun iv _=>d - (intOf iv).toNat)
  case atStart=>exact ⟨0,rfl,Nat.zero_le _,Kp.refl _ _,hA.congr (fun i _=>by simp)⟩
  case round =>
   obtain ⟨q,rfl,hq,hK,hB⟩:=hrel
   by_cases hqn:q < d
   ·have hqi:decide ((q:Int) < (d:Int))=true:=by rw [decide_eq_true_eq];omega
    have LW:=L.out wr hK
    have PW:=P.out wr hK
    have bd:∀ r,r<=n->-4611686018427387904<=sumTo l ps q r/\sumTo l ps q r<=4611686018427387904:=by
     intro r hr
     have hr':r<=512:=by omega
     have:=sumTo_within l ps q (-2147483647) 2147483647 r (by have:=N.out;omega) (fun i hi=>by
      have h1:=O.out.1 i (by have:=N.out;omega)
      have h2:=O.out.2 _ h1
      exact allR_get h2.2 (by omega))
     omega
    have BD:Hid (∀ r,r<=n->-4611686018427387904<=sumTo l ps q r/\sumTo l ps q r<=4611686018427387904):=bd
    have LW':Hid (RdV wr (.slice al l.length cl) l):=LW
    have PW':Hid (RdI wr (.slice ap n cp) (ps.map Int.ofNat)):=PW
    clear LW PW bd
    go_wp2
    go_loopw [7,19] (fun sv iv W=>∃ r:Nat,iv=.int .i64 (r:Int)/\r<=n/\sv=.int .i64 (sumTo l ps q r)/\wr=W) (fun _ iv _=>n - (intOf iv).toNat)
    case atStart=>exact ⟨0,rfl,Nat.zero_le _,rfl,rfl⟩
    case round =>
     obtain ⟨r,rfl,hr,rfl,rfl⟩:=hrel
     by_cases hrn:r < n
     ·have hri:(r:Int) < (n:Int):=by omega
      have hrl:r < ps.length:=by have:=N.out;omega
      obtain ⟨b1,o1,ea,k1⟩:=place_at PW'.out hrl
      have hj:=O.out.1 r hrl
      have hjd:=O.out.2 _ hj
      obtain ⟨b2,o2,b3,o3,c3,eb,k2,k3⟩:=coord_at LW'.out (j:=ps[r]!) (t:=q) hj (by omega)
      rw [hjd.1] at k2
      have NX:Hid (sumTo l ps q (r + 1)=sumTo l ps q r + l[ps[r]!]![q]!):=rfl
      have hb1:=BD.out r hr
      have hb2:=BD.out (r + 1) hrn
      rw [NX.out] at hb2
      generalize sumTo l ps q r=s at *
      generalize l[ps[r]!]![q]! = y at *
      generalize ps[r]! = j at *
      obtain ⟨nl,hnl⟩:∃ nl,nl=l.length:=⟨_,rfl⟩
      rw [<- hnl] at hj
      have hji:(j:Int) < (nl:Int):=by omega
      have hqd:(q:Int) < (d:Int):=by omega
      subst ea
      subst eb
      obtain ⟨m1,m2⟩:=hb1
      obtain ⟨m3,m4⟩:=hb2
      have ww:IntKind.i64.wrap (s + y)=s + y:=by rw [IntKind.wrap_i64];omega
      clear hjd L P LW' PW' O BD
      rw [<- hnl]
      clear hnl
      go_wp2
      go_roundw
      case rel=>exact ⟨r + 1,by go_num,hrn,by rw [NX.out],by first | rfl | trivial⟩
      case measure=>simp [intOf];omega
     ·have hri:¬ (r:Int) < (n:Int):=by omega
      have hrn':r=n:=by omega
      subst hrn'
      have hb:=BD.out r (Nat.le_refl _)
      have cd:=fun W=>divide_c (sumTo l ps q r) r hn0 hb W
      have cA:=hB.cell hqn
      have fA:=hB.frozen q
      have hqd:(q:Int) < (d:Int):=by omega
      have HB:=(hB.set hqn (sumTo l ps q r / (r:Int))).congr (f':=fun t=>if t < q + 1 then sumTo l ps t r / (r:Int) else f t) (fun i hi=>by
       by_cases e:i=q
       ·subst e;simp
       ·simp only [if_neg e];by_cases e2:i < q
        ·rw [if_pos e2,if_pos (by omega)]
        ·rw [if_neg e2,if_neg (by omega)])
      have HK:=hK.set (p:=⟨g,q,none⟩) (.inl rfl) (.int .i64 (sumTo l ps q r / (r:Int)))
      generalize sumTo l ps q r / (r:Int)=z at *
      generalize sumTo l ps q r=s at *
      clear L P LW' PW' O BD hb hB hK
      go_wp2_with (go_at_call 184;refine (cd _).mono ?_;rintro e w' ⟨rfl,e2⟩;subst e2)
      go_roundw
      case rel=>exact ⟨q + 1,by go_num,hqn,HK,HB⟩
      case measure=>simp [intOf];omega
   ·have hqi:¬ (q:Int) < (d:Int):=by omega
    go_wp2
    refine bodyPost_end (results_none rfl _ _ _) rfl ?_
    exact ⟨rfl,by rw [E.out];exact hB.congr (fun i hi=>by rw [if_pos (by omega)]),hK⟩
end Go.Proofs.YtcipdampcmfmaabGreat
