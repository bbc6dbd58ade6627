import Derived.Test.YtepjbdklljlecaaGreatVrBoxY
import Derived.Test.YtepjbdklljlecaaGreatVr15
namespace Go.Proofs.YtepjbdklljlecaaGreat
open Go.RowKit Go.Sort Go.Maps
set_option maxRecDepth 100000
set_option maxHeartbeats 4000000
def radN (c:List Int) (rs:List Rw):Nat->Nat
 | 0=>0
 | k + 1=>if radN c rs k < dst c rs[k]!.2 then dst c rs[k]!.2 else radN c rs k
def ballE (c:List Int) (rs:List Rw):Int:=if chk c c.length=0 then idsE rs c.length else chk c c.length
def ballR (c:List Int) (rs:List Rw):Reg:=if ballE c rs=0 then ⟨3,c,[],radN c rs rs.length,srt (idsOf rs)⟩ else ⟨0,[],[],0,[]⟩
theorem ballE_ok {c:List Int} {rs:List Rw} (h:ballE c rs=0):chk c c.length=0/\idsE rs c.length=0:=by
 unfold ballE at h;split at h
 ·rename_i h1;exact ⟨h1,h⟩
 ·rename_i h1;exact absurd h h1
theorem cmp3_gt (a b:Nat):decide (cmp3 a b > 0)=decide (b < a):=by
 unfold cmp3
 by_cases h:a < b
 ·rw [if_pos h,decide_eq_false (by omega),decide_eq_false (by omega)]
 ·rw [if_neg h]
  by_cases h2:a=b
  ·rw [if_pos h2,decide_eq_false (by omega),decide_eq_false (by omega)]
  ·rw [if_neg h2,decide_eq_true (by omega),decide_eq_true (by omega)]
theorem ball_no {w:World} {u v:Value} {c:List Int} {rs:List Rw} (hu:RdI w u c) (h:RdW w v rs) (hlen:rs.length<=4611686018427387904) (hwf:∀ i,i < rs.length->(Lit.int .i64 rs[i]!.1).wf=true) (hne:ballE c rs ≠ 0) :
  Calls Tryz.prog 133 #[u,v] w fun e w'=>∃ vl vh vi,e=.returned (.tuple #[rv (ballR c rs) vl vh vi,.int .i64 (ballE c rs)])/\OutR w w' (ballR c rs) vl vh vi:=by
 have ER:ballR c rs=⟨0,[],[],0,[]⟩:=by unfold ballR;rw [if_neg hne]
 rw [ER]
 have E:Hid (ballE c rs=if chk c c.length=0 then idsE rs c.length else chk c c.length):=rfl
 have G0:Gb w (w.alloc z36):=gb_alloc (Below.refl _ _) _
 have C50:=idsOf_c (h.gb G0) (c.length:Int) hlen hwf
 have C11:=fun r hr=>check_v (hu.gb G0) (c.length:Int) r hr
 obtain ⟨a,cap,rfl,_⟩:=h
 obtain ⟨pc,cc,rfl,_⟩:=hu
 have hne':(ballE c rs == 0)=false:=by rw [beq_eq_false_iff_ne];exact hne
 have HNE:Hid (ballE c rs ≠ 0):=hne
 generalize ballE c rs=be at *
 by_cases h0:chk c c.length=0
 ·rw [if_pos h0] at E
  have c11:=C11 _ h0
  rw [<- E.out] at C50
  generalize rs.length=n at *
  generalize c.length=m at *
  clear E h0 C11 hwf hlen hne ER
  go_enter Tryz.func133,Tryz.ntmps133
  go_wp2_with fail
  refine c11.mono ?_
  rintro e w' ⟨rfl,e2⟩
  subst e2
  go_wp2_with fail
  refine C50.mono ?_
  rintro e w1 ⟨v',rfl,g1,_,k2⟩
  have e2:=k2 HNE.out
  subst e2
  clear k2
  obtain ⟨⟨q0,q1,q2,q3,q4,q5⟩,qf⟩:=reg0 g1
  have f0:=qf 0 (by omega)
  have f1:=qf 1 (by omega)
  have f2:=qf 2 (by omega)
  have f3:=qf 3 (by omega)
  have f4:=qf 4 (by omega)
  have f5:=qf 5 (by omega)
  clear qf
  have hB:w.heap.size<=w.heap.size:=Nat.le_refl _
  have GG:=gb_trans G0 g1
  go_wp2
  exact bodyPost_ret (v:=.tuple #[.agg #[.int .i64 0,.slice none 0 0,.slice none 0 0,.int .u64 0,.int .u64 0,.slice none 0 0],.int .i64 be]) (by simp [results,Tryz.results133,go_sem,q0,q1,q2,q3,q4,q5]) rfl ⟨.slice none 0 0,.slice none 0 0,.slice none 0 0,rfl,outR_nil (gb_set (gb_set (gb_set (gb_set (gb_set (gb_set GG hB _) hB _) hB _) hB _) hB _) hB _)⟩
 ·rw [if_neg h0] at E
  have c11:=C11 be E.out.symm
  generalize rs.length=n at *
  generalize c.length=m at *
  clear E h0 C11 hwf hlen hne ER C50
  go_enter Tryz.func133,Tryz.ntmps133
  go_wp2_with fail
  refine c11.mono ?_
  rintro e w' ⟨rfl,e2⟩
  subst e2
  go_wp2
  exact bodyPost_ret (v:=.tuple #[.agg #[.int .i64 0,.slice none 0 0,.slice none 0 0,.int .u64 0,.int .u64 0,.slice none 0 0],.int .i64 be]) (by simp [results,Tryz.results133,go_sem]) rfl ⟨.slice none 0 0,.slice none 0 0,.slice none 0 0,rfl,outR_nil G0⟩
theorem ball_yes {w:World} {u v:Value} {c:List Int} {rs:List Rw} (hu:RdI w u c) (h:RdW w v rs) (hlen:rs.length<=4611686018427387904) (hwf:∀ i,i < rs.length->(Lit.int .i64 rs[i]!.1).wf=true) (hok:ballE c rs=0) :
  Calls Tryz.prog 133 #[u,v] w fun e w'=>∃ vl vh vi,e=.returned (.tuple #[rv (ballR c rs) vl vh vi,.int .i64 (ballE c rs)])/\OutR w w' (ballR c rs) vl vh vi:=by
 have ER:ballR c rs=⟨3,c,[],radN c rs rs.length,srt (idsOf rs)⟩:=by unfold ballR;rw [if_pos hok]
 rw [ER,hok]
 obtain ⟨ce,ie⟩:=ballE_ok hok
 obtain ⟨r2,rok⟩:=idsE_ok ie
 obtain ⟨c1,c2,_,c4⟩:=chk_ok ce
 have G0:Gb w (w.alloc z36):=gb_alloc (Below.refl _ _) _
 have C50:=idsOf_c (h.gb G0) (c.length:Int) hlen hwf
 rw [ie] at C50
 have C11:=check_v (hu.gb G0) (c.length:Int) 0 ce
 have VL:Hid (∀ i,i < rs.length->rs[i]!.2.length=c.length/\allR rs[i]!.2=true):=by
  intro i hi
  have:=chk_ok (rok i hi).1
  exact ⟨by omega,this.2.2.2⟩
 have C33:Hid (∀ i,i < rs.length->∀ W' uv,Gb w W'->RdI W' uv rs[i]!.2->Calls Tryz.prog 149 #[u,uv] W' fun e w'=>e=.returned (Wd (dst c rs[i]!.2))/\Gr W' w'):=by
  intro i hi W' uv g hr
  exact distance_c (hu.gb g) hr (VL.out i hi).1.symm c2 c4 (VL.out i hi).2
 have CL:Hid (∀ W',Gb w W'->Calls Tryz.prog 50 #[u] W' fun e w'=>∃ v',e=.returned v'/\Own w' W'.heap.size v' c/\Gb W' w'):=fun W' g=>clone_c (hu.gb g) (by omega) c1
 obtain ⟨pc,cc,rfl,_⟩:=hu
 obtain ⟨a,cap,rfl,ha⟩:=h
 have A:Hid (∀ i,i < rs.length->∃ b o u,a=some ⟨b,o,none⟩/\w.cell? ⟨b,o + i * 2,none⟩=some (.int .i64 rs[i]!.1)/\w.cell? ⟨b,o + i * 2 + 1,none⟩=some u/\RdI w u rs[i]!.2):=ha
 obtain ⟨n,hN⟩:∃ n,n=rs.length:=⟨_,rfl⟩
 have N:Hid (n=rs.length):=hN
 rw [<- hN] at C50 r2 ⊢
 have L0:Hid (1<=c.length):=c1
 obtain ⟨m,hm⟩:∃ m,m=c.length:=⟨_,rfl⟩
 have M:Hid (m=c.length):=hm
 rw [<- hm] at C50 C11 ⊢
 simp only [<- hm] at C33 CL
 clear hlen hwf hok ER rok ha hN ie ce c1 c2 c4 hm
 go_enter Tryz.func133,Tryz.ntmps133
 go_wp2_with fail
 refine C11.mono ?_
 rintro e w' ⟨rfl,e2⟩
 subst e2
 go_wp2_with fail
 refine C50.mono ?_
 rintro e w1 ⟨vi,rfl,g1,k1,_⟩
 have OI:Hid (Own w1 (w.alloc z36).heap.size vi (srt (idsOf rs))/\Gb (w.alloc z36) w1):=⟨k1 trivial,g1⟩
 obtain ⟨pi,ci,ei,_⟩:=(k1 trivial).rd
 subst ei
 generalize (srt (idsOf rs)).length=ni at *
 have GW:Gb w w1:=gb_trans G0 g1
 have S0:Hid (At2 (w1.alloc (.cells #[.int .u64 0,.int .u64 0] 66)) w1.heap.size 0/\Gb w1 (w1.alloc (.cells #[.int .u64 0,.int .u64 0] 66))):=⟨At2.new w1 0 66,gb_alloc (Below.refl _ _) _⟩
 clear C50 C11 k1
 go_wp2
 go_loopw [34] (fun iv w'=>∃ k s:Nat,iv=.int .i64 (k:Int)/\k<=n/\Hid (s=radN c rs k)/\Hid (At2 w' w1.heap.size s/\Gb w1 w')) (fun iv _=>n - (intOf iv).toNat)
 case atStart=>exact ⟨0,0,rfl,Nat.zero_le _,rfl,S0.out⟩
 case round =>
  clear S0
  obtain ⟨k,s,rfl,hk,X,Y⟩:=hrel
  by_cases hkn:k < n
  ·have hki:(k:Int) < (n:Int):=by omega
   have hkl:k < rs.length:=by have:=N.out;omega
   obtain ⟨b,o,uk,ea,y0,y1,y2⟩:=A.out k hkl
   subst ea
   have GY:=gb_trans GW Y.out.2
   have y0:=gb_keeps GY y0
   have y1:=gb_keeps GY y1
   have y2:=y2.gb GY
   have C:=fun W' (g:Gb w W') (hr:RdI W' uk rs[k]!.2)=>C33.out k hkl W' uk g hr
   have RX:Hid (radN c rs (k + 1)=if radN c rs k < dst c rs[k]!.2 then dst c rs[k]!.2 else radN c rs k):=rfl
   have Y2:Hid (RdI wr uk rs[k]!.2):=y2
   obtain ⟨pk,ck,ek,_⟩:=y2
   subst ek
   generalize rs[k]!.1=idk at *
   generalize dst c rs[k]!.2=dk at *
   generalize rs[k]!.2.length=nk at *
   clear hkl
   have GA:Gb w (wr.alloc (.cells #[.int .i64 idk,.slice pk nk ck] 43)):=gb_alloc GY _
   go_wp2_with fail
   refine (C _ GA (Y2.out.gb (gb_alloc (Below.refl _ _) _))).mono ?_
   rintro e w2 ⟨rfl,g2⟩
   have GB:Hid (At2 (w2.alloc (.cells #[.int .u64 (hi dk),.int .u64 (lo dk)] 66)) w2.heap.size dk/\At2 (w2.alloc (.cells #[.int .u64 (hi dk),.int .u64 (lo dk)] 66)) w1.heap.size s/\Gb w1 (w2.alloc (.cells #[.int .u64 (hi dk),.int .u64 (lo dk)] 66))/\w1.heap.size < w2.heap.size):=by
    obtain ⟨p1,p2⟩:=Y.out
    have g3:Gr wr w2:=((Gr.refl _).alloc _ _).trans g2
    have p3:=p1.gr g3
    refine ⟨At2.new w2 dk 66,p3.gr ((Gr.refl _).alloc _ _),gb_alloc (gb_trans p2 g3.gb) _,?_⟩
    exact World.block_lt_of_cell? w2 _ p3.c0
   clear C y0 y1 Y2 GA GY g2 Y
   have d0:=GB.out.1.c0
   have d1:=GB.out.1.c1
   have s0:=GB.out.2.1.c0
   have s1:=GB.out.2.1.c1
   go_wp2_with fail
   refine (cmp_any dk s _).mono ?_
   rintro e w3 ⟨rfl,g3⟩
   have GC:Hid (At2 w3 w2.heap.size dk/\At2 w3 w1.heap.size s/\Gb w1 w3/\w1.heap.size < w2.heap.size):=⟨GB.out.1.gr g3,GB.out.2.1.gr g3,gb_trans GB.out.2.2.1 g3.gb,GB.out.2.2.2⟩
   clear d0 d1 s0 s1 GB g3
   by_cases hlt:s < dk
   ·have hc:cmp3 dk s > 0:=by
     have:=cmp3_gt dk s
     rw [decide_eq_true hlt] at this
     exact of_decide_eq_true this
    have R:Hid (dk=radN c rs (k + 1)):=by
     have h1:=RX.out
     rw [<- X.out,if_pos hlt] at h1;exact h1.symm
    generalize cmp3 dk s=cv at *
    obtain ⟨d0,d1,_,_⟩:=GC.out.1
    obtain ⟨s0,s1,s2,s3⟩:=GC.out.2.1
    go_wp2
    refine ⟨⟨k + 1,dk,by go_num,hkn,R,GC.out.2.1.set dk,gb_set (gb_set GC.out.2.2.1 (Nat.le_refl _) _) (Nat.le_refl _) _⟩,by simp [intOf];omega⟩
   ·have hc:¬ cmp3 dk s > 0:=by
     have:=cmp3_gt dk s
     rw [decide_eq_false hlt] at this
     exact of_decide_eq_false this
    have R:Hid (s=radN c rs (k + 1)):=by
     have h1:=RX.out
     rw [<- X.out,if_neg hlt] at h1;exact h1.symm
    generalize cmp3 dk s=cv at *
    go_wp2
    refine ⟨⟨k + 1,s,by go_num,hkn,R,GC.out.2.1,GC.out.2.2.1⟩,by simp [intOf];omega⟩
  ·have hki:¬ (k:Int) < (n:Int):=by omega
   have E:Hid (s=radN c rs rs.length):=by
    have h1:=X.out
    rw [show k=rs.length by have:=N.out;omega] at h1;exact h1
   obtain ⟨s0,s1,_,_⟩:=Y.out.1
   have dr:Gb wr wr.drew:=(Below.refl _ _).drew
   have GY:Gb w wr.drew:=gb_trans (gb_trans GW Y.out.2) dr
   have CLX:=CL.out _ GY
   have RG:=reg0 (gb_trans OI.out.2 Y.out.2)
   obtain ⟨⟨q0,q1,q2,q3,q4,q5⟩,qf⟩:=RG
   have f0:=qf 0 (by omega)
   have f1:=qf 1 (by omega)
   have f2:=qf 2 (by omega)
   have f3:=qf 3 (by omega)
   have f4:=qf 4 (by omega)
   have f5:=qf 5 (by omega)
   clear qf
   have z1:w.heap.size + 1<=w1.heap.size:=by have:=OI.out.2.size;rwa [World.size_alloc] at this
   have z2:=Y.out.2.size
   have PRE:Hid (∀ W vl,Own W wr.drew.heap.size vl c->Gb wr.drew W->OutR w W ⟨3,c,[],s,srt (idsOf rs)⟩ vl (.slice none 0 0) (.slice pi ni ci)/\vl.ownBlock ≠ some w.heap.size/\(Value.slice pi ni ci).ownBlock ≠ some w.heap.size):=by
    intro W vl ho hg
    have gw:=gb_trans (gb_trans Y.out.2 dr) hg
    have o3:=OI.out.1.gb gw
    refine ⟨⟨gb_trans GW gw,ho.mono (by rw [World.size_drew];omega),own_nil _ _,o3.mono (by rw [World.size_alloc];omega),?_⟩,?_,?_⟩
    ·intro g hgv
     refine ⟨by simp [Value.ownBlock],fun e=>?_⟩
     have h1:=(World.ownsRow.lt OI.out.1 g e).2
     have h2:=(World.ownsRow.lt ho g hgv).1
     rw [World.size_drew] at h2;omega
    ·intro e
     have:=(World.ownsRow.lt ho _ e).1
     rw [World.size_drew] at this;omega
    ·intro e
     have:=(World.ownsRow.lt OI.out.1 _ e).1
     rw [World.size_alloc] at this;omega
   have hs1:w1.heap.size ≠ w.heap.size:=by omega
   clear Y X A C33 CL VL
   go_wp2_with fail
   go_region_with (go_at_call 50;refine CLX.mono ?_;rintro e w2 ⟨vl,rfl,ho,hg⟩;have P2:=PRE.out _ _ ho hg;obtain ⟨pl,cl2,el,_⟩:=ho.rd;subst el;have s0:=gb_keeps hg s0;have s1:=gb_keeps hg s1;have f0:=(gb_froz hg q0).trans f0;have f1:=(gb_froz hg q1).trans f1;have f2:=(gb_froz hg q2).trans f2;have f3:=(gb_froz hg q3).trans f3;have f4:=(gb_froz hg q4).trans f4;have f5:=(gb_froz hg q5).trans f5;have q0:=gb_keeps hg q0;have q1:=gb_keeps hg q1;have q2:=gb_keeps hg q2;have q3:=gb_keeps hg q3;have q4:=gb_keeps hg q4;have q5:=gb_keeps hg q5)
   all_goals
    clear s0 s1 CLX PRE
    go_wp2
    refine bodyPost_ret (v:=.tuple #[rv ⟨3,c,[],s,srt (idsOf rs)⟩ (.slice pl c.length cl2) (.slice none 0 0) (.slice pi ni ci),.int .i64 0]) (by simp [results,Tryz.results133,go_sem,q0,q1,q2,q3,q4,q5]) rfl ⟨_,_,_,by rw [N.out,<- E.out],?_⟩
    rw [N.out,<- E.out]
    have b0:(Value.slice none 0 0).ownBlock ≠ some w.heap.size:=by simp [Value.ownBlock]
    exact (((((P2.1.set P2.2.1 b0 P2.2.2 _ _).set P2.2.1 b0 P2.2.2 _ _).set P2.2.1 b0 P2.2.2 _ _).set P2.2.1 b0 P2.2.2 _ _).set P2.2.1 b0 P2.2.2 _ _).set P2.2.1 b0 P2.2.2 _ _
theorem ball_c {w:World} {u v:Value} {c:List Int} {rs:List Rw} (hu:RdI w u c) (h:RdW w v rs) (hlen:rs.length<=4611686018427387904) (hwf:∀ i,i < rs.length->(Lit.int .i64 rs[i]!.1).wf=true) :
  Calls Tryz.prog 133 #[u,v] w fun e w'=>∃ vl vh vi,e=.returned (.tuple #[rv (ballR c rs) vl vh vi,.int .i64 (ballE c rs)])/\OutR w w' (ballR c rs) vl vh vi:=by
 by_cases hok:ballE c rs=0
 ·exact ball_yes hu h hlen hwf hok
 ·exact ball_no hu h hlen hwf hok
end Go.Proofs.YtepjbdklljlecaaGreat
