import Derived.Test.YtcipdampcmfmaabGreatJa6
import Derived.Test.YtcipdampcmfmaabGreatJa14
import Derived.Test.YtcipdampcmfmaabGreatJa12
import Derived.Test.YtcipdampcmfmaabGreatJa13
import Derived.Test.YtcipdampcmfmaabGreatJa4
namespace Go.Proofs.YtcipdampcmfmaabGreat
open Go.RowKit Go.Sort Go.Maps
set_option maxRecDepth 100000
set_option maxHeartbeats 4000000
def radN (c:List Int) (rs:List Rw):Nat->Nat
 | 0=>0
 | k + 1=>if radN c rs k < dst c rs[k]!.2 then dst c rs[k]!.2 else radN c rs k
def ballE (c:List Int) (rs:List Rw):Int:=if chk c c.length=0 then idsE rs c.length else chk c c.length
def ballR (c:List Int) (rs:List Rw):Reg:=if ballE c rs=0 then ⟨3,c,[],radN c rs rs.length,srt (idsOf rs)⟩ else ⟨0,[],[],0,[]⟩
theorem ballE_ok {c:List Int} {rs:List Rw} (h:ballE c rs=0):chk c c.length=0/\idsE rs c.length=0:=by
 unfold ballE at h;split at h
 ·rename_i h1;exact ⟨h1,h⟩
 ·rename_i h1;exact absurd h h1
theorem cmp3_gt (a b:Nat):decide (cmp3 a b > 0)=decide (b < a):=by
 unfold cmp3
 by_cases h:a < b
 ·rw [if_pos h,decide_eq_false (by omega),decide_eq_false (by omega)]
 ·rw [if_neg h]
  by_cases h2:a=b
  ·rw [if_pos h2,decide_eq_false (by omega),decide_eq_false (by omega)]
  ·rw [if_neg h2,decide_eq_true (by omega),decide_eq_true (by omega)]
theorem ball_no {w:World} {u v:Value} {c:List Int} {rs:List Rw} (hu:RdI w u c) (h:RdW w v rs) (hlen:rs.length<=4611686018427387904) (hwf:∀ i,i < rs.length->(Lit.int .i64 rs[i]!.1).wf=true) (hne:ballE c rs ≠ 0) :
  Calls Tryz.prog 89 #[u,v] w fun e w'=>∃ vl vh vi,e=.returned (.tuple #[rv (ballR c rs) vl vh vi,.int .i64 (ballE c rs)])/\OutR w w' (ballR c rs) vl vh vi:=by
 have ER:ballR c rs=⟨0,[],[],0,[]⟩:=by unfold ballR;rw [if_neg hne]
 rw [ER]
 have E:Hid (ballE c rs=if chk c c.length=0 then idsE rs c.length else chk c c.length):=rfl
 have G0:Gb w (w.alloc z36):=gb_alloc (Below.refl _ _) _
 have C50:=idsOf_c (h.gb G0) (c.length:Int) hlen hwf
 have C11:=fun r hr=>check_v (hu.gb G0) (c.length:Int) r hr
 obtain ⟨a,cap,rfl,_⟩:=h
 obtain ⟨pc,cc,rfl,_⟩:=hu
 have hne':(ballE c rs == 0)=false:=by rw [beq_eq_false_iff_ne];exact hne
 have HNE:Hid (ballE c rs ≠ 0):=hne
 generalize ballE c rs=be at *
 by_cases h0:chk c c.length=0
 ·rw [if_pos h0] at E
  have c11:=C11 _ h0
  rw [<- E.out] at C50
  generalize rs.length=n at *
  generalize c.length=m at *
  clear E h0 C11 hwf hlen hne ER
  go_enter Tryz.func89,Tryz.ntmps89
  go_wp2_with fail
  refine c11.mono ?_
  rintro e w' ⟨rfl,e2⟩
  subst e2
  go_wp2_with fail
  refine C50.mono ?_
  rintro e w1 ⟨v',rfl,g1,_,k2⟩
  have e2:=k2 HNE.out
  subst e2
  clear k2
  obtain ⟨⟨q0,q1,q2,q3,q4,q5⟩,qf⟩:=reg0 g1
  have f0:=qf 0 (by omega)
  have f1:=qf 1 (by omega)
  have f2:=qf 2 (by omega)
  have f3:=qf 3 (by omega)
  have f4:=qf 4 (by omega)
  have f5:=qf 5 (by omega)
  clear qf
  have hB:w.heap.size<=w.heap.size:=Nat.le_refl _
  have GG:=gb_trans G0 g1
  go_wp2
  exact bodyPost_ret (v:=.tuple #[.agg #[.int .i64 0,.slice none 0 0,.slice none 0 0,.int .u64 0,.int .u64 0,.slice none 0 0],.int .i64 be]) (by simp [results,Tryz.results89,go_sem,q0,q1,q2,q3,q4,q5]) rfl ⟨.slice none 0 0,.slice none 0 0,.slice none 0 0,rfl,outR_nil (gb_set (gb_set (gb_set (gb_set (gb_set (gb_set GG hB _) hB _) hB _) hB _) hB _) hB _)⟩
 ·rw [if_neg h0] at E
  have c11:=C11 be E.out.symm
  generalize rs.length=n at *
  generalize c.length=m at *
  clear E h0 C11 hwf hlen hne ER C50
  go_enter Tryz.func89,Tryz.ntmps89
  go_wp2_with fail
  refine c11.mono ?_
  rintro e w' ⟨rfl,e2⟩
  subst e2
  go_wp2
  exact bodyPost_ret (v:=.tuple #[.agg #[.int .i64 0,.slice none 0 0,.slice none 0 0,.int .u64 0,.int .u64 0,.slice none 0 0],.int .i64 be]) (by simp [results,Tryz.results89,go_sem]) rfl ⟨.slice none 0 0,.slice none 0 0,.slice none 0 0,rfl,outR_nil G0⟩
theorem ball_yes {w:World} {u v:Value} {c:List Int} {rs:List Rw} (hu:RdI w u c) (h:RdW w v rs) (hlen:rs.length<=4611686018427387904) (hwf:∀ i,i < rs.length->(Lit.int .i64 rs[i]!.1).wf=true) (hok:ballE c rs=0) :
  Calls Tryz.prog 89 #[u,v] w fun e w'=>∃ vl vh vi,e=.returned (.tuple #[rv (ballR c rs) vl vh vi,.int .i64 (ballE c rs)])/\OutR w w' (ballR c rs) vl vh vi:=by
 have ER:ballR c rs=⟨3,c,[],radN c rs rs.length,srt (idsOf rs)⟩:=by unfold ballR;rw [if_pos hok]
 rw [ER,hok]
 obtain ⟨ce,ie⟩:=ballE_ok hok
 obtain ⟨r2,rok⟩:=idsE_ok ie
 obtain ⟨c1,c2,_,c4⟩:=chk_ok ce
 have G0:Gb w (w.alloc z36):=gb_alloc (Below.refl _ _) _
 have C50:=idsOf_c (h.gb G0) (c.length:Int) hlen hwf
 rw [ie] at C50
 have C11:=check_v (hu.gb G0) (c.length:Int) 0 ce
 have VL:Hid (∀ i,i < rs.length->rs[i]!.2.length=c.length/\allR rs[i]!.2=true):=by
  intro i hi
  have:=chk_ok (rok i hi).1
  exact ⟨by omega,this.2.2.2⟩
 have C33:Hid (∀ i,i < rs.length->∀ W' uv,Gb w W'->RdI W' uv rs[i]!.2->Calls Tryz.prog 80 #[u,uv] W' fun e w'=>e=.returned (Wd (dst c rs[i]!.2))/\Gr W' w'):=by
  intro i hi W' uv g hr
  exact distance_c (hu.gb g) hr (VL.out i hi).1.symm c2 c4 (VL.out i hi).2
 have CL:Hid (∀ W',Gb w W'->Calls Tryz.prog 43 #[u] W' fun e w'=>∃ v',e=.returned v'/\Own w' W'.heap.size v' c/\Gb W' w'):=fun W' g=>clone_c (hu.gb g) (by omega) c1
 obtain ⟨pc,cc,rfl,_⟩:=hu
 obtain ⟨a,cap,rfl,ha⟩:=h
 have A:Hid (∀ i,i < rs.length->∃ b o u,a=some ⟨b,o,none⟩/\w.cell? ⟨b,o + i * 2,none⟩=some (.int .i64 rs[i]!.1)/\w.cell? ⟨b,o + i * 2 + 1,none⟩=some u/\RdI w u rs[i]!.2):=ha
 obtain ⟨n,hN⟩:∃ n,n=rs.length:=⟨_,rfl⟩
 have N:Hid (n=rs.length):=hN
 rw [<- hN] at C50 r2 ⊢
 have L0:Hid (1<=c.length):=c1
 obtain ⟨m,hm⟩:∃ m,m=c.length:=⟨_,rfl⟩
 have M:Hid (m=c.length):=hm
 rw [<- hm] at C50 C11 ⊢
 simp only [<- hm] at C33 CL
 clear hlen hwf hok ER rok ha hN ie ce c1 c2 c4 hm
 go_enter Tryz.func89,Tryz.ntmps89
 go_wp2_with fail
 refine C11.mono ?_
 rintro e w' ⟨rfl,e2⟩
 subst e2
 go_wp2_with fail
 refine C50.mono ?_
 rintro e w1 ⟨vi,rfl,g1,k1,_⟩
 have OI:Hid (Own w1 (w.alloc z36).heap.size vi (srt (idsOf rs))/\Gb (w.alloc z36) w1):=⟨k1 trivial,g1⟩
 obtain ⟨pi,ci,ei,_⟩:=(k1 trivial).rd
 subst ei
 generalize (srt (idsOf rs)).length=ni at *
 have GW:Gb w w1:=gb_trans G0 g1
 have S0:Hid (At2 (w1.alloc (.cells #[.int .u64 0,.int .u64 0] 40)) w1.heap.size 0/\Gb w1 (w1.alloc (.cells #[.int .u64 0,.int .u64 0] 40))):=⟨At2.new w1 0 40,gb_alloc (Below.refl _ _) _⟩
 clear C50 C11 k1
 go_wp2
 go_loopw [34] (fun iv w'=>∃ k s:Nat,iv=.int .i64 (k:Int)/\k<=n/\Hid (s=radN c rs k)/\Hid (At2 w' w1.heap.size s/\Gb w1 w')) (fun iv _=>n - (intOf iv).toNat)
 case atStart=>exact ⟨0,0,rfl,Nat.zero_le _,rfl,S0.out⟩
 case round =>
  clear S0
  obtain ⟨k,s,rfl,hk,X,Y⟩:=hrel
  by_cases hkn:k < n
  ·have hki:(k:Int) < (n:Int):=by omega
   have hkl:k < rs.length:=by have:=N.out;omega
   obtain ⟨b,o,uk,ea,y0,y1,y2⟩:=A.out k hkl
   subst ea
   have GY:=gb_trans GW Y.out.2
   have y0:=gb_keeps GY y0
   have y1:=gb_keeps GY y1
   have y2:=y2.gb GY
   have C:=fun W' (g:Gb w W') (hr:RdI W' uk rs[k]!.2)=>C33.out k hkl W' uk g hr
   have RX:Hid (radN c rs (k + 1)=if radN c rs k < dst c rs[k]!.2 then dst c rs[k]!.2 else radN c rs k):=rfl
   have Y2:Hid (RdI wr uk rs[k]!.2):=y2
   obtain ⟨pk,ck,ek,_⟩:=y2
   subst ek
   generalize rs[k]!.1=idk at *
   generalize dst c rs[k]!.2=dk at *
   generalize rs[k]!.2.length=nk at *
   clear hkl
   have GA:Gb w (wr.alloc (.cells #[.int .i64 idk,.slice pk nk ck] 45)):=gb_alloc GY _
   go_wp2_with fail
   refine (C _ GA (Y2.out.gb (gb_alloc (Below.refl _ _) _))).mono ?_
   rintro e w2 ⟨rfl,g2⟩
   have GB:Hid (At2 (w2.alloc (.cells #[.int .u64 (hi dk),.int .u64 (lo dk)] 40)) w2.heap.size dk/\At2 (w2.alloc (.cells #[.int .u64 (hi dk),.int .u64 (lo dk)] 40)) w1.heap.size s/\Gb w1 (w2.alloc (.cells #[.int .u64 (hi dk),.int .u64 (lo dk)] 40))/\w1.heap.size < w2.heap.size):=by
    obtain ⟨p1,p2⟩:=Y.out
    have g3:Gr wr w2:=((Gr.refl _).alloc _ _).trans g2
    have p3:=p1.gr g3
    refine ⟨At2.new w2 dk 40,p3.gr ((Gr.refl _).alloc _ _),gb_alloc (gb_trans p2 g3.gb) _,?_⟩
    exact World.block_lt_of_cell? w2 _ p3.c0
   clear C y0 y1 Y2 GA GY g2 Y
   have d0:=GB.out.1.c0
   have d1:=GB.out.1.c1
   have s0:=GB.out.2.1.c0
   have s1:=GB.out.2.1.c1
   go_wp2_with fail
   refine (cmp_any dk s _).mono ?_
   rintro e w3 ⟨rfl,g3⟩
   have GC:Hid (At2 w3 w2.heap.size dk/\At2 w3 w1.heap.size s/\Gb w1 w3/\w1.heap.size < w2.heap.size):=⟨GB.out.1.gr g3,GB.out.2.1.gr g3,gb_trans GB.out.2.2.1 g3.gb,GB.out.2.2.2⟩
   clear d0 d1 s0 s1 GB g3
   by_cases hlt:s < dk
   ·have hc:cmp3 dk s > 0:=by
     have:=cmp3_gt dk s
     rw [decide_eq_true hlt] at this
     exact of_decide_eq_true this
    have R:Hid (dk=radN c rs (k + 1)):=by
     have h1:=RX.out
     rw [<- X.out,if_pos hlt] at h1;exact h1.symm
    generalize cmp3 dk s=cv at *
    obtain ⟨d0,d1,_,_⟩:=GC.out.1
    obtain ⟨s0,s1,s2,s3⟩:=GC.out.2.1
    go_wp2
    refine ⟨⟨k + 1,dk,by go_num,hkn,R,GC.out.2.1.set dk,gb_set (gb_set GC.out.2.2.1 (Nat.le_refl _) _) (Nat.le_refl _) _⟩,by simp [intOf];omega⟩
   ·have hc:¬ cmp3 dk s > 0:=by
     have:=cmp3_gt dk s
     rw [decide_eq_false hlt] at this
     exact of_decide_eq_false this
    have R:Hid (s=radN c rs (k + 1)):=by
     have h1:=RX.out
     rw [<- X.out,if_neg hlt] at h1;exact h1.symm
    generalize cmp3 dk s=cv at *
    go_wp2
    refine ⟨⟨k + 1,s,by go_num,hkn,R,GC.out.2.1,GC.out.2.2.1⟩,by simp [intOf];omega⟩
  ·have hki:¬ (k:Int) < (n:Int):=by omega
   have E:Hid (s=radN c rs rs.length):=by
    have h1:=X.out
    rw [show k=rs.length by have:=N.out;omega] at h1;exact h1
   obtain ⟨s0,s1,_,_⟩:=Y.out.1
   have dr:Gb wr wr.drew:=(Below.refl _ _).drew
   have GY:Gb w wr.drew:=gb_trans (gb_trans GW Y.out.2) dr
   have CLX:=CL.out _ GY
   have RG:=reg0 (gb_trans OI.out.2 Y.out.2)
   obtain ⟨⟨q0,q1,q2,q3,q4,q5⟩,qf⟩:=RG
   have f0:=qf 0 (by omega)
   have f1:=qf 1 (by omega)
   have f2:=qf 2 (by omega)
   have f3:=qf 3 (by omega)
   have f4:=qf 4 (by omega)
   have f5:=qf 5 (by omega)
   clear qf
   have z1:w.heap.size + 1<=w1.heap.size:=by have:=OI.out.2.size;rwa [World.size_alloc] at this
   have z2:=Y.out.2.size
   have PRE:Hid (∀ W vl,Own W wr.drew.heap.size vl c->Gb wr.drew W->OutR w W ⟨3,c,[],s,srt (idsOf rs)⟩ vl (.slice none 0 0) (.slice pi ni ci)/\vl.ownBlock ≠ some w.heap.size/\(Value.slice pi ni ci).ownBlock ≠ some w.heap.size):=by
    intro W vl ho hg
    have gw:=gb_trans (gb_trans Y.out.2 dr) hg
    have o3:=OI.out.1.gb gw
    refine ⟨⟨gb_trans GW gw,ho.mono (by rw [World.size_drew];omega),own_nil _ _,o3.mono (by rw [World.size_alloc];omega),?_⟩,?_,?_⟩
    ·intro g hgv
     refine ⟨by simp [Value.ownBlock],fun e=>?_⟩
     have h1:=(World.ownsRow.lt OI.out.1 g e).2
     have h2:=(World.ownsRow.lt ho g hgv).1
     rw [World.size_drew] at h2;omega
    ·intro e
     have:=(World.ownsRow.lt ho _ e).1
     rw [World.size_drew] at this;omega
    ·intro e
     have:=(World.ownsRow.lt OI.out.1 _ e).1
     rw [World.size_alloc] at this;omega
   have hs1:w1.heap.size ≠ w.heap.size:=by omega
   clear Y X A C33 CL VL
   go_wp2_with fail
   go_region_with (go_at_call 43;refine CLX.mono ?_;rintro e w2 ⟨vl,rfl,ho,hg⟩;have P2:=PRE.out _ _ ho hg;obtain ⟨pl,cl2,el,_⟩:=ho.rd;subst el;have s0:=gb_keeps hg s0;have s1:=gb_keeps hg s1;have f0:=(gb_froz hg q0).trans f0;have f1:=(gb_froz hg q1).trans f1;have f2:=(gb_froz hg q2).trans f2;have f3:=(gb_froz hg q3).trans f3;have f4:=(gb_froz hg q4).trans f4;have f5:=(gb_froz hg q5).trans f5;have q0:=gb_keeps hg q0;have q1:=gb_keeps hg q1;have q2:=gb_keeps hg q2;have q3:=gb_keeps hg q3;have q4:=gb_keeps hg q4;have q5:=gb_keeps hg q5)
   all_goals
    clear s0 s1 CLX PRE
    go_wp2
    refine bodyPost_ret (v:=.tuple #[rv ⟨3,c,[],s,srt (idsOf rs)⟩ (.slice pl c.length cl2) (.slice none 0 0) (.slice pi ni ci),.int .i64 0]) (by simp [results,Tryz.results89,go_sem,q0,q1,q2,q3,q4,q5]) rfl ⟨_,_,_,by rw [N.out,<- E.out],?_⟩
    rw [N.out,<- E.out]
    have b0:(Value.slice none 0 0).ownBlock ≠ some w.heap.size:=by simp [Value.ownBlock]
    exact (((((P2.1.set P2.2.1 b0 P2.2.2 _ _).set P2.2.1 b0 P2.2.2 _ _).set P2.2.1 b0 P2.2.2 _ _).set P2.2.1 b0 P2.2.2 _ _).set P2.2.1 b0 P2.2.2 _ _).set P2.2.1 b0 P2.2.2 _ _
theorem ball_c {w:World} {u v:Value} {c:List Int} {rs:List Rw} (hu:RdI w u c) (h:RdW w v rs) (hlen:rs.length<=4611686018427387904) (hwf:∀ i,i < rs.length->(Lit.int .i64 rs[i]!.1).wf=true) :
  Calls Tryz.prog 89 #[u,v] w fun e w'=>∃ vl vh vi,e=.returned (.tuple #[rv (ballR c rs) vl vh vi,.int .i64 (ballE c rs)])/\OutR w w' (ballR c rs) vl vh vi:=by
 by_cases hok:ballE c rs=0
 ·exact ball_yes hu h hlen hwf hok
 ·exact ball_no hu h hlen hwf hok
end Go.Proofs.YtcipdampcmfmaabGreat

namespace Go.Proofs.YtcipdampcmfmaabGreat
open Go.RowKit Go.Sort
set_option maxRecDepth 100000
set_option maxHeartbeats 4000000
def CmpR (w0:World) (g bf:Nat) (l:List El) (c:El->El->Prop):Prop:=∀ W,Tk.Kp (fun k=>k=g) w0 W->∀ x y,x ∈ l->y ∈ l ->
 Calls Tryz.prog 79 #[.agg #[.int .i64 x.1,sl x],.agg #[.int .i64 y.1,sl y],.pointer (some ⟨bf,0,none⟩)] W fun e w'=>∃ z:Int,e=.returned (.int .i64 z)/\(z < 0 ↔ c x y)/\Tk.Gw W w'
theorem get_memR {l:List El} {i:Nat} (h:i < l.length):l[i]! ∈ l:=by
 have e:l[i]! = l[i]:=by simp [h]
 rw [e];exact List.getElem_mem h
theorem CmpR.later {w0 w1:World} {g bf:Nat} {l l1:List El} {c:El->El->Prop} (h:CmpR w0 g bf l c) (k:Tk.Kp (fun k=>k=g) w0 w1) (hp:l1.Perm l):CmpR w1 g bf l1 c :=
 fun W hW x y hx hy=>h W (k.trans hW) x y (hp.mem_iff.1 hx) (hp.mem_iff.1 hy)
theorem Rot.pushR {l l1:List El} {a k:Nat} (h:Rot l l1 a (a + 1) (k + 1)) (hk:a<=k) (hk2:k + 1 < l.length):Rot l (sws l1 k (k + 1)) a (a + 1) (k + 2):=by
 have hl:=h.perm.length_eq
 have g:=fun i=>sws_get l1 k (k + 1) i (by omega) (by omega)
 refine ⟨(sws_perm _ _ _ (by omega) (by omega)).trans h.perm,fun i hi=>?_,fun i hi=>?_,fun i hi=>?_⟩
 ·rw [g,if_neg (by omega)]
  by_cases hik:a + i=k
  ·rw [if_pos hik,h.out (k + 1) (by omega)]
   congr 1;omega
  ·rw [if_neg hik]
   exact h.fst i (by omega)
 ·obtain rfl:i=0:=by omega
  rw [g,if_pos (by omega)]
  have:=h.snd 0 (by omega)
  rw [show a + (k + 1 - (a + 1)) + 0=k by omega] at this
  rw [this]
 ·rw [g,if_neg (by omega),if_neg (by omega)]
  exact h.out i (by omega)
theorem Rot.pullR {l l1:List El} {k m:Nat} (h:Rot l l1 k m (m + 1)) (hk:0 < k) (hkm:k<=m) (hm:m < l.length):Rot l (sws l1 k (k - 1)) (k - 1) m (m + 1):=by
 have hl:=h.perm.length_eq
 have g:=fun i=>sws_get l1 k (k - 1) i (by omega) (by omega)
 refine ⟨(sws_perm _ _ _ (by omega) (by omega)).trans h.perm,fun i hi=>?_,fun i hi=>?_,fun i hi=>?_⟩
 ·obtain rfl:i=0:=by omega
  rw [g,if_pos (by omega)]
  have:=h.fst 0 (by omega)
  simpa using this
 ·rw [g,if_neg (by omega)]
  by_cases hi0:i=0
  ·subst hi0
   rw [if_pos (by omega),h.out (k - 1) (by omega)]
   congr 1
  ·rw [if_neg (by omega)]
   have:=h.snd (i - 1) (by omega)
   rw [show k + (m + 1 - m) + (i - 1)=k - 1 + (m + 1 - m) + i by omega,show k + (i - 1)=k - 1 + i by omega] at this
   exact this
 ·rw [g,if_neg (by omega),if_neg (by omega)]
  exact h.out i (by omega)
theorem symR_one {w:World} {g o cap bf a m b:Nat} {l:List El} {c lt:El->El->Prop} (ht:∀ x y z,lt x y->lt y z->lt x z) (h:SRA w g o l) (hl:l.length<=4000) (hb:b<=l.length) (hP:PreM c lt l a m b) (hc:CmpR w g bf l c) (hm:m=a + 1) (hmb:m < b) :
  Calls Tryz.prog 160 #[.slice (some ⟨g,o,none⟩) l.length cap,.int .i64 (a:Int),.int .i64 (m:Int),.int .i64 (b:Int),.func (.func 79) #[] #[.pointer (some ⟨bf,0,none⟩)]] w fun e w'=>e=.returned (.tuple #[])/\∃ l',Seg l l' a b/\Ri lt l' a b/\SRA w' g o l'/\Tk.Kp (fun k=>k=g) w w':=by
 have H0:Hid (SRA w g o l):=h
 have CC:Hid (CmpR w g bf l c):=hc
 have PM:Hid (m=a + 1/\PreM c lt l a m b/\∀ x y z,lt x y->lt y z->lt x z):=⟨hm,hP,ht⟩
 have em:(m:Int) - (a:Int)=1:=by omega
 have ha:a < l.length:=by omega
 have hai:(a:Int) < (l.length:Int):=by omega
 have ma:a < m:=by omega
 clear h hc hP ht hm
 go_enter Tryz.func160,Tryz.ntmps160
 go_wp2
 go_loopw [10,11] (fun iv jv W0=>∃ (W:World) (_:W=W0) (i j:Nat),iv=.int .i64 (i:Int)/\jv=.int .i64 (j:Int)/\m<=i/\i<=j/\j<=b/\Hid ((i=m ∨ c l[i - 1]! l[a]!)/\(j=b ∨ ¬ c l[j]! l[a]!)/\Tk.Gw w W)) (fun iv jv _=>(intOf jv).toNat - (intOf iv).toNat)
 case atStart=>exact ⟨_,rfl,m,b,rfl,rfl,Nat.le_refl _,Nat.le_of_lt hmb,Nat.le_refl _,Or.inl rfl,Or.inl rfl,Tk.Gw.refl _⟩
 case round =>
  obtain ⟨W,hW,i,j,rfl,rfl,hmi,hij,hjb,X⟩:=hrel
  subst hW
  by_cases hlt:i < j
  ·have hlti:(i:Int) < (j:Int):=by omega
   obtain ⟨q,hq⟩:∃ q,q=(i + j) / 2:=⟨_,rfl⟩
   have eh:((i:Int) + (j:Int)) / 2=(q:Int):=by omega
   have hiq:i<=q:=by omega
   have hqj:q < j:=by omega
   clear hq
   have hh:q < l.length:=by omega
   have hhi:(q:Int) < (l.length:Int):=by omega
   obtain ⟨x,y,⟨c1,c1b⟩,⟨c2,c2b⟩,E1,E2,XL⟩:∃ x y:El,(W.cell? ⟨g,o + q * 2,none⟩=some (.int .i64 x.1)/\W.cell? ⟨g,o + q * 2 + 1,none⟩=some (sl x))/\(W.cell? ⟨g,o + a * 2,none⟩=some (.int .i64 y.1)/\W.cell? ⟨g,o + a * 2 + 1,none⟩=some (sl y))/\Hid (x ∈ l)/\Hid (y ∈ l)/\Hid (∀ z:Int,(z < 0 ↔ c x y)->(z < 0->c l[q + 1 - 1]! l[a]!)/\(¬ z < 0->¬ c l[q]! l[a]!)) :=
    ⟨l[q]!,l[a]!,⟨gwk X.out.2.2 (H0.out.cell hh).1,gwk X.out.2.2 (H0.out.cell hh).2⟩,⟨gwk X.out.2.2 (H0.out.cell ha).1,gwk X.out.2.2 (H0.out.cell ha).2⟩,get_memR hh,get_memR ha,fun z hz=>⟨fun h=>by rw [Nat.add_sub_cancel];exact hz.1 h,fun h h'=>h (hz.2 h')⟩⟩
   have KW:Hid (Tk.Kp (fun k=>k=g) w W):=Tk.Kp.of_gr X.out.2.2.gr
   obtain ⟨x1,x2,x3,x4⟩:=x
   obtain ⟨y1,y2,y3,y4⟩:=y
   simp only [sl] at c1 c1b c2 c2b
   go_wp2
   refine wp_region_held_drew (S:=fun W2=>Tk.Gw W W2) (by kernel_rfl) ((Tk.Gw.refl W).drew) (fun hHeld=>?_)
   refine tkn 0 ?_ rfl ?_ ?_;rotate_left;·(intro w hSw;(have s1:=gwk hSw c1;have s2:=gwk hSw c2;have s3:=gwk hSw c1b;have s4:=gwk hSw c2b);go_simp;try rfl)
   try simp only [pt]
   refine tkn 1 ?_ rfl ?_ ?_;rotate_left;·(intro w hSw;(have s1:=gwk hSw c1;have s2:=gwk hSw c2;have s3:=gwk hSw c1b;have s4:=gwk hSw c2b);go_simp;try rfl)
   try simp only [pt]
   refine tkn 2 ?_ rfl ?_ ?_;rotate_left;·(intro w hSw;(have s1:=gwk hSw c1;have s2:=gwk hSw c2;have s3:=gwk hSw c1b;have s4:=gwk hSw c2b);go_simp;try rfl)
   try simp only [pt]
   refine tkn 3 ?_ rfl ?_ ?_;rotate_left;·(intro w hSw;(have s1:=gwk hSw c1;have s2:=gwk hSw c2;have s3:=gwk hSw c1b;have s4:=gwk hSw c2b);go_simp;try rfl)
   try simp only [pt]
   refine tkn 4 ?_ rfl ?_ ?_;rotate_left;·(intro w hSw;(have s1:=gwk hSw c1;have s2:=gwk hSw c2;have s3:=gwk hSw c1b;have s4:=gwk hSw c2b);go_simp;try rfl)
   try simp only [pt]
   refine tkn 5 ?_ rfl ?_ ?_;rotate_left;·(intro w hSw;(have s1:=gwk hSw c1;have s2:=gwk hSw c2;have s3:=gwk hSw c1b;have s4:=gwk hSw c2b);go_simp;try rfl)
   try simp only [pt]
   refine tkn 6 ?_ rfl ?_ ?_;rotate_left;·(intro w hSw;(have s1:=gwk hSw c1;have s2:=gwk hSw c2;have s3:=gwk hSw c1b;have s4:=gwk hSw c2b);go_simp;try rfl)
   try simp only [pt]
   refine tkn 7 ?_ rfl ?_ ?_;rotate_left;·(intro w hSw;(have s1:=gwk hSw c1;have s2:=gwk hSw c2;have s3:=gwk hSw c1b;have s4:=gwk hSw c2b);go_simp;try rfl)
   try simp only [pt]
   refine tkn 8 ?_ rfl ?_ ?_;rotate_left;·(intro w hSw;(have s1:=gwk hSw c1;have s2:=gwk hSw c2;have s3:=gwk hSw c1b;have s4:=gwk hSw c2b);go_simp;try rfl)
   try simp only [pt]
   refine rdn 9 rfl (fun K hK=>?_)
   go_simp
   refine (CC.out _ (KW.out.trans (Tk.Kp.of_gr hHeld.gr)) _ _ E1.out E2.out).mono ?_
   rintro e wa ⟨z,rfl,hz,ga⟩
   refine hK.out _ _ (hHeld.trans ga) (fun hHeld=>?_)
   clear hK K
   try simp only [pt]
   refine tkn 10 ?_ rfl ?_ ?_;rotate_left;·(intro w hSw;(have s1:=gwk hSw c1;have s2:=gwk hSw c2;have s3:=gwk hSw c1b;have s4:=gwk hSw c2b);go_simp;try rfl)
   try simp only [pt]
   refine wpAnyH_done (by kernel_rfl) ?_ _
   have XZ:=XL.out z hz
   by_cases hz0:z < 0
   ·have Y:Hid ((q + 1=m ∨ c l[q + 1 - 1]! l[a]!)/\(j=b ∨ ¬ c l[j]! l[a]!)/\Tk.Gw w _):=⟨Or.inr (XZ.1 hz0),X.out.2.1,X.out.2.2.trans hHeld⟩
    clear XZ hz X XL
    go_wp2
    go_roundw
    case rel=>exact ⟨_,rfl,q + 1,j,by go_num,rfl,by omega,by omega,hjb,Y.out⟩
    case measure=>simp [intOf];omega
   ·have Y:Hid ((i=m ∨ c l[i - 1]! l[a]!)/\(q=b ∨ ¬ c l[q]! l[a]!)/\Tk.Gw w _):=⟨X.out.1,Or.inr (XZ.2 (by omega)),X.out.2.2.trans hHeld⟩
    clear XZ hz X XL
    go_wp2
    go_roundw
    case rel=>exact ⟨_,rfl,i,q,rfl,rfl,hmi,hiq,by omega,Y.out⟩
    case measure=>simp [intOf];omega
  ·obtain rfl:i=j:=by omega
   have ib:i<=l.length:=by omega
   have HI:Hid (SRA W g o l/\Tk.Kp (fun k=>k=g) w W):=⟨H0.out.same (X.out.2.2.gr.block _ H0.out.lt),Tk.Kp.of_gr X.out.2.2.gr⟩
   have FIN:Hid (∀ l1,Rot l l1 a (a + 1) i->Seg l l1 a b/\Ri lt l1 a b):=fun l1 hr=>by
    obtain ⟨hm,hP,ht⟩:=PM.out
    rw [hm] at hP
    exact ⟨hr.seg.mono (Nat.le_refl _) hjb,merge_one c lt ht hP ⟨by omega,hjb⟩ (by rcases X.out.1 with h | h;exact Or.inl (by omega);exact Or.inr h) X.out.2.1 hr⟩
   have im:a + 1<=i:=by have:=PM.out.1;omega
   clear X H0 CC PM em hmi hij
   go_wp2
   go_loopw [13] (fun kv W0=>∃ (W:World) (_:W=W0) (k:Nat) (l1:List El),kv=.int .i64 (k:Int)/\a<=k/\k + 1<=i/\Hid (Rot l l1 a (a + 1) (k + 1)/\SRA W g o l1/\Tk.Kp (fun k=>k=g) w W)) (fun kv _=>i - (intOf kv).toNat)
   case atStart=>exact ⟨_,rfl,a,l,rfl,Nat.le_refl _,im,Rot.none l (Or.inr rfl) ⟨by omega,by omega⟩,HI.out⟩
   case round =>
    obtain ⟨W,hW,k,l1,rfl,hak,hki,Y⟩:=hrel
    subst hW
    by_cases hk:k + 1 < i
    ·have hki':(k:Int) < (i:Int) - 1:=by omega
     have hl1:l1.length=l.length:=Y.out.1.perm.length_eq
     have k1:(k:Int) < (l.length:Int):=by omega
     have k2:(k:Int) + 1 < (l.length:Int):=by omega
     obtain ⟨c1,c1b⟩:=Y.out.2.1.cell (i:=k) (by omega)
     obtain ⟨c2,c2b⟩:=Y.out.2.1.cell (i:=k + 1) (by omega)
     have f1:W.frozen? ⟨g,o + k * 2,none⟩=false:=Y.out.2.1.froz _
     have f1b:W.frozen? ⟨g,o + k * 2 + 1,none⟩=false:=Y.out.2.1.froz _
     have f2:W.frozen? ⟨g,o + (k + 1) * 2,none⟩=false:=Y.out.2.1.froz _
     have f2b:W.frozen? ⟨g,o + (k + 1) * 2 + 1,none⟩=false:=Y.out.2.1.froz _
     have N:Hid (Rot l (sws l1 k (k + 1)) a (a + 1) (k + 2)):=Y.out.1.pushR hak (by omega)
     have M:Hid (SRA ((((W.setCell ⟨g,o + k * 2,none⟩ (.int .i64 l1[k + 1]!.1)).setCell ⟨g,o + k * 2 + 1,none⟩ (sl l1[k + 1]!)).setCell ⟨g,o + (k + 1) * 2,none⟩ (.int .i64 l1[k]!.1)).setCell ⟨g,o + (k + 1) * 2 + 1,none⟩ (sl l1[k]!)) g o (sws l1 k (k + 1))):=Y.out.2.1.sws (by omega) (by omega)
     generalize l1[k]! = x at *
     generalize l1[k + 1]! = y at *
     obtain ⟨x1,x2,x3,x4⟩:=x
     obtain ⟨y1,y2,y3,y4⟩:=y
     simp only [sl] at c1 c1b c2 c2b M
     clear hl1
     go_wp2
     go_region
     go_wp2
     go_roundw
     case rel=>exact ⟨_,rfl,k + 1,sws l1 k (k + 1),by go_num,by omega,hk,N.out,M.out.same rfl,Y.out.2.2.trans (kp_swr W g _ _ _ _ _ _ _ _)⟩
     case measure=>simp [intOf];omega
    ·have hki':¬ (k:Int) < (i:Int) - 1:=by omega
     obtain rfl:k + 1=i:=by omega
     go_wp2
     (try simp only [Exit.inBlock,Exit.then])
     refine bodyPost_ret (results_none rfl _ _ _) rfl ?_
     have q:=FIN.out l1 Y.out.1
     exact ⟨rfl,l1,q.1,q.2,Y.out.2.1,Y.out.2.2⟩
end Go.Proofs.YtcipdampcmfmaabGreat

namespace Go.Proofs.YtcipdampcmfmaabGreat
open Go.RowKit Go.Sort
set_option maxRecDepth 100000
set_option maxHeartbeats 4000000
theorem symR_last {w:World} {g o cap bf a m b:Nat} {l:List El} {c lt:El->El->Prop} (ht:∀ x y z,lt x y->lt y z->lt x z) (h:SRA w g o l) (hl:l.length<=4000) (hb:b<=l.length) (hP:PreM c lt l a m b) (hc:CmpR w g bf l c) (hbm:b=m + 1) (ham:a + 1 < m) :
  Calls Tryz.prog 160 #[.slice (some ⟨g,o,none⟩) l.length cap,.int .i64 (a:Int),.int .i64 (m:Int),.int .i64 (b:Int),.func (.func 79) #[] #[.pointer (some ⟨bf,0,none⟩)]] w fun e w'=>e=.returned (.tuple #[])/\∃ l',Seg l l' a b/\Ri lt l' a b/\SRA w' g o l'/\Tk.Kp (fun k=>k=g) w w':=by
 have H0:Hid (SRA w g o l):=h
 have CC:Hid (CmpR w g bf l c):=hc
 have PM:Hid (b=m + 1/\PreM c lt l a m b/\∀ x y z,lt x y->lt y z->lt x z):=⟨hbm,hP,ht⟩
 have em:(((m:Int) - (a:Int)) == 1)=false:=by rw [beq_eq_false_iff_ne];omega
 have eb:(b:Int) - (m:Int)=1:=by omega
 have hm:m < l.length:=by omega
 have hmi:(m:Int) < (l.length:Int):=by omega
 clear h hc hP ht hbm
 go_enter Tryz.func160,Tryz.ntmps160
 go_wp2
 go_loopw [14,15] (fun iv jv W0=>∃ (W:World) (_:W=W0) (i j:Nat),iv=.int .i64 (i:Int)/\jv=.int .i64 (j:Int)/\a<=i/\i<=j/\j<=m/\Hid ((i=a ∨ ¬ c l[m]! l[i - 1]!)/\(j=m ∨ c l[m]! l[j]!)/\Tk.Gw w W)) (fun iv jv _=>(intOf jv).toNat - (intOf iv).toNat)
 case atStart=>exact ⟨_,rfl,a,m,rfl,rfl,Nat.le_refl _,by omega,Nat.le_refl _,Or.inl rfl,Or.inl rfl,Tk.Gw.refl _⟩
 case round =>
  obtain ⟨W,hW,i,j,rfl,rfl,hai,hij,hjm,X⟩:=hrel
  subst hW
  by_cases hlt:i < j
  ·have hlti:(i:Int) < (j:Int):=by omega
   obtain ⟨q,hq⟩:∃ q,q=(i + j) / 2:=⟨_,rfl⟩
   have eh:((i:Int) + (j:Int)) / 2=(q:Int):=by omega
   have hiq:i<=q:=by omega
   have hqj:q < j:=by omega
   clear hq
   have hh:q < l.length:=by omega
   have hhi:(q:Int) < (l.length:Int):=by omega
   obtain ⟨x,y,⟨c1,c1b⟩,⟨c2,c2b⟩,E1,E2,XL⟩:∃ x y:El,(W.cell? ⟨g,o + m * 2,none⟩=some (.int .i64 x.1)/\W.cell? ⟨g,o + m * 2 + 1,none⟩=some (sl x))/\(W.cell? ⟨g,o + q * 2,none⟩=some (.int .i64 y.1)/\W.cell? ⟨g,o + q * 2 + 1,none⟩=some (sl y))/\Hid (x ∈ l)/\Hid (y ∈ l)/\Hid (∀ z:Int,(z < 0 ↔ c x y)->(z < 0->c l[m]! l[q]!)/\(¬ z < 0->¬ c l[m]! l[q + 1 - 1]!)) :=
    ⟨l[m]!,l[q]!,⟨gwk X.out.2.2 (H0.out.cell hm).1,gwk X.out.2.2 (H0.out.cell hm).2⟩,⟨gwk X.out.2.2 (H0.out.cell hh).1,gwk X.out.2.2 (H0.out.cell hh).2⟩,get_memR hm,get_memR hh,fun z hz=>⟨fun h=>hz.1 h,fun h h'=>h (hz.2 (by rw [Nat.add_sub_cancel] at h';exact h'))⟩⟩
   have KW:Hid (Tk.Kp (fun k=>k=g) w W):=Tk.Kp.of_gr X.out.2.2.gr
   obtain ⟨x1,x2,x3,x4⟩:=x
   obtain ⟨y1,y2,y3,y4⟩:=y
   simp only [sl] at c1 c1b c2 c2b
   go_wp2
   refine wp_region_held_drew (S:=fun W2=>Tk.Gw W W2) (by kernel_rfl) ((Tk.Gw.refl W).drew) (fun hHeld=>?_)
   refine tkn 0 ?_ rfl ?_ ?_;rotate_left;·(intro w hSw;(have s1:=gwk hSw c1;have s2:=gwk hSw c2;have s3:=gwk hSw c1b;have s4:=gwk hSw c2b);go_simp;try rfl)
   try simp only [pt]
   refine tkn 1 ?_ rfl ?_ ?_;rotate_left;·(intro w hSw;(have s1:=gwk hSw c1;have s2:=gwk hSw c2;have s3:=gwk hSw c1b;have s4:=gwk hSw c2b);go_simp;try rfl)
   try simp only [pt]
   refine tkn 2 ?_ rfl ?_ ?_;rotate_left;·(intro w hSw;(have s1:=gwk hSw c1;have s2:=gwk hSw c2;have s3:=gwk hSw c1b;have s4:=gwk hSw c2b);go_simp;try rfl)
   try simp only [pt]
   refine tkn 3 ?_ rfl ?_ ?_;rotate_left;·(intro w hSw;(have s1:=gwk hSw c1;have s2:=gwk hSw c2;have s3:=gwk hSw c1b;have s4:=gwk hSw c2b);go_simp;try rfl)
   try simp only [pt]
   refine tkn 4 ?_ rfl ?_ ?_;rotate_left;·(intro w hSw;(have s1:=gwk hSw c1;have s2:=gwk hSw c2;have s3:=gwk hSw c1b;have s4:=gwk hSw c2b);go_simp;try rfl)
   try simp only [pt]
   refine tkn 5 ?_ rfl ?_ ?_;rotate_left;·(intro w hSw;(have s1:=gwk hSw c1;have s2:=gwk hSw c2;have s3:=gwk hSw c1b;have s4:=gwk hSw c2b);go_simp;try rfl)
   try simp only [pt]
   refine tkn 6 ?_ rfl ?_ ?_;rotate_left;·(intro w hSw;(have s1:=gwk hSw c1;have s2:=gwk hSw c2;have s3:=gwk hSw c1b;have s4:=gwk hSw c2b);go_simp;try rfl)
   try simp only [pt]
   refine tkn 7 ?_ rfl ?_ ?_;rotate_left;·(intro w hSw;(have s1:=gwk hSw c1;have s2:=gwk hSw c2;have s3:=gwk hSw c1b;have s4:=gwk hSw c2b);go_simp;try rfl)
   try simp only [pt]
   refine tkn 8 ?_ rfl ?_ ?_;rotate_left;·(intro w hSw;(have s1:=gwk hSw c1;have s2:=gwk hSw c2;have s3:=gwk hSw c1b;have s4:=gwk hSw c2b);go_simp;try rfl)
   try simp only [pt]
   refine rdn 9 rfl (fun K hK=>?_)
   go_simp
   refine (CC.out _ (KW.out.trans (Tk.Kp.of_gr hHeld.gr)) _ _ E1.out E2.out).mono ?_
   rintro e wa ⟨z,rfl,hz,ga⟩
   refine hK.out _ _ (hHeld.trans ga) (fun hHeld=>?_)
   clear hK K
   try simp only [pt]
   refine tkn 10 ?_ rfl ?_ ?_;rotate_left;·(intro w hSw;(have s1:=gwk hSw c1;have s2:=gwk hSw c2;have s3:=gwk hSw c1b;have s4:=gwk hSw c2b);go_simp;try rfl)
   try simp only [pt]
   refine tkn 11 ?_ rfl ?_ ?_;rotate_left;·(intro w hSw;(have s1:=gwk hSw c1;have s2:=gwk hSw c2;have s3:=gwk hSw c1b;have s4:=gwk hSw c2b);go_simp;try rfl)
   try simp only [pt]
   refine wpAnyH_done (by kernel_rfl) ?_ _
   have XZ:Hid _:=XL.out z hz
   clear hz XL
   go_wp2
   ·rename_i hd
    have hz0:¬ z < 0:=by simpa using hd
    have Y:Hid ((q + 1=a ∨ ¬ c l[m]! l[q + 1 - 1]!)/\(j=m ∨ c l[m]! l[j]!)/\Tk.Gw w _):=⟨Or.inr (XZ.out.2 (by omega)),X.out.2.1,X.out.2.2.trans hHeld⟩
    clear XZ X
    go_roundw
    case rel=>exact ⟨_,rfl,q + 1,j,by go_num,rfl,by omega,by omega,hjm,Y.out⟩
    case measure=>simp [intOf];omega
   ·rename_i hd
    have hz0:z < 0:=by simpa using hd
    have Y:Hid ((i=a ∨ ¬ c l[m]! l[i - 1]!)/\(q=m ∨ c l[m]! l[q]!)/\Tk.Gw w _):=⟨X.out.1,Or.inr (XZ.out.1 hz0),X.out.2.2.trans hHeld⟩
    clear XZ X
    go_roundw
    case rel=>exact ⟨_,rfl,i,q,rfl,rfl,hai,hiq,by omega,Y.out⟩
    case measure=>simp [intOf];omega
  ·obtain rfl:i=j:=by omega
   have HI:Hid (SRA W g o l/\Tk.Kp (fun k=>k=g) w W):=⟨H0.out.same (X.out.2.2.gr.block _ H0.out.lt),Tk.Kp.of_gr X.out.2.2.gr⟩
   have FIN:Hid (∀ l1,Rot l l1 i m (m + 1)->Seg l l1 a b/\Ri lt l1 a b):=fun l1 hr=>by
    obtain ⟨hbm,hP,ht⟩:=PM.out
    rw [hbm] at hP
    rw [hbm]
    exact ⟨hr.seg.mono hai (Nat.le_refl _),merge_last c lt ht hP ⟨hai,hjm⟩ X.out.1 X.out.2.1 hr⟩
   clear X H0 CC PM em eb
   go_wp2
   go_loopw [17] (fun kv W0=>∃ (W:World) (_:W=W0) (k:Nat) (l1:List El),kv=.int .i64 (k:Int)/\i<=k/\k<=m/\Hid (Rot l l1 k m (m + 1)/\SRA W g o l1/\Tk.Kp (fun k=>k=g) w W)) (fun kv _=>(intOf kv).toNat)
   case atStart=>exact ⟨_,rfl,m,l,rfl,hjm,Nat.le_refl _,Rot.none l (Or.inl rfl) ⟨by omega,by omega⟩,HI.out⟩
   case round =>
    obtain ⟨W,hW,k,l1,rfl,hik,hkm,Y⟩:=hrel
    subst hW
    by_cases hk:i < k
    ·have hki':(i:Int) < (k:Int):=by omega
     have hl1:l1.length=l.length:=Y.out.1.perm.length_eq
     obtain ⟨k',rfl⟩:∃ k',k=k' + 1:=⟨k - 1,by omega⟩
     have ek:((k' + 1:Nat):Int) - 1=(k':Int):=by omega
     have k1:((k' + 1:Nat):Int) < (l.length:Int):=by omega
     have k2:(k':Int) < (l.length:Int):=by omega
     obtain ⟨c1,c1b⟩:=Y.out.2.1.cell (i:=k' + 1) (by omega)
     obtain ⟨c2,c2b⟩:=Y.out.2.1.cell (i:=k') (by omega)
     have f1:W.frozen? ⟨g,o + (k' + 1) * 2,none⟩=false:=Y.out.2.1.froz _
     have f1b:W.frozen? ⟨g,o + (k' + 1) * 2 + 1,none⟩=false:=Y.out.2.1.froz _
     have f2:W.frozen? ⟨g,o + k' * 2,none⟩=false:=Y.out.2.1.froz _
     have f2b:W.frozen? ⟨g,o + k' * 2 + 1,none⟩=false:=Y.out.2.1.froz _
     have N:Hid (Rot l (sws l1 (k' + 1) k') k' m (m + 1)):=by have:=Y.out.1.pullR (Nat.succ_pos _) hkm hm;exact this
     have M:Hid (SRA ((((W.setCell ⟨g,o + (k' + 1) * 2,none⟩ (.int .i64 l1[k']!.1)).setCell ⟨g,o + (k' + 1) * 2 + 1,none⟩ (sl l1[k']!)).setCell ⟨g,o + k' * 2,none⟩ (.int .i64 l1[k' + 1]!.1)).setCell ⟨g,o + k' * 2 + 1,none⟩ (sl l1[k' + 1]!)) g o (sws l1 (k' + 1) k')):=Y.out.2.1.sws (by omega) (by omega)
     generalize l1[k']! = x at *
     generalize l1[k' + 1]! = y at *
     obtain ⟨x1,x2,x3,x4⟩:=x
     obtain ⟨y1,y2,y3,y4⟩:=y
     simp only [sl] at c1 c1b c2 c2b M
     clear hl1
     obtain ⟨kk,hkk⟩:∃ kk,kk=k' + 1:=⟨_,rfl⟩
     have KK:Hid (kk=k' + 1):=hkk
     rw [<- hkk] at c1 c1b f1 f1b N M k1 ek hki' hk hkm hik
     rw [<- hkk]
     have ek2:(kk:Int) - 1=(k':Int):=by omega
     have hne:kk ≠ k':=by omega
     clear hkk ek
     go_wp2
     go_region
     go_wp2
     go_roundw
     case rel=>exact ⟨_,rfl,k',sws l1 kk k',by first | rfl | go_num,by have:=KK.out;omega,by have:=KK.out;omega,N.out,M.out.same rfl,Y.out.2.2.trans (kp_swr W g _ _ _ _ _ _ _ _)⟩
     case measure=>have:=KK.out;simp [intOf];omega
    ·have hki':¬ (i:Int) < (k:Int):=by omega
     obtain rfl:k=i:=by omega
     go_wp2
     (try simp only [Exit.inBlock,Exit.then])
     refine bodyPost_ret (results_none rfl _ _ _) rfl ?_
     have q:=FIN.out l1 Y.out.1
     exact ⟨rfl,l1,q.1,q.2,Y.out.2.1,Y.out.2.2⟩
end Go.Proofs.YtcipdampcmfmaabGreat
