import Derived.Test.YtcipdampcmfmaabGreatJa18
import Derived.Test.YtcipdampcmfmaabGreatJa4
namespace Go.Proofs.YtcipdampcmfmaabGreat
open Go.RowKit
set_option maxRecDepth 100000
set_option maxHeartbeats 16000000
theorem three_set {W:World} {b b0 b1 b3 o0 o1 o3:Nat} {v0 v1 v2:Value} (h1:b ≠ b1) (h3:b ≠ b3) (h0:b ≠ b0) (h:W.cell? ⟨b0,o0,none⟩=some v0/\W.cell? ⟨b1,o1,none⟩=some v1/\W.cell? ⟨b3,o3,none⟩=some v2) (x y:Value) :
  ((W.setCell ⟨b,0,none⟩ x).setCell ⟨b,1,none⟩ y).cell? ⟨b0,o0,none⟩=some v0/\((W.setCell ⟨b,0,none⟩ x).setCell ⟨b,1,none⟩ y).cell? ⟨b1,o1,none⟩=some v1/\((W.setCell ⟨b,0,none⟩ x).setCell ⟨b,1,none⟩ y).cell? ⟨b3,o3,none⟩=some v2 :=
 ⟨set2_far' h0 h.1 x y,set2_far' h1 h.2.1 x y,set2_far' h3 h.2.2 x y⟩
theorem rnear_box {w:World} {v u:Value} {r:Reg} {a:List Int} (hv:RdR w v r) (hu:RdI w u a) (h0:ckB r a=0) (s2:r.S=2) :
  Calls Tryz.prog 44 #[v,u] w fun e w'=>e=.returned (Wd (bdV r a))/\Gr w w':=by
 obtain ⟨vl,vh,vi,rfl,hL,hH,hI⟩:=hv
 have RA0:Hid (RegAt (w.alloc (rc r vl vh vi)) w.heap.size r vl vh vi):=RegAt.new w r vl vh vi
 have G00:Gr w (w.alloc (rc r vl vh vi)):=(Gr.refl _).alloc _ _
 have G0:Gr w ((w.alloc (rc r vl vh vi)).alloc (.cells #[.int .u64 0,.int .u64 0] 40)):=G00.alloc _ _
 have RA:Hid (RegAt ((w.alloc (rc r vl vh vi)).alloc (.cells #[.int .u64 0,.int .u64 0] 40)) w.heap.size r vl vh vi):=RA0.out.gb ((Gr.refl _).alloc _ _).gb
 have AR:Hid (At2 ((w.alloc (rc r vl vh vi)).alloc (.cells #[.int .u64 0,.int .u64 0] 40)) (w.heap.size + 1) 0):=by
  have:=At2.new (w.alloc (rc r vl vh vi)) 0 40
  rw [World.size_alloc] at this
  exact this
 have A0:At2 (((w.alloc (rc r vl vh vi)).alloc (.cells #[.int .u64 0,.int .u64 0] 40)).alloc (.cells #[.int .u64 0,.int .u64 0] 40)) (w.heap.size + 1 + 1) 0:=by
  have:=At2.new ((w.alloc (rc r vl vh vi)).alloc (.cells #[.int .u64 0,.int .u64 0] 40)) 0 40
  rw [World.size_alloc,World.size_alloc] at this
  exact this
 obtain ⟨k1,k2,k3,k4,k5,k6,k7⟩:=box_ok h0 s2
 have E:Hid (bdV r a=bxN r.L r.H a a.length):=by unfold Hid bdV;rw [if_pos s2];rfl
 generalize bdV r a=res at *
 obtain ⟨pl,cl,rfl,aL⟩:=hL
 obtain ⟨ph,ch,rfl,aH⟩:=hH
 obtain ⟨pa,ca,rfl,aU⟩:=hu
 have A:Hid (∀ i,i < a.length->∃ b o,pl=some ⟨b,o,none⟩/\w.cell? ⟨b,o + i,none⟩=some (.int .i64 r.L[i]!)):=fun i hi=>aL i (by omega)
 have B:Hid (∀ i,i < a.length->∃ b o,ph=some ⟨b,o,none⟩/\w.cell? ⟨b,o + i,none⟩=some (.int .i64 r.H[i]!)):=fun i hi=>aH i (by omega)
 have C:Hid (∀ i,i < a.length->∃ b o,pa=some ⟨b,o,none⟩/\w.cell? ⟨b,o + i,none⟩=some (.int .i64 a[i]!)):=aU
 have D:Hid (∀ i,i < a.length->(-2147483647<=r.L[i]! /\ r.L[i]! <= 2147483647)/\(-2147483647<=r.H[i]! /\ r.H[i]! <= 2147483647)/\(-2147483647<=a[i]! /\ a[i]! <= 2147483647)/\r.L[i]! <= r.H[i]! /\ bxN r.L r.H a i<=i * 18446744056529682436):=fun i hi =>
  ⟨allR_get k4 (by omega),allR_get k5 (by omega),allR_get k6 hi,below_get k7 hi,bxN_le k4 k5 k6 k1 k2 i (by omega)⟩
 clear aL aH aU hI h0 k4 k5 k6 k7 RA0 G00
 obtain ⟨S,L,H,R,I⟩:=r
 dsimp only at *
 subst s2
 generalize hnl:L.length=nl at *
 generalize hnh:H.length=nh at *
 generalize hna:a.length=n at *
 clear hnl hnh hna
 replace k1:=k1.symm
 replace k2:=k2.symm
 subst k1;subst k2
 go_enter Tryz.func44,Tryz.ntmps44
 go_wp2
 go_loopw [6] (fun iv w'=>∃ q s:Nat,iv=.int .i64 (q:Int)/\q<=n/\Hid (s=bxN L H a q)/\Gr ((w.alloc (rc ⟨2,L,H,R,I⟩ (.slice pl n cl) (.slice ph n ch) vi)).alloc (.cells #[.int .u64 0,.int .u64 0] 40)) w'/\At2 w' (w.heap.size + 1 + 1) s) (fun iv _=>n - (intOf iv).toNat)
 case atStart=>exact ⟨0,0,rfl,Nat.zero_le _,rfl,(Gr.refl _).alloc _ _,A0⟩
 case round =>
  clear A0
  obtain ⟨q,s,rfl,hq,X,hG,hS⟩:=hrel
  by_cases hqn:q < n
  ·have hqi:(q:Int) < (n:Int):=by omega
   obtain ⟨b1,o1,ea,hc1⟩:=A.out q hqn
   obtain ⟨b2,o2,eb,hc2⟩:=B.out q hqn
   obtain ⟨b3,o3,ec,hc3⟩:=C.out q hqn
   subst ea;subst eb;subst ec
   have hb1:w.heap.size + 1 + 1 ≠ b1:=by have:=cell_lt hc1;dsimp only at this;omega
   have hb2:w.heap.size + 1 + 1 ≠ b2:=by have:=cell_lt hc2;dsimp only at this;omega
   have hb3:w.heap.size + 1 + 1 ≠ b3:=by have:=cell_lt hc3;dsimp only at this;omega
   have hb0:w.heap.size + 1 + 1 ≠ w.heap.size:=by omega
   obtain ⟨⟨x1,x2⟩,⟨y1,y2⟩,⟨z1,z2⟩,hxy,hle⟩:=D.out q hqn
   have hs0:s<=q * 18446744056529682436:=by rw [X.out];exact hle
   have Y:Hid (bxN L H a (q + 1)=s + gap L[q]! H[q]! a[q]! * gap L[q]! H[q]! a[q]!):=by unfold Hid;rw [X.out];rfl
   have HC:Hid (((w.alloc (rc ⟨2,L,H,R,I⟩ (.slice (some ⟨b1,o1,none⟩) n cl) (.slice (some ⟨b2,o2,none⟩) n ch) vi)).alloc (.cells #[.int .u64 0,.int .u64 0] 40)).cell? ⟨b1,o1 + q,none⟩=some (.int .i64 L[q]!)/\((w.alloc (rc ⟨2,L,H,R,I⟩ (.slice (some ⟨b1,o1,none⟩) n cl) (.slice (some ⟨b2,o2,none⟩) n ch) vi)).alloc (.cells #[.int .u64 0,.int .u64 0] 40)).cell? ⟨b2,o2 + q,none⟩=some (.int .i64 H[q]!)/\((w.alloc (rc ⟨2,L,H,R,I⟩ (.slice (some ⟨b1,o1,none⟩) n cl) (.slice (some ⟨b2,o2,none⟩) n ch) vi)).alloc (.cells #[.int .u64 0,.int .u64 0] 40)).cell? ⟨b3,o3 + q,none⟩=some (.int .i64 a[q]!)) :=
    ⟨G0.keeps hc1,G0.keeps hc2,G0.keeps hc3⟩
   replace hc1:=hG.keeps HC.out.1
   replace hc2:=hG.keeps HC.out.2.1
   replace hc3:=hG.keeps HC.out.2.2
   obtain ⟨q0,q1,q2,q3,q4,q5⟩:=RA.out.gb hG.gb
   dsimp only at q0 q1 q2 q3 q4 q5
   obtain ⟨s0,s1,s2,s3⟩:=hS
   clear X hle
   generalize L[q]! = x at *
   generalize H[q]! = y at *
   generalize a[q]! = z at *
   by_cases h1:z < x
   ·have h2:¬ y < z:=by omega
    have hg:gap x y z<=4294967294:=by unfold gap;rw [if_pos h1];omega
    have hgn:(x - z).natAbs=gap x y z:=by unfold gap;rw [if_pos h1];omega
    have hgs:s + gap x y z * gap x y z < 340282366920938463463374607431768211456:=by have:=sq_small _ hg;omega
    obtain ⟨t,ht⟩:∃ t,t=s + gap x y z * gap x y z:=⟨_,rfl⟩
    have Z:Hid (t=bxN L H a (q + 1)):=by unfold Hid;rw [Y.out,ht]
    obtain ⟨dd,hdd⟩:∃ dd,dd=x - z:=⟨_,rfl⟩
    have hw:IntKind.i64.wrap (x - z)=dd:=by rw [IntKind.wrap_i64];omega
    have c60:=fun W=>square_c dd (gap x y z) (by rw [hdd];exact hgn) hg W
    have c59:=fun W=>rsum_c s (gap x y z * gap x y z) hgs W
    rw [<- ht] at c59
    clear Y hg hgn hgs ht hdd hs0 hxy x1 x2 y1 y2 z1 z2
    generalize gap x y z * gap x y z=g at *
    go_wp2
    go_quiet (fail)
    go_wp2
    refine wp_region_held_drew (S:=fun w'=>w'.cell? ⟨w.heap.size,1,none⟩=some (.slice (some ⟨b1,o1,none⟩) n cl)/\w'.cell? ⟨b1,o1 + q,none⟩=some (.int .i64 x)/\w'.cell? ⟨b3,o3 + q,none⟩=some (.int .i64 z)) (by kernel_rfl) ⟨q1,hc1,hc3⟩ (fun hHeld=>?_)
    refine tkn 1 ?_ rfl ?_ ?_;rotate_left;·(intro w hSw;(try dsimp only at hSw);go_simp;try rfl)
    try simp only [pt]
    refine tkn 2 ?_ rfl ?_ ?_;rotate_left;·(intro w hSw;(try dsimp only at hSw);go_simp;try rfl)
    try simp only [Act.put]
    refine tkn 3 ?_ rfl ?_ ?_;rotate_left;·(intro w hSw;(try dsimp only at hSw);go_simp;try rfl)
    try simp only [Act.put]
    refine tkn 4 ?_ rfl ?_ ?_;rotate_left;·(intro w hSw;(try dsimp only at hSw);go_simp;try rfl)
    try simp only [Act.put]
    refine tkn 5 ?_ rfl ?_ ?_;rotate_left;·(intro w hSw;(try dsimp only at hSw);go_simp;try rfl)
    try simp only [Act.put]
    refine tkn 6 ?_ rfl ?_ ?_;rotate_left;·(intro w hSw;(try dsimp only at hSw);go_simp;try rfl)
    try simp only [Act.put]
    refine tkn 7 ?_ rfl ?_ ?_;rotate_left;·(intro w hSw;(try dsimp only at hSw);go_simp;try rfl)
    try simp only [Act.put]
    refine tkn 8 ?_ rfl ?_ ?_;rotate_left;·(intro w hSw;(try dsimp only at hSw);go_simp;try rfl)
    try simp only [Act.put]
    refine tkn 9 ?_ rfl ?_ ?_;rotate_left;·(intro w hSw;(try dsimp only at hSw);go_simp;try rfl)
    try simp only [Act.put]
    refine tkn 10 ?_ rfl ?_ ?_;rotate_left;·(intro w hSw;(try dsimp only at hSw);go_simp;try rfl)
    try simp only [Act.put]
    refine wpAnyH_ready (rs:=[0,11]) (by kernel_rfl) (by simp) ?_
    refine AllReadyH.cons rfl (fun K hK=>?_) (AllReadyH.cons rfl (fun K hK=>?_) (AllReadyH.nil))
    ·go_simp
     refine hK.out _ _ hHeld (fun hHeld=>?_)
     clear hK K
     try simp only [pt]
     refine rdn 11 rfl (fun K hK=>?_)
     go_simp
     go_at_call 34
     refine (c60 _).mono ?_
     rintro e w1 ⟨rfl,g1⟩
     have s0:=g1.keeps s0
     have s1:=g1.keeps s1
     have s2:=(g1.froz _).trans s2
     have s3:=(g1.froz _).trans s3
     refine hK.out _ _ (three_call g1 hHeld) (fun hHeld=>?_)
     clear hK K
     try simp only [pt]
     refine rdn 12 rfl (fun K hK=>?_)
     go_simp
     go_at_call 33
     refine (c59 _).mono ?_
     rintro e w3 ⟨rfl,g3⟩
     have s0:=g3.keeps s0
     have s1:=g3.keeps s1
     have s2:=(g3.froz _).trans s2
     have s3:=(g3.froz _).trans s3
     refine hK.out _ _ (three_call g3 hHeld) (fun hHeld=>?_)
     clear hK K
     try simp only [pt]
     refine rdn 13 rfl (fun K hK=>?_)
     go_simp
     refine hK.out _ _ (three_set hb1 hb3 hb0 hHeld _ _) (fun hHeld=>?_)
     clear hK K
     try simp only [pt]
     refine wpAnyH_done (by kernel_rfl) ?_ _
     have GX:Gr ((w.alloc (rc ⟨2,L,H,R,I⟩ (.slice (some ⟨b1,o1,none⟩) n cl) (.slice (some ⟨b2,o2,none⟩) n ch) vi)).alloc (.cells #[.int .u64 0,.int .u64 0] 40)) ((w3.setCell ⟨w.heap.size + 1 + 1,0,none⟩ (.int .u64 (hi t))).setCell ⟨w.heap.size + 1 + 1,1,none⟩ (.int .u64 (lo t))):=((((hG.drewN _).drew.trans g1).trans g3).setCell (by simp) _).setCell (by simp) _
     have AX:At2 ((w3.setCell ⟨w.heap.size + 1 + 1,0,none⟩ (.int .u64 (hi t))).setCell ⟨w.heap.size + 1 + 1,1,none⟩ (.int .u64 (lo t))) (w.heap.size + 1 + 1) t:=At2.set (s:=s) ⟨s0,s1,s2,s3⟩ t
     clear c59 c60 s0 s1 s2 s3 g1 g3 hG hHeld q0 q1 q2 q3 q4 q5 hc1 hc2 hc3
     generalize (w3.setCell ⟨w.heap.size + 1 + 1,0,none⟩ (.int .u64 (hi t))).setCell ⟨w.heap.size + 1 + 1,1,none⟩ (.int .u64 (lo t))=V at GX AX ⊢
     obtain ⟨q0,q1,q2,q3,q4,q5⟩:=RA.out.gb GX.gb
     dsimp only at q0 q1 q2 q3 q4 q5
     have hc2:=GX.keeps HC.out.2.1
     have hc3:=GX.keeps HC.out.2.2
     go_wp2
     go_quiet (fail)
     go_wp2
     go_roundw
     case rel=>exact ⟨q + 1,t,by go_num,hqn,Z,GX.drewN _,AX.gr ((Gr.refl _).drewN _)⟩
     case measure=>simp [intOf];omega
    ·go_simp
     go_at_call 34
     refine (c60 _).mono ?_
     rintro e w1 ⟨rfl,g1⟩
     have s0:=g1.keeps s0
     have s1:=g1.keeps s1
     have s2:=(g1.froz _).trans s2
     have s3:=(g1.froz _).trans s3
     refine hK.out _ _ (three_call g1 hHeld) (fun hHeld=>?_)
     clear hK K
     try simp only [pt]
     refine rdn 0 rfl (fun K hK=>?_)
     go_simp
     refine hK.out _ _ hHeld (fun hHeld=>?_)
     clear hK K
     try simp only [pt]
     refine rdn 12 rfl (fun K hK=>?_)
     go_simp
     go_at_call 33
     refine (c59 _).mono ?_
     rintro e w3 ⟨rfl,g3⟩
     have s0:=g3.keeps s0
     have s1:=g3.keeps s1
     have s2:=(g3.froz _).trans s2
     have s3:=(g3.froz _).trans s3
     refine hK.out _ _ (three_call g3 hHeld) (fun hHeld=>?_)
     clear hK K
     try simp only [pt]
     refine rdn 13 rfl (fun K hK=>?_)
     go_simp
     refine hK.out _ _ (three_set hb1 hb3 hb0 hHeld _ _) (fun hHeld=>?_)
     clear hK K
     try simp only [pt]
     refine wpAnyH_done (by kernel_rfl) ?_ _
     have GX:Gr ((w.alloc (rc ⟨2,L,H,R,I⟩ (.slice (some ⟨b1,o1,none⟩) n cl) (.slice (some ⟨b2,o2,none⟩) n ch) vi)).alloc (.cells #[.int .u64 0,.int .u64 0] 40)) ((w3.setCell ⟨w.heap.size + 1 + 1,0,none⟩ (.int .u64 (hi t))).setCell ⟨w.heap.size + 1 + 1,1,none⟩ (.int .u64 (lo t))):=((((hG.drewN _).drew.trans g1).trans g3).setCell (by simp) _).setCell (by simp) _
     have AX:At2 ((w3.setCell ⟨w.heap.size + 1 + 1,0,none⟩ (.int .u64 (hi t))).setCell ⟨w.heap.size + 1 + 1,1,none⟩ (.int .u64 (lo t))) (w.heap.size + 1 + 1) t:=At2.set (s:=s) ⟨s0,s1,s2,s3⟩ t
     clear c59 c60 s0 s1 s2 s3 g1 g3 hG hHeld q0 q1 q2 q3 q4 q5 hc1 hc2 hc3
     generalize (w3.setCell ⟨w.heap.size + 1 + 1,0,none⟩ (.int .u64 (hi t))).setCell ⟨w.heap.size + 1 + 1,1,none⟩ (.int .u64 (lo t))=V at GX AX ⊢
     obtain ⟨q0,q1,q2,q3,q4,q5⟩:=RA.out.gb GX.gb
     dsimp only at q0 q1 q2 q3 q4 q5
     have hc2:=GX.keeps HC.out.2.1
     have hc3:=GX.keeps HC.out.2.2
     go_wp2
     go_quiet (fail)
     go_wp2
     go_roundw
     case rel=>exact ⟨q + 1,t,by go_num,hqn,Z,GX.drewN _,AX.gr ((Gr.refl _).drewN _)⟩
     case measure=>simp [intOf];omega
   ·by_cases h2:y < z
    ·have hg:gap x y z<=4294967294:=by unfold gap;rw [if_neg h1,if_pos h2];omega
     have hgn:(z - y).natAbs=gap x y z:=by unfold gap;rw [if_neg h1,if_pos h2];omega
     have hgs:s + gap x y z * gap x y z < 340282366920938463463374607431768211456:=by have:=sq_small _ hg;omega
     obtain ⟨t,ht⟩:∃ t,t=s + gap x y z * gap x y z:=⟨_,rfl⟩
     have Z:Hid (t=bxN L H a (q + 1)):=by unfold Hid;rw [Y.out,ht]
     obtain ⟨dd,hdd⟩:∃ dd,dd=z - y:=⟨_,rfl⟩
     have hw:IntKind.i64.wrap (z - y)=dd:=by rw [IntKind.wrap_i64];omega
     have c60:=fun W=>square_c dd (gap x y z) (by rw [hdd];exact hgn) hg W
     have c59:=fun W=>rsum_c s (gap x y z * gap x y z) hgs W
     rw [<- ht] at c59
     clear Y hg hgn hgs ht hdd hs0 hxy x1 x2 y1 y2 z1 z2
     generalize gap x y z * gap x y z=g at *
     go_wp2
     go_quiet (fail)
     go_wp2
     go_quiet (fail)
     go_wp2
     refine wp_region_held_drew (S:=fun w'=>w'.cell? ⟨w.heap.size,2,none⟩=some (.slice (some ⟨b2,o2,none⟩) n ch)/\w'.cell? ⟨b2,o2 + q,none⟩=some (.int .i64 y)/\w'.cell? ⟨b3,o3 + q,none⟩=some (.int .i64 z)) (by kernel_rfl) ⟨q2,hc2,hc3⟩ (fun hHeld=>?_)
     refine tkn 1 ?_ rfl ?_ ?_;rotate_left;·(intro w hSw;(try dsimp only at hSw);go_simp;try rfl)
     try simp only [pt]
     refine tkn 2 ?_ rfl ?_ ?_;rotate_left;·(intro w hSw;(try dsimp only at hSw);go_simp;try rfl)
     try simp only [Act.put]
     refine tkn 3 ?_ rfl ?_ ?_;rotate_left;·(intro w hSw;(try dsimp only at hSw);go_simp;try rfl)
     try simp only [Act.put]
     refine tkn 4 ?_ rfl ?_ ?_;rotate_left;·(intro w hSw;(try dsimp only at hSw);go_simp;try rfl)
     try simp only [Act.put]
     refine tkn 5 ?_ rfl ?_ ?_;rotate_left;·(intro w hSw;(try dsimp only at hSw);go_simp;try rfl)
     try simp only [Act.put]
     refine tkn 6 ?_ rfl ?_ ?_;rotate_left;·(intro w hSw;(try dsimp only at hSw);go_simp;try rfl)
     try simp only [Act.put]
     refine tkn 7 ?_ rfl ?_ ?_;rotate_left;·(intro w hSw;(try dsimp only at hSw);go_simp;try rfl)
     try simp only [Act.put]
     refine tkn 8 ?_ rfl ?_ ?_;rotate_left;·(intro w hSw;(try dsimp only at hSw);go_simp;try rfl)
     try simp only [Act.put]
     refine tkn 9 ?_ rfl ?_ ?_;rotate_left;·(intro w hSw;(try dsimp only at hSw);go_simp;try rfl)
     try simp only [Act.put]
     refine tkn 10 ?_ rfl ?_ ?_;rotate_left;·(intro w hSw;(try dsimp only at hSw);go_simp;try rfl)
     try simp only [Act.put]
     refine wpAnyH_ready (rs:=[0,11]) (by kernel_rfl) (by simp) ?_
     refine AllReadyH.cons rfl (fun K hK=>?_) (AllReadyH.cons rfl (fun K hK=>?_) (AllReadyH.nil))
     ·go_simp
      refine hK.out _ _ hHeld (fun hHeld=>?_)
      clear hK K
      try simp only [pt]
      refine rdn 11 rfl (fun K hK=>?_)
      go_simp
      go_at_call 34
      refine (c60 _).mono ?_
      rintro e w1 ⟨rfl,g1⟩
      have s0:=g1.keeps s0
      have s1:=g1.keeps s1
      have s2:=(g1.froz _).trans s2
      have s3:=(g1.froz _).trans s3
      refine hK.out _ _ (three_call g1 hHeld) (fun hHeld=>?_)
      clear hK K
      try simp only [pt]
      refine rdn 12 rfl (fun K hK=>?_)
      go_simp
      go_at_call 33
      refine (c59 _).mono ?_
      rintro e w3 ⟨rfl,g3⟩
      have s0:=g3.keeps s0
      have s1:=g3.keeps s1
      have s2:=(g3.froz _).trans s2
      have s3:=(g3.froz _).trans s3
      refine hK.out _ _ (three_call g3 hHeld) (fun hHeld=>?_)
      clear hK K
      try simp only [pt]
      refine rdn 13 rfl (fun K hK=>?_)
      go_simp
      refine hK.out _ _ (three_set hb2 hb3 hb0 hHeld _ _) (fun hHeld=>?_)
      clear hK K
      try simp only [pt]
      refine wpAnyH_done (by kernel_rfl) ?_ _
      have GX:Gr ((w.alloc (rc ⟨2,L,H,R,I⟩ (.slice (some ⟨b1,o1,none⟩) n cl) (.slice (some ⟨b2,o2,none⟩) n ch) vi)).alloc (.cells #[.int .u64 0,.int .u64 0] 40)) ((w3.setCell ⟨w.heap.size + 1 + 1,0,none⟩ (.int .u64 (hi t))).setCell ⟨w.heap.size + 1 + 1,1,none⟩ (.int .u64 (lo t))):=((((hG.drewN _).trans g1).trans g3).setCell (by simp) _).setCell (by simp) _
      have AX:At2 ((w3.setCell ⟨w.heap.size + 1 + 1,0,none⟩ (.int .u64 (hi t))).setCell ⟨w.heap.size + 1 + 1,1,none⟩ (.int .u64 (lo t))) (w.heap.size + 1 + 1) t:=At2.set (s:=s) ⟨s0,s1,s2,s3⟩ t
      clear c59 c60 s0 s1 s2 s3 g1 g3 hG hHeld
      go_wp2
      go_roundw
      case rel=>exact ⟨q + 1,t,by go_num,hqn,Z,GX,AX⟩
      case measure=>simp [intOf];omega
     ·go_simp
      go_at_call 34
      refine (c60 _).mono ?_
      rintro e w1 ⟨rfl,g1⟩
      have s0:=g1.keeps s0
      have s1:=g1.keeps s1
      have s2:=(g1.froz _).trans s2
      have s3:=(g1.froz _).trans s3
      refine hK.out _ _ (three_call g1 hHeld) (fun hHeld=>?_)
      clear hK K
      try simp only [pt]
      refine rdn 0 rfl (fun K hK=>?_)
      go_simp
      refine hK.out _ _ hHeld (fun hHeld=>?_)
      clear hK K
      try simp only [pt]
      refine rdn 12 rfl (fun K hK=>?_)
      go_simp
      go_at_call 33
      refine (c59 _).mono ?_
      rintro e w3 ⟨rfl,g3⟩
      have s0:=g3.keeps s0
      have s1:=g3.keeps s1
      have s2:=(g3.froz _).trans s2
      have s3:=(g3.froz _).trans s3
      refine hK.out _ _ (three_call g3 hHeld) (fun hHeld=>?_)
      clear hK K
      try simp only [pt]
      refine rdn 13 rfl (fun K hK=>?_)
      go_simp
      refine hK.out _ _ (three_set hb2 hb3 hb0 hHeld _ _) (fun hHeld=>?_)
      clear hK K
      try simp only [pt]
      refine wpAnyH_done (by kernel_rfl) ?_ _
      have GX:Gr ((w.alloc (rc ⟨2,L,H,R,I⟩ (.slice (some ⟨b1,o1,none⟩) n cl) (.slice (some ⟨b2,o2,none⟩) n ch) vi)).alloc (.cells #[.int .u64 0,.int .u64 0] 40)) ((w3.setCell ⟨w.heap.size + 1 + 1,0,none⟩ (.int .u64 (hi t))).setCell ⟨w.heap.size + 1 + 1,1,none⟩ (.int .u64 (lo t))):=((((hG.drewN _).trans g1).trans g3).setCell (by simp) _).setCell (by simp) _
      have AX:At2 ((w3.setCell ⟨w.heap.size + 1 + 1,0,none⟩ (.int .u64 (hi t))).setCell ⟨w.heap.size + 1 + 1,1,none⟩ (.int .u64 (lo t))) (w.heap.size + 1 + 1) t:=At2.set (s:=s) ⟨s0,s1,s2,s3⟩ t
      clear c59 c60 s0 s1 s2 s3 g1 g3 hG hHeld
      go_wp2
      go_roundw
      case rel=>exact ⟨q + 1,t,by go_num,hqn,Z,GX,AX⟩
      case measure=>simp [intOf];omega
    ·have Z:Hid (s=bxN L H a (q + 1)):=by
      have:gap x y z=0:=by unfold gap;rw [if_neg h1,if_neg h2]
      unfold Hid;rw [Y.out,this];rfl
     clear Y hs0 hxy x1 x2 y1 y2 z1 z2
     go_wp2
     go_quiet (fail)
     go_wp2
     go_quiet (fail)
     go_wp2
     go_roundw
     case rel=>exact ⟨q + 1,s,by go_num,hqn,Z,hG.drewN _,⟨s0,s1,s2,s3⟩⟩
     case measure=>simp [intOf];omega
  ·have hqi:¬ (q:Int) < (n:Int):=by omega
   have R1:Hid (res=s):=by
    have h2:q=n:=by omega
    unfold Hid;rw [E.out,X.out,h2]
   obtain ⟨s0,s1,s2,s3⟩:=hS
   have AR2:=AR.out.gr hG
   obtain ⟨u0,u1,_,_⟩:=AR2.set s
   obtain ⟨r0,r1,r2,r3⟩:=AR2
   go_wp2
   exact bodyPost_ret (v:=Wd s) (by simp [results,Tryz.results44,go_sem,u0,u1]) rfl ⟨by rw [R1.out],((G0.trans hG).setCell (by simp) _).setCell (by simp) _⟩
end Go.Proofs.YtcipdampcmfmaabGreat
