import Derived.Test.YtcipdampcmfmaaaGreatIa2
import Derived.Test.YtcipdampcmfmaaaGreatIa6
import Derived.Test.YtcipdampcmfmaaaGreatIa8
namespace Go.Proofs.YtcipdampcmfmaaaGreat
open Go.RowKit
set_option maxRecDepth 100000
set_option maxHeartbeats 8000000
def bxN (l h q:List Int) (n:Nat):Nat:=sumN (fun i=>gap l[i]! h[i]! q[i]! * gap l[i]! h[i]! q[i]!) n
def bx (l h q:List Int):Nat:=bxN l h q q.length
theorem bxN_le {l h q:List Int} (hl:allR l=true) (hh:allR h=true) (hq:allR q=true) (h1:l.length=q.length) (h2:h.length=q.length) (n:Nat) (hn:n<=q.length):bxN l h q n<=n * 18446744056529682436 :=
 sumN_le _ _ _ (fun i hi=>sq_small _ (gap_le _ _ _ (allR_get hl (by omega)) (allR_get hh (by omega)) (allR_get hq (by omega))))
theorem four_call {W w':World} {p0 p1 p2 p3:Addr} {v0 v1 v2 v3:Value} (g:Gr W w') (h:W.cell? p0=some v0/\W.cell? p1=some v1/\W.cell? p2=some v2/\W.cell? p3=some v3) :
  w'.cell? p0=some v0/\w'.cell? p1=some v1/\w'.cell? p2=some v2/\w'.cell? p3=some v3:=⟨g.keeps h.1,g.keeps h.2.1,g.keeps h.2.2.1,g.keeps h.2.2.2⟩
theorem set2_far {W:World} {b:Nat} {p:Addr} {v:Value} (hb:b ≠ p.block) (h:W.cell? p=some v) (x y:Value):((W.setCell ⟨b,0,none⟩ x).setCell ⟨b,1,none⟩ y).cell? p=some v:=by
 rw [World.cell?_setCell_far _ _ _ _ hb,World.cell?_setCell_far _ _ _ _ hb];exact h
theorem four_set {W:World} {b b1 b2 b0 o1 o2 o3 o4:Nat} {v0 v1 v2 v3:Value} (h1:b ≠ b1) (h2:b ≠ b2) (h0:b ≠ b0) (h:W.cell? ⟨b1,o1,none⟩=some v0/\W.cell? ⟨b2,o2,none⟩=some v1/\W.cell? ⟨b0,o3,none⟩=some v2/\W.cell? ⟨b0,o4,none⟩=some v3) (x y:Value) :
  ((W.setCell ⟨b,0,none⟩ x).setCell ⟨b,1,none⟩ y).cell? ⟨b1,o1,none⟩=some v0/\((W.setCell ⟨b,0,none⟩ x).setCell ⟨b,1,none⟩ y).cell? ⟨b2,o2,none⟩=some v1/\((W.setCell ⟨b,0,none⟩ x).setCell ⟨b,1,none⟩ y).cell? ⟨b0,o3,none⟩=some v2/\((W.setCell ⟨b,0,none⟩ x).setCell ⟨b,1,none⟩ y).cell? ⟨b0,o4,none⟩=some v3 :=
 ⟨set2_far h1 h.1 x y,set2_far h2 h.2.1 x y,set2_far h0 h.2.2.1 x y,set2_far h0 h.2.2.2 x y⟩
theorem boxBound_c {w:World} {v u:Value} {r:Reg} {a:List Int} (hv:RdR w v r) (hu:RdI w u a) (hl:r.L.length=a.length) (hh:r.H.length=a.length) (hn:a.length<=64) (rl:allR r.L=true) (rh:allR r.H=true) (ra:allR a=true) :
  Calls Tryz.prog 157 #[v,u] w fun e w'=>e=.returned (Wd (bx r.L r.H a))/\Gr w w':=by
 obtain ⟨vl,vh,vi,rfl,⟨pl,cl,rfl,el⟩,⟨ph,ch,rfl,eh⟩,h3⟩:=hv
 obtain ⟨pa,ca,rfl,ea⟩:=hu
 clear h3
 have RA0:=RegAt.new w r (.slice pl r.L.length cl) (.slice ph r.H.length ch) vi
 obtain ⟨S,L,H,R,I⟩:=r
 dsimp only at *
 have AL:Hid (∀ i,i < L.length->∃ b o,pl=some ⟨b,o,none⟩/\w.cell? ⟨b,o + i,none⟩=some (.int .i64 L[i]!)):=el
 have AH:Hid (∀ i,i < H.length->∃ b o,ph=some ⟨b,o,none⟩/\w.cell? ⟨b,o + i,none⟩=some (.int .i64 H[i]!)):=eh
 have AA:Hid (∀ i,i < a.length->∃ b o,pa=some ⟨b,o,none⟩/\w.cell? ⟨b,o + i,none⟩=some (.int .i64 a[i]!)):=ea
 have HH:Hid (L.length=a.length/\H.length=a.length/\allR L=true/\allR H=true/\allR a=true):=⟨hl,hh,rl,rh,ra⟩
 rw [hl,hh] at RA0 ⊢
 obtain ⟨n,hN⟩:∃ n,n=a.length:=⟨_,rfl⟩
 have N:Hid (n=a.length):=hN
 rw [<- hN] at hn RA0 ⊢
 clear el eh ea hl hh rl rh ra hN
 have RA:Hid (RegAt (w.alloc (.cells #[.int .i64 S,.slice pl n cl,.slice ph n ch,.int .u64 (hi R),.int .u64 (lo R),vi] 99)) w.heap.size ⟨S,L,H,R,I⟩ (.slice pl n cl) (.slice ph n ch) vi):=RA0
 clear RA0
 have S0:At2 (((w.alloc (.cells #[.int .i64 S,.slice pl n cl,.slice ph n ch,.int .u64 (hi R),.int .u64 (lo R),vi] 99)).alloc (.cells #[.int .u64 0,.int .u64 0] 79)).alloc (.cells #[.int .u64 0,.int .u64 0] 79)) (w.heap.size + 1 + 1) 0:=by
  have:=At2.new ((w.alloc (.cells #[.int .i64 S,.slice pl n cl,.slice ph n ch,.int .u64 (hi R),.int .u64 (lo R),vi] 99)).alloc (.cells #[.int .u64 0,.int .u64 0] 79)) 0 79
  rw [World.size_alloc,World.size_alloc] at this
  exact this
 obtain ⟨W0,hW0⟩:∃ W0,W0=w.alloc (.cells #[.int .i64 S,.slice pl n cl,.slice ph n ch,.int .u64 (hi R),.int .u64 (lo R),vi] 99):=⟨_,rfl⟩
 have Z0:Hid (Gr w W0/\W0.heap.size=w.heap.size + 1):=by rw [hW0];exact ⟨(Gr.refl _).alloc _ _,by simp⟩
 have W00:Hid (W0=w.alloc (.cells #[.int .i64 S,.slice pl n cl,.slice ph n ch,.int .u64 (hi R),.int .u64 (lo R),vi] 99)):=hW0
 rw [<- hW0] at S0 RA
 have G0:Gr (W0.alloc (.cells #[.int .u64 0,.int .u64 0] 79)) ((W0.alloc (.cells #[.int .u64 0,.int .u64 0] 79)).alloc (.cells #[.int .u64 0,.int .u64 0] 79)):=(Gr.refl _).alloc _ _
 rw [hW0] at S0 G0
 clear hW0
 go_enter Tryz.func157,Tryz.ntmps157
 go_wp2
 go_loopw [10] (fun iv w'=>∃ q s:Nat,iv=.int .i64 (q:Int)/\q<=n/\Hid (s=bxN L H a q)/\Gr (W0.alloc (.cells #[.int .u64 0,.int .u64 0] 79)) w'/\At2 w' (w.heap.size + 1 + 1) s) (fun iv _=>n - (intOf iv).toNat)
 case atStart=>exact ⟨0,0,rfl,Nat.zero_le _,rfl,by rw [W00.out];exact G0,S0⟩
 case round =>
  clear S0 G0
  obtain ⟨q,s,rfl,hq,X,hG,hS⟩:=hrel
  by_cases hqn:q < n
  ·have hqi:(q:Int) < (n:Int):=by omega
   obtain ⟨e1,e2,e3,e4,e5⟩:=HH.out
   have hqa:q < a.length:=by have:=N.out;omega
   obtain ⟨b1,o1,ea,h1⟩:=AL.out q (by omega)
   obtain ⟨b2,o2,eb,h2⟩:=AH.out q (by omega)
   obtain ⟨b3,o3,ec,h3⟩:=AA.out q hqa
   subst ea;subst eb;subst ec
   have G1:Gr W0 wr:=((Gr.refl _).alloc _ _).trans hG
   have x0:=(Z0.out.1.trans G1).keeps h1
   have y0:=(Z0.out.1.trans G1).keeps h2
   have z0:=(Z0.out.1.trans G1).keeps h3
   have r1:=G1.keeps RA.out.c1
   have r2:=G1.keeps RA.out.c2
   have hb1:w.heap.size + 1 + 1 ≠ b1:=by have:=cell_lt h1;dsimp only at this;omega
   have hb2:w.heap.size + 1 + 1 ≠ b2:=by have:=cell_lt h2;dsimp only at this;omega
   have hb0:w.heap.size + 1 + 1 ≠ w.heap.size:=by omega
   have hx:=allR_get e3 (show q < L.length by omega)
   have hy:=allR_get e4 (show q < H.length by omega)
   have hz:=allR_get e5 hqa
   have hs0:s<=q * 18446744056529682436:=by rw [X.out];exact bxN_le e3 e4 e5 e1 e2 q (by omega)
   have Y:Hid (bxN L H a (q + 1)=bxN L H a q + gap L[q]! H[q]! a[q]! * gap L[q]! H[q]! a[q]!):=rfl
   generalize L[q]! = x at *
   generalize H[q]! = y at *
   generalize a[q]! = z at *
   have hg:gap x y z < 18446744073709551616:=by have:=gap_le x y z hx hy hz;omega
   have hgs:s + gap x y z * gap x y z < 340282366920938463463374607431768211456:=by have:=sq_small _ (gap_le x y z hx hy hz);omega
   have Z:Hid (s + gap x y z * gap x y z=bxN L H a (q + 1)):=by unfold Hid;rw [Y.out,X.out]
   have c57:=fun W=>withSquare_c s (gap x y z) hg hgs W
   have c70:=fun b c W c0 c1=>side1_c x y z hx hy hz b c W c0 c1
   obtain ⟨s0,s1,s2,s3⟩:=hS
   clear h1 h2 h3 hx hy hz hs0 Y X hg hgs hqa G1 e1 e2 e3 e4 e5
   generalize s + gap x y z * gap x y z=t at *
   generalize gap x y z=g at *
   go_wp2
   have hS0:wr.cell? ⟨b1,o1 + q,none⟩=some (.int .i64 x)/\wr.cell? ⟨b2,o2 + q,none⟩=some (.int .i64 y)/\wr.cell? ⟨w.heap.size,1,none⟩=some (.slice (some ⟨b1,o1,none⟩) n cl)/\wr.cell? ⟨w.heap.size,2,none⟩=some (.slice (some ⟨b2,o2,none⟩) n ch):=⟨x0,y0,r1,r2⟩
   refine wp_region_held_drew (S:=fun w'=>w'.cell? ⟨b1,o1 + q,none⟩=some (.int .i64 x)/\w'.cell? ⟨b2,o2 + q,none⟩=some (.int .i64 y)/\w'.cell? ⟨w.heap.size,1,none⟩=some (.slice (some ⟨b1,o1,none⟩) n cl)/\w'.cell? ⟨w.heap.size,2,none⟩=some (.slice (some ⟨b2,o2,none⟩) n ch)) (by kernel_rfl) hS0 (fun hHeld=>?_)
   refine tkn 1 ?_ rfl ?_ ?_;rotate_left;·(intro w hSw;(try dsimp only at hSw);go_simp;try rfl)
   try simp only [pt]
   refine tkn 2 ?_ rfl ?_ ?_;rotate_left;·(intro w hSw;(try dsimp only at hSw);go_simp;try rfl)
   try simp only [Act.put]
   refine tkn 3 ?_ rfl ?_ ?_;rotate_left;·(intro w hSw;(try dsimp only at hSw);go_simp;try rfl)
   try simp only [Act.put]
   refine tkn 4 ?_ rfl ?_ ?_;rotate_left;·(intro w hSw;(try dsimp only at hSw);go_simp;try rfl)
   try simp only [Act.put]
   refine tkn 5 ?_ rfl ?_ ?_;rotate_left;·(intro w hSw;(try dsimp only at hSw);go_simp;try rfl)
   try simp only [Act.put]
   refine tkn 6 ?_ rfl ?_ ?_;rotate_left;·(intro w hSw;(try dsimp only at hSw);go_simp;try rfl)
   try simp only [Act.put]
   refine tkn 7 ?_ rfl ?_ ?_;rotate_left;·(intro w hSw;(try dsimp only at hSw);go_simp;try rfl)
   try simp only [Act.put]
   refine tkn 8 ?_ rfl ?_ ?_;rotate_left;·(intro w hSw;(try dsimp only at hSw);go_simp;try rfl)
   try simp only [Act.put]
   refine tkn 9 ?_ rfl ?_ ?_;rotate_left;·(intro w hSw;(try dsimp only at hSw);go_simp;try rfl)
   try simp only [Act.put]
   refine tkn 10 ?_ rfl ?_ ?_;rotate_left;·(intro w hSw;(try dsimp only at hSw);go_simp;try rfl)
   try simp only [Act.put]
   refine tkn 12 ?_ rfl ?_ ?_;rotate_left;·(intro w hSw;(try dsimp only at hSw);go_simp;try rfl)
   try simp only [Act.put]
   refine wpAnyH_ready (rs:=[0,11]) (by kernel_rfl) (by simp) ?_
   refine AllReadyH.cons rfl (fun K hK=>?_) (AllReadyH.cons rfl (fun K hK=>?_) (AllReadyH.nil))
   ·go_simp
    refine hK.out _ _ hHeld (fun hHeld=>?_)
    clear hK K
    try simp only [pt]
    refine rdn 11 rfl (fun K hK=>?_)
    go_simp
    go_at_call 152
    refine (side_at _ _ _).mono ?_
    rintro e w1 ⟨bb,cc,rfl,k0,k1,g1⟩
    have s0:=g1.keeps s0
    have s1:=g1.keeps s1
    have s2:=(g1.froz _).trans s2
    have s3:=(g1.froz _).trans s3
    refine hK.out _ _ (four_call g1 hHeld) (fun hHeld=>?_)
    clear hK K
    try simp only [pt]
    refine rdn 13 rfl (fun K hK=>?_)
    go_simp
    go_at_call 196
    refine (c70 _ _ _ k0 k1).mono ?_
    rintro e w2 ⟨rfl,e2⟩
    subst e2
    refine hK.out _ _ hHeld (fun hHeld=>?_)
    clear hK K
    try simp only [pt]
    refine rdn 14 rfl (fun K hK=>?_)
    go_simp
    go_at_call 151
    refine (c57 _).mono ?_
    rintro e w3 ⟨rfl,g3⟩
    have s0:=g3.keeps s0
    have s1:=g3.keeps s1
    have s2:=(g3.froz _).trans s2
    have s3:=(g3.froz _).trans s3
    refine hK.out _ _ (four_call g3 hHeld) (fun hHeld=>?_)
    clear hK K
    try simp only [pt]
    refine rdn 15 rfl (fun K hK=>?_)
    go_simp
    refine hK.out _ _ (four_set hb1 hb2 hb0 hHeld _ _) (fun hHeld=>?_)
    clear hK K
    try simp only [pt]
    refine wpAnyH_done (by kernel_rfl) ?_ _
    have hG3:=(hG.drew.trans g1).trans g3
    have hS3:At2 w3 (w.heap.size + 1 + 1) s:=⟨s0,s1,s2,s3⟩
    clear c57 c70 x0 y0 z0 r1 r2 s0 s1 s2 s3 k0 k1 g1 g3 hG hHeld hS0
    go_wp2
    exact ⟨⟨q + 1,t,by go_num,hqn,Z,(hG3.setCell (by simp [Z0.out.2]) _).setCell (by simp [Z0.out.2]) _,hS3.set t⟩,by simp [intOf];omega⟩
   ·go_simp
    go_at_call 152
    refine (side_at _ _ _).mono ?_
    rintro e w1 ⟨bb,cc,rfl,k0,k1,g1⟩
    have s0:=g1.keeps s0
    have s1:=g1.keeps s1
    have s2:=(g1.froz _).trans s2
    have s3:=(g1.froz _).trans s3
    refine hK.out _ _ (four_call g1 hHeld) (fun hHeld=>?_)
    clear hK K
    try simp only [pt]
    refine wpAnyH_ready (rs:=[0,13]) (by kernel_rfl) (by simp) ?_
    refine AllReadyH.cons rfl (fun K hK=>?_) (AllReadyH.cons rfl (fun K hK=>?_) (AllReadyH.nil))
    ·go_simp
     refine hK.out _ _ hHeld (fun hHeld=>?_)
     clear hK K
     try simp only [pt]
     refine rdn 13 rfl (fun K hK=>?_)
     go_simp
     go_at_call 196
     refine (c70 _ _ _ k0 k1).mono ?_
     rintro e w2 ⟨rfl,e2⟩
     subst e2
     refine hK.out _ _ hHeld (fun hHeld=>?_)
     clear hK K
     try simp only [pt]
     refine rdn 14 rfl (fun K hK=>?_)
     go_simp
     go_at_call 151
     refine (c57 _).mono ?_
     rintro e w3 ⟨rfl,g3⟩
     have s0:=g3.keeps s0
     have s1:=g3.keeps s1
     have s2:=(g3.froz _).trans s2
     have s3:=(g3.froz _).trans s3
     refine hK.out _ _ (four_call g3 hHeld) (fun hHeld=>?_)
     clear hK K
     try simp only [pt]
     refine rdn 15 rfl (fun K hK=>?_)
     go_simp
     refine hK.out _ _ (four_set hb1 hb2 hb0 hHeld _ _) (fun hHeld=>?_)
     clear hK K
     try simp only [pt]
     refine wpAnyH_done (by kernel_rfl) ?_ _
     have hG3:=(hG.drew.trans g1).trans g3
     have hS3:At2 w3 (w.heap.size + 1 + 1) s:=⟨s0,s1,s2,s3⟩
     clear c57 c70 x0 y0 z0 r1 r2 s0 s1 s2 s3 k0 k1 g1 g3 hG hHeld hS0
     go_wp2
     exact ⟨⟨q + 1,t,by go_num,hqn,Z,(hG3.setCell (by simp [Z0.out.2]) _).setCell (by simp [Z0.out.2]) _,hS3.set t⟩,by simp [intOf];omega⟩
    ·go_simp
     go_at_call 196
     refine (c70 _ _ _ k0 k1).mono ?_
     rintro e w2 ⟨rfl,e2⟩
     subst e2
     refine hK.out _ _ hHeld (fun hHeld=>?_)
     clear hK K
     try simp only [pt]
     refine rdn 0 rfl (fun K hK=>?_)
     go_simp
     refine hK.out _ _ hHeld (fun hHeld=>?_)
     clear hK K
     try simp only [pt]
     refine rdn 14 rfl (fun K hK=>?_)
     go_simp
     go_at_call 151
     refine (c57 _).mono ?_
     rintro e w3 ⟨rfl,g3⟩
     have s0:=g3.keeps s0
     have s1:=g3.keeps s1
     have s2:=(g3.froz _).trans s2
     have s3:=(g3.froz _).trans s3
     refine hK.out _ _ (four_call g3 hHeld) (fun hHeld=>?_)
     clear hK K
     try simp only [pt]
     refine rdn 15 rfl (fun K hK=>?_)
     go_simp
     refine hK.out _ _ (four_set hb1 hb2 hb0 hHeld _ _) (fun hHeld=>?_)
     clear hK K
     try simp only [pt]
     refine wpAnyH_done (by kernel_rfl) ?_ _
     have hG3:=(hG.drew.trans g1).trans g3
     have hS3:At2 w3 (w.heap.size + 1 + 1) s:=⟨s0,s1,s2,s3⟩
     clear c57 c70 x0 y0 z0 r1 r2 s0 s1 s2 s3 k0 k1 g1 g3 hG hHeld hS0
     go_wp2
     exact ⟨⟨q + 1,t,by go_num,hqn,Z,(hG3.setCell (by simp [Z0.out.2]) _).setCell (by simp [Z0.out.2]) _,hS3.set t⟩,by simp [intOf];omega⟩
  ·have hqi:¬ (q:Int) < (n:Int):=by omega
   have E:Hid (s=bx L H a):=by
    have h1:=X.out
    rw [show q=a.length by have:=N.out;omega] at h1;exact h1
   obtain ⟨s0,s1,s2,s3⟩:=hS
   obtain ⟨v0,v1,v2,v3⟩:=hG.var2
   rw [Z0.out.2] at v0 v1 v2 v3
   have hG2:=(Z0.out.1.trans ((Gr.refl _).alloc _ _)).trans hG
   go_wp2
   exact bodyPost_ret (v:=Wd s) (by simp [results,Tryz.results157,go_sem,v0,v1]) rfl ⟨by rw [E.out],by repeat (first | exact hG2 | refine Gr.setCell ?_ (by simp) _)⟩
end Go.Proofs.YtcipdampcmfmaaaGreat

namespace Go.Proofs.YtcipdampcmfmaaaGreat
open Go.RowKit
set_option maxRecDepth 100000
set_option maxHeartbeats 4000000
def inV (r:Reg) (a:List Int):Bool:=if r.S=2 then decide (bx r.L r.H a=0) else if r.S=3 then decide (dst r.L a<=r.R) else true
def bdV (r:Reg) (a:List Int):Nat:=if r.S=2 then bx r.L r.H a else if r.S=3 then ballV (dst r.L a) r.R else 0
theorem ckB_ok {r:Reg} {a:List Int} (h:ckB r a=0):ckR r a.length=0/\chk a a.length=0:=by
 unfold ckB at h;split at h
 ·rename_i h1;exact ⟨h1,h⟩
 ·rename_i h1;exact absurd h h1
theorem ckR_ok {r:Reg} {d:Int} (h:ckR r d=0):(r.S=2->cornE r.L r.H d=0)/\(r.S=3->chk r.L d=0)/\uses r=true/\rise r.I=true:=by
 unfold ckR at h;split at h
 ·split at h
  ·rename_i h2
   refine ⟨fun e=>?_,fun e=>?_,h2⟩
   ·rw [if_pos e] at h;exact h
   ·rw [if_neg (by omega),if_pos e] at h;exact h
  ·cases h
 ·cases h
theorem cornE_ok {l h:List Int} {d:Int} (k:cornE l h d=0):chk l d=0/\chk h d=0/\below l h l.length=true:=by
 unfold cornE at k;split at k
 ·rename_i h1
  split at k
  ·rename_i h2
   split at k
   ·rename_i h3;exact ⟨h1,h2,h3⟩
   ·cases k
  ·rename_i h2;exact absurd k h2
 ·rename_i h1;exact absurd k h1
theorem box_ok {r:Reg} {a:List Int} (h:ckB r a=0) (s:r.S=2):r.L.length=a.length/\r.H.length=a.length/\a.length<=64/\allR r.L=true/\allR r.H=true/\allR a=true/\below r.L r.H a.length=true:=by
 obtain ⟨h1,h2⟩:=ckB_ok h
 obtain ⟨h3,h4,h5⟩:=cornE_ok ((ckR_ok h1).1 s)
 obtain ⟨a1,a2,a3,a4⟩:=chk_ok h3
 obtain ⟨b1,b2,b3,b4⟩:=chk_ok h4
 obtain ⟨c1,c2,c3,c4⟩:=chk_ok h2
 have e1:r.L.length=a.length:=by omega
 rw [e1] at h5
 exact ⟨e1,by omega,c2,a4,b4,c4,h5⟩
theorem ball_ok {r:Reg} {a:List Int} (h:ckB r a=0) (s:r.S=3):r.L.length=a.length/\r.L.length<=64/\allR r.L=true/\allR a=true:=by
 obtain ⟨h1,h2⟩:=ckB_ok h
 obtain ⟨a1,a2,a3,a4⟩:=chk_ok ((ckR_ok h1).2.1 s)
 obtain ⟨c1,c2,c3,c4⟩:=chk_ok h2
 exact ⟨by omega,a2,a4,c4⟩
def bndV (r:Reg) (a:List Int):Nat:=if ckB r a=0 then bdV r a else 0
theorem bound_c {w:World} {v u:Value} {r:Reg} {a:List Int} (hv:RdR w v r) (hu:RdI w u a) (hlen:r.I.length<=4611686018427387904) (hR:r.R < 340282366920938463463374607431768211456) :
  Calls Tryz.prog 106 #[v,u] w fun e w'=>e=.returned (.tuple #[Wd (bndV r a),.int .i64 (ckB r a)])/\Gr w w':=by
 have HV:Hid (RdR w v r):=hv
 obtain ⟨vl,vh,vi,rfl,hL,hH,hI⟩:=hv
 have RA:Hid (RegAt (w.alloc (rc r vl vh vi)) w.heap.size r vl vh vi):=RegAt.new w r vl vh vi
 have G00:Gr w (w.alloc (rc r vl vh vi)):=(Gr.refl _).alloc _ _
 have G01:Gr (w.alloc (rc r vl vh vi)) ((w.alloc (rc r vl vh vi)).alloc (.cells #[.int .u64 0,.int .u64 0] 79)):=(Gr.refl _).alloc _ _
 have G0:=G00.trans G01
 have C1:=fun x hx=>checkBoth_v (HV.out.gb G0.gb) (hu.gb G0.gb) hlen x hx
 by_cases h0:ckB r a=0
 ·have c1:=C1 _ h0
  have E:Hid (bndV r a=bdV r a):=by unfold Hid bndV;rw [if_pos h0]
  rw [E.out,h0]
  clear C1 E
  have E:Hid (bdV r a=if r.S=2 then bx r.L r.H a else if r.S=3 then ballV (dst r.L a) r.R else 0):=rfl
  generalize bdV r a=res at *
  by_cases s2:r.S=2
  ·obtain ⟨k1,k2,k3,k4,k5,k6,k7⟩:=box_ok h0 s2
   rw [if_pos s2] at E
   have c2:=fun W' (g:Gr ((w.alloc (rc r vl vh vi)).alloc (.cells #[.int .u64 0,.int .u64 0] 79)) W')=>boxBound_c (HV.out.gb (G0.trans g).gb) (hu.gb (G0.trans g).gb) k1 k2 k3 k4 k5 k6
   rw [<- E.out] at c2
   obtain ⟨pa,ca,rfl,_⟩:=hu
   clear HV hL hH hI h0 k1 k2 k3 k4 k5 k6 k7 hlen hR E
   obtain ⟨S,L,H,R,I⟩:=r
   dsimp only at *
   subst s2
   generalize a.length=na at *
   go_enter Tryz.func106,Tryz.ntmps106
   go_wp2_with fail
   refine c1.mono ?_
   rintro e w1 ⟨rfl,g1⟩
   obtain ⟨q0,q1,q2,q3,q4,q5⟩:=RA.out.gb (G01.trans g1).gb
   dsimp only at q0 q1 q2 q3 q4 q5
   go_wp2_with fail
   refine (c2 _ g1).mono ?_
   rintro e w2 ⟨rfl,g2⟩
   have G2:=g1.trans g2
   have VV:=G2.var2
   simp only [World.size_alloc] at VV
   obtain ⟨v0,v1,v2,v3⟩:=VV
   go_wp2
   exact bodyPost_ret (v:=.tuple #[Wd res,.int .i64 0]) (by simp [results,Tryz.results106,go_sem,v0,v1]) rfl ⟨rfl,by repeat (first | exact G0.trans G2 | refine Gr.setCell ?_ (by simp) _)⟩
  ·have s2':(r.S == 2)=false:=by rw [beq_eq_false_iff_ne];exact s2
   rw [if_neg s2] at E
   by_cases s3:r.S=3
   ·obtain ⟨k1,k2,k3,k4⟩:=ball_ok h0 s3
    rw [if_pos s3] at E
    have c2:=fun W' (g:Gr ((w.alloc (rc r vl vh vi)).alloc (.cells #[.int .u64 0,.int .u64 0] 79)) W')=>ballBound_c (HV.out.gb (G0.trans g).gb) (hu.gb (G0.trans g).gb) k1 k2 k3 k4 hR
    rw [<- E.out] at c2
    obtain ⟨pa,ca,rfl,_⟩:=hu
    clear HV hL hH hI h0 k1 k2 k3 k4 hlen hR E s2 s2'
    obtain ⟨S,L,H,R,I⟩:=r
    dsimp only at *
    subst s3
    generalize a.length=na at *
    go_enter Tryz.func106,Tryz.ntmps106
    go_wp2_with fail
    refine c1.mono ?_
    rintro e w1 ⟨rfl,g1⟩
    obtain ⟨q0,q1,q2,q3,q4,q5⟩:=RA.out.gb (G01.trans g1).gb
    dsimp only at q0 q1 q2 q3 q4 q5
    go_wp2_with fail
    refine (c2 _ g1).mono ?_
    rintro e w2 ⟨rfl,g2⟩
    have G2:=g1.trans g2
    have VV:=G2.var2
    simp only [World.size_alloc] at VV
    obtain ⟨v0,v1,v2,v3⟩:=VV
    go_wp2
    exact bodyPost_ret (v:=.tuple #[Wd res,.int .i64 0]) (by simp [results,Tryz.results106,go_sem,v0,v1]) rfl ⟨rfl,by repeat (first | exact G0.trans G2 | refine Gr.setCell ?_ (by simp) _)⟩
   ·have s3':(r.S == 3)=false:=by rw [beq_eq_false_iff_ne];exact s3
    rw [if_neg s3] at E
    have e:=E.out
    subst e
    obtain ⟨pa,ca,rfl,_⟩:=hu
    clear HV hL hH hI h0 hlen hR E s2 s3
    obtain ⟨S,L,H,R,I⟩:=r
    dsimp only at *
    generalize a.length=na at *
    go_enter Tryz.func106,Tryz.ntmps106
    go_wp2_with fail
    refine c1.mono ?_
    rintro e w1 ⟨rfl,g1⟩
    obtain ⟨q0,q1,q2,q3,q4,q5⟩:=RA.out.gb (G01.trans g1).gb
    dsimp only at q0 q1 q2 q3 q4 q5
    have VV:=g1.var2
    simp only [World.size_alloc] at VV
    obtain ⟨v0,v1,v2,v3⟩:=VV
    go_wp2
    exact bodyPost_ret (v:=.tuple #[Wd 0,.int .i64 0]) (by simp [results,Tryz.results106,go_sem,v0,v1,hi,lo]) rfl ⟨rfl,by repeat (first | exact G0.trans g1 | refine Gr.setCell ?_ (by simp) _)⟩
 ·have c1:=C1 _ rfl
  have E:bndV r a=0:=by unfold bndV;rw [if_neg h0]
  have h1:(ckB r a == 0)=false:=by rw [beq_eq_false_iff_ne];exact h0
  rw [E]
  obtain ⟨pa,ca,rfl,_⟩:=hu
  clear C1 E HV hL hH hI hlen hR h0
  generalize ckB r a=res at *
  obtain ⟨S,L,H,R,I⟩:=r
  generalize a.length=na at *
  go_enter Tryz.func106,Tryz.ntmps106
  go_wp2_with fail
  refine c1.mono ?_
  rintro e w1 ⟨rfl,g1⟩
  have VV:=g1.var2
  simp only [World.size_alloc] at VV
  obtain ⟨v0,v1,v2,v3⟩:=VV
  go_wp2
  exact bodyPost_ret (v:=.tuple #[Wd 0,.int .i64 res]) (by simp [results,Tryz.results106,go_sem,v0,v1,hi,lo]) rfl ⟨rfl,by repeat (first | exact G0.trans g1 | refine Gr.setCell ?_ (by simp) _)⟩
end Go.Proofs.YtcipdampcmfmaaaGreat

namespace Go.Proofs.YtcipdampcmfmaaaGreat
theorem gap_abs (x y:Int):gap x x y=(x - y).natAbs:=by unfold gap;split <;> (try split) <;> omega
theorem gap_comm (x y:Int):gap x x y=gap y y x:=by rw [gap_abs,gap_abs];omega
theorem sumN_ext {f g:Nat->Nat} {n:Nat} (h:∀ i,i < n->f i=g i):sumN f n=sumN g n:=by
 induction n with
 | zero=>rfl
 | succ n ih=>simp only [sumN];rw [ih (fun i hi=>h i (by omega)),h n (by omega)]
theorem sumN_mono {f g:Nat->Nat} {n:Nat} (h:∀ i,i < n->f i<=g i):sumN f n<=sumN g n:=by
 induction n with
 | zero=>exact Nat.le_refl _
 | succ n ih =>
  have:=ih (fun i hi=>h i (by omega))
  have:=h n (by omega)
  simp only [sumN];omega
theorem sumN_zero {f:Nat->Nat} {n:Nat} (h:sumN f n=0) {i:Nat} (hi:i < n):f i=0:=by
 induction n with
 | zero=>omega
 | succ n ih =>
  simp only [sumN] at h
  by_cases e:i=n
  ·subst e;omega
  ·exact ih (by omega) (by omega)
theorem sumN_mul (f:Nat->Nat) (c n:Nat):sumN (fun i=>c * f i) n=c * sumN f n:=by
 induction n with
 | zero=>rfl
 | succ n ih=>simp only [sumN];rw [ih,Nat.mul_add]
theorem sumN_add (f g:Nat->Nat) (n:Nat):sumN (fun i=>f i + g i) n=sumN f n + sumN g n:=by
 induction n with
 | zero=>rfl
 | succ n ih=>simp only [sumN];rw [ih];omega
theorem dst_comm {a b:List Int} (h:a.length=b.length):dst a b=dst b a:=by
 unfold dst;rw [h]
 exact sumN_ext (fun i _=>by rw [gap_comm])
theorem tri_one (x y z:Int) (t u:Nat):t * u * (gap x x z * gap x x z)<=u * (t + u) * (gap x x y * gap x x y) + t * (t + u) * (gap y y z * gap y y z):=by
 rw [gap_abs,gap_abs,gap_abs]
 have e1:((x - z).natAbs:Int) * ((x - z).natAbs:Int)=(x - z) * (x - z):=by rw [Int.natAbs_mul_self' (x - z)]
 have e2:((x - y).natAbs:Int) * ((x - y).natAbs:Int)=(x - y) * (x - y):=by rw [Int.natAbs_mul_self' (x - y)]
 have e3:((y - z).natAbs:Int) * ((y - z).natAbs:Int)=(y - z) * (y - z):=by rw [Int.natAbs_mul_self' (y - z)]
 apply Int.ofNat_le.1
 simp only [Int.natCast_mul,Int.natCast_add]
 rw [e1,e2,e3]
 have h:0<=((u:Int) * (x - y) - (t:Int) * (y - z)) * ((u:Int) * (x - y) - (t:Int) * (y - z)):=by
  rcases Int.le_total 0 ((u:Int) * (x - y) - (t:Int) * (y - z)) with h | h
  ·exact Int.mul_nonneg h h
  ·exact Int.mul_nonneg_of_nonpos_of_nonpos h h
 have h2:(t:Int) * u * ((x - z) * (x - z)) + ((u:Int) * (x - y) - (t:Int) * (y - z)) * ((u:Int) * (x - y) - (t:Int) * (y - z))=(u:Int) * (t + u) * ((x - y) * (x - y)) + (t:Int) * (t + u) * ((y - z) * (y - z)):=by
  grind
 omega
theorem tri_sum (a b c:List Int) (hab:a.length=b.length) (t u:Nat):t * u * dst a c<=u * (t + u) * dst a b + t * (t + u) * dst b c:=by
 unfold dst
 rw [<- hab,<- sumN_mul,<- sumN_mul,<- sumN_mul,<- sumN_add]
 exact sumN_mono (fun i _=>tri_one _ _ _ t u)
theorem tri_lt {a b c:List Int} (hab:a.length=b.length) {t u:Nat} (h1:dst a b<=t * t) (h2:dst b c < u * u):dst a c < (t + u) * (t + u):=by
 by_cases ht:t=0
 ·subst ht
  have hA:dst a b=0:=by omega
  have h:=tri_sum a b c hab 1 (dst b c + 1)
  rw [hA] at h
  apply Nat.lt_of_le_of_lt _ (show dst b c < (0 + u) * (0 + u) by simpa using h2)
  apply Nat.le_of_not_lt
  intro hc
  have h3:(dst b c + 1) * (dst b c + 1)<=(dst b c + 1) * dst a c:=Nat.mul_le_mul_left _ hc
  simp only [Nat.one_mul,Nat.mul_zero,Nat.zero_add] at h
  have h4:(dst b c + 1) * (dst b c + 1)<=(1 + (dst b c + 1)) * dst b c:=Nat.le_trans h3 h
  rw [Nat.add_mul 1,Nat.mul_add] at h4
  omega
 ·have hu:u ≠ 0:=by rintro rfl;simp at h2
  have h:=tri_sum a b c hab t u
  have k1:u * (t + u) * dst a b<=u * (t + u) * (t * t):=Nat.mul_le_mul_left _ h1
  have k2:t * (t + u) * dst b c < t * (t + u) * (u * u):=Nat.mul_lt_mul_of_pos_left h2 (Nat.mul_pos (by omega) (by omega))
  have k3:u * (t + u) * (t * t) + t * (t + u) * (u * u)=t * u * ((t + u) * (t + u)):=by grind
  exact Nat.lt_of_mul_lt_mul_left (a:=t * u) (by omega)
theorem ball_bound {l v q:List Int} (hlv:l.length=v.length) {R:Nat} (h:dst l v<=R):ballV (dst l q) R<=dst v q:=by
 unfold ballV
 split
 ·exact Nat.zero_le _
 ·rename_i h0
  apply Nat.le_of_not_lt
  intro hc
  have hR:R<=rup R * rup R:=by
   unfold rup;split
   ·rename_i e;omega
   ·have:=(rt_is R).2;omega
  have hu:rup R < rt (dst l q):=by
   apply Nat.lt_of_not_le;intro hle
   rw [Nat.sub_eq_zero_of_le hle] at hc;simp at hc
  have:=tri_lt (c:=q) hlv (t:=rup R) (u:=rt (dst l q) - rup R) (by omega) hc
  rw [Nat.add_sub_cancel' (by omega)] at this
  have:=(rt_is (dst l q)).1
  omega
theorem gap_out {l h x y:Int} (h1:gap l h x=0):gap l h y<=gap x x y:=by
 unfold gap at *;split at h1 <;> (try split at h1) <;> split <;> (try split) <;> (try split) <;> (try split) <;> omega
theorem bound_le {r:Reg} {v q:List Int} (h1:ckB r v=0) (h2:ckB r q=0) (hin:inV r v=true):bdV r q<=dst v q:=by
 unfold bdV
 unfold inV at hin
 split
 ·rename_i s
  rw [if_pos s] at hin
  obtain ⟨a1,a2,a3,a4,a5,a6,a7⟩:=box_ok h1 s
  obtain ⟨b1,b2,b3,b4,b5,b6,b7⟩:=box_ok h2 s
  have h0:bx r.L r.H v=0:=by simpa using hin
  have e:v.length=q.length:=by omega
  unfold bx bxN at h0 ⊢
  unfold dst
  rw [e] at h0 ⊢
  refine sumN_mono (fun i hi=>?_)
  have h3:=sumN_zero h0 hi
  have h4:gap r.L[i]! r.H[i]! v[i]! = 0:=by
   rcases Nat.mul_eq_zero.1 h3 with h | h <;> exact h
  exact Nat.mul_le_mul (gap_out h4) (gap_out h4)
 ·rename_i s
  rw [if_neg s] at hin
  split
  ·rename_i s3
   rw [if_pos s3] at hin
   obtain ⟨a1,_⟩:=ball_ok h1 s3
   exact ball_bound a1 (by simpa using hin)
  ·exact Nat.zero_le _
end Go.Proofs.YtcipdampcmfmaaaGreat

namespace Go.Proofs.YtcipdampcmfmaaaGreat.Tk
open Go.RowKit Go.Sort
def Has (w:World) (hb k:Nat) (v:Value) (m:List Ht):Prop :=
 ∃ d,Hp w hb (k:Int) v d/\MaxH d/\d.toList.Perm m/\Srtd m/\m.length<=k/\1<=k/\k<=64
theorem Has.gr {w w':World} {hb k:Nat} {v:Value} {m:List Ht} (h:Has w hb k v m) (g:Gr w w'):Has w' hb k v m:=by
 obtain ⟨d,h1,r⟩:=h;exact ⟨d,h1.gr g,r⟩
theorem Has.kp {S:Nat->Prop} {w w':World} {hb k:Nat} {v:Value} {m:List Ht} (h:Has w hb k v m) (K:Kp S w w') (h1:¬ S hb) (h2:∀ g,v.ownBlock=some g->¬ S g):Has w' hb k v m:=by
 obtain ⟨d,hd,r⟩:=h;exact ⟨d,hd.kp K h1 h2,r⟩
theorem Has.lt {w:World} {hb k:Nat} {v:Value} {m:List Ht} (h:Has w hb k v m):hb < w.heap.size:=by obtain ⟨d,h1,_⟩:=h;exact h1.lt
theorem Has.own_lt {w:World} {hb k:Nat} {v:Value} {m:List Ht} (h:Has w hb k v m) {g:Nat} (hg:v.ownBlock=some g):g < w.heap.size:=by
 obtain ⟨d,h1,_⟩:=h;exact YtcipdampcmfmaaaGreat.Tk.own_lt h1.own hg
theorem new_has (k:Nat) (h1:1<=k) (h2:k<=64) (w:World):Has (w.alloc (.cells #[.int .i64 (k:Int),.slice none 0 0] 122)) w.heap.size k (.slice none 0 0) [] :=
 ⟨#[],new_hp _ w,fun _ _ h=>absurd h (Nat.not_lt_zero _),List.Perm.refl _,List.Pairwise.nil,Nat.zero_le _,h1,h2⟩
theorem root_last {d:Array Ht} {m:List Ht} (hm:MaxH d) (p:d.toList.Perm m) (hs:Srtd m) {k:Nat} (hk:m.length=k) (h0:0 < k):d[0]! = m[k - 1]! := by
 have hd:d.size=k:=by have:=p.length_eq;simp at this;omega
 have a1:d[0]! ∈ m:=p.subset (by rw [getElem!_pos d 0 (by omega)];exact Array.mem_toList_iff.2 (Array.getElem_mem _))
 have a2:m[k - 1]! ∈ d.toList:=p.symm.subset (by rw [getElem!_pos m (k - 1) (by omega)];exact List.getElem_mem _)
 have b1:=last_worst hs k hk _ a1
 obtain ⟨i,hi,e⟩:=List.mem_iff_getElem.1 a2
 have b2:=maxh_root hm i (by simpa using hi)
 rw [getElem!_pos d i (by simpa using hi)] at b2
 simp only [Array.getElem_toList] at e
 rw [e] at b2
 exact hlt_tot b2 b1
def Offered (w w':World) (hb k:Nat) (v:Value) (m:List Ht) (x:Ht):Prop :=
 ∃ v',Has w' hb k v' (keep k m x)/\Kp (fun b=>b=hb ∨ some b=v.ownBlock) w w'/\(v'.ownBlock=v.ownBlock ∨ ∀ g,v'.ownBlock=some g->w.heap.size<=g)
theorem offer_has {w:World} {hb k:Nat} {v:Value} {m:List Ht} (h:Has w hb k v m) (x:Ht) :
  Calls Tryz.prog 83 #[.pointer (some ⟨hb,0,none⟩),hv x] w fun e w'=>e=.returned (.bool (kept k m x))/\Offered w w' hb k v m x:=by
 have h':=h
 obtain ⟨d,hp,hm,pm,hs,hl,k1,k2⟩:=h
 have hd:d.size=m.length:=by have:=pm.length_eq;simpa using this
 by_cases c:m.length < k
 ·have e:kept k m x=true:=by unfold kept;rw [decide_eq_true c];rfl
  rw [e]
  refine (offer_more hp hm (by omega) (by omega) x).mono ?_
  rintro e w' ⟨rfl,g,cap,d',p1,p2,p3,p4,p5⟩
  refine ⟨rfl,_,⟨d',p3,p2,?_,keep_srtd k x hs,by unfold keep;rw [List.length_take];omega,k1,k2⟩,p4,?_⟩
  ·rw [keep_more x c]
   refine p1.trans ((List.perm_append_singleton x d.toList).trans ((pm.cons x).trans (ins_perm x m).symm))
  ·rcases p5 with p5 | p5
   ·exact .inl p5.symm
   ·right;intro g' hg';simp [Value.ownBlock] at hg';omega
 have hk:m.length=k:=by omega
 have er:=root_last hm pm hs hk (by omega)
 by_cases cx:hlt x m[k - 1]! = true
 ·have e:kept k m x=true:=by unfold kept;rw [cx];simp
  rw [e]
  refine (offer_repl hp hm (by omega) (by omega) (by omega) x (by rw [er];exact cx)).mono ?_
  rintro e w' ⟨rfl,d',p1,p2,p3,p4⟩
  refine ⟨rfl,v,⟨d',p3,p2,?_,keep_srtd k x hs,by unfold keep;rw [List.length_take];omega,k1,k2⟩,p4,.inl rfl⟩
  refine (p1.trans ?_).trans (keep_repl (by omega) hk cx).symm
  have hne:m ≠ []:=by intro e0;subst e0;simp at hk;omega
  obtain ⟨a,z,rfl⟩:∃ a z,m=a ++ [z]:=⟨m.dropLast,m.getLast hne,(List.dropLast_concat_getLast hne).symm⟩
  have ez:(a ++ [z])[k - 1]! = z:=by
   simp only [List.length_append,List.length_cons,List.length_nil] at hk
   rw [getElem!_pos (a ++ [z]) (k - 1) (by simp;omega),List.getElem_append_right (by omega)]
   simp
  rw [ez] at er
  rw [List.dropLast_concat]
  cases hdl:d.toList with
  | nil =>
   have q0:d.toList.length=0:=by rw [hdl];rfl
   rw [Array.length_toList] at q0;omega
  | cons y r =>
   have hy:d[0]! = y:=by
    have hz:0 < d.size:=by omega
    rw [getElem!_pos d 0 hz,<- Array.getElem_toList hz]
    simp [hdl]
   rw [Array.toList_setIfInBounds,hdl,List.set_cons_zero]
   refine List.Perm.cons x ?_
   have q:(y :: r).Perm (z :: a):=by rw [<- hdl];exact pm.trans (List.perm_append_singleton z a)
   rw [<- hy,er] at q
   exact List.Perm.cons_inv q
 ·have cx':hlt x m[k - 1]! = false:=by simpa using cx
  have e:kept k m x=false:=by unfold kept;rw [cx',decide_eq_false c];rfl
  rw [e]
  refine (offer_no hp (by omega) (by omega) (by omega) x (by rw [er];exact cx')).mono ?_
  rintro e w' ⟨rfl,g⟩
  refine ⟨rfl,v,?_,Kp.of_gr g,.inl rfl⟩
  rw [keep_no hs hk cx']
  exact h'.gr g
theorem len_has {w:World} {hb k:Nat} {v:Value} {m:List Ht} (h:Has w hb k v m):Calls Tryz.prog 155 #[.pointer (some ⟨hb,0,none⟩)] w fun e w'=>e=.returned (.int .i64 (m.length:Nat))/\w'=w:=by
 obtain ⟨d,hp,hm,pm,hs,hl,k1,k2⟩:=h
 have:=len17 hp
 rwa [show d.size=m.length by have:=pm.length_eq;simpa using this] at this
theorem worst_has {w:World} {hb k:Nat} {v:Value} {m:List Ht} (h:Has w hb k v m) (h0:0 < m.length):Calls Tryz.prog 105 #[.pointer (some ⟨hb,0,none⟩)] w fun e w'=>e=.returned (.tuple #[hv m[m.length - 1]!,.bool true])/\Gr w w':=by
 obtain ⟨d,hp,hm,pm,hs,hl,k1,k2⟩:=h
 have hd:d.size=m.length:=by have:=pm.length_eq;simpa using this
 have:=worst15 hp (by omega) (by omega)
 rwa [root_last hm pm hs rfl h0] at this
theorem worst_has_none {w:World} {hb k:Nat} {v:Value} {m:List Ht} (h:Has w hb k v m) (h0:m.length=0):Calls Tryz.prog 105 #[.pointer (some ⟨hb,0,none⟩)] w fun e w'=>e=.returned (.tuple #[hv ⟨0,0,0⟩,.bool false])/\Gr w w':=by
 refine worst15_none _ w fun W g=>?_
 have:=len_has (h.gr g)
 rwa [h0] at this
theorem list_has {w:World} {hb k:Nat} {v:Value} {m:List Ht} (h:Has w hb k v m):Calls Tryz.prog 80 #[.pointer (some ⟨hb,0,none⟩)] w fun e w'=>∃ v',e=.returned v'/\Out w w' v' m:=by
 obtain ⟨d,hp,hm,pm,hs,hl,k1,k2⟩:=h
 have hd:d.size=m.length:=by have:=pm.length_eq;simpa using this
 have:=list16 hp (by omega)
 rwa [srt_of_perm hs pm] at this
end Go.Proofs.YtcipdampcmfmaaaGreat.Tk
