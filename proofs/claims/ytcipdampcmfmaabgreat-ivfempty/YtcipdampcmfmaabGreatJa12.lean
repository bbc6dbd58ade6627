import Derived.Test.YtcipdampcmfmaabGreatJa1
import Derived.Test.YtcipdampcmfmaabGreatJa4
namespace Go.Proofs.YtcipdampcmfmaabGreat
open Go.RowKit
set_option maxRecDepth 100000
set_option maxHeartbeats 8000000
def bxN (l h q:List Int) (n:Nat):Nat:=sumN (fun i=>gap l[i]! h[i]! q[i]! * gap l[i]! h[i]! q[i]!) n
def bx (l h q:List Int):Nat:=bxN l h q q.length
theorem bxN_le {l h q:List Int} (hl:allR l=true) (hh:allR h=true) (hq:allR q=true) (h1:l.length=q.length) (h2:h.length=q.length) (n:Nat) (hn:n<=q.length):bxN l h q n<=n * 18446744056529682436 :=
 sumN_le _ _ _ (fun i hi=>sq_small _ (gap_le _ _ _ (allR_get hl (by omega)) (allR_get hh (by omega)) (allR_get hq (by omega))))
theorem bx_lt {l h q:List Int} (hl:allR l=true) (hh:allR h=true) (hq:allR q=true) (h1:l.length=q.length) (h2:h.length=q.length) (hn:q.length<=64):bx l h q < 340282366920938463463374607431768211456:=by
 have:=bxN_le hl hh hq h1 h2 q.length (Nat.le_refl _)
 unfold bx;omega
theorem four_call {W w':World} {p0 p1 p2 p3:Addr} {v0 v1 v2 v3:Value} (g:Gr W w') (h:W.cell? p0=some v0/\W.cell? p1=some v1/\W.cell? p2=some v2/\W.cell? p3=some v3) :
  w'.cell? p0=some v0/\w'.cell? p1=some v1/\w'.cell? p2=some v2/\w'.cell? p3=some v3:=⟨g.keeps h.1,g.keeps h.2.1,g.keeps h.2.2.1,g.keeps h.2.2.2⟩
theorem set2_far {W:World} {b:Nat} {p:Addr} {v:Value} (hb:b ≠ p.block) (h:W.cell? p=some v) (x y:Value):((W.setCell ⟨b,0,none⟩ x).setCell ⟨b,1,none⟩ y).cell? p=some v:=by
 rw [World.cell?_setCell_far _ _ _ _ hb,World.cell?_setCell_far _ _ _ _ hb];exact h
theorem four_set {W:World} {b b1 b2 b0 o1 o2 o3 o4:Nat} {v0 v1 v2 v3:Value} (h1:b ≠ b1) (h2:b ≠ b2) (h0:b ≠ b0) (h:W.cell? ⟨b1,o1,none⟩=some v0/\W.cell? ⟨b2,o2,none⟩=some v1/\W.cell? ⟨b0,o3,none⟩=some v2/\W.cell? ⟨b0,o4,none⟩=some v3) (x y:Value) :
  ((W.setCell ⟨b,0,none⟩ x).setCell ⟨b,1,none⟩ y).cell? ⟨b1,o1,none⟩=some v0/\((W.setCell ⟨b,0,none⟩ x).setCell ⟨b,1,none⟩ y).cell? ⟨b2,o2,none⟩=some v1/\((W.setCell ⟨b,0,none⟩ x).setCell ⟨b,1,none⟩ y).cell? ⟨b0,o3,none⟩=some v2/\((W.setCell ⟨b,0,none⟩ x).setCell ⟨b,1,none⟩ y).cell? ⟨b0,o4,none⟩=some v3 :=
 ⟨set2_far h1 h.1 x y,set2_far h2 h.2.1 x y,set2_far h0 h.2.2.1 x y,set2_far h0 h.2.2.2 x y⟩
theorem boxBound_c {w:World} {v u:Value} {r:Reg} {a:List Int} (hv:RdR w v r) (hu:RdI w u a) (hl:r.L.length=a.length) (hh:r.H.length=a.length) (hn:a.length<=64) (rl:allR r.L=true) (rh:allR r.H=true) (ra:allR a=true) :
  Calls Tryz.prog 129 #[v,u] w fun e w'=>e=.returned (Wd (bx r.L r.H a))/\Gr w w':=by
 obtain ⟨vl,vh,vi,rfl,⟨pl,cl,rfl,el⟩,⟨ph,ch,rfl,eh⟩,h3⟩:=hv
 obtain ⟨pa,ca,rfl,ea⟩:=hu
 clear h3
 have RA0:=RegAt.new w r (.slice pl r.L.length cl) (.slice ph r.H.length ch) vi
 obtain ⟨S,L,H,R,I⟩:=r
 dsimp only at *
 have AL:Hid (∀ i,i < L.length->∃ b o,pl=some ⟨b,o,none⟩/\w.cell? ⟨b,o + i,none⟩=some (.int .i64 L[i]!)):=el
 have AH:Hid (∀ i,i < H.length->∃ b o,ph=some ⟨b,o,none⟩/\w.cell? ⟨b,o + i,none⟩=some (.int .i64 H[i]!)):=eh
 have AA:Hid (∀ i,i < a.length->∃ b o,pa=some ⟨b,o,none⟩/\w.cell? ⟨b,o + i,none⟩=some (.int .i64 a[i]!)):=ea
 have HH:Hid (L.length=a.length/\H.length=a.length/\allR L=true/\allR H=true/\allR a=true):=⟨hl,hh,rl,rh,ra⟩
 rw [hl,hh] at RA0 ⊢
 obtain ⟨n,hN⟩:∃ n,n=a.length:=⟨_,rfl⟩
 have N:Hid (n=a.length):=hN
 rw [<- hN] at hn RA0 ⊢
 clear el eh ea hl hh rl rh ra hN
 have RA:Hid (RegAt (w.alloc (.cells #[.int .i64 S,.slice pl n cl,.slice ph n ch,.int .u64 (hi R),.int .u64 (lo R),vi] 98)) w.heap.size ⟨S,L,H,R,I⟩ (.slice pl n cl) (.slice ph n ch) vi):=RA0
 clear RA0
 have S0:At2 (((w.alloc (.cells #[.int .i64 S,.slice pl n cl,.slice ph n ch,.int .u64 (hi R),.int .u64 (lo R),vi] 98)).alloc (.cells #[.int .u64 0,.int .u64 0] 40)).alloc (.cells #[.int .u64 0,.int .u64 0] 40)) (w.heap.size + 1 + 1) 0:=by
  have:=At2.new ((w.alloc (.cells #[.int .i64 S,.slice pl n cl,.slice ph n ch,.int .u64 (hi R),.int .u64 (lo R),vi] 98)).alloc (.cells #[.int .u64 0,.int .u64 0] 40)) 0 40
  rw [World.size_alloc,World.size_alloc] at this
  exact this
 obtain ⟨W0,hW0⟩:∃ W0,W0=w.alloc (.cells #[.int .i64 S,.slice pl n cl,.slice ph n ch,.int .u64 (hi R),.int .u64 (lo R),vi] 98):=⟨_,rfl⟩
 have Z0:Hid (Gr w W0/\W0.heap.size=w.heap.size + 1):=by rw [hW0];exact ⟨(Gr.refl _).alloc _ _,by simp⟩
 have W00:Hid (W0=w.alloc (.cells #[.int .i64 S,.slice pl n cl,.slice ph n ch,.int .u64 (hi R),.int .u64 (lo R),vi] 98)):=hW0
 rw [<- hW0] at S0 RA
 have G0:Gr (W0.alloc (.cells #[.int .u64 0,.int .u64 0] 40)) ((W0.alloc (.cells #[.int .u64 0,.int .u64 0] 40)).alloc (.cells #[.int .u64 0,.int .u64 0] 40)):=(Gr.refl _).alloc _ _
 rw [hW0] at S0 G0
 clear hW0
 go_enter Tryz.func129,Tryz.ntmps129
 go_wp2
 go_loopw [10] (fun iv w'=>∃ q s:Nat,iv=.int .i64 (q:Int)/\q<=n/\Hid (s=bxN L H a q)/\Gr (W0.alloc (.cells #[.int .u64 0,.int .u64 0] 40)) w'/\At2 w' (w.heap.size + 1 + 1) s) (fun iv _=>n - (intOf iv).toNat)
 case atStart=>exact ⟨0,0,rfl,Nat.zero_le _,rfl,by rw [W00.out];exact G0,S0⟩
 case round =>
  clear S0 G0
  obtain ⟨q,s,rfl,hq,X,hG,hS⟩:=hrel
  by_cases hqn:q < n
  ·have hqi:(q:Int) < (n:Int):=by omega
   obtain ⟨e1,e2,e3,e4,e5⟩:=HH.out
   have hqa:q < a.length:=by have:=N.out;omega
   obtain ⟨b1,o1,ea,h1⟩:=AL.out q (by omega)
   obtain ⟨b2,o2,eb,h2⟩:=AH.out q (by omega)
   obtain ⟨b3,o3,ec,h3⟩:=AA.out q hqa
   subst ea;subst eb;subst ec
   have G1:Gr W0 wr:=((Gr.refl _).alloc _ _).trans hG
   have x0:=(Z0.out.1.trans G1).keeps h1
   have y0:=(Z0.out.1.trans G1).keeps h2
   have z0:=(Z0.out.1.trans G1).keeps h3
   have r1:=G1.keeps RA.out.c1
   have r2:=G1.keeps RA.out.c2
   have hb1:w.heap.size + 1 + 1 ≠ b1:=by have:=cell_lt h1;dsimp only at this;omega
   have hb2:w.heap.size + 1 + 1 ≠ b2:=by have:=cell_lt h2;dsimp only at this;omega
   have hb0:w.heap.size + 1 + 1 ≠ w.heap.size:=by omega
   have hx:=allR_get e3 (show q < L.length by omega)
   have hy:=allR_get e4 (show q < H.length by omega)
   have hz:=allR_get e5 hqa
   have hs0:s<=q * 18446744056529682436:=by rw [X.out];exact bxN_le e3 e4 e5 e1 e2 q (by omega)
   have Y:Hid (bxN L H a (q + 1)=bxN L H a q + gap L[q]! H[q]! a[q]! * gap L[q]! H[q]! a[q]!):=rfl
   generalize L[q]! = x at *
   generalize H[q]! = y at *
   generalize a[q]! = z at *
   have hg:gap x y z < 18446744073709551616:=by have:=gap_le x y z hx hy hz;omega
   have hgs:s + gap x y z * gap x y z < 340282366920938463463374607431768211456:=by have:=sq_small _ (gap_le x y z hx hy hz);omega
   have Z:Hid (s + gap x y z * gap x y z=bxN L H a (q + 1)):=by unfold Hid;rw [Y.out,X.out]
   have c57:=fun W=>withSquare_c s (gap x y z) hg hgs W
   have c70:=fun b c W c0 c1=>side1_c x y z hx hy hz b c W c0 c1
   obtain ⟨s0,s1,s2,s3⟩:=hS
   clear h1 h2 h3 hx hy hz hs0 Y X hg hgs hqa G1 e1 e2 e3 e4 e5
   generalize s + gap x y z * gap x y z=t at *
   generalize gap x y z=g at *
   go_wp2
   have hS0:wr.cell? ⟨b1,o1 + q,none⟩=some (.int .i64 x)/\wr.cell? ⟨b2,o2 + q,none⟩=some (.int .i64 y)/\wr.cell? ⟨w.heap.size,1,none⟩=some (.slice (some ⟨b1,o1,none⟩) n cl)/\wr.cell? ⟨w.heap.size,2,none⟩=some (.slice (some ⟨b2,o2,none⟩) n ch):=⟨x0,y0,r1,r2⟩
   refine wp_region_held_drew (S:=fun w'=>w'.cell? ⟨b1,o1 + q,none⟩=some (.int .i64 x)/\w'.cell? ⟨b2,o2 + q,none⟩=some (.int .i64 y)/\w'.cell? ⟨w.heap.size,1,none⟩=some (.slice (some ⟨b1,o1,none⟩) n cl)/\w'.cell? ⟨w.heap.size,2,none⟩=some (.slice (some ⟨b2,o2,none⟩) n ch)) (by kernel_rfl) hS0 (fun hHeld=>?_)
   refine tkn 1 ?_ rfl ?_ ?_;rotate_left;·(intro w hSw;(try dsimp only at hSw);go_simp;try rfl)
   try simp only [pt]
   refine tkn 2 ?_ rfl ?_ ?_;rotate_left;·(intro w hSw;(try dsimp only at hSw);go_simp;try rfl)
   try simp only [Act.put]
   refine tkn 3 ?_ rfl ?_ ?_;rotate_left;·(intro w hSw;(try dsimp only at hSw);go_simp;try rfl)
   try simp only [Act.put]
   refine tkn 4 ?_ rfl ?_ ?_;rotate_left;·(intro w hSw;(try dsimp only at hSw);go_simp;try rfl)
   try simp only [Act.put]
   refine tkn 5 ?_ rfl ?_ ?_;rotate_left;·(intro w hSw;(try dsimp only at hSw);go_simp;try rfl)
   try simp only [Act.put]
   refine tkn 6 ?_ rfl ?_ ?_;rotate_left;·(intro w hSw;(try dsimp only at hSw);go_simp;try rfl)
   try simp only [Act.put]
   refine tkn 7 ?_ rfl ?_ ?_;rotate_left;·(intro w hSw;(try dsimp only at hSw);go_simp;try rfl)
   try simp only [Act.put]
   refine tkn 8 ?_ rfl ?_ ?_;rotate_left;·(intro w hSw;(try dsimp only at hSw);go_simp;try rfl)
   try simp only [Act.put]
   refine tkn 9 ?_ rfl ?_ ?_;rotate_left;·(intro w hSw;(try dsimp only at hSw);go_simp;try rfl)
   try simp only [Act.put]
   refine tkn 10 ?_ rfl ?_ ?_;rotate_left;·(intro w hSw;(try dsimp only at hSw);go_simp;try rfl)
   try simp only [Act.put]
   refine tkn 12 ?_ rfl ?_ ?_;rotate_left;·(intro w hSw;(try dsimp only at hSw);go_simp;try rfl)
   try simp only [Act.put]
   refine wpAnyH_ready (rs:=[0,11]) (by kernel_rfl) (by simp) ?_
   refine AllReadyH.cons rfl (fun K hK=>?_) (AllReadyH.cons rfl (fun K hK=>?_) (AllReadyH.nil))
   ·go_simp
    refine hK.out _ _ hHeld (fun hHeld=>?_)
    clear hK K
    try simp only [pt]
    refine rdn 11 rfl (fun K hK=>?_)
    go_simp
    go_at_call 123
    refine (side_at _ _ _).mono ?_
    rintro e w1 ⟨bb,cc,rfl,k0,k1,g1⟩
    have s0:=g1.keeps s0
    have s1:=g1.keeps s1
    have s2:=(g1.froz _).trans s2
    have s3:=(g1.froz _).trans s3
    refine hK.out _ _ (four_call g1 hHeld) (fun hHeld=>?_)
    clear hK K
    try simp only [pt]
    refine rdn 13 rfl (fun K hK=>?_)
    go_simp
    go_at_call 163
    refine (c70 _ _ _ k0 k1).mono ?_
    rintro e w2 ⟨rfl,e2⟩
    subst e2
    refine hK.out _ _ hHeld (fun hHeld=>?_)
    clear hK K
    try simp only [pt]
    refine rdn 14 rfl (fun K hK=>?_)
    go_simp
    go_at_call 122
    refine (c57 _).mono ?_
    rintro e w3 ⟨rfl,g3⟩
    have s0:=g3.keeps s0
    have s1:=g3.keeps s1
    have s2:=(g3.froz _).trans s2
    have s3:=(g3.froz _).trans s3
    refine hK.out _ _ (four_call g3 hHeld) (fun hHeld=>?_)
    clear hK K
    try simp only [pt]
    refine rdn 15 rfl (fun K hK=>?_)
    go_simp
    refine hK.out _ _ (four_set hb1 hb2 hb0 hHeld _ _) (fun hHeld=>?_)
    clear hK K
    try simp only [pt]
    refine wpAnyH_done (by kernel_rfl) ?_ _
    have hG3:=(hG.drew.trans g1).trans g3
    have hS3:At2 w3 (w.heap.size + 1 + 1) s:=⟨s0,s1,s2,s3⟩
    clear c57 c70 x0 y0 z0 r1 r2 s0 s1 s2 s3 k0 k1 g1 g3 hG hHeld hS0
    go_wp2
    exact ⟨⟨q + 1,t,by go_num,hqn,Z,(hG3.setCell (by simp [Z0.out.2]) _).setCell (by simp [Z0.out.2]) _,hS3.set t⟩,by simp [intOf];omega⟩
   ·go_simp
    go_at_call 123
    refine (side_at _ _ _).mono ?_
    rintro e w1 ⟨bb,cc,rfl,k0,k1,g1⟩
    have s0:=g1.keeps s0
    have s1:=g1.keeps s1
    have s2:=(g1.froz _).trans s2
    have s3:=(g1.froz _).trans s3
    refine hK.out _ _ (four_call g1 hHeld) (fun hHeld=>?_)
    clear hK K
    try simp only [pt]
    refine wpAnyH_ready (rs:=[0,13]) (by kernel_rfl) (by simp) ?_
    refine AllReadyH.cons rfl (fun K hK=>?_) (AllReadyH.cons rfl (fun K hK=>?_) (AllReadyH.nil))
    ·go_simp
     refine hK.out _ _ hHeld (fun hHeld=>?_)
     clear hK K
     try simp only [pt]
     refine rdn 13 rfl (fun K hK=>?_)
     go_simp
     go_at_call 163
     refine (c70 _ _ _ k0 k1).mono ?_
     rintro e w2 ⟨rfl,e2⟩
     subst e2
     refine hK.out _ _ hHeld (fun hHeld=>?_)
     clear hK K
     try simp only [pt]
     refine rdn 14 rfl (fun K hK=>?_)
     go_simp
     go_at_call 122
     refine (c57 _).mono ?_
     rintro e w3 ⟨rfl,g3⟩
     have s0:=g3.keeps s0
     have s1:=g3.keeps s1
     have s2:=(g3.froz _).trans s2
     have s3:=(g3.froz _).trans s3
     refine hK.out _ _ (four_call g3 hHeld) (fun hHeld=>?_)
     clear hK K
     try simp only [pt]
     refine rdn 15 rfl (fun K hK=>?_)
     go_simp
     refine hK.out _ _ (four_set hb1 hb2 hb0 hHeld _ _) (fun hHeld=>?_)
     clear hK K
     try simp only [pt]
     refine wpAnyH_done (by kernel_rfl) ?_ _
     have hG3:=(hG.drew.trans g1).trans g3
     have hS3:At2 w3 (w.heap.size + 1 + 1) s:=⟨s0,s1,s2,s3⟩
     clear c57 c70 x0 y0 z0 r1 r2 s0 s1 s2 s3 k0 k1 g1 g3 hG hHeld hS0
     go_wp2
     exact ⟨⟨q + 1,t,by go_num,hqn,Z,(hG3.setCell (by simp [Z0.out.2]) _).setCell (by simp [Z0.out.2]) _,hS3.set t⟩,by simp [intOf];omega⟩
    ·go_simp
     go_at_call 163
     refine (c70 _ _ _ k0 k1).mono ?_
     rintro e w2 ⟨rfl,e2⟩
     subst e2
     refine hK.out _ _ hHeld (fun hHeld=>?_)
     clear hK K
     try simp only [pt]
     refine rdn 0 rfl (fun K hK=>?_)
     go_simp
     refine hK.out _ _ hHeld (fun hHeld=>?_)
     clear hK K
     try simp only [pt]
     refine rdn 14 rfl (fun K hK=>?_)
     go_simp
     go_at_call 122
     refine (c57 _).mono ?_
     rintro e w3 ⟨rfl,g3⟩
     have s0:=g3.keeps s0
     have s1:=g3.keeps s1
     have s2:=(g3.froz _).trans s2
     have s3:=(g3.froz _).trans s3
     refine hK.out _ _ (four_call g3 hHeld) (fun hHeld=>?_)
     clear hK K
     try simp only [pt]
     refine rdn 15 rfl (fun K hK=>?_)
     go_simp
     refine hK.out _ _ (four_set hb1 hb2 hb0 hHeld _ _) (fun hHeld=>?_)
     clear hK K
     try simp only [pt]
     refine wpAnyH_done (by kernel_rfl) ?_ _
     have hG3:=(hG.drew.trans g1).trans g3
     have hS3:At2 w3 (w.heap.size + 1 + 1) s:=⟨s0,s1,s2,s3⟩
     clear c57 c70 x0 y0 z0 r1 r2 s0 s1 s2 s3 k0 k1 g1 g3 hG hHeld hS0
     go_wp2
     exact ⟨⟨q + 1,t,by go_num,hqn,Z,(hG3.setCell (by simp [Z0.out.2]) _).setCell (by simp [Z0.out.2]) _,hS3.set t⟩,by simp [intOf];omega⟩
  ·have hqi:¬ (q:Int) < (n:Int):=by omega
   have E:Hid (s=bx L H a):=by
    have h1:=X.out
    rw [show q=a.length by have:=N.out;omega] at h1;exact h1
   obtain ⟨s0,s1,s2,s3⟩:=hS
   obtain ⟨v0,v1,v2,v3⟩:=hG.var2
   rw [Z0.out.2] at v0 v1 v2 v3
   have hG2:=(Z0.out.1.trans ((Gr.refl _).alloc _ _)).trans hG
   go_wp2
   exact bodyPost_ret (v:=Wd s) (by simp [results,Tryz.results129,go_sem,v0,v1]) rfl ⟨by rw [E.out],by repeat (first | exact hG2 | refine Gr.setCell ?_ (by simp) _)⟩
end Go.Proofs.YtcipdampcmfmaabGreat

namespace Go.Proofs.YtcipdampcmfmaabGreat
open Go.RowKit Go.Sort
set_option maxRecDepth 100000
set_option maxHeartbeats 4000000
theorem gwk {w w':World} (h:Tk.Gw w w') {p:Addr} {v:Value} (hc:w.cell? p=some v):w'.cell? p=some v:=Tk.gr_keeps h.gr hc
def CmpI (w0:World) (g bf:Nat) (l:List Int) (c:Int->Int->Prop):Prop:=∀ W,Tk.Kp (fun k=>k=g) w0 W->∀ x y,x ∈ l->y ∈ l ->
 Calls Tryz.prog 53 #[.int .i64 x,.int .i64 y,.pointer (some ⟨bf,0,none⟩)] W fun e w'=>∃ z:Int,e=.returned (.int .i64 z)/\(z < 0 ↔ c x y)/\Tk.Gw W w'
theorem get_mem {l:List Int} {i:Nat} (h:i < l.length):l[i]! ∈ l:=by
 have e:l[i]! = l[i]:=by simp [h]
 rw [e];exact List.getElem_mem h
theorem CmpI.later {w0 w1:World} {g bf:Nat} {l l1:List Int} {c:Int->Int->Prop} (h:CmpI w0 g bf l c) (k:Tk.Kp (fun k=>k=g) w0 w1) (hp:l1.Perm l):CmpI w1 g bf l1 c :=
 fun W hW x y hx hy=>h W (k.trans hW) x y (hp.mem_iff.1 hx) (hp.mem_iff.1 hy)
theorem Rot.push {l l1:List Int} {a k:Nat} (h:Rot l l1 a (a + 1) (k + 1)) (hk:a<=k) (hk2:k + 1 < l.length):Rot l (sws l1 k (k + 1)) a (a + 1) (k + 2):=by
 have hl:=h.perm.length_eq
 have g:=fun i=>sws_get l1 k (k + 1) i (by omega) (by omega)
 refine ⟨(sws_perm _ _ _ (by omega) (by omega)).trans h.perm,fun i hi=>?_,fun i hi=>?_,fun i hi=>?_⟩
 ·rw [g,if_neg (by omega)]
  by_cases hik:a + i=k
  ·rw [if_pos hik,h.out (k + 1) (by omega)]
   congr 1;omega
  ·rw [if_neg hik]
   exact h.fst i (by omega)
 ·obtain rfl:i=0:=by omega
  rw [g,if_pos (by omega)]
  have:=h.snd 0 (by omega)
  rw [show a + (k + 1 - (a + 1)) + 0=k by omega] at this
  rw [this]
 ·rw [g,if_neg (by omega),if_neg (by omega)]
  exact h.out i (by omega)
theorem Rot.pull {l l1:List Int} {k m:Nat} (h:Rot l l1 k m (m + 1)) (hk:0 < k) (hkm:k<=m) (hm:m < l.length):Rot l (sws l1 k (k - 1)) (k - 1) m (m + 1):=by
 have hl:=h.perm.length_eq
 have g:=fun i=>sws_get l1 k (k - 1) i (by omega) (by omega)
 refine ⟨(sws_perm _ _ _ (by omega) (by omega)).trans h.perm,fun i hi=>?_,fun i hi=>?_,fun i hi=>?_⟩
 ·obtain rfl:i=0:=by omega
  rw [g,if_pos (by omega)]
  have:=h.fst 0 (by omega)
  simpa using this
 ·rw [g,if_neg (by omega)]
  by_cases hi0:i=0
  ·subst hi0
   rw [if_pos (by omega),h.out (k - 1) (by omega)]
   congr 1
  ·rw [if_neg (by omega)]
   have:=h.snd (i - 1) (by omega)
   rw [show k + (m + 1 - m) + (i - 1)=k - 1 + (m + 1 - m) + i by omega,show k + (i - 1)=k - 1 + i by omega] at this
   exact this
 ·rw [g,if_neg (by omega),if_neg (by omega)]
  exact h.out i (by omega)
theorem symI_one {w:World} {g o cap bf a m b:Nat} {l:List Int} {c lt:Int->Int->Prop} (ht:∀ x y z,lt x y->lt y z->lt x z) (h:IA w g o l) (hl:l.length<=4000) (hb:b<=l.length) (hP:PreM c lt l a m b) (hc:CmpI w g bf l c) (hm:m=a + 1) (hmb:m < b) :
  Calls Tryz.prog 125 #[.slice (some ⟨g,o,none⟩) l.length cap,.int .i64 (a:Int),.int .i64 (m:Int),.int .i64 (b:Int),.func (.func 53) #[] #[.pointer (some ⟨bf,0,none⟩)]] w fun e w'=>e=.returned (.tuple #[])/\∃ l',Seg l l' a b/\Ri lt l' a b/\IA w' g o l'/\Tk.Kp (fun k=>k=g) w w':=by
 have H0:Hid (IA w g o l):=h
 have CC:Hid (CmpI w g bf l c):=hc
 have PM:Hid (m=a + 1/\PreM c lt l a m b/\∀ x y z,lt x y->lt y z->lt x z):=⟨hm,hP,ht⟩
 have em:(m:Int) - (a:Int)=1:=by omega
 have ha:a < l.length:=by omega
 have hai:(a:Int) < (l.length:Int):=by omega
 have ma:a < m:=by omega
 clear h hc hP ht hm
 go_enter Tryz.func125,Tryz.ntmps125
 go_wp2
 go_loopw [10,11] (fun iv jv W0=>∃ (W:World) (_:W=W0) (i j:Nat),iv=.int .i64 (i:Int)/\jv=.int .i64 (j:Int)/\m<=i/\i<=j/\j<=b/\Hid ((i=m ∨ c l[i - 1]! l[a]!)/\(j=b ∨ ¬ c l[j]! l[a]!)/\Tk.Gw w W)) (fun iv jv _=>(intOf jv).toNat - (intOf iv).toNat)
 case atStart=>exact ⟨_,rfl,m,b,rfl,rfl,Nat.le_refl _,Nat.le_of_lt hmb,Nat.le_refl _,Or.inl rfl,Or.inl rfl,Tk.Gw.refl _⟩
 case round =>
  obtain ⟨W,hW,i,j,rfl,rfl,hmi,hij,hjb,X⟩:=hrel
  subst hW
  by_cases hlt:i < j
  ·have hlti:(i:Int) < (j:Int):=by omega
   obtain ⟨q,hq⟩:∃ q,q=(i + j) / 2:=⟨_,rfl⟩
   have eh:((i:Int) + (j:Int)) / 2=(q:Int):=by omega
   have hiq:i<=q:=by omega
   have hqj:q < j:=by omega
   clear hq
   have hh:q < l.length:=by omega
   have hhi:(q:Int) < (l.length:Int):=by omega
   obtain ⟨x,y,c1,c2,E1,E2,XL⟩:∃ x y:Int,W.cell? ⟨g,o + q,none⟩=some (.int .i64 x)/\W.cell? ⟨g,o + a,none⟩=some (.int .i64 y)/\Hid (x ∈ l)/\Hid (y ∈ l)/\Hid (∀ z:Int,(z < 0 ↔ c x y)->(z < 0->c l[q + 1 - 1]! l[a]!)/\(¬ z < 0->¬ c l[q]! l[a]!)) :=
    ⟨l[q]!,l[a]!,gwk X.out.2.2 (H0.out.cell hh),gwk X.out.2.2 (H0.out.cell ha),get_mem hh,get_mem ha,fun z hz=>⟨fun h=>by rw [Nat.add_sub_cancel];exact hz.1 h,fun h h'=>h (hz.2 h')⟩⟩
   have KW:Hid (Tk.Kp (fun k=>k=g) w W):=Tk.Kp.of_gr X.out.2.2.gr
   go_wp2
   refine wp_region_held_drew (S:=fun W2=>Tk.Gw W W2) (by kernel_rfl) ((Tk.Gw.refl W).drew) (fun hHeld=>?_)
   refine tkn 0 ?_ rfl ?_ ?_;rotate_left;·(intro w hSw;(have s1:=gwk hSw c1;have s2:=gwk hSw c2);go_simp;try rfl)
   try simp only [pt]
   refine tkn 1 ?_ rfl ?_ ?_;rotate_left;·(intro w hSw;(have s1:=gwk hSw c1;have s2:=gwk hSw c2);go_simp;try rfl)
   try simp only [pt]
   refine tkn 2 ?_ rfl ?_ ?_;rotate_left;·(intro w hSw;(have s1:=gwk hSw c1;have s2:=gwk hSw c2);go_simp;try rfl)
   try simp only [pt]
   refine tkn 3 ?_ rfl ?_ ?_;rotate_left;·(intro w hSw;(have s1:=gwk hSw c1;have s2:=gwk hSw c2);go_simp;try rfl)
   try simp only [pt]
   refine tkn 4 ?_ rfl ?_ ?_;rotate_left;·(intro w hSw;(have s1:=gwk hSw c1;have s2:=gwk hSw c2);go_simp;try rfl)
   try simp only [pt]
   refine tkn 5 ?_ rfl ?_ ?_;rotate_left;·(intro w hSw;(have s1:=gwk hSw c1;have s2:=gwk hSw c2);go_simp;try rfl)
   try simp only [pt]
   refine tkn 6 ?_ rfl ?_ ?_;rotate_left;·(intro w hSw;(have s1:=gwk hSw c1;have s2:=gwk hSw c2);go_simp;try rfl)
   try simp only [pt]
   refine tkn 7 ?_ rfl ?_ ?_;rotate_left;·(intro w hSw;(have s1:=gwk hSw c1;have s2:=gwk hSw c2);go_simp;try rfl)
   try simp only [pt]
   refine tkn 8 ?_ rfl ?_ ?_;rotate_left;·(intro w hSw;(have s1:=gwk hSw c1;have s2:=gwk hSw c2);go_simp;try rfl)
   try simp only [pt]
   refine rdn 9 rfl (fun K hK=>?_)
   go_simp
   refine (CC.out _ (KW.out.trans (Tk.Kp.of_gr hHeld.gr)) _ _ E1.out E2.out).mono ?_
   rintro e wa ⟨z,rfl,hz,ga⟩
   refine hK.out _ _ (hHeld.trans ga) (fun hHeld=>?_)
   clear hK K
   try simp only [pt]
   refine tkn 10 ?_ rfl ?_ ?_;rotate_left;·(intro w hSw;(have s1:=gwk hSw c1;have s2:=gwk hSw c2);go_simp;try rfl)
   try simp only [pt]
   refine wpAnyH_done (by kernel_rfl) ?_ _
   have XZ:=XL.out z hz
   by_cases hz0:z < 0
   ·have Y:Hid ((q + 1=m ∨ c l[q + 1 - 1]! l[a]!)/\(j=b ∨ ¬ c l[j]! l[a]!)/\Tk.Gw w _):=⟨Or.inr (XZ.1 hz0),X.out.2.1,X.out.2.2.trans hHeld⟩
    clear XZ hz X XL
    go_wp2
    go_roundw
    case rel=>exact ⟨_,rfl,q + 1,j,by go_num,rfl,by omega,by omega,hjb,Y.out⟩
    case measure=>simp [intOf];omega
   ·have Y:Hid ((i=m ∨ c l[i - 1]! l[a]!)/\(q=b ∨ ¬ c l[q]! l[a]!)/\Tk.Gw w _):=⟨X.out.1,Or.inr (XZ.2 (by omega)),X.out.2.2.trans hHeld⟩
    clear XZ hz X XL
    go_wp2
    go_roundw
    case rel=>exact ⟨_,rfl,i,q,rfl,rfl,hmi,hiq,by omega,Y.out⟩
    case measure=>simp [intOf];omega
  ·obtain rfl:i=j:=by omega
   have ib:i<=l.length:=by omega
   have HI:Hid (IA W g o l/\Tk.Kp (fun k=>k=g) w W):=⟨H0.out.same (X.out.2.2.gr.block _ H0.out.lt),Tk.Kp.of_gr X.out.2.2.gr⟩
   have FIN:Hid (∀ l1,Rot l l1 a (a + 1) i->Seg l l1 a b/\Ri lt l1 a b):=fun l1 hr=>by
    obtain ⟨hm,hP,ht⟩:=PM.out
    rw [hm] at hP
    exact ⟨hr.seg.mono (Nat.le_refl _) hjb,merge_one c lt ht hP ⟨by omega,hjb⟩ (by rcases X.out.1 with h | h;exact Or.inl (by omega);exact Or.inr h) X.out.2.1 hr⟩
   have im:a + 1<=i:=by have:=PM.out.1;omega
   clear X H0 CC PM em hmi hij
   go_wp2
   go_loopw [13] (fun kv W0=>∃ (W:World) (_:W=W0) (k:Nat) (l1:List Int),kv=.int .i64 (k:Int)/\a<=k/\k + 1<=i/\Hid (Rot l l1 a (a + 1) (k + 1)/\IA W g o l1/\Tk.Kp (fun k=>k=g) w W)) (fun kv _=>i - (intOf kv).toNat)
   case atStart=>exact ⟨_,rfl,a,l,rfl,Nat.le_refl _,im,Rot.none l (Or.inr rfl) ⟨by omega,by omega⟩,HI.out⟩
   case round =>
    obtain ⟨W,hW,k,l1,rfl,hak,hki,Y⟩:=hrel
    subst hW
    by_cases hk:k + 1 < i
    ·have hki':(k:Int) < (i:Int) - 1:=by omega
     have hl1:l1.length=l.length:=Y.out.1.perm.length_eq
     have k1:(k:Int) < (l.length:Int):=by omega
     have k2:(k:Int) + 1 < (l.length:Int):=by omega
     have c1:W.cell? ⟨g,o + k,none⟩=some (.int .i64 l1[k]!):=Y.out.2.1.cell (by omega)
     have c2:W.cell? ⟨g,o + (k + 1),none⟩=some (.int .i64 l1[k + 1]!):=Y.out.2.1.cell (by omega)
     have f1:W.frozen? ⟨g,o + k,none⟩=false:=Y.out.2.1.froz _
     have f2:W.frozen? ⟨g,o + (k + 1),none⟩=false:=Y.out.2.1.froz _
     have N:Hid (Rot l (sws l1 k (k + 1)) a (a + 1) (k + 2)):=Y.out.1.push hak (by omega)
     have M:Hid (IA ((W.setCell ⟨g,o + k,none⟩ (.int .i64 l1[k + 1]!)).setCell ⟨g,o + (k + 1),none⟩ (.int .i64 l1[k]!)) g o (sws l1 k (k + 1))):=Y.out.2.1.sws (by omega) (by omega)
     generalize l1[k]! = x at *
     generalize l1[k + 1]! = y at *
     clear hl1
     go_wp2
     go_region
     go_wp2
     go_roundw
     case rel=>exact ⟨_,rfl,k + 1,sws l1 k (k + 1),by go_num,by omega,hk,N.out,M.out.same rfl,Y.out.2.2.trans (kp_swp W g _ _ _ _)⟩
     case measure=>simp [intOf];omega
    ·have hki':¬ (k:Int) < (i:Int) - 1:=by omega
     obtain rfl:k + 1=i:=by omega
     go_wp2
     (try simp only [Exit.inBlock,Exit.then])
     refine bodyPost_ret (results_none rfl _ _ _) rfl ?_
     have q:=FIN.out l1 Y.out.1
     exact ⟨rfl,l1,q.1,q.2,Y.out.2.1,Y.out.2.2⟩
end Go.Proofs.YtcipdampcmfmaabGreat

namespace Go.Proofs.YtcipdampcmfmaabGreat
open Go.RowKit Go.Sort
set_option maxRecDepth 100000
set_option maxHeartbeats 4000000
theorem symI_last {w:World} {g o cap bf a m b:Nat} {l:List Int} {c lt:Int->Int->Prop} (ht:∀ x y z,lt x y->lt y z->lt x z) (h:IA w g o l) (hl:l.length<=4000) (hb:b<=l.length) (hP:PreM c lt l a m b) (hc:CmpI w g bf l c) (hbm:b=m + 1) (ham:a + 1 < m) :
  Calls Tryz.prog 125 #[.slice (some ⟨g,o,none⟩) l.length cap,.int .i64 (a:Int),.int .i64 (m:Int),.int .i64 (b:Int),.func (.func 53) #[] #[.pointer (some ⟨bf,0,none⟩)]] w fun e w'=>e=.returned (.tuple #[])/\∃ l',Seg l l' a b/\Ri lt l' a b/\IA w' g o l'/\Tk.Kp (fun k=>k=g) w w':=by
 have H0:Hid (IA w g o l):=h
 have CC:Hid (CmpI w g bf l c):=hc
 have PM:Hid (b=m + 1/\PreM c lt l a m b/\∀ x y z,lt x y->lt y z->lt x z):=⟨hbm,hP,ht⟩
 have em:(((m:Int) - (a:Int)) == 1)=false:=by rw [beq_eq_false_iff_ne];omega
 have eb:(b:Int) - (m:Int)=1:=by omega
 have hm:m < l.length:=by omega
 have hmi:(m:Int) < (l.length:Int):=by omega
 clear h hc hP ht hbm
 go_enter Tryz.func125,Tryz.ntmps125
 go_wp2
 go_loopw [14,15] (fun iv jv W0=>∃ (W:World) (_:W=W0) (i j:Nat),iv=.int .i64 (i:Int)/\jv=.int .i64 (j:Int)/\a<=i/\i<=j/\j<=m/\Hid ((i=a ∨ ¬ c l[m]! l[i - 1]!)/\(j=m ∨ c l[m]! l[j]!)/\Tk.Gw w W)) (fun iv jv _=>(intOf jv).toNat - (intOf iv).toNat)
 case atStart=>exact ⟨_,rfl,a,m,rfl,rfl,Nat.le_refl _,by omega,Nat.le_refl _,Or.inl rfl,Or.inl rfl,Tk.Gw.refl _⟩
 case round =>
  obtain ⟨W,hW,i,j,rfl,rfl,hai,hij,hjm,X⟩:=hrel
  subst hW
  by_cases hlt:i < j
  ·have hlti:(i:Int) < (j:Int):=by omega
   obtain ⟨q,hq⟩:∃ q,q=(i + j) / 2:=⟨_,rfl⟩
   have eh:((i:Int) + (j:Int)) / 2=(q:Int):=by omega
   have hiq:i<=q:=by omega
   have hqj:q < j:=by omega
   clear hq
   have hh:q < l.length:=by omega
   have hhi:(q:Int) < (l.length:Int):=by omega
   obtain ⟨x,y,c1,c2,E1,E2,XL⟩:∃ x y:Int,W.cell? ⟨g,o + m,none⟩=some (.int .i64 x)/\W.cell? ⟨g,o + q,none⟩=some (.int .i64 y)/\Hid (x ∈ l)/\Hid (y ∈ l)/\Hid (∀ z:Int,(z < 0 ↔ c x y)->(z < 0->c l[m]! l[q]!)/\(¬ z < 0->¬ c l[m]! l[q + 1 - 1]!)) :=
    ⟨l[m]!,l[q]!,gwk X.out.2.2 (H0.out.cell hm),gwk X.out.2.2 (H0.out.cell hh),get_mem hm,get_mem hh,fun z hz=>⟨fun h=>hz.1 h,fun h h'=>h (hz.2 (by rw [Nat.add_sub_cancel] at h';exact h'))⟩⟩
   have KW:Hid (Tk.Kp (fun k=>k=g) w W):=Tk.Kp.of_gr X.out.2.2.gr
   go_wp2
   refine wp_region_held_drew (S:=fun W2=>Tk.Gw W W2) (by kernel_rfl) ((Tk.Gw.refl W).drew) (fun hHeld=>?_)
   refine tkn 0 ?_ rfl ?_ ?_;rotate_left;·(intro w hSw;(have s1:=gwk hSw c1;have s2:=gwk hSw c2);go_simp;try rfl)
   try simp only [pt]
   refine tkn 1 ?_ rfl ?_ ?_;rotate_left;·(intro w hSw;(have s1:=gwk hSw c1;have s2:=gwk hSw c2);go_simp;try rfl)
   try simp only [pt]
   refine tkn 2 ?_ rfl ?_ ?_;rotate_left;·(intro w hSw;(have s1:=gwk hSw c1;have s2:=gwk hSw c2);go_simp;try rfl)
   try simp only [pt]
   refine tkn 3 ?_ rfl ?_ ?_;rotate_left;·(intro w hSw;(have s1:=gwk hSw c1;have s2:=gwk hSw c2);go_simp;try rfl)
   try simp only [pt]
   refine tkn 4 ?_ rfl ?_ ?_;rotate_left;·(intro w hSw;(have s1:=gwk hSw c1;have s2:=gwk hSw c2);go_simp;try rfl)
   try simp only [pt]
   refine tkn 5 ?_ rfl ?_ ?_;rotate_left;·(intro w hSw;(have s1:=gwk hSw c1;have s2:=gwk hSw c2);go_simp;try rfl)
   try simp only [pt]
   refine tkn 6 ?_ rfl ?_ ?_;rotate_left;·(intro w hSw;(have s1:=gwk hSw c1;have s2:=gwk hSw c2);go_simp;try rfl)
   try simp only [pt]
   refine tkn 7 ?_ rfl ?_ ?_;rotate_left;·(intro w hSw;(have s1:=gwk hSw c1;have s2:=gwk hSw c2);go_simp;try rfl)
   try simp only [pt]
   refine tkn 8 ?_ rfl ?_ ?_;rotate_left;·(intro w hSw;(have s1:=gwk hSw c1;have s2:=gwk hSw c2);go_simp;try rfl)
   try simp only [pt]
   refine rdn 9 rfl (fun K hK=>?_)
   go_simp
   refine (CC.out _ (KW.out.trans (Tk.Kp.of_gr hHeld.gr)) _ _ E1.out E2.out).mono ?_
   rintro e wa ⟨z,rfl,hz,ga⟩
   refine hK.out _ _ (hHeld.trans ga) (fun hHeld=>?_)
   clear hK K
   try simp only [pt]
   refine tkn 10 ?_ rfl ?_ ?_;rotate_left;·(intro w hSw;(have s1:=gwk hSw c1;have s2:=gwk hSw c2);go_simp;try rfl)
   try simp only [pt]
   refine tkn 11 ?_ rfl ?_ ?_;rotate_left;·(intro w hSw;(have s1:=gwk hSw c1;have s2:=gwk hSw c2);go_simp;try rfl)
   try simp only [pt]
   refine wpAnyH_done (by kernel_rfl) ?_ _
   have XZ:Hid _:=XL.out z hz
   clear hz XL
   go_wp2
   ·rename_i hd
    have hz0:¬ z < 0:=by simpa using hd
    have Y:Hid ((q + 1=a ∨ ¬ c l[m]! l[q + 1 - 1]!)/\(j=m ∨ c l[m]! l[j]!)/\Tk.Gw w _):=⟨Or.inr (XZ.out.2 (by omega)),X.out.2.1,X.out.2.2.trans hHeld⟩
    clear XZ X
    go_roundw
    case rel=>exact ⟨_,rfl,q + 1,j,by go_num,rfl,by omega,by omega,hjm,Y.out⟩
    case measure=>simp [intOf];omega
   ·rename_i hd
    have hz0:z < 0:=by simpa using hd
    have Y:Hid ((i=a ∨ ¬ c l[m]! l[i - 1]!)/\(q=m ∨ c l[m]! l[q]!)/\Tk.Gw w _):=⟨X.out.1,Or.inr (XZ.out.1 hz0),X.out.2.2.trans hHeld⟩
    clear XZ X
    go_roundw
    case rel=>exact ⟨_,rfl,i,q,rfl,rfl,hai,hiq,by omega,Y.out⟩
    case measure=>simp [intOf];omega
  ·obtain rfl:i=j:=by omega
   have HI:Hid (IA W g o l/\Tk.Kp (fun k=>k=g) w W):=⟨H0.out.same (X.out.2.2.gr.block _ H0.out.lt),Tk.Kp.of_gr X.out.2.2.gr⟩
   have FIN:Hid (∀ l1,Rot l l1 i m (m + 1)->Seg l l1 a b/\Ri lt l1 a b):=fun l1 hr=>by
    obtain ⟨hbm,hP,ht⟩:=PM.out
    rw [hbm] at hP
    rw [hbm]
    exact ⟨hr.seg.mono hai (Nat.le_refl _),merge_last c lt ht hP ⟨hai,hjm⟩ X.out.1 X.out.2.1 hr⟩
   clear X H0 CC PM em eb
   go_wp2
   go_loopw [17] (fun kv W0=>∃ (W:World) (_:W=W0) (k:Nat) (l1:List Int),kv=.int .i64 (k:Int)/\i<=k/\k<=m/\Hid (Rot l l1 k m (m + 1)/\IA W g o l1/\Tk.Kp (fun k=>k=g) w W)) (fun kv _=>(intOf kv).toNat)
   case atStart=>exact ⟨_,rfl,m,l,rfl,hjm,Nat.le_refl _,Rot.none l (Or.inl rfl) ⟨by omega,by omega⟩,HI.out⟩
   case round =>
    obtain ⟨W,hW,k,l1,rfl,hik,hkm,Y⟩:=hrel
    subst hW
    by_cases hk:i < k
    ·have hki':(i:Int) < (k:Int):=by omega
     have hl1:l1.length=l.length:=Y.out.1.perm.length_eq
     obtain ⟨k',rfl⟩:∃ k',k=k' + 1:=⟨k - 1,by omega⟩
     have ek:((k' + 1:Nat):Int) - 1=(k':Int):=by omega
     have k1:((k' + 1:Nat):Int) < (l.length:Int):=by omega
     have k2:(k':Int) < (l.length:Int):=by omega
     have c1:W.cell? ⟨g,o + (k' + 1),none⟩=some (.int .i64 l1[k' + 1]!):=Y.out.2.1.cell (by omega)
     have c2:W.cell? ⟨g,o + k',none⟩=some (.int .i64 l1[k']!):=Y.out.2.1.cell (by omega)
     have f1:W.frozen? ⟨g,o + (k' + 1),none⟩=false:=Y.out.2.1.froz _
     have f2:W.frozen? ⟨g,o + k',none⟩=false:=Y.out.2.1.froz _
     have N:Hid (Rot l (sws l1 (k' + 1) k') k' m (m + 1)):=by have:=Y.out.1.pull (Nat.succ_pos _) hkm hm;exact this
     have M:Hid (IA ((W.setCell ⟨g,o + (k' + 1),none⟩ (.int .i64 l1[k']!)).setCell ⟨g,o + k',none⟩ (.int .i64 l1[k' + 1]!)) g o (sws l1 (k' + 1) k')):=Y.out.2.1.sws (by omega) (by omega)
     generalize l1[k']! = x at *
     generalize l1[k' + 1]! = y at *
     clear hl1
     obtain ⟨kk,hkk⟩:∃ kk,kk=k' + 1:=⟨_,rfl⟩
     have KK:Hid (kk=k' + 1):=hkk
     rw [<- hkk] at c1 f1 N M k1 ek hki' hk hkm hik
     rw [<- hkk]
     have ek2:(kk:Int) - 1=(k':Int):=by omega
     have hne:kk ≠ k':=by omega
     clear hkk ek
     go_wp2
     go_region
     go_wp2
     go_roundw
     case rel=>exact ⟨_,rfl,k',sws l1 kk k',by first | rfl | go_num,by have:=KK.out;omega,by have:=KK.out;omega,N.out,M.out.same rfl,Y.out.2.2.trans (kp_swp W g _ _ _ _)⟩
     case measure=>have:=KK.out;simp [intOf];omega
    ·have hki':¬ (i:Int) < (k:Int):=by omega
     obtain rfl:k=i:=by omega
     go_wp2
     (try simp only [Exit.inBlock,Exit.then])
     refine bodyPost_ret (results_none rfl _ _ _) rfl ?_
     have q:=FIN.out l1 Y.out.1
     exact ⟨rfl,l1,q.1,q.2,Y.out.2.1,Y.out.2.2⟩
end Go.Proofs.YtcipdampcmfmaabGreat
