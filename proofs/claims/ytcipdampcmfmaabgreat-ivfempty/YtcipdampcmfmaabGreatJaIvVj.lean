import Derived.Test.YtcipdampcmfmaabGreatJa36
import Derived.Test.YtcipdampcmfmaabGreatJa4
namespace Go.Proofs.YtcipdampcmfmaabGreat
open Go.RowKit Go.Sort Go.Maps
set_option maxRecDepth 100000
set_option maxHeartbeats 4000000
theorem visit_c {Z w0 W:World} {sb hb k:Nat} {vq:Value} {q:List Int} {s:SV} {vs vr vh:Value} (h:SA Z w0 W sb hb k vq q s vs vr vh) {c:List Int} {R:List Rw} {vl vx:Value} {ib io ci g o cap:Nat}
  (hL:RdI w0 vl (ballR c R).L) (hH:RdI w0 vx (ballR c R).H) (hI:RdI w0 (.slice (some ⟨ib,io,none⟩) (ballR c R).I.length ci) (ballR c R).I) (hci:(ballR c R).I.length<=ci) (hrow:RdW w0 (.slice (some ⟨g,o,none⟩) R.length cap) R) (hcap:R.length<=cap)
  (hR:(ballR c R).R < 340282366920938463463374607431768211456) (hck:ckB (ballR c R) q=0) (hLl:1<=(ballR c R).L.length/\(ballR c R).L.length<=64) (hIl:(ballR c R).I.length=R.length) (hd:∀ r ∈ R,distE q r.2=0) (hf:s.seen.length + R.length<=512) (hrf:s.rest.length + 1<=5000) (hbm:s.bud<=1000000) :
  Calls Tryz.prog 37 #[.pointer (some ⟨sb,0,none⟩),lv (ballR c R) vl vx (.slice (some ⟨ib,io,none⟩) (ballR c R).I.length ci) (.slice (some ⟨g,o,none⟩) R.length cap)] W fun e W'=>e=.returned (.tuple #[])/\∃ vs2 vr2 vh2,SA Z w0 W' sb hb k vq q (visV q k c R s) vs2 vr2 vh2:=by
 obtain ⟨N,hN⟩:∃ N,N=cntV q k c R s:=⟨_,rfl⟩
 have hNl:N<=R.length/\N<=s.bud:=by
  rw [hN]
  unfold cntV
  split
  ·exact ⟨Nat.zero_le _,Nat.zero_le _⟩
  ·exact ⟨Nat.min_le_right _ _,Nat.min_le_left _ _⟩
 have hvis:visV q k c R s=⟨s.seen ++ R.take N,s.bud - N,if N < R.length then s.rest ++ [lefV c R N] else s.rest⟩:=by unfold visV;rw [<- hN]
 obtain ⟨B,hBe⟩:∃ B,B=ballR c R:=⟨_,rfl⟩
 have hlef:lefV c R N=⟨3,B.L,[],B.R,B.I.drop N⟩:=by unfold lefV;rw [<- hBe]
 have hcn:N=if beyB q k s.seen B then 0 else min s.bud R.length:=by rw [hN,hBe];rfl
 rw [<- hBe] at hL hH hI hci hR hck hLl hIl ⊢
 obtain ⟨al,cl,el,_⟩:=id hL
 obtain ⟨ah,ch,eh,_⟩:=id hH
 obtain ⟨qa,qc,eq,_⟩:=id h.q
 obtain ⟨ra,rc,er⟩:=h.rg.form
 subst el eh eq er
 have gA:Gb W (W.alloc (.cells #[.int .i64 B.S,.slice al B.L.length cl,.slice ah B.H.length ch,.int .u64 (hi B.R),.int .u64 (lo B.R),.slice (some ⟨ib,io,none⟩) B.I.length ci,.slice (some ⟨g,o,none⟩) R.length cap] 100)):=gb_alloc (Below.refl _ _) _
 have cB:=isBeyond_c (vw:=.slice (some ⟨g,o,none⟩) R.length cap) (h.grow gA) hL hH hI ⟨_,_,_,rfl⟩ hR (by omega) hck
 unfold lv at cB
 have b0:(W.alloc (.cells #[.int .i64 B.S,.slice al B.L.length cl,.slice ah B.H.length ch,.int .u64 (hi B.R),.int .u64 (lo B.R),.slice (some ⟨ib,io,none⟩) B.I.length ci,.slice (some ⟨g,o,none⟩) R.length cap] 100)).heap[W.heap.size]? = some (.cells #[.int .i64 B.S,.slice al B.L.length cl,.slice ah B.H.length ch,.int .u64 (hi B.R),.int .u64 (lo B.R),.slice (some ⟨ib,io,none⟩) B.I.length ci,.slice (some ⟨g,o,none⟩) R.length cap] 100 (0,0)):=heap_new _ _
 have C1:Hid (∀ W2,Gb w0 W2->Calls Tryz.prog 43 #[.slice al B.L.length cl] W2 fun e w'=>∃ v',e=.returned v'/\Own w' W2.heap.size v' B.L/\Gb W2 w'):=fun W2 g=>clone_c (hL.gb g) (by omega) hLl.1
 have C2:Hid (N < R.length->∀ W2,Gb w0 W2->Calls Tryz.prog 43 #[.slice (some ⟨ib,io + N,none⟩) (B.I.length - N) (ci - N)] W2 fun e w'=>∃ v',e=.returned v'/\Own w' W2.heap.size v' (B.I.drop N)/\Gb W2 w'):=fun hlt W2 g=>clone_c ((rdi_from hI N (by omega) (ci - N)).gb g) (by rw [List.length_drop];omega) (by rw [List.length_drop];omega)
 have HS:Hid (SA Z w0 W sb hb k (.slice qa q.length qc) q s vs (.slice ra s.rest.length rc) vh):=h
 have ROW:Hid (∀ j,j < R.length->∃ (x:Int) (au:Option Addr) (nu cu:Nat),w0.cell? ⟨g,o + j * 2,none⟩=some (.int .i64 x)/\w0.cell? ⟨g,o + j * 2 + 1,none⟩=some (.slice au nu cu)/\∀ (wr W2:World) (vs2 vh2:Value),SA Z w0 wr sb hb k (.slice qa q.length qc) q ⟨s.seen ++ R.take j,s.bud - j,s.rest⟩ vs2 (.slice ra s.rest.length rc) vh2->Gb wr W2->j < N->Calls Tryz.prog 63 #[.pointer (some ⟨sb,0,none⟩),.agg #[.int .i64 x,.slice au nu cu]] W2 fun e W'=>e=.returned (.tuple #[])/\∃ vs3 vh3,SA Z w0 W' sb hb k (.slice qa q.length qc) q ⟨s.seen ++ R.take (j + 1),s.bud - (j + 1),s.rest⟩ vs3 (.slice ra s.rest.length rc) vh3/\Frm W2 W'):=fun j hj=>by
  obtain ⟨u,c1,c2,rd⟩:=rdw_at hrow hj
  obtain ⟨au,cu,eu,_⟩:=id rd
  refine ⟨R[j]!.1,au,R[j]!.2.length,cu,c1,by rw [<- eu];exact c2,fun wr W2 vs2 vh2 hS g2 hjN=>?_⟩
  have hmem:R[j]! ∈ R:=by rw [getElem!_pos R j hj];exact List.getElem_mem hj
  have:=lookAt_c (ri:=R[j]!.1) (hS.grow g2) rd (hd _ hmem) (by dsimp only;omega) (by dsimp only;rw [List.length_append,List.length_take];omega) (by dsimp only;omega)
  rw [eu] at this
  refine this.mono ?_
  rintro e W' ⟨rfl,vs3,vh3,h3,f3⟩
  refine ⟨rfl,vs3,vh3,?_,f3⟩
  have e1:s.seen ++ R.take (j + 1)=s.seen ++ R.take j ++ [(R[j]!.1,R[j]!.2)]:=by
   rw [List.take_succ_eq_append_getElem hj,<- List.append_assoc,getElem!_pos R j hj]
  rw [e1,show s.bud - (j + 1)=s.bud - j - 1 by omega]
  exact h3
 have NX0:Hid (∀ V vs2 vh2,SA Z w0 V sb hb k (.slice qa q.length qc) q ⟨s.seen ++ R.take N,s.bud - N,s.rest⟩ vs2 (.slice ra s.rest.length rc) vh2->Ty V W.heap.size 100->N < R.length->∀ (w1 w2:World) (v1 v3:Value),Own w1 V.heap.size v1 B.L->Gb V w1->Own w2 w1.heap.size v3 (B.I.drop N)->Gb w1 w2 ->
   ∃ vb nv cv W3,(Builtin.append_ #[49,49] 49 #[.slice ra s.rest.length rc,.slice (some ⟨w2.heap.size,0,none⟩) 1 1]).run Tryz.prog (w2.alloc (.cells #[.int .i64 3,v1,.slice none 0 0,.int .u64 (hi B.R),.int .u64 (lo B.R),v3] 98))=.ok (.slice (some ⟨vb,0,none⟩) nv cv) W3/\W3.heap[W.heap.size]? = V.heap[W.heap.size]? /\ (∃ y,W3.cell? ⟨sb,4,none⟩=some y)/\W3.frozen? ⟨sb,4,none⟩=false/\(W3.setCell ⟨sb,4,none⟩ (.slice (some ⟨vb,0,none⟩) nv cv)).heap[W.heap.size]? = V.heap[W.heap.size]? /\ Hid (∃ vs3 vr3 vh3,SA Z w0 (W3.setCell ⟨sb,4,none⟩ (.slice (some ⟨vb,0,none⟩) nv cv)) sb hb k (.slice qa q.length qc) q (visV q k c R s) vs3 vr3 vh3)):=fun V vs2 vh2 hS tb hlt w1 w2 v1 v3 o1 g1 o3 g2=>by
  obtain ⟨vb,nv,cv,W3,hrun,blk,hF,f1,f2⟩:=hS.left (R:=B.R) (gb_trans g1 g2) (o1.gb g2) (o3.mono g1.size) hrf
  refine ⟨vb,nv,cv,W3,hrun,f1 _ _ tb (by decide) (by decide) (by decide) (by decide) (by decide),⟨_,cell_cur blk rfl⟩,by simp [World.frozen?,blk],f2 _ _ tb (by decide) (by decide) (by decide) (by decide) (by decide),vs2,.slice (some ⟨vb,0,none⟩) nv cv,vh2,?_⟩
  rw [hvis,if_pos hlt,hlef]
  exact hF
 have END0:Hid (∀ V vs2 vh2,SA Z w0 V sb hb k (.slice qa q.length qc) q ⟨s.seen ++ R.take N,s.bud - N,s.rest⟩ vs2 (.slice ra s.rest.length rc) vh2->¬ N < R.length->∃ vs3 vr3 vh3,SA Z w0 V sb hb k (.slice qa q.length qc) q (visV q k c R s) vs3 vr3 vh3):=fun V vs2 vh2 hS hlt=>by
  refine ⟨vs2,.slice ra s.rest.length rc,vh2,?_⟩
  rw [hvis,if_neg hlt]
  exact hS
 have ST0:Hid (∀ V,Gb (W.alloc (.cells #[.int .i64 B.S,.slice al B.L.length cl,.slice ah B.H.length ch,.int .u64 (hi B.R),.int .u64 (lo B.R),.slice (some ⟨ib,io,none⟩) B.I.length ci,.slice (some ⟨g,o,none⟩) R.length cap] 100)) V->∃ vs2 vh2,SA Z w0 V sb hb k (.slice qa q.length qc) q ⟨s.seen ++ R.take 0,s.bud - 0,s.rest⟩ vs2 (.slice ra s.rest.length rc) vh2/\V.heap[W.heap.size]? = some (.cells #[.int .i64 B.S,.slice al B.L.length cl,.slice ah B.H.length ch,.int .u64 (hi B.R),.int .u64 (lo B.R),.slice (some ⟨ib,io,none⟩) B.I.length ci,.slice (some ⟨g,o,none⟩) R.length cap] 100 (0,0))):=fun V gV=>by
  refine ⟨vs,vh,?_,(gV.block _ (Array.getElem?_eq_some_iff.1 b0).1).trans b0⟩
  rw [List.take_zero,List.append_nil,Nat.sub_zero]
  exact h.grow (gb_trans gA gV)
 have hIR:B.I.length=R.length:=hIl
 obtain ⟨hN1,hN2⟩:=hNl
 obtain ⟨n,hn⟩:∃ n,n=R.length:=⟨_,rfl⟩
 have hn5:n<=512:=by omega
 have hcap':n<=cap:=by omega
 have hci':n<=ci:=by omega
 have hNn:N<=n:=by omega
 simp only [hIR,<- hn] at cB C2 NX0 END0 ST0 ROW gA b0 ⊢
 unfold lv
 have GB0:Hid (∀ V,Gb W V->Gb w0 V):=fun V g=>gb_trans h.gb g
 have hNb:N=if beyB q k s.seen B then 0 else min s.bud n:=by rw [hcn,hn]
 generalize beyB q k s.seen B=bey at *
 generalize hi B.R=rh at *
 generalize lo B.R=ro at *
 generalize hBS:B.S=S at *
 generalize B.H.length=nh at *
 generalize B.L.length=nl at *
 generalize q.length=nq at *
 generalize s.rest.length=rn at *
 have GA:Hid (Gb W (W.alloc (.cells #[.int .i64 S,.slice al nl cl,.slice ah nh ch,.int .u64 rh,.int .u64 ro,.slice (some ⟨ib,io,none⟩) n ci,.slice (some ⟨g,o,none⟩) n cap] 100))):=gA
 have BB:Hid ((W.alloc (.cells #[.int .i64 S,.slice al nl cl,.slice ah nh ch,.int .u64 rh,.int .u64 ro,.slice (some ⟨ib,io,none⟩) n ci,.slice (some ⟨g,o,none⟩) n cap] 100)).heap[W.heap.size]? = some (.cells #[.int .i64 S,.slice al nl cl,.slice ah nh ch,.int .u64 rh,.int .u64 ro,.slice (some ⟨ib,io,none⟩) n ci,.slice (some ⟨g,o,none⟩) n cap] 100 (0,0))):=b0
 have hbud:(0:Int)<=(s.bud:Int):=by omega
 have C0:Hid (∀ V,Gb (W.alloc (.cells #[.int .i64 S,.slice al nl cl,.slice ah nh ch,.int .u64 rh,.int .u64 ro,.slice (some ⟨ib,io,none⟩) n ci,.slice (some ⟨g,o,none⟩) n cap] 100)) V->V.cell? ⟨sb,2,none⟩=some (.int .i64 (s.bud:Int))):=fun V g=>gb_keeps (gb_trans gA g) h.cells.2.2.1
 have slt:sb < W.heap.size:=(Array.getElem?_eq_some_iff.1 h.blk).1
 clear h hL hH hI hci hrow hcap hR hck hLl hIl hd hf hrf hvis hlef hcn hBe hN hN1 hIR hn gA b0 HS hBS
 generalize s.bud=bud at *
 go_enter Tryz.func37,Tryz.ntmps37
 go_wp2_with fail
 go_fit cB
 rintro e wr ⟨rfl,g1⟩
 have G1:Hid (Gb (W.alloc (.cells #[.int .i64 S,.slice al nl cl,.slice ah nh ch,.int .u64 rh,.int .u64 ro,.slice (some ⟨ib,io,none⟩) n ci,.slice (some ⟨g,o,none⟩) n cap] 100)) wr):=g1
 have B1:wr.heap[W.heap.size]? = some (.cells #[.int .i64 S,.slice al nl cl,.slice ah nh ch,.int .u64 rh,.int .u64 ro,.slice (some ⟨ib,io,none⟩) n ci,.slice (some ⟨g,o,none⟩) n cap] 100 (0,0)):=(g1.block _ (Array.getElem?_eq_some_iff.1 BB.out).1).trans BB.out
 clear cB g1
 cases bey with
 | true =>
  have hN0:N=0:=hNb
  subst hN0
  obtain ⟨vs2,vh2,hS,bxr⟩:=ST0.out wr G1.out
  have c6:=cell_cur (i:=6) B1 rfl
  have hc0:(0:Int)<=(cap:Int):=by omega
  clear ST0 hNb B1 ROW C0
  by_cases hlt:0 < n
  ·have hlti:(0:Int) < (n:Int):=by omega
   have cX1:=C1.out
   have BG0:Gb wr wr.drew:=(Below.refl _ _).drew
   have tb:Ty wr W.heap.size 100:=⟨_,_,bxr⟩
   have tbd:Ty wr.drew W.heap.size 100:=⟨_,_,bxr⟩
   have NX:Hid (∀ (w1 w2:World) (v1 v3:Value),Own w1 wr.drew.heap.size v1 B.L->Gb wr.drew w1->Own w2 w1.heap.size v3 (B.I.drop 0)->Gb w1 w2->∃ vb nv cv W3,(Builtin.append_ #[49,49] 49 #[.slice ra rn rc,.slice (some ⟨w2.heap.size,0,none⟩) 1 1]).run Tryz.prog (w2.alloc (.cells #[.int .i64 3,v1,.slice none 0 0,.int .u64 rh,.int .u64 ro,v3] 98))=.ok (.slice (some ⟨vb,0,none⟩) nv cv) W3/\W3.heap[W.heap.size]? = some (.cells #[.int .i64 S,.slice al nl cl,.slice ah nh ch,.int .u64 rh,.int .u64 ro,.slice (some ⟨ib,io,none⟩) n ci,.slice (some ⟨g,o,none⟩) n cap] 100 (0,0))/\(∃ y,W3.cell? ⟨sb,4,none⟩=some y)/\W3.frozen? ⟨sb,4,none⟩=false/\(W3.setCell ⟨sb,4,none⟩ (.slice (some ⟨vb,0,none⟩) nv cv)).heap[W.heap.size]? = some (.cells #[.int .i64 S,.slice al nl cl,.slice ah nh ch,.int .u64 rh,.int .u64 ro,.slice (some ⟨ib,io,none⟩) n ci,.slice (some ⟨g,o,none⟩) n cap] 100 (0,0))/\Hid (∃ vs3 vr3 vh3,SA Z w0 (W3.setCell ⟨sb,4,none⟩ (.slice (some ⟨vb,0,none⟩) nv cv)) sb hb k (.slice qa nq qc) q (visV q k c R s) vs3 vr3 vh3)):=fun w1 w2 v1 v3 o1 g1 o3 g2=>by
    obtain ⟨vb,nv,cv,W3,r1,r2,r3,r4,r5,r6⟩:=NX0.out wr.drew vs2 vh2 (hS.grow BG0) tbd hlt w1 w2 v1 v3 o1 g1 o3 g2
    exact ⟨vb,nv,cv,W3,r1,r2.trans bxr,r3,r4,r5.trans bxr,r6⟩
   have vr4:∀ W2,Gb wr.drew W2->W2.cell? ⟨sb,4,none⟩=some (.slice ra rn rc):=fun W2 g=>gb_keeps g hS.cells.2.2.2.2.1
   have sl0:sb < wr.heap.size:=(Array.getElem?_eq_some_iff.1 hS.blk).1
   have keepG:∀ {a b:World},Gb a b->a.heap[W.heap.size]? = some (.cells #[.int .i64 S,.slice al nl cl,.slice ah nh ch,.int .u64 rh,.int .u64 ro,.slice (some ⟨ib,io,none⟩) n ci,.slice (some ⟨g,o,none⟩) n cap] 100 (0,0))->b.heap[W.heap.size]? = some (.cells #[.int .i64 S,.slice al nl cl,.slice ah nh ch,.int .u64 rh,.int .u64 ro,.slice (some ⟨ib,io,none⟩) n ci,.slice (some ⟨g,o,none⟩) n cap] 100 (0,0)):=fun g e=>(g.block _ (Array.getElem?_eq_some_iff.1 e).1).trans e
   have FS10:wr.drew.heap[W.heap.size]? = some (.cells #[.int .i64 S,.slice al nl cl,.slice ah nh ch,.int .u64 rh,.int .u64 ro,.slice (some ⟨ib,io,none⟩) n ci,.slice (some ⟨g,o,none⟩) n cap] 100 (0,0)):=bxr
   have G00:=hS.gb.trans (BG0.mono hS.gb.size)
   have cX2:=C2.out hlt
   simp only [Nat.add_zero,Nat.sub_zero] at cX2
   have hjci:¬ ci=0:=by omega
   clear hS NX0 END0 bxr C2
   go_wp2
   go_rounds 1
   go_wp2_with fail
   refine wp_region_held_drew (S:=fun W2=>W2.heap[W.heap.size]? = some (.cells #[.int .i64 S,.slice al nl cl,.slice ah nh ch,.int .u64 rh,.int .u64 ro,.slice (some ⟨ib,io,none⟩) n ci,.slice (some ⟨g,o,none⟩) n cap] 100 (0,0))) (by kernel_rfl) (FS10) (fun hHeld=>?_)
   refine tkn 0 ?_ rfl ?_ ?_;rotate_left;·(intro w hSw;(have c0:=cell_cur (i:=0) hSw rfl;have c1:=cell_cur (i:=1) hSw rfl;have c2:=cell_cur (i:=2) hSw rfl;have c3:=cell_cur (i:=3) hSw rfl;have c4:=cell_cur (i:=4) hSw rfl;have c5:=cell_cur (i:=5) hSw rfl;have c6:=cell_cur (i:=6) hSw rfl);go_simp;try rfl)
   refine tkn 1 ?_ rfl ?_ ?_;rotate_left;·(intro w hSw;(have c0:=cell_cur (i:=0) hSw rfl;have c1:=cell_cur (i:=1) hSw rfl;have c2:=cell_cur (i:=2) hSw rfl;have c3:=cell_cur (i:=3) hSw rfl;have c4:=cell_cur (i:=4) hSw rfl;have c5:=cell_cur (i:=5) hSw rfl;have c6:=cell_cur (i:=6) hSw rfl);go_simp;try rfl)
   refine tkn 2 ?_ rfl ?_ ?_;rotate_left;·(intro w hSw;(have c0:=cell_cur (i:=0) hSw rfl;have c1:=cell_cur (i:=1) hSw rfl;have c2:=cell_cur (i:=2) hSw rfl;have c3:=cell_cur (i:=3) hSw rfl;have c4:=cell_cur (i:=4) hSw rfl;have c5:=cell_cur (i:=5) hSw rfl;have c6:=cell_cur (i:=6) hSw rfl);go_simp;try rfl)
   refine tkn 3 ?_ rfl ?_ ?_;rotate_left;·(intro w hSw;(have c0:=cell_cur (i:=0) hSw rfl;have c1:=cell_cur (i:=1) hSw rfl;have c2:=cell_cur (i:=2) hSw rfl;have c3:=cell_cur (i:=3) hSw rfl;have c4:=cell_cur (i:=4) hSw rfl;have c5:=cell_cur (i:=5) hSw rfl;have c6:=cell_cur (i:=6) hSw rfl);go_simp;try rfl)
   refine tkn 5 ?_ rfl ?_ ?_;rotate_left;·(intro w hSw;(have c0:=cell_cur (i:=0) hSw rfl;have c1:=cell_cur (i:=1) hSw rfl;have c2:=cell_cur (i:=2) hSw rfl;have c3:=cell_cur (i:=3) hSw rfl;have c4:=cell_cur (i:=4) hSw rfl;have c5:=cell_cur (i:=5) hSw rfl;have c6:=cell_cur (i:=6) hSw rfl);go_simp;try rfl)
   refine tkn 6 ?_ rfl ?_ ?_;rotate_left;·(intro w hSw;(have c0:=cell_cur (i:=0) hSw rfl;have c1:=cell_cur (i:=1) hSw rfl;have c2:=cell_cur (i:=2) hSw rfl;have c3:=cell_cur (i:=3) hSw rfl;have c4:=cell_cur (i:=4) hSw rfl;have c5:=cell_cur (i:=5) hSw rfl;have c6:=cell_cur (i:=6) hSw rfl);go_simp;try rfl)
   refine tkn 7 ?_ rfl ?_ ?_;rotate_left;·(intro w hSw;(have c0:=cell_cur (i:=0) hSw rfl;have c1:=cell_cur (i:=1) hSw rfl;have c2:=cell_cur (i:=2) hSw rfl;have c3:=cell_cur (i:=3) hSw rfl;have c4:=cell_cur (i:=4) hSw rfl;have c5:=cell_cur (i:=5) hSw rfl;have c6:=cell_cur (i:=6) hSw rfl);go_simp;try rfl)
   refine tkn 9 ?_ rfl ?_ ?_;rotate_left;·(intro w hSw;(have c0:=cell_cur (i:=0) hSw rfl;have c1:=cell_cur (i:=1) hSw rfl;have c2:=cell_cur (i:=2) hSw rfl;have c3:=cell_cur (i:=3) hSw rfl;have c4:=cell_cur (i:=4) hSw rfl;have c5:=cell_cur (i:=5) hSw rfl;have c6:=cell_cur (i:=6) hSw rfl);go_simp;try rfl)
   refine tkn 10 ?_ rfl ?_ ?_;rotate_left;·(intro w hSw;(have c0:=cell_cur (i:=0) hSw rfl;have c1:=cell_cur (i:=1) hSw rfl;have c2:=cell_cur (i:=2) hSw rfl;have c3:=cell_cur (i:=3) hSw rfl;have c4:=cell_cur (i:=4) hSw rfl;have c5:=cell_cur (i:=5) hSw rfl;have c6:=cell_cur (i:=6) hSw rfl);go_simp;try rfl)
   refine tkn 11 ?_ rfl ?_ ?_;rotate_left;·(intro w hSw;(have c0:=cell_cur (i:=0) hSw rfl;have c1:=cell_cur (i:=1) hSw rfl;have c2:=cell_cur (i:=2) hSw rfl;have c3:=cell_cur (i:=3) hSw rfl;have c4:=cell_cur (i:=4) hSw rfl;have c5:=cell_cur (i:=5) hSw rfl;have c6:=cell_cur (i:=6) hSw rfl);go_simp;try rfl)
   refine tkn 12 ?_ rfl ?_ ?_;rotate_left;·(intro w hSw;(have c0:=cell_cur (i:=0) hSw rfl;have c1:=cell_cur (i:=1) hSw rfl;have c2:=cell_cur (i:=2) hSw rfl;have c3:=cell_cur (i:=3) hSw rfl;have c4:=cell_cur (i:=4) hSw rfl;have c5:=cell_cur (i:=5) hSw rfl;have c6:=cell_cur (i:=6) hSw rfl);go_simp;try rfl)
   refine tkn 13 ?_ rfl ?_ ?_;rotate_left;·(intro w hSw;(have c0:=cell_cur (i:=0) hSw rfl;have c1:=cell_cur (i:=1) hSw rfl;have c2:=cell_cur (i:=2) hSw rfl;have c3:=cell_cur (i:=3) hSw rfl;have c4:=cell_cur (i:=4) hSw rfl;have c5:=cell_cur (i:=5) hSw rfl;have c6:=cell_cur (i:=6) hSw rfl);go_simp;try rfl)
   refine tkn 14 ?_ rfl ?_ ?_;rotate_left;·(intro w hSw;(have c0:=cell_cur (i:=0) hSw rfl;have c1:=cell_cur (i:=1) hSw rfl;have c2:=cell_cur (i:=2) hSw rfl;have c3:=cell_cur (i:=3) hSw rfl;have c4:=cell_cur (i:=4) hSw rfl;have c5:=cell_cur (i:=5) hSw rfl;have c6:=cell_cur (i:=6) hSw rfl);go_simp;try rfl)
   refine tkn 15 ?_ rfl ?_ ?_;rotate_left;·(intro w hSw;(have c0:=cell_cur (i:=0) hSw rfl;have c1:=cell_cur (i:=1) hSw rfl;have c2:=cell_cur (i:=2) hSw rfl;have c3:=cell_cur (i:=3) hSw rfl;have c4:=cell_cur (i:=4) hSw rfl;have c5:=cell_cur (i:=5) hSw rfl;have c6:=cell_cur (i:=6) hSw rfl);go_simp;try rfl)
   refine tkn 16 ?_ rfl ?_ ?_;rotate_left;·(intro w hSw;(have c0:=cell_cur (i:=0) hSw rfl;have c1:=cell_cur (i:=1) hSw rfl;have c2:=cell_cur (i:=2) hSw rfl;have c3:=cell_cur (i:=3) hSw rfl;have c4:=cell_cur (i:=4) hSw rfl;have c5:=cell_cur (i:=5) hSw rfl;have c6:=cell_cur (i:=6) hSw rfl);go_simp;try rfl)
   refine wpAnyH_ready (rs:=[4,8]) (by kernel_rfl) (by simp) ?_
   refine AllReadyH.cons rfl (fun K hK=>?_) (AllReadyH.cons rfl (fun K hK=>?_) AllReadyH.nil)
   ·have l4:=vr4 _ (Below.refl _ _)
    go_simp
    clear l4
    refine hK.out _ _ (hHeld) (fun hHeld=>?_)
    clear hK K
    refine rdn 8 rfl (fun K hK=>?_)
    go_simp
    go_fit (cX1 _ G00)
    rintro e w1 ⟨v1,rfl,o1,g1⟩
    obtain ⟨a1,n1,k1,rfl⟩:=(⟨_,_,_,(Classical.choose_spec (Classical.choose_spec o1.rd)).1⟩:∃ a n c,v1=.slice a n c)
    refine hK.out _ _ (keepG g1 hHeld) (fun hHeld=>?_)
    clear hK K
    refine rdn 17 rfl (fun K hK=>?_)
    go_simp
    go_fit (cX2 _ (gb_trans G00 g1))
    rintro e w2 ⟨v3,rfl,o3,g2⟩
    obtain ⟨a3,n3,k3,rfl⟩:=(⟨_,_,_,(Classical.choose_spec (Classical.choose_spec o3.rd)).1⟩:∃ a n c,v3=.slice a n c)
    obtain ⟨vb,nv,cv,W3,hrun,b3,⟨y5,y4⟩,f4,b5,FIN⟩:=NX.out w1 w2 _ _ o1 g1 o3 g2
    refine hK.out _ _ (keepG g2 hHeld) (fun hHeld=>?_)
    clear hK K
    refine tkn 18 ?_ rfl ?_ ?_;rotate_left;·(intro w hSw;(skip);go_simp;try rfl)
    refine rdn 19 rfl (fun K hK=>?_)
    go_simp
    refine hK.out _ _ (keepG (gb_alloc (Below.refl _ _) _) hHeld) (fun hHeld=>?_)
    clear hK K
    refine rdn 20 rfl (fun K hK=>?_)
    refine app_run (by rfl) _ _ _ (by rfl) ⟨.slice ra rn rc,.slice (some ⟨w2.heap.size,0,none⟩) 1 1,_,_,(by go_simp),(by go_simp),hrun,?_⟩
    refine hK.out _ _ (b3) (fun hHeld=>?_)
    clear hK K
    refine tkn 21 ?_ rfl ?_ ?_;rotate_left;·(intro w hSw;(skip);go_simp;try rfl)
    refine tkn 22 ?_ rfl ?_ ?_;rotate_left;·(intro w hSw;(skip);go_simp;try rfl)
    refine rdn 23 rfl (fun K hK=>?_)
    go_simp
    refine hK.out _ _ (b5) (fun hHeld=>?_)
    clear hK K
    refine wpAnyH_done (by kernel_rfl) ?_ _
    clear hHeld hrun b3 y4 f4 b5
    go_wp2
    go_end0
    exact ⟨rfl,FIN.out⟩
   ·go_simp
    go_fit (cX1 _ G00)
    rintro e w1 ⟨v1,rfl,o1,g1⟩
    obtain ⟨a1,n1,k1,rfl⟩:=(⟨_,_,_,(Classical.choose_spec (Classical.choose_spec o1.rd)).1⟩:∃ a n c,v1=.slice a n c)
    refine hK.out _ _ (keepG g1 hHeld) (fun hHeld=>?_)
    clear hK K
    refine wpAnyH_ready (rs:=[4,17]) (by kernel_rfl) (by simp) ?_
    refine AllReadyH.cons rfl (fun K hK=>?_) (AllReadyH.cons rfl (fun K hK=>?_) AllReadyH.nil)
    ·have l4:=vr4 _ g1
     go_simp
     clear l4
     refine hK.out _ _ (hHeld) (fun hHeld=>?_)
     clear hK K
     refine rdn 17 rfl (fun K hK=>?_)
     go_simp
     go_fit (cX2 _ (gb_trans G00 g1))
     rintro e w2 ⟨v3,rfl,o3,g2⟩
     obtain ⟨a3,n3,k3,rfl⟩:=(⟨_,_,_,(Classical.choose_spec (Classical.choose_spec o3.rd)).1⟩:∃ a n c,v3=.slice a n c)
     obtain ⟨vb,nv,cv,W3,hrun,b3,⟨y5,y4⟩,f4,b5,FIN⟩:=NX.out w1 w2 _ _ o1 g1 o3 g2
     refine hK.out _ _ (keepG g2 hHeld) (fun hHeld=>?_)
     clear hK K
     refine tkn 18 ?_ rfl ?_ ?_;rotate_left;·(intro w hSw;(skip);go_simp;try rfl)
     refine rdn 19 rfl (fun K hK=>?_)
     go_simp
     refine hK.out _ _ (keepG (gb_alloc (Below.refl _ _) _) hHeld) (fun hHeld=>?_)
     clear hK K
     refine rdn 20 rfl (fun K hK=>?_)
     refine app_run (by rfl) _ _ _ (by rfl) ⟨.slice ra rn rc,.slice (some ⟨w2.heap.size,0,none⟩) 1 1,_,_,(by go_simp),(by go_simp),hrun,?_⟩
     refine hK.out _ _ (b3) (fun hHeld=>?_)
     clear hK K
     refine tkn 21 ?_ rfl ?_ ?_;rotate_left;·(intro w hSw;(skip);go_simp;try rfl)
     refine tkn 22 ?_ rfl ?_ ?_;rotate_left;·(intro w hSw;(skip);go_simp;try rfl)
     refine rdn 23 rfl (fun K hK=>?_)
     go_simp
     refine hK.out _ _ (b5) (fun hHeld=>?_)
     clear hK K
     refine wpAnyH_done (by kernel_rfl) ?_ _
     clear hHeld hrun b3 y4 f4 b5
     go_wp2
     go_end0
     exact ⟨rfl,FIN.out⟩
    ·go_simp
     go_fit (cX2 _ (gb_trans G00 g1))
     rintro e w2 ⟨v3,rfl,o3,g2⟩
     obtain ⟨a3,n3,k3,rfl⟩:=(⟨_,_,_,(Classical.choose_spec (Classical.choose_spec o3.rd)).1⟩:∃ a n c,v3=.slice a n c)
     obtain ⟨vb,nv,cv,W3,hrun,b3,⟨y5,y4⟩,f4,b5,FIN⟩:=NX.out w1 w2 _ _ o1 g1 o3 g2
     refine hK.out _ _ (keepG g2 hHeld) (fun hHeld=>?_)
     clear hK K
     refine tkn 18 ?_ rfl ?_ ?_;rotate_left;·(intro w hSw;(skip);go_simp;try rfl)
     refine wpAnyH_ready (rs:=[4,19]) (by kernel_rfl) (by simp) ?_
     refine AllReadyH.cons rfl (fun K hK=>?_) (AllReadyH.cons rfl (fun K hK=>?_) AllReadyH.nil)
     ·have l4:=vr4 _ (gb_trans g1 g2)
      go_simp
      clear l4
      refine hK.out _ _ (hHeld) (fun hHeld=>?_)
      clear hK K
      refine rdn 19 rfl (fun K hK=>?_)
      go_simp
      refine hK.out _ _ (keepG (gb_alloc (Below.refl _ _) _) hHeld) (fun hHeld=>?_)
      clear hK K
      refine rdn 20 rfl (fun K hK=>?_)
      refine app_run (by rfl) _ _ _ (by rfl) ⟨.slice ra rn rc,.slice (some ⟨w2.heap.size,0,none⟩) 1 1,_,_,(by go_simp),(by go_simp),hrun,?_⟩
      refine hK.out _ _ (b3) (fun hHeld=>?_)
      clear hK K
      refine tkn 21 ?_ rfl ?_ ?_;rotate_left;·(intro w hSw;(skip);go_simp;try rfl)
      refine tkn 22 ?_ rfl ?_ ?_;rotate_left;·(intro w hSw;(skip);go_simp;try rfl)
      refine rdn 23 rfl (fun K hK=>?_)
      go_simp
      refine hK.out _ _ (b5) (fun hHeld=>?_)
      clear hK K
      refine wpAnyH_done (by kernel_rfl) ?_ _
      clear hHeld hrun b3 y4 f4 b5
      go_wp2
      go_end0
      exact ⟨rfl,FIN.out⟩
     ·go_simp
      refine hK.out _ _ (keepG (gb_alloc (Below.refl _ _) _) hHeld) (fun hHeld=>?_)
      clear hK K
      refine rdn 4 rfl (fun K hK=>?_)
      have l4:=vr4 (w2.alloc (.cells #[.int .i64 3,.slice a1 n1 k1,.slice none 0 0,.int .u64 rh,.int .u64 ro,.slice a3 n3 k3] 98)) (gb_alloc (gb_trans g1 g2) _)
      go_simp
      clear l4
      refine hK.out _ _ (hHeld) (fun hHeld=>?_)
      clear hK K
      refine rdn 20 rfl (fun K hK=>?_)
      refine app_run (by rfl) _ _ _ (by rfl) ⟨.slice ra rn rc,.slice (some ⟨w2.heap.size,0,none⟩) 1 1,_,_,(by go_simp),(by go_simp),hrun,?_⟩
      refine hK.out _ _ (b3) (fun hHeld=>?_)
      clear hK K
      refine tkn 21 ?_ rfl ?_ ?_;rotate_left;·(intro w hSw;(skip);go_simp;try rfl)
      refine tkn 22 ?_ rfl ?_ ?_;rotate_left;·(intro w hSw;(skip);go_simp;try rfl)
      refine rdn 23 rfl (fun K hK=>?_)
      go_simp
      refine hK.out _ _ (b5) (fun hHeld=>?_)
      clear hK K
      refine wpAnyH_done (by kernel_rfl) ?_ _
      clear hHeld hrun b3 y4 f4 b5
      go_wp2
      go_end0
      exact ⟨rfl,FIN.out⟩
  ·have hlti:¬ (0:Int) < (n:Int):=by omega
   have FF:Hid (∃ vs3 vr3 vh3,SA Z w0 wr sb hb k (.slice qa nq qc) q (visV q k c R s) vs3 vr3 vh3):=END0.out wr vs2 vh2 hS hlt
   clear hS NX0 END0
   go_wp2
   go_rounds 1
   go_wp2
   go_end0
   exact ⟨rfl,FF.out⟩
 | false =>
  have hN0:N=min bud n:=hNb
  have hmn:min (bud:Int) (n:Int)=(N:Int):=by omega
  have hmn2:(if (bud:Int)<=(n:Int) then (bud:Int) else (n:Int))=(N:Int):=by split <;> omega
  have ST:Hid _:=ST0.out wr.drew (gb_trans G1.out (Below.refl _ _).drew)
  have c6:=cell_cur (i:=6) B1 rfl
  have cb:=C0.out wr.drew (gb_trans G1.out (Below.refl _ _).drew)
  have BD:wr.drew.heap[W.heap.size]? = some (.cells #[.int .i64 S,.slice al nl cl,.slice ah nh ch,.int .u64 rh,.int .u64 ro,.slice (some ⟨ib,io,none⟩) n ci,.slice (some ⟨g,o,none⟩) n cap] 100 (0,0)):=B1
  clear ST0 hNb hN0
  go_wp2_with fail
  refine wp_region_held_drew (S:=fun W2=>W2.heap[W.heap.size]? = some (.cells #[.int .i64 S,.slice al nl cl,.slice ah nh ch,.int .u64 rh,.int .u64 ro,.slice (some ⟨ib,io,none⟩) n ci,.slice (some ⟨g,o,none⟩) n cap] 100 (0,0))/\W2.cell? ⟨sb,2,none⟩=some (.int .i64 (bud:Int))) (by kernel_rfl) (⟨BD,cb⟩) (fun hHeld=>?_)
  refine tkn 0 ?_ rfl ?_ ?_;rotate_left;·(intro w hSw;(obtain ⟨hSw,cb⟩:=hSw;have c0:=cell_cur (i:=0) hSw rfl;have c1:=cell_cur (i:=1) hSw rfl;have c2:=cell_cur (i:=2) hSw rfl;have c3:=cell_cur (i:=3) hSw rfl;have c4:=cell_cur (i:=4) hSw rfl;have c5:=cell_cur (i:=5) hSw rfl;have c6:=cell_cur (i:=6) hSw rfl);go_simp;try rfl)
  refine tkn 1 ?_ rfl ?_ ?_;rotate_left;·(intro w hSw;(obtain ⟨hSw,cb⟩:=hSw;have c0:=cell_cur (i:=0) hSw rfl;have c1:=cell_cur (i:=1) hSw rfl;have c2:=cell_cur (i:=2) hSw rfl;have c3:=cell_cur (i:=3) hSw rfl;have c4:=cell_cur (i:=4) hSw rfl;have c5:=cell_cur (i:=5) hSw rfl;have c6:=cell_cur (i:=6) hSw rfl);go_simp;try rfl)
  refine tkn 2 ?_ rfl ?_ ?_;rotate_left;·(intro w hSw;(obtain ⟨hSw,cb⟩:=hSw;have c0:=cell_cur (i:=0) hSw rfl;have c1:=cell_cur (i:=1) hSw rfl;have c2:=cell_cur (i:=2) hSw rfl;have c3:=cell_cur (i:=3) hSw rfl;have c4:=cell_cur (i:=4) hSw rfl;have c5:=cell_cur (i:=5) hSw rfl;have c6:=cell_cur (i:=6) hSw rfl);go_simp;try rfl)
  refine tkn 3 ?_ rfl ?_ ?_;rotate_left;·(intro w hSw;(obtain ⟨hSw,cb⟩:=hSw;have c0:=cell_cur (i:=0) hSw rfl;have c1:=cell_cur (i:=1) hSw rfl;have c2:=cell_cur (i:=2) hSw rfl;have c3:=cell_cur (i:=3) hSw rfl;have c4:=cell_cur (i:=4) hSw rfl;have c5:=cell_cur (i:=5) hSw rfl;have c6:=cell_cur (i:=6) hSw rfl);go_simp;try rfl)
  refine tkn 4 ?_ rfl ?_ ?_;rotate_left;·(intro w hSw;(obtain ⟨hSw,cb⟩:=hSw;have c0:=cell_cur (i:=0) hSw rfl;have c1:=cell_cur (i:=1) hSw rfl;have c2:=cell_cur (i:=2) hSw rfl;have c3:=cell_cur (i:=3) hSw rfl;have c4:=cell_cur (i:=4) hSw rfl;have c5:=cell_cur (i:=5) hSw rfl;have c6:=cell_cur (i:=6) hSw rfl);go_simp;try rfl)
  refine tkn 5 ?_ rfl ?_ ?_;rotate_left;·(intro w hSw;(obtain ⟨hSw,cb⟩:=hSw;have c0:=cell_cur (i:=0) hSw rfl;have c1:=cell_cur (i:=1) hSw rfl;have c2:=cell_cur (i:=2) hSw rfl;have c3:=cell_cur (i:=3) hSw rfl;have c4:=cell_cur (i:=4) hSw rfl;have c5:=cell_cur (i:=5) hSw rfl;have c6:=cell_cur (i:=6) hSw rfl);go_simp;try rfl)
  refine tkn 6 ?_ rfl ?_ ?_;rotate_left;·(intro w hSw;(obtain ⟨hSw,cb⟩:=hSw;have c0:=cell_cur (i:=0) hSw rfl;have c1:=cell_cur (i:=1) hSw rfl;have c2:=cell_cur (i:=2) hSw rfl;have c3:=cell_cur (i:=3) hSw rfl;have c4:=cell_cur (i:=4) hSw rfl;have c5:=cell_cur (i:=5) hSw rfl;have c6:=cell_cur (i:=6) hSw rfl);go_simp;try rfl)
  refine tkn 7 ?_ rfl ?_ ?_;rotate_left;·(intro w hSw;(obtain ⟨hSw,cb⟩:=hSw;have c0:=cell_cur (i:=0) hSw rfl;have c1:=cell_cur (i:=1) hSw rfl;have c2:=cell_cur (i:=2) hSw rfl;have c3:=cell_cur (i:=3) hSw rfl;have c4:=cell_cur (i:=4) hSw rfl;have c5:=cell_cur (i:=5) hSw rfl;have c6:=cell_cur (i:=6) hSw rfl);go_simp;try rfl)
  refine tkn 8 ?_ rfl ?_ ?_;rotate_left;·(intro w hSw;(obtain ⟨hSw,cb⟩:=hSw;have c0:=cell_cur (i:=0) hSw rfl;have c1:=cell_cur (i:=1) hSw rfl;have c2:=cell_cur (i:=2) hSw rfl;have c3:=cell_cur (i:=3) hSw rfl;have c4:=cell_cur (i:=4) hSw rfl;have c5:=cell_cur (i:=5) hSw rfl;have c6:=cell_cur (i:=6) hSw rfl);go_simp;try rfl)
  refine wpAnyH_done (by kernel_rfl) ?_ _
  clear hHeld B1 cb
  have c6d:=cell_cur (i:=6) BD rfl
  have hNc:N<=cap:=by omega
  have hNci:(N:Int)<=(cap:Int):=by omega
  try simp only [pt]
  go_wp2_with fail
  go_loopw [24] (fun iv wr=>∃ j:Nat,iv=.int .i64 (j:Int)/\j<=N/\Hid (∃ vs2 vh2,SA Z w0 wr sb hb k (.slice qa nq qc) q ⟨s.seen ++ R.take j,bud - j,s.rest⟩ vs2 (.slice ra rn rc) vh2/\wr.heap[W.heap.size]? = some (.cells #[.int .i64 S,.slice al nl cl,.slice ah nh ch,.int .u64 rh,.int .u64 ro,.slice (some ⟨ib,io,none⟩) n ci,.slice (some ⟨g,o,none⟩) n cap] 100 (0,0)))) (fun iv _=>N - (intOf iv).toNat)
  case atStart=>exact ⟨0,rfl,Nat.zero_le _,ST⟩
  case round =>
   clear ST
   obtain ⟨j,rfl,hj,X⟩:=hrel
   obtain ⟨vs2,vh2,hS,bxr⟩:=X.out
   by_cases hjN:j < N
   ·have hji:(j:Int) < (N:Int):=by omega
    obtain ⟨x,au,nu,cu,k1,k2,LK⟩:=ROW.out j (by omega)
    have k1:=gb_keeps hS.gb k1
    have k2:=gb_keeps hS.gb k2
    have gR:Gb wr (wr.alloc (.cells #[.int .i64 x,.slice au nu cu] 45)):=gb_alloc (Below.refl _ _) _
    have cL:=LK wr _ vs2 vh2 hS gR hjN
    have BR:Hid (Ty (wr.alloc (.cells #[.int .i64 x,.slice au nu cu] 45)) W.heap.size 100/\(wr.alloc (.cells #[.int .i64 x,.slice au nu cu] 45)).heap[W.heap.size]? = some (.cells #[.int .i64 S,.slice al nl cl,.slice ah nh ch,.int .u64 rh,.int .u64 ro,.slice (some ⟨ib,io,none⟩) n ci,.slice (some ⟨g,o,none⟩) n cap] 100 (0,0))):=by
     have e:=(gR.block _ (Array.getElem?_eq_some_iff.1 bxr).1).trans bxr
     exact ⟨⟨_,_,e⟩,e⟩
    have hj5:j < 512:=by omega
    clear LK gR bxr hS X
    go_wp2_with fail
    go_fit cL
    rintro e w4 ⟨rfl,vs3,vh3,h3,f3⟩
    have X2:Hid (∃ vs2 vh2,SA Z w0 w4 sb hb k (.slice qa nq qc) q ⟨s.seen ++ R.take (j + 1),bud - (j + 1),s.rest⟩ vs2 (.slice ra rn rc) vh2/\w4.heap[W.heap.size]? = some (.cells #[.int .i64 S,.slice al nl cl,.slice ah nh ch,.int .u64 rh,.int .u64 ro,.slice (some ⟨ib,io,none⟩) n ci,.slice (some ⟨g,o,none⟩) n cap] 100 (0,0))):=⟨vs3,vh3,h3,(f3 _ _ BR.out.1 (by decide) (by decide) (by decide) (by decide) (by decide)).trans BR.out.2⟩
    clear cL h3 f3 BR k1 k2
    go_wp2
    go_roundw
    case rel=>exact ⟨j + 1,by first | rfl | go_num,by omega,X2⟩
    case measure=>simp [intOf];omega
   ·have hje:j=N:=by omega
    subst hje
    have hji:¬ (j:Int) < (j:Int):=by omega
    have c6:=cell_cur (i:=6) bxr rfl
    by_cases hlt:j < n
    ·have hlti:(j:Int) < (n:Int):=by omega
     have cX1:=C1.out
     have BG0:Gb wr wr.drew:=(Below.refl _ _).drew
     have tb:Ty wr W.heap.size 100:=⟨_,_,bxr⟩
     have tbd:Ty wr.drew W.heap.size 100:=⟨_,_,bxr⟩
     have NX:Hid (∀ (w1 w2:World) (v1 v3:Value),Own w1 wr.drew.heap.size v1 B.L->Gb wr.drew w1->Own w2 w1.heap.size v3 (B.I.drop j)->Gb w1 w2->∃ vb nv cv W3,(Builtin.append_ #[49,49] 49 #[.slice ra rn rc,.slice (some ⟨w2.heap.size,0,none⟩) 1 1]).run Tryz.prog (w2.alloc (.cells #[.int .i64 3,v1,.slice none 0 0,.int .u64 rh,.int .u64 ro,v3] 98))=.ok (.slice (some ⟨vb,0,none⟩) nv cv) W3/\W3.heap[W.heap.size]? = some (.cells #[.int .i64 S,.slice al nl cl,.slice ah nh ch,.int .u64 rh,.int .u64 ro,.slice (some ⟨ib,io,none⟩) n ci,.slice (some ⟨g,o,none⟩) n cap] 100 (0,0))/\(∃ y,W3.cell? ⟨sb,4,none⟩=some y)/\W3.frozen? ⟨sb,4,none⟩=false/\(W3.setCell ⟨sb,4,none⟩ (.slice (some ⟨vb,0,none⟩) nv cv)).heap[W.heap.size]? = some (.cells #[.int .i64 S,.slice al nl cl,.slice ah nh ch,.int .u64 rh,.int .u64 ro,.slice (some ⟨ib,io,none⟩) n ci,.slice (some ⟨g,o,none⟩) n cap] 100 (0,0))/\Hid (∃ vs3 vr3 vh3,SA Z w0 (W3.setCell ⟨sb,4,none⟩ (.slice (some ⟨vb,0,none⟩) nv cv)) sb hb k (.slice qa nq qc) q (visV q k c R s) vs3 vr3 vh3)):=fun w1 w2 v1 v3 o1 g1 o3 g2=>by
      obtain ⟨vb,nv,cv,W3,r1,r2,r3,r4,r5,r6⟩:=NX0.out wr.drew vs2 vh2 (hS.grow BG0) tbd hlt w1 w2 v1 v3 o1 g1 o3 g2
      exact ⟨vb,nv,cv,W3,r1,r2.trans bxr,r3,r4,r5.trans bxr,r6⟩
     have vr4:∀ W2,Gb wr.drew W2->W2.cell? ⟨sb,4,none⟩=some (.slice ra rn rc):=fun W2 g=>gb_keeps g hS.cells.2.2.2.2.1
     have sl0:sb < wr.heap.size:=(Array.getElem?_eq_some_iff.1 hS.blk).1
     have keepG:∀ {a b:World},Gb a b->a.heap[W.heap.size]? = some (.cells #[.int .i64 S,.slice al nl cl,.slice ah nh ch,.int .u64 rh,.int .u64 ro,.slice (some ⟨ib,io,none⟩) n ci,.slice (some ⟨g,o,none⟩) n cap] 100 (0,0))->b.heap[W.heap.size]? = some (.cells #[.int .i64 S,.slice al nl cl,.slice ah nh ch,.int .u64 rh,.int .u64 ro,.slice (some ⟨ib,io,none⟩) n ci,.slice (some ⟨g,o,none⟩) n cap] 100 (0,0)):=fun g e=>(g.block _ (Array.getElem?_eq_some_iff.1 e).1).trans e
     have FS10:wr.drew.heap[W.heap.size]? = some (.cells #[.int .i64 S,.slice al nl cl,.slice ah nh ch,.int .u64 rh,.int .u64 ro,.slice (some ⟨ib,io,none⟩) n ci,.slice (some ⟨g,o,none⟩) n cap] 100 (0,0)):=bxr
     have G00:=hS.gb.trans (BG0.mono hS.gb.size)
     have cX2:=C2.out hlt
     have hjci:¬ ci=j:=by omega
     have hjc2:(j:Int)<=(n:Int):=by omega
     have hjc3:j<=n:=by omega
     clear hS X ROW NX0 END0 bxr C0
     go_wp2_with fail
     refine wp_region_held_drew (S:=fun W2=>W2.heap[W.heap.size]? = some (.cells #[.int .i64 S,.slice al nl cl,.slice ah nh ch,.int .u64 rh,.int .u64 ro,.slice (some ⟨ib,io,none⟩) n ci,.slice (some ⟨g,o,none⟩) n cap] 100 (0,0))) (by kernel_rfl) (FS10) (fun hHeld=>?_)
     refine tkn 0 ?_ rfl ?_ ?_;rotate_left;·(intro w hSw;(have c0:=cell_cur (i:=0) hSw rfl;have c1:=cell_cur (i:=1) hSw rfl;have c2:=cell_cur (i:=2) hSw rfl;have c3:=cell_cur (i:=3) hSw rfl;have c4:=cell_cur (i:=4) hSw rfl;have c5:=cell_cur (i:=5) hSw rfl;have c6:=cell_cur (i:=6) hSw rfl);go_simp;try rfl)
     refine tkn 1 ?_ rfl ?_ ?_;rotate_left;·(intro w hSw;(have c0:=cell_cur (i:=0) hSw rfl;have c1:=cell_cur (i:=1) hSw rfl;have c2:=cell_cur (i:=2) hSw rfl;have c3:=cell_cur (i:=3) hSw rfl;have c4:=cell_cur (i:=4) hSw rfl;have c5:=cell_cur (i:=5) hSw rfl;have c6:=cell_cur (i:=6) hSw rfl);go_simp;try rfl)
     refine tkn 2 ?_ rfl ?_ ?_;rotate_left;·(intro w hSw;(have c0:=cell_cur (i:=0) hSw rfl;have c1:=cell_cur (i:=1) hSw rfl;have c2:=cell_cur (i:=2) hSw rfl;have c3:=cell_cur (i:=3) hSw rfl;have c4:=cell_cur (i:=4) hSw rfl;have c5:=cell_cur (i:=5) hSw rfl;have c6:=cell_cur (i:=6) hSw rfl);go_simp;try rfl)
     refine tkn 3 ?_ rfl ?_ ?_;rotate_left;·(intro w hSw;(have c0:=cell_cur (i:=0) hSw rfl;have c1:=cell_cur (i:=1) hSw rfl;have c2:=cell_cur (i:=2) hSw rfl;have c3:=cell_cur (i:=3) hSw rfl;have c4:=cell_cur (i:=4) hSw rfl;have c5:=cell_cur (i:=5) hSw rfl;have c6:=cell_cur (i:=6) hSw rfl);go_simp;try rfl)
     refine tkn 5 ?_ rfl ?_ ?_;rotate_left;·(intro w hSw;(have c0:=cell_cur (i:=0) hSw rfl;have c1:=cell_cur (i:=1) hSw rfl;have c2:=cell_cur (i:=2) hSw rfl;have c3:=cell_cur (i:=3) hSw rfl;have c4:=cell_cur (i:=4) hSw rfl;have c5:=cell_cur (i:=5) hSw rfl;have c6:=cell_cur (i:=6) hSw rfl);go_simp;try rfl)
     refine tkn 6 ?_ rfl ?_ ?_;rotate_left;·(intro w hSw;(have c0:=cell_cur (i:=0) hSw rfl;have c1:=cell_cur (i:=1) hSw rfl;have c2:=cell_cur (i:=2) hSw rfl;have c3:=cell_cur (i:=3) hSw rfl;have c4:=cell_cur (i:=4) hSw rfl;have c5:=cell_cur (i:=5) hSw rfl;have c6:=cell_cur (i:=6) hSw rfl);go_simp;try rfl)
     refine tkn 7 ?_ rfl ?_ ?_;rotate_left;·(intro w hSw;(have c0:=cell_cur (i:=0) hSw rfl;have c1:=cell_cur (i:=1) hSw rfl;have c2:=cell_cur (i:=2) hSw rfl;have c3:=cell_cur (i:=3) hSw rfl;have c4:=cell_cur (i:=4) hSw rfl;have c5:=cell_cur (i:=5) hSw rfl;have c6:=cell_cur (i:=6) hSw rfl);go_simp;try rfl)
     refine tkn 9 ?_ rfl ?_ ?_;rotate_left;·(intro w hSw;(have c0:=cell_cur (i:=0) hSw rfl;have c1:=cell_cur (i:=1) hSw rfl;have c2:=cell_cur (i:=2) hSw rfl;have c3:=cell_cur (i:=3) hSw rfl;have c4:=cell_cur (i:=4) hSw rfl;have c5:=cell_cur (i:=5) hSw rfl;have c6:=cell_cur (i:=6) hSw rfl);go_simp;try rfl)
     refine tkn 10 ?_ rfl ?_ ?_;rotate_left;·(intro w hSw;(have c0:=cell_cur (i:=0) hSw rfl;have c1:=cell_cur (i:=1) hSw rfl;have c2:=cell_cur (i:=2) hSw rfl;have c3:=cell_cur (i:=3) hSw rfl;have c4:=cell_cur (i:=4) hSw rfl;have c5:=cell_cur (i:=5) hSw rfl;have c6:=cell_cur (i:=6) hSw rfl);go_simp;try rfl)
     refine tkn 11 ?_ rfl ?_ ?_;rotate_left;·(intro w hSw;(have c0:=cell_cur (i:=0) hSw rfl;have c1:=cell_cur (i:=1) hSw rfl;have c2:=cell_cur (i:=2) hSw rfl;have c3:=cell_cur (i:=3) hSw rfl;have c4:=cell_cur (i:=4) hSw rfl;have c5:=cell_cur (i:=5) hSw rfl;have c6:=cell_cur (i:=6) hSw rfl);go_simp;try rfl)
     refine tkn 12 ?_ rfl ?_ ?_;rotate_left;·(intro w hSw;(have c0:=cell_cur (i:=0) hSw rfl;have c1:=cell_cur (i:=1) hSw rfl;have c2:=cell_cur (i:=2) hSw rfl;have c3:=cell_cur (i:=3) hSw rfl;have c4:=cell_cur (i:=4) hSw rfl;have c5:=cell_cur (i:=5) hSw rfl;have c6:=cell_cur (i:=6) hSw rfl);go_simp;try rfl)
     refine tkn 13 ?_ rfl ?_ ?_;rotate_left;·(intro w hSw;(have c0:=cell_cur (i:=0) hSw rfl;have c1:=cell_cur (i:=1) hSw rfl;have c2:=cell_cur (i:=2) hSw rfl;have c3:=cell_cur (i:=3) hSw rfl;have c4:=cell_cur (i:=4) hSw rfl;have c5:=cell_cur (i:=5) hSw rfl;have c6:=cell_cur (i:=6) hSw rfl);go_simp;try rfl)
     refine tkn 14 ?_ rfl ?_ ?_;rotate_left;·(intro w hSw;(have c0:=cell_cur (i:=0) hSw rfl;have c1:=cell_cur (i:=1) hSw rfl;have c2:=cell_cur (i:=2) hSw rfl;have c3:=cell_cur (i:=3) hSw rfl;have c4:=cell_cur (i:=4) hSw rfl;have c5:=cell_cur (i:=5) hSw rfl;have c6:=cell_cur (i:=6) hSw rfl);go_simp;try rfl)
     refine tkn 15 ?_ rfl ?_ ?_;rotate_left;·(intro w hSw;(have c0:=cell_cur (i:=0) hSw rfl;have c1:=cell_cur (i:=1) hSw rfl;have c2:=cell_cur (i:=2) hSw rfl;have c3:=cell_cur (i:=3) hSw rfl;have c4:=cell_cur (i:=4) hSw rfl;have c5:=cell_cur (i:=5) hSw rfl;have c6:=cell_cur (i:=6) hSw rfl);go_simp;try rfl)
     refine tkn 16 ?_ rfl ?_ ?_;rotate_left;·(intro w hSw;(have c0:=cell_cur (i:=0) hSw rfl;have c1:=cell_cur (i:=1) hSw rfl;have c2:=cell_cur (i:=2) hSw rfl;have c3:=cell_cur (i:=3) hSw rfl;have c4:=cell_cur (i:=4) hSw rfl;have c5:=cell_cur (i:=5) hSw rfl;have c6:=cell_cur (i:=6) hSw rfl);go_simp;try rfl)
     refine wpAnyH_ready (rs:=[4,8]) (by kernel_rfl) (by simp) ?_
     refine AllReadyH.cons rfl (fun K hK=>?_) (AllReadyH.cons rfl (fun K hK=>?_) AllReadyH.nil)
     ·have l4:=vr4 _ (Below.refl _ _)
      go_simp
      clear l4
      refine hK.out _ _ (hHeld) (fun hHeld=>?_)
      clear hK K
      refine rdn 8 rfl (fun K hK=>?_)
      go_simp
      go_fit (cX1 _ G00)
      rintro e w1 ⟨v1,rfl,o1,g1⟩
      obtain ⟨a1,n1,k1,rfl⟩:=(⟨_,_,_,(Classical.choose_spec (Classical.choose_spec o1.rd)).1⟩:∃ a n c,v1=.slice a n c)
      refine hK.out _ _ (keepG g1 hHeld) (fun hHeld=>?_)
      clear hK K
      refine rdn 17 rfl (fun K hK=>?_)
      go_simp
      go_fit (cX2 _ (gb_trans G00 g1))
      rintro e w2 ⟨v3,rfl,o3,g2⟩
      obtain ⟨a3,n3,k3,rfl⟩:=(⟨_,_,_,(Classical.choose_spec (Classical.choose_spec o3.rd)).1⟩:∃ a n c,v3=.slice a n c)
      obtain ⟨vb,nv,cv,W3,hrun,b3,⟨y5,y4⟩,f4,b5,FIN⟩:=NX.out w1 w2 _ _ o1 g1 o3 g2
      refine hK.out _ _ (keepG g2 hHeld) (fun hHeld=>?_)
      clear hK K
      refine tkn 18 ?_ rfl ?_ ?_;rotate_left;·(intro w hSw;(skip);go_simp;try rfl)
      refine rdn 19 rfl (fun K hK=>?_)
      go_simp
      refine hK.out _ _ (keepG (gb_alloc (Below.refl _ _) _) hHeld) (fun hHeld=>?_)
      clear hK K
      refine rdn 20 rfl (fun K hK=>?_)
      refine app_run (by rfl) _ _ _ (by rfl) ⟨.slice ra rn rc,.slice (some ⟨w2.heap.size,0,none⟩) 1 1,_,_,(by go_simp),(by go_simp),hrun,?_⟩
      refine hK.out _ _ (b3) (fun hHeld=>?_)
      clear hK K
      refine tkn 21 ?_ rfl ?_ ?_;rotate_left;·(intro w hSw;(skip);go_simp;try rfl)
      refine tkn 22 ?_ rfl ?_ ?_;rotate_left;·(intro w hSw;(skip);go_simp;try rfl)
      refine rdn 23 rfl (fun K hK=>?_)
      go_simp
      refine hK.out _ _ (b5) (fun hHeld=>?_)
      clear hK K
      refine wpAnyH_done (by kernel_rfl) ?_ _
      clear hHeld hrun b3 y4 f4 b5
      go_wp2
      go_end0
      exact ⟨rfl,FIN.out⟩
     ·go_simp
      go_fit (cX1 _ G00)
      rintro e w1 ⟨v1,rfl,o1,g1⟩
      obtain ⟨a1,n1,k1,rfl⟩:=(⟨_,_,_,(Classical.choose_spec (Classical.choose_spec o1.rd)).1⟩:∃ a n c,v1=.slice a n c)
      refine hK.out _ _ (keepG g1 hHeld) (fun hHeld=>?_)
      clear hK K
      refine wpAnyH_ready (rs:=[4,17]) (by kernel_rfl) (by simp) ?_
      refine AllReadyH.cons rfl (fun K hK=>?_) (AllReadyH.cons rfl (fun K hK=>?_) AllReadyH.nil)
      ·have l4:=vr4 _ g1
       go_simp
       clear l4
       refine hK.out _ _ (hHeld) (fun hHeld=>?_)
       clear hK K
       refine rdn 17 rfl (fun K hK=>?_)
       go_simp
       go_fit (cX2 _ (gb_trans G00 g1))
       rintro e w2 ⟨v3,rfl,o3,g2⟩
       obtain ⟨a3,n3,k3,rfl⟩:=(⟨_,_,_,(Classical.choose_spec (Classical.choose_spec o3.rd)).1⟩:∃ a n c,v3=.slice a n c)
       obtain ⟨vb,nv,cv,W3,hrun,b3,⟨y5,y4⟩,f4,b5,FIN⟩:=NX.out w1 w2 _ _ o1 g1 o3 g2
       refine hK.out _ _ (keepG g2 hHeld) (fun hHeld=>?_)
       clear hK K
       refine tkn 18 ?_ rfl ?_ ?_;rotate_left;·(intro w hSw;(skip);go_simp;try rfl)
       refine rdn 19 rfl (fun K hK=>?_)
       go_simp
       refine hK.out _ _ (keepG (gb_alloc (Below.refl _ _) _) hHeld) (fun hHeld=>?_)
       clear hK K
       refine rdn 20 rfl (fun K hK=>?_)
       refine app_run (by rfl) _ _ _ (by rfl) ⟨.slice ra rn rc,.slice (some ⟨w2.heap.size,0,none⟩) 1 1,_,_,(by go_simp),(by go_simp),hrun,?_⟩
       refine hK.out _ _ (b3) (fun hHeld=>?_)
       clear hK K
       refine tkn 21 ?_ rfl ?_ ?_;rotate_left;·(intro w hSw;(skip);go_simp;try rfl)
       refine tkn 22 ?_ rfl ?_ ?_;rotate_left;·(intro w hSw;(skip);go_simp;try rfl)
       refine rdn 23 rfl (fun K hK=>?_)
       go_simp
       refine hK.out _ _ (b5) (fun hHeld=>?_)
       clear hK K
       refine wpAnyH_done (by kernel_rfl) ?_ _
       clear hHeld hrun b3 y4 f4 b5
       go_wp2
       go_end0
       exact ⟨rfl,FIN.out⟩
      ·go_simp
       go_fit (cX2 _ (gb_trans G00 g1))
       rintro e w2 ⟨v3,rfl,o3,g2⟩
       obtain ⟨a3,n3,k3,rfl⟩:=(⟨_,_,_,(Classical.choose_spec (Classical.choose_spec o3.rd)).1⟩:∃ a n c,v3=.slice a n c)
       obtain ⟨vb,nv,cv,W3,hrun,b3,⟨y5,y4⟩,f4,b5,FIN⟩:=NX.out w1 w2 _ _ o1 g1 o3 g2
       refine hK.out _ _ (keepG g2 hHeld) (fun hHeld=>?_)
       clear hK K
       refine tkn 18 ?_ rfl ?_ ?_;rotate_left;·(intro w hSw;(skip);go_simp;try rfl)
       refine wpAnyH_ready (rs:=[4,19]) (by kernel_rfl) (by simp) ?_
       refine AllReadyH.cons rfl (fun K hK=>?_) (AllReadyH.cons rfl (fun K hK=>?_) AllReadyH.nil)
       ·have l4:=vr4 _ (gb_trans g1 g2)
        go_simp
        clear l4
        refine hK.out _ _ (hHeld) (fun hHeld=>?_)
        clear hK K
        refine rdn 19 rfl (fun K hK=>?_)
        go_simp
        refine hK.out _ _ (keepG (gb_alloc (Below.refl _ _) _) hHeld) (fun hHeld=>?_)
        clear hK K
        refine rdn 20 rfl (fun K hK=>?_)
        refine app_run (by rfl) _ _ _ (by rfl) ⟨.slice ra rn rc,.slice (some ⟨w2.heap.size,0,none⟩) 1 1,_,_,(by go_simp),(by go_simp),hrun,?_⟩
        refine hK.out _ _ (b3) (fun hHeld=>?_)
        clear hK K
        refine tkn 21 ?_ rfl ?_ ?_;rotate_left;·(intro w hSw;(skip);go_simp;try rfl)
        refine tkn 22 ?_ rfl ?_ ?_;rotate_left;·(intro w hSw;(skip);go_simp;try rfl)
        refine rdn 23 rfl (fun K hK=>?_)
        go_simp
        refine hK.out _ _ (b5) (fun hHeld=>?_)
        clear hK K
        refine wpAnyH_done (by kernel_rfl) ?_ _
        clear hHeld hrun b3 y4 f4 b5
        go_wp2
        go_end0
        exact ⟨rfl,FIN.out⟩
       ·go_simp
        refine hK.out _ _ (keepG (gb_alloc (Below.refl _ _) _) hHeld) (fun hHeld=>?_)
        clear hK K
        refine rdn 4 rfl (fun K hK=>?_)
        have l4:=vr4 (w2.alloc (.cells #[.int .i64 3,.slice a1 n1 k1,.slice none 0 0,.int .u64 rh,.int .u64 ro,.slice a3 n3 k3] 98)) (gb_alloc (gb_trans g1 g2) _)
        go_simp
        clear l4
        refine hK.out _ _ (hHeld) (fun hHeld=>?_)
        clear hK K
        refine rdn 20 rfl (fun K hK=>?_)
        refine app_run (by rfl) _ _ _ (by rfl) ⟨.slice ra rn rc,.slice (some ⟨w2.heap.size,0,none⟩) 1 1,_,_,(by go_simp),(by go_simp),hrun,?_⟩
        refine hK.out _ _ (b3) (fun hHeld=>?_)
        clear hK K
        refine tkn 21 ?_ rfl ?_ ?_;rotate_left;·(intro w hSw;(skip);go_simp;try rfl)
        refine tkn 22 ?_ rfl ?_ ?_;rotate_left;·(intro w hSw;(skip);go_simp;try rfl)
        refine rdn 23 rfl (fun K hK=>?_)
        go_simp
        refine hK.out _ _ (b5) (fun hHeld=>?_)
        clear hK K
        refine wpAnyH_done (by kernel_rfl) ?_ _
        clear hHeld hrun b3 y4 f4 b5
        go_wp2
        go_end0
        exact ⟨rfl,FIN.out⟩
    ·have hlti:¬ (j:Int) < (n:Int):=by omega
     have FF:Hid (∃ vs3 vr3 vh3,SA Z w0 wr sb hb k (.slice qa nq qc) q (visV q k c R s) vs3 vr3 vh3):=END0.out wr vs2 vh2 hS hlt
     clear hS X ROW NX0 END0
     go_wp2
     go_end0
     exact ⟨rfl,FF.out⟩
end Go.Proofs.YtcipdampcmfmaabGreat
