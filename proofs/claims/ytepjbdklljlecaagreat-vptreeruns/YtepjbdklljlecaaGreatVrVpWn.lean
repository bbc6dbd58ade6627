import Derived.Test.YtepjbdklljlecaaGreatVr26
import Derived.Test.YtepjbdklljlecaaGreatVr5
namespace Go.Proofs.YtepjbdklljlecaaGreat
open Go.RowKit Go.Sort
set_option maxRecDepth 100000
set_option maxHeartbeats 2000000
theorem wo_near {Iq:Nat->Prop} {m leaf tb sb n:Nat} {x:Rt} (ih:∀ (w:World) (b:Nat) (F:List Nat) (T:Nat->Pt),TrO Iq w T (n + 1) b F->OkP T m n (T b)->F.Nodup->tb ∉ F->sb ∉ F->w.cell? ⟨tb,1,none⟩=some (.int .i64 (leaf:Int))->w.cell? ⟨tb,2,none⟩=some (.pointer (some ⟨sb,0,none⟩))->SrcAt w sb->OwnQ Iq w x.2.1 x.2.2->rwR x ∈ rowsP T n (T b)->RowsOk (rowsP T n (T b)) (m:Int)->Calls Tryz.prog 85 #[.pointer (some ⟨tb,0,none⟩),.pointer (some ⟨b,0,none⟩),.agg #[.int .i64 x.1,x.2.1]] w fun e w'=>RmOut Iq w sb m F (aft false (rwR x) (rowsP T n (T b))) e w')
  (hcx:chk x.2.2 (m:Int)=0) {w:World} {b l h:Nat} {F:List Nat} {T:Nat->Pt} (ht:TrO Iq w T (n + 1 + 1) b F) (ok:OkP T m (n + 1) (T b)) (hk:(T b).kids=some (l,h)) (hnd:F.Nodup) (htb:tb ∉ F) (hsb:sb ∉ F)
  (c1:w.cell? ⟨tb,1,none⟩=some (.int .i64 (leaf:Int))) (c2:w.cell? ⟨tb,2,none⟩=some (.pointer (some ⟨sb,0,none⟩))) (hS:SrcAt w sb) (hv:OwnQ Iq w x.2.1 x.2.2) (hx:rwR x ∈ rowsP T (n + 1) (T b)) (h1:RowsOk (rowsP T (n + 1) (T b)) (m:Int)) (hab:isAb (T b) (rwR x)=true) :
  Calls Tryz.prog 85 #[.pointer (some ⟨tb,0,none⟩),.pointer (some ⟨b,0,none⟩),.agg #[.int .i64 x.1,x.2.1]] w fun e w'=>RmOut Iq w sb m F (aft false (rwR x) (rowsP T (n + 1) (T b))) e w':=by
 obtain ⟨vl,vh,vr,hp,ht⟩:=ht
 rw [hk] at ht
 obtain ⟨rfl,F1,F2,t1,t2,rfl⟩:=ht
 obtain ⟨n',en,ok1,ok2,ok3,oa1,oa2⟩:=okP_node hk ok
 have en':n=n':=by omega
 subst en'
 rw [rowsP_node hk] at hx h1 ⊢
 have hs:rwR x ∈ rowsP T n (T l):=by
  rcases List.mem_append.1 hx with h | h
  ·exact h
  ·rw [oa2 _ h] at hab;cases hab
 have hb:bef false (rwR x) (rowsP T n (T l) ++ rowsP T n (T h)):=⟨h1.ids,by rw [if_neg (by decide)];exact hx⟩
 obtain ⟨_,pm⟩:=aft_left hb (fun _=>hs)
 have r1:=h1.sub (List.sublist_append_left _ _)
 have hnd2:=hnd
 rw [List.nodup_cons,List.nodup_append] at hnd2
 have ALT:=fun w1 w2 e g1 hO=>alt_near (w1:=w1) (w2:=w2) (e:=e) hp hk t1 t2 ok hnd hS hsb pm g1 hO
 have hrd:=hv.rd
 obtain ⟨xi,u,xl⟩:=x
 obtain ⟨ua,uc,eu,_⟩:=hv.rd
 dsimp only at eu hrd hcx
 subst eu
 dsimp only at hab ih hs hx r1 pm ALT
 generalize hnx:xl.length=nx at *
 have gA:Gb w (w.alloc (.cells #[.int .i64 xi,.slice ua nx uc] 43)):=gb_alloc (Below.refl _ _) _
 have gD:=gA.drew
 have cI:=isCut_c (hp.gb gA)
 rw [hk] at cI
 have kC:chk (T b).reg.L (m:Int)=0:=by
  have:=(ckR_ok ok3.1).2.1
  exact this (by show (T b).reg.S=3;rw [hp.ball.1])
 have cH:=hit_c (xi:=xi) (gb_keeps gD (cell_cur (i:=1) hp.blk rfl)) (hp.low.rd.gb gD) (hrd.gb gD) kC hcx
 have cL:=fun w=>Tk.less_c (hitOf (T b).reg.L (xi,xl)) (T b).cut w
 rw [show Tk.hlt (hitOf (T b).reg.L (xi,xl)) (T b).cut=true from hab] at cL
 have z7:=gb_keeps gD (cell_cur (i:=7) hp.blk rfl)
 have z8:=gb_keeps gD (cell_cur (i:=8) hp.blk rfl)
 have z9:=gb_keeps gD (cell_cur (i:=9) hp.blk rfl)
 have IHX:Hid (∀ w1,Gb (w.alloc (.cells #[.int .i64 xi,.slice ua nx uc] 43)).drew w1->Calls Tryz.prog 85 #[.pointer (some ⟨tb,0,none⟩),.pointer (some ⟨l,0,none⟩),.agg #[.int .i64 xi,.slice ua nx uc]] w1.drew fun e w'=>RmOut Iq w1.drew sb m F1 (aft false (xi,xl) (rowsP T n (T l))) e w'):=fun w1 g=>by
  have g2:=gb_trans gD g.drew
  exact ih w1.drew l F1 T (t1.gb g2) ok1 hnd2.2.1 (fun e=>htb (List.mem_cons_of_mem _ (List.mem_append_left _ e))) (fun e=>hsb (List.mem_cons_of_mem _ (List.mem_append_left _ e))) (gb_keeps g2 c1) (gb_keeps g2 c2) (hS.gb g2) (hv.gb g2) hs r1
 have HRX:Hid (∀ w1,Gb (w.alloc (.cells #[.int .i64 xi,.slice ua nx uc] 43)).drew w1->∀ e w2,RmOut Iq w1.drew sb m F1 (aft false (xi,xl) (rowsP T n (T l))) e w2->∃ pv,e=.returned (.pointer pv)/\Hid (Alt_near Iq w w2 sb m b h (b :: (F1 ++ F2)) (aft false (xi,xl) (rowsP T n (T l) ++ rowsP T n (T h))) pv)/\w2.cell? ⟨b,10,none⟩=some (.pointer (some ⟨l,0,none⟩))/\w2.frozen? ⟨b,10,none⟩=false/\∀ i y,w1.drew.cell? ⟨w.heap.size,i,none⟩=some y->w2.cell? ⟨w.heap.size,i,none⟩=some y):=fun w1 g e w2 hO=>by
  obtain ⟨pv,e1,a,c,f,k⟩:=ALT w1.drew w2 e (gb_trans gD g.drew) hO
  exact ⟨pv,e1,a,c,f,fun i y h=>k _ _ (Nat.le_refl _) h⟩
 have C6:Hid (∀ w1,Gb (w.alloc (.cells #[.int .i64 xi,.slice ua nx uc] 43)).drew w1->w1.drew.cell? ⟨b,10,none⟩=some (.pointer (some ⟨l,0,none⟩))):=fun w1 g=>by
  have:=gb_keeps (gb_trans gD g.drew) (cell_cur (i:=10) hp.blk rfl)
  rw [hk] at this
  exact this
 have bl:=(Array.getElem?_eq_some_iff.1 hp.blk).1
 have SC:Hid (∀ (W:World) (u:Value) i {y},W.cell? ⟨w.heap.size,i,none⟩=some y->(W.setCell ⟨b,10,none⟩ u).cell? ⟨w.heap.size,i,none⟩=some y):=fun W u i y hy=>((Tk.Kp.refl (fun k=>k=b) _).setCell (.inl rfl) u).cell hy (by intro e;dsimp only at e;omega)
 obtain ⟨ht,hht⟩:∃ ht,ht=hitOf (T b).reg.L (xi,xl):=⟨_,rfl⟩
 rw [<- hht] at cH cL
 obtain ⟨k,hkk⟩:∃ k,k=(T b).cut:=⟨_,rfl⟩
 rw [<- hkk] at cL z7 z8 z9
 obtain ⟨q1,q2,q3⟩:=ht
 obtain ⟨k1,k2,k3⟩:=k
 dsimp only [Tk.hv,Tk.Ht.id,Tk.Ht.hi,Tk.Ht.lo] at cH cL z7 z8 z9
 generalize aft false (xi,xl) (rowsP T n (T l))=RK at *
 generalize aft false (xi,xl) (rowsP T n (T l) ++ rowsP T n (T h))=RR at *
 have FS5:(fun W=>W.cell? ⟨b,7,none⟩=some (.int .i64 k1)/\W.cell? ⟨b,8,none⟩=some (.int .u64 k2)/\W.cell? ⟨b,9,none⟩=some (.int .u64 k3)/\W.cell? ⟨w.heap.size,0,none⟩=some (.int .i64 xi)/\W.cell? ⟨w.heap.size,1,none⟩=some (.slice ua nx uc)) (w.alloc (.cells #[.int .i64 xi,.slice ua nx uc] 43)).drew:=⟨z7,z8,z9,by simp [go_sem],by simp [go_sem]⟩
 clear z7 z8 z9 hnx hcx ih hp t1 t2 ok1 ok2 ok3 oa1 oa2 hnd hnd2 htb hsb hv hb h1 hab hs r1 pm ALT hrd gA gD hk ok kC hht hkk c1 c2 hS hx
 go_enter Tryz.func85,Tryz.ntmps85
 go_wp2_with fail
 go_fit cI
 rintro e w0 ⟨rfl,rfl⟩
 clear cI
 go_wp2_with fail
 refine wp_region_held_drew (S:=fun W=>W.cell? ⟨b,7,none⟩=some (.int .i64 k1)/\W.cell? ⟨b,8,none⟩=some (.int .u64 k2)/\W.cell? ⟨b,9,none⟩=some (.int .u64 k3)/\W.cell? ⟨w.heap.size,0,none⟩=some (.int .i64 xi)/\W.cell? ⟨w.heap.size,1,none⟩=some (.slice ua nx uc)) (by kernel_rfl) (FS5) (fun hHeld=>?_)
 refine tkn 0 ?_ rfl ?_ ?_;rotate_left;·(rintro w ⟨s0,s1,s2,s3,s4⟩;go_simp;try rfl)
 refine tkn 1 ?_ rfl ?_ ?_;rotate_left;·(rintro w ⟨s0,s1,s2,s3,s4⟩;go_simp;try rfl)
 refine tkn 3 ?_ rfl ?_ ?_;rotate_left;·(rintro w ⟨s0,s1,s2,s3,s4⟩;go_simp;try rfl)
 refine tkn 4 ?_ rfl ?_ ?_;rotate_left;·(rintro w ⟨s0,s1,s2,s3,s4⟩;go_simp;try rfl)
 refine tkn 5 ?_ rfl ?_ ?_;rotate_left;·(rintro w ⟨s0,s1,s2,s3,s4⟩;go_simp;try rfl)
 refine tkn 6 ?_ rfl ?_ ?_;rotate_left;·(rintro w ⟨s0,s1,s2,s3,s4⟩;go_simp;try rfl)
 refine rdn 2 rfl (fun K hK=>?_)
 go_simp
 go_fit cH
 rintro e w1 ⟨rfl,gA1⟩
 dsimp only [Tk.hv,Tk.Ht.id,Tk.Ht.hi,Tk.Ht.lo]
 refine hK.out _ _ (⟨gb_keeps gA1 hHeld.1,gb_keeps gA1 hHeld.2.1,gb_keeps gA1 hHeld.2.2.1,gb_keeps gA1 hHeld.2.2.2.1,gb_keeps gA1 hHeld.2.2.2.2⟩) (fun hHeld=>?_)
 clear hK K
 refine rdn 7 rfl (fun K hK=>?_)
 go_simp
 go_fit (cL w1)
 rintro e w1' ⟨rfl,gA2⟩
 refine hK.out _ _ (⟨gb_keeps gA2.gr hHeld.1,gb_keeps gA2.gr hHeld.2.1,gb_keeps gA2.gr hHeld.2.2.1,gb_keeps gA2.gr hHeld.2.2.2.1,gb_keeps gA2.gr hHeld.2.2.2.2⟩) (fun hHeld=>?_)
 clear hK K
 refine tkn 8 ?_ rfl ?_ ?_;rotate_left;·(rintro w ⟨s0,s1,s2,s3,s4⟩;go_simp;try rfl)
 refine wpAnyH_done (by kernel_rfl) ?_ _
 have gX:=gb_trans gA1 gA2.gr
 have cC:=IHX.out _ gX
 have HR:Hid _:=HRX.out _ gX
 have c6:=C6.out _ gX
 have FS6:(fun W=>W.cell? ⟨w.heap.size,0,none⟩=some (.int .i64 xi)/\W.cell? ⟨w.heap.size,1,none⟩=some (.slice ua nx uc)) w1'.drew:=⟨hHeld.2.2.2.1,hHeld.2.2.2.2⟩
 clear hHeld IHX HRX C6 FS5 cH cL gA1 gA2 gX
 go_wp2_with fail
 refine wp_region_held_drew (S:=fun W=>W.cell? ⟨w.heap.size,0,none⟩=some (.int .i64 xi)/\W.cell? ⟨w.heap.size,1,none⟩=some (.slice ua nx uc)) (by kernel_rfl) (FS6) (fun hHeld=>?_)
 refine tkn 0 ?_ rfl ?_ ?_;rotate_left;·(rintro w ⟨s0,s1⟩;go_simp;try rfl)
 refine tkn 1 ?_ rfl ?_ ?_;rotate_left;·(rintro w ⟨s0,s1⟩;go_simp;try rfl)
 refine tkn 2 ?_ rfl ?_ ?_;rotate_left;·(rintro w ⟨s0,s1⟩;go_simp;try rfl)
 refine tkn 3 ?_ rfl ?_ ?_;rotate_left;·(rintro w ⟨s0,s1⟩;go_simp;try rfl)
 refine tkn 4 ?_ rfl ?_ ?_;rotate_left;·(rintro w ⟨s0,s1⟩;go_simp;try rfl)
 refine tkn 6 ?_ rfl ?_ ?_;rotate_left;·(rintro w ⟨s0,s1⟩;go_simp;try rfl)
 refine rdn 5 rfl (fun K hK=>?_)
 go_simp
 refine hK.out _ _ (⟨hHeld.1,hHeld.2⟩) (fun hHeld=>?_)
 clear hK K
 refine rdn 7 rfl (fun K hK=>?_)
 go_simp
 go_fit cC
 rintro e w2 hO
 obtain ⟨pv,rfl,NN,k10,f10,kk⟩:=HR.out _ _ hO
 clear hO cC HR
 refine hK.out _ _ (⟨kk _ _ hHeld.1,kk _ _ hHeld.2⟩) (fun hHeld=>?_)
 clear hK K
 refine tkn 8 ?_ rfl ?_ ?_;rotate_left;·(rintro w ⟨s0,s1⟩;go_simp;try rfl)
 refine tkn 9 ?_ rfl ?_ ?_;rotate_left;·(rintro w ⟨s0,s1⟩;go_simp;try rfl)
 refine rdn 10 rfl (fun K hK=>?_)
 go_simp
 refine hK.out _ _ (⟨SC.out _ _ _ hHeld.1,SC.out _ _ _ hHeld.2⟩) (fun hHeld=>?_)
 clear hK K
 refine wpAnyH_done (by kernel_rfl) ?_ _
 rcases NN.out with ⟨rfl,d10,d11,FN⟩ | ⟨b',rfl,d10,d11,FN⟩
 ·have FN2:Hid _:=FN
  clear FN NN SC kk hHeld FS6 c6 k10 f10
  go_wp2
  go_ret
  exact FN2.out
 ·have FN2:Hid _:=FN
  clear FN NN SC kk hHeld FS6 c6 k10 f10
  go_wp2
  go_ret
  exact FN2.out
theorem wo_far {Iq:Nat->Prop} {m leaf tb sb n:Nat} {x:Rt} (ih:∀ (w:World) (b:Nat) (F:List Nat) (T:Nat->Pt),TrO Iq w T (n + 1) b F->OkP T m n (T b)->F.Nodup->tb ∉ F->sb ∉ F->w.cell? ⟨tb,1,none⟩=some (.int .i64 (leaf:Int))->w.cell? ⟨tb,2,none⟩=some (.pointer (some ⟨sb,0,none⟩))->SrcAt w sb->OwnQ Iq w x.2.1 x.2.2->rwR x ∈ rowsP T n (T b)->RowsOk (rowsP T n (T b)) (m:Int)->Calls Tryz.prog 85 #[.pointer (some ⟨tb,0,none⟩),.pointer (some ⟨b,0,none⟩),.agg #[.int .i64 x.1,x.2.1]] w fun e w'=>RmOut Iq w sb m F (aft false (rwR x) (rowsP T n (T b))) e w')
  (hcx:chk x.2.2 (m:Int)=0) {w:World} {b l h:Nat} {F:List Nat} {T:Nat->Pt} (ht:TrO Iq w T (n + 1 + 1) b F) (ok:OkP T m (n + 1) (T b)) (hk:(T b).kids=some (l,h)) (hnd:F.Nodup) (htb:tb ∉ F) (hsb:sb ∉ F)
  (c1:w.cell? ⟨tb,1,none⟩=some (.int .i64 (leaf:Int))) (c2:w.cell? ⟨tb,2,none⟩=some (.pointer (some ⟨sb,0,none⟩))) (hS:SrcAt w sb) (hv:OwnQ Iq w x.2.1 x.2.2) (hx:rwR x ∈ rowsP T (n + 1) (T b)) (h1:RowsOk (rowsP T (n + 1) (T b)) (m:Int)) (hab:isAb (T b) (rwR x)=false) :
  Calls Tryz.prog 85 #[.pointer (some ⟨tb,0,none⟩),.pointer (some ⟨b,0,none⟩),.agg #[.int .i64 x.1,x.2.1]] w fun e w'=>RmOut Iq w sb m F (aft false (rwR x) (rowsP T (n + 1) (T b))) e w':=by
 obtain ⟨vl,vh,vr,hp,ht⟩:=ht
 rw [hk] at ht
 obtain ⟨rfl,F1,F2,t1,t2,rfl⟩:=ht
 obtain ⟨n',en,ok1,ok2,ok3,oa1,oa2⟩:=okP_node hk ok
 have en':n=n':=by omega
 subst en'
 rw [rowsP_node hk] at hx h1 ⊢
 have hs:rwR x ∈ rowsP T n (T h):=by
  rcases List.mem_append.1 hx with h | h
  ·rw [oa1 _ h] at hab;cases hab
  ·exact h
 have hb:bef false (rwR x) (rowsP T n (T l) ++ rowsP T n (T h)):=⟨h1.ids,by rw [if_neg (by decide)];exact hx⟩
 obtain ⟨_,pm⟩:=aft_right hb (fun _=>hs)
 have r1:=h1.sub (List.sublist_append_right _ _)
 have hnd2:=hnd
 rw [List.nodup_cons,List.nodup_append] at hnd2
 have ALT:=fun w1 w2 e g1 hO=>alt_far (w1:=w1) (w2:=w2) (e:=e) hp hk t1 t2 ok hnd hS hsb pm g1 hO
 have hrd:=hv.rd
 obtain ⟨xi,u,xl⟩:=x
 obtain ⟨ua,uc,eu,_⟩:=hv.rd
 dsimp only at eu hrd hcx
 subst eu
 dsimp only at hab ih hs hx r1 pm ALT
 generalize hnx:xl.length=nx at *
 have gA:Gb w (w.alloc (.cells #[.int .i64 xi,.slice ua nx uc] 43)):=gb_alloc (Below.refl _ _) _
 have gD:=gA.drew
 have cI:=isCut_c (hp.gb gA)
 rw [hk] at cI
 have kC:chk (T b).reg.L (m:Int)=0:=by
  have:=(ckR_ok ok3.1).2.1
  exact this (by show (T b).reg.S=3;rw [hp.ball.1])
 have cH:=hit_c (xi:=xi) (gb_keeps gD (cell_cur (i:=1) hp.blk rfl)) (hp.low.rd.gb gD) (hrd.gb gD) kC hcx
 have cL:=fun w=>Tk.less_c (hitOf (T b).reg.L (xi,xl)) (T b).cut w
 rw [show Tk.hlt (hitOf (T b).reg.L (xi,xl)) (T b).cut=false from hab] at cL
 have z7:=gb_keeps gD (cell_cur (i:=7) hp.blk rfl)
 have z8:=gb_keeps gD (cell_cur (i:=8) hp.blk rfl)
 have z9:=gb_keeps gD (cell_cur (i:=9) hp.blk rfl)
 have IHX:Hid (∀ w1,Gb (w.alloc (.cells #[.int .i64 xi,.slice ua nx uc] 43)).drew w1->Calls Tryz.prog 85 #[.pointer (some ⟨tb,0,none⟩),.pointer (some ⟨h,0,none⟩),.agg #[.int .i64 xi,.slice ua nx uc]] w1.drew fun e w'=>RmOut Iq w1.drew sb m F2 (aft false (xi,xl) (rowsP T n (T h))) e w'):=fun w1 g=>by
  have g2:=gb_trans gD g.drew
  exact ih w1.drew h F2 T (t2.gb g2) ok2 hnd2.2.2.1 (fun e=>htb (List.mem_cons_of_mem _ (List.mem_append_right _ e))) (fun e=>hsb (List.mem_cons_of_mem _ (List.mem_append_right _ e))) (gb_keeps g2 c1) (gb_keeps g2 c2) (hS.gb g2) (hv.gb g2) hs r1
 have HRX:Hid (∀ w1,Gb (w.alloc (.cells #[.int .i64 xi,.slice ua nx uc] 43)).drew w1->∀ e w2,RmOut Iq w1.drew sb m F2 (aft false (xi,xl) (rowsP T n (T h))) e w2->∃ pv,e=.returned (.pointer pv)/\Hid (Alt_far Iq w w2 sb m b l (b :: (F1 ++ F2)) (aft false (xi,xl) (rowsP T n (T l) ++ rowsP T n (T h))) pv)/\w2.cell? ⟨b,11,none⟩=some (.pointer (some ⟨h,0,none⟩))/\w2.frozen? ⟨b,11,none⟩=false/\∀ i y,w1.drew.cell? ⟨w.heap.size,i,none⟩=some y->w2.cell? ⟨w.heap.size,i,none⟩=some y):=fun w1 g e w2 hO=>by
  obtain ⟨pv,e1,a,c,f,k⟩:=ALT w1.drew w2 e (gb_trans gD g.drew) hO
  exact ⟨pv,e1,a,c,f,fun i y h=>k _ _ (Nat.le_refl _) h⟩
 have C6:Hid (∀ w1,Gb (w.alloc (.cells #[.int .i64 xi,.slice ua nx uc] 43)).drew w1->w1.drew.cell? ⟨b,11,none⟩=some (.pointer (some ⟨h,0,none⟩))):=fun w1 g=>by
  have:=gb_keeps (gb_trans gD g.drew) (cell_cur (i:=11) hp.blk rfl)
  rw [hk] at this
  exact this
 have bl:=(Array.getElem?_eq_some_iff.1 hp.blk).1
 have SC:Hid (∀ (W:World) (u:Value) i {y},W.cell? ⟨w.heap.size,i,none⟩=some y->(W.setCell ⟨b,11,none⟩ u).cell? ⟨w.heap.size,i,none⟩=some y):=fun W u i y hy=>((Tk.Kp.refl (fun k=>k=b) _).setCell (.inl rfl) u).cell hy (by intro e;dsimp only at e;omega)
 obtain ⟨ht,hht⟩:∃ ht,ht=hitOf (T b).reg.L (xi,xl):=⟨_,rfl⟩
 rw [<- hht] at cH cL
 obtain ⟨k,hkk⟩:∃ k,k=(T b).cut:=⟨_,rfl⟩
 rw [<- hkk] at cL z7 z8 z9
 obtain ⟨q1,q2,q3⟩:=ht
 obtain ⟨k1,k2,k3⟩:=k
 dsimp only [Tk.hv,Tk.Ht.id,Tk.Ht.hi,Tk.Ht.lo] at cH cL z7 z8 z9
 generalize aft false (xi,xl) (rowsP T n (T h))=RK at *
 generalize aft false (xi,xl) (rowsP T n (T l) ++ rowsP T n (T h))=RR at *
 have FS5:(fun W=>W.cell? ⟨b,7,none⟩=some (.int .i64 k1)/\W.cell? ⟨b,8,none⟩=some (.int .u64 k2)/\W.cell? ⟨b,9,none⟩=some (.int .u64 k3)/\W.cell? ⟨w.heap.size,0,none⟩=some (.int .i64 xi)/\W.cell? ⟨w.heap.size,1,none⟩=some (.slice ua nx uc)) (w.alloc (.cells #[.int .i64 xi,.slice ua nx uc] 43)).drew:=⟨z7,z8,z9,by simp [go_sem],by simp [go_sem]⟩
 clear z7 z8 z9 hnx hcx ih hp t1 t2 ok1 ok2 ok3 oa1 oa2 hnd hnd2 htb hsb hv hb h1 hab hs r1 pm ALT hrd gA gD hk ok kC hht hkk c1 c2 hS hx
 go_enter Tryz.func85,Tryz.ntmps85
 go_wp2_with fail
 go_fit cI
 rintro e w0 ⟨rfl,rfl⟩
 clear cI
 go_wp2_with fail
 refine wp_region_held_drew (S:=fun W=>W.cell? ⟨b,7,none⟩=some (.int .i64 k1)/\W.cell? ⟨b,8,none⟩=some (.int .u64 k2)/\W.cell? ⟨b,9,none⟩=some (.int .u64 k3)/\W.cell? ⟨w.heap.size,0,none⟩=some (.int .i64 xi)/\W.cell? ⟨w.heap.size,1,none⟩=some (.slice ua nx uc)) (by kernel_rfl) (FS5) (fun hHeld=>?_)
 refine tkn 0 ?_ rfl ?_ ?_;rotate_left;·(rintro w ⟨s0,s1,s2,s3,s4⟩;go_simp;try rfl)
 refine tkn 1 ?_ rfl ?_ ?_;rotate_left;·(rintro w ⟨s0,s1,s2,s3,s4⟩;go_simp;try rfl)
 refine tkn 3 ?_ rfl ?_ ?_;rotate_left;·(rintro w ⟨s0,s1,s2,s3,s4⟩;go_simp;try rfl)
 refine tkn 4 ?_ rfl ?_ ?_;rotate_left;·(rintro w ⟨s0,s1,s2,s3,s4⟩;go_simp;try rfl)
 refine tkn 5 ?_ rfl ?_ ?_;rotate_left;·(rintro w ⟨s0,s1,s2,s3,s4⟩;go_simp;try rfl)
 refine tkn 6 ?_ rfl ?_ ?_;rotate_left;·(rintro w ⟨s0,s1,s2,s3,s4⟩;go_simp;try rfl)
 refine rdn 2 rfl (fun K hK=>?_)
 go_simp
 go_fit cH
 rintro e w1 ⟨rfl,gA1⟩
 dsimp only [Tk.hv,Tk.Ht.id,Tk.Ht.hi,Tk.Ht.lo]
 refine hK.out _ _ (⟨gb_keeps gA1 hHeld.1,gb_keeps gA1 hHeld.2.1,gb_keeps gA1 hHeld.2.2.1,gb_keeps gA1 hHeld.2.2.2.1,gb_keeps gA1 hHeld.2.2.2.2⟩) (fun hHeld=>?_)
 clear hK K
 refine rdn 7 rfl (fun K hK=>?_)
 go_simp
 go_fit (cL w1)
 rintro e w1' ⟨rfl,gA2⟩
 refine hK.out _ _ (⟨gb_keeps gA2.gr hHeld.1,gb_keeps gA2.gr hHeld.2.1,gb_keeps gA2.gr hHeld.2.2.1,gb_keeps gA2.gr hHeld.2.2.2.1,gb_keeps gA2.gr hHeld.2.2.2.2⟩) (fun hHeld=>?_)
 clear hK K
 refine tkn 8 ?_ rfl ?_ ?_;rotate_left;·(rintro w ⟨s0,s1,s2,s3,s4⟩;go_simp;try rfl)
 refine wpAnyH_done (by kernel_rfl) ?_ _
 have gX:=gb_trans gA1 gA2.gr
 have cC:=IHX.out _ gX
 have HR:Hid _:=HRX.out _ gX
 have c6:=C6.out _ gX
 have FS6:(fun W=>W.cell? ⟨w.heap.size,0,none⟩=some (.int .i64 xi)/\W.cell? ⟨w.heap.size,1,none⟩=some (.slice ua nx uc)) w1'.drew:=⟨hHeld.2.2.2.1,hHeld.2.2.2.2⟩
 clear hHeld IHX HRX C6 FS5 cH cL gA1 gA2 gX
 go_wp2_with fail
 refine wp_region_held_drew (S:=fun W=>W.cell? ⟨w.heap.size,0,none⟩=some (.int .i64 xi)/\W.cell? ⟨w.heap.size,1,none⟩=some (.slice ua nx uc)) (by kernel_rfl) (FS6) (fun hHeld=>?_)
 refine tkn 0 ?_ rfl ?_ ?_;rotate_left;·(rintro w ⟨s0,s1⟩;go_simp;try rfl)
 refine tkn 1 ?_ rfl ?_ ?_;rotate_left;·(rintro w ⟨s0,s1⟩;go_simp;try rfl)
 refine tkn 2 ?_ rfl ?_ ?_;rotate_left;·(rintro w ⟨s0,s1⟩;go_simp;try rfl)
 refine tkn 3 ?_ rfl ?_ ?_;rotate_left;·(rintro w ⟨s0,s1⟩;go_simp;try rfl)
 refine tkn 4 ?_ rfl ?_ ?_;rotate_left;·(rintro w ⟨s0,s1⟩;go_simp;try rfl)
 refine tkn 6 ?_ rfl ?_ ?_;rotate_left;·(rintro w ⟨s0,s1⟩;go_simp;try rfl)
 refine rdn 5 rfl (fun K hK=>?_)
 go_simp
 refine hK.out _ _ (⟨hHeld.1,hHeld.2⟩) (fun hHeld=>?_)
 clear hK K
 refine rdn 7 rfl (fun K hK=>?_)
 go_simp
 go_fit cC
 rintro e w2 hO
 obtain ⟨pv,rfl,NN,k10,f10,kk⟩:=HR.out _ _ hO
 clear hO cC HR
 refine hK.out _ _ (⟨kk _ _ hHeld.1,kk _ _ hHeld.2⟩) (fun hHeld=>?_)
 clear hK K
 refine tkn 8 ?_ rfl ?_ ?_;rotate_left;·(rintro w ⟨s0,s1⟩;go_simp;try rfl)
 refine tkn 9 ?_ rfl ?_ ?_;rotate_left;·(rintro w ⟨s0,s1⟩;go_simp;try rfl)
 refine rdn 10 rfl (fun K hK=>?_)
 go_simp
 refine hK.out _ _ (⟨SC.out _ _ _ hHeld.1,SC.out _ _ _ hHeld.2⟩) (fun hHeld=>?_)
 clear hK K
 refine wpAnyH_done (by kernel_rfl) ?_ _
 rcases NN.out with ⟨rfl,d10,d11,FN⟩ | ⟨b',rfl,d10,d11,FN⟩
 ·have FN2:Hid _:=FN
  clear FN NN SC kk hHeld FS6 c6 k10 f10
  go_wp2
  go_ret
  exact FN2.out
 ·have FN2:Hid _:=FN
  clear FN NN SC kk hHeld FS6 c6 k10 f10
  go_wp2
  go_ret
  exact FN2.out
theorem without_c {Iq:Nat->Prop} {m leaf tb sb:Nat} (hm:1<=m/\m<=64) (hlf:1<=leaf/\leaf<=64) {x:Rt} (hcx:chk x.2.2 (m:Int)=0):∀ n,∀ (w:World) (b:Nat) (F:List Nat) (T:Nat->Pt),TrO Iq w T (n + 1) b F->OkP T m n (T b)->F.Nodup->tb ∉ F->sb ∉ F->w.cell? ⟨tb,1,none⟩=some (.int .i64 (leaf:Int))->w.cell? ⟨tb,2,none⟩=some (.pointer (some ⟨sb,0,none⟩))->SrcAt w sb->OwnQ Iq w x.2.1 x.2.2->rwR x ∈ rowsP T n (T b)->RowsOk (rowsP T n (T b)) (m:Int)->Calls Tryz.prog 85 #[.pointer (some ⟨tb,0,none⟩),.pointer (some ⟨b,0,none⟩),.agg #[.int .i64 x.1,x.2.1]] w fun e w'=>RmOut Iq w sb m F (aft false (rwR x) (rowsP T n (T b))) e w'
 | 0,w,b,F,T,ht,ok,_,htb,hsb,c1,c2,hS,hv,hx,h1=>by
  have hk:(T b).kids=none:=by rw [OkP] at ok;exact ok.1
  rw [rowsP_leaf hk] at hx h1 ⊢
  exact wo_leaf hm hlf ht hk c1 c2 hS htb hsb hv hx h1
 | n + 1,w,b,F,T,ht,ok,hnd,htb,hsb,c1,c2,hS,hv,hx,h1=>by
  cases hk:(T b).kids with
  | none =>
   rw [rowsP_leaf hk] at hx h1 ⊢
   exact wo_leaf hm hlf ht hk c1 c2 hS htb hsb hv hx h1
  | some lh =>
   obtain ⟨l,h⟩:=lh
   have ih:=without_c (Iq:=Iq) (tb:=tb) (sb:=sb) hm hlf hcx n
   cases hab:isAb (T b) (rwR x) with
   | true=>exact wo_near ih hcx ht ok hk hnd htb hsb c1 c2 hS hv hx h1 hab
   | false=>exact wo_far ih hcx ht ok hk hnd htb hsb c1 c2 hS hv hx h1 hab
end Go.Proofs.YtepjbdklljlecaaGreat
