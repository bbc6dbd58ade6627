import Derived.Test.YtgbgejflmbhigaaGreatKw26
import Derived.Test.YtgbgejflmbhigaaGreatKw12
namespace Go.Proofs.YtgbgejflmbhigaaGreat
open Go.RowKit Go.Sort
set_option maxRecDepth 100000
set_option maxHeartbeats 2000000
theorem rem_low {Iq:Nat->Prop} {m leaf n:Nat} {fn cb:Nat} {ad:Bool} {x:Rt}
  (ih:∀ (w:World) (b:Nat) (F:List Nat) (T:Nat->Pt),TrO Iq w T (n + 1) b F->OkP T m n (T b)->F.Nodup->cb ∉ F->Cap Iq ad w cb x->bef ad (rwR x) (rowsP T n (T b))->RowsOk (rowsP T n (T b)) (m:Int)->RowsOk (aft ad (rwR x) (rowsP T n (T b))) (m:Int) ->
   Calls Tryz.prog 76 #[.pointer (some ⟨b,0,none⟩),.agg #[.int .i64 x.1,x.2.1],.int .i64 (leaf:Int),.func (.func fn) #[] #[.pointer (some ⟨cb,0,none⟩)]] w fun e w'=>RmOut Iq w m F (aft ad (rwR x) (rowsP T n (T b))) e w')
  (hxm:x.2.2.length=m) {w:World} {b l h:Nat} {F:List Nat} {T:Nat->Pt} (ht:TrO Iq w T (n + 1 + 1) b F) (ok:OkP T m (n + 1) (T b)) (hk:(T b).kids=some (l,h)) (hnd:F.Nodup) (hcb:cb ∉ F)
  (hc:Cap Iq ad w cb x) (hb:bef ad (rwR x) (rowsP T (n + 1) (T b))) (h1:RowsOk (rowsP T (n + 1) (T b)) (m:Int)) (h2:RowsOk (aft ad (rwR x) (rowsP T (n + 1) (T b))) (m:Int)) (hab:isAb (T b).cut (rwR x)=true) :
  Calls Tryz.prog 76 #[.pointer (some ⟨b,0,none⟩),.agg #[.int .i64 x.1,x.2.1],.int .i64 (leaf:Int),.func (.func fn) #[] #[.pointer (some ⟨cb,0,none⟩)]] w fun e w'=>RmOut Iq w m F (aft ad (rwR x) (rowsP T (n + 1) (T b))) e w':=by
 obtain ⟨vl,vh,vr,hp,ht⟩:=ht
 rw [hk] at ht
 obtain ⟨rfl,F1,F2,t1,t2,rfl⟩:=ht
 obtain ⟨n',en,ok1,ok2,_,okc,oa1,oa2⟩:=okP_node hk ok
 have en':n=n':=by omega
 subst en'
 rw [rowsP_node hk] at hb h1 h2 ⊢
 have hs:ad=false->rwR x ∈ rowsP T n (T l):=fun e=>by
  have:=hb.2
  rw [if_neg (by rw [e];decide)] at this
  rcases List.mem_append.1 this with h | h
  ·exact h
  ·rw [oa2 _ h] at hab;cases hab
 obtain ⟨hb',pm⟩:=aft_left hb hs
 have r1:=h1.sub (List.sublist_append_left _ _)
 have r2:=(h2.perm pm.symm).sub (List.sublist_append_left _ _)
 have hnd2:=hnd
 rw [List.nodup_cons,List.nodup_append] at hnd2
 have ALT:=fun w1 w2 e g1 hO=>alt_rem_low (w1:=w1) (w2:=w2) (e:=e) hp hk t1 t2 ok1 ok2 okc oa1 oa2 hnd hab pm g1 hO
 obtain ⟨xi,u,xl⟩:=x
 obtain ⟨ua,uc,eu,_⟩:=hc.vec.rd
 have hrd:=hc.vec.rd
 dsimp only at eu hxm hrd
 subst eu
 dsimp only at hab ih hb hb' hs h1 h2 r1 r2 pm ALT
 generalize hnx:xl.length=nx at *
 have gA:Gb w (w.alloc (.cells #[.int .i64 xi,.slice ua nx uc] 39)):=gb_alloc (Below.refl _ _) _
 have gD:=gA.drew
 have cI:=isCut_c (hp.gb gA)
 rw [hk] at cI
 have cA:=isAbove_c (x:=xi) (at':=(T b).cut.2.1) (id:=(T b).cut.2.2) (ax:=(T b).cut.1) (hrd.gb gD) okc.1 (by rw [hnx,hxm];exact okc.2)
 rw [show isAb ((T b).cut.1,(T b).cut.2.1,(T b).cut.2.2) (xi,xl)=true from hab] at cA
 have z7:=gb_keeps gD (cell_cur (i:=7) hp.blk rfl)
 have z8:=gb_keeps gD (cell_cur (i:=8) hp.blk rfl)
 have z9:=gb_keeps gD (cell_cur (i:=9) hp.blk rfl)
 have IHX:Hid (∀ w1,Tk.Gw (w.alloc (.cells #[.int .i64 xi,.slice ua nx uc] 39)).drew w1->Calls Tryz.prog 76 #[.pointer (some ⟨l,0,none⟩),.agg #[.int .i64 xi,.slice ua nx uc],.int .i64 (leaf:Int),.func (.func fn) #[] #[.pointer (some ⟨cb,0,none⟩)]] w1.drew fun e w'=>RmOut Iq w1.drew m F1 (aft ad (xi,xl) (rowsP T n (T l))) e w'):=fun w1 g=>by
  have g2:=gb_trans gD (g.gr).drew
  exact ih w1.drew l F1 T (t1.gb g2) ok1 hnd2.2.1 (fun e=>hcb (List.mem_cons_of_mem _ (List.mem_append_left _ e))) (hc.gb g2) hb' r1 r2
 have HRX:Hid (∀ w1,Tk.Gw (w.alloc (.cells #[.int .i64 xi,.slice ua nx uc] 39)).drew w1->∀ e w2,RmOut Iq w1.drew m F1 (aft ad (xi,xl) (rowsP T n (T l))) e w2->∃ pv,e=.returned (.pointer pv)/\Hid (Alt_rem_low Iq w w2 m b h (b :: (F1 ++ F2)) (aft ad (xi,xl) (rowsP T n (T l) ++ rowsP T n (T h))) pv)/\w2.cell? ⟨b,10,none⟩=some (.pointer (some ⟨l,0,none⟩))/\w2.frozen? ⟨b,10,none⟩=false/\∀ i y,w1.drew.cell? ⟨w.heap.size,i,none⟩=some y->w2.cell? ⟨w.heap.size,i,none⟩=some y):=fun w1 g e w2 hO=>by
  obtain ⟨pv,e1,a,c,f,k⟩:=ALT w1.drew w2 e (gb_trans gD (g.gr).drew) hO
  exact ⟨pv,e1,a,c,f,fun i y h=>k _ _ (Nat.le_refl _) h⟩
 have C6:Hid (∀ w1,Tk.Gw (w.alloc (.cells #[.int .i64 xi,.slice ua nx uc] 39)).drew w1->w1.drew.cell? ⟨b,10,none⟩=some (.pointer (some ⟨l,0,none⟩))):=fun w1 g=>by
  have:=gb_keeps (gb_trans gD (g.gr).drew) (cell_cur (i:=10) hp.blk rfl)
  rw [hk] at this
  exact this
 have bl:=(Array.getElem?_eq_some_iff.1 hp.blk).1
 have SC:Hid (∀ (W:World) (u:Value) i {y},W.cell? ⟨w.heap.size,i,none⟩=some y->(W.setCell ⟨b,10,none⟩ u).cell? ⟨w.heap.size,i,none⟩=some y):=fun W u i y hy=>((Tk.Kp.refl (fun k=>k=b) _).setCell (.inl rfl) u).cell hy (by intro e;dsimp only at e;omega)
 generalize (T b).cut.1=c1 at *
 generalize (T b).cut.2.1=c2 at *
 generalize (T b).cut.2.2=c3 at *
 generalize aft ad (xi,xl) (rowsP T n (T l))=RK at *
 generalize aft ad (xi,xl) (rowsP T n (T l) ++ rowsP T n (T h))=RR at *
 have FS5:(fun W=>W.cell? ⟨b,7,none⟩=some (.int .i64 c1)/\W.cell? ⟨b,8,none⟩=some (.int .i64 c2)/\W.cell? ⟨b,9,none⟩=some (.int .i64 c3)/\W.cell? ⟨w.heap.size,0,none⟩=some (.int .i64 xi)/\W.cell? ⟨w.heap.size,1,none⟩=some (.slice ua nx uc)) (w.alloc (.cells #[.int .i64 xi,.slice ua nx uc] 39)).drew:=⟨z7,z8,z9,by simp [go_sem],by simp [go_sem]⟩
 clear z7 z8 z9 hnx hxm ih hp t1 t2 ok1 ok2 okc oa1 oa2 hnd hnd2 hcb hc hb hb' h1 h2 hab hs r1 r2 pm ALT hrd gA gD hk ok
 go_enter Tryz.func76,Tryz.ntmps76
 go_wp2_with fail
 go_fit cI
 rintro e w0 ⟨rfl,rfl⟩
 clear cI
 go_wp2_with fail
 refine wp_region_held_drew (S:=fun W=>W.cell? ⟨b,7,none⟩=some (.int .i64 c1)/\W.cell? ⟨b,8,none⟩=some (.int .i64 c2)/\W.cell? ⟨b,9,none⟩=some (.int .i64 c3)/\W.cell? ⟨w.heap.size,0,none⟩=some (.int .i64 xi)/\W.cell? ⟨w.heap.size,1,none⟩=some (.slice ua nx uc)) (by kernel_rfl) (FS5) (fun hHeld=>?_)
 refine tkn 0 ?_ rfl ?_ ?_;rotate_left;·(rintro w ⟨s0,s1,s2,s3,s4⟩;go_simp;try rfl)
 try simp only [Act.put,List.getElem_toArray,List.getElem_cons_zero,List.setIfInBounds_toArray,List.set_cons_zero,List.set_cons_succ]
 refine tkn 1 ?_ rfl ?_ ?_;rotate_left;·(rintro w ⟨s0,s1,s2,s3,s4⟩;go_simp;try rfl)
 try simp only [Act.put,List.getElem_toArray,List.getElem_cons_zero,List.getElem_cons_succ,List.setIfInBounds_toArray,List.set_cons_zero,List.set_cons_succ]
 refine tkn 2 ?_ rfl ?_ ?_;rotate_left;·(rintro w ⟨s0,s1,s2,s3,s4⟩;go_simp;try rfl)
 try simp only [Act.put,List.getElem_toArray,List.getElem_cons_zero,List.getElem_cons_succ,List.setIfInBounds_toArray,List.set_cons_zero,List.set_cons_succ]
 refine tkn 3 ?_ rfl ?_ ?_;rotate_left;·(rintro w ⟨s0,s1,s2,s3,s4⟩;go_simp;try rfl)
 try simp only [Act.put,List.getElem_toArray,List.getElem_cons_zero,List.getElem_cons_succ,List.setIfInBounds_toArray,List.set_cons_zero,List.set_cons_succ]
 refine tkn 4 ?_ rfl ?_ ?_;rotate_left;·(rintro w ⟨s0,s1,s2,s3,s4⟩;go_simp;try rfl)
 try simp only [Act.put,List.getElem_toArray,List.getElem_cons_zero,List.getElem_cons_succ,List.setIfInBounds_toArray,List.set_cons_zero,List.set_cons_succ]
 refine rdn 5 rfl (fun K hK=>?_)
 go_simp
 go_fit cA
 rintro e w1 ⟨rfl,gA1⟩
 refine hK.out _ _ (⟨gb_keeps gA1.gr hHeld.1,gb_keeps gA1.gr hHeld.2.1,gb_keeps gA1.gr hHeld.2.2.1,gb_keeps gA1.gr hHeld.2.2.2.1,gb_keeps gA1.gr hHeld.2.2.2.2⟩) (fun hHeld=>?_)
 clear hK K
 try simp only [Act.put,List.getElem_toArray,List.getElem_cons_zero,List.getElem_cons_succ,List.setIfInBounds_toArray,List.set_cons_zero,List.set_cons_succ]
 refine wpAnyH_done (by kernel_rfl) ?_ _
 have cH:=IHX.out _ gA1
 have HR:Hid _:=HRX.out _ gA1
 have c6:=C6.out _ gA1
 have FS6:(fun W=>W.cell? ⟨w.heap.size,0,none⟩=some (.int .i64 xi)/\W.cell? ⟨w.heap.size,1,none⟩=some (.slice ua nx uc)) w1.drew:=⟨hHeld.2.2.2.1,hHeld.2.2.2.2⟩
 clear hHeld IHX HRX C6 FS5 cA gA1
 go_wp2_with fail
 refine wp_region_held_drew (S:=fun W=>W.cell? ⟨w.heap.size,0,none⟩=some (.int .i64 xi)/\W.cell? ⟨w.heap.size,1,none⟩=some (.slice ua nx uc)) (by kernel_rfl) (FS6) (fun hHeld=>?_)
 refine tkn 0 ?_ rfl ?_ ?_;rotate_left;·(rintro w ⟨s0,s1⟩;go_simp;try rfl)
 try simp only [Act.put,List.getElem_toArray,List.getElem_cons_zero,List.setIfInBounds_toArray,List.set_cons_zero,List.set_cons_succ]
 refine tkn 1 ?_ rfl ?_ ?_;rotate_left;·(rintro w ⟨s0,s1⟩;go_simp;try rfl)
 try simp only [Act.put,List.getElem_toArray,List.getElem_cons_zero,List.getElem_cons_succ,List.setIfInBounds_toArray,List.set_cons_zero,List.set_cons_succ]
 refine tkn 2 ?_ rfl ?_ ?_;rotate_left;·(rintro w ⟨s0,s1⟩;go_simp;try rfl)
 try simp only [Act.put,List.getElem_toArray,List.getElem_cons_zero,List.getElem_cons_succ,List.setIfInBounds_toArray,List.set_cons_zero,List.set_cons_succ]
 refine tkn 3 ?_ rfl ?_ ?_;rotate_left;·(rintro w ⟨s0,s1⟩;go_simp;try rfl)
 try simp only [Act.put,List.getElem_toArray,List.getElem_cons_zero,List.getElem_cons_succ,List.setIfInBounds_toArray,List.set_cons_zero,List.set_cons_succ]
 refine tkn 5 ?_ rfl ?_ ?_;rotate_left;·(rintro w ⟨s0,s1⟩;go_simp;try rfl)
 try simp only [Act.put,List.getElem_toArray,List.getElem_cons_zero,List.getElem_cons_succ,List.setIfInBounds_toArray,List.set_cons_zero,List.set_cons_succ]
 refine tkn 6 ?_ rfl ?_ ?_;rotate_left;·(rintro w ⟨s0,s1⟩;go_simp;try rfl)
 try simp only [Act.put,List.getElem_toArray,List.getElem_cons_zero,List.getElem_cons_succ,List.setIfInBounds_toArray,List.set_cons_zero,List.set_cons_succ]
 refine tkn 7 ?_ rfl ?_ ?_;rotate_left;·(rintro w ⟨s0,s1⟩;go_simp;try rfl)
 try simp only [Act.put,List.getElem_toArray,List.getElem_cons_zero,List.getElem_cons_succ,List.setIfInBounds_toArray,List.set_cons_zero,List.set_cons_succ]
 refine rdn 4 rfl (fun K hK=>?_)
 go_simp
 refine hK.out _ _ (⟨hHeld.1,hHeld.2⟩) (fun hHeld=>?_)
 clear hK K
 try simp only [Act.put,List.getElem_toArray,List.getElem_cons_zero,List.getElem_cons_succ,List.setIfInBounds_toArray,List.set_cons_zero,List.set_cons_succ]
 refine rdn 8 rfl (fun K hK=>?_)
 go_simp
 go_fit cH
 rintro e w2 hO
 obtain ⟨pv,rfl,NN,k10,f10,kk⟩:=HR.out _ _ hO
 clear hO cH HR
 refine hK.out _ _ (⟨kk _ _ hHeld.1,kk _ _ hHeld.2⟩) (fun hHeld=>?_)
 clear hK K
 try simp only [Act.put,List.getElem_toArray,List.getElem_cons_zero,List.getElem_cons_succ,List.setIfInBounds_toArray,List.set_cons_zero,List.set_cons_succ]
 refine tkn 9 ?_ rfl ?_ ?_;rotate_left;·(rintro w ⟨s0,s1⟩;go_simp;try rfl)
 try simp only [Act.put,List.getElem_toArray,List.getElem_cons_zero,List.getElem_cons_succ,List.setIfInBounds_toArray,List.set_cons_zero,List.set_cons_succ]
 refine tkn 10 ?_ rfl ?_ ?_;rotate_left;·(rintro w ⟨s0,s1⟩;go_simp;try rfl)
 try simp only [Act.put,List.getElem_toArray,List.getElem_cons_zero,List.getElem_cons_succ,List.setIfInBounds_toArray,List.set_cons_zero,List.set_cons_succ]
 refine rdn 11 rfl (fun K hK=>?_)
 go_simp
 refine hK.out _ _ (⟨SC.out _ _ _ hHeld.1,SC.out _ _ _ hHeld.2⟩) (fun hHeld=>?_)
 clear hK K
 try simp only [Act.put,List.getElem_toArray,List.getElem_cons_zero,List.getElem_cons_succ,List.setIfInBounds_toArray,List.set_cons_zero,List.set_cons_succ]
 refine wpAnyH_done (by kernel_rfl) ?_ _
 rcases NN.out with ⟨rfl,d10,d11,FN⟩ | ⟨b',apl,aph,aql,aqh,npl,epl,nph,eph,nql,eql,nqh,eqh,L',H',rfl,R⟩
 ·have FN2:Hid _:=FN
  clear FN NN SC kk hHeld FS6 c6 k10 f10
  go_wp2
  go_ret
  exact FN2.out
 ·have FS12:(fun W=>W.cell? ⟨b,10,none⟩=some (.pointer (some ⟨b',0,none⟩))/\W.cell? ⟨b,11,none⟩=some (.pointer (some ⟨h,0,none⟩))/\W.cell? ⟨b',0,none⟩=some (.int .i64 2)/\W.cell? ⟨b',1,none⟩=some (.slice apl npl epl)/\W.cell? ⟨b',2,none⟩=some (.slice aph nph eph)/\W.cell? ⟨b',3,none⟩=some (.int .u64 0)/\W.cell? ⟨b',4,none⟩=some (.int .u64 0)/\W.cell? ⟨b',5,none⟩=some (.slice none 0 0)/\W.cell? ⟨h,0,none⟩=some (.int .i64 2)/\W.cell? ⟨h,1,none⟩=some (.slice aql nql eql)/\W.cell? ⟨h,2,none⟩=some (.slice aqh nqh eqh)/\W.cell? ⟨h,3,none⟩=some (.int .u64 0)/\W.cell? ⟨h,4,none⟩=some (.int .u64 0)/\W.cell? ⟨h,5,none⟩=some (.slice none 0 0)) (w2.setCell ⟨b,10,none⟩ (.pointer (some ⟨b',0,none⟩))).drew:=R.st
  have cR:=R.call
  have FIN:Hid _:=R.fin
  have CEL:Hid _:=R.cel
  have KST:Hid _:=R.kst
  have d10:(w2.setCell ⟨b,10,none⟩ (.pointer (some ⟨b',0,none⟩))).cell? ⟨b,10,none⟩=some (.pointer (some ⟨b',0,none⟩)):=R.st.1
  have d11:(w2.setCell ⟨b,10,none⟩ (.pointer (some ⟨b',0,none⟩))).cell? ⟨b,11,none⟩=some (.pointer (some ⟨h,0,none⟩)):=R.st.2.1
  clear R NN SC kk hHeld FS6 c6 k10 f10
  generalize (w2.setCell ⟨b,10,none⟩ (.pointer (some ⟨b',0,none⟩)))=w3 at *
  go_wp2_with fail
  refine wp_region_held_drew (S:=fun W=>W.cell? ⟨b,10,none⟩=some (.pointer (some ⟨b',0,none⟩))/\W.cell? ⟨b,11,none⟩=some (.pointer (some ⟨h,0,none⟩))/\W.cell? ⟨b',0,none⟩=some (.int .i64 2)/\W.cell? ⟨b',1,none⟩=some (.slice apl npl epl)/\W.cell? ⟨b',2,none⟩=some (.slice aph nph eph)/\W.cell? ⟨b',3,none⟩=some (.int .u64 0)/\W.cell? ⟨b',4,none⟩=some (.int .u64 0)/\W.cell? ⟨b',5,none⟩=some (.slice none 0 0)/\W.cell? ⟨h,0,none⟩=some (.int .i64 2)/\W.cell? ⟨h,1,none⟩=some (.slice aql nql eql)/\W.cell? ⟨h,2,none⟩=some (.slice aqh nqh eqh)/\W.cell? ⟨h,3,none⟩=some (.int .u64 0)/\W.cell? ⟨h,4,none⟩=some (.int .u64 0)/\W.cell? ⟨h,5,none⟩=some (.slice none 0 0)) (by kernel_rfl) (FS12) (fun hHeld=>?_)
  refine tkn 0 ?_ rfl ?_ ?_;rotate_left;·(rintro w ⟨s0,s1,s2,s3,s4,s5,s6,s7,s8,s9,s10,s11,s12,s13⟩;go_simp;try rfl)
  try simp only [Act.put,List.getElem_toArray,List.getElem_cons_zero,List.setIfInBounds_toArray,List.set_cons_zero,List.set_cons_succ]
  refine tkn 1 ?_ rfl ?_ ?_;rotate_left;·(rintro w ⟨s0,s1,s2,s3,s4,s5,s6,s7,s8,s9,s10,s11,s12,s13⟩;go_simp;try rfl)
  try simp only [Act.put,List.getElem_toArray,List.getElem_cons_zero,List.getElem_cons_succ,List.setIfInBounds_toArray,List.set_cons_zero,List.set_cons_succ]
  refine tkn 2 ?_ rfl ?_ ?_;rotate_left;·(rintro w ⟨s0,s1,s2,s3,s4,s5,s6,s7,s8,s9,s10,s11,s12,s13⟩;go_simp;try rfl)
  try simp only [Act.put,List.getElem_toArray,List.getElem_cons_zero,List.getElem_cons_succ,List.setIfInBounds_toArray,List.set_cons_zero,List.set_cons_succ]
  refine tkn 3 ?_ rfl ?_ ?_;rotate_left;·(rintro w ⟨s0,s1,s2,s3,s4,s5,s6,s7,s8,s9,s10,s11,s12,s13⟩;go_simp;try rfl)
  try simp only [Act.put,List.getElem_toArray,List.getElem_cons_zero,List.getElem_cons_succ,List.setIfInBounds_toArray,List.set_cons_zero,List.set_cons_succ]
  refine tkn 4 ?_ rfl ?_ ?_;rotate_left;·(rintro w ⟨s0,s1,s2,s3,s4,s5,s6,s7,s8,s9,s10,s11,s12,s13⟩;go_simp;try rfl)
  try simp only [Act.put,List.getElem_toArray,List.getElem_cons_zero,List.getElem_cons_succ,List.setIfInBounds_toArray,List.set_cons_zero,List.set_cons_succ]
  refine tkn 5 ?_ rfl ?_ ?_;rotate_left;·(rintro w ⟨s0,s1,s2,s3,s4,s5,s6,s7,s8,s9,s10,s11,s12,s13⟩;go_simp;try rfl)
  try simp only [Act.put,List.getElem_toArray,List.getElem_cons_zero,List.getElem_cons_succ,List.setIfInBounds_toArray,List.set_cons_zero,List.set_cons_succ]
  refine tkn 6 ?_ rfl ?_ ?_;rotate_left;·(rintro w ⟨s0,s1,s2,s3,s4,s5,s6,s7,s8,s9,s10,s11,s12,s13⟩;go_simp;try rfl)
  try simp only [Act.put,List.getElem_toArray,List.getElem_cons_zero,List.getElem_cons_succ,List.setIfInBounds_toArray,List.set_cons_zero,List.set_cons_succ]
  refine tkn 7 ?_ rfl ?_ ?_;rotate_left;·(rintro w ⟨s0,s1,s2,s3,s4,s5,s6,s7,s8,s9,s10,s11,s12,s13⟩;go_simp;try rfl)
  try simp only [Act.put,List.getElem_toArray,List.getElem_cons_zero,List.getElem_cons_succ,List.setIfInBounds_toArray,List.set_cons_zero,List.set_cons_succ]
  refine tkn 8 ?_ rfl ?_ ?_;rotate_left;·(rintro w ⟨s0,s1,s2,s3,s4,s5,s6,s7,s8,s9,s10,s11,s12,s13⟩;go_simp;try rfl)
  try simp only [Act.put,List.getElem_toArray,List.getElem_cons_zero,List.getElem_cons_succ,List.setIfInBounds_toArray,List.set_cons_zero,List.set_cons_succ]
  refine tkn 9 ?_ rfl ?_ ?_;rotate_left;·(rintro w ⟨s0,s1,s2,s3,s4,s5,s6,s7,s8,s9,s10,s11,s12,s13⟩;go_simp;try rfl)
  try simp only [Act.put,List.getElem_toArray,List.getElem_cons_zero,List.getElem_cons_succ,List.setIfInBounds_toArray,List.set_cons_zero,List.set_cons_succ]
  refine tkn 10 ?_ rfl ?_ ?_;rotate_left;·(rintro w ⟨s0,s1,s2,s3,s4,s5,s6,s7,s8,s9,s10,s11,s12,s13⟩;go_simp;try rfl)
  try simp only [Act.put,List.getElem_toArray,List.getElem_cons_zero,List.getElem_cons_succ,List.setIfInBounds_toArray,List.set_cons_zero,List.set_cons_succ]
  refine tkn 11 ?_ rfl ?_ ?_;rotate_left;·(rintro w ⟨s0,s1,s2,s3,s4,s5,s6,s7,s8,s9,s10,s11,s12,s13⟩;go_simp;try rfl)
  try simp only [Act.put,List.getElem_toArray,List.getElem_cons_zero,List.getElem_cons_succ,List.setIfInBounds_toArray,List.set_cons_zero,List.set_cons_succ]
  refine tkn 12 ?_ rfl ?_ ?_;rotate_left;·(rintro w ⟨s0,s1,s2,s3,s4,s5,s6,s7,s8,s9,s10,s11,s12,s13⟩;go_simp;try rfl)
  try simp only [Act.put,List.getElem_toArray,List.getElem_cons_zero,List.getElem_cons_succ,List.setIfInBounds_toArray,List.set_cons_zero,List.set_cons_succ]
  refine tkn 13 ?_ rfl ?_ ?_;rotate_left;·(rintro w ⟨s0,s1,s2,s3,s4,s5,s6,s7,s8,s9,s10,s11,s12,s13⟩;go_simp;try rfl)
  try simp only [Act.put,List.getElem_toArray,List.getElem_cons_zero,List.getElem_cons_succ,List.setIfInBounds_toArray,List.set_cons_zero,List.set_cons_succ]
  refine tkn 14 ?_ rfl ?_ ?_;rotate_left;·(rintro w ⟨s0,s1,s2,s3,s4,s5,s6,s7,s8,s9,s10,s11,s12,s13⟩;go_simp;try rfl)
  try simp only [Act.put,List.getElem_toArray,List.getElem_cons_zero,List.getElem_cons_succ,List.setIfInBounds_toArray,List.set_cons_zero,List.set_cons_succ]
  refine rdn 15 rfl (fun K hK=>?_)
  go_simp
  go_fit cR
  rintro e w4 ⟨vl',vh',rfl,g4,o1,o2⟩
  obtain ⟨al',cl',el',_⟩:=o1.rd
  obtain ⟨ah',ch',eh',_⟩:=o2.rd
  subst el' eh'
  have FF:=FIN.out _ _ _ g4 o1 o2
  obtain ⟨⟨y0,z0⟩,⟨y1,z1⟩,⟨y2,z2⟩,⟨y3,z3⟩,⟨y4,z4⟩,⟨y5,z5⟩,f0,f1,f2,f3,f4,f5⟩:=CEL.out _ g4
  have KS:=KST.out _ g4
  generalize L'.length=nL at *
  generalize H'.length=nH at *
  clear g4 o1 o2 FIN CEL KST cR
  refine hK.out _ _ (KS.1) (fun hHeld=>?_)
  clear hK K
  try simp only [Act.put,List.getElem_toArray,List.getElem_cons_zero,List.getElem_cons_succ,List.setIfInBounds_toArray,List.set_cons_zero,List.set_cons_succ]
  refine tkn 16 ?_ rfl ?_ ?_;rotate_left;·(rintro w ⟨s0,s1,s2,s3,s4,s5,s6,s7,s8,s9,s10,s11,s12,s13⟩;go_simp;try rfl)
  try simp only [Act.put,List.getElem_toArray,List.getElem_cons_zero,List.getElem_cons_succ,List.setIfInBounds_toArray,List.set_cons_zero,List.set_cons_succ]
  refine tkn 17 ?_ rfl ?_ ?_;rotate_left;·(rintro w ⟨s0,s1,s2,s3,s4,s5,s6,s7,s8,s9,s10,s11,s12,s13⟩;go_simp;try rfl)
  try simp only [Act.put,List.getElem_toArray,List.getElem_cons_zero,List.getElem_cons_succ,List.setIfInBounds_toArray,List.set_cons_zero,List.set_cons_succ]
  refine rdn 18 rfl (fun K hK=>?_)
  go_simp
  refine hK.out _ _ (KS.2 _ _) (fun hHeld=>?_)
  clear hK K
  try simp only [Act.put,List.getElem_toArray,List.getElem_cons_zero,List.getElem_cons_succ,List.setIfInBounds_toArray,List.set_cons_zero,List.set_cons_succ]
  refine wpAnyH_done (by kernel_rfl) ?_ _
  clear hHeld KS FS12
  go_wp2
  go_ret
  exact FF
theorem rem_high {Iq:Nat->Prop} {m leaf n:Nat} {fn cb:Nat} {ad:Bool} {x:Rt}
  (ih:∀ (w:World) (b:Nat) (F:List Nat) (T:Nat->Pt),TrO Iq w T (n + 1) b F->OkP T m n (T b)->F.Nodup->cb ∉ F->Cap Iq ad w cb x->bef ad (rwR x) (rowsP T n (T b))->RowsOk (rowsP T n (T b)) (m:Int)->RowsOk (aft ad (rwR x) (rowsP T n (T b))) (m:Int) ->
   Calls Tryz.prog 76 #[.pointer (some ⟨b,0,none⟩),.agg #[.int .i64 x.1,x.2.1],.int .i64 (leaf:Int),.func (.func fn) #[] #[.pointer (some ⟨cb,0,none⟩)]] w fun e w'=>RmOut Iq w m F (aft ad (rwR x) (rowsP T n (T b))) e w')
  (hxm:x.2.2.length=m) {w:World} {b l h:Nat} {F:List Nat} {T:Nat->Pt} (ht:TrO Iq w T (n + 1 + 1) b F) (ok:OkP T m (n + 1) (T b)) (hk:(T b).kids=some (l,h)) (hnd:F.Nodup) (hcb:cb ∉ F)
  (hc:Cap Iq ad w cb x) (hb:bef ad (rwR x) (rowsP T (n + 1) (T b))) (h1:RowsOk (rowsP T (n + 1) (T b)) (m:Int)) (h2:RowsOk (aft ad (rwR x) (rowsP T (n + 1) (T b))) (m:Int)) (hab:isAb (T b).cut (rwR x)=false) :
  Calls Tryz.prog 76 #[.pointer (some ⟨b,0,none⟩),.agg #[.int .i64 x.1,x.2.1],.int .i64 (leaf:Int),.func (.func fn) #[] #[.pointer (some ⟨cb,0,none⟩)]] w fun e w'=>RmOut Iq w m F (aft ad (rwR x) (rowsP T (n + 1) (T b))) e w':=by
 obtain ⟨vl,vh,vr,hp,ht⟩:=ht
 rw [hk] at ht
 obtain ⟨rfl,F1,F2,t1,t2,rfl⟩:=ht
 obtain ⟨n',en,ok1,ok2,_,okc,oa1,oa2⟩:=okP_node hk ok
 have en':n=n':=by omega
 subst en'
 rw [rowsP_node hk] at hb h1 h2 ⊢
 have hs:ad=false->rwR x ∈ rowsP T n (T h):=fun e=>by
  have:=hb.2
  rw [if_neg (by rw [e];decide)] at this
  rcases List.mem_append.1 this with h | h
  ·rw [oa1 _ h] at hab;cases hab
  ·exact h
 obtain ⟨hb',pm⟩:=aft_right hb hs
 have r1:=h1.sub (List.sublist_append_right _ _)
 have r2:=(h2.perm pm.symm).sub (List.sublist_append_right _ _)
 have hnd2:=hnd
 rw [List.nodup_cons,List.nodup_append] at hnd2
 have ALT:=fun w1 w2 e g1 hO=>alt_rem_high (w1:=w1) (w2:=w2) (e:=e) hp hk t1 t2 ok1 ok2 okc oa1 oa2 hnd hab pm g1 hO
 obtain ⟨xi,u,xl⟩:=x
 obtain ⟨ua,uc,eu,_⟩:=hc.vec.rd
 have hrd:=hc.vec.rd
 dsimp only at eu hxm hrd
 subst eu
 dsimp only at hab ih hb hb' hs h1 h2 r1 r2 pm ALT
 generalize hnx:xl.length=nx at *
 have gA:Gb w (w.alloc (.cells #[.int .i64 xi,.slice ua nx uc] 39)):=gb_alloc (Below.refl _ _) _
 have gD:=gA.drew
 have cI:=isCut_c (hp.gb gA)
 rw [hk] at cI
 have cA:=isAbove_c (x:=xi) (at':=(T b).cut.2.1) (id:=(T b).cut.2.2) (ax:=(T b).cut.1) (hrd.gb gD) okc.1 (by rw [hnx,hxm];exact okc.2)
 rw [show isAb ((T b).cut.1,(T b).cut.2.1,(T b).cut.2.2) (xi,xl)=false from hab] at cA
 have z7:=gb_keeps gD (cell_cur (i:=7) hp.blk rfl)
 have z8:=gb_keeps gD (cell_cur (i:=8) hp.blk rfl)
 have z9:=gb_keeps gD (cell_cur (i:=9) hp.blk rfl)
 have IHX:Hid (∀ w1,Tk.Gw (w.alloc (.cells #[.int .i64 xi,.slice ua nx uc] 39)).drew w1->Calls Tryz.prog 76 #[.pointer (some ⟨h,0,none⟩),.agg #[.int .i64 xi,.slice ua nx uc],.int .i64 (leaf:Int),.func (.func fn) #[] #[.pointer (some ⟨cb,0,none⟩)]] w1.drew fun e w'=>RmOut Iq w1.drew m F2 (aft ad (xi,xl) (rowsP T n (T h))) e w'):=fun w1 g=>by
  have g2:=gb_trans gD (g.gr).drew
  exact ih w1.drew h F2 T (t2.gb g2) ok2 hnd2.2.2.1 (fun e=>hcb (List.mem_cons_of_mem _ (List.mem_append_right _ e))) (hc.gb g2) hb' r1 r2
 have HRX:Hid (∀ w1,Tk.Gw (w.alloc (.cells #[.int .i64 xi,.slice ua nx uc] 39)).drew w1->∀ e w2,RmOut Iq w1.drew m F2 (aft ad (xi,xl) (rowsP T n (T h))) e w2->∃ pv,e=.returned (.pointer pv)/\Hid (Alt_rem_high Iq w w2 m b l (b :: (F1 ++ F2)) (aft ad (xi,xl) (rowsP T n (T l) ++ rowsP T n (T h))) pv)/\w2.cell? ⟨b,11,none⟩=some (.pointer (some ⟨h,0,none⟩))/\w2.frozen? ⟨b,11,none⟩=false/\∀ i y,w1.drew.cell? ⟨w.heap.size,i,none⟩=some y->w2.cell? ⟨w.heap.size,i,none⟩=some y):=fun w1 g e w2 hO=>by
  obtain ⟨pv,e1,a,c,f,k⟩:=ALT w1.drew w2 e (gb_trans gD (g.gr).drew) hO
  exact ⟨pv,e1,a,c,f,fun i y h=>k _ _ (Nat.le_refl _) h⟩
 have C6:Hid (∀ w1,Tk.Gw (w.alloc (.cells #[.int .i64 xi,.slice ua nx uc] 39)).drew w1->w1.drew.cell? ⟨b,11,none⟩=some (.pointer (some ⟨h,0,none⟩))):=fun w1 g=>by
  have:=gb_keeps (gb_trans gD (g.gr).drew) (cell_cur (i:=11) hp.blk rfl)
  rw [hk] at this
  exact this
 have bl:=(Array.getElem?_eq_some_iff.1 hp.blk).1
 have SC:Hid (∀ (W:World) (u:Value) i {y},W.cell? ⟨w.heap.size,i,none⟩=some y->(W.setCell ⟨b,11,none⟩ u).cell? ⟨w.heap.size,i,none⟩=some y):=fun W u i y hy=>((Tk.Kp.refl (fun k=>k=b) _).setCell (.inl rfl) u).cell hy (by intro e;dsimp only at e;omega)
 generalize (T b).cut.1=c1 at *
 generalize (T b).cut.2.1=c2 at *
 generalize (T b).cut.2.2=c3 at *
 generalize aft ad (xi,xl) (rowsP T n (T h))=RK at *
 generalize aft ad (xi,xl) (rowsP T n (T l) ++ rowsP T n (T h))=RR at *
 have FS5:(fun W=>W.cell? ⟨b,7,none⟩=some (.int .i64 c1)/\W.cell? ⟨b,8,none⟩=some (.int .i64 c2)/\W.cell? ⟨b,9,none⟩=some (.int .i64 c3)/\W.cell? ⟨w.heap.size,0,none⟩=some (.int .i64 xi)/\W.cell? ⟨w.heap.size,1,none⟩=some (.slice ua nx uc)) (w.alloc (.cells #[.int .i64 xi,.slice ua nx uc] 39)).drew:=⟨z7,z8,z9,by simp [go_sem],by simp [go_sem]⟩
 clear z7 z8 z9 hnx hxm ih hp t1 t2 ok1 ok2 okc oa1 oa2 hnd hnd2 hcb hc hb hb' h1 h2 hab hs r1 r2 pm ALT hrd gA gD hk ok
 go_enter Tryz.func76,Tryz.ntmps76
 go_wp2_with fail
 go_fit cI
 rintro e w0 ⟨rfl,rfl⟩
 clear cI
 go_wp2_with fail
 refine wp_region_held_drew (S:=fun W=>W.cell? ⟨b,7,none⟩=some (.int .i64 c1)/\W.cell? ⟨b,8,none⟩=some (.int .i64 c2)/\W.cell? ⟨b,9,none⟩=some (.int .i64 c3)/\W.cell? ⟨w.heap.size,0,none⟩=some (.int .i64 xi)/\W.cell? ⟨w.heap.size,1,none⟩=some (.slice ua nx uc)) (by kernel_rfl) (FS5) (fun hHeld=>?_)
 refine tkn 0 ?_ rfl ?_ ?_;rotate_left;·(rintro w ⟨s0,s1,s2,s3,s4⟩;go_simp;try rfl)
 try simp only [Act.put,List.getElem_toArray,List.getElem_cons_zero,List.setIfInBounds_toArray,List.set_cons_zero,List.set_cons_succ]
 refine tkn 1 ?_ rfl ?_ ?_;rotate_left;·(rintro w ⟨s0,s1,s2,s3,s4⟩;go_simp;try rfl)
 try simp only [Act.put,List.getElem_toArray,List.getElem_cons_zero,List.getElem_cons_succ,List.setIfInBounds_toArray,List.set_cons_zero,List.set_cons_succ]
 refine tkn 2 ?_ rfl ?_ ?_;rotate_left;·(rintro w ⟨s0,s1,s2,s3,s4⟩;go_simp;try rfl)
 try simp only [Act.put,List.getElem_toArray,List.getElem_cons_zero,List.getElem_cons_succ,List.setIfInBounds_toArray,List.set_cons_zero,List.set_cons_succ]
 refine tkn 3 ?_ rfl ?_ ?_;rotate_left;·(rintro w ⟨s0,s1,s2,s3,s4⟩;go_simp;try rfl)
 try simp only [Act.put,List.getElem_toArray,List.getElem_cons_zero,List.getElem_cons_succ,List.setIfInBounds_toArray,List.set_cons_zero,List.set_cons_succ]
 refine tkn 4 ?_ rfl ?_ ?_;rotate_left;·(rintro w ⟨s0,s1,s2,s3,s4⟩;go_simp;try rfl)
 try simp only [Act.put,List.getElem_toArray,List.getElem_cons_zero,List.getElem_cons_succ,List.setIfInBounds_toArray,List.set_cons_zero,List.set_cons_succ]
 refine rdn 5 rfl (fun K hK=>?_)
 go_simp
 go_fit cA
 rintro e w1 ⟨rfl,gA1⟩
 refine hK.out _ _ (⟨gb_keeps gA1.gr hHeld.1,gb_keeps gA1.gr hHeld.2.1,gb_keeps gA1.gr hHeld.2.2.1,gb_keeps gA1.gr hHeld.2.2.2.1,gb_keeps gA1.gr hHeld.2.2.2.2⟩) (fun hHeld=>?_)
 clear hK K
 try simp only [Act.put,List.getElem_toArray,List.getElem_cons_zero,List.getElem_cons_succ,List.setIfInBounds_toArray,List.set_cons_zero,List.set_cons_succ]
 refine wpAnyH_done (by kernel_rfl) ?_ _
 have cH:=IHX.out _ gA1
 have HR:Hid _:=HRX.out _ gA1
 have c6:=C6.out _ gA1
 have FS6:(fun W=>W.cell? ⟨w.heap.size,0,none⟩=some (.int .i64 xi)/\W.cell? ⟨w.heap.size,1,none⟩=some (.slice ua nx uc)) w1.drew:=⟨hHeld.2.2.2.1,hHeld.2.2.2.2⟩
 clear hHeld IHX HRX C6 FS5 cA gA1
 go_wp2_with fail
 refine wp_region_held_drew (S:=fun W=>W.cell? ⟨w.heap.size,0,none⟩=some (.int .i64 xi)/\W.cell? ⟨w.heap.size,1,none⟩=some (.slice ua nx uc)) (by kernel_rfl) (FS6) (fun hHeld=>?_)
 refine tkn 0 ?_ rfl ?_ ?_;rotate_left;·(rintro w ⟨s0,s1⟩;go_simp;try rfl)
 try simp only [Act.put,List.getElem_toArray,List.getElem_cons_zero,List.setIfInBounds_toArray,List.set_cons_zero,List.set_cons_succ]
 refine tkn 1 ?_ rfl ?_ ?_;rotate_left;·(rintro w ⟨s0,s1⟩;go_simp;try rfl)
 try simp only [Act.put,List.getElem_toArray,List.getElem_cons_zero,List.getElem_cons_succ,List.setIfInBounds_toArray,List.set_cons_zero,List.set_cons_succ]
 refine tkn 2 ?_ rfl ?_ ?_;rotate_left;·(rintro w ⟨s0,s1⟩;go_simp;try rfl)
 try simp only [Act.put,List.getElem_toArray,List.getElem_cons_zero,List.getElem_cons_succ,List.setIfInBounds_toArray,List.set_cons_zero,List.set_cons_succ]
 refine tkn 3 ?_ rfl ?_ ?_;rotate_left;·(rintro w ⟨s0,s1⟩;go_simp;try rfl)
 try simp only [Act.put,List.getElem_toArray,List.getElem_cons_zero,List.getElem_cons_succ,List.setIfInBounds_toArray,List.set_cons_zero,List.set_cons_succ]
 refine tkn 5 ?_ rfl ?_ ?_;rotate_left;·(rintro w ⟨s0,s1⟩;go_simp;try rfl)
 try simp only [Act.put,List.getElem_toArray,List.getElem_cons_zero,List.getElem_cons_succ,List.setIfInBounds_toArray,List.set_cons_zero,List.set_cons_succ]
 refine tkn 6 ?_ rfl ?_ ?_;rotate_left;·(rintro w ⟨s0,s1⟩;go_simp;try rfl)
 try simp only [Act.put,List.getElem_toArray,List.getElem_cons_zero,List.getElem_cons_succ,List.setIfInBounds_toArray,List.set_cons_zero,List.set_cons_succ]
 refine tkn 7 ?_ rfl ?_ ?_;rotate_left;·(rintro w ⟨s0,s1⟩;go_simp;try rfl)
 try simp only [Act.put,List.getElem_toArray,List.getElem_cons_zero,List.getElem_cons_succ,List.setIfInBounds_toArray,List.set_cons_zero,List.set_cons_succ]
 refine rdn 4 rfl (fun K hK=>?_)
 go_simp
 refine hK.out _ _ (⟨hHeld.1,hHeld.2⟩) (fun hHeld=>?_)
 clear hK K
 try simp only [Act.put,List.getElem_toArray,List.getElem_cons_zero,List.getElem_cons_succ,List.setIfInBounds_toArray,List.set_cons_zero,List.set_cons_succ]
 refine rdn 8 rfl (fun K hK=>?_)
 go_simp
 go_fit cH
 rintro e w2 hO
 obtain ⟨pv,rfl,NN,k10,f10,kk⟩:=HR.out _ _ hO
 clear hO cH HR
 refine hK.out _ _ (⟨kk _ _ hHeld.1,kk _ _ hHeld.2⟩) (fun hHeld=>?_)
 clear hK K
 try simp only [Act.put,List.getElem_toArray,List.getElem_cons_zero,List.getElem_cons_succ,List.setIfInBounds_toArray,List.set_cons_zero,List.set_cons_succ]
 refine tkn 9 ?_ rfl ?_ ?_;rotate_left;·(rintro w ⟨s0,s1⟩;go_simp;try rfl)
 try simp only [Act.put,List.getElem_toArray,List.getElem_cons_zero,List.getElem_cons_succ,List.setIfInBounds_toArray,List.set_cons_zero,List.set_cons_succ]
 refine tkn 10 ?_ rfl ?_ ?_;rotate_left;·(rintro w ⟨s0,s1⟩;go_simp;try rfl)
 try simp only [Act.put,List.getElem_toArray,List.getElem_cons_zero,List.getElem_cons_succ,List.setIfInBounds_toArray,List.set_cons_zero,List.set_cons_succ]
 refine rdn 11 rfl (fun K hK=>?_)
 go_simp
 refine hK.out _ _ (⟨SC.out _ _ _ hHeld.1,SC.out _ _ _ hHeld.2⟩) (fun hHeld=>?_)
 clear hK K
 try simp only [Act.put,List.getElem_toArray,List.getElem_cons_zero,List.getElem_cons_succ,List.setIfInBounds_toArray,List.set_cons_zero,List.set_cons_succ]
 refine wpAnyH_done (by kernel_rfl) ?_ _
 rcases NN.out with ⟨rfl,d10,d11,FN⟩ | ⟨b',apl,aph,aql,aqh,npl,epl,nph,eph,nql,eql,nqh,eqh,L',H',rfl,R⟩
 ·have FN2:Hid _:=FN
  clear FN NN SC kk hHeld FS6 c6 k10 f10
  go_wp2
  go_ret
  exact FN2.out
 ·have FS12:(fun W=>W.cell? ⟨b,10,none⟩=some (.pointer (some ⟨l,0,none⟩))/\W.cell? ⟨b,11,none⟩=some (.pointer (some ⟨b',0,none⟩))/\W.cell? ⟨l,0,none⟩=some (.int .i64 2)/\W.cell? ⟨l,1,none⟩=some (.slice apl npl epl)/\W.cell? ⟨l,2,none⟩=some (.slice aph nph eph)/\W.cell? ⟨l,3,none⟩=some (.int .u64 0)/\W.cell? ⟨l,4,none⟩=some (.int .u64 0)/\W.cell? ⟨l,5,none⟩=some (.slice none 0 0)/\W.cell? ⟨b',0,none⟩=some (.int .i64 2)/\W.cell? ⟨b',1,none⟩=some (.slice aql nql eql)/\W.cell? ⟨b',2,none⟩=some (.slice aqh nqh eqh)/\W.cell? ⟨b',3,none⟩=some (.int .u64 0)/\W.cell? ⟨b',4,none⟩=some (.int .u64 0)/\W.cell? ⟨b',5,none⟩=some (.slice none 0 0)) (w2.setCell ⟨b,11,none⟩ (.pointer (some ⟨b',0,none⟩))).drew:=R.st
  have cR:=R.call
  have FIN:Hid _:=R.fin
  have CEL:Hid _:=R.cel
  have KST:Hid _:=R.kst
  have d10:(w2.setCell ⟨b,11,none⟩ (.pointer (some ⟨b',0,none⟩))).cell? ⟨b,10,none⟩=some (.pointer (some ⟨l,0,none⟩)):=R.st.1
  have d11:(w2.setCell ⟨b,11,none⟩ (.pointer (some ⟨b',0,none⟩))).cell? ⟨b,11,none⟩=some (.pointer (some ⟨b',0,none⟩)):=R.st.2.1
  clear R NN SC kk hHeld FS6 c6 k10 f10
  generalize (w2.setCell ⟨b,11,none⟩ (.pointer (some ⟨b',0,none⟩)))=w3 at *
  go_wp2_with fail
  refine wp_region_held_drew (S:=fun W=>W.cell? ⟨b,10,none⟩=some (.pointer (some ⟨l,0,none⟩))/\W.cell? ⟨b,11,none⟩=some (.pointer (some ⟨b',0,none⟩))/\W.cell? ⟨l,0,none⟩=some (.int .i64 2)/\W.cell? ⟨l,1,none⟩=some (.slice apl npl epl)/\W.cell? ⟨l,2,none⟩=some (.slice aph nph eph)/\W.cell? ⟨l,3,none⟩=some (.int .u64 0)/\W.cell? ⟨l,4,none⟩=some (.int .u64 0)/\W.cell? ⟨l,5,none⟩=some (.slice none 0 0)/\W.cell? ⟨b',0,none⟩=some (.int .i64 2)/\W.cell? ⟨b',1,none⟩=some (.slice aql nql eql)/\W.cell? ⟨b',2,none⟩=some (.slice aqh nqh eqh)/\W.cell? ⟨b',3,none⟩=some (.int .u64 0)/\W.cell? ⟨b',4,none⟩=some (.int .u64 0)/\W.cell? ⟨b',5,none⟩=some (.slice none 0 0)) (by kernel_rfl) (FS12) (fun hHeld=>?_)
  refine tkn 0 ?_ rfl ?_ ?_;rotate_left;·(rintro w ⟨s0,s1,s2,s3,s4,s5,s6,s7,s8,s9,s10,s11,s12,s13⟩;go_simp;try rfl)
  try simp only [Act.put,List.getElem_toArray,List.getElem_cons_zero,List.setIfInBounds_toArray,List.set_cons_zero,List.set_cons_succ]
  refine tkn 1 ?_ rfl ?_ ?_;rotate_left;·(rintro w ⟨s0,s1,s2,s3,s4,s5,s6,s7,s8,s9,s10,s11,s12,s13⟩;go_simp;try rfl)
  try simp only [Act.put,List.getElem_toArray,List.getElem_cons_zero,List.getElem_cons_succ,List.setIfInBounds_toArray,List.set_cons_zero,List.set_cons_succ]
  refine tkn 2 ?_ rfl ?_ ?_;rotate_left;·(rintro w ⟨s0,s1,s2,s3,s4,s5,s6,s7,s8,s9,s10,s11,s12,s13⟩;go_simp;try rfl)
  try simp only [Act.put,List.getElem_toArray,List.getElem_cons_zero,List.getElem_cons_succ,List.setIfInBounds_toArray,List.set_cons_zero,List.set_cons_succ]
  refine tkn 3 ?_ rfl ?_ ?_;rotate_left;·(rintro w ⟨s0,s1,s2,s3,s4,s5,s6,s7,s8,s9,s10,s11,s12,s13⟩;go_simp;try rfl)
  try simp only [Act.put,List.getElem_toArray,List.getElem_cons_zero,List.getElem_cons_succ,List.setIfInBounds_toArray,List.set_cons_zero,List.set_cons_succ]
  refine tkn 4 ?_ rfl ?_ ?_;rotate_left;·(rintro w ⟨s0,s1,s2,s3,s4,s5,s6,s7,s8,s9,s10,s11,s12,s13⟩;go_simp;try rfl)
  try simp only [Act.put,List.getElem_toArray,List.getElem_cons_zero,List.getElem_cons_succ,List.setIfInBounds_toArray,List.set_cons_zero,List.set_cons_succ]
  refine tkn 5 ?_ rfl ?_ ?_;rotate_left;·(rintro w ⟨s0,s1,s2,s3,s4,s5,s6,s7,s8,s9,s10,s11,s12,s13⟩;go_simp;try rfl)
  try simp only [Act.put,List.getElem_toArray,List.getElem_cons_zero,List.getElem_cons_succ,List.setIfInBounds_toArray,List.set_cons_zero,List.set_cons_succ]
  refine tkn 6 ?_ rfl ?_ ?_;rotate_left;·(rintro w ⟨s0,s1,s2,s3,s4,s5,s6,s7,s8,s9,s10,s11,s12,s13⟩;go_simp;try rfl)
  try simp only [Act.put,List.getElem_toArray,List.getElem_cons_zero,List.getElem_cons_succ,List.setIfInBounds_toArray,List.set_cons_zero,List.set_cons_succ]
  refine tkn 7 ?_ rfl ?_ ?_;rotate_left;·(rintro w ⟨s0,s1,s2,s3,s4,s5,s6,s7,s8,s9,s10,s11,s12,s13⟩;go_simp;try rfl)
  try simp only [Act.put,List.getElem_toArray,List.getElem_cons_zero,List.getElem_cons_succ,List.setIfInBounds_toArray,List.set_cons_zero,List.set_cons_succ]
  refine tkn 8 ?_ rfl ?_ ?_;rotate_left;·(rintro w ⟨s0,s1,s2,s3,s4,s5,s6,s7,s8,s9,s10,s11,s12,s13⟩;go_simp;try rfl)
  try simp only [Act.put,List.getElem_toArray,List.getElem_cons_zero,List.getElem_cons_succ,List.setIfInBounds_toArray,List.set_cons_zero,List.set_cons_succ]
  refine tkn 9 ?_ rfl ?_ ?_;rotate_left;·(rintro w ⟨s0,s1,s2,s3,s4,s5,s6,s7,s8,s9,s10,s11,s12,s13⟩;go_simp;try rfl)
  try simp only [Act.put,List.getElem_toArray,List.getElem_cons_zero,List.getElem_cons_succ,List.setIfInBounds_toArray,List.set_cons_zero,List.set_cons_succ]
  refine tkn 10 ?_ rfl ?_ ?_;rotate_left;·(rintro w ⟨s0,s1,s2,s3,s4,s5,s6,s7,s8,s9,s10,s11,s12,s13⟩;go_simp;try rfl)
  try simp only [Act.put,List.getElem_toArray,List.getElem_cons_zero,List.getElem_cons_succ,List.setIfInBounds_toArray,List.set_cons_zero,List.set_cons_succ]
  refine tkn 11 ?_ rfl ?_ ?_;rotate_left;·(rintro w ⟨s0,s1,s2,s3,s4,s5,s6,s7,s8,s9,s10,s11,s12,s13⟩;go_simp;try rfl)
  try simp only [Act.put,List.getElem_toArray,List.getElem_cons_zero,List.getElem_cons_succ,List.setIfInBounds_toArray,List.set_cons_zero,List.set_cons_succ]
  refine tkn 12 ?_ rfl ?_ ?_;rotate_left;·(rintro w ⟨s0,s1,s2,s3,s4,s5,s6,s7,s8,s9,s10,s11,s12,s13⟩;go_simp;try rfl)
  try simp only [Act.put,List.getElem_toArray,List.getElem_cons_zero,List.getElem_cons_succ,List.setIfInBounds_toArray,List.set_cons_zero,List.set_cons_succ]
  refine tkn 13 ?_ rfl ?_ ?_;rotate_left;·(rintro w ⟨s0,s1,s2,s3,s4,s5,s6,s7,s8,s9,s10,s11,s12,s13⟩;go_simp;try rfl)
  try simp only [Act.put,List.getElem_toArray,List.getElem_cons_zero,List.getElem_cons_succ,List.setIfInBounds_toArray,List.set_cons_zero,List.set_cons_succ]
  refine tkn 14 ?_ rfl ?_ ?_;rotate_left;·(rintro w ⟨s0,s1,s2,s3,s4,s5,s6,s7,s8,s9,s10,s11,s12,s13⟩;go_simp;try rfl)
  try simp only [Act.put,List.getElem_toArray,List.getElem_cons_zero,List.getElem_cons_succ,List.setIfInBounds_toArray,List.set_cons_zero,List.set_cons_succ]
  refine rdn 15 rfl (fun K hK=>?_)
  go_simp
  go_fit cR
  rintro e w4 ⟨vl',vh',rfl,g4,o1,o2⟩
  obtain ⟨al',cl',el',_⟩:=o1.rd
  obtain ⟨ah',ch',eh',_⟩:=o2.rd
  subst el' eh'
  have FF:=FIN.out _ _ _ g4 o1 o2
  obtain ⟨⟨y0,z0⟩,⟨y1,z1⟩,⟨y2,z2⟩,⟨y3,z3⟩,⟨y4,z4⟩,⟨y5,z5⟩,f0,f1,f2,f3,f4,f5⟩:=CEL.out _ g4
  have KS:=KST.out _ g4
  generalize L'.length=nL at *
  generalize H'.length=nH at *
  clear g4 o1 o2 FIN CEL KST cR
  refine hK.out _ _ (KS.1) (fun hHeld=>?_)
  clear hK K
  try simp only [Act.put,List.getElem_toArray,List.getElem_cons_zero,List.getElem_cons_succ,List.setIfInBounds_toArray,List.set_cons_zero,List.set_cons_succ]
  refine tkn 16 ?_ rfl ?_ ?_;rotate_left;·(rintro w ⟨s0,s1,s2,s3,s4,s5,s6,s7,s8,s9,s10,s11,s12,s13⟩;go_simp;try rfl)
  try simp only [Act.put,List.getElem_toArray,List.getElem_cons_zero,List.getElem_cons_succ,List.setIfInBounds_toArray,List.set_cons_zero,List.set_cons_succ]
  refine tkn 17 ?_ rfl ?_ ?_;rotate_left;·(rintro w ⟨s0,s1,s2,s3,s4,s5,s6,s7,s8,s9,s10,s11,s12,s13⟩;go_simp;try rfl)
  try simp only [Act.put,List.getElem_toArray,List.getElem_cons_zero,List.getElem_cons_succ,List.setIfInBounds_toArray,List.set_cons_zero,List.set_cons_succ]
  refine rdn 18 rfl (fun K hK=>?_)
  go_simp
  refine hK.out _ _ (KS.2 _ _) (fun hHeld=>?_)
  clear hK K
  try simp only [Act.put,List.getElem_toArray,List.getElem_cons_zero,List.getElem_cons_succ,List.setIfInBounds_toArray,List.set_cons_zero,List.set_cons_succ]
  refine wpAnyH_done (by kernel_rfl) ?_ _
  clear hHeld KS FS12
  go_wp2
  go_ret
  exact FF
theorem remade_c {Iq:Nat->Prop} {m leaf:Nat} (hm:1<=m/\m<=64) (hlf:1<=leaf/\leaf<=64) {fn cb:Nat} {ad:Bool} {x:Rt} (hC:ChgC Iq m ad fn cb x) (hxm:x.2.2.length=m) (eg:∀ args w,(callFunc fn args).run Tryz.prog w=.ok (.enter fn args) w) :
  ∀ n (w:World) (b:Nat) (F:List Nat) (T:Nat->Pt),TrO Iq w T (n + 1) b F->OkP T m n (T b)->F.Nodup->cb ∉ F->Cap Iq ad w cb x->bef ad (rwR x) (rowsP T n (T b))->RowsOk (rowsP T n (T b)) (m:Int)->RowsOk (aft ad (rwR x) (rowsP T n (T b))) (m:Int) ->
   Calls Tryz.prog 76 #[.pointer (some ⟨b,0,none⟩),.agg #[.int .i64 x.1,x.2.1],.int .i64 (leaf:Int),.func (.func fn) #[] #[.pointer (some ⟨cb,0,none⟩)]] w fun e w'=>RmOut Iq w m F (aft ad (rwR x) (rowsP T n (T b))) e w'
 | 0,w,b,F,T,ht,ok,_,hcb,hc,hb,h1,h2=>by
  have hk:(T b).kids=none:=by rw [OkP] at ok;exact ok.1
  rw [rowsP_leaf hk] at hb h1 h2 ⊢
  exact rem_leaf hm hlf hC ht hk hcb hc hb h1 h2 eg
 | n + 1,w,b,F,T,ht,ok,hnd,hcb,hc,hb,h1,h2=>by
  cases hk:(T b).kids with
  | none =>
   rw [rowsP_leaf hk] at hb h1 h2 ⊢
   exact rem_leaf hm hlf hC ht hk hcb hc hb h1 h2 eg
  | some lh =>
   obtain ⟨l,h⟩:=lh
   have ih:=remade_c hm hlf hC hxm eg n
   cases hab:isAb (T b).cut (rwR x) with
   | true=>exact rem_low ih hxm ht ok hk hnd hcb hc hb h1 h2 hab
   | false=>exact rem_high ih hxm ht ok hk hnd hcb hc hb h1 h2 hab
end Go.Proofs.YtgbgejflmbhigaaGreat
