import Derived.Test.YtepjbdklljlecaaGreatVrVpWn
import Derived.Deep.LoopGhost
import Derived.Test.YtepjbdklljlecaaGreatVr5
namespace Go.Proofs.YtepjbdklljlecaaGreat
open Go.RowKit Go.Sort
set_option maxRecDepth 100000
set_option maxHeartbeats 4000000
def LdI (Iq:Nat->Prop) (m:Nat) (x:Rt) (sb:Nat) (w0:World) (b0:Nat) (F0:List Nat) (R0:List Rw) (rb:Nat) (g:Nat) (pv:Value) (wr:World):Prop:=∃ p T F,pv=.pointer (some ⟨p,0,none⟩)/\TrO Iq wr T (g + 1) p F/\OkP T m g (T p)/\F.Nodup/\sb ∉ F/\SrcAt wr sb/\Fil Iq m (rwR x) sb w0 b0 F0 R0 wr p F (rowsP T g (T p))/\Tk.Kp (fun k=>k ∈ F0) w0 wr/\(∀ y ∈ F,y ∈ F0)/\OwnQ Iq wr x.2.1 x.2.2/\RowsOk (rowsP T g (T p) ++ [rwR x]) (m:Int)/\(∀ y ∈ F0,y < rb) /\
 wr.cell? ⟨rb,0,none⟩=some (.int .i64 x.1)/\wr.cell? ⟨rb,1,none⟩=some x.2.1
def LdO (Iq:Nat->Prop) (m:Nat) (x:Rt) (sb:Nat) (w0:World) (b0:Nat) (F0:List Nat) (R0:List Rw) (e:Ending) (w':World):Prop:=∃ p q vl vh vr d g,e=.returned (.pointer (some ⟨p,0,none⟩))/\PcAt Iq w' p q vl vh vr/\q.kids=none/\OwnRs Iq w' vr d/\vr.ownBlock=some g/\p ≠ g/\p ≠ sb/\g ≠ sb /\
 Fil Iq m (rwR x) sb w0 b0 F0 R0 w' p [p,g] (d.map rwR)/\Tk.Kp (fun k=>k ∈ F0) w0 w'/\(p ∈ F0/\g ∈ F0)/\RowsOk (d.map rwR ++ [rwR x]) (m:Int)/\SrcAt w' sb
def LdR (Iq:Nat->Prop) (wr:World) (p:Nat) (q:Pt) (D:Nat) (vl vh vr:Value) (W:World):Prop:=∃ V,Gb wr V/\PcAt Iq W p (rsd q D) vl vh vr/\Tk.Kp (fun k=>k=p) V W
theorem ldr_no {Iq:Nat->Prop} {wr W:World} {p:Nat} {q:Pt} {D:Nat} {vl vh vr:Value} (h:PcAt Iq wr p q vl vh vr) (g:Gb wr W) (hD:D<=q.reg.R):LdR Iq wr p q D vl vh vr W:=⟨W,g,by rw [rsd_no h.ball.1 hD];exact h.gb g,Tk.Kp.refl _ _⟩
theorem ldr_yes {Iq:Nat->Prop} {wr W:World} {p:Nat} {q:Pt} {D:Nat} {vl vh vr:Value} (h:PcAt Iq wr p q vl vh vr) (g:Gb wr W) (hD:q.reg.R < D) (hl:D < 340282366920938463463374607431768211456):LdR Iq wr p q D vl vh vr ((W.setCell ⟨p,3,none⟩ (.int .u64 (hi D))).setCell ⟨p,4,none⟩ (.int .u64 (lo D))) :=
 ⟨W,g,pcat_rsd (h.gb g) hD hl,((Tk.Kp.refl (fun k=>k=p) W).setCell (.inl rfl) _).setCell (.inl rfl) _⟩
theorem LdR.gb {Iq:Nat->Prop} {wr W W':World} {p:Nat} {q:Pt} {D:Nat} {vl vh vr:Value} (h:LdR Iq wr p q D vl vh vr W) (g:Gb W W'):LdR Iq wr p q D vl vh vr W':=by
 obtain ⟨V,h1,h2,h3⟩:=h
 exact ⟨V,h1,h2.gb g,h3.trans (Tk.Kp.of_gr g)⟩
theorem ld_end {Iq:Nat->Prop} {m:Nat} {x:Rt} {sb:Nat} {w0 wr W:World} {b0:Nat} {F0 F:List Nat} {R0:List Rw} {p g D:Nat} {T:Nat->Pt} {vl vh vr:Value} (h:LdR Iq wr p (T p) D vl vh vr W) (hk:(T p).kids=none) {d:List Rt} {gb:Nat} (ho:OwnRs Iq wr vr d) (hd:d.map rwR=(T p).rs) (hg:vr.ownBlock=some gb) (eF:F=[p,gb]) (hnd:F.Nodup) (hsb:sb ∉ F) (hS:SrcAt wr sb)
  (hf:Fil Iq m (rwR x) sb w0 b0 F0 R0 wr p F (rowsP T g (T p))) (k0:Tk.Kp (fun k=>k ∈ F0) w0 wr) (hF:∀ y ∈ F,y ∈ F0) (hok:RowsOk (rowsP T g (T p) ++ [rwR x]) (m:Int)) (nb:NoInt wr (fun k=>k=p)):LdO Iq m x sb w0 b0 F0 R0 (.returned (.pointer (some ⟨p,0,none⟩))) W:=by
 obtain ⟨V,h1,h2,h3⟩:=h
 subst eF
 rw [rowsP_leaf hk,<- hd] at hf hok
 have kk:Tk.Kp (fun k=>k=p) wr W:=(Tk.Kp.of_gr h1).trans h3
 have hpg:p ≠ gb:=by simp at hnd;exact hnd
 have hps:p ≠ sb:=fun e=>hsb (by rw [<- e];simp)
 have hgs:gb ≠ sb:=fun e=>hsb (by rw [<- e];simp)
 exact ⟨p,_,vl,vh,vr,d,gb,rfl,h2,hk,ho.kp kk nb (fun g' e e2=>by rw [hg] at e;cases e;exact hpg e2.symm),hg,hpg,hps,hgs,fil_kp hf (kk.mono (fun y _ e=>.inl (by rw [e];simp))),k0.trans (kk.mono (fun y _ e=>by rw [e];exact hF p (by simp))),⟨hF p (by simp),hF gb (by simp)⟩,hok,kp_src hS kk (fun e=>hps e.symm)⟩
theorem ld_kid {Iq:Nat->Prop} {m:Nat} {x:Rt} {sb:Nat} {w0 wr W:World} {b0:Nat} {F0 F1 F2:List Nat} {R0:List Rw} {p n D l h rb:Nat} {T:Nat->Pt} {vl vh:Value} (hR:LdR Iq wr p (T p) D vl vh (.slice none 0 0) W) (hb:(T p).reg=⟨3,(T p).reg.L,[],(T p).reg.R,[]⟩) (hk:(T p).kids=some (l,h)) (t1:TrO Iq wr T (n + 1) l F1) (t2:TrO Iq wr T (n + 1) h F2) (hnd:(p :: (F1 ++ F2)).Nodup) (hsb:sb ∉ p :: (F1 ++ F2)) (hS:SrcAt wr sb) (ok:OkP T m (n + 1) (T p))
  (hf:Fil Iq m (rwR x) sb w0 b0 F0 R0 wr p (p :: (F1 ++ F2)) (rowsP T (n + 1) (T p))) (k0:Tk.Kp (fun k=>k ∈ F0) w0 wr) (hF:∀ y ∈ p :: (F1 ++ F2),y ∈ F0) (hok:RowsOk (rowsP T (n + 1) (T p) ++ [rwR x]) (m:Int)) (nb:NoInt wr (fun k=>k=p)) (hv:OwnQ Iq wr x.2.1 x.2.2) (hrb:∀ y ∈ F0,y < rb)
  (hD:dst (T p).reg.L x.2.2<=D) (c0:wr.cell? ⟨rb,0,none⟩=some (.int .i64 x.1)) (c1:wr.cell? ⟨rb,1,none⟩=some x.2.1) :
  LdI Iq m x sb w0 b0 F0 R0 rb n (.pointer (some ⟨if isAb (T p) (rwR x)=true then l else h,0,none⟩)) W:=by
 obtain ⟨V,g1,hp,k1⟩:=hR
 have hcx:chk x.2.2 (m:Int)=0:=(hok.row (rwR x) (by simp)).2
 obtain ⟨n',e',o1,o2,_⟩:=okP_node hk ok
 have e'':n'=n:=by omega
 subst e''
 have kk:Tk.Kp (fun k=>k=p) wr W:=(Tk.Kp.of_gr g1).trans k1
 obtain ⟨A,B⟩:=fil_kid hf hk t1 t2 rfl hnd ok hsb hS hb hp kk nb hcx hD
 have pF0:=hF p (by simp)
 have hS':SrcAt W sb:=kp_src hS kk (fun e=>hsb (by rw [e];simp))
 have k0':Tk.Kp (fun k=>k ∈ F0) w0 W:=k0.trans (kk.mono (fun y _ e=>by rw [e];exact pF0))
 have hprb:¬ rb=p:=fun e=>by have:=hrb p pF0;omega
 have nd:=List.nodup_cons.1 hnd
 rw [List.nodup_append] at nd
 rw [rowsP_node hk] at hok
 cases hab:isAb (T p) (rwR x) with
 | true =>
  obtain ⟨A1,A2⟩:=A hab
  exact ⟨l,T,F1,by simp,A2,o1,nd.2.1,fun e=>hsb (by simp [e]),hS',A1,k0',fun y hy=>hF y (by simp [hy]),ownq_noint hv kk nb,hok.sub ((List.sublist_append_left _ _).append (List.Sublist.refl _)),hrb,kp_cell kk c0 hprb,kp_cell kk c1 hprb⟩
 | false =>
  obtain ⟨A1,A2⟩:=B hab
  exact ⟨h,T,F2,by simp,A2,o2,nd.2.2.1,fun e=>hsb (by simp [e]),hS',A1,k0',fun y hy=>hF y (by simp [hy]),ownq_noint hv kk nb,hok.sub ((List.sublist_append_right _ _).append (List.Sublist.refl _)),hrb,kp_cell kk c0 hprb,kp_cell kk c1 hprb⟩
theorem lead_c {Iq:Nat->Prop} {m:Nat} {x:Rt} {sb:Nat} {w:World} {b0 n:Nat} {F0:List Nat} {T:Nat->Pt} (ht:TrO Iq w T (n + 1) b0 F0) (ok:OkP T m n (T b0)) (hnd:F0.Nodup) (hsb:sb ∉ F0) (hS:SrcAt w sb) (hv:OwnQ Iq w x.2.1 x.2.2) (hok:RowsOk (rowsP T n (T b0) ++ [rwR x]) (m:Int)) :
  Calls Tryz.prog 87 #[.pointer (some ⟨b0,0,none⟩),.agg #[.int .i64 x.1,x.2.1]] w fun e w'=>LdO Iq m x sb w b0 F0 (rowsP T n (T b0)) e w':=by
 have hcx:chk x.2.2 (m:Int)=0:=(hok.row (rwR x) (by simp)).2
 obtain ⟨R0,hR0⟩:∃ R0,R0=rowsP T n (T b0):=⟨_,rfl⟩
 obtain ⟨xi,u,xl⟩:=x
 obtain ⟨ua,uc,eu,_⟩:=hv.rd
 dsimp only at eu hcx
 subst eu
 generalize hnx:xl.length=nx at *
 have gA:Gb w (w.alloc (.cells #[.int .i64 xi,.slice ua nx uc] 43)):=gb_alloc (Below.refl _ _) _
 have ml:=ht.mem.2
 have ST:Hid (LdI Iq m (xi,.slice ua nx uc,xl) sb w b0 F0 R0 w.heap.size n (.pointer (some ⟨b0,0,none⟩)) (w.alloc (.cells #[.int .i64 xi,.slice ua nx uc] 43))) :=
  ⟨b0,T,F0,rfl,ht.gb gA,ok,hnd,hsb,hS.gb gA,by rw [hR0];exact fil_kp (fil_start Iq m _ sb w b0 F0 _) (Tk.Kp.of_gr gA),Tk.Kp.of_gr gA,fun y hy=>hy,hv.gb gA,hok,ml,by simp [go_sem],by simp [go_sem]⟩
 rw [<- hR0]
 have HC:Hid (chk xl (m:Int)=0/\xl.length=nx):=⟨hcx,hnx⟩
 clear ht ok hnd hsb hS hv hok gA ml hR0 hcx hnx T
 go_enter Tryz.func87,Tryz.ntmps87
 go_wp2_with fail
 go_step3
 go_wp2
 go_step3
 go_wp2
 go_loopg [0] n (fun g pv wx=>Hid (LdI Iq m (xi,.slice ua nx uc,xl) sb w b0 F0 R0 w.heap.size g pv wx))
 case atStart=>exact ST
 case round =>
  clear ST
  obtain ⟨p,T,F,rfl,ht,ok,hnd,hsb,hS,hf,k0,hF,hv,hok,hrb,c0,c1⟩:=hrel.out
  obtain ⟨vl,vh,vr,hp,ht⟩:=ht
  have hbx:=okP_box ok
  have kC:chk (T p).reg.L (m:Int)=0:=(ckR_ok hbx.1).2.1 (by show (T p).reg.S=3;rw [hp.ball.1])
  have nb:NoInt wr (fun k=>k=p):=fun k e cur s hc=>by subst e;rw [hp.blk] at hc;simp at hc
  have cH:=hit_c (xi:=xi) (cell_cur (i:=1) hp.blk rfl) hp.low.rd hv.rd kC HC.out.1
  have hl1:=chk_ok kC
  have hl2:=chk_ok HC.out.1
  have hDl:dst (T p).reg.L xl < 340282366920938463463374607431768211456:=dst_lt hl1.2.2.2 hl2.2.2.2 (by omega) (by omega)
  obtain ⟨D,hDD⟩:∃ D,D=dst (T p).reg.L xl:=⟨_,rfl⟩
  have eH:hitOf (T p).reg.L (xi,xl)=(xi,hi D,lo D):=by rw [hDD]
  rw [eH] at cH
  rw [<- hDD] at hDl
  have hbl:=hp.ball.1
  have cC:=fun w=>cmp_any D (T p).reg.R w
  have cL:=fun w=>Tk.less_c (xi,hi D,lo D) (T p).cut w
  have eAb:Tk.hlt (xi,hi D,lo D) (T p).cut=isAb (T p) (xi,xl):=by unfold isAb;rw [eH]
  rw [eAb] at cL
  have CLS:Hid (∀ W,LdR Iq wr p (T p) D vl vh vr W->(Calls Tryz.prog 73 #[.pointer (some ⟨p,0,none⟩)] W fun e w'=>e=.returned (.bool (T p).kids.isSome)/\w'=W)/\W.cell? ⟨p,7,none⟩=some (.int .i64 (T p).cut.1)/\W.cell? ⟨p,8,none⟩=some (.int .u64 (T p).cut.2.1)/\W.cell? ⟨p,9,none⟩=some (.int .u64 (T p).cut.2.2)/\W.cell? ⟨p,10,none⟩=some (kidV ((T p).kids.map Prod.fst))/\W.cell? ⟨p,11,none⟩=some (kidV ((T p).kids.map Prod.snd))):=by
   rintro W ⟨V,_,h2,_⟩
   exact ⟨(by have:=isCut_c h2;exact this),cell_cur h2.blk rfl,cell_cur h2.blk rfl,cell_cur h2.blk rfl,cell_cur h2.blk rfl,cell_cur h2.blk rfl⟩
  have NO:Hid (∀ W,Gb wr W->D<=(T p).reg.R->LdR Iq wr p (T p) D vl vh vr W):=fun W g h=>ldr_no hp g h
  have YES:Hid (∀ W,Gb wr W->(T p).reg.R < D->LdR Iq wr p (T p) D vl vh vr ((W.setCell ⟨p,3,none⟩ (.int .u64 (hi D))).setCell ⟨p,4,none⟩ (.int .u64 (lo D)))/\(∃ y,W.cell? ⟨p,3,none⟩=some y)/\(∃ y,W.cell? ⟨p,4,none⟩=some y)/\W.frozen? ⟨p,3,none⟩=false/\W.frozen? ⟨p,4,none⟩=false):=fun W g h=>by
   have hp2:=hp.gb g
   exact ⟨ldr_yes hp g h hDl,⟨_,cell_cur hp2.blk rfl⟩,⟨_,cell_cur hp2.blk rfl⟩,by simp [World.frozen?,hp2.blk],by simp [World.frozen?,hp2.blk]⟩
  have RD:Hid (∀ W,Gb wr W->W.cell? ⟨p,3,none⟩=some (.int .u64 (hi (T p).reg.R))/\W.cell? ⟨p,4,none⟩=some (.int .u64 (lo (T p).reg.R))):=fun W g=>⟨gb_keeps g (cell_cur hp.blk rfl),gb_keeps g (cell_cur hp.blk rfl)⟩
  have pl:=(Array.getElem?_eq_some_iff.1 hp.blk).1
  have ENDS:Hid (((T p).kids=none/\∀ W,LdR Iq wr p (T p) D vl vh vr W->LdO Iq m (xi,.slice ua nx uc,xl) sb w b0 F0 R0 (.returned (.pointer (some ⟨p,0,none⟩))) W) ∨ ∃ l h n',(T p).kids=some (l,h)/\n' < gk/\∀ W,LdR Iq wr p (T p) D vl vh vr W->LdI Iq m (xi,.slice ua nx uc,xl) sb w b0 F0 R0 w.heap.size n' (.pointer (some ⟨if isAb (T p) (xi,xl)=true then l else h,0,none⟩)) W):=by
   cases hk:(T p).kids with
   | none =>
    rw [hk] at ht
    obtain ⟨d,gb,h1,h2,h3,h4⟩:=ht
    exact .inl ⟨rfl,fun W hR=>ld_end hR hk h1 h2 h3 h4 hnd hsb hS hf k0 hF hok nb⟩
   | some lh =>
    obtain ⟨l,h⟩:=lh
    rw [hk] at ht
    obtain ⟨rfl,F1,F2,t1,t2,rfl⟩:=ht
    obtain ⟨n',rfl,_⟩:=okP_node hk ok
    exact .inr ⟨l,h,n',rfl,Nat.lt_succ_self _,fun W hR=>ld_kid hR hbl hk t1 t2 hnd hsb hS ok hf k0 hF hok nb hv hrb (by rw [hDD];exact Nat.le_refl _) c0 c1⟩
  have hG:∀ W,Gb wr W->W.cell? ⟨w.heap.size,0,none⟩=some (.int .i64 xi):=fun W g=>gb_keeps g c0
  obtain ⟨R,hRR⟩:∃ R,R=(T p).reg.R:=⟨_,rfl⟩
  rw [<- hRR] at cC NO YES RD
  obtain ⟨kv,hkv⟩:∃ kv,kv=(T p).cut:=⟨_,rfl⟩
  rw [<- hkv] at cL CLS
  obtain ⟨k1,k2,k3⟩:=kv
  dsimp only [Tk.hv,Tk.Ht.id,Tk.Ht.hi,Tk.Ht.lo] at cH cL CLS
  clear hp ht ok hnd hsb hS hf hF hv hok hrb hbx kC nb hl1 hl2 hDl hDD eH hbl eAb hkv hRR k0
  have hdc:decide (cmp3 D R > 0)=decide (R < D):=cmp3_gt D R
  obtain ⟨z,hz⟩:∃ z,z=cmp3 D R:=⟨_,rfl⟩
  rw [<- hz] at hdc cC
  obtain ⟨ab,hab⟩:∃ ab,ab=isAb (T p) (xi,xl):=⟨_,rfl⟩
  rw [<- hab] at cL ENDS
  dsimp only [Wd] at cC
  generalize hi D=q2 at *
  generalize lo D=q3 at *
  generalize hi R=r1 at *
  generalize lo R=r2 at *
  clear hz hab hrel
  go_wp2_with fail
  go_fit cH
  rintro e w1 ⟨rfl,g1⟩
  have ga:Gb wr (w1.alloc (.cells #[.int .i64 xi,.int .u64 q2,.int .u64 q3] 68)):=gb_alloc g1 _
  have gD:=ga.drew
  have FS2:(fun W=>W.cell? ⟨w1.heap.size,1,none⟩=some (.int .u64 q2)/\W.cell? ⟨w1.heap.size,2,none⟩=some (.int .u64 q3)/\W.cell? ⟨p,3,none⟩=some (.int .u64 r1)/\W.cell? ⟨p,4,none⟩=some (.int .u64 r2)) (w1.alloc (.cells #[.int .i64 xi,.int .u64 q2,.int .u64 q3] 68)).drew:=⟨by simp [go_sem],by simp [go_sem],(RD.out _ gD).1,(RD.out _ gD).2⟩
  have HT:Hid ((w1.alloc (.cells #[.int .i64 xi,.int .u64 q2,.int .u64 q3] 68)).drew.cell? ⟨w1.heap.size,0,none⟩=some (.int .i64 xi)/\(w1.alloc (.cells #[.int .i64 xi,.int .u64 q2,.int .u64 q3] 68)).drew.cell? ⟨w1.heap.size,1,none⟩=some (.int .u64 q2)/\(w1.alloc (.cells #[.int .i64 xi,.int .u64 q2,.int .u64 q3] 68)).drew.cell? ⟨w1.heap.size,2,none⟩=some (.int .u64 q3)):=⟨by simp [go_sem],by simp [go_sem],by simp [go_sem]⟩
  have GD:Hid (Gb wr (w1.alloc (.cells #[.int .i64 xi,.int .u64 q2,.int .u64 q3] 68)).drew):=gD
  have PW:Hid (p < w1.heap.size):=Nat.lt_of_lt_of_le pl g1.size
  clear cH g1 ga gD hG c0 c1 pl
  go_wp2_with fail
  refine wp_region_held_drew (S:=fun W=>W.cell? ⟨w1.heap.size,1,none⟩=some (.int .u64 q2)/\W.cell? ⟨w1.heap.size,2,none⟩=some (.int .u64 q3)/\W.cell? ⟨p,3,none⟩=some (.int .u64 r1)/\W.cell? ⟨p,4,none⟩=some (.int .u64 r2)) (by kernel_rfl) (FS2) (fun hHeld=>?_)
  refine tkn 0 ?_ rfl ?_ ?_;rotate_left;·(rintro w ⟨s0,s1,s2,s3⟩;go_simp;try rfl)
  refine tkn 1 ?_ rfl ?_ ?_;rotate_left;·(rintro w ⟨s0,s1,s2,s3⟩;go_simp;try rfl)
  refine tkn 2 ?_ rfl ?_ ?_;rotate_left;·(rintro w ⟨s0,s1,s2,s3⟩;go_simp;try rfl)
  refine tkn 3 ?_ rfl ?_ ?_;rotate_left;·(rintro w ⟨s0,s1,s2,s3⟩;go_simp;try rfl)
  refine tkn 4 ?_ rfl ?_ ?_;rotate_left;·(rintro w ⟨s0,s1,s2,s3⟩;go_simp;try rfl)
  refine tkn 5 ?_ rfl ?_ ?_;rotate_left;·(rintro w ⟨s0,s1,s2,s3⟩;go_simp;try rfl)
  refine tkn 6 ?_ rfl ?_ ?_;rotate_left;·(rintro w ⟨s0,s1,s2,s3⟩;go_simp;try rfl)
  refine rdn 7 rfl (fun K hK=>?_)
  go_simp
  go_fit (cC _)
  rintro e w2 ⟨rfl,g2⟩
  refine hK.out _ _ (⟨gb_keeps g2.gb hHeld.1,gb_keeps g2.gb hHeld.2.1,gb_keeps g2.gb hHeld.2.2.1,gb_keeps g2.gb hHeld.2.2.2⟩) (fun hHeld=>?_)
  clear hK K
  refine tkn 8 ?_ rfl ?_ ?_;rotate_left;·(rintro w ⟨s0,s1,s2,s3⟩;go_simp;try rfl)
  refine wpAnyH_done (by kernel_rfl) ?_ _
  have G2:Hid (Gb wr w2):=gb_trans GD.out g2.gb
  have H2:Hid (w2.cell? ⟨w1.heap.size,0,none⟩=some (.int .i64 xi)/\w2.cell? ⟨w1.heap.size,1,none⟩=some (.int .u64 q2)/\w2.cell? ⟨w1.heap.size,2,none⟩=some (.int .u64 q3)):=⟨gb_keeps g2.gb HT.out.1,gb_keeps g2.gb HT.out.2.1,gb_keeps g2.gb HT.out.2.2⟩
  clear hHeld FS2 cC g2 HT GD
  by_cases hRD:R < D
  ·have hz0:decide (z > 0)=true:=by rw [hdc];exact decide_eq_true hRD
   have hz1:0 < z:=of_decide_eq_true hz0
   obtain ⟨LR,⟨y3,e3⟩,⟨y4,e4⟩,f3,f4⟩:=YES.out w2 G2.out hRD
   obtain ⟨u0,u1,u2⟩:=H2.out
   have hpw:=PW.out
   have V0:Hid (((w2.setCell ⟨p,3,none⟩ (.int .u64 q2)).setCell ⟨p,4,none⟩ (.int .u64 q3)).cell? ⟨w1.heap.size,0,none⟩=some (.int .i64 xi)/\((w2.setCell ⟨p,3,none⟩ (.int .u64 q2)).setCell ⟨p,4,none⟩ (.int .u64 q3)).cell? ⟨w1.heap.size,1,none⟩=some (.int .u64 q2)/\((w2.setCell ⟨p,3,none⟩ (.int .u64 q2)).setCell ⟨p,4,none⟩ (.int .u64 q3)).cell? ⟨w1.heap.size,2,none⟩=some (.int .u64 q3)):=by
    have kk:Tk.Kp (fun k=>k=p) w2 ((w2.setCell ⟨p,3,none⟩ (.int .u64 q2)).setCell ⟨p,4,none⟩ (.int .u64 q3)):=((Tk.Kp.refl (fun k=>k=p) w2).setCell (.inl rfl) _).setCell (.inl rfl) _
    exact ⟨kp_cell kk u0 (by omega),kp_cell kk u1 (by omega),kp_cell kk u2 (by omega)⟩
   have LY:Hid _:=LR
   clear hdc hz0 YES NO G2 RD LR hpw
   go_wp2_with fail
   have LR:=LY.out
   clear LY e3 e4 f3 f4 u0 u1 u2
   obtain ⟨cI,x7,x8,x9,x10,x11⟩:=CLS.out _ LR
   have LRH:Hid (LdR Iq wr p (T p) D vl vh vr ((w2.setCell ⟨p,3,none⟩ (.int .u64 q2)).setCell ⟨p,4,none⟩ (.int .u64 q3))):=LR
   clear CLS LR
   rcases ENDS.out with ⟨hk,FIN⟩ | ⟨l,h,n',hk,hn',NXT⟩
   ·rw [hk] at cI
    have FF:Hid _:=FIN _ LRH.out
    clear FIN LRH ENDS hk x7 x8 x9 x10 x11
    go_wp2_with fail
    go_fit cI
    rintro e w5 ⟨rfl,rfl⟩
    clear cI
    go_wp2
    go_ret
    exact FF.out
   ·rw [hk] at cI x10 x11
    dsimp only [Option.map,kidV] at x10 x11
    have NX:Hid (∀ W,Gb ((w2.setCell ⟨p,3,none⟩ (.int .u64 q2)).setCell ⟨p,4,none⟩ (.int .u64 q3)) W->LdI Iq m (xi,.slice ua nx uc,xl) sb w b0 F0 R0 w.heap.size n' (.pointer (some ⟨if ab=true then l else h,0,none⟩)) W):=fun W g=>NXT _ (LdR.gb LRH.out g)
    have FS6:(fun W=>W.cell? ⟨w1.heap.size,0,none⟩=some (.int .i64 xi)/\W.cell? ⟨w1.heap.size,1,none⟩=some (.int .u64 q2)/\W.cell? ⟨w1.heap.size,2,none⟩=some (.int .u64 q3)/\W.cell? ⟨p,7,none⟩=some (.int .i64 k1)/\W.cell? ⟨p,8,none⟩=some (.int .u64 k2)/\W.cell? ⟨p,9,none⟩=some (.int .u64 k3)) ((w2.setCell ⟨p,3,none⟩ (.int .u64 q2)).setCell ⟨p,4,none⟩ (.int .u64 q3)).drew:=⟨V0.out.1,V0.out.2.1,V0.out.2.2,x7,x8,x9⟩
    have K10:Hid (∀ W,Gb ((w2.setCell ⟨p,3,none⟩ (.int .u64 q2)).setCell ⟨p,4,none⟩ (.int .u64 q3)).drew W->W.cell? ⟨p,10,none⟩=some (.pointer (some ⟨l,0,none⟩))/\W.cell? ⟨p,11,none⟩=some (.pointer (some ⟨h,0,none⟩))/\Gb ((w2.setCell ⟨p,3,none⟩ (.int .u64 q2)).setCell ⟨p,4,none⟩ (.int .u64 q3)) W):=fun W g=>⟨gb_keeps g x10,gb_keeps g x11,gb_trans (Below.refl _ _).drew g⟩
    clear NXT LRH ENDS hk x7 x8 x9 x10 x11
    generalize ((w2.setCell ⟨p,3,none⟩ (.int .u64 q2)).setCell ⟨p,4,none⟩ (.int .u64 q3))=WX at *
    go_wp2_with fail
    go_fit cI
    rintro e w5 ⟨rfl,rfl⟩
    clear cI
    go_wp2_with fail
    refine wp_region_held_drew (S:=fun W=>W.cell? ⟨w1.heap.size,0,none⟩=some (.int .i64 xi)/\W.cell? ⟨w1.heap.size,1,none⟩=some (.int .u64 q2)/\W.cell? ⟨w1.heap.size,2,none⟩=some (.int .u64 q3)/\W.cell? ⟨p,7,none⟩=some (.int .i64 k1)/\W.cell? ⟨p,8,none⟩=some (.int .u64 k2)/\W.cell? ⟨p,9,none⟩=some (.int .u64 k3)) (by kernel_rfl) (FS6) (fun hHeld=>?_)
    refine tkn 0 ?_ rfl ?_ ?_;rotate_left;·(rintro w ⟨s0,s1,s2,s3,s4,s5⟩;go_simp;try rfl)
    refine tkn 1 ?_ rfl ?_ ?_;rotate_left;·(rintro w ⟨s0,s1,s2,s3,s4,s5⟩;go_simp;try rfl)
    refine tkn 2 ?_ rfl ?_ ?_;rotate_left;·(rintro w ⟨s0,s1,s2,s3,s4,s5⟩;go_simp;try rfl)
    refine tkn 3 ?_ rfl ?_ ?_;rotate_left;·(rintro w ⟨s0,s1,s2,s3,s4,s5⟩;go_simp;try rfl)
    refine tkn 4 ?_ rfl ?_ ?_;rotate_left;·(rintro w ⟨s0,s1,s2,s3,s4,s5⟩;go_simp;try rfl)
    refine rdn 5 rfl (fun K hK=>?_)
    go_simp
    go_fit (cL _)
    rintro e w6 ⟨rfl,g6⟩
    refine hK.out _ _ (⟨gb_keeps g6.gr hHeld.1,gb_keeps g6.gr hHeld.2.1,gb_keeps g6.gr hHeld.2.2.1,gb_keeps g6.gr hHeld.2.2.2.1,gb_keeps g6.gr hHeld.2.2.2.2.1,gb_keeps g6.gr hHeld.2.2.2.2.2⟩) (fun hHeld=>?_)
    clear hK K
    refine tkn 6 ?_ rfl ?_ ?_;rotate_left;·(rintro w ⟨s0,s1,s2,s3,s4,s5⟩;go_simp;try rfl)
    refine wpAnyH_done (by kernel_rfl) ?_ _
    obtain ⟨x10,x11,gX⟩:=K10.out _ g6.gr
    have NY:Hid _:=NX.out _ gX
    clear hHeld FS6 cL NX K10 g6 gX
    cases ab with
    | true =>
     go_wp2
     go_roundg n'
     case measure=>exact hn'
     case rel=>exact NY
    | false =>
     go_wp2
     go_roundg n'
     case measure=>exact hn'
     case rel=>exact NY
  ·have hz0:decide (z > 0)=false:=by rw [hdc];exact decide_eq_false hRD
   have hz1:¬ 0 < z:=of_decide_eq_false hz0
   have LR:=NO.out w2 G2.out (by omega)
   clear hdc hz0 YES NO G2 RD
   obtain ⟨cI,x7,x8,x9,x10,x11⟩:=CLS.out _ LR
   have LRH:Hid (LdR Iq wr p (T p) D vl vh vr (w2)):=LR
   clear CLS LR
   rcases ENDS.out with ⟨hk,FIN⟩ | ⟨l,h,n',hk,hn',NXT⟩
   ·rw [hk] at cI
    have FF:Hid _:=FIN _ LRH.out
    clear FIN LRH ENDS hk x7 x8 x9 x10 x11
    go_wp2_with fail
    go_fit cI
    rintro e w5 ⟨rfl,rfl⟩
    clear cI
    go_wp2
    go_ret
    exact FF.out
   ·rw [hk] at cI x10 x11
    dsimp only [Option.map,kidV] at x10 x11
    have NX:Hid (∀ W,Gb (w2) W->LdI Iq m (xi,.slice ua nx uc,xl) sb w b0 F0 R0 w.heap.size n' (.pointer (some ⟨if ab=true then l else h,0,none⟩)) W):=fun W g=>NXT _ (LdR.gb LRH.out g)
    have FS6:(fun W=>W.cell? ⟨w1.heap.size,0,none⟩=some (.int .i64 xi)/\W.cell? ⟨w1.heap.size,1,none⟩=some (.int .u64 q2)/\W.cell? ⟨w1.heap.size,2,none⟩=some (.int .u64 q3)/\W.cell? ⟨p,7,none⟩=some (.int .i64 k1)/\W.cell? ⟨p,8,none⟩=some (.int .u64 k2)/\W.cell? ⟨p,9,none⟩=some (.int .u64 k3)) (w2).drew:=⟨H2.out.1,H2.out.2.1,H2.out.2.2,x7,x8,x9⟩
    have K10:Hid (∀ W,Gb (w2).drew W->W.cell? ⟨p,10,none⟩=some (.pointer (some ⟨l,0,none⟩))/\W.cell? ⟨p,11,none⟩=some (.pointer (some ⟨h,0,none⟩))/\Gb (w2) W):=fun W g=>⟨gb_keeps g x10,gb_keeps g x11,gb_trans (Below.refl _ _).drew g⟩
    clear NXT LRH ENDS hk x7 x8 x9 x10 x11
    generalize (w2)=WX at *
    go_wp2_with fail
    go_fit cI
    rintro e w5 ⟨rfl,rfl⟩
    clear cI
    go_wp2_with fail
    refine wp_region_held_drew (S:=fun W=>W.cell? ⟨w1.heap.size,0,none⟩=some (.int .i64 xi)/\W.cell? ⟨w1.heap.size,1,none⟩=some (.int .u64 q2)/\W.cell? ⟨w1.heap.size,2,none⟩=some (.int .u64 q3)/\W.cell? ⟨p,7,none⟩=some (.int .i64 k1)/\W.cell? ⟨p,8,none⟩=some (.int .u64 k2)/\W.cell? ⟨p,9,none⟩=some (.int .u64 k3)) (by kernel_rfl) (FS6) (fun hHeld=>?_)
    refine tkn 0 ?_ rfl ?_ ?_;rotate_left;·(rintro w ⟨s0,s1,s2,s3,s4,s5⟩;go_simp;try rfl)
    refine tkn 1 ?_ rfl ?_ ?_;rotate_left;·(rintro w ⟨s0,s1,s2,s3,s4,s5⟩;go_simp;try rfl)
    refine tkn 2 ?_ rfl ?_ ?_;rotate_left;·(rintro w ⟨s0,s1,s2,s3,s4,s5⟩;go_simp;try rfl)
    refine tkn 3 ?_ rfl ?_ ?_;rotate_left;·(rintro w ⟨s0,s1,s2,s3,s4,s5⟩;go_simp;try rfl)
    refine tkn 4 ?_ rfl ?_ ?_;rotate_left;·(rintro w ⟨s0,s1,s2,s3,s4,s5⟩;go_simp;try rfl)
    refine rdn 5 rfl (fun K hK=>?_)
    go_simp
    go_fit (cL _)
    rintro e w6 ⟨rfl,g6⟩
    refine hK.out _ _ (⟨gb_keeps g6.gr hHeld.1,gb_keeps g6.gr hHeld.2.1,gb_keeps g6.gr hHeld.2.2.1,gb_keeps g6.gr hHeld.2.2.2.1,gb_keeps g6.gr hHeld.2.2.2.2.1,gb_keeps g6.gr hHeld.2.2.2.2.2⟩) (fun hHeld=>?_)
    clear hK K
    refine tkn 6 ?_ rfl ?_ ?_;rotate_left;·(rintro w ⟨s0,s1,s2,s3,s4,s5⟩;go_simp;try rfl)
    refine wpAnyH_done (by kernel_rfl) ?_ _
    obtain ⟨x10,x11,gX⟩:=K10.out _ g6.gr
    have NY:Hid _:=NX.out _ gX
    clear hHeld FS6 cL NX K10 g6 gX
    cases ab with
    | true =>
     go_wp2
     go_roundg n'
     case measure=>exact hn'
     case rel=>exact NY
    | false =>
     go_wp2
     go_roundg n'
     case measure=>exact hn'
     case rel=>exact NY
end Go.Proofs.YtepjbdklljlecaaGreat
