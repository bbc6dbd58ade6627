import Derived.Test.YtepjbdklljlecaaGreatVr22
import Derived.Test.YtepjbdklljlecaaGreatVr5
import Derived.Laws.EntriesVeiled
import Derived.Test.YtepjbdklljlecaaGreatVr19
namespace Go.Proofs.YtepjbdklljlecaaGreat
open Go.RowKit Go.Sort Go.Maps
set_option maxRecDepth 100000
set_option maxHeartbeats 2000000
structure Env (w:World) (tx tb sb fb leaf:Nat):Prop where
 t:w.cell? ⟨tx,0,none⟩=some (.pointer (some ⟨tb,0,none⟩))
 l:w.cell? ⟨tb,1,none⟩=some (.int .i64 (leaf:Int))
 s:w.cell? ⟨tb,2,none⟩=some (.pointer (some ⟨sb,0,none⟩))
 f:w.cell? ⟨fb,0,none⟩=some (.func (.func 92) #[] #[.pointer (some ⟨tx,0,none⟩),.pointer (some ⟨fb,0,none⟩)])
 src:SrcAt w sb
theorem SrcAt.nef {w:World} {sb fb tx:Nat} (h:SrcAt w sb) (c:w.cell? ⟨fb,0,none⟩=some (.func (.func 92) #[] #[.pointer (some ⟨tx,0,none⟩),.pointer (some ⟨fb,0,none⟩)])):¬ fb=sb:=by
 rintro rfl
 obtain ⟨y,_,h⟩:=h
 unfold Boxed at h
 simp [World.cell?,h] at c
theorem Env.kp {w w':World} {tx tb sb fb leaf:Nat} (h:Env w tx tb sb fb leaf) (k:Tk.Kp (fun b=>b=sb) w w') (hs:SrcAt w' sb):Env w' tx tb sb fb leaf :=
 ⟨kp_cell k h.t (h.src.ne0 h.t),kp_cell k h.l (h.src.ne1 h.l),kp_cell k h.s (h.src.ne1 h.l),kp_cell k h.f (h.src.nef h.f),hs⟩
theorem kp_off {w w1 w2:World} {sb pb:Nat} (h:Tk.Kp (fun b=>b=sb) w w1) (k:Tk.Kp (fun b=>b=pb) w1 w2) (hp:w.heap.size<=pb):Tk.Kp (fun b=>b=sb) w w2 :=
 ⟨k.os.trans h.os,k.tape.trans h.tape,k.output.trans h.output,Nat.le_trans h.size k.size,fun b hb hn=>(k.block b (Nat.lt_of_lt_of_le hb h.size) (by omega)).trans (h.block b hb hn)⟩
theorem kp_put {W:World} {b:Nat} (i:Nat) (x:Value):Tk.Kp (fun k=>k=b) W (W.setCell ⟨b,i,none⟩ x):=Tk.Kp.setCell (S:=fun k=>k=b) (Tk.Kp.refl _ W) (p:=⟨b,i,none⟩) (.inl rfl) x
theorem cut_many {Iq:Nat->Prop} {m leaf tx tb sb fb:Nat} (hm:1<=m/\m<=64) (hlf:1<=leaf/\leaf<=100000) (k:Nat)
  (ih:∀ (d:List Rt),d.length<=k->∀ (w:World) (g o cap:Nat),RwAt w g o d->CutIn Iq w m d->d.length<=cap->Env w tx tb sb fb leaf->Calls Tryz.prog 92 #[.slice (some ⟨g,o,none⟩) d.length cap,.pointer (some ⟨tx,0,none⟩),.pointer (some ⟨fb,0,none⟩)] w fun e w'=>CutOut Iq w sb m d e w')
  (d:List Rt) (hdk:d.length<=k + 1) (hgt:leaf < d.length) {w:World} {g o cap:Nat} (hR:RwAt w g o d) (hI:CutIn Iq w m d) (hE:Env w tx tb sb fb leaf) :
  Calls Tryz.prog 92 #[.slice (some ⟨g,o,none⟩) d.length cap,.pointer (some ⟨tx,0,none⟩),.pointer (some ⟨fb,0,none⟩)] w fun e w'=>CutOut Iq w sb m d e w':=by
 have IH:Hid (∀ (d:List Rt),d.length<=k->∀ (w:World) (g o cap:Nat),RwAt w g o d->CutIn Iq w m d->d.length<=cap->Env w tx tb sb fb leaf->Calls Tryz.prog 92 #[.slice (some ⟨g,o,none⟩) d.length cap,.pointer (some ⟨tx,0,none⟩),.pointer (some ⟨fb,0,none⟩)] w fun e w'=>CutOut Iq w sb m d e w'):=ih
 have h512:=hI.ok.few
 rw [List.length_map] at h512
 have hp:0 < d.length:=by omega
 have hd:d ≠ []:=List.length_pos_iff.1 hp
 have hS:=hE.src
 have ct:=hE.t
 have n3:=hS.ner hR
 have ni:=hS.noint
 have HH:Hid (RwAt w g o d/\CutIn Iq w m d/\Env w tx tb sb fb leaf/\d ≠ []/\¬ g=sb/\d.length<=k + 1):=⟨hR,hI,hE,hd,n3,hdk⟩
 obtain ⟨x,ux,hx⟩:=hS
 have cB:=ballOf_c (v:=.slice (some ⟨g,o,none⟩) d.length cap) (rs:=d.map rwR) (d:=m) hE.s hx ux (fun W k=>RwRd.rdw (hR.kp k n3).rd fun y hy=>(ownq_noint (hI.vec y hy) k ni).rd) (by rw [List.length_map];omega) (by rw [List.length_map];omega) (idsE_zero.2 hI.ok) (fun i hi=>by
  rw [getElem!_pos _ i hi]
  exact okId_wf (hI.ok.row _ (List.getElem_mem hi)).1)
 obtain ⟨n,hN⟩:∃ n,n=d.length:=⟨_,rfl⟩
 have N:Hid (n=d.length):=hN
 rw [<- hN] at cB h512 hp hgt ⊢
 have hn0:((n:Int) == 0)=false:=by rw [beq_eq_false_iff_ne];omega
 have hlei:¬ (n:Int)<=(leaf:Int):=by omega
 obtain ⟨mid,hmid⟩:∃ mid,mid=n / 2:=⟨_,rfl⟩
 have M:Hid (1<=mid/\mid < n):=⟨by omega,by omega⟩
 have hq1:(n:Int).tdiv 2=(mid:Int):=by rw [Int.tdiv_eq_ediv_of_nonneg (by omega)];omega
 have hq2:IntKind.i64.wrap (mid:Int)=(mid:Int):=by rw [IntKind.wrap_i64];omega
 have hq3:wrap64 (mid:Int)=(mid:Int):=by simp only [wrap64];omega
 clear hR hI hd hN hx ux hE ih hdk hmid ni n3
 go_enter Tryz.func92,Tryz.ntmps92
 go_wp2_with fail
 go_fit cB
 rintro e w1 ⟨j,vl,vh,hj,rfl,ol,oh,hS1,k1⟩
 have E1:=HH.out.2.2.1.kp k1 hS1
 have I1:=HH.out.2.1.kp k1 HH.out.2.2.1.src.noint
 obtain ⟨al,cl,el,_⟩:=ol.rd
 obtain ⟨ah,ch,eh,_⟩:=oh.rd
 subst el eh
 have BB:=ball_box HH.out.2.1.ok hm hj
 have kC:chk (d.map rwR)[j]!.2 (m:Int)=0:=by
  rw [getElem!_pos _ j hj]
  exact (HH.out.2.1.ok.row _ (List.getElem_mem hj)).2
 obtain ⟨V,hV⟩:∃ V,V=(d.map rwR)[j]!.2:=⟨_,rfl⟩
 rw [<- hV] at ol BB kC ⊢
 obtain ⟨R,hRR⟩:∃ R,R=radN V (d.map rwR) (d.map rwR).length:=⟨_,rfl⟩
 rw [<- hRR] at BB ⊢
 dsimp only [rv]
 obtain ⟨nV,hnV⟩:∃ n,n=V.length:=⟨_,rfl⟩
 rw [<- hnV] at ol ⊢
 have ga:Gb w1 (w1.alloc (.cells #[.int .i64 3,.slice al nV cl,.slice ah 0 ch,.int .u64 (hi R),.int .u64 (lo R),.slice none 0 0,.slice none 0 0,.int .i64 0,.int .u64 0,.int .u64 0,.pointer none,.pointer none] 117)):=gb_alloc (Below.refl _ _) _
 have ct2:=gb_keeps ga E1.t
 have c12:=gb_keeps ga E1.l
 have cO:=outward_c (cap:=cap) (pb:=w1.heap.size) (cv:=.slice al nV cl) (m:=(m:Int)) (w:=w1.alloc (.cells #[.int .i64 3,.slice al nV cl,.slice ah 0 ch,.int .u64 (hi R),.int .u64 (lo R),.slice none 0 0,.slice none 0 0,.int .i64 0,.int .u64 0,.int .u64 0,.pointer none,.pointer none] 117)) (by simp [go_sem]) (ol.gb ga).rd kC ((HH.out.1.kp k1 HH.out.2.2.2.2.1).gbv ga) (fun y hy=>⟨((I1.vec y hy).gb ga).rd,(HH.out.2.1.ok.row (rwR y) (List.mem_map.2 ⟨y,hy,rfl⟩)).2⟩) HH.out.2.2.2.1 (by have:=N.out;omega)
 rw [<- N.out] at cO
 have SZ:Hid (w1.heap.size < (w1.alloc (.cells #[.int .i64 3,.slice al nV cl,.slice ah 0 ch,.int .u64 (hi R),.int .u64 (lo R),.slice none 0 0,.slice none 0 0,.int .i64 0,.int .u64 0,.int .u64 0,.pointer none,.pointer none] 117)).heap.size):=by unfold Hid;rw [World.size_alloc];omega
 have X1:Hid (Tk.Kp (fun b=>b=sb) w w1/\Env w1 tx tb sb fb leaf/\CutIn Iq w1 m d/\Own w1 w.heap.size (.slice al nV cl) V/\Own w1 w.heap.size (.slice ah 0 ch) []/\(∀ l ct kd,BoxOk m ⟨⟨3,V,[],R,[]⟩,l,ct,kd⟩ (d.map rwR))/\R < 340282366920938463463374607431768211456/\chk V (m:Int)=0):=⟨k1,E1,I1,ol,oh,BB.1,BB.2,kC⟩
 have hb1:Hid ((w1.alloc (.cells #[.int .i64 3,.slice al nV cl,.slice ah 0 ch,.int .u64 (hi R),.int .u64 (lo R),.slice none 0 0,.slice none 0 0,.int .i64 0,.int .u64 0,.int .u64 0,.pointer none,.pointer none] 117)).heap[w1.heap.size]? = some (.cells #[.int .i64 3,.slice al nV cl,.slice ah 0 ch,.int .u64 (hi R),.int .u64 (lo R),.slice none 0 0,.slice none 0 0,.int .i64 0,.int .u64 0,.int .u64 0,.pointer none,.pointer none] 117)):=heap_new _ _
 clear hRR hV cB BB ol oh hS1 k1 ct E1 I1 kC hnV ga
 go_wp2_with fail
 go_fit cO
 rintro e w3 ⟨v,d',rfl,pm,hs,ow,k3⟩
 have hl':d'.length=n:=by rw [pm.length_eq];exact N.out.symm
 have hmd:mid < d'.length:=by have:=M.out;omega
 obtain ⟨g3,c3,ev,hc3⟩:∃ g3 c3,v=.slice (some ⟨g3,0,none⟩) d'.length c3/\d'.length<=c3:=by
  rcases ow.2 with ⟨_,h0⟩ | ⟨g3,c3,cur,e,_,_,hle,_⟩
  ·omega
  ·exact ⟨g3,c3,e,hle⟩
 subst ev
 obtain ⟨R3,b3,l3⟩:=rwAt_own ow
 have ga:Gb w1 w3:=gb_trans (gb_alloc (Below.refl _ _) _) k3
 have I3:CutIn Iq w3 m d':=((X1.out.2.2.1.kp (Tk.Kp.of_gr (S:=fun b=>b=sb) ga) X1.out.2.1.src.noint).perm pm)
 obtain ⟨x,hx⟩:∃ x,x=d'[mid]:=⟨_,rfl⟩
 have xm:x ∈ d':=hx ▸ List.getElem_mem hmd
 obtain ⟨q1,q2⟩:=R3.rd mid hmd
 rw [<- hx,Nat.zero_add] at q1 q2
 have xr:=(I3.vec x xm).rd
 have xk:chk x.2.2 (m:Int)=0:=(I3.ok.row (rwR x) (List.mem_map.2 ⟨x,xm,rfl⟩)).2
 have HB:w3.heap[w1.heap.size]? = some (.cells #[.int .i64 3,.slice al nV cl,.slice ah 0 ch,.int .u64 (hi R),.int .u64 (lo R),.slice none 0 0,.slice none 0 0,.int .i64 0,.int .u64 0,.int .u64 0,.pointer none,.pointer none] 117):=(k3.block _ SZ.out).trans hb1.out
 have cH:=hit_c (xi:=x.1) (pb:=w1.heap.size) (cv:=.slice al nV cl) (by simp [World.cell?,HB]) (X1.out.2.2.2.1.gb ga).rd xr X1.out.2.2.2.2.2.2.2 xk
 have X3:Hid (Gb w1 w3/\CutIn Iq w3 m d'/\RwAt w3 g3 0 d'/\d'.Perm d/\(d'.Pairwise fun x y=>¬ Tk.cf (hitOf V (rwR y)) (hitOf V (rwR x)) < 0)/\x=d'[mid]/\w3.heap[w1.heap.size]? = some (.cells #[.int .i64 3,.slice al nV cl,.slice ah 0 ch,.int .u64 (hi R),.int .u64 (lo R),.slice none 0 0,.slice none 0 0,.int .i64 0,.int .u64 0,.int .u64 0,.pointer none,.pointer none] 117)/\d'.length=n/\(w1.alloc (.cells #[.int .i64 3,.slice al nV cl,.slice ah 0 ch,.int .u64 (hi R),.int .u64 (lo R),.slice none 0 0,.slice none 0 0,.int .i64 0,.int .u64 0,.int .u64 0,.pointer none,.pointer none] 117)).heap.size<=g3):=⟨ga,I3,R3,pm,hs,hx,HB,hl',b3⟩
 obtain ⟨pu,cu,eu,_⟩:=xr
 obtain ⟨nx,hnx⟩:∃ nx,nx=x.2.2.length:=⟨_,rfl⟩
 rw [<- hnx] at eu
 obtain ⟨xi,u,xl⟩:=x
 dsimp only at eu q1 q2 cH hnx
 subst eu
 have hHit:hitOf V (xi,xl)=hitOf V (rwR (xi,Value.slice pu nx cu,xl)):=rfl
 rw [hHit] at cH
 obtain ⟨ht,hht⟩:∃ ht,ht=hitOf V (rwR (xi,Value.slice pu nx cu,xl)):=⟨_,rfl⟩
 rw [<- hht] at cH
 have HT:Hid (ht=hitOf V (rwR (xi,Value.slice pu nx cu,xl))):=hht
 obtain ⟨h0,h1,h2⟩:=ht
 have hmni:(mid:Int) < (n:Int):=by have:=M.out.2;omega
 have hmn2:(mid:Int)<=(n:Int):=by omega
 have hmc:(mid:Int)<=(c3:Int):=by omega
 rw [hl'] at hc3 ⊢
 clear cO k3 ow pm hs hx xm xk I3 R3 ga HB hb1 ct2 c12 b3 l3 hHit hht hnx hl'
 go_wp2_with fail
 go_fit cH
 rintro e w4 ⟨rfl,k4⟩
 have HB4:Hid (w4.heap[w1.heap.size]? = some (.cells #[.int .i64 3,.slice al nV cl,.slice ah 0 ch,.int .u64 (hi R),.int .u64 (lo R),.slice none 0 0,.slice none 0 0,.int .i64 0,.int .u64 0,.int .u64 0,.pointer none,.pointer none] 117)):=(k4.block _ (Array.getElem?_eq_some_iff.1 X3.out.2.2.2.2.2.2.1).1).trans X3.out.2.2.2.2.2.2.1
 have fr:∀ i,w4.frozen? ⟨w1.heap.size,i,none⟩=false:=fun i=>by simp [World.frozen?,HB4.out]
 have f7:=fr 7
 have f8:=fr 8
 have f9:=fr 9
 have c7:w4.cell? ⟨w1.heap.size,7,none⟩=some (.int .i64 0):=by simp [World.cell?,HB4.out]
 have c8:w4.cell? ⟨w1.heap.size,8,none⟩=some (.int .u64 0):=by simp [World.cell?,HB4.out]
 have c9:w4.cell? ⟨w1.heap.size,9,none⟩=some (.int .u64 0):=by simp [World.cell?,HB4.out]
 dsimp only [Tk.hv,Tk.Ht.id,Tk.Ht.hi,Tk.Ht.lo]
 have K4:Hid (Gb w3 w4):=k4
 clear cH k4 fr q1 q2
 go_wp2_with fail
 obtain ⟨W5,hW5⟩:∃ W5,W5=((w4.setCell ⟨w1.heap.size,7,none⟩ (.int .i64 h0)).setCell ⟨w1.heap.size,8,none⟩ (.int .u64 h1)).setCell ⟨w1.heap.size,9,none⟩ (.int .u64 h2):=⟨_,rfl⟩
 rw [<- hW5]
 have K5:Tk.Kp (fun b=>b=w1.heap.size) w3 W5.drew:=by
  have a1:Tk.Kp (fun b=>b=w1.heap.size) w3 w4:=Tk.Kp.of_gr K4.out
  have a2:Tk.Kp (fun b=>b=w1.heap.size) w3 W5:=by rw [hW5];exact ((a1.trans (kp_put 7 _)).trans (kp_put 8 _)).trans (kp_put 9 _)
  exact a2.trans (Tk.Kp.of_gr (show Gb W5 W5.drew from Below.drew (Below.refl _ _)))
 have B5:W5.drew.heap[w1.heap.size]? = some (.cells #[.int .i64 3,.slice al nV cl,.slice ah 0 ch,.int .u64 (hi R),.int .u64 (lo R),.slice none 0 0,.slice none 0 0,.int .i64 h0,.int .u64 h1,.int .u64 h2,.pointer none,.pointer none] 117):=by
  show W5.heap[w1.heap.size]? = _
  rw [hW5,put_cell (put_cell (put_cell HB4.out))];rfl
 clear hW5 f7 f8 f9 c7 c8 c9
 have hlw:=X1.out.1.size
 have n5:NoInt w3 fun b=>b=w1.heap.size:=by
  rintro x rfl cur s e
  rw [X3.out.2.2.2.2.2.2.1] at e
  simp at e
 have K3:Tk.Kp (fun b=>b=sb) w w3:=X1.out.1.trans (Tk.Kp.of_gr X3.out.1)
 have hsl:=X1.out.2.1.src.lt
 have S3:SrcAt w3 sb:=X1.out.2.1.src.gb X3.out.1
 have S5:SrcAt W5.drew sb:=by
  obtain ⟨y,hy,h⟩:=S3
  exact ⟨y,hy,(K5.block sb h.lt (by omega)).trans h⟩
 have KW:Tk.Kp (fun b=>b=sb) w W5.drew:=kp_off K3 K5 hlw
 have E5:Env W5.drew tx tb sb fb leaf:=HH.out.2.2.1.kp KW S5
 have hgl:=X3.out.2.2.2.2.2.2.2.2
 rw [World.size_alloc] at hgl
 have RV:RwAt W5.drew g3 0 d':=X3.out.2.2.1.kp K5 (by omega)
 have CV:CutIn Iq W5.drew m d':=X3.out.2.1.kp K5 n5
 have hl':=X3.out.2.2.2.2.2.2.2.1
 have hmd':=M.out
 have lt1:(d'.take mid).length=mid:=by rw [List.length_take];omega
 have lt2:(d'.drop mid).length=n - mid:=by rw [List.length_drop];omega
 have ND:Hid (d'.take mid ≠ []/\d'.drop mid ≠ []):=⟨fun e=>by rw [e] at lt1;have:=M.out.1;simp at lt1;omega,fun e=>by rw [e] at lt2;have:=M.out.2;simp at lt2;omega⟩
 have cc1:=IH.out (d'.take mid) (by have h1:=HH.out.2.2.2.2.2;have:=N.out;omega) _ g3 0 c3 RV.take (CV.sub (List.take_sublist _ _)) (by omega) E5
 rw [lt1] at cc1
 have n5s:NoInt W5.drew fun b=>b=sb:=S5.noint
 have CC2:Hid (∀ w5,Tk.Kp (fun b=>b=sb) W5.drew w5->SrcAt w5 sb->Calls Tryz.prog 92 #[.slice (some ⟨g3,mid * 2,none⟩) (n - mid) (c3 - mid),.pointer (some ⟨tx,0,none⟩),.pointer (some ⟨fb,0,none⟩)] w5 fun e w'=>CutOut Iq w5 sb m (d'.drop mid) e w'):=by
  intro w5 k5 s5
  have:=IH.out (d'.drop mid) (by have h1:=HH.out.2.2.2.2.2;have:=N.out;omega) w5 g3 (mid * 2) (c3 - mid) (by have:=(RV.drop (n:=mid) (by omega)).kp k5 (S5.ner RV);rwa [Nat.zero_add] at this) ((CV.kp k5 n5s).sub (List.drop_sublist _ _)) (by omega) (E5.kp k5 s5)
  rwa [lt2] at this
 have hl5:w1.heap.size < W5.drew.heap.size:=(Array.getElem?_eq_some_iff.1 B5).1
 have FINQ:Hid (∀ w5 w6 b1 b2 T1 T2 F1 F2,(∀ N,(d'.take mid).length<=N->TrO Iq w5 T1 (N + 1) b1 F1/\OkP T1 m N (T1 b1)/\(rowsP T1 N (T1 b1)).Perm ((d'.take mid).map rwR))->F1.Nodup->(∀ x ∈ F1,W5.drew.heap.size<=x)->SrcAt w5 sb->Tk.Kp (fun b=>b=sb) W5.drew w5 ->
   (∀ N,(d'.drop mid).length<=N->TrO Iq w6 T2 (N + 1) b2 F2/\OkP T2 m N (T2 b2)/\(rowsP T2 N (T2 b2)).Perm ((d'.drop mid).map rwR))->F2.Nodup->(∀ x ∈ F2,w5.heap.size<=x)->SrcAt w6 sb->Tk.Kp (fun b=>b=sb) w5 w6 ->
   CutOut Iq w sb m d (.returned (.pointer (some ⟨w1.heap.size,0,none⟩))) ((w6.setCell ⟨w1.heap.size,10,none⟩ (.pointer (some ⟨b1,0,none⟩))).setCell ⟨w1.heap.size,11,none⟩ (.pointer (some ⟨b2,0,none⟩)))):=by
  intro w5 w6 b1 b2 T1 T2 F1 F2 t1 nd1 l1 s5 k5 t2 nd2 l2 s6 k6
  have B6:w6.heap[w1.heap.size]? = some (.cells #[.int .i64 3,.slice al nV cl,.slice ah 0 ch,.int .u64 (hi R),.int .u64 (lo R),.slice none 0 0,.slice none 0 0,.int .i64 h0,.int .u64 h1,.int .u64 h2,.pointer none,.pointer none] 117):=by
   rw [k6.block _ (Nat.lt_of_lt_of_le hl5 k5.size) (by omega),k5.block _ hl5 (by omega)];exact B5
  have kk:Tk.Kp (fun b=>b=w1.heap.size) w6 ((w6.setCell ⟨w1.heap.size,10,none⟩ (.pointer (some ⟨b1,0,none⟩))).setCell ⟨w1.heap.size,11,none⟩ (.pointer (some ⟨b2,0,none⟩))):=(kp_put 10 _).trans (kp_put 11 _)
  have n6:NoInt w6 fun b=>b=w1.heap.size:=by
   rintro x rfl cur s e
   rw [B6] at e
   simp at e
  have k06:Tk.Kp (fun b=>b=sb) w1 w6:=(kp_off (Tk.Kp.of_gr X3.out.1) K5 (Nat.le_refl _)).trans (k5.trans k6)
  have own:∀ {v:Value} {l:List Int},Own w1 w.heap.size v l->OwnQ Iq ((w6.setCell ⟨w1.heap.size,10,none⟩ (.pointer (some ⟨b1,0,none⟩))).setCell ⟨w1.heap.size,11,none⟩ (.pointer (some ⟨b2,0,none⟩))) v l:=fun h=>ownq_noint (ownq_noint (OwnQ.new h HH.out.2.1.up (Nat.le_refl _)) k06 X1.out.2.1.src.noint) kk n6
  have z5:=k5.size
  have z6:=k6.size
  refine node_out (W4:=W5.drew) (w5:=w5) (b1:=b1) (b2:=b2) (T1:=T1) (T2:=T2) (F1:=F1) (F2:=F2) HH.out.2.2.2.1 HH.out.2.1 X1.out.2.2.2.2.2.1 X1.out.2.2.2.2.2.2.1 X3.out.2.2.2.1 (by first | exact X3.out.2.2.2.2.1 | exact X3.out.2.2.2.2.1.imp (fun h=>Int.not_lt.2 h)) M.out.1 hmd X3.out.2.2.2.2.2.1 hlw hl5 z5 ?_ (own X1.out.2.2.2.1) (own X1.out.2.2.2.2.1) (kp_off (KW.trans (k5.trans k6)) kk hlw) ?_ ?_ nd1 ?_ ?_ nd2 l2
  ·rw [put_cell (put_cell B6),<- HT.out];rfl
  ·obtain ⟨y,hy,h⟩:=s6
   exact ⟨y,hy,(kk.block sb h.lt (by omega)).trans h⟩
  ·intro N hN
   obtain ⟨a,b⟩:=t1 N hN
   exact ⟨TrO.kp kk n6 _ _ _ (TrO.kp k6 s5.noint _ _ _ a (fun y hy e=>by have h1:=l1 y hy;have h2:y=sb:=e;have:=S5.lt;omega)) (fun y hy e=>by have h1:=l1 y hy;have h2:y=w1.heap.size:=e;omega),b⟩
  ·intro y hy
   exact ⟨l1 y hy,(t1 _ (Nat.le_refl _)).1.mem.2 y hy⟩
  ·intro N hN
   obtain ⟨a,b⟩:=t2 N hN
   exact ⟨TrO.kp kk n6 _ _ _ a (fun y hy e=>by have h1:=l2 y hy;have h2:y=w1.heap.size:=e;omega),b⟩
 have FS:(fun W=>W.cell? ⟨fb,0,none⟩=some (.func (.func 92) #[] #[.pointer (some ⟨tx,0,none⟩),.pointer (some ⟨fb,0,none⟩)])) W5.drew:=E5.f
 have hcne:¬ c3=mid:=by omega
 have NF:Hid (¬ fb=sb/\¬ fb=w1.heap.size):=⟨E5.src.nef E5.f,by have:=cell_lt HH.out.2.2.1.f;dsimp only at this;unfold Hid at *;omega⟩
 have PB:Hid (∀ w5 w6,Tk.Kp (fun b=>b=sb) W5.drew w5->Tk.Kp (fun b=>b=sb) w5 w6->w6.heap[w1.heap.size]? = some (.cells #[.int .i64 3,.slice al nV cl,.slice ah 0 ch,.int .u64 (hi R),.int .u64 (lo R),.slice none 0 0,.slice none 0 0,.int .i64 h0,.int .u64 h1,.int .u64 h2,.pointer none,.pointer none] 117)):=fun w5 w6 k5 k6=>by
  rw [k6.block _ (Nat.lt_of_lt_of_le hl5 k5.size) (by omega),k5.block _ hl5 (by omega)];exact B5
 clear K5 B5 hlw n5 K3 hsl S3 S5 KW E5 hgl RV CV hl' hmd' lt1 lt2 n5s hl5 HB4 K4 X1 X3 HH IH hgt hlei hn0 SZ HT
 refine wp_region_held_drew (S:=fun W=>W.cell? ⟨fb,0,none⟩=some (.func (.func 92) #[] #[.pointer (some ⟨tx,0,none⟩),.pointer (some ⟨fb,0,none⟩)])) (by kernel_rfl) (FS) (fun hHeld=>?_)
 refine tkn 0 ?_ rfl ?_ ?_;rotate_left;·(intro w hSw;(have s0:=hSw;try dsimp only at s0);go_simp;try rfl)
 refine tkn 1 ?_ rfl ?_ ?_;rotate_left;·(intro w hSw;(have s0:=hSw;try dsimp only at s0);go_simp;try rfl)
 refine tkn 2 ?_ rfl ?_ ?_;rotate_left;·(intro w hSw;(have s0:=hSw;try dsimp only at s0);go_simp;try rfl)
 refine tkn 3 ?_ rfl ?_ ?_;rotate_left;·(intro w hSw;(have s0:=hSw;try dsimp only at s0);go_simp;try rfl)
 refine tkn 4 ?_ rfl ?_ ?_;rotate_left;·(intro w hSw;(have s0:=hSw;try dsimp only at s0);go_simp;try rfl)
 refine tkn 5 ?_ rfl ?_ ?_;rotate_left;·(intro w hSw;(have s0:=hSw;try dsimp only at s0);go_simp;try rfl)
 refine tkn 7 ?_ rfl ?_ ?_;rotate_left;·(intro w hSw;(have s0:=hSw;try dsimp only at s0);go_simp;try rfl)
 refine tkn 8 ?_ rfl ?_ ?_;rotate_left;·(intro w hSw;(have s0:=hSw;try dsimp only at s0);go_simp;try rfl)
 refine tkn 9 ?_ rfl ?_ ?_;rotate_left;·(intro w hSw;(have s0:=hSw;try dsimp only at s0);go_simp;try rfl)
 refine tkn 10 ?_ rfl ?_ ?_;rotate_left;·(intro w hSw;(have s0:=hSw;try dsimp only at s0);go_simp;try rfl)
 refine rdn 6 rfl (fun K hK=>?_)
 go_simp
 go_fit cc1
 rintro e w5 ⟨_,hE1⟩
 obtain ⟨⟨b1,T1,F1,rfl,t1,nd1,l1⟩,s5,k5⟩:=hE1 ND.out.1
 refine hK.out _ _ (kp_cell k5 hHeld NF.out.1) (fun hHeld=>?_)
 clear hK K
 have cc2:=CC2.out _ k5 s5
 refine rdn 11 rfl (fun K hK=>?_)
 go_simp
 go_fit cc2
 rintro e w6 ⟨_,hE2⟩
 obtain ⟨⟨b2,T2,F2,rfl,t2,nd2,l2⟩,s6,k6⟩:=hE2 ND.out.2
 refine hK.out _ _ (kp_cell k6 hHeld NF.out.1) (fun hHeld=>?_)
 clear hK K
 have B6:=PB.out _ _ k5 k6
 have f10:w6.frozen? ⟨w1.heap.size,10,none⟩=false:=by simp [World.frozen?,B6]
 have c10:w6.cell? ⟨w1.heap.size,10,none⟩=some (.pointer none):=by simp [World.cell?,B6]
 have B7:=put_cell (i:=10) (v:=.pointer (some ⟨b1,0,none⟩)) B6
 have f11:(w6.setCell ⟨w1.heap.size,10,none⟩ (.pointer (some ⟨b1,0,none⟩))).frozen? ⟨w1.heap.size,11,none⟩=false:=by simp [World.frozen?,B7]
 have c11:(w6.setCell ⟨w1.heap.size,10,none⟩ (.pointer (some ⟨b1,0,none⟩))).cell? ⟨w1.heap.size,11,none⟩=some (.pointer none):=by simp [World.cell?,B7]
 clear B6 B7
 refine tkn 12 ?_ rfl ?_ ?_;rotate_left;·(intro w hSw;(have s0:=hSw;try dsimp only at s0);go_simp;try rfl)
 refine tkn 13 ?_ rfl ?_ ?_;rotate_left;·(intro w hSw;(have s0:=hSw;try dsimp only at s0);go_simp;try rfl)
 refine rdn 14 rfl (fun K hK=>?_)
 go_simp
 refine hK.out _ _ (kp_cell (kp_put 10 _) hHeld NF.out.2) (fun hHeld=>?_)
 clear hK K
 refine tkn 15 ?_ rfl ?_ ?_;rotate_left;·(intro w hSw;(have s0:=hSw;try dsimp only at s0);go_simp;try rfl)
 refine tkn 16 ?_ rfl ?_ ?_;rotate_left;·(intro w hSw;(have s0:=hSw;try dsimp only at s0);go_simp;try rfl)
 refine rdn 17 rfl (fun K hK=>?_)
 go_simp
 refine hK.out _ _ (kp_cell (kp_put 11 _) hHeld NF.out.2) (fun hHeld=>?_)
 clear hK K
 refine wpAnyH_done (by kernel_rfl) ?_ _
 have FF:=FINQ.out _ _ _ _ _ _ _ _ t1 nd1 l1 s5 k5 t2 nd2 l2 s6 k6
 clear FS hHeld cc1 cc2 CC2 f10 c10 f11 c11 t1 t2
 go_wp2
 go_ret
 exact FF
theorem cut_c {Iq:Nat->Prop} {m leaf tx tb sb fb:Nat} (hm:1<=m/\m<=64) (hlf:1<=leaf/\leaf<=100000):∀ (k:Nat),∀ (d:List Rt),d.length<=k->∀ (w:World) (g o cap:Nat),RwAt w g o d->CutIn Iq w m d->d.length<=cap->Env w tx tb sb fb leaf->Calls Tryz.prog 92 #[.slice (some ⟨g,o,none⟩) d.length cap,.pointer (some ⟨tx,0,none⟩),.pointer (some ⟨fb,0,none⟩)] w fun e w'=>CutOut Iq w sb m d e w':=by
 intro k
 induction k with
 | zero =>
  intro d hd w g o cap _ _ _ _
  have e:d=[]:=List.eq_nil_of_length_eq_zero (by omega)
  subst e
  exact cut_none
 | succ k ih =>
  intro d hd w g o cap hR hI hcap hE
  by_cases he:d=[]
  ·subst he
   exact cut_none
  ·by_cases hle:d.length<=leaf
   ·exact cut_leaf hm d he hle hlf.2 hR hI hE.t hE.l hE.s hE.src
   ·exact cut_many hm hlf k ih d hd (by omega) hR hI hE
end Go.Proofs.YtepjbdklljlecaaGreat

namespace Go.Proofs.YtepjbdklljlecaaGreat
open Go.RowKit Go.Sort Go.Maps
set_option maxRecDepth 100000
set_option maxHeartbeats 1000000
theorem CutOut.of {Iq:Nat->Prop} {w W w':World} {sb m:Nat} {d:List Rt} {e:Ending} (g:Gb w W) (h:CutOut Iq W sb m d e w'):∃ pv,e=.returned (.pointer pv)/\CutOut Iq w sb m d e w':=by
 by_cases hd:d=[]
 ·obtain ⟨h1,h2⟩:=h.1 hd
  exact ⟨none,h1,fun _=>⟨h1,gb_trans g h2⟩,fun h=>absurd hd h⟩
 ·obtain ⟨⟨b,T,F,h1,h2,h3,h4⟩,h5,h6⟩:=h.2 hd
  exact ⟨_,h1,fun e=>absurd e hd,fun _=>⟨⟨b,T,F,h1,h2,h3,fun x hx=>Nat.le_trans g.size (h4 x hx)⟩,h5,(Tk.Kp.of_gr g).trans h6⟩⟩
theorem partsOf_c {Iq:Nat->Prop} {m leaf tb sb:Nat} (hm:1<=m/\m<=64) (hlf:1<=leaf/\leaf<=100000) (d:List Rt) {w:World} {g o cap:Nat} (hR:RwAt w g o d) (hI:CutIn Iq w m d) (hcap:d.length<=cap)
  (c1:w.cell? ⟨tb,1,none⟩=some (.int .i64 (leaf:Int))) (c2:w.cell? ⟨tb,2,none⟩=some (.pointer (some ⟨sb,0,none⟩))) (hS:SrcAt w sb) :
  Calls Tryz.prog 59 #[.pointer (some ⟨tb,0,none⟩),.slice (some ⟨g,o,none⟩) d.length cap] w fun e w'=>CutOut Iq w sb m d e w':=by
 have G0:Gb w ((w.alloc (.cells #[.pointer (some ⟨tb,0,none⟩)] 30)).alloc (.cells #[.func (.func 92) #[] #[.pointer (some ⟨w.heap.size,0,none⟩),.pointer (some ⟨w.heap.size + 1,0,none⟩)]] 107)):=gb_alloc (gb_alloc (Below.refl _ _) _) _
 have E0:Env ((w.alloc (.cells #[.pointer (some ⟨tb,0,none⟩)] 30)).alloc (.cells #[.func (.func 92) #[] #[.pointer (some ⟨w.heap.size,0,none⟩),.pointer (some ⟨w.heap.size + 1,0,none⟩)]] 107)) w.heap.size tb sb (w.heap.size + 1) leaf:=⟨by simp [go_sem],gb_keeps G0 c1,gb_keeps G0 c2,by simp [go_sem],hS.gb G0⟩
 have cX:=cut_c hm hlf d.length d (Nat.le_refl _) _ g o cap (hR.gbv G0) (hI.kp (Tk.Kp.of_gr (S:=fun b=>b=sb) G0) hS.noint) hcap E0
 have GG:Hid (Gb w ((w.alloc (.cells #[.pointer (some ⟨tb,0,none⟩)] 30)).alloc (.cells #[.func (.func 92) #[] #[.pointer (some ⟨w.heap.size,0,none⟩),.pointer (some ⟨w.heap.size + 1,0,none⟩)]] 107))):=G0
 obtain ⟨n,hN⟩:∃ n,n=d.length:=⟨_,rfl⟩
 rw [<- hN] at cX ⊢
 clear hR hI hcap c1 c2 hS G0 E0 hN
 go_enter Tryz.func59,Tryz.ntmps59
 go_wp2_with fail
 go_fit cX
 rintro e w4 hO
 obtain ⟨pv,rfl,hP⟩:=hO.of GG.out
 clear cX hO
 go_wp2
 go_ret
 exact hP
end Go.Proofs.YtepjbdklljlecaaGreat

namespace Go.Proofs.YtepjbdklljlecaaGreat
open Go.RowKit Go.Sort
def TreeAt (Iq:Nat->Prop) (w:World) (tb m leaf:Nat) (rs:List Rw) (F:List Nat):Prop:=∃ (g cap sb:Nat) (d:List Rt) (rt:Value) (F1:List Nat),
 w.heap[tb]? = some (.cells #[.int .i64 (m:Int),.int .i64 (leaf:Int),.pointer (some ⟨sb,0,none⟩),.slice (some ⟨g,0,none⟩) d.length cap,rt] 84 (0,0)) /\
 OwnRs Iq w (.slice (some ⟨g,0,none⟩) d.length cap) d/\d.map rwR=rs/\(rs.Pairwise fun x y=>x.1 < y.1)/\RowsOk rs (m:Int) /\
 ((d=[]/\rt=.pointer none/\F1=[]) ∨ ∃ b T,rt=.pointer (some ⟨b,0,none⟩)/\d ≠ []/\∀ N,d.length<=N->TrO Iq w T (N + 1) b F1/\OkP T m N (T b)/\(rowsP T N (T b)).Perm rs) /\
 F=tb :: g :: sb :: F1/\F.Nodup/\(1<=m/\m<=64)/\(1<=leaf/\leaf<=64)/\SrcAt w sb
theorem pick_lt {α:Type} {p:Nat->α->Prop} (a0:α) {n:Nat} (h:∀ i,i < n->∃ a,p i a):∃ f:Nat->α,∀ i,i < n->p i (f i):=by
 classical
 refine ⟨fun i=>if hi:i < n then (h i hi).choose else a0,fun i hi=>?_⟩
 simp only [dif_pos hi]
 exact (h i hi).choose_spec
theorem OwnC.rt {W:World} {B:Nat} {v:Value} {rs:List Rw} (h:OwnC W B v rs):∃ d:List Rt,d.map rwR=rs/\W.ownsRow B 43 2 v d.length (d.flatMap encR)/\∀ x ∈ d,Own W B x.2.1 x.2.2:=by
 obtain ⟨_,xs,h1,h2⟩:=h
 have hl:=h1.1
 have hc:∀ i,i < rs.length->∃ u,xs[i * 2]? = some (.int .i64 rs[i]!.1)/\xs[i * 2 + 1]? = some u/\Own W B u rs[i]!.2:=fun i hi=>by
  obtain ⟨a,u,b,c⟩:=h2 i hi
  exact ⟨u,a,b,c⟩
 obtain ⟨U,hU⟩:=pick_lt (p:=fun i u=>xs[i * 2]? = some (.int .i64 rs[i]!.1)/\xs[i * 2 + 1]? = some u/\Own W B u rs[i]!.2) (.slice none 0 0) hc
 have hdl:((List.range rs.length).map fun i=>((rs[i]!.1,U i,rs[i]!.2):Rt)).length=rs.length:=by simp
 refine ⟨(List.range rs.length).map fun i=>(rs[i]!.1,U i,rs[i]!.2),?_,?_,?_⟩
 ·apply List.ext_getElem (by simp)
  intro i h1 h2
  simp [h2]
 ·rw [hdl]
  have e:((List.range rs.length).map fun i=>((rs[i]!.1,U i,rs[i]!.2):Rt)).flatMap encR=xs:=by
   apply List.ext_getElem?
   intro t
   rw [flR_get]
   by_cases ht:t / 2 < rs.length
   ·rw [dif_pos (by rw [hdl];exact ht)]
    obtain ⟨a,b,_⟩:=hU (t / 2) ht
    simp only [List.getElem_map,List.getElem_range,encR]
    rcases Nat.mod_two_eq_zero_or_one t with h0 | h0
    ·rw [h0,show t=t / 2 * 2 by omega,a];simp
    ·rw [h0]
     have e2:t=t / 2 * 2 + 1:=by omega
     rw [show xs[t]? = xs[t / 2 * 2 + 1]? from by rw [<- e2],b];rfl
   ·rw [dif_neg (by rw [hdl];exact ht),List.getElem?_eq_none (by omega)]
  rw [e];exact h1
 ·intro x hx
  obtain ⟨i,hi,rfl⟩:=List.mem_map.1 hx
  exact (hU i (List.mem_range.1 hi)).2.2
theorem own_sorted {w w':World} {B g cap:Nat} {d d':List Rt} (h:w.ownsRow B 43 2 (.slice (some ⟨g,0,none⟩) d.length cap) d.length (d.flatMap encR)) (hr:RwAt w' g 0 d') (hs:Srt w w' g 0 d.length) (hl:d'.length=d.length) :
  w'.ownsRow B 43 2 (.slice (some ⟨g,0,none⟩) d'.length cap) d'.length (d'.flatMap encR):=by
 refine ⟨flR_len d',?_⟩
 rcases h.2 with ⟨e,_⟩ | ⟨g',cap',cur,e,hB,hh,hle,hmx,hsz,_⟩
 ·cases e
 ·cases e
  obtain ⟨c2,e2,s2,_⟩:=hs.blk cur hh
  obtain ⟨c3,e3,_,f3⟩:=hr
  rw [e2] at e3
  injection e3 with e3
  injection e3 with e3 _ _
  subst e3
  refine .inr ⟨g,cap,c2,rfl,hB,e2,by omega,hmx,by omega,?_⟩
  apply List.ext_getElem?
  intro t
  rw [flR_get]
  by_cases ht:t / 2 < d'.length
  ·rw [dif_pos ht,List.getElem?_take_of_lt (by omega),Array.getElem?_toList]
   obtain ⟨a,b⟩:=f3 (t / 2) ht
   rw [Nat.zero_add] at a b
   rcases Nat.mod_two_eq_zero_or_one t with h0 | h0
   ·rw [h0]
    rw [show c2[t]? = c2[t / 2 * 2]? from by rw [show t / 2 * 2=t by omega],a];rfl
   ·rw [h0]
    rw [show c2[t]? = c2[t / 2 * 2 + 1]? from by rw [show t / 2 * 2 + 1=t by omega],b];rfl
  ·rw [dif_neg ht,List.getElem?_eq_none (by rw [List.length_take];omega)]
theorem ci_neg (a b:Int):(¬ Tk.ci a b < 0) ↔ b<=a:=by
 unfold Tk.ci
 split
 ·omega
 ·split <;> omega
theorem rise_ids {d:List Rt} (h:d.Pairwise fun x y=>¬ Tk.ci y.1 x.1 < 0) (hid:(idsOf (d.map rwR)).Pairwise (· ≠ ·)):(d.map rwR).Pairwise fun x y=>x.1 < y.1:=by
 unfold idsOf at hid
 rw [List.pairwise_map] at hid ⊢
 rw [List.pairwise_map] at hid
 refine (h.and hid).imp ?_
 intro a b hab
 have h1:=(ci_neg _ _).1 hab.1
 have h2:=hab.2
 simp only [] at h2 ⊢
 omega
end Go.Proofs.YtepjbdklljlecaaGreat

namespace Go.Proofs.YtepjbdklljlecaaGreat
open Go.RowKit Go.Sort
theorem TrO.any {Iq:Nat->Prop} {w:World} {T:Nat->Pt} {m:Nat}:∀ n b F,TrO Iq w T (n + 1) b F->OkP T m n (T b)->∀ M,(rowsP T n (T b)).length<=M->TrO Iq w T (M + 1) b F/\OkP T m M (T b)/\rowsP T M (T b)=rowsP T n (T b)
 | 0,b,F,h,ok,M,hM=>by
  have hk:(T b).kids=none:=by rw [OkP] at ok;exact ok.1
  obtain ⟨vl,vh,vr,hp,h⟩:=h
  rw [hk] at h
  exact ⟨⟨vl,vh,vr,hp,by rw [hk];exact h⟩,(okP_leaf hk _).2 ((okP_leaf hk _).1 ok),by rw [rowsP_leaf hk,rowsP_leaf hk]⟩
 | n + 1,b,F,h,ok,M,hM=>by
  obtain ⟨vl,vh,vr,hp,h⟩:=h
  cases hk:(T b).kids with
  | none =>
   rw [hk] at h
   exact ⟨⟨vl,vh,vr,hp,by rw [hk];exact h⟩,(okP_leaf hk _).2 ((okP_leaf hk _).1 ok),by rw [rowsP_leaf hk,rowsP_leaf hk]⟩
  | some lh =>
   obtain ⟨l,hh⟩:=lh
   rw [hk] at h
   obtain ⟨h0,F1,F2,h1,h2,rfl⟩:=h
   obtain ⟨k,e,o1,o2,o3⟩:=okP_node hk ok
   have e':n=k:=by omega
   subst e'
   rw [rowsP_node hk,List.length_append] at hM
   have p1:=List.length_pos_iff.2 (okP_ne _ _ o1)
   have p2:=List.length_pos_iff.2 (okP_ne _ _ o2)
   obtain ⟨M',rfl⟩:∃ M',M=M' + 1:=⟨M - 1,by omega⟩
   obtain ⟨a1,a2,a3⟩:=TrO.any n l F1 h1 o1 M' (by omega)
   obtain ⟨c1,c2,c3⟩:=TrO.any n hh F2 h2 o2 M' (by omega)
   refine ⟨⟨vl,vh,vr,hp,by rw [hk];exact ⟨h0,F1,F2,a1,c1,rfl⟩⟩,?_,by rw [rowsP_node hk,rowsP_node hk,a3,c3]⟩
   rw [OkP,hk]
   dsimp only
   rw [a3,c3]
   exact ⟨a2,c2,o3⟩
def aft (ad:Bool) (r:Rw) (R:List Rw):List Rw:=if ad=true then R ++ [r] else R.filter fun y=>!decide (y.1=r.1)
def bef (ad:Bool) (r:Rw) (R:List Rw):Prop:=(idsOf R).Pairwise (· ≠ ·)/\if ad=true then ∀ y ∈ R,y.1 ≠ r.1 else r ∈ R
theorem bef_nodup {ad:Bool} {r:Rw} {R R':List Rw} (h:bef ad r R) (p:R.Perm R'):bef ad r R':=by
 refine ⟨(List.Perm.pairwise_iff (fun h=>Ne.symm h) (p.map _)).1 h.1,?_⟩
 have h2:=h.2
 split at h2
 ·rename_i e;rw [if_pos e];exact fun y hy=>h2 y (p.mem_iff.2 hy)
 ·rename_i e;rw [if_neg e];exact p.mem_iff.1 h2
theorem aft_perm {ad:Bool} {r:Rw} {R R':List Rw} (p:R.Perm R'):(aft ad r R).Perm (aft ad r R'):=by
 unfold aft
 split
 ·exact p.append_right _
 ·exact p.filter _
theorem ids_apart {R1 R2:List Rw} (h:(idsOf (R1 ++ R2)).Pairwise (· ≠ ·)):(idsOf R1).Pairwise (· ≠ ·)/\(idsOf R2).Pairwise (· ≠ ·)/\∀ y ∈ R1,∀ z ∈ R2,y.1 ≠ z.1:=by
 unfold idsOf at h ⊢
 rw [List.map_append,List.pairwise_append] at h
 exact ⟨h.1,h.2.1,fun y hy z hz=>h.2.2 _ (List.mem_map.2 ⟨y,hy,rfl⟩) _ (List.mem_map.2 ⟨z,hz,rfl⟩)⟩
theorem aft_left {ad:Bool} {r:Rw} {R1 R2:List Rw} (h:bef ad r (R1 ++ R2)) (hs:ad=false->r ∈ R1):bef ad r R1/\(aft ad r R1 ++ R2).Perm (aft ad r (R1 ++ R2)):=by
 obtain ⟨h1,h2⟩:=h
 obtain ⟨i1,i2,i3⟩:=ids_apart h1
 cases ad with
 | true =>
  rw [if_pos rfl] at h2
  refine ⟨⟨i1,by rw [if_pos rfl];exact fun y hy=>h2 y (List.mem_append_left _ hy)⟩,?_⟩
  unfold aft
  rw [if_pos rfl,if_pos rfl,List.append_assoc,List.append_assoc]
  exact List.Perm.append_left _ List.perm_append_comm
 | false =>
  refine ⟨⟨i1,by rw [if_neg (by decide)];exact hs rfl⟩,?_⟩
  unfold aft
  rw [if_neg (by decide),if_neg (by decide),List.filter_append]
  refine List.Perm.append_left _ (List.Perm.of_eq ?_)
  symm
  rw [List.filter_eq_self]
  intro y hy
  have:=i3 r (hs rfl) y hy
  simp [Ne.symm this]
theorem aft_right {ad:Bool} {r:Rw} {R1 R2:List Rw} (h:bef ad r (R1 ++ R2)) (hs:ad=false->r ∈ R2):bef ad r R2/\(R1 ++ aft ad r R2).Perm (aft ad r (R1 ++ R2)):=by
 have p:(R1 ++ R2).Perm (R2 ++ R1):=List.perm_append_comm
 obtain ⟨a,b⟩:=aft_left (bef_nodup h p) hs
 exact ⟨a,(List.perm_append_comm.trans b).trans (aft_perm p.symm)⟩
end Go.Proofs.YtepjbdklljlecaaGreat
