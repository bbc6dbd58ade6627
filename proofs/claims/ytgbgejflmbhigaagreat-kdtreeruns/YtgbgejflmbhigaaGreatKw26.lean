import Derived.Test.YtgbgejflmbhigaaGreatKw23
import Derived.Test.YtgbgejflmbhigaaGreatKw25
namespace Go.Proofs.YtgbgejflmbhigaaGreat
open Go.RowKit Go.Sort
set_option maxRecDepth 100000
set_option maxHeartbeats 1000000
structure Cap (Iq:Nat->Prop) (ad:Bool) (W:World) (cb:Nat) (x:Rt):Prop where
 id:W.cell? ⟨cb,0,none⟩=some (.int .i64 x.1)
 row:ad=true->W.cell? ⟨cb,1,none⟩=some x.2.1
 vec:OwnQ Iq W x.2.1 x.2.2
 up:Up Iq W
theorem Cap.kp {Iq:Nat->Prop} {ad:Bool} {S:Nat->Prop} {W W':World} {cb:Nat} {x:Rt} (h:Cap Iq ad W cb x) (k:Tk.Kp S W W') (hS:NoInt W S) (hn:¬ S cb):Cap Iq ad W' cb x:=⟨k.cell h.id hn,fun e=>k.cell (h.row e) hn,ownq_noint h.vec k hS,h.up.le k.size⟩
theorem noF (W:World):NoInt W (fun _=>False):=fun _ h=>h.elim
theorem kpF {W W':World} (g:Gb W W'):Tk.Kp (fun _=>False) W W':=Tk.Kp.of_gr g
theorem Cap.gb {Iq:Nat->Prop} {ad:Bool} {W W':World} {cb:Nat} {x:Rt} (h:Cap Iq ad W cb x) (g:Gb W W'):Cap Iq ad W' cb x:=h.kp (kpF g) (noF _) (fun h=>h)
theorem OwnRs.gb {Iq:Nat->Prop} {W W':World} {v:Value} {d:List Rt} (h:OwnRs Iq W v d) (g:Gb W W'):OwnRs Iq W' v d:=h.kp (kpF g) (noF _) (fun _ _ h=>h)
theorem PcAt.gb {Iq:Nat->Prop} {W W':World} {b:Nat} {p:Pt} {vl vh vr:Value} (h:PcAt Iq W b p vl vh vr) (g:Gb W W'):PcAt Iq W' b p vl vh vr:=h.kp (kpF g) (noF _) (fun h=>h)
theorem TrO.gb {Iq:Nat->Prop} {W W':World} {T:Nat->Pt} {n b:Nat} {F:List Nat} (h:TrO Iq W T n b F) (g:Gb W W'):TrO Iq W' T n b F:=TrO.kp (kpF g) (noF _) _ _ _ h (fun _ _ h=>h)
theorem OwnRs.noint {Iq:Nat->Prop} {W:World} {v:Value} {d:List Rt} (h:OwnRs Iq W v d):NoInt W (fun b=>v.ownBlock=some b):=by
 intro k e cur s hc
 rcases h.row.2 with ⟨rfl,_⟩ | ⟨g,cap,cur',rfl,_,hh,_⟩
 ·cases e
 ·cases e
  rw [hh] at hc
  simp at hc
def ChgO (Iq:Nat->Prop) (W:World) (v:Value) (R:List Rw) (e:Ending) (W':World):Prop:=∃ g cap d,e=.returned (.slice (some ⟨g,0,none⟩) d.length cap)/\d.map rwR=R/\RwRd W' g 0 d/\(∀ y ∈ d,OwnQ Iq W' y.2.1 y.2.2)/\Tk.Kp (fun b=>v.ownBlock=some b) W W'
def ChgC (Iq:Nat->Prop) (m:Nat) (ad:Bool) (fn cb:Nat) (x:Rt):Prop:=∀ W v d,Cap Iq ad W cb x->v.ownBlock ≠ some cb->OwnRs Iq W v d->RowsOk (d.map rwR) (m:Int)->RowsOk (aft ad (rwR x) (d.map rwR)) (m:Int)->bef ad (rwR x) (d.map rwR) ->
 Calls Tryz.prog fn #[v,.pointer (some ⟨cb,0,none⟩)] W fun e W'=>ChgO Iq W v (aft ad (rwR x) (d.map rwR)) e W'
def RmOut (Iq:Nat->Prop) (w:World) (m:Nat) (F:List Nat) (R:List Rw) (e:Ending) (w':World):Prop :=
 Tk.Kp (fun k=>k ∈ F) w w'/\(R=[]->e=.returned (.pointer none)) /\
 (R ≠ []->∃ b T F' n,e=.returned (.pointer (some ⟨b,0,none⟩))/\TrO Iq w' T (n + 1) b F'/\OkP T m n (T b)/\(rowsP T n (T b)).Perm R/\F'.Nodup/\∀ y ∈ F',y ∈ F ∨ w.heap.size<=y)
theorem rm_parts {Iq:Nat->Prop} {w W W':World} {m:Nat} {F:List Nat} {d:List Rt} {e:Ending} (k:Tk.Kp (fun b=>b ∈ F) w W) (h:PartOut Iq W m d e W'):RmOut Iq w m F (d.map rwR) e W'/\∃ pv,e=.returned (.pointer pv):=by
 obtain ⟨h1,h2,h3⟩:=h
 by_cases hd:d=[]
 ·refine ⟨⟨k.trans (Tk.Kp.of_gr h1),fun _=>h2 hd,fun hne=>absurd (by rw [hd];rfl) hne⟩,_,h2 hd⟩
 ·obtain ⟨b,T,F',e1,t,nd,l⟩:=h3 hd
  obtain ⟨t1,t2,t3⟩:=t d.length (Nat.le_refl _)
  refine ⟨⟨k.trans (Tk.Kp.of_gr h1),fun he=>absurd (List.map_eq_nil_iff.1 he) hd,fun _=>⟨b,T,F',d.length,e1,t1,t2,t3,nd,fun y hy=>.inr ?_⟩⟩,_,e1⟩
  have:=l y hy
  have:=k.size
  omega
theorem rem_leaf {Iq:Nat->Prop} {m leaf:Nat} (hm:1<=m/\m<=64) (hlf:1<=leaf/\leaf<=64) {fn cb:Nat} {ad:Bool} {x:Rt} (hC:ChgC Iq m ad fn cb x) {w:World} {b n:Nat} {F:List Nat} {T:Nat->Pt} (ht:TrO Iq w T (n + 1) b F) (hk:(T b).kids=none) (hcb:cb ∉ F)
  (hc:Cap Iq ad w cb x) (hb:bef ad (rwR x) (T b).rs) (h1:RowsOk (T b).rs (m:Int)) (h2:RowsOk (aft ad (rwR x) (T b).rs) (m:Int)) (eg:∀ args w,(callFunc fn args).run Tryz.prog w=.ok (.enter fn args) w) :
  Calls Tryz.prog 76 #[.pointer (some ⟨b,0,none⟩),.agg #[.int .i64 x.1,x.2.1],.int .i64 (leaf:Int),.func (.func fn) #[] #[.pointer (some ⟨cb,0,none⟩)]] w fun e w'=>RmOut Iq w m F (aft ad (rwR x) (T b).rs) e w':=by
 obtain ⟨vl,vh,vr,hp,ht⟩:=ht
 rw [hk] at ht
 obtain ⟨d,g,hd,hdm,hvr,rfl⟩:=ht
 rw [<- hdm] at hb h1 h2 ⊢
 obtain ⟨xi,u,xl⟩:=x
 obtain ⟨ua,uc,eu,_⟩:=hc.vec.rd
 dsimp only at eu
 subst eu
 have gA:Gb w (w.alloc (.cells #[.int .i64 xi,.slice ua xl.length uc] 39)):=gb_alloc (Below.refl _ _) _
 have cI:=isCut_c (hp.gb gA)
 rw [hk] at cI
 have cX:=hC _ vr d (hc.gb gA) (by rw [hvr];intro e;injection e with e;exact hcb (by rw [e];simp)) (hd.gb gA) h1 h2 hb
 have c6:=cell_cur (i:=6) (hp.gb gA).blk rfl
 have PX:Hid (∀ e W',ChgO Iq (w.alloc (.cells #[.int .i64 xi,.slice ua xl.length uc] 39)) vr (aft ad (xi,xl) (d.map rwR)) e W'->∃ g' n' cap',e=.returned (.slice (some ⟨g',0,none⟩) n' cap')/\Calls Tryz.prog 33 #[.slice (some ⟨g',0,none⟩) n' cap',.int .i64 (leaf:Int)] W' fun e w'=>RmOut Iq w m [b,g] (aft ad (xi,xl) (d.map rwR)) e w'/\∃ pv,e=.returned (.pointer pv)):=by
  rintro e W' ⟨g',cap',d',rfl,hr,hR,hv,hK⟩
  refine ⟨g',d'.length,cap',rfl,?_⟩
  rw [<- hr]
  refine (partsOf_c hm ⟨hlf.1,by omega⟩ d' hR ⟨hv,by rw [hr];exact h2,(hp.up.gb gA).le hK.size⟩).mono ?_
  intro e w' h
  refine rm_parts ((Tk.Kp.of_gr gA).trans ?_) h
  refine hK.mono ?_
  intro k _ e
  rw [hvr] at e
  injection e with e
  subst e
  simp
 obtain ⟨g0,cap0,evr⟩:∃ g0 cap0,vr=.slice (some ⟨g0,0,none⟩) d.length cap0:=by
  rcases hd.row.2 with ⟨rfl,_⟩ | ⟨g',cap',cur,rfl,_⟩
  ·cases hvr
  ·exact ⟨_,_,rfl⟩
 subst evr
 try dsimp only at cX
 generalize aft ad (xi,xl) (d.map rwR)=R at *
 generalize d.length=nd at *
 generalize xl.length=nx at *
 clear hC hp hd hdm hb h1 h2 hc gA hk hvr hcb
 go_enter Tryz.func76,Tryz.ntmps76
 go_wp2_with fail
 go_fit cI
 rintro e w1 ⟨rfl,rfl⟩
 go_wp2_with fail
 go_fit cX
 intro e w2 hO
 obtain ⟨g',n',cap',rfl,cP⟩:=PX.out _ _ hO
 clear hO cX PX cI c6
 go_wp2_with fail
 go_fit cP
 rintro e w3 ⟨hO,pv,rfl⟩
 have H:Hid _:=hO
 clear hO cP
 go_wp2
 go_ret
 exact H.out
end Go.Proofs.YtgbgejflmbhigaaGreat

namespace Go.Proofs.YtgbgejflmbhigaaGreat
open Go.RowKit Go.Sort
theorem TrO.noint {Iq:Nat->Prop} {w:World} {T:Nat->Pt}:∀ {n b:Nat} {F:List Nat},TrO Iq w T n b F->NoInt w (fun k=>k ∈ F)
 | 0,_,_,h=>h.elim
 | n + 1,b,F,h=>by
  obtain ⟨vl,vh,vr,hp,h⟩:=h
  have hb:∀ cur s,w.heap[b]? ≠ some (.cells cur 3 s):=fun cur s e=>by rw [hp.blk] at e;simp at e
  cases hk:(T b).kids with
  | none =>
   rw [hk] at h
   obtain ⟨d,g,h1,h2,h3,rfl⟩:=h
   intro k hm cur s e
   simp only [List.mem_cons,List.not_mem_nil,or_false] at hm
   rcases hm with rfl | rfl
   ·exact hb _ _ e
   ·exact h1.noint _ h3 _ _ e
  | some lh =>
   obtain ⟨l,hh⟩:=lh
   rw [hk] at h
   obtain ⟨_,F1,F2,h1,h2,rfl⟩:=h
   have a1:=TrO.noint h1
   have a2:=TrO.noint h2
   intro k hm cur s e
   simp only [List.mem_cons,List.mem_append] at hm
   rcases hm with rfl | hm | hm
   ·exact hb _ _ e
   ·exact a1 _ hm _ _ e
   ·exact a2 _ hm _ _ e
theorem node_re {Iq:Nat->Prop} {W:World} {m b b1 b2 n1 n2:Nat} {T1 T2:Nat->Pt} {F1 F2:List Nat} {c:Int × Int × Int} {L H:List Int} {vl vh:Value}
  (hb:W.heap[b]? = some (.cells #[.int .i64 2,vl,vh,.int .u64 0,.int .u64 0,.slice none 0 0,.slice none 0 0,.int .i64 c.1,.int .i64 c.2.1,.int .i64 c.2.2,.pointer (some ⟨b1,0,none⟩),.pointer (some ⟨b2,0,none⟩)] 108 (0,0)))
  (o1:OwnQ Iq W vl L) (o2:OwnQ Iq W vh H) (t1:TrO Iq W T1 (n1 + 1) b1 F1) (k1:OkP T1 m n1 (T1 b1)) (t2:TrO Iq W T2 (n2 + 1) b2 F2) (k2:OkP T2 m n2 (T2 b2))
  (hL:L=tab (fun t=>min (T1 b1).L[t]! (T2 b2).L[t]!) m) (hH:H=tab (fun t=>max (T1 b1).H[t]! (T2 b2).H[t]!) m) (hc:0<=c.1/\c.1 < (m:Int))
  (a1:∀ r ∈ rowsP T1 n1 (T1 b1),isAb c r=true) (a2:∀ r ∈ rowsP T2 n2 (T2 b2),isAb c r=false) (hnd:(b :: (F1 ++ F2)).Nodup) :
  ∃ T n,TrO Iq W T (n + 1) b (b :: (F1 ++ F2))/\OkP T m n (T b)/\rowsP T n (T b)=rowsP T1 n1 (T1 b1) ++ rowsP T2 n2 (T2 b2):=by
 obtain ⟨M,hM⟩:∃ M,M=(rowsP T1 n1 (T1 b1)).length + (rowsP T2 n2 (T2 b2)).length:=⟨_,rfl⟩
 obtain ⟨x1,x2,x3⟩:=TrO.any _ _ _ t1 k1 M (by omega)
 obtain ⟨y1,y2,y3⟩:=TrO.any _ _ _ t2 k2 M (by omega)
 rw [List.nodup_cons,List.nodup_append] at hnd
 obtain ⟨d1,_,_,d2⟩:=hnd
 generalize hT:(fun k=>if k=b then (⟨L,H,[],c,some (b1,b2)⟩:Pt) else if k ∈ F1 then T1 k else T2 k)=T
 have e0:T b=⟨L,H,[],c,some (b1,b2)⟩:=by rw [<- hT];simp
 have e1:∀ x ∈ F1,T x=T1 x:=fun x hx=>by
  rw [<- hT]
  simp only
  rw [if_neg (fun e=>d1 (by rw [<- e];exact List.mem_append_left _ hx)),if_pos hx]
 have e2:∀ x ∈ F2,T x=T2 x:=fun x hx=>by
  rw [<- hT]
  simp only
  rw [if_neg (fun e=>d1 (by rw [<- e];exact List.mem_append_right _ hx)),if_neg (fun e=>d2 x e x hx rfl)]
 obtain ⟨p1,p2⟩:=TrO.congr _ _ _ x1 e1
 obtain ⟨q1,q2⟩:=TrO.congr _ _ _ y1 e2
 obtain ⟨r1,r2⟩:=p2 M (by omega) m
 obtain ⟨u1,u2⟩:=q2 M (by omega) m
 have hk:(T b).kids=some (b1,b2):=by rw [e0]
 refine ⟨T,M + 1,⟨vl,vh,.slice none 0 0,⟨by rw [e0];exact hb,by rw [e0];exact o1,by rw [e0];exact o2,t1.up⟩,?_⟩,?_,?_⟩
 ·rw [hk];exact ⟨rfl,F1,F2,p1,q1,rfl⟩
 ·rw [OkP,hk]
  dsimp only
  rw [r1,u1,x3,y3]
  refine ⟨r2.2 x2,u2.2 y2,?_,by rw [e0];exact hc,by rw [e0];exact a1,by rw [e0];exact a2⟩
  have w1:=okP_box k1
  have w2:=okP_box k2
  exact box_around w1 w2 (by rw [e0];exact hL) (by rw [e0];exact hH)
 ·rw [rowsP_node hk,r1,u1,x3,y3]
theorem rem_fin {Iq:Nat->Prop} {w w4:World} {m b b1 b2 n1 n2:Nat} {T1 T2:Nat->Pt} {F F1 F2:List Nat} {c:Int × Int × Int} {L H:List Int} {vl vh q0 q1 q2 q3 q4 q5:Value} {R:List Rw}
  (hb:w4.heap[b]? = some (.cells #[q0,q1,q2,q3,q4,q5,.slice none 0 0,.int .i64 c.1,.int .i64 c.2.1,.int .i64 c.2.2,.pointer (some ⟨b1,0,none⟩),.pointer (some ⟨b2,0,none⟩)] 108 (0,0)))
  (o1:OwnQ Iq w4 vl L) (o2:OwnQ Iq w4 vh H) (t1:TrO Iq w4 T1 (n1 + 1) b1 F1) (k1:OkP T1 m n1 (T1 b1)) (t2:TrO Iq w4 T2 (n2 + 1) b2 F2) (k2:OkP T2 m n2 (T2 b2))
  (hL:L=tab (fun t=>min (T1 b1).L[t]! (T2 b2).L[t]!) m) (hH:H=tab (fun t=>max (T1 b1).H[t]! (T2 b2).H[t]!) m) (hc:0<=c.1/\c.1 < (m:Int))
  (a1:∀ r ∈ rowsP T1 n1 (T1 b1),isAb c r=true) (a2:∀ r ∈ rowsP T2 n2 (T2 b2),isAb c r=false) (hnd:(b :: (F1 ++ F2)).Nodup)
  (hK:Tk.Kp (fun k=>k ∈ F) w w4) (hbF:b ∈ F) (hF:∀ y ∈ F1 ++ F2,y ∈ F ∨ w.heap.size<=y) (hR:(rowsP T1 n1 (T1 b1) ++ rowsP T2 n2 (T2 b2)).Perm R) :
  RmOut Iq w m F R (.returned (.pointer (some ⟨b,0,none⟩))) ((((((w4.setCell ⟨b,0,none⟩ (.int .i64 2)).setCell ⟨b,1,none⟩ vl).setCell ⟨b,2,none⟩ vh).setCell ⟨b,3,none⟩ (.int .u64 0)).setCell ⟨b,4,none⟩ (.int .u64 0)).setCell ⟨b,5,none⟩ (.slice none 0 0)):=by
 have kb:∀ (S:Nat->Prop) (w0:World),(S b ∨ w0.heap.size<=b)->Tk.Kp S w0 w4->Tk.Kp S w0 ((((((w4.setCell ⟨b,0,none⟩ (.int .i64 2)).setCell ⟨b,1,none⟩ vl).setCell ⟨b,2,none⟩ vh).setCell ⟨b,3,none⟩ (.int .u64 0)).setCell ⟨b,4,none⟩ (.int .u64 0)).setCell ⟨b,5,none⟩ (.slice none 0 0)):=fun S w0 hS k =>
  (((((k.setCell hS _).setCell hS _).setCell hS _).setCell hS _).setCell hS _).setCell hS _
 have k0:=kb (fun k=>k=b) w4 (.inl rfl) (Tk.Kp.refl _ _)
 have kF:=kb (fun k=>k ∈ F) w (.inl hbF) hK
 have hb5:((((((w4.setCell ⟨b,0,none⟩ (.int .i64 2)).setCell ⟨b,1,none⟩ vl).setCell ⟨b,2,none⟩ vh).setCell ⟨b,3,none⟩ (.int .u64 0)).setCell ⟨b,4,none⟩ (.int .u64 0)).setCell ⟨b,5,none⟩ (.slice none 0 0)).heap[b]? = some (.cells #[.int .i64 2,vl,vh,.int .u64 0,.int .u64 0,.slice none 0 0,.slice none 0 0,.int .i64 c.1,.int .i64 c.2.1,.int .i64 c.2.2,.pointer (some ⟨b1,0,none⟩),.pointer (some ⟨b2,0,none⟩)] 108 (0,0)):=by
  simp [World.setCell,Array.getElem?_modify,hb]
 generalize ((((((w4.setCell ⟨b,0,none⟩ (.int .i64 2)).setCell ⟨b,1,none⟩ vl).setCell ⟨b,2,none⟩ vh).setCell ⟨b,3,none⟩ (.int .u64 0)).setCell ⟨b,4,none⟩ (.int .u64 0)).setCell ⟨b,5,none⟩ (.slice none 0 0))=w5 at *
 have ni:NoInt w4 (fun k=>k=b):=fun k e cur s hc=>by subst e;rw [hb] at hc;simp at hc
 have hnd2:=hnd
 rw [List.nodup_cons] at hnd2
 obtain ⟨T,n,t,ok,rw'⟩:=node_re hb5 (ownq_noint o1 k0 ni) (ownq_noint o2 k0 ni) (TrO.kp k0 ni _ _ _ t1 (fun x hx e=>hnd2.1 (by rw [<- e];exact List.mem_append_left _ hx))) k1 (TrO.kp k0 ni _ _ _ t2 (fun x hx e=>hnd2.1 (by rw [<- e];exact List.mem_append_right _ hx))) k2 hL hH hc a1 a2 hnd
 refine ⟨kF,fun e=>?_,fun _=>⟨b,T,_,n,rfl,t,ok,by rw [rw'];exact hR,hnd,fun y hy=>?_⟩⟩
 ·rw [e] at hR
  exact absurd (List.append_eq_nil_iff.1 hR.eq_nil).1 (okP_ne _ _ k1)
 ·rcases List.mem_cons.1 hy with rfl | hy
  ·exact .inl hbF
  ·exact hF y hy
def S12 (b b1 b2:Nat) (apl aph aql aqh:Option Addr) (npl epl nph eph nql eql nqh eqh:Nat) (W:World):Prop:=W.cell? ⟨b,10,none⟩=some (.pointer (some ⟨b1,0,none⟩))/\W.cell? ⟨b,11,none⟩=some (.pointer (some ⟨b2,0,none⟩))/\W.cell? ⟨b1,0,none⟩=some (.int .i64 2)/\W.cell? ⟨b1,1,none⟩=some (.slice apl npl epl)/\W.cell? ⟨b1,2,none⟩=some (.slice aph nph eph)/\W.cell? ⟨b1,3,none⟩=some (.int .u64 0)/\W.cell? ⟨b1,4,none⟩=some (.int .u64 0)/\W.cell? ⟨b1,5,none⟩=some (.slice none 0 0)/\W.cell? ⟨b2,0,none⟩=some (.int .i64 2)/\W.cell? ⟨b2,1,none⟩=some (.slice aql nql eql)/\W.cell? ⟨b2,2,none⟩=some (.slice aqh nqh eqh)/\W.cell? ⟨b2,3,none⟩=some (.int .u64 0)/\W.cell? ⟨b2,4,none⟩=some (.int .u64 0)/\W.cell? ⟨b2,5,none⟩=some (.slice none 0 0)
structure R12 (Iq:Nat->Prop) (w w3:World) (m b b1 b2:Nat) (F:List Nat) (R:List Rw) (apl aph aql aqh:Option Addr) (npl epl nph eph nql eql nqh eqh:Nat) (L' H':List Int):Prop where
 st:S12 b b1 b2 apl aph aql aqh npl epl nph eph nql eql nqh eqh w3.drew
 call:Calls Tryz.prog 116 #[.agg #[.int .i64 2,.slice apl npl epl,.slice aph nph eph,.int .u64 0,.int .u64 0,.slice none 0 0],.agg #[.int .i64 2,.slice aql nql eql,.slice aqh nqh eqh,.int .u64 0,.int .u64 0,.slice none 0 0]] w3.drew fun e w'=>OutB w3.drew L' H' e w'
 fin:∀ w4 vl' vh',Gb w3.drew w4->Own w4 w3.drew.heap.size vl' L'->Own w4 w3.drew.heap.size vh' H'->RmOut Iq w m F R (.returned (.pointer (some ⟨b,0,none⟩))) ((((((w4.setCell ⟨b,0,none⟩ (.int .i64 2)).setCell ⟨b,1,none⟩ vl').setCell ⟨b,2,none⟩ vh').setCell ⟨b,3,none⟩ (.int .u64 0)).setCell ⟨b,4,none⟩ (.int .u64 0)).setCell ⟨b,5,none⟩ (.slice none 0 0))
 cel:∀ w4,Gb w3.drew w4->(∃ y,w4.cell? ⟨b,0,none⟩=some y)/\(∃ y,w4.cell? ⟨b,1,none⟩=some y)/\(∃ y,w4.cell? ⟨b,2,none⟩=some y)/\(∃ y,w4.cell? ⟨b,3,none⟩=some y)/\(∃ y,w4.cell? ⟨b,4,none⟩=some y)/\(∃ y,w4.cell? ⟨b,5,none⟩=some y)/\w4.frozen? ⟨b,0,none⟩=false/\w4.frozen? ⟨b,1,none⟩=false/\w4.frozen? ⟨b,2,none⟩=false/\w4.frozen? ⟨b,3,none⟩=false/\w4.frozen? ⟨b,4,none⟩=false/\w4.frozen? ⟨b,5,none⟩=false
 kst:∀ w4,Gb w3.drew w4->S12 b b1 b2 apl aph aql aqh npl epl nph eph nql eql nqh eqh w4/\∀ vl' vh',S12 b b1 b2 apl aph aql aqh npl epl nph eph nql eql nqh eqh ((((((w4.setCell ⟨b,0,none⟩ (.int .i64 2)).setCell ⟨b,1,none⟩ vl').setCell ⟨b,2,none⟩ vh').setCell ⟨b,3,none⟩ (.int .u64 0)).setCell ⟨b,4,none⟩ (.int .u64 0)).setCell ⟨b,5,none⟩ (.slice none 0 0))
theorem pc_cells {Iq:Nat->Prop} {w:World} {b:Nat} {p:Pt} {vl vh vr:Value} (h:PcAt Iq w b p vl vh vr):∃ al nl cl ah nh ch,vl=.slice al nl cl/\vh=.slice ah nh ch/\RdR w (.agg #[.int .i64 2,.slice al nl cl,.slice ah nh ch,.int .u64 0,.int .u64 0,.slice none 0 0]) (pr p) /\
  w.cell? ⟨b,0,none⟩=some (.int .i64 2)/\w.cell? ⟨b,1,none⟩=some (.slice al nl cl)/\w.cell? ⟨b,2,none⟩=some (.slice ah nh ch)/\w.cell? ⟨b,3,none⟩=some (.int .u64 0)/\w.cell? ⟨b,4,none⟩=some (.int .u64 0)/\w.cell? ⟨b,5,none⟩=some (.slice none 0 0):=by
 obtain ⟨al,cl,rfl,_⟩:=h.low.rd
 obtain ⟨ah,ch,rfl,_⟩:=h.high.rd
 have hz:hi 0=0/\lo 0=0:=⟨by decide,by decide⟩
 exact ⟨al,p.L.length,cl,ah,p.H.length,ch,rfl,rfl,⟨_,_,_,by simp only [rv,hz.1,hz.2];rfl,h.low.rd,h.high.rd,none,0,rfl,fun i hi=>absurd hi (Nat.not_lt_zero _)⟩,cell_cur h.blk rfl,cell_cur h.blk rfl,cell_cur h.blk rfl,cell_cur h.blk rfl,cell_cur h.blk rfl,cell_cur h.blk rfl⟩
theorem TrO.pc {Iq:Nat->Prop} {w:World} {T:Nat->Pt} {n b:Nat} {F:List Nat} (h:TrO Iq w T (n + 1) b F):∃ vl vh vr,PcAt Iq w b (T b) vl vh vr:=by
 obtain ⟨vl,vh,vr,hp,_⟩:=h
 exact ⟨vl,vh,vr,hp⟩
theorem S12.keep {b b1 b2:Nat} {apl aph aql aqh:Option Addr} {npl epl nph eph nql eql nqh eqh:Nat} {W W':World} (h:S12 b b1 b2 apl aph aql aqh npl epl nph eph nql eql nqh eqh W) (k:∀ p y,(p.block=b1 ∨ p.block=b2 ∨ (p.block=b/\10<=p.off))->W.cell? p=some y->W'.cell? p=some y):S12 b b1 b2 apl aph aql aqh npl epl nph eph nql eql nqh eqh W':=by
 obtain ⟨h0,h1,h2,h3,h4,h5,h6,h7,h8,h9,h10,h11,h12,h13⟩:=h
 exact ⟨k _ _ (.inr (.inr ⟨rfl,Nat.le_refl _⟩)) h0,k _ _ (.inr (.inr ⟨rfl,by dsimp only;omega⟩)) h1,k _ _ (.inl rfl) h2,k _ _ (.inl rfl) h3,k _ _ (.inl rfl) h4,k _ _ (.inl rfl) h5,k _ _ (.inl rfl) h6,k _ _ (.inl rfl) h7,k _ _ (.inr (.inl rfl)) h8,k _ _ (.inr (.inl rfl)) h9,k _ _ (.inr (.inl rfl)) h10,k _ _ (.inr (.inl rfl)) h11,k _ _ (.inr (.inl rfl)) h12,k _ _ (.inr (.inl rfl)) h13⟩
theorem r12_of {Iq:Nat->Prop} {w w3:World} {m b b1 b2 n1 n2:Nat} {T1 T2:Nat->Pt} {F F1 F2:List Nat} {c:Int × Int × Int} {q0 q1 q2 q3 q4 q5:Value} {R:List Rw}
  (hb:w3.heap[b]? = some (.cells #[q0,q1,q2,q3,q4,q5,.slice none 0 0,.int .i64 c.1,.int .i64 c.2.1,.int .i64 c.2.2,.pointer (some ⟨b1,0,none⟩),.pointer (some ⟨b2,0,none⟩)] 108 (0,0)))
  (t1:TrO Iq w3 T1 (n1 + 1) b1 F1) (k1:OkP T1 m n1 (T1 b1)) (t2:TrO Iq w3 T2 (n2 + 1) b2 F2) (k2:OkP T2 m n2 (T2 b2)) (hc:0<=c.1/\c.1 < (m:Int))
  (a1:∀ r ∈ rowsP T1 n1 (T1 b1),isAb c r=true) (a2:∀ r ∈ rowsP T2 n2 (T2 b2),isAb c r=false) (hnd:(b :: (F1 ++ F2)).Nodup)
  (hK:Tk.Kp (fun k=>k ∈ F) w w3) (hbF:b ∈ F) (hF:∀ y ∈ F1 ++ F2,y ∈ F ∨ w.heap.size<=y) (hR:(rowsP T1 n1 (T1 b1) ++ rowsP T2 n2 (T2 b2)).Perm R) :
  ∃ apl aph aql aqh npl epl nph eph nql eql nqh eqh L' H',R12 Iq w w3 m b b1 b2 F R apl aph aql aqh npl epl nph eph nql eql nqh eqh L' H':=by
 obtain ⟨vl1,vh1,vr1,p1⟩:=t1.pc
 obtain ⟨vl2,vh2,vr2,p2⟩:=t2.pc
 obtain ⟨apl,npl,epl,aph,nph,eph,rfl,rfl,r1,u0,u1,u2,u3,u4,u5⟩:=pc_cells p1
 obtain ⟨aql,nql,eql,aqh,nqh,eqh,rfl,rfl,r2,v0,v1,v2,v3,v4,v5⟩:=pc_cells p2
 have gd:Gb w3 w3.drew:=(Below.refl _ _).drew
 obtain ⟨l1,l2,m1,m2,_⟩:=(okP_box k1).lens
 obtain ⟨l3,l4,_⟩:=(okP_box k2).lens
 have st:S12 b b1 b2 apl aph aql aqh npl epl nph eph nql eql nqh eqh w3.drew:=⟨cell_cur hb rfl,cell_cur hb rfl,u0,u1,u2,u3,u4,u5,v0,v1,v2,v3,v4,v5⟩
 have n12:b1 ≠ b/\b2 ≠ b:=by
  rw [List.nodup_cons] at hnd
  exact ⟨fun e=>hnd.1 (by rw [<- e];exact List.mem_append_left _ t1.mem.1),fun e=>hnd.1 (by rw [<- e];exact List.mem_append_right _ t2.mem.1)⟩
 have hb4:∀ w4,Gb w3.drew w4->w4.heap[b]? = some (.cells #[q0,q1,q2,q3,q4,q5,.slice none 0 0,.int .i64 c.1,.int .i64 c.2.1,.int .i64 c.2.2,.pointer (some ⟨b1,0,none⟩),.pointer (some ⟨b2,0,none⟩)] 108 (0,0)):=fun w4 g=>by
  rw [(gb_trans gd g).block b (Array.getElem?_eq_some_iff.1 hb).1];exact hb
 refine ⟨apl,aph,aql,aqh,npl,epl,nph,eph,nql,eql,nqh,eqh,_,_,st,around_c (r1.gb gd) (r2.gb gd) m1 m2 ⟨l1,l2⟩ ⟨l3,l4⟩,?_,?_,?_⟩
 ·intro w4 vl' vh' g o1 o2
  exact rem_fin (hb4 w4 g) (OwnQ.new o1 t1.up (Nat.le_refl _)) (OwnQ.new o2 t1.up (Nat.le_refl _)) (t1.gb (gb_trans gd g)) k1 (t2.gb (gb_trans gd g)) k2 rfl rfl hc a1 a2 hnd (hK.trans (Tk.Kp.of_gr (gb_trans gd g))) hbF hF hR
 ·intro w4 g
  have h4:=hb4 w4 g
  exact ⟨⟨_,cell_cur h4 rfl⟩,⟨_,cell_cur h4 rfl⟩,⟨_,cell_cur h4 rfl⟩,⟨_,cell_cur h4 rfl⟩,⟨_,cell_cur h4 rfl⟩,⟨_,cell_cur h4 rfl⟩,by simp [World.frozen?,h4],by simp [World.frozen?,h4],by simp [World.frozen?,h4],by simp [World.frozen?,h4],by simp [World.frozen?,h4],by simp [World.frozen?,h4]⟩
 ·intro w4 g
  have h4:=hb4 w4 g
  have s4:=st.keep (W':=w4) (fun p y _ hc=>gb_keeps g hc)
  refine ⟨s4,fun vl' vh'=>s4.keep (fun p y hp hc=>?_)⟩
  have k0:Tk.Kp (fun k=>k=b) w4 ((((((w4.setCell ⟨b,0,none⟩ (.int .i64 2)).setCell ⟨b,1,none⟩ vl').setCell ⟨b,2,none⟩ vh').setCell ⟨b,3,none⟩ (.int .u64 0)).setCell ⟨b,4,none⟩ (.int .u64 0)).setCell ⟨b,5,none⟩ (.slice none 0 0)):=(((((((Tk.Kp.refl (fun k=>k=b) _).setCell (.inl rfl) _).setCell (.inl rfl) _).setCell (.inl rfl) _).setCell (.inl rfl) _).setCell (.inl rfl) _).setCell (.inl rfl) _)
  rcases hp with e | e | ⟨e,h10⟩
  ·exact k0.cell hc (by rw [e];exact n12.1)
  ·exact k0.cell hc (by rw [e];exact n12.2)
  ·obtain ⟨pb,po,ps⟩:=p
   dsimp only at e h10
   subst e
   rw [<- hc]
   cases ps with
   | none =>
    simp [World.cell?,World.setCell,Array.getElem?_modify,h4]
    obtain ⟨j,rfl⟩:∃ j,po=j + 10:=⟨po - 10,by omega⟩
    rfl
   | some sp=>simp [World.cell?,h4] at hc ⊢
end Go.Proofs.YtgbgejflmbhigaaGreat

namespace Go.Proofs.YtgbgejflmbhigaaGreat
open Go.RowKit Go.Sort
def Alt_rem_low (Iq:Nat->Prop) (w w2:World) (m b h:Nat) (F:List Nat) (R:List Rw) (pv:Option Addr):Prop :=
 (pv=none/\(w2.setCell ⟨b,10,none⟩ (.pointer none)).cell? ⟨b,10,none⟩=some (.pointer none)/\(w2.setCell ⟨b,10,none⟩ (.pointer none)).cell? ⟨b,11,none⟩=some (.pointer (some ⟨h,0,none⟩))/\RmOut Iq w m F R (.returned (.pointer (some ⟨h,0,none⟩))) (w2.setCell ⟨b,10,none⟩ (.pointer none))) ∨
 ∃ b' apl aph aql aqh npl epl nph eph nql eql nqh eqh L' H',pv=some ⟨b',0,none⟩/\R12 Iq w (w2.setCell ⟨b,10,none⟩ (.pointer (some ⟨b',0,none⟩))) m b b' h F R apl aph aql aqh npl epl nph eph nql eql nqh eqh L' H'
theorem alt_rem_low {Iq:Nat->Prop} {w w1 w2:World} {m b l h n:Nat} {F1 F2:List Nat} {T:Nat->Pt} {vl vh:Value} {ad:Bool} {r:Rw} {e:Ending} (hp:PcAt Iq w b (T b) vl vh (.slice none 0 0)) (hk:(T b).kids=some (l,h)) (t1:TrO Iq w T (n + 1) l F1) (t2:TrO Iq w T (n + 1) h F2)
  (_ok1:OkP T m n (T l)) (ok2:OkP T m n (T h)) (okc:0<=(T b).cut.1/\(T b).cut.1 < (m:Int)) (oa1:∀ r ∈ rowsP T n (T l),isAb (T b).cut r=true) (oa2:∀ r ∈ rowsP T n (T h),isAb (T b).cut r=false) (hnd:(b :: (F1 ++ F2)).Nodup)
  (hab:isAb (T b).cut r=true) (pm:(aft ad r (rowsP T n (T l)) ++ (rowsP T n (T h))).Perm (aft ad r (rowsP T n (T l) ++ rowsP T n (T h)))) (g1:Gb w w1) (hO:RmOut Iq w1 m F1 (aft ad r (rowsP T n (T l))) e w2) :
  ∃ pv,e=.returned (.pointer pv)/\Alt_rem_low Iq w w2 m b h (b :: (F1 ++ F2)) (aft ad r (rowsP T n (T l) ++ rowsP T n (T h))) pv/\w2.cell? ⟨b,10,none⟩=some (.pointer (some ⟨l,0,none⟩))/\w2.frozen? ⟨b,10,none⟩=false/\∀ (p:Addr) (y:Value),w.heap.size<=p.block->w1.cell? p=some y->w2.cell? p=some y:=by
 obtain ⟨k2,hn,hs⟩:=hO
 have bl:=(Array.getElem?_eq_some_iff.1 hp.blk).1
 have s1:=g1.size
 have m1:=t1.mem
 have m2:=t2.mem
 have hnd2:=hnd
 rw [List.nodup_cons,List.nodup_append] at hnd2
 obtain ⟨hbn,nd1,nd2,dj⟩:=hnd2
 have hbk:b ∉ F1:=fun e=>hbn (List.mem_append_left _ e)
 have hb2:w2.heap[b]? = some (.cells #[.int .i64 2,vl,vh,.int .u64 0,.int .u64 0,.slice none 0 0,.slice none 0 0,.int .i64 (T b).cut.1,.int .i64 (T b).cut.2.1,.int .i64 (T b).cut.2.2,.pointer (some ⟨l,0,none⟩),.pointer (some ⟨h,0,none⟩)] 108 (0,0)):=by
  rw [k2.block b (by omega) hbk,g1.block b bl]
  have:=hp.blk
  rw [hk] at this
  exact this
 have ni:NoInt w1 (fun k=>k ∈ F1):=(t1.gb g1).noint
 have toW:TrO Iq w2 T (n + 1) h F2:=TrO.kp k2 ni _ _ _ (t2.gb g1) (fun x hx e=>dj x e x hx rfl)
 have nb:NoInt w2 (fun k=>k=b):=fun k e cur s hc=>by subst e;rw [hb2] at hc;simp at hc
 have kb:∀ u,Tk.Kp (fun k=>k=b) w2 (w2.setCell ⟨b,10,none⟩ u):=fun u=>(Tk.Kp.refl (fun k=>k=b) w2).setCell (.inl rfl) u
 have toS:∀ u,TrO Iq (w2.setCell ⟨b,10,none⟩ u) T (n + 1) h F2:=fun u=>TrO.kp (kb u) nb _ _ _ toW (fun x hx e=>hbn (by rw [<- e];exact List.mem_append_right _ hx))
 have kF:∀ u,Tk.Kp (fun k=>k ∈ b :: (F1 ++ F2)) w (w2.setCell ⟨b,10,none⟩ u):=fun u=>by
  have k0:Tk.Kp (fun k=>k ∈ b :: (F1 ++ F2)) w w2:=(Tk.Kp.of_gr g1).trans (k2.mono (fun k _ hk=>List.mem_cons_of_mem _ (List.mem_append_left _ hk)))
  exact k0.setCell (.inl List.mem_cons_self) u
 have hcell:w2.cell? ⟨b,10,none⟩=some (.pointer (some ⟨l,0,none⟩)):=cell_cur hb2 rfl
 have hfro:w2.frozen? ⟨b,10,none⟩=false:=by simp [World.frozen?,hb2]
 have hkeep:∀ (p:Addr) (y:Value),w.heap.size<=p.block->w1.cell? p=some y->w2.cell? p=some y:=fun p y hp hc=>k2.cell hc (fun e=>by
  have:=(m1).2 _ e
  omega)
 by_cases hR:aft ad r (rowsP T n (T l))=[]
 ·refine ⟨none,hn hR,.inl ⟨rfl,?_,?_,kF _,fun e=>?_,fun _=>⟨h,T,F2,n,rfl,toS _,ok2,?_,nd2,fun y hy=>.inl (List.mem_cons_of_mem _ (List.mem_append_right _ hy))⟩⟩,hcell,hfro,hkeep⟩
  ·simp [World.cell?,World.setCell,Array.getElem?_modify,hb2]
  ·simp [World.cell?,World.setCell,Array.getElem?_modify,hb2]
  ·rw [hR,e] at pm
   exact absurd (List.append_eq_nil_iff.1 pm.eq_nil).2 (okP_ne _ _ ok2)
  ·rw [hR] at pm
   simpa using pm
 ·obtain ⟨b',T',F',n',e1,t3',ok3,pm3,nd,l3⟩:=hs hR
  have hbF':b ∉ F':=fun e=>by
   rcases l3 b e with h | h
   ·exact hbk h
   ·omega
  have t3:=TrO.kp (kb (.pointer (some ⟨b',0,none⟩))) nb _ _ _ t3' (fun x hx e=>hbF' (by rw [<- e];exact hx))
  have t4:=toS (.pointer (some ⟨b',0,none⟩))
  have hb3:(w2.setCell ⟨b,10,none⟩ (.pointer (some ⟨b',0,none⟩))).heap[b]? = some (.cells #[.int .i64 2,vl,vh,.int .u64 0,.int .u64 0,.slice none 0 0,.slice none 0 0,.int .i64 (T b).cut.1,.int .i64 (T b).cut.2.1,.int .i64 (T b).cut.2.2,.pointer (some ⟨b',0,none⟩),.pointer (some ⟨h,0,none⟩)] 108 (0,0)):=by
   simp [World.setCell,Array.getElem?_modify,hb2]
  have ndF:(b :: (F' ++ F2)).Nodup:=by
   rw [List.nodup_cons,List.nodup_append]
   refine ⟨fun e=>?_,nd,nd2,fun a ha c hc e=>?_⟩
   ·rcases List.mem_append.1 e with e | e
    ·exact hbF' e
    ·exact hbn (List.mem_append_right _ e)
   ·subst e
    rcases l3 a ha with h | h
    ·exact dj a h a hc rfl
    ·have:=(m2).2 a hc
     omega
  have oas:∀ y ∈ aft ad r (rowsP T n (T l)),isAb (T b).cut y=true:=by
   intro y hy
   unfold aft at hy
   split at hy
   ·rcases List.mem_append.1 hy with hy | hy
    ·exact oa1 y hy
    ·rw [List.mem_singleton.1 hy];exact hab
   ·exact oa1 y (List.mem_filter.1 hy).1
  have l3:∀ y ∈ F',y ∈ F1 ∨ w1.heap.size<=y:=l3
  obtain ⟨apl,aph,aql,aqh,npl,epl,nph,eph,nql,eql,nqh,eqh,L',H',h12⟩:=r12_of (w:=w) (m:=m) (T1:=T') (T2:=T) (n1:=n') (n2:=n) (F1:=F') (F2:=F2) (b1:=b') (b2:=h) (F:=b :: (F1 ++ F2)) (R:=aft ad r (rowsP T n (T l) ++ rowsP T n (T h))) hb3 t3 ok3 t4 ok2 okc (fun r hr=>oas r (pm3.mem_iff.1 hr)) oa2 ndF (kF _) List.mem_cons_self (fun y hy=>(List.mem_append.1 hy).elim (fun hy=>(l3 y hy).elim (fun h=>.inl (List.mem_cons_of_mem _ (List.mem_append_left _ h))) (fun h=>.inr (by omega))) (fun hy=>.inl (List.mem_cons_of_mem _ (List.mem_append_right _ hy)))) ((pm3.append_right _).trans pm)
  exact ⟨_,e1,.inr ⟨b',apl,aph,aql,aqh,npl,epl,nph,eph,nql,eql,nqh,eqh,L',H',rfl,h12⟩,hcell,hfro,hkeep⟩
def Alt_rem_high (Iq:Nat->Prop) (w w2:World) (m b l:Nat) (F:List Nat) (R:List Rw) (pv:Option Addr):Prop :=
 (pv=none/\(w2.setCell ⟨b,11,none⟩ (.pointer none)).cell? ⟨b,11,none⟩=some (.pointer none)/\(w2.setCell ⟨b,11,none⟩ (.pointer none)).cell? ⟨b,10,none⟩=some (.pointer (some ⟨l,0,none⟩))/\RmOut Iq w m F R (.returned (.pointer (some ⟨l,0,none⟩))) (w2.setCell ⟨b,11,none⟩ (.pointer none))) ∨
 ∃ b' apl aph aql aqh npl epl nph eph nql eql nqh eqh L' H',pv=some ⟨b',0,none⟩/\R12 Iq w (w2.setCell ⟨b,11,none⟩ (.pointer (some ⟨b',0,none⟩))) m b l b' F R apl aph aql aqh npl epl nph eph nql eql nqh eqh L' H'
theorem alt_rem_high {Iq:Nat->Prop} {w w1 w2:World} {m b l h n:Nat} {F1 F2:List Nat} {T:Nat->Pt} {vl vh:Value} {ad:Bool} {r:Rw} {e:Ending} (hp:PcAt Iq w b (T b) vl vh (.slice none 0 0)) (hk:(T b).kids=some (l,h)) (t1:TrO Iq w T (n + 1) l F1) (t2:TrO Iq w T (n + 1) h F2)
  (ok1:OkP T m n (T l)) (_ok2:OkP T m n (T h)) (okc:0<=(T b).cut.1/\(T b).cut.1 < (m:Int)) (oa1:∀ r ∈ rowsP T n (T l),isAb (T b).cut r=true) (oa2:∀ r ∈ rowsP T n (T h),isAb (T b).cut r=false) (hnd:(b :: (F1 ++ F2)).Nodup)
  (hab:isAb (T b).cut r=false) (pm:((rowsP T n (T l)) ++ aft ad r (rowsP T n (T h))).Perm (aft ad r (rowsP T n (T l) ++ rowsP T n (T h)))) (g1:Gb w w1) (hO:RmOut Iq w1 m F2 (aft ad r (rowsP T n (T h))) e w2) :
  ∃ pv,e=.returned (.pointer pv)/\Alt_rem_high Iq w w2 m b l (b :: (F1 ++ F2)) (aft ad r (rowsP T n (T l) ++ rowsP T n (T h))) pv/\w2.cell? ⟨b,11,none⟩=some (.pointer (some ⟨h,0,none⟩))/\w2.frozen? ⟨b,11,none⟩=false/\∀ (p:Addr) (y:Value),w.heap.size<=p.block->w1.cell? p=some y->w2.cell? p=some y:=by
 obtain ⟨k2,hn,hs⟩:=hO
 have bl:=(Array.getElem?_eq_some_iff.1 hp.blk).1
 have s1:=g1.size
 have m1:=t1.mem
 have m2:=t2.mem
 have hnd2:=hnd
 rw [List.nodup_cons,List.nodup_append] at hnd2
 obtain ⟨hbn,nd1,nd2,dj⟩:=hnd2
 have hbk:b ∉ F2:=fun e=>hbn (List.mem_append_right _ e)
 have hb2:w2.heap[b]? = some (.cells #[.int .i64 2,vl,vh,.int .u64 0,.int .u64 0,.slice none 0 0,.slice none 0 0,.int .i64 (T b).cut.1,.int .i64 (T b).cut.2.1,.int .i64 (T b).cut.2.2,.pointer (some ⟨l,0,none⟩),.pointer (some ⟨h,0,none⟩)] 108 (0,0)):=by
  rw [k2.block b (by omega) hbk,g1.block b bl]
  have:=hp.blk
  rw [hk] at this
  exact this
 have ni:NoInt w1 (fun k=>k ∈ F2):=(t2.gb g1).noint
 have toW:TrO Iq w2 T (n + 1) l F1:=TrO.kp k2 ni _ _ _ (t1.gb g1) (fun x hx e=>dj x hx x e rfl)
 have nb:NoInt w2 (fun k=>k=b):=fun k e cur s hc=>by subst e;rw [hb2] at hc;simp at hc
 have kb:∀ u,Tk.Kp (fun k=>k=b) w2 (w2.setCell ⟨b,11,none⟩ u):=fun u=>(Tk.Kp.refl (fun k=>k=b) w2).setCell (.inl rfl) u
 have toS:∀ u,TrO Iq (w2.setCell ⟨b,11,none⟩ u) T (n + 1) l F1:=fun u=>TrO.kp (kb u) nb _ _ _ toW (fun x hx e=>hbn (by rw [<- e];exact List.mem_append_left _ hx))
 have kF:∀ u,Tk.Kp (fun k=>k ∈ b :: (F1 ++ F2)) w (w2.setCell ⟨b,11,none⟩ u):=fun u=>by
  have k0:Tk.Kp (fun k=>k ∈ b :: (F1 ++ F2)) w w2:=(Tk.Kp.of_gr g1).trans (k2.mono (fun k _ hk=>List.mem_cons_of_mem _ (List.mem_append_right _ hk)))
  exact k0.setCell (.inl List.mem_cons_self) u
 have hcell:w2.cell? ⟨b,11,none⟩=some (.pointer (some ⟨h,0,none⟩)):=cell_cur hb2 rfl
 have hfro:w2.frozen? ⟨b,11,none⟩=false:=by simp [World.frozen?,hb2]
 have hkeep:∀ (p:Addr) (y:Value),w.heap.size<=p.block->w1.cell? p=some y->w2.cell? p=some y:=fun p y hp hc=>k2.cell hc (fun e=>by
  have:=(m2).2 _ e
  omega)
 by_cases hR:aft ad r (rowsP T n (T h))=[]
 ·refine ⟨none,hn hR,.inl ⟨rfl,?_,?_,kF _,fun e=>?_,fun _=>⟨l,T,F1,n,rfl,toS _,ok1,?_,nd1,fun y hy=>.inl (List.mem_cons_of_mem _ (List.mem_append_left _ hy))⟩⟩,hcell,hfro,hkeep⟩
  ·simp [World.cell?,World.setCell,Array.getElem?_modify,hb2]
  ·simp [World.cell?,World.setCell,Array.getElem?_modify,hb2]
  ·rw [hR,e] at pm
   exact absurd (List.append_eq_nil_iff.1 pm.eq_nil).1 (okP_ne _ _ ok1)
  ·rw [hR] at pm
   simpa using pm
 ·obtain ⟨b',T',F',n',e1,t3',ok3,pm3,nd,l3⟩:=hs hR
  have hbF':b ∉ F':=fun e=>by
   rcases l3 b e with h | h
   ·exact hbk h
   ·omega
  have t3:=TrO.kp (kb (.pointer (some ⟨b',0,none⟩))) nb _ _ _ t3' (fun x hx e=>hbF' (by rw [<- e];exact hx))
  have t4:=toS (.pointer (some ⟨b',0,none⟩))
  have hb3:(w2.setCell ⟨b,11,none⟩ (.pointer (some ⟨b',0,none⟩))).heap[b]? = some (.cells #[.int .i64 2,vl,vh,.int .u64 0,.int .u64 0,.slice none 0 0,.slice none 0 0,.int .i64 (T b).cut.1,.int .i64 (T b).cut.2.1,.int .i64 (T b).cut.2.2,.pointer (some ⟨l,0,none⟩),.pointer (some ⟨b',0,none⟩)] 108 (0,0)):=by
   simp [World.setCell,Array.getElem?_modify,hb2]
  have ndF:(b :: (F1 ++ F')).Nodup:=by
   rw [List.nodup_cons,List.nodup_append]
   refine ⟨fun e=>?_,nd1,nd,fun a ha c hc e=>?_⟩
   ·rcases List.mem_append.1 e with e | e
    ·exact hbn (List.mem_append_left _ e)
    ·exact hbF' e
   ·subst e
    rcases l3 a hc with h | h
    ·exact dj a ha a h rfl
    ·have:=(m1).2 a ha
     omega
  have oas:∀ y ∈ aft ad r (rowsP T n (T h)),isAb (T b).cut y=false:=by
   intro y hy
   unfold aft at hy
   split at hy
   ·rcases List.mem_append.1 hy with hy | hy
    ·exact oa2 y hy
    ·rw [List.mem_singleton.1 hy];exact hab
   ·exact oa2 y (List.mem_filter.1 hy).1
  have l3:∀ y ∈ F',y ∈ F2 ∨ w1.heap.size<=y:=l3
  obtain ⟨apl,aph,aql,aqh,npl,epl,nph,eph,nql,eql,nqh,eqh,L',H',h12⟩:=r12_of (w:=w) (m:=m) (T1:=T) (T2:=T') (n1:=n) (n2:=n') (F1:=F1) (F2:=F') (b1:=l) (b2:=b') (F:=b :: (F1 ++ F2)) (R:=aft ad r (rowsP T n (T l) ++ rowsP T n (T h))) hb3 t4 ok1 t3 ok3 okc oa1 (fun r hr=>oas r (pm3.mem_iff.1 hr)) ndF (kF _) List.mem_cons_self (fun y hy=>(List.mem_append.1 hy).elim (fun hy=>.inl (List.mem_cons_of_mem _ (List.mem_append_left _ hy))) (fun hy=>(l3 y hy).elim (fun h=>.inl (List.mem_cons_of_mem _ (List.mem_append_right _ h))) (fun h=>.inr (by omega)))) ((pm3.append_left _).trans pm)
  exact ⟨_,e1,.inr ⟨b',apl,aph,aql,aqh,npl,epl,nph,eph,nql,eql,nqh,eqh,L',H',rfl,h12⟩,hcell,hfro,hkeep⟩
end Go.Proofs.YtgbgejflmbhigaaGreat
