import Derived.Test.YtepjbdklljlecaaGreatVrVpHi
import Derived.Test.YtepjbdklljlecaaGreatVr19
import Derived.Test.YtepjbdklljlecaaGreatVrBall
import Derived.Test.YtepjbdklljlecaaGreatVr20
import Derived.Test.YtepjbdklljlecaaGreatVr5
namespace Go.Proofs.YtepjbdklljlecaaGreat
open Go.RowKit Go.Sort Go.Maps
set_option maxRecDepth 100000
set_option maxHeartbeats 400000
def BallO (w w':World) (sb:Nat) (rs:List Rw) (e:Ending):Prop:=∃ j vl vh,j < rs.length/\e=.returned (rv ⟨3,rs[j]!.2,[],radN rs[j]!.2 rs rs.length,[]⟩ vl vh (.slice none 0 0))/\Own w' w.heap.size vl rs[j]!.2/\Own w' w.heap.size vh []/\(∃ y,Rn.U y/\Boxed w' sb 144 (.int .u64 y))/\Tk.Kp (fun b=>b=sb) w w'
theorem rowsE_row {rs:List Rw} {d:Int} (h:idsE rs d=0) {j:Nat} (hj:j < rs.length):chk rs[j]!.2 d=0:=by
 have:=(idsE_zero.1 h).row rs[j]! (by rw [getElem!_pos rs j hj];exact List.getElem_mem hj)
 exact this.2
def R6 (W:World) (b:Nat):Prop:=W.heap[b]? = some (.cells #[.int .i64 0,.slice none 0 0,.slice none 0 0,.int .u64 0,.int .u64 0,.slice none 0 0] 102 (0,0))
theorem R6.cells {W:World} {b:Nat} (h:R6 W b):(W.cell? ⟨b,0,none⟩=some (.int .i64 0)/\W.cell? ⟨b,1,none⟩=some (.slice none 0 0)/\W.cell? ⟨b,2,none⟩=some (.slice none 0 0)/\W.cell? ⟨b,3,none⟩=some (.int .u64 0)/\W.cell? ⟨b,4,none⟩=some (.int .u64 0)/\W.cell? ⟨b,5,none⟩=some (.slice none 0 0))/\∀ i,W.frozen? ⟨b,i,none⟩=false:=by
 unfold R6 at h
 refine ⟨⟨?_,?_,?_,?_,?_,?_⟩,fun i=>?_⟩
 ·simp [World.cell?,h]
 ·simp [World.cell?,h]
 ·simp [World.cell?,h]
 ·simp [World.cell?,h]
 ·simp [World.cell?,h]
 ·simp [World.cell?,h]
 ·simp [World.frozen?,h]
theorem reg6 {W:World} {b:Nat} (h:R6 W b):(W.cell? ⟨b,0,none⟩=some (.int .i64 0)/\W.cell? ⟨b,1,none⟩=some (.slice none 0 0)/\W.cell? ⟨b,2,none⟩=some (.slice none 0 0)/\W.cell? ⟨b,3,none⟩=some (.int .u64 0)/\W.cell? ⟨b,4,none⟩=some (.int .u64 0)/\W.cell? ⟨b,5,none⟩=some (.slice none 0 0))/\W.frozen? ⟨b,0,none⟩=false/\W.frozen? ⟨b,1,none⟩=false/\W.frozen? ⟨b,2,none⟩=false/\W.frozen? ⟨b,3,none⟩=false/\W.frozen? ⟨b,4,none⟩=false/\W.frozen? ⟨b,5,none⟩=false :=
 ⟨h.cells.1,h.cells.2 0,h.cells.2 1,h.cells.2 2,h.cells.2 3,h.cells.2 4,h.cells.2 5⟩
theorem kp_six {a W:World} {b:Nat} (h:Tk.Kp (fun k=>k=b) a W) (x0 x1 x2 x3 x4 x5:Value):Tk.Kp (fun k=>k=b) a ((((((W.setCell ⟨b,0,none⟩ x0).setCell ⟨b,1,none⟩ x1).setCell ⟨b,2,none⟩ x2).setCell ⟨b,3,none⟩ x3).setCell ⟨b,4,none⟩ x4).setCell ⟨b,5,none⟩ x5) :=
 (((((h.setCell (p:=⟨b,0,none⟩) (.inl rfl) x0).setCell (p:=⟨b,1,none⟩) (.inl rfl) x1).setCell (p:=⟨b,2,none⟩) (.inl rfl) x2).setCell (p:=⟨b,3,none⟩) (.inl rfl) x3).setCell (p:=⟨b,4,none⟩) (.inl rfl) x4).setCell (p:=⟨b,5,none⟩) (.inl rfl) x5
theorem R6.kp {W W':World} {b:Nat} {S:Nat->Prop} (h:R6 W b) (k:Tk.Kp S W W') (hn:¬ S b):R6 W' b:=by
 unfold R6 at h ⊢
 rw [k.block b (Array.getElem?_eq_some_iff.1 h).1 hn];exact h
theorem ballOf_c {w:World} {tb sb:Nat} {v:Value} {rs:List Rw} {d:Nat} {x:Int} (hs:w.cell? ⟨tb,2,none⟩=some (.pointer (some ⟨sb,0,none⟩))) (hx:Boxed w sb 144 (.int .u64 x)) (ux:Rn.U x)
  (h:∀ W,Tk.Kp (fun b=>b=sb) w W->RdW W v rs) (hn:1<=rs.length) (hn5:rs.length<=512) (hok:idsE rs (d:Int)=0) (hwf:∀ i,i < rs.length->(Lit.int .i64 rs[i]!.1).wf=true) :
  Calls Tryz.prog 93 #[.pointer (some ⟨tb,0,none⟩),v] w fun e w'=>BallO w w' sb rs e:=by
 have H:Hid (∀ W,Tk.Kp (fun b=>b=sb) w W->RdW W v rs):=h
 have K:Hid (idsE rs (d:Int)=0/\∀ i,i < rs.length->(Lit.int .i64 rs[i]!.1).wf=true):=⟨hok,hwf⟩
 obtain ⟨av,cv,rfl,_⟩:=h w (Tk.Kp.refl _ _)
 obtain ⟨n,hN⟩:∃ n,n=rs.length:=⟨_,rfl⟩
 have N:Hid (n=rs.length):=hN
 rw [<- hN] at H hn hn5 ⊢
 have RZ:Hid (R6 (w.alloc (.cells #[.int .i64 0,.slice none 0 0,.slice none 0 0,.int .u64 0,.int .u64 0,.slice none 0 0] 102)) w.heap.size):=World.alloc_heap_new w _
 have k0:Tk.Kp (fun b=>b=sb) w (w.alloc (.cells #[.int .i64 0,.slice none 0 0,.slice none 0 0,.int .u64 0,.int .u64 0,.slice none 0 0] 102)):=Tk.Kp.of_gr (gb_alloc (Below.refl _ _) _)
 have hs0:=alloc_keeps hs (.cells #[.int .i64 0,.slice none 0 0,.slice none 0 0,.int .u64 0,.int .u64 0,.slice none 0 0] 102)
 have cB:=Rn.below_ok sb x (n:Int) _ (hx.alloc (.cells #[.int .i64 0,.slice none 0 0,.slice none 0 0,.int .u64 0,.int .u64 0,.slice none 0 0] 102)) ux ⟨by omega,by omega⟩
 have M0:=Int.emod_nonneg (Rn.mx (Rn.stp x)) (b:=(n:Int)) (by omega)
 have M1:=Int.emod_lt_of_pos (Rn.mx (Rn.stp x)) (b:=(n:Int)) (by omega)
 generalize Rn.mx (Rn.stp x) % (n:Int)=pl at *
 obtain ⟨j,rfl⟩:∃ j:Nat,pl=j:=⟨pl.toNat,by omega⟩
 have hsb:sb < w.heap.size:=hx.lt
 have KW:Hid (Tk.Kp (fun b=>b=sb) w (w.alloc (.cells #[.int .i64 0,.slice none 0 0,.slice none 0 0,.int .u64 0,.int .u64 0,.slice none 0 0] 102))):=k0
 obtain ⟨W0,hW0⟩:∃ W0,W0=w.alloc (.cells #[.int .i64 0,.slice none 0 0,.slice none 0 0,.int .u64 0,.int .u64 0,.slice none 0 0] 102):=⟨_,rfl⟩
 rw [<- hW0] at cB RZ KW
 have US:Hid (Rn.U (Rn.stp x)):=Rn.u_stp x
 have SZ:Hid (w.heap.size < W0.heap.size):=by unfold Hid;rw [hW0,World.size_alloc];omega
 clear h hok hwf hN hs hx ux k0
 go_enter Tryz.func93,Tryz.ntmps93
 go_wp2_with fail
 rw [<- hW0]
 clear hW0
 go_fit cB
 rintro e w1 ⟨rfl,hb1,g1⟩
 have k1:Tk.Kp (fun b=>b=sb) W0 w1:=(Tk.Kp.grown g1).mono (fun k _ e=>by injection e)
 have K1:Hid (Tk.Kp (fun b=>b=sb) w w1/\Boxed w1 sb 144 (.int .u64 (Rn.stp x))):=⟨KW.out.trans k1,hb1⟩
 have RZ1:Hid (R6 w1 w.heap.size/\w.heap.size < w1.heap.size):=⟨RZ.out.kp k1 (by omega),Nat.lt_of_lt_of_le SZ.out k1.size⟩
 have hjn:j < rs.length:=by have:=N.out;omega
 have rw1:=H.out w1 K1.out.1
 have RW1:Hid (RdW w1 (.slice av n cv) rs):=rw1
 obtain ⟨_,_,e0,hA⟩:=rw1
 obtain ⟨b,o,u,ea,c1,c2,c3⟩:=hA j hjn
 injection e0 with e01 e02 e03
 subst e01 ea
 have kC:=rowsE_row K.out.1 hjn
 have lC:=chk_ok kC
 have hE:ballE rs[j]!.2 rs=0:=by unfold ballE;rw [<- lC.2.2.1,if_pos kC];exact K.out.1
 have cb:=ball_c c3 RW1.out (by omega) K.out.2
 have hR:ballR rs[j]!.2 rs=⟨3,rs[j]!.2,[],radN rs[j]!.2 rs rs.length,srt (idsOf rs)⟩:=by unfold ballR;rw [if_pos hE]
 rw [hE,hR] at cb
 have JB:Hid (j < rs.length):=hjn
 obtain ⟨pu,cu,eu,_⟩:=c3
 subst eu
 obtain ⟨R,hRR⟩:∃ R,R=radN rs[j]!.2 rs rs.length:=⟨_,rfl⟩
 have RR:Hid (radN rs[j]!.2 rs rs.length=R):=hRR.symm
 rw [<- hRR] at cb
 clear hRR
 generalize hV:rs[j]!.2=V at *
 have VV:Hid (rs[j]!.2=V):=hV
 generalize V.length=nV at *
 have hji:(j:Int) < (n:Int):=by omega
 clear hA e02 e03 cB g1 k1 kC lC hE hR hb1 hV hs0
 go_wp2_with fail
 go_fit cb
 rintro e w2 ⟨vl,vh,vi,rfl,gO,ol,oh,oi,_⟩
 dsimp only at ol oh oi
 obtain ⟨al,cl,el,_⟩:=ol.rd
 obtain ⟨nV',hnV'⟩:∃ n,n=V.length:=⟨_,rfl⟩
 rw [<- hnV'] at el
 clear hnV'
 obtain ⟨ah,ch,eh,_⟩:=oh.rd
 obtain ⟨ai,ci,ei,_⟩:=oi.rd
 subst el eh ei
 have k2:Tk.Kp (fun b=>b=sb) w w2:=K1.out.1.trans (Tk.Kp.of_gr gO)
 have hs:=reg6 ((RZ1.out.1.kp (Tk.Kp.of_gr (S:=fun _=>False) gO) id).kp (Tk.Kp.of_gr (S:=fun _=>False) (gb_alloc (Below.refl _ _) (.cells #[.int .i64 3,.slice al nV' cl,.slice ah 0 ch,.int .u64 (hi R),.int .u64 (lo R),.slice none 0 0] 102))) id)
 have hsz:w1.heap.size<=w2.heap.size:=gO.size
 have hlt1:=RZ1.out.2
 have hne:¬ w2.heap.size=w.heap.size:=by omega
 have hne2:¬ w.heap.size=w2.heap.size:=by omega
 have hlt2:w.heap.size < w2.heap.size:=by omega
 have FIN:Hid (∀ W,Tk.Kp (fun b=>b=w.heap.size) w2 W->BallO w W sb rs (.returned (rv ⟨3,V,[],R,[]⟩ (.slice al nV' cl) (.slice ah 0 ch) (.slice none 0 0)))):=fun W kW=>by
  refine ⟨j,_,_,JB.out,by rw [VV.out,RR.out],?_,?_,⟨_,US.out,?_⟩,?_⟩
  ·rw [VV.out];exact own_kpI (ol.mono (Nat.le_of_lt RZ1.out.2)) kW (fun g hg e=>by have h1:=(World.ownsRow.lt ol g hg).1;have h2:=RZ1.out.2;omega)
  ·exact own_kpI (oh.mono (Nat.le_of_lt RZ1.out.2)) kW (fun g hg e=>by have h1:=(World.ownsRow.lt oh g hg).1;have h2:=RZ1.out.2;omega)
  ·have hb2:Boxed w2 sb 144 (.int .u64 (Rn.stp x)):=(gO.block sb K1.out.2.lt).trans K1.out.2
   exact (kW.block sb hb2.lt (by omega)).trans hb2
  ·exact ⟨kW.os.trans k2.os,kW.tape.trans k2.tape,kW.output.trans k2.output,Nat.le_trans k2.size kW.size,fun b hb hn=>(kW.block b (Nat.lt_of_lt_of_le hb k2.size) (by omega)).trans (k2.block b hb hn)⟩
 generalize (srt (idsOf rs)).length=ni at *
 dsimp only [rv]
 clear gO ol oh oi cb k2 hne hne2 hlt2 hsz hlt1 hsb
 go_wp2
 obtain ⟨⟨q0,q1,q2,q3,q4,q5⟩,_⟩:=hs
 refine bodyPost_ret (v:=.agg #[.int .i64 3,.slice al nV' cl,.slice ah 0 ch,.int .u64 (hi R),.int .u64 (lo R),.slice none 0 0]) (by simp [results,Tryz.results93,go_sem,q0,q1,q2,q3,q4,q5]) rfl (FIN.out _ ?_)
 refine kp_six (Tk.Kp.of_gr (gb_alloc (Below.refl _ _) _)) _ _ _ _ _ _
end Go.Proofs.YtepjbdklljlecaaGreat

namespace Go.Proofs.YtepjbdklljlecaaGreat
open Go.Shelf Go.RowKit Go.Lib Go.Sort
set_option maxHeartbeats 2000000
shelf_lay_g SlLaysF0.n6 Slsf 6 at Tryz 134 as Tryz.laidSortM
abbrev Me:=Rt × Tk.Ht
abbrev encM (x:Me):List Value:=[.int .i64 x.1.1,x.1.2.1,.int .i64 x.2.1,.int .u64 x.2.2.1,.int .u64 x.2.2.2]
abbrev mv (x:Me):Value:=.agg #[.int .i64 x.1.1,x.1.2.1,.int .i64 x.2.1,.int .u64 x.2.2.1,.int .u64 x.2.2.2]
def MeAt (w:World) (g o:Nat) (d:List Me):Prop:=∃ cur,w.heap[g]? = some (.cells cur 189 (0,0))/\o + d.length * 5<=cur.size/\∀ i (h:i < d.length),cur[o + i * 5]? = some (.int .i64 d[i].1.1)/\cur[o + i * 5 + 1]? = some d[i].1.2.1/\cur[o + i * 5 + 2]? = some (.int .i64 d[i].2.1)/\cur[o + i * 5 + 3]? = some (.int .u64 d[i].2.2.1)/\cur[o + i * 5 + 4]? = some (.int .u64 d[i].2.2.2)
structure SrtM (w w':World) (g o n:Nat):Prop where
 kp:Tk.Kp (fun b=>b=g) w w'
 blk:∀ cur,w.heap[g]? = some (.cells cur 189 (0,0))->∃ cur',w'.heap[g]? = some (.cells cur' 189 (0,0))/\cur'.size=cur.size/\∀ i,(i < o ∨ o + n * 5<=i)->cur'[i]? = cur[i]?
theorem sort_heapM {α:Type} [Inhabited α] (enc:α->List Value) (w:World) (g o m:Nat) (d:Array α) (os:Array Obj) {cur:Array Value} (h:w.heap[g]? = some (.cells cur 189 (0,0))) :
  (sortWorldK enc 5 w g o m d os).heap[g]? = some (.cells (putCells id o (flatK enc 5 d) cur) 189 (0,0)):=by
 have hlt:=(Array.getElem?_eq_some_iff.1 h).1
 unfold sortWorldK
 rw [heap_grow_old _ _ (by simp [putRowK,putRow,mapBlock];exact hlt)]
 simp [putRowK,putRow,mapBlock,Array.getElem?_modify,h,onCells]
theorem sort_kpM {α:Type} [Inhabited α] (enc:α->List Value) (w:World) (g o m:Nat) (d:Array α) (os:Array Obj):Tk.Kp (fun b=>b=g) w (sortWorldK enc 5 w g o m d os):=by
 unfold sortWorldK
 refine Tk.Kp.trans (b:=putRowK enc 5 (Sort.ahead w m) g o d) ⟨rfl,rfl,rfl,by simp [putRowK,putRow,mapBlock],fun k _ hn=>?_⟩ (Tk.Kp.of_gr (Tk.gr_grow _ _))
 simp [putRowK,putRow,mapBlock,Array.getElem?_modify,Ne.symm hn]
theorem sortM {w:World} {g o cap fn:Nat} {d:List Me} {cb:Array Value} {cf:Me->Me->Int} (ok:Me->Prop) (hd:MeAt w g o d) (hne:d ≠ []) (hlen:d.length<=4000) (hok:∀ x ∈ d,ok x) (hone:∀ x,ok x->x.1.2.1.oneCell'=true)
  (hO:SWO (fun x y:Me=>decide (cf x y < 0))) (eg:∀ args w,(callFunc fn args).run Tryz.prog w=.ok (.enter fn args) w)
  (hc:∀ W,Tk.Kp (fun b=>b=g) w W->∀ x y,ok x->ok y->Calls Tryz.prog fn (#[mv x,mv y] ++ cb) W fun e w'=>e=.returned (.int .i64 (cf x y))/\Tk.Gw W w') :
  Calls Tryz.prog 134 #[.slice (some ⟨g,o,none⟩) d.length cap,.func (.func fn) #[] cb] w fun e w'=>e=.returned (.tuple #[])/\∃ d',d'.Perm d/\(d'.Pairwise fun x y=>¬ cf y x < 0)/\MeAt w' g o d'/\SrtM w w' g o d.length:=by
 haveI:Inhabited {x // ok x}:=⟨⟨d.head hne,hok _ (List.head_mem hne)⟩⟩
 obtain ⟨cur,hcur,hsz,hcells⟩:=hd
 have hlt:=(Array.getElem?_eq_some_iff.1 hcur).1
 obtain ⟨A,hA⟩:∃ A:Array {x // ok x},A=(d.attachWith ok hok).toArray:=⟨_,rfl⟩
 have hAs:A.size=d.length:=by rw [hA];simp
 have hAg:∀ i (h:i < d.length),(A[i]!).1=d[i]:=by
  intro i h
  rw [getElem!_pos A i (by omega)]
  subst hA
  simp
 have hH:HoldsK (fun x:{x // ok x}=>encM x.1) 5 w g o A:=by
  intro t ht
  have ht':t < d.length * 5:=by simpa [hAs] using ht
  have hi:t / 5 < d.length:=by omega
  have e:(flatK (fun x:{x // ok x}=>encM x.1) 5 A)[t]! = (encM d[t / 5])[t % 5]! := by
   rw [get_flatK _ _ _ _ (by rw [hAs];exact ht'),hAg _ hi]
  refine ⟨?_,by simp [World.frozen?,hcur]⟩
  rw [e]
  obtain ⟨c0,c1,c2,c3,c4⟩:=hcells (t / 5) hi
  have hm:t % 5=0 ∨ t % 5=1 ∨ t % 5=2 ∨ t % 5=3 ∨ t % 5=4:=by omega
  rcases hm with h0 | h0 | h0 | h0 | h0
  ·rw [h0];exact cell_cur hcur (by rw [show o + t=o + t / 5 * 5 by omega];exact c0)
  ·rw [h0];exact cell_cur hcur (by rw [show o + t=o + t / 5 * 5 + 1 by omega];exact c1)
  ·rw [h0];exact cell_cur hcur (by rw [show o + t=o + t / 5 * 5 + 2 by omega];exact c2)
  ·rw [h0];exact cell_cur hcur (by rw [show o + t=o + t / 5 * 5 + 3 by omega];exact c3)
  ·rw [h0];exact cell_cur hcur (by rw [show o + t=o + t / 5 * 5 + 4 by omega];exact c4)
 have hS:SWO (ltOf fun x y:{x // ok x}=>cf x.1 y.1):=⟨fun x=>hO.irrefl x.1,fun x y z=>hO.trans x.1 y.1 z.1,fun x y z=>hO.ntrans x.1 y.1 z.1⟩
 have hcmp:CmpLays Tryz.prog fn cb (fun x:{x // ok x}=>encM x.1) 5 (fun x y=>cf x.1 y.1) g o A.size w:=by
  intro m os dk _ x y
  exact hc _ (sort_kpM _ _ _ _ _ _ _) x.1 y.1 x.2 y.2
 have hs:=AnyQ.slices_SortFunc Tryz.laidSortM 5 Tryz.isAgg189 Tryz.sizeOf189 (fun x:{x // ok x}=>encM x.1) (fun _=>rfl) (fun x v hv=>by
  simp only [encM,List.mem_cons,List.not_mem_nil,or_false] at hv
  rcases hv with rfl | rfl | rfl | rfl | rfl
  ·rfl
  ·exact hone x.1 x.2
  ·rfl
  ·rfl
  ·rfl) (fun x y=>cf x.1 y.1) hS fn cb g o cap A w eg hcmp hH hlt (by omega)
 rw [hAs] at hs
 change Calls Tryz.prog 134 _ _ _ at hs
 refine hs.mono ?_
 rintro e w' ⟨rfl,D,m,os,⟨hP0,_,hP⟩,hSo,rfl⟩
 have hDs:D.size=d.length:=by rw [hP0,hAs]
 rw [show d.length=A.size from hAs.symm,Array.extract_size,hAs] at hP
 rw [show D.extract 0 d.length=D by rw [<- hDs];exact Array.extract_size] at hP
 have hDl:(D.toList.map Subtype.val).length=d.length:=by simp [hDs]
 have hDg:∀ i (h:i < (D.toList.map Subtype.val).length),(D.toList.map Subtype.val)[i]=(D[i]!).1:=by
  intro i h
  rw [getElem!_pos D i (by rw [hDl] at h;omega)]
  simp
 refine ⟨rfl,D.toList.map Subtype.val,?_,?_,?_,?_⟩
 ·have:=hP.map Subtype.val
  refine this.trans (List.Perm.of_eq ?_)
  rw [hA]
  simp only []
  first | exact List.attachWith_map_subtype_val _ | exact List.attachWith_map_val _ | (simp;exact List.attach_map_subtype_val d)
 ·rw [List.pairwise_iff_getElem]
  intro i j hi hj hij
  rw [hDg i hi,hDg j hj]
  have:=hSo i j (Nat.zero_le _) hij (by rw [hDl] at hj;exact hj)
  unfold ltOf at this
  exact of_decide_eq_false this
 ·refine ⟨_,sort_heapM _ w g o m D os hcur,by rw [hDl];simpa [putCells] using hsz,fun i h=>?_⟩
  rw [hDg i h]
  have hi:i < d.length:=by rw [hDl] at h;exact h
  have key:∀ t,t < d.length * 5->(putCells id o (flatK (fun x:{x // ok x}=>encM x.1) 5 D) cur)[o + t]? = some ((encM (D[t / 5]!).1)[t % 5]!):=by
   intro t ht
   have hb:o + t < cur.size:=by omega
   simp only [putCells,Array.getElem?_mapIdx,Array.getElem?_eq_getElem hb,Option.map_some]
   rw [if_pos ⟨by omega,by simp [hDs];omega⟩,show o + t - o=t by omega,get_flatK _ _ _ _ (by rw [hDs];exact ht)]
   rfl
  have k0:=key (i * 5) (by omega)
  have k1:=key (i * 5 + 1) (by omega)
  have k2:=key (i * 5 + 2) (by omega)
  have k3:=key (i * 5 + 3) (by omega)
  have k4:=key (i * 5 + 4) (by omega)
  rw [show i * 5 / 5=i by omega,show i * 5 % 5=0 by omega] at k0
  rw [show (i * 5 + 1) / 5=i by omega,show (i * 5 + 1) % 5=1 by omega] at k1
  rw [show (i * 5 + 2) / 5=i by omega,show (i * 5 + 2) % 5=2 by omega] at k2
  rw [show (i * 5 + 3) / 5=i by omega,show (i * 5 + 3) % 5=3 by omega] at k3
  rw [show (i * 5 + 4) / 5=i by omega,show (i * 5 + 4) % 5=4 by omega] at k4
  exact ⟨k0,by rw [Nat.add_assoc];exact k1,by rw [Nat.add_assoc];exact k2,by rw [Nat.add_assoc];exact k3,by rw [Nat.add_assoc];exact k4⟩
 ·refine ⟨sort_kpM _ _ _ _ _ _ _,fun cur2 h2=>?_⟩
  rw [hcur] at h2
  injection h2 with h2
  injection h2 with h2 _ _
  subst h2
  refine ⟨_,sort_heapM _ w g o m D os hcur,by simp [putCells],fun i hi=>?_⟩
  simp only [putCells,Array.getElem?_mapIdx]
  have hn2:¬ (o<=i/\i < o + (flatK (fun x:{x // ok x}=>encM x.1) 5 D).size):=by simp [hDs];omega
  cases hcc:cur[i]? with
  | none=>rfl
  | some c=>rw [Option.map_some,if_neg hn2]
theorem outward1_c (x y:Me) (hu:x.1.2.1.oneCell'=true) (hv:y.1.2.1.oneCell'=true) (w:World) :
  Calls Tryz.prog 135 #[mv x,mv y] w fun e w'=>e=.returned (.int .i64 (Tk.cf x.2 y.2))/\Tk.Gw w w':=by
 obtain ⟨⟨xi,xu,xl⟩,a0,a1,a2⟩:=x
 obtain ⟨⟨yi,yu,yl⟩,b0,b1,b2⟩:=y
 dsimp only at hu hv
 have hcu:xu.cells=#[xu]:=by first | exact Value.cells_of_oneCell' hu | (cases xu <;> simp_all [Value.oneCell',Value.cells])
 have hcv:yu.cells=#[yu]:=by first | exact Value.cells_of_oneCell' hv | (cases yu <;> simp_all [Value.oneCell',Value.cells])
 show Calls Tryz.prog 135 #[.agg #[.int .i64 xi,xu,.int .i64 a0,.int .u64 a1,.int .u64 a2],.agg #[.int .i64 yi,yu,.int .i64 b0,.int .u64 b1,.int .u64 b2]] w fun e w'=>e=.returned (.int .i64 (Tk.cor (Tk.cw a1 a2 b1 b2) (Tk.ci a0 b0)))/\Tk.Gw w w'
 go_enter Tryz.func135,Tryz.ntmps135
 go_wp2
 have C:Tk.Gw w ((w.alloc (.cells #[.int .i64 xi,xu,.int .i64 a0,.int .u64 a1,.int .u64 a2] 189)).alloc (.cells #[.int .i64 yi,yu,.int .i64 b0,.int .u64 b1,.int .u64 b2] 189)):=((Tk.Gw.refl _).alloc _).alloc _
 go_region_held3 (fun w'=>Tk.Gw w w'/\w'.cell? ⟨w.heap.size,2,none⟩=some (.int .i64 a0)/\w'.cell? ⟨w.heap.size,3,none⟩=some (.int .u64 a1)/\w'.cell? ⟨w.heap.size,4,none⟩=some (.int .u64 a2)/\w'.cell? ⟨w.heap.size + 1,2,none⟩=some (.int .i64 b0)/\w'.cell? ⟨w.heap.size + 1,3,none⟩=some (.int .u64 b1)/\w'.cell? ⟨w.heap.size + 1,4,none⟩=some (.int .u64 b2)) (first | (with_reducible exact Tk.six_call (by assumption) (by assumption)) | (with_reducible assumption) | (with_reducible exact Tk.six_alloc (by assumption)) | exact ⟨C.drew,by simp [go_sem],by simp [go_sem],by simp [go_sem],by simp [go_sem],by simp [go_sem],by simp [go_sem]⟩) (first | (go_at_call 70;refine (Tk.cmpw _ _ _ _ _).mono ?_;rintro e w' ⟨rfl,hg⟩) | (go_at_call 58;refine (Tk.compare_c _ _ _).mono ?_;rintro e w' ⟨rfl,rfl⟩) | (go_at_call 136;refine (Tk.or_new _ _ _).mono ?_;rintro e w' ⟨rfl,rfl⟩))
 all_goals
  go_wp2
  go_ret
  exact ⟨rfl,And.left (by assumption)⟩
end Go.Proofs.YtepjbdklljlecaaGreat

namespace Go.Proofs.YtepjbdklljlecaaGreat
open Go.RowKit Go.Sort Go.Maps Go.Shelf
set_option maxRecDepth 100000
set_option maxHeartbeats 2000000
theorem info_partsE:∃ i,Tryz.prog.info? 189=some i/\i.zero=some (.agg #[.int .i64 0,.slice none 0 0,.int .i64 0,.int .u64 0,.int .u64 0])/\i.size=5/\i.bytes=56:=by
 have h:(Tryz.prog.info? 189).map (fun i=>(i.zero,i.size,i.bytes))=some (some (.agg #[.int .i64 0,.slice none 0 0,.int .i64 0,.int .u64 0,.int .u64 0]),5,56):=by kernel_rfl
 cases e:Tryz.prog.info? 189 with
 | none=>rw [e] at h;cases h
 | some i =>
  rw [e] at h
  simp only [Option.map_some,Option.some.injEq,Prod.mk.injEq] at h
  exact ⟨i,rfl,h.1,h.2.1,h.2.2⟩
abbrev meOf (C:List Int) (x:Rt):Me:=(x,hitOf C (rwR x))
theorem five_new (w:World) (x0 x1 x2 x3 x4:Value) (t:TypeId):∀ j u,([x0,x1,x2,x3,x4]:List Value)[j]? = some u->(w.alloc (.cells #[x0,x1,x2,x3,x4] t)).cell? ((⟨w.heap.size,0,none⟩:Addr).add j)=some u:=by
 intro j u hu
 rw [Addr.add_lit]
 rcases j with _ | _ | _ | _ | _ | j <;> simp at hu <;> (subst hu;simp [go_sem])
theorem app_me {w W:World} {v:Value} {L:List Me} (x:Me) (hx:x.1.2.1.oneCell'=true) (h:W.ownsRow w.heap.size 189 5 v L.length (L.flatMap encM)) (g:Gb w W) (hL:L.length<=4096) :
  ∃ v5 w5,(Builtin.append_ #[187,187] 187 #[v,.slice (some ⟨W.heap.size,0,none⟩) 1 1]).run Tryz.prog (W.alloc (.cells #[.int .i64 x.1.1,x.1.2.1,.int .i64 x.2.1,.int .u64 x.2.2.1,.int .u64 x.2.2.2] 189))=.ok v5 w5/\(∃ a n c,v5=.slice a n c) /\
   Hid (Gb w w5/\w5.ownsRow w.heap.size 189 5 v5 (L ++ [x]).length ((L ++ [x]).flatMap encM))/\∀ (p:Addr) (y:Value),(W.alloc (.cells #[.int .i64 x.1.1,x.1.2.1,.int .i64 x.2.1,.int .u64 x.2.2.1,.int .u64 x.2.2.2] 189)).cell? p=some y->v.ownBlock ≠ some p.block->w5.cell? p=some y:=by
 obtain ⟨i0,hi0,hz0,hz1,hz2⟩:=info_partsE
 obtain ⟨v5,w5,hr,hown,hgrow,_,_⟩:=run_append_own_at (P:=Tryz.prog) (W.alloc (.cells #[.int .i64 x.1.1,x.1.2.1,.int .i64 x.2.1,.int .u64 x.2.2.1,.int .u64 x.2.2.2] 189)) w.heap.size 187 187 189 i0 (.agg #[.int .i64 0,.slice none 0 0,.int .i64 0,.int .u64 0,.int .u64 0]) 5 56 Tryz.underlying187 hi0 hz0 hz1 hz2 rfl (by decide)
  v L.length _ (World.ownsRow.alloc h _) ⟨W.heap.size,0,none⟩ 1 1 (encM x) rfl (five_new _ _ _ _ _ _ _) (by
   intro y hy
   simp only [encM,List.mem_cons,List.not_mem_nil,or_false] at hy
   rcases hy with rfl | rfl | rfl | rfl | rfl
   ·rfl
   ·exact hx
   ·rfl
   ·rfl
   ·rfl) (by unfold maxLen;omega) (by omega) (by rw [World.size_alloc];have:=g.size;omega)
 refine ⟨v5,w5,hr,?_,⟨below_grown (gb_alloc g _) hgrow (fun j e=>(World.ownsRow.lt h j e).1) (gb_alloc g _).size,?_⟩,fun p y hc hp=>?_⟩
 ·rcases hown.2 with ⟨_,h0⟩ | ⟨g',cap',cur',e,_⟩
  ·omega
  ·exact ⟨_,_,_,e⟩
 ·rw [List.length_append,List.flatMap_append]
  simpa using hown
 ·rw [World.cell?_of_block (hgrow.block p.block (World.block_lt_of_cell? _ p hc) (fun e=>hp e.symm))]
  exact hc
theorem me_at {w:World} {B g cap:Nat} {D:List Me} (h:w.ownsRow B 189 5 (.slice (some ⟨g,0,none⟩) D.length cap) D.length (D.flatMap encM)) (hne:D ≠ []):MeAt w g 0 D:=by
 have h0:=h
 have hl:0 < D.length:=List.length_pos_iff.2 hne
 rcases h.2 with ⟨e,_⟩ | ⟨g',cap',cur,e,hB,hh,h3,h4,h5,h6⟩
 ·cases e
 ·cases e
  have key:∀ i (hi:i < D.length) (k:Nat) (u:Value),k < 5->(encM D[i])[k]? = some u->cur[0 + i * 5 + k]? = some u:=by
   intro i hi k u hk hu
   have e1:(D.flatMap encM)[i * 5 + k]? = some u:=by
    clear h h0 hl h6 h5 h4 h3 hh hne
    induction D generalizing i with
    | nil=>cases hi
    | cons a r ih =>
     rw [List.flatMap_cons]
     cases i with
     | zero=>rw [List.getElem?_append_left (by simp [encM];omega)];simpa using hu
     | succ i =>
      rw [List.getElem?_append_right (by simp [encM];omega),show (i + 1) * 5 + k - (encM a).length=i * 5 + k by simp [encM];omega]
      exact ih i (by simpa using hi) (by simpa using hu)
   have c1:=World.ownsRow.cells h0 (g:=g) rfl (i * 5 + k) _ e1
   rw [Addr.add_lit] at c1
   have:=cur_cell hh c1
   rw [show 0 + i * 5 + k=0 + (i * 5 + k) by omega]
   exact this
  refine ⟨cur,hh,?_,fun i hi=>⟨key i hi 0 _ (by decide) rfl,key i hi 1 _ (by decide) rfl,key i hi 2 _ (by decide) rfl,key i hi 3 _ (by decide) rfl,key i hi 4 _ (by decide) rfl⟩⟩
  have k4:=key (D.length - 1) (by omega) 4 _ (by decide) rfl
  have:=(Array.getElem?_eq_some_iff.1 k4).1
  omega
theorem MeAt.gb {w w':World} {g o:Nat} {d:List Me} (h:MeAt w g o d) (k:Gb w w'):MeAt w' g o d:=by
 obtain ⟨cur,h1,h2⟩:=h
 exact ⟨cur,by rw [k.block g (Array.getElem?_eq_some_iff.1 h1).1];exact h1,h2⟩
theorem RwAt.gbv {w w':World} {g o:Nat} {d:List Rt} (h:RwAt w g o d) (k:Gb w w'):RwAt w' g o d:=by
 obtain ⟨cur,h1,h2⟩:=h
 exact ⟨cur,by rw [k.block g (Array.getElem?_eq_some_iff.1 h1).1];exact h1,h2⟩
def OutO (w w':World) (C:List Int) (d:List Rt) (e:Ending):Prop:=∃ (v:Value) (d':List Rt),e=.returned v/\d'.Perm d/\(d'.Pairwise fun x y=>¬ Tk.cf (hitOf C (rwR y)) (hitOf C (rwR x)) < 0)/\w'.ownsRow w.heap.size 43 2 v d'.length (d'.flatMap encR)/\Gb w w'
theorem outward_c {w:World} {pb g o cap:Nat} {cv:Value} {C:List Int} {d:List Rt} {m:Int} (hc:w.cell? ⟨pb,1,none⟩=some cv) (rc:RdI w cv C) (kC:chk C m=0) (hd:RwAt w g o d) (hv:∀ x ∈ d,RdI w x.2.1 x.2.2/\chk x.2.2 m=0) (hne:d ≠ []) (hn:d.length<=512) :
  Calls Tryz.prog 95 #[.pointer (some ⟨pb,0,none⟩),.slice (some ⟨g,o,none⟩) d.length cap] w fun e w'=>OutO w w' C d e:=by
 have HX:Hid (RdI w cv C/\chk C m=0/\RwAt w g o d/\(∀ x ∈ d,RdI w x.2.1 x.2.2/\chk x.2.2 m=0)/\w.cell? ⟨pb,1,none⟩=some cv/\d ≠ []):=⟨rc,kC,hd,hv,hc,hne⟩
 obtain ⟨n,hN⟩:∃ n,n=d.length:=⟨_,rfl⟩
 have N:Hid (n=d.length):=hN
 rw [<- hN] at hn ⊢
 obtain ⟨i0,hi0,hz0,hz1,hz2⟩:=info_partsE
 obtain ⟨w1,hmk,ho,hg⟩:=run_make_own (P:=Tryz.prog) w w.heap.size 187 189 i0 (.agg #[.int .i64 0,.slice none 0 0,.int .i64 0,.int .u64 0,.int .u64 0]) 5 Tryz.underlying187 hi0 hz0 hz1 .i64 .i64 n (by rw [hz2];omega) (by simp only [maxLen];omega) (Nat.le_refl _)
 have G1:Gb w w1:=below_grown (Below.refl _ _) hg (fun k e=>by cases e) (Nat.le_refl _)
 have O:Hid (Gb w w1/\w1.ownsRow w.heap.size 189 5 (.slice (some ⟨w.heap.size,0,none⟩) 0 n) 0 (((d.map (meOf C)).take 0).flatMap encM)):=⟨G1,ho⟩
 clear hi0 hz0 hz1 hz2 ho hg G1 hN hc rc kC hd hv hne
 go_enter Tryz.func95,Tryz.ntmps95
 go_wp2
 clear hmk
 go_loopw [5,16] (fun av iv W=>∃ q:Nat,iv=.int .i64 (q:Int)/\q<=n/\Hid (Gb w W/\W.ownsRow w.heap.size 189 5 av q (((d.map (meOf C)).take q).flatMap encM))) (fun _ iv _=>n - (intOf iv).toNat)
 case atStart=>exact ⟨0,rfl,Nat.zero_le _,O⟩
 case round =>
  clear O
  obtain ⟨q,rfl,hq,X⟩:=hrel
  by_cases hqn:q < n
  ·have hqi:(q:Int) < (n:Int):=by omega
   have hql:q < d.length:=by have:=N.out;omega
   have hm:=HX.out.2.2.2.1 d[q] (List.getElem_mem hql)
   obtain ⟨cur,hcur,_,hcells⟩:=HX.out.2.2.1
   obtain ⟨e0,e1⟩:=hcells q hql
   have c0:=gb_keeps X.out.1 (cell_cur hcur e0)
   have c1:=gb_keeps X.out.1 (cell_cur hcur e1)
   have ch:=fun W (g:Gb wr W)=>hit_c (xi:=d[q].1) (gb_keeps (gb_trans X.out.1 g) HX.out.2.2.2.2.1) (HX.out.1.gb (gb_trans X.out.1 g)) (hm.1.gb (gb_trans X.out.1 g)) HX.out.2.1 hm.2
   have CT:Hid ((d.map (meOf C)).take (q + 1)=(d.map (meOf C)).take q ++ [meOf C d[q]]/\((d.map (meOf C)).take q).length=q):=by
    have h:q < (d.map (meOf C)).length:=by rw [List.length_map];exact hql
    exact ⟨by rw [List.take_succ_eq_append_getElem h,List.getElem_map],by rw [List.length_take,List.length_map];omega⟩
   have ho:=X.out.2
   obtain ⟨la,lc,el⟩:∃ a c,u5=.slice a q c:=by
    rcases ho.2 with ⟨rfl,h0⟩ | ⟨g',cap',cur',e,_⟩
    ·exact ⟨none,0,by rw [h0]⟩
    ·exact ⟨_,_,e⟩
   subst el
   have NB:Hid ((Value.slice la q lc).ownBlock ≠ some wr.heap.size):=fun e=>by
    have:=(World.ownsRow.lt ho _ e).2
    omega
   have hone:d[q].2.1.oneCell'=true:=by obtain ⟨a,c,e,_⟩:=hm.1;rw [e];rfl
   have FIN:Hid (∀ w2,Gb wr w2->∃ v5 w5,(Builtin.append_ #[187,187] 187 #[.slice la q lc,.slice (some ⟨w2.heap.size,0,none⟩) 1 1]).run Tryz.prog (w2.alloc (.cells #[.int .i64 d[q].1,d[q].2.1,.int .i64 d[q].1,.int .u64 (hitOf C (rwR d[q])).2.1,.int .u64 (hitOf C (rwR d[q])).2.2] 189))=.ok v5 w5/\(∃ a n c,v5=.slice a n c) /\
     Hid (Gb w w5/\w5.ownsRow w.heap.size 189 5 v5 (q + 1) (((d.map (meOf C)).take (q + 1)).flatMap encM))/\∀ (p:Addr) (y:Value),(w2.alloc (.cells #[.int .i64 d[q].1,d[q].2.1,.int .i64 d[q].1,.int .u64 (hitOf C (rwR d[q])).2.1,.int .u64 (hitOf C (rwR d[q])).2.2] 189)).cell? p=some y->(Value.slice la q lc).ownBlock ≠ some p.block->w5.cell? p=some y):=fun w2 g=>by
    have h1:w2.ownsRow w.heap.size 189 5 (.slice la q lc) ((d.map (meOf C)).take q).length (((d.map (meOf C)).take q).flatMap encM):=by
     rw [CT.out.2]
     exact ho.kept (row:=none) ⟨g.os,g.tape,g.output,g.size,fun k hk _=>g.block k hk⟩ (by cases hv:(Value.slice la q lc).ownBlock <;> simp)
    obtain ⟨v5,w5,r1,r2,r3,r4⟩:=app_me (meOf C d[q]) hone h1 (gb_trans X.out.1 g) (by rw [CT.out.2];omega)
    rw [<- CT.out.1] at r3
    have hl1:((d.map (meOf C)).take (q + 1)).length=q + 1:=by rw [List.length_take,List.length_map];omega
    rw [hl1] at r3
    exact ⟨v5,w5,r1,r2,r3,r4⟩
   have HTV:Hid (Tk.hv (hitOf C (d[q].1,d[q].2.2))=.agg #[.int .i64 d[q].1,.int .u64 (hitOf C (rwR d[q])).2.1,.int .u64 (hitOf C (rwR d[q])).2.2]):=rfl
   simp only [HTV.out] at ch
   obtain ⟨ua,uc,eu,_⟩:=hm.1
   rw [eu] at c1 ch FIN
   generalize (hitOf C (rwR d[q])).2.1=h1 at *
   generalize (hitOf C (rwR d[q])).2.2=h2 at *
   generalize d[q].2.2.length=nu at *
   generalize d[q].1=xi at *
   have FS:(wr.alloc (.cells #[.int .i64 xi,.slice ua nu uc] 43)).drew.cell? ⟨wr.heap.size,0,none⟩=some (.int .i64 xi)/\(wr.alloc (.cells #[.int .i64 xi,.slice ua nu uc] 43)).drew.cell? ⟨wr.heap.size,1,none⟩=some (.slice ua nu uc):=⟨by simp [go_sem],by simp [go_sem]⟩
   clear hm hcur hcells e0 e1 ho hone eu X HTV CT
   go_wp2_with fail
   refine wp_region_held_drew (S:=fun W=>W.cell? ⟨wr.heap.size,0,none⟩=some (.int .i64 xi)/\W.cell? ⟨wr.heap.size,1,none⟩=some (.slice ua nu uc)) (by kernel_rfl) (FS) (fun hHeld=>?_)
   refine tkn 0 ?_ rfl ?_ ?_;rotate_left;·(rintro w ⟨s0,s1⟩;go_simp;try rfl)
   refine tkn 1 ?_ rfl ?_ ?_;rotate_left;·(rintro w ⟨s0,s1⟩;go_simp;try rfl)
   refine tkn 2 ?_ rfl ?_ ?_;rotate_left;·(rintro w ⟨s0,s1⟩;go_simp;try rfl)
   refine tkn 3 ?_ rfl ?_ ?_;rotate_left;·(rintro w ⟨s0,s1⟩;go_simp;try rfl)
   refine rdn 4 rfl (fun K hK=>?_)
   go_simp
   go_fit (ch _ (gb_alloc (Below.refl _ _) _).drew)
   rintro e w2 ⟨rfl,g2⟩
   obtain ⟨v5,w5,hrun,⟨a5,n5,c5,e5⟩,XN,KS5⟩:=FIN.out w2 (gb_trans (gb_alloc (Below.refl _ _) _).drew g2)
   subst e5
   refine hK.out _ _ (⟨gb_keeps g2 hHeld.1,gb_keeps g2 hHeld.2⟩) (fun hHeld=>?_)
   clear hK K
   refine tkn 5 ?_ rfl ?_ ?_;rotate_left;·(rintro w ⟨s0,s1⟩;go_simp;try rfl)
   refine rdn 6 rfl (fun K hK=>?_)
   go_simp
   refine hK.out _ _ (⟨alloc_keeps hHeld.1 _,alloc_keeps hHeld.2 _⟩) (fun hHeld=>?_)
   clear hK K
   refine rdn 7 rfl (fun K hK=>?_)
   refine app_run (by rfl) _ _ _ (by rfl) ⟨.slice la q lc,.slice (some ⟨w2.heap.size,0,none⟩) 1 1,_,_,(by go_simp),(by go_simp),hrun,?_⟩
   refine hK.out _ _ (⟨KS5 _ _ hHeld.1 NB.out,KS5 _ _ hHeld.2 NB.out⟩) (fun hHeld=>?_)
   clear hK K
   refine tkn 8 ?_ rfl ?_ ?_;rotate_left;·(rintro w ⟨s0,s1⟩;go_simp;try rfl)
   refine wpAnyH_done (by kernel_rfl) ?_ _
   clear hrun hHeld KS5 FS
   go_wp2
   go_roundw
   case rel=>exact ⟨q + 1,by first | rfl | go_num | simp,hqn,XN⟩
   case measure=>simp [intOf];omega
  ·have hqi:¬ (q:Int) < (n:Int):=by omega
   have DL:Hid ((d.map (meOf C)).length=n/\d.map (meOf C) ≠ []):=⟨by rw [List.length_map];exact N.out.symm,fun e=>HX.out.2.2.2.2.2 (List.map_eq_nil_iff.1 e)⟩
   have E:Hid (Gb w wr/\wr.ownsRow w.heap.size 189 5 u5 (d.map (meOf C)).length ((d.map (meOf C)).flatMap encM)):=by
    have h:=X.out
    rw [show q=n by omega,List.take_of_length_le (by rw [DL.out.1];exact Nat.le_refl _)] at h
    rw [<- DL.out.1] at h
    exact h
   have hn1:1<=n:=by
    have h1:=DL.out.1
    have h2:=List.length_pos_iff.2 DL.out.2
    omega
   obtain ⟨ga,gc,eu,hga⟩:∃ g c,u5=.slice (some ⟨g,0,none⟩) (d.map (meOf C)).length c/\w.heap.size<=g:=by
    rcases E.out.2.2 with ⟨_,h0⟩ | ⟨g',cap',cur',e,hB,_⟩
    ·have:=DL.out.1;omega
    ·exact ⟨g',cap',e,hB⟩
   subst eu
   have MA:=me_at E.out.2 DL.out.2
   have cs:=sortM (cb:=#[]) (cf:=fun x y:Me=>Tk.cf x.2 y.2) (cap:=gc) (fun x:Me=>x.1.2.1.oneCell'=true) MA DL.out.2 (by rw [DL.out.1];omega) (fun x hx=>by
    obtain ⟨y,hy,rfl⟩:=List.mem_map.1 hx
    obtain ⟨a,c,e,_⟩:=(HX.out.2.2.2.1 y hy).1
    show y.2.1.oneCell'=true
    rw [e];rfl) (fun _ h=>h) ⟨fun x=>Tk.swoH.irrefl x.2,fun x y z=>Tk.swoH.trans x.2 y.2 z.2,fun x y z=>Tk.swoH.ntrans x.2 y.2 z.2⟩ (enters_of Tryz.func135 (by kernel_rfl) rfl) (fun W k x y hx hy=>outward1_c x y hx hy W)
   rw [DL.out.1] at cs ⊢
   have GA:Hid (w.heap.size<=ga):=hga
   clear X MA hga
   go_wp2_with fail
   go_fit cs
   rintro e w2 ⟨rfl,D,hperm,hsort,MD,SM⟩
   have G2:Hid (Gb w w2):=E.out.1.trans (SM.kp.gr E.out.1.size (fun b e=>by rw [e];exact GA.out))
   have DD:Hid (D.length=n/\(D.map Prod.fst).Perm d/\((D.map Prod.fst).Pairwise fun x y=>¬ Tk.cf (hitOf C (rwR y)) (hitOf C (rwR x)) < 0)/\∀ x ∈ D,∃ a n c,x.1.2.1=.slice a n c):=by
    have hm:∀ x ∈ D,∃ y ∈ d,meOf C y=x:=fun x hx=>List.mem_map.1 (hperm.subset hx)
    refine ⟨by rw [hperm.length_eq];exact DL.out.1,?_,?_,fun x hx=>?_⟩
    ·have h:=hperm.map Prod.fst
     rwa [List.map_map,show (Prod.fst ∘ meOf C)=id from rfl,List.map_id] at h
    ·rw [List.pairwise_map]
     refine hsort.imp_of_mem fun hx hy hxy=>?_
     obtain ⟨x',_,rfl⟩:=hm _ hx
     obtain ⟨y',_,rfl⟩:=hm _ hy
     exact Int.not_lt.2 hxy
    ·obtain ⟨y,hy,rfl⟩:=hm x hx
     obtain ⟨a,c,e,_⟩:=(HX.out.2.2.2.1 y hy).1
     exact ⟨a,_,c,e⟩
   have M2:Hid (MeAt w2 ga 0 D):=MD
   obtain ⟨i1,hi1,hw0,hw1,hw2⟩:=info_partsW
   have II:Hid (Tryz.prog.info? 43=some i1/\i1.zero=some (.agg #[.int .i64 0,.slice none 0 0])/\i1.size=2/\i1.bytes=32):=⟨hi1,hw0,hw1,hw2⟩
   obtain ⟨w3,hmk,ho,hg⟩:=run_make_own (P:=Tryz.prog) w2 w2.heap.size 22 43 i1 (.agg #[.int .i64 0,.slice none 0 0]) 2 Tryz.underlying22 hi1 hw0 hw1 .i64 .i64 n (by rw [hw2];omega) (by simp only [maxLen];omega) (Nat.le_refl _)
   have O3:Hid (Gb w2 w3/\w3.ownsRow w2.heap.size 43 2 (.slice (some ⟨w2.heap.size,0,none⟩) 0 n) 0 (((D.map Prod.fst).take 0).flatMap encR)):=⟨below_grown (Below.refl _ _) hg (fun k e=>by cases e) (Nat.le_refl _),ho⟩
   clear cs hperm hsort MD SM hi1 hw0 hw1 hw2 ho hg
   go_wp2
   clear hmk
   clear hqi hq
   go_loopw [8,36] (fun av iv W=>∃ q:Nat,iv=.int .i64 (q:Int)/\q<=n/\Hid (Gb w2 W/\W.ownsRow w2.heap.size 43 2 av q (((D.map Prod.fst).take q).flatMap encR))) (fun _ iv _=>n - (intOf iv).toNat)
   case atStart=>exact ⟨0,rfl,Nat.zero_le _,O3⟩
   case round =>
    clear O3
    obtain ⟨q,rfl,hq,X⟩:=hrel
    by_cases hqn:q < n
    ·have hqi:(q:Int) < (n:Int):=by omega
     have hql:q < D.length:=by rw [DD.out.1];exact hqn
     obtain ⟨cur,hcur,_,hcells⟩:=M2.out
     obtain ⟨e0,e1,e2,e3,e4⟩:=hcells q hql
     simp only [Nat.zero_add] at e0 e1 e2 e3 e4
     have c0:=gb_keeps X.out.1 (cell_cur hcur e0)
     have c1:=gb_keeps X.out.1 (cell_cur hcur e1)
     have c2:=gb_keeps X.out.1 (cell_cur hcur e2)
     have c3:=gb_keeps X.out.1 (cell_cur hcur e3)
     have c4:=gb_keeps X.out.1 (cell_cur hcur e4)
     obtain ⟨xa,xn,xc,exu⟩:=DD.out.2.2.2 D[q] (List.getElem_mem hql)
     have CT:Hid ((D.map Prod.fst).take (q + 1)=(D.map Prod.fst).take q ++ [D[q].1]/\((D.map Prod.fst).take q).length=q):=by
      have h:q < (D.map Prod.fst).length:=by rw [List.length_map];exact hql
      exact ⟨by rw [List.take_succ_eq_append_getElem h,List.getElem_map],by rw [List.length_take,List.length_map];omega⟩
     have CE:Hid (((D.map Prod.fst).take q ++ [D[q].1]).flatMap encR=((D.map Prod.fst).take q).flatMap encR ++ [.int .i64 D[q].1.1,D[q].1.2.1]):=by unfold Hid;rw [List.flatMap_append];rfl
     have hown:=X.out.2
     have GX:Hid (Gb w2 wr):=X.out.1
     have hG:=GX.out.size
     generalize D[q].1.1=xi at *
     rw [exu] at c1 CE
     generalize D[q].2.1=h0 at *
     generalize D[q].2.2.1=h1 at *
     generalize D[q].2.2.2=h2 at *
     clear hcur hcells e0 e1 e2 e3 e4 X exu
     go_wp2_with (first
      | (at_builtin;refine wpList_append_own_at _ rfl _ _ 22 rfl w2.heap.size 43 i1 (.agg #[.int .i64 0,.slice none 0 0]) 2 32 Tryz.underlying22 II.out.1 II.out.2.1 II.out.2.2.1 II.out.2.2.2 rfl (by decide) u8 q _ rfl (World.ownsRow.alloc (World.ownsRow.alloc hown _) _) ⟨wr.heap.size + 1,0,none⟩ 1 1 [.int .i64 xi,.slice xa xn xc] rfl rfl (by have h:=two_cells (wr.alloc (.cells #[.int .i64 xi,.slice xa xn xc,.int .i64 h0,.int .u64 h1,.int .u64 h2] 189)) (.int .i64 xi) (.slice xa xn xc) 43;rw [World.size_alloc] at h;exact h) (by intro y hy;simp only [List.mem_cons,List.not_mem_nil,or_false] at hy;rcases hy with rfl | rfl <;> rfl) (by unfold maxLen;omega) (by omega) (by simp;omega) ?_;intro v5 w5 hown5 hgrow5 hnil5 hloc5)
      | go_in)
     have XN:Hid (Gb w2 w5/\w5.ownsRow w2.heap.size 43 2 v5 (q + 1) (((D.map Prod.fst).take (q + 1)).flatMap encR)):=by
      refine ⟨below_grown (gb_alloc (gb_alloc GX.out _) _) hgrow5 (fun j e=>(hown.lt j e).1) (gb_alloc (gb_alloc GX.out _) _).size,?_⟩
      rw [CT.out.1,CE.out]
      exact hown5
     clear hown hown5 hgrow5 hnil5 hloc5
     go_roundw
     case rel=>exact ⟨q + 1,by first | rfl | go_num | simp,hqn,XN⟩
     case measure=>simp [intOf];omega
    ·have hqi:¬ (q:Int) < (n:Int):=by omega
     have FE:Hid (OutO w wr C d (.returned u8)):=by
      have h:=X.out
      have hl:(D.map Prod.fst).length=n:=by rw [List.length_map];exact DD.out.1
      rw [show q=n by omega,List.take_of_length_le (by rw [hl];exact Nat.le_refl _)] at h
      refine ⟨u8,D.map Prod.fst,rfl,DD.out.2.1,DD.out.2.2.1.imp (fun h=>Int.not_lt.2 h),?_,gb_trans G2.out h.1⟩
      rw [hl]
      refine ⟨h.2.1,?_⟩
      rcases h.2.2 with h' | ⟨g',cap',cur',e,hB,r⟩
      ·exact .inl h'
      ·exact .inr ⟨g',cap',cur',e,Nat.le_trans G2.out.size hB,r⟩
     clear X
     go_wp2
     go_ret
     exact FE.out
end Go.Proofs.YtepjbdklljlecaaGreat

namespace Go.Proofs.YtepjbdklljlecaaGreat
open Go.RowKit Go.Sort Go.Maps
set_option maxRecDepth 100000
set_option maxHeartbeats 1000000
def SrcAt (w:World) (sb:Nat):Prop:=∃ y,Rn.U y/\Boxed w sb 144 (.int .u64 y)
def CutOut (Iq:Nat->Prop) (w:World) (sb m:Nat) (d:List Rt) (e:Ending) (w':World):Prop :=
 (d=[]->e=.returned (.pointer none)/\Gb w w') /\
 (d ≠ []->(∃ b T F,e=.returned (.pointer (some ⟨b,0,none⟩))/\(∀ N,d.length<=N->TrO Iq w' T (N + 1) b F/\OkP T m N (T b)/\(rowsP T N (T b)).Perm (d.map rwR))/\F.Nodup/\∀ x ∈ F,w.heap.size<=x)/\SrcAt w' sb/\Tk.Kp (fun b=>b=sb) w w')
structure CutIn (Iq:Nat->Prop) (w:World) (m:Nat) (d:List Rt):Prop where
 vec:∀ x ∈ d,OwnQ Iq w x.2.1 x.2.2
 ok:RowsOk (d.map rwR) (m:Int)
 up:Up Iq w
theorem okId_wf {x:Int} (h:okId x=true):(Lit.int .i64 x).wf=true:=by
 simp [okId] at h
 simp [Lit.wf,IntKind.min,IntKind.max,IntKind.signed,IntKind.bits]
 exact ⟨by omega,by omega⟩
theorem CutIn.len {Iq:Nat->Prop} {w:World} {m:Nat} {d:List Rt} (h:CutIn Iq w m d) {x:Rt} (hx:x ∈ d):x.2.2.length=m:=by
 have:=chk_ok (h.ok.row (rwR x) (List.mem_map.2 ⟨x,hx,rfl⟩)).2
 simp only [] at this
 omega
theorem RwRd.rdw {w:World} {g o cap:Nat} {d:List Rt} (h:RwRd w g o d) (hv:∀ x ∈ d,RdI w x.2.1 x.2.2):RdW w (.slice (some ⟨g,o,none⟩) d.length cap) (d.map rwR):=by
 refine ⟨some ⟨g,o,none⟩,cap,by simp,fun i hi=>?_⟩
 have hi':i < d.length:=by simpa using hi
 obtain ⟨h1,h2⟩:=h i hi'
 have e:(d.map rwR)[i]! = rwR d[i]:=by rw [getElem!_pos _ i hi];simp
 rw [e]
 exact ⟨g,o,d[i].2.1,rfl,h1,h2,hv _ (List.getElem_mem hi')⟩
theorem RwAt.lt {w:World} {g o:Nat} {d:List Rt} (h:RwAt w g o d):g < w.heap.size:=by
 obtain ⟨cur,h,_⟩:=h
 exact (Array.getElem?_eq_some_iff.1 h).1
theorem RwAt.kp {S:Nat->Prop} {w w':World} {g o:Nat} {d:List Rt} (h:RwAt w g o d) (k:Tk.Kp S w w') (hn:¬ S g):RwAt w' g o d:=by
 have hl:=h.lt
 obtain ⟨cur,h,r⟩:=h
 exact ⟨cur,by rw [k.block g hl hn];exact h,r⟩
theorem RwRd.gb {w w':World} {g o:Nat} {d:List Rt} (h:RwRd w g o d) (k:Gb w w'):RwRd w' g o d:=fun i hi=>⟨gb_keeps k (h i hi).1,gb_keeps k (h i hi).2⟩
theorem heap_new (w:World) (o:Obj):(w.alloc o).heap[w.heap.size]? = some o:=by
 show (w.heap.push o)[w.heap.size]? = some o
 exact Array.getElem?_push_size
theorem cut_none {Iq:Nat->Prop} {sb m tx fb g o cap:Nat} {w:World}:Calls Tryz.prog 92 #[.slice (some ⟨g,o,none⟩) ([]:List Rt).length cap,.pointer (some ⟨tx,0,none⟩),.pointer (some ⟨fb,0,none⟩)] w fun e w'=>CutOut Iq w sb m [] e w':=by
 rw [List.length_nil]
 go_enter Tryz.func92,Tryz.ntmps92
 go_wp2
 go_ret
 exact ⟨fun _=>⟨rfl,Below.refl _ _⟩,fun h=>absurd rfl h⟩
theorem rad_lt {c:List Int} {rs:List Rw} {B:Nat} (hB:0 < B) (h:∀ j,j < rs.length->dst c rs[j]!.2 < B):∀ k,k<=rs.length->radN c rs k < B
 | 0,_=>by simpa [radN] using hB
 | k + 1,hk=>by
  have h1:=rad_lt hB h k (by omega)
  have h2:=h k (by omega)
  simp only [radN]
  split <;> omega
theorem ball_box {rs:List Rw} {m:Nat} (h:RowsOk rs (m:Int)) (_hm:1<=m/\m<=64) {j:Nat} (hj:j < rs.length):(∀ l ct kd,BoxOk m ⟨⟨3,rs[j]!.2,[],radN rs[j]!.2 rs rs.length,[]⟩,l,ct,kd⟩ rs)/\radN rs[j]!.2 rs rs.length < 340282366920938463463374607431768211456:=by
 have row:∀ i,i < rs.length->chk rs[i]!.2 (m:Int)=0:=fun i hi=>(h.row rs[i]! (by rw [getElem!_pos rs i hi];exact List.getElem_mem hi)).2
 have kj:=row j hj
 have cj:=chk_ok kj
 refine ⟨fun l ct kd=>⟨?_,fun r hr=>⟨(h.row r hr).2,?_⟩⟩,rad_lt (by omega) (fun i hi=>?_) _ (Nat.le_refl _)⟩
 ·show ckR ⟨3,rs[j]!.2,[],radN rs[j]!.2 rs rs.length,[]⟩ (m:Int)=0
  unfold ckR uses
  rw [if_pos ⟨by omega,by omega⟩]
  generalize rs[j]!.2=V at kj ⊢
  simp [rise,riseTo,kj]
 ·obtain ⟨i,hi,rfl⟩:=List.getElem_of_mem hr
  have:=rad_mono (c:=rs[j]!.2) (rs:=rs) rs.length i hi
  rw [getElem!_pos rs i hi] at this
  show inV ⟨3,rs[j]!.2,[],radN rs[j]!.2 rs rs.length,[]⟩ rs[i].2=true
  unfold inV
  generalize rs[j]!.2=V at this ⊢
  generalize rs[i].2=x at this ⊢
  simp [this]
 ·have ci:=chk_ok (row i hi)
  exact dst_lt cj.2.2.2 ci.2.2.2 (by omega) (by omega)
theorem SrcAt.ne0 {w:World} {sb tx:Nat} {b i:Nat} (h:SrcAt w sb) (c:w.cell? ⟨tx,0,none⟩=some (.pointer (some ⟨b,i,none⟩))):¬ tx=sb:=by
 rintro rfl
 obtain ⟨y,_,h⟩:=h
 unfold Boxed at h
 simp [World.cell?,h] at c
theorem SrcAt.ne1 {w:World} {sb tb:Nat} {v:Value} (h:SrcAt w sb) (c:w.cell? ⟨tb,1,none⟩=some v):¬ tb=sb:=by
 rintro rfl
 obtain ⟨y,_,h⟩:=h
 unfold Boxed at h
 simp [World.cell?,h] at c
theorem SrcAt.noint {w:World} {sb:Nat} (h:SrcAt w sb):NoInt w fun b=>b=sb:=by
 rintro k rfl cur s e
 obtain ⟨y,_,h⟩:=h
 unfold Boxed at h
 rw [h] at e
 simp at e
theorem SrcAt.ner {w:World} {sb g o:Nat} {d:List Rt} (h:SrcAt w sb) (c:RwAt w g o d):¬ g=sb:=by
 rintro rfl
 obtain ⟨y,_,h⟩:=h
 obtain ⟨cur,c,_⟩:=c
 unfold Boxed at h
 rw [h] at c
 simp at c
theorem SrcAt.lt {w:World} {sb:Nat} (h:SrcAt w sb):sb < w.heap.size:=by
 obtain ⟨y,_,h⟩:=h
 exact h.lt
theorem SrcAt.gb {w w':World} {sb:Nat} (h:SrcAt w sb) (k:Gb w w'):SrcAt w' sb:=by
 obtain ⟨y,hy,h⟩:=h
 exact ⟨y,hy,(k.block sb h.lt).trans h⟩
theorem CutIn.kp {Iq S:Nat->Prop} {w w':World} {m:Nat} {d:List Rt} (h:CutIn Iq w m d) (k:Tk.Kp S w w') (hS:NoInt w S):CutIn Iq w' m d :=
 ⟨fun x hx=>ownq_noint (h.vec x hx) k hS,h.ok,h.up.le k.size⟩
theorem kp_cell {S:Nat->Prop} {w w':World} {b i:Nat} {v:Value} (k:Tk.Kp S w w') (h:w.cell? ⟨b,i,none⟩=some v) (hn:¬ S b):w'.cell? ⟨b,i,none⟩=some v:=by
 have hb:b < w.heap.size:=by
  refine Nat.lt_of_not_le fun hh=>?_
  have:w.heap[b]? = none:=Array.getElem?_eq_none hh
  simp [World.cell?,this] at h
 unfold World.cell? at h ⊢
 rw [k.block b hb hn]
 exact h
theorem put_cell {W:World} {b i:Nat} {cur:Array Value} {ty:Nat} {v:Value} (h:W.heap[b]? = some (.cells cur ty (0,0))):(W.setCell ⟨b,i,none⟩ v).heap[b]? = some (.cells (cur.setIfInBounds i v) ty (0,0)):=by
 simp [World.setCell,Array.getElem?_modify,h]
theorem leaf_out {Iq:Nat->Prop} {w w1 w3:World} {sb m n B:Nat} {d:List Rt} {V:List Int} {R:Nat} {vl vh:Value} {g3 c3:Nat} (hI:CutIn Iq w m d) (hd:d ≠ []) (hS:SrcAt w sb) (_hn:n=d.length) (k1:Tk.Kp (fun b=>b=sb) w w1) (hS1:SrcAt w1 sb)
  (o1:Own w1 w.heap.size vl V) (o2:Own w1 w.heap.size vh []) (bx:∀ l ct kd,BoxOk m ⟨⟨3,V,[],R,[]⟩,l,ct,kd⟩ (d.map rwR)) (hR:R < 340282366920938463463374607431768211456)
  (hb:w3.heap[w1.heap.size]? = some (.cells #[.int .i64 3,vl,vh,.int .u64 (hi R),.int .u64 (lo R),.slice none 0 0,.slice none 0 0,.int .i64 0,.int .u64 0,.int .u64 0,.pointer none,.pointer none] 117)) (k:Gb w1 w3) (o3:w3.ownsRow B 43 2 (.slice (some ⟨g3,0,none⟩) n c3) n (d.flatMap encR)) (hB:w1.heap.size < B) (hg3:B<=g3) (_hg4:g3 < w3.heap.size) :
  CutOut Iq w sb m d (.returned (.pointer (some ⟨w1.heap.size,0,none⟩))) (w3.setCell ⟨w1.heap.size,6,none⟩ (.slice (some ⟨g3,0,none⟩) n c3)):=by
 have ks:Tk.Kp (fun b=>b=w1.heap.size) w3 (w3.setCell ⟨w1.heap.size,6,none⟩ (.slice (some ⟨g3,0,none⟩) n c3)):=Tk.Kp.setCell (S:=fun b=>b=w1.heap.size) (Tk.Kp.refl _ w3) (p:=⟨w1.heap.size,6,none⟩) (.inl rfl) _
 have k13:Tk.Kp (fun b=>b=sb) w w3:=k1.trans (Tk.Kp.of_gr k)
 have ni:NoInt w3 fun b=>b=w1.heap.size:=by
  rintro x rfl cur s e
  rw [hb] at e
  simp at e
 have hlt:=hS1.lt
 have I3:=hI.kp k13 hS.noint
 have hw:=k1.size
 have U:=I3.up.le ks.size
 have own:∀ {v:Value} {l:List Int},Own w1 w.heap.size v l->OwnQ Iq (w3.setCell ⟨w1.heap.size,6,none⟩ (.slice (some ⟨g3,0,none⟩) n c3)) v l:=fun h=>ownq_noint (OwnQ.new (h.gb k) hI.up (Nat.le_refl _)) ks ni
 refine ⟨fun e=>absurd e hd,fun _=>⟨⟨w1.heap.size,fun _=>⟨⟨3,V,[],R,[]⟩,d.map rwR,(0,0,0),none⟩,[w1.heap.size,g3],rfl,fun N _=>⟨?_,?_,?_⟩,?_,?_⟩,?_,?_⟩⟩
 ·refine ⟨vl,vh,.slice (some ⟨g3,0,none⟩) n c3,⟨?_,own o1,own o2,⟨rfl,hR⟩,U⟩,d,g3,⟨?_,fun x hx=>ownq_noint (I3.vec x hx) ks ni,U⟩,rfl,rfl,rfl⟩
  ·rw [put_cell hb];rfl
  ·rw [<- _hn]
   refine ownR_kp ⟨o3.1,?_⟩ ks (fun g hg e=>by
    have h1:g3=g:=Option.some.inj hg
    have h2:g=w1.heap.size:=e
    omega)
   rcases o3.2 with h | ⟨a,b,c,e,_,r⟩
   ·exact .inl h
   ·exact .inr ⟨a,b,c,e,Nat.zero_le _,r⟩
 ·rw [okP_leaf rfl]
  exact ⟨by simpa using hd,bx _ _ _⟩
 ·rw [rowsP_leaf rfl]
 ·simp;omega
 ·intro x hx
  simp at hx
  rcases hx with rfl | rfl <;> omega
 ·obtain ⟨y,hy,h⟩:=hS1.gb k
  exact ⟨y,hy,(ks.block sb h.lt (by omega)).trans h⟩
 ·exact ⟨ks.os.trans k13.os,ks.tape.trans k13.tape,ks.output.trans k13.output,Nat.le_trans k13.size ks.size,fun b hb hn=>(ks.block b (Nat.lt_of_lt_of_le hb k13.size) (by omega)).trans (k13.block b hb hn)⟩
theorem cut_leaf {Iq:Nat->Prop} {m leaf tx tb sb fb:Nat} (hm:1<=m/\m<=64) (d:List Rt) (hd:d ≠ []) (hle:d.length<=leaf) (_hlf:leaf<=100000) {w:World} {g o cap:Nat} (hR:RwAt w g o d) (hI:CutIn Iq w m d)
  (ct:w.cell? ⟨tx,0,none⟩=some (.pointer (some ⟨tb,0,none⟩))) (c1:w.cell? ⟨tb,1,none⟩=some (.int .i64 (leaf:Int))) (c2:w.cell? ⟨tb,2,none⟩=some (.pointer (some ⟨sb,0,none⟩))) (hS:SrcAt w sb) :
  Calls Tryz.prog 92 #[.slice (some ⟨g,o,none⟩) d.length cap,.pointer (some ⟨tx,0,none⟩),.pointer (some ⟨fb,0,none⟩)] w fun e w'=>CutOut Iq w sb m d e w':=by
 have h512:=hI.ok.few
 rw [List.length_map] at h512
 have hp:0 < d.length:=List.length_pos_iff.2 hd
 have n1:=hS.ne0 ct
 have n2:=hS.ne1 c1
 have n3:=hS.ner hR
 have ni:=hS.noint
 have HH:Hid (RwAt w g o d/\CutIn Iq w m d/\SrcAt w sb/\d ≠ []/\¬ g=sb):=⟨hR,hI,hS,hd,n3⟩
 obtain ⟨x,ux,hx⟩:=hS
 have cB:=ballOf_c (v:=.slice (some ⟨g,o,none⟩) d.length cap) (rs:=d.map rwR) (d:=m) c2 hx ux (fun W k=>RwRd.rdw (hR.kp k n3).rd fun y hy=>(ownq_noint (hI.vec y hy) k ni).rd) (by rw [List.length_map];omega) (by rw [List.length_map];omega) (idsE_zero.2 hI.ok) (fun i hi=>by
  rw [getElem!_pos _ i hi]
  exact okId_wf (hI.ok.row _ (List.getElem_mem hi)).1)
 obtain ⟨n,hN⟩:∃ n,n=d.length:=⟨_,rfl⟩
 have N:Hid (n=d.length):=hN
 rw [<- hN] at cB h512 hp hle ⊢
 have hn0:((n:Int) == 0)=false:=by rw [beq_eq_false_iff_ne];omega
 have hlei:(n:Int)<=(leaf:Int):=by omega
 have hsb:=hx.lt
 clear hR hI hd hN hle hx ux c2
 go_enter Tryz.func92,Tryz.ntmps92
 go_wp2_with fail
 go_fit cB
 rintro e w1 ⟨j,vl,vh,hj,rfl,ol,oh,hS1,k1⟩
 have ct1:=kp_cell k1 ct n1
 have c11:=kp_cell k1 c1 n2
 obtain ⟨al,cl,el,_⟩:=ol.rd
 obtain ⟨ah,ch,eh,_⟩:=oh.rd
 subst el eh
 have BB:=ball_box HH.out.2.1.ok hm hj
 have X1:Hid (Tk.Kp (fun b=>b=sb) w w1/\SrcAt w1 sb):=⟨k1,hS1⟩
 obtain ⟨V,hV⟩:∃ V,V=(d.map rwR)[j]!.2:=⟨_,rfl⟩
 rw [<- hV] at ol BB ⊢
 obtain ⟨R,hRR⟩:∃ R,R=radN V (d.map rwR) (d.map rwR).length:=⟨_,rfl⟩
 rw [<- hRR] at BB ⊢
 have X2:Hid (Own w1 w.heap.size (.slice al V.length cl) V/\Own w1 w.heap.size (.slice ah 0 ch) []/\(∀ l ct kd,BoxOk m ⟨⟨3,V,[],R,[]⟩,l,ct,kd⟩ (d.map rwR))/\R < 340282366920938463463374607431768211456):=⟨ol,oh,BB.1,BB.2⟩
 clear hRR hV cB BB ol oh hS1 k1 ct c1
 dsimp only [rv]
 generalize hnV:V.length=nV at *
 have ga:Gb w1 (w1.alloc (.cells #[.int .i64 3,.slice al nV cl,.slice ah 0 ch,.int .u64 (hi R),.int .u64 (lo R),.slice none 0 0,.slice none 0 0,.int .i64 0,.int .u64 0,.int .u64 0,.pointer none,.pointer none] 117)):=gb_alloc (Below.refl _ _) _
 have ct2:=gb_keeps ga ct1
 have c12:=gb_keeps ga c11
 have hb1:(w1.alloc (.cells #[.int .i64 3,.slice al nV cl,.slice ah 0 ch,.int .u64 (hi R),.int .u64 (lo R),.slice none 0 0,.slice none 0 0,.int .i64 0,.int .u64 0,.int .u64 0,.pointer none,.pointer none] 117)).heap[w1.heap.size]? = some (.cells #[.int .i64 3,.slice al nV cl,.slice ah 0 ch,.int .u64 (hi R),.int .u64 (lo R),.slice none 0 0,.slice none 0 0,.int .i64 0,.int .u64 0,.int .u64 0,.pointer none,.pointer none] 117):=heap_new _ _
 have cl0:∀ W,Gb w1 W->_:=fun W (k:Gb w1 W)=>cloneR_c (cap:=cap) ((HH.out.1.kp X1.out.1 HH.out.2.2.2.2).rd.gb k) (by have:=N.out;omega) (fun x hx=>by obtain ⟨a,c,e,_⟩:=(HH.out.2.1.vec x hx).rd;rw [e];rfl)
 rw [<- N.out] at cl0
 have cC:=cl0 _ ga
 have SZ:Hid (w1.heap.size < (w1.alloc (.cells #[.int .i64 3,.slice al nV cl,.slice ah 0 ch,.int .u64 (hi R),.int .u64 (lo R),.slice none 0 0,.slice none 0 0,.int .i64 0,.int .u64 0,.int .u64 0,.pointer none,.pointer none] 117)).heap.size):=by unfold Hid;rw [World.size_alloc];omega
 clear cl0 ct1 c11
 go_wp2_with fail
 go_fit cC
 rintro e w3 ⟨g3,c3,rfl,b3,l3,_,k3,o3⟩
 have HB:Hid (w3.heap[w1.heap.size]? = some (.cells #[.int .i64 3,.slice al nV cl,.slice ah 0 ch,.int .u64 (hi R),.int .u64 (lo R),.slice none 0 0,.slice none 0 0,.int .i64 0,.int .u64 0,.int .u64 0,.pointer none,.pointer none] 117)):=(k3.block _ SZ.out).trans hb1
 have hf:w3.frozen? ⟨w1.heap.size,6,none⟩=false:=by simp [World.frozen?,HB.out]
 have hc:w3.cell? ⟨w1.heap.size,6,none⟩=some (.slice none 0 0):=by simp [World.cell?,HB.out]
 have Y:Hid (Gb w1 w3/\w3.ownsRow (w1.alloc (.cells #[.int .i64 3,.slice al nV cl,.slice ah 0 ch,.int .u64 (hi R),.int .u64 (lo R),.slice none 0 0,.slice none 0 0,.int .i64 0,.int .u64 0,.int .u64 0,.pointer none,.pointer none] 117)).heap.size 43 2 (.slice (some ⟨g3,0,none⟩) n c3) n (d.flatMap encR)/\(w1.alloc (.cells #[.int .i64 3,.slice al nV cl,.slice ah 0 ch,.int .u64 (hi R),.int .u64 (lo R),.slice none 0 0,.slice none 0 0,.int .i64 0,.int .u64 0,.int .u64 0,.pointer none,.pointer none] 117)).heap.size<=g3/\g3 < w3.heap.size):=⟨gb_trans ga k3,o3,b3,l3⟩
 clear cC k3 o3 b3 l3 hb1 ct2 c12 ga
 go_wp2
 go_ret
 exact leaf_out HH.out.2.1 HH.out.2.2.2.1 HH.out.2.2.1 N.out X1.out.1 X1.out.2 X2.out.1 X2.out.2.1 X2.out.2.2.1 X2.out.2.2.2 HB.out Y.out.1 Y.out.2.1 SZ.out Y.out.2.2.1 Y.out.2.2.2
end Go.Proofs.YtepjbdklljlecaaGreat

namespace Go.Proofs.YtepjbdklljlecaaGreat
open Go.RowKit Go.Sort
theorem RwAt.take {w:World} {g o n:Nat} {d:List Rt} (h:RwAt w g o d):RwAt w g o (d.take n):=by
 obtain ⟨cur,h1,h2,h3⟩:=h
 refine ⟨cur,h1,by rw [List.length_take];have:=Nat.min_le_right n d.length;omega,fun i hi=>?_⟩
 rw [List.length_take] at hi
 rw [List.getElem_take]
 exact h3 i (by omega)
theorem RwAt.drop {w:World} {g o n:Nat} {d:List Rt} (h:RwAt w g o d) (hn:n<=d.length):RwAt w g (o + n * 2) (d.drop n):=by
 obtain ⟨cur,h1,h2,h3⟩:=h
 refine ⟨cur,h1,by rw [List.length_drop];omega,fun i hi=>?_⟩
 rw [List.length_drop] at hi
 rw [List.getElem_drop]
 have:=h3 (n + i) (by omega)
 rw [show o + (n + i) * 2=o + n * 2 + i * 2 by omega] at this
 exact this
theorem CutIn.perm {Iq:Nat->Prop} {w:World} {m:Nat} {d d':List Rt} (h:CutIn Iq w m d) (p:d'.Perm d):CutIn Iq w m d':=⟨fun x hx=>h.vec x (p.mem_iff.1 hx),h.ok.perm (p.symm.map _),h.up⟩
theorem CutIn.sub {Iq:Nat->Prop} {w:World} {m:Nat} {d d':List Rt} (h:CutIn Iq w m d) (p:d'.Sublist d):CutIn Iq w m d':=⟨fun x hx=>h.vec x (p.subset hx),h.ok.sub (p.map _),h.up⟩
theorem hit_ne {V:List Int} {x y:Rt} (h:x.1 ≠ y.1):hitOf V (rwR x) ≠ hitOf V (rwR y):=fun e=>h (congrArg (fun z:Tk.Ht=>z.1) e)
theorem sides {d:List Rt} {V:List Int} {mid:Nat} (hs:d.Pairwise fun x y=>¬ Tk.cf (hitOf V (rwR y)) (hitOf V (rwR x)) < 0) (hid:(d.map (·.1)).Pairwise (· ≠ ·)) (hm:mid < d.length) :
  (∀ r ∈ (d.take mid).map rwR,Tk.hlt (hitOf V r) (hitOf V (rwR d[mid]))=true)/\∀ r ∈ (d.drop mid).map rwR,Tk.hlt (hitOf V r) (hitOf V (rwR d[mid]))=false:=by
 rw [List.pairwise_iff_getElem] at hs hid
 constructor
 ·intro r hr
  obtain ⟨x,hx,rfl⟩:=List.mem_map.1 hr
  obtain ⟨i,hi,rfl⟩:=List.getElem_of_mem hx
  rw [List.length_take] at hi
  rw [List.getElem_take]
  have h1:Tk.hlt (hitOf V (rwR d[mid])) (hitOf V (rwR d[i]))=false:=decide_eq_false (hs i mid (by omega) hm (by omega))
  have h2:=hid i mid (by simp;omega) (by simpa using hm) (by omega)
  simp only [List.getElem_map] at h2
  cases h3:Tk.hlt (hitOf V (rwR d[i])) (hitOf V (rwR d[mid])) with
  | true=>rfl
  | false=>exact absurd (Tk.hlt_tot h3 h1) (hit_ne h2)
 ·intro r hr
  obtain ⟨x,hx,rfl⟩:=List.mem_map.1 hr
  obtain ⟨i,hi,rfl⟩:=List.getElem_of_mem hx
  rw [List.length_drop] at hi
  rw [List.getElem_drop]
  by_cases e:i=0
  ·subst e
   exact Tk.hlt_irrefl _
  ·exact decide_eq_false (hs mid (mid + i) hm (by omega) (by omega))
theorem node_out {Iq:Nat->Prop} {w W4 w5 W:World} {sb m mid pb b1 b2:Nat} {d d':List Rt} {V:List Int} {R:Nat} {vl vh:Value} {T1 T2:Nat->Pt} {F1 F2:List Nat} {x:Rt} (hd:d ≠ []) (hI:CutIn Iq w m d) (bx:∀ l ct kd,BoxOk m ⟨⟨3,V,[],R,[]⟩,l,ct,kd⟩ (d.map rwR)) (hR:R < 340282366920938463463374607431768211456)
  (hp:d'.Perm d) (hs:d'.Pairwise fun x y=>¬ Tk.cf (hitOf V (rwR y)) (hitOf V (rwR x)) < 0) (hmid:1<=mid) (hmn:mid < d'.length) (hx:x=d'[mid]) (hpb:w.heap.size<=pb) (hpb4:pb < W4.heap.size) (s5:W4.heap.size<=w5.heap.size)
  (hb:W.heap[pb]? = some (.cells #[.int .i64 3,vl,vh,.int .u64 (hi R),.int .u64 (lo R),.slice none 0 0,.slice none 0 0,.int .i64 (hitOf V (rwR x)).1,.int .u64 (hitOf V (rwR x)).2.1,.int .u64 (hitOf V (rwR x)).2.2,.pointer (some ⟨b1,0,none⟩),.pointer (some ⟨b2,0,none⟩)] 117 (0,0)))
  (o1:OwnQ Iq W vl V) (o2:OwnQ Iq W vh []) (k:Tk.Kp (fun b=>b=sb) w W) (hS:SrcAt W sb)
  (t1:∀ N,(d'.take mid).length<=N->TrO Iq W T1 (N + 1) b1 F1/\OkP T1 m N (T1 b1)/\(rowsP T1 N (T1 b1)).Perm ((d'.take mid).map rwR)) (n1:F1.Nodup) (l1:∀ x ∈ F1,W4.heap.size<=x/\x < w5.heap.size)
  (t2:∀ N,(d'.drop mid).length<=N->TrO Iq W T2 (N + 1) b2 F2/\OkP T2 m N (T2 b2)/\(rowsP T2 N (T2 b2)).Perm ((d'.drop mid).map rwR)) (n2:F2.Nodup) (l2:∀ x ∈ F2,w5.heap.size<=x) :
  CutOut Iq w sb m d (.returned (.pointer (some ⟨pb,0,none⟩))) W:=by
 have hlen:d'.length=d.length:=hp.length_eq
 refine ⟨fun e=>absurd e hd,fun _=>⟨⟨pb,fun k=>if k=pb then ⟨⟨3,V,[],R,[]⟩,[],hitOf V (rwR x),some (b1,b2)⟩ else if k < w5.heap.size then T1 k else T2 k,pb :: (F1 ++ F2),rfl,fun N hN=>?_,?_,?_⟩,hS,k⟩⟩
 ·obtain ⟨N',rfl⟩:∃ N',N=N' + 1:=⟨N - 1,by omega⟩
  obtain ⟨a1,a2,a3⟩:=t1 N' (by rw [List.length_take];omega)
  obtain ⟨c1,c2,c3⟩:=t2 N' (by rw [List.length_drop];omega)
  generalize hT:(fun k=>if k=pb then (⟨⟨3,V,[],R,[]⟩,[],hitOf V (rwR x),some (b1,b2)⟩:Pt) else if k < w5.heap.size then T1 k else T2 k)=T
  have e0:T pb=⟨⟨3,V,[],R,[]⟩,[],hitOf V (rwR x),some (b1,b2)⟩:=by rw [<- hT];simp
  have e1:∀ x ∈ F1,T x=T1 x:=fun x hx=>by
   have h1:=l1 x hx
   rw [<- hT]
   simp only
   rw [if_neg (by omega),if_pos (by omega)]
  have e2:∀ x ∈ F2,T x=T2 x:=fun x hx=>by
   have h1:=l2 x hx
   rw [<- hT]
   simp only
   rw [if_neg (by omega),if_neg (by omega)]
  obtain ⟨p1,p2⟩:=TrO.congr _ _ _ a1 e1
  obtain ⟨q1,q2⟩:=TrO.congr _ _ _ c1 e2
  obtain ⟨r1,r2⟩:=p2 N' (by omega) m
  obtain ⟨u1,u2⟩:=q2 N' (by omega) m
  have hk:(T pb).kids=some (b1,b2):=by rw [e0]
  have hpr:(rowsP T N' (T b1) ++ rowsP T N' (T b2)).Perm (d.map rwR):=by
   rw [r1,u1]
   refine (a3.append c3).trans ?_
   rw [<- List.map_append,List.take_append_drop]
   exact hp.map _
  obtain ⟨hs1,hs2⟩:=sides hs (by
   have:=(hI.perm hp).ok.ids
   unfold idsOf at this
   rw [List.map_map] at this
   exact this) hmn
  rw [<- hx] at hs1 hs2
  refine ⟨⟨vl,vh,.slice none 0 0,⟨?_,by rw [e0];exact o1,o2,by rw [e0];exact ⟨rfl,hR⟩,hI.up.le k.size⟩,?_⟩,?_,?_⟩
  ·rw [hb,e0];rfl
  ·rw [hk]
   exact ⟨rfl,F1,F2,p1,q1,rfl⟩
  ·rw [OkP,hk]
   dsimp only
   refine ⟨r2.2 a2,u2.2 c2,?_,?_,?_⟩
   ·rw [e0]
    exact (bx _ _ _).sub (fun r hr=>hpr.mem_iff.1 hr)
   ·intro r hr
    rw [e0]
    rw [r1] at hr
    exact hs1 r (a3.mem_iff.1 hr)
   ·intro r hr
    rw [e0]
    rw [u1] at hr
    exact hs2 r (c3.mem_iff.1 hr)
  ·rw [rowsP_node hk];exact hpr
 ·rw [List.nodup_cons,List.nodup_append]
  refine ⟨fun h=>?_,n1,n2,fun a ha b hb e=>?_⟩
  ·rcases List.mem_append.1 h with h | h
   ·have:=l1 _ h;omega
   ·have:=l2 _ h;omega
  ·subst e
   have h1:=(l1 a ha).2
   have h2:=l2 a hb
   omega
 ·intro y hy
  simp only [List.mem_cons,List.mem_append] at hy
  rcases hy with rfl | hy | hy
  ·omega
  ·have:=l1 y hy;omega
  ·have:=l2 y hy;omega
end Go.Proofs.YtepjbdklljlecaaGreat
