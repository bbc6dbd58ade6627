import Derived.Test.YtcipdampcmfmaabGreatJa8
import Derived.Shelf.SlSortCmp.NoneTotal
import Derived.Shelf.SlicesE.Clone
import Derived.Shelf.SlGeneric
import Derived.Shelf.Lay
import Derived.Ground.SlsfProg
import Derived.Ground.SlgnProg
namespace Go.Proofs.YtcipdampcmfmaabGreat.Tk
open Go.RowKit Go.Sort
set_option maxRecDepth 100000
set_option maxHeartbeats 2000000
attribute [local go_sem ↓] Go.wp_at_zero Go.wp_at_succ
theorem Hp.heap {w w':World} {hb:Nat} {k:Int} {v:Value} {d:Array Ht} (h:Hp w hb k v d) (e:w'.heap=w.heap):Hp w' hb k v d :=
 ⟨by rw [e];exact h.blk,by have:=h.own;unfold Own World.ownsRow at *;rw [e];exact this,h.ne⟩
theorem More.before {w w0 w':World} {hb:Nat} {k:Int} {v:Value} {d:Array Ht} {x:Ht} (G:Gr w w0) (h:More w0 w' hb k v d x):More w w' hb k v d x:=by
 obtain ⟨g,cap,d',h1,h2,h3,h4,h5⟩:=h
 refine ⟨g,cap,d',h1,h2,h3,(Kp.of_gr G).trans h4,?_⟩
 rcases h5 with h5 | h5
 ·exact .inl h5
 ·exact .inr (Nat.le_trans G.size h5)
theorem offer_more {w:World} {hb:Nat} {k:Int} {v:Value} {d:Array Ht} (h:Hp w hb k v d) (hm:MaxH d) (hk:(d.size:Int) < k) (hn:d.size<=3000) (x:Ht) :
  Calls Tryz.prog 75 #[.pointer (some ⟨hb,0,none⟩),hv x] w fun e w'=>e=.returned (.bool true)/\More w w' hb k v d x:=by
 have G:Gr w (w.alloc (.cells #[.int .i64 x.id,.int .u64 x.hi,.int .u64 x.lo] 58)):=by go_grown
 have hA:Hid (Hp (w.alloc (.cells #[.int .i64 x.id,.int .u64 x.hi,.int .u64 x.lo] 58)) hb k v d/\MaxH d/\d.size<=3000/\Hp w hb k v d):=⟨h.gr G,hm,hn,h⟩
 have c0:=hA.out.1.cell0
 have c1:=hA.out.1.cell1
 obtain ⟨a,cap,rfl⟩:=h.form
 obtain ⟨n,hN⟩:∃ n,n=d.size:=⟨_,rfl⟩
 have N:Hid (n=d.size):=hN
 rw [<- hN] at c1 hk
 clear h hm hn hN
 go_enter Tryz.func75,Tryz.ntmps75
 go_wp2
 go_quiet (fail)
 go_wp2
 go_region_with (go_at_call 114;refine (push25 (hA.out.1.heap (by rfl)) hA.out.2.1 hA.out.2.2.1 x).mono ?_;rintro e w' ⟨rfl,hM⟩)
 all_goals
  have M:Hid (More w w' hb k (.slice a d.size cap) d x):=More.before (G.trans (below_drewN (Below.refl _ _) _)) hM
  clear hM
  go_wp2
  go_ret
  exact ⟨rfl,M.out⟩
def Repl (w w':World) (hb:Nat) (k:Int) (v:Value) (d:Array Ht) (x:Ht):Prop :=
 ∃ d',d'.toList.Perm (d.setIfInBounds 0 x).toList/\MaxH d'/\Hp w' hb k v d'/\Kp (fun b=>b=hb ∨ some b=v.ownBlock) w w'
theorem flat_set (d:Array Ht) (x:Ht) (hd:0 < d.size):setMany (flatK enc 3 d) 0 (enc x)=flatK enc 3 (d.setIfInBounds 0 x):=by
 refine ext_get! (by simp) fun t ht=>?_
 have ht':t < d.size * 3:=by simpa using ht
 rw [get_setMany _ _ _ t (by simpa using ht'),get_flatK _ _ _ t ht',get_flatK _ _ _ t (by simpa using ht'),enc_len]
 by_cases h:t < 3
 ·rw [if_pos (by omega),show t / 3=0 by omega,getElem!_set_same d 0 x hd,show t % 3=t by omega,Nat.sub_zero]
 ·rw [if_neg (by omega),getElem!_set_other d 0 _ x (by omega)]
theorem store_first {w:World} {g n cap:Nat} {d:Array Ht} (h:Own w (.slice (some ⟨g,0,none⟩) n cap) d) (x:Ht) (hd:0 < d.size) :
  ((w.setCell ⟨g,0,none⟩ (.int .i64 x.id)).setCell ⟨g,1,none⟩ (.int .u64 x.hi)).setCell ⟨g,2,none⟩ (.int .u64 x.lo)=putRowK enc 3 (Sort.ahead w 0) g 0 (d.setIfInBounds 0 x):=by
 have h1:=setCells_putRow w g 0 (enc x) 0 (flatK enc 3 d) (by rw [enc_len,size_flatK];omega)
 rw [putRow_self id w g 0 _ (own_holds h),flat_set d x hd] at h1
 exact h1
theorem offer_repl {w:World} {hb:Nat} {k:Int} {v:Value} {d:Array Ht} (h:Hp w hb k v d) (hm:MaxH d) (hk:(d.size:Int)=k) (hn:d.size<=3000) (hd:0 < d.size) (x:Ht) (hx:hlt x d[0]! = true) :
  Calls Tryz.prog 75 #[.pointer (some ⟨hb,0,none⟩),hv x] w fun e w'=>e=.returned (.bool true)/\Repl w w' hb k v d x:=by
 subst hk
 obtain ⟨g,cap,cur,rfl,_⟩:=own_form h.own hd
 have G:Gr w (w.alloc (.cells #[.int .i64 x.id,.int .u64 x.hi,.int .u64 x.lo] 58)):=by go_grown
 have hA:Hid (Hp (w.alloc (.cells #[.int .i64 x.id,.int .u64 x.hi,.int .u64 x.lo] 58)) hb (d.size:Nat) (.slice (some ⟨g,0,none⟩) d.size cap) d/\MaxH d/\d.size<=3000/\0 < d.size/\hlt x d[0]! = true):=⟨h.gr G,hm,hn,hd,hx⟩
 have c0:=hA.out.1.cell0
 have c1:=hA.out.1.cell1
 obtain ⟨n,hN⟩:∃ n,n=d.size:=⟨_,rfl⟩
 have N:Hid (n=d.size):=hN
 rw [<- hN] at c1 c0 hn hd
 clear h hm hN hx
 go_enter Tryz.func75,Tryz.ntmps75
 go_wp2
 go_quiet (fail)
 clear c0 c1
 go_wp2_with fail
 refine (worst15 (hA.out.1.heap (by rfl)) hA.out.2.2.2.1 (by have:=hA.out.2.2.1;omega)).mono ?_
 rintro e w1 ⟨rfl,g1⟩
 have b0:w1.cell? ⟨w.heap.size,0,none⟩=some (.int .i64 x.id):=gr_keeps g1 (by simp [go_sem])
 have b1:w1.cell? ⟨w.heap.size,1,none⟩=some (.int .u64 x.hi):=gr_keeps g1 (by simp [go_sem])
 have b2:w1.cell? ⟨w.heap.size,2,none⟩=some (.int .u64 x.lo):=gr_keeps g1 (by simp [go_sem])
 have G1:Gr w w1:=gr_trans (G.trans (below_drewN (Below.refl _ _) _)) g1
 have hB:Hid (Hp w1 hb (d.size:Nat) (.slice (some ⟨g,0,none⟩) d.size cap) d):=(hA.out.1.heap (by rfl)).gr g1
 obtain ⟨y,hy⟩:∃ y,y=d[0]! := ⟨_,rfl⟩
 have Y:Hid (y=d[0]!):=hy
 rw [<- hy]
 clear hy g1 G
 have hl:=fun W=>less_c x y W
 rw [show hlt x y=true by rw [Y.out];exact hA.out.2.2.2.2] at hl
 replace b0:=alloc_keeps b0 (.cells #[.int .i64 y.id,.int .u64 y.hi,.int .u64 y.lo] 58)
 replace b1:=alloc_keeps b1 (.cells #[.int .i64 y.id,.int .u64 y.hi,.int .u64 y.lo] 58)
 replace b2:=alloc_keeps b2 (.cells #[.int .i64 y.id,.int .u64 y.hi,.int .u64 y.lo] 58)
 go_wp2_with fail
 refine (hl _).mono ?_
 rintro e w2 ⟨rfl,g2⟩
 have G2:Gr w w2:=gr_trans (gr_alloc G1 _) g2.gr
 have hC:Hid (Hp w2 hb (d.size:Nat) (.slice (some ⟨g,0,none⟩) d.size cap) d):=(hB.out.gr (gr_alloc (Below.refl _ _) _)).gr g2.gr
 replace b0:=gr_keeps g2.gr b0
 replace b1:=gr_keeps g2.gr b1
 replace b2:=gr_keeps g2.gr b2
 have c1:=hC.out.cell1
 have cc:=own_cell hC.out.own hA.out.2.2.2.1
 rw [Nat.zero_mul] at cc
 obtain ⟨x0,x1,x2⟩:=cc
 have f0:=own_froz hC.out.own 0
 have f1:=own_froz hC.out.own 1
 have f2:=own_froz hC.out.own 2
 rw [<- N.out] at c1
 clear g2 G1 hB hl
 go_wp2
 go_region
 have hw:=store_first hC.out.own x hA.out.2.2.2.1
 rw [hw]
 have hD:Hid (Hp (putRowK enc 3 (Sort.ahead w2 0) g 0 (d.setIfInBounds 0 x)).drew hb (d.size:Nat) (.slice (some ⟨g,0,none⟩) d.size cap) (d.setIfInBounds 0 x)/\Kp (fun b=>b=g) w2 (putRowK enc 3 (Sort.ahead w2 0) g 0 (d.setIfInBounds 0 x)).drew):=by
  have K0:=Kp.put (g:=g) (m:=0) w2 (d.setIfInBounds 0 x)
  refine ⟨⟨?_,own_put hC.out.own 0 _ (by simp),hC.out.ne⟩,⟨K0.os,K0.tape,K0.output,K0.size,K0.block⟩⟩
  show (putRowK enc 3 (Sort.ahead w2 0) g 0 (d.setIfInBounds 0 x)).heap[hb]? = _
  rw [K0.block hb hC.out.lt (by have:=hC.out.ne;simp [Value.ownBlock] at this;omega)]
  exact hC.out.blk
 clear hw b0 b1 b2 c1 x0 x1 x2 f0 f1 f2
 generalize (putRowK enc 3 (Sort.ahead w2 0) g 0 (d.setIfInBounds 0 x)).drew=w3 at *
 have hf:=fix26 hD.out.1 (by simp) (by have:=hA.out.2.2.1;omega) hA.out.2.2.2.1 (down_set hA.out.2.1 x)
 go_wp2_with fail
 refine hf.mono ?_
 rintro e w4 ⟨rfl,d',p1,p2,p3,p4⟩
 have Z:Hid (Repl w w4 hb (d.size:Nat) (.slice (some ⟨g,0,none⟩) d.size cap) d x) :=
  ⟨d',p1,p2,p3,((Kp.of_gr G2).trans' hD.out.2 (fun i _ e=>.inr (by rw [e];rfl))).trans' p4 (fun i _ e=>.inr (by rw [e];rfl))⟩
 clear p1 p2 p3 p4 hf
 go_wp2
 go_ret
 exact ⟨rfl,Z.out⟩
theorem offer_no {w:World} {hb:Nat} {k:Int} {v:Value} {d:Array Ht} (h:Hp w hb k v d) (hk:(d.size:Int)=k) (hn:d.size<=3000) (hd:0 < d.size) (x:Ht) (hx:hlt x d[0]! = false) :
  Calls Tryz.prog 75 #[.pointer (some ⟨hb,0,none⟩),hv x] w fun e w'=>e=.returned (.bool false)/\Gr w w':=by
 subst hk
 obtain ⟨g,cap,cur,rfl,_⟩:=own_form h.own hd
 have G:Gr w (w.alloc (.cells #[.int .i64 x.id,.int .u64 x.hi,.int .u64 x.lo] 58)):=by go_grown
 have hA:Hid (Hp (w.alloc (.cells #[.int .i64 x.id,.int .u64 x.hi,.int .u64 x.lo] 58)) hb (d.size:Nat) (.slice (some ⟨g,0,none⟩) d.size cap) d/\d.size<=3000/\0 < d.size/\hlt x d[0]! = false):=⟨h.gr G,hn,hd,hx⟩
 have c0:=hA.out.1.cell0
 have c1:=hA.out.1.cell1
 obtain ⟨n,hN⟩:∃ n,n=d.size:=⟨_,rfl⟩
 rw [<- hN] at c1 c0 hn hd
 clear h hN hx
 go_enter Tryz.func75,Tryz.ntmps75
 go_wp2
 go_quiet (fail)
 clear c0 c1
 go_wp2_with fail
 refine (worst15 (hA.out.1.heap (by rfl)) hA.out.2.2.1 (by have:=hA.out.2.1;omega)).mono ?_
 rintro e w1 ⟨rfl,g1⟩
 have b0:w1.cell? ⟨w.heap.size,0,none⟩=some (.int .i64 x.id):=gr_keeps g1 (by simp [go_sem])
 have b1:w1.cell? ⟨w.heap.size,1,none⟩=some (.int .u64 x.hi):=gr_keeps g1 (by simp [go_sem])
 have b2:w1.cell? ⟨w.heap.size,2,none⟩=some (.int .u64 x.lo):=gr_keeps g1 (by simp [go_sem])
 have G1:Gr w w1:=gr_trans (G.trans (below_drewN (Below.refl _ _) _)) g1
 obtain ⟨y,hy⟩:∃ y,y=d[0]! := ⟨_,rfl⟩
 have Y:Hid (y=d[0]!):=hy
 rw [<- hy]
 clear hy g1 G
 have hl:=fun W=>less_c x y W
 rw [show hlt x y=false by rw [Y.out];exact hA.out.2.2.2] at hl
 replace b0:=alloc_keeps b0 (.cells #[.int .i64 y.id,.int .u64 y.hi,.int .u64 y.lo] 58)
 replace b1:=alloc_keeps b1 (.cells #[.int .i64 y.id,.int .u64 y.hi,.int .u64 y.lo] 58)
 replace b2:=alloc_keeps b2 (.cells #[.int .i64 y.id,.int .u64 y.hi,.int .u64 y.lo] 58)
 go_wp2_with fail
 refine (hl _).mono ?_
 rintro e w2 ⟨rfl,g2⟩
 have G2:Gr w w2:=gr_trans (gr_alloc G1 _) g2.gr
 clear g2 G1 hl b0 b1 b2
 go_wp2
 go_ret
 exact ⟨rfl,G2⟩
end Go.Proofs.YtcipdampcmfmaabGreat.Tk

namespace Go.Proofs.YtcipdampcmfmaabGreat.Tk
open Go.Shelf Go.RowKit Go.Lib Go.Sort
set_option maxHeartbeats 2000000
shelf_lay_g SlLaysF0.n6 Slsf 6 at Tryz 95 as Tryz.laidSort
shelf_lay_g SlLaysE0.n41 Slgn 41 at Tryz 94 as Tryz.laidClone
def srt (l:List Ht):List Ht:=l.mergeSort fun x y=>!hlt y x
theorem srt_perm (l:List Ht):(srt l).Perm l:=List.mergeSort_perm _ _
theorem srt_len (l:List Ht):(srt l).length=l.length:=(srt_perm l).length_eq
theorem swoH:SWO (ltOf cf):=⟨hlt_irrefl,fun _ _ _=>hlt_trans,fun _ _ _=>hlt_ntrans⟩
theorem cmpH (blk off size:Nat) (w:World):CmpLays Tryz.prog 96 #[] enc 3 cf blk off size w:=fun _ _ _ _ x y=>order_c x y _
theorem gr_grow (w:World) (os:Array Obj):Gr w (grow w os):=⟨rfl,rfl,rfl,by rw [size_grow];omega,fun _ hk=>heap_grow_old _ _ hk⟩
theorem clone28 {w:World} {g n cap:Nat} {d:Array Ht} (h:Own w (.slice (some ⟨g,0,none⟩) n cap) d) (hs:d.size=n) (hn:n<=4000) :
  Calls Tryz.prog 94 #[.slice (some ⟨g,0,none⟩) n cap] w fun e w'=>∃ g' cap',e=.returned (.slice (some ⟨g',0,none⟩) n cap')/\w.heap.size<=g'/\Own w' (.slice (some ⟨g',0,none⟩) n cap') d/\Gr w w':=by
 obtain ⟨i0,z0,hi0,hz0,hz1,hz2,hz3⟩:=info58
 have hc:=AnyE.slices_Clone Tryz.laidClone i0 z0 3 24 hi0 hz0 hz1 hz2 hz3 (by omega) Tryz.sizeOf58 g 0 n cap (fl d.toList) w (by rw [fl_len];simp [hs]) (by simp only [maxLen];omega) (by omega)
  (fun j u hu=>by have:=h.cells (g:=g) rfl j u hu;rwa [Addr.add_lit] at this) (fl_one_cell _)
 change Calls Tryz.prog 94 _ _ _ at hc
 refine hc.mono ?_
 rintro e w' ⟨v',rfl,ho,hv,hb⟩
 rcases ho.2 with ⟨h1,_⟩ | ⟨g',cap',cur,rfl,hb',hh,r⟩
 ·exact absurd h1 hv
 ·refine ⟨g',cap',rfl,hb',?_,hb⟩
  unfold Own
  rw [hs]
  exact ⟨ho.1,.inr ⟨g',cap',cur,rfl,Nat.zero_le _,hh,r⟩⟩
theorem clone28_nil (w:World):Calls Tryz.prog 94 #[.slice none 0 0] w fun e w'=>e=.returned (.slice none 0 0)/\w'=w:=by
 have hc:=AnyE.slices_Clone_nil Tryz.laidClone 0 0 w
 exact hc
theorem sort29 {w:World} {g n cap:Nat} {d:Array Ht} (h:Own w (.slice (some ⟨g,0,none⟩) n cap) d) (hs:d.size=n) (hn:n<=4000) :
  Calls Tryz.prog 95 #[.slice (some ⟨g,0,none⟩) n cap,.func (.func 96) #[] #[]] w fun e w'=>e=.returned (.tuple #[])/\Own w' (.slice (some ⟨g,0,none⟩) n cap) (srt d.toList).toArray/\Kp (fun b=>b=g) w w':=by
 subst hs
 have eg:∀ args w,(callFunc 96 args).run Tryz.prog w=.ok (.enter 96 args) w:=enters_of Tryz.func96 (by kernel_rfl) rfl
 have hc:=AnyQ.slices_SortFunc_total Tryz.laidSort 3 Tryz.isAgg58 Tryz.sizeOf58 enc enc_len enc_one cf swoH 96 #[] g 0 cap d w eg (cmpH g 0 d.size w) (own_holds h) (own_lt h rfl) (by omega) (fun x y h1 h2=>hlt_tot h1 h2)
 change Calls Tryz.prog 95 _ _ _ at hc
 refine hc.mono ?_
 rintro e w' ⟨rfl,q,os,rfl⟩
 have hsz:((d.toList.mergeSort fun x y=>!(ltOf cf) y x).toArray).size=d.size:=by simp
 refine ⟨rfl,?_,?_⟩
 ·exact own_gr (own_put h q _ hsz) (gr_grow _ _)
 ·exact (Kp.put w _).trans (Kp.of_gr (gr_grow _ _))
theorem sort29_nil (fv:Value) (w:World):Calls Tryz.prog 95 #[.slice none 0 0,fv] w fun e w'=>e=.returned (.tuple #[])/\w'=w:=by
 have hc:=AnyF.slices_SortFunc_none Tryz.laidSort none 0 fv w
 exact hc
def Out (w w':World) (v:Value) (l:List Ht):Prop:=Own w' v l.toArray/\Gr w w'/\∀ g,v.ownBlock=some g->w.heap.size<=g
theorem list16 {w:World} {hb:Nat} {k:Int} {v:Value} {d:Array Ht} (h:Hp w hb k v d) (hn:d.size<=4000) :
  Calls Tryz.prog 65 #[.pointer (some ⟨hb,0,none⟩)] w fun e w'=>∃ v',e=.returned v'/\Out w w' v' (srt d.toList):=by
 have c1:=h.cell1
 have H:Hid (Own w v d/\d.size<=4000):=⟨h.own,hn⟩
 rcases h.own.2 with ⟨rfl,h0⟩ | ⟨g,cap,cur,rfl,_⟩
 ·have D:Hid (d=#[]):=Array.eq_empty_of_size_eq_zero h0
  clear h hn h0
  go_enter Tryz.func65,Tryz.ntmps65
  go_wp2_with fail
  refine (clone28_nil _).mono ?_
  rintro e w' ⟨rfl,e2⟩
  subst e2
  go_wp2_with fail
  refine (sort29_nil _ _).mono ?_
  rintro e w2 ⟨rfl,e2⟩
  subst e2
  go_wp2
  go_ret
  refine ⟨.slice none 0 0,rfl,?_,Below.refl _ _,by simp [Value.ownBlock]⟩
  rw [D.out,show srt (#[]:Array Ht).toList=[] by simp [srt]]
  exact own_nil _
 ·obtain ⟨n,hN⟩:∃ n,n=d.size:=⟨_,rfl⟩
  have N:Hid (d.size=n):=hN.symm
  rw [<- hN] at c1
  have H2:Hid (Own w (.slice (some ⟨g,0,none⟩) n cap) d/\n<=4000):=by rw [hN];exact H
  clear h hn hN H
  go_enter Tryz.func65,Tryz.ntmps65
  go_wp2_with fail
  refine (clone28 H2.out.1 N.out H2.out.2).mono ?_
  rintro e w1 ⟨g',cap',rfl,hg,ho,hG⟩
  have X:Hid (Own w1 (.slice (some ⟨g',0,none⟩) n cap') d/\Gr w w1/\w.heap.size<=g'):=⟨ho,hG,hg⟩
  clear hg ho hG c1
  go_wp2_with fail
  refine (sort29 X.out.1 N.out H2.out.2).mono ?_
  rintro e w2 ⟨rfl,ho,hK⟩
  have Y:Hid (Own w2 (.slice (some ⟨g',0,none⟩) n cap') (srt d.toList).toArray/\Kp (fun b=>b=g') w1 w2):=⟨ho,hK⟩
  clear ho hK
  go_wp2
  go_ret
  refine ⟨.slice (some ⟨g',0,none⟩) n cap',rfl,Y.out.1,X.out.2.1.trans (Y.out.2.gr X.out.2.1.size (fun k e=>by rw [e];exact X.out.2.2)),?_⟩
  intro g2 e
  simp [Value.ownBlock] at e
  rw [<- e];exact X.out.2.2
end Go.Proofs.YtcipdampcmfmaabGreat.Tk

namespace Go.Proofs.YtcipdampcmfmaabGreat.Tk
open Go.RowKit Go.Sort
def Srtd (l:List Ht):Prop:=l.Pairwise fun x y=>hlt y x=false
theorem srt_srtd (l:List Ht):Srtd (srt l):=by
 have h:=List.pairwise_mergeSort (le:=fun x y=>!hlt y x) (fun a b c h1 h2=>by
  simp only [Bool.not_eq_true'] at *;exact hlt_ntrans h2 h1) (fun a b=>by
  cases h:hlt b a
  ·simp
  ·simp [hlt_asymm h]) l
 exact h.imp (fun h=>by simpa using h)
theorem srtd_unique:∀ (l l':List Ht),Srtd l->Srtd l'->l.Perm l'->l=l'
 | [],l',_,_,p=>(List.Perm.nil_eq p)
 | a :: r,[],_,_,p=>absurd p.length_eq (by simp)
 | a :: r,b :: r',h,h',p=>by
  have hb:b ∈ a :: r:=p.symm.subset List.mem_cons_self
  have ha:a ∈ b :: r':=p.subset List.mem_cons_self
  have e:a=b:=by
   rcases List.mem_cons.1 hb with e | hb
   ·exact e.symm
   rcases List.mem_cons.1 ha with e | ha
   ·exact e
   have h1:=List.rel_of_pairwise_cons h hb
   have h2:=List.rel_of_pairwise_cons h' ha
   exact hlt_tot h2 h1
  subst e
  rw [srtd_unique r r' (List.Pairwise.of_cons h) (List.Pairwise.of_cons h') (List.Perm.cons_inv p)]
theorem srt_of_srtd {l:List Ht} (h:Srtd l):srt l=l:=srtd_unique _ _ (srt_srtd l) h (srt_perm l)
theorem srt_of_perm {l m:List Ht} (h:Srtd m) (p:l.Perm m):srt l=m:=srtd_unique _ _ (srt_srtd l) h ((srt_perm l).trans p)
def ins (x:Ht):List Ht->List Ht
 | []=>[x]
 | y :: r=>if hlt x y=true then x :: y :: r else y :: ins x r
theorem ins_perm (x:Ht):∀ l,(ins x l).Perm (x :: l)
 | []=>List.Perm.refl _
 | y :: r=>by
  unfold ins
  split
  ·exact List.Perm.refl _
  ·exact ((ins_perm x r).cons y).trans (List.Perm.swap x y r)
theorem ins_len (x:Ht) (l:List Ht):(ins x l).length=l.length + 1:=by rw [(ins_perm x l).length_eq];rfl
theorem ins_srtd (x:Ht):∀ l,Srtd l->Srtd (ins x l)
 | [],_=>List.pairwise_singleton _ _
 | y :: r,h=>by
  unfold ins
  split
  ·rename_i hx
   refine List.Pairwise.cons ?_ h
   intro z hz
   rcases List.mem_cons.1 hz with rfl | hz
   ·exact hlt_asymm hx
   ·exact hlt_ntrans (List.rel_of_pairwise_cons h hz) (hlt_asymm hx)
  ·rename_i hx
   refine List.Pairwise.cons ?_ (ins_srtd x r (List.Pairwise.of_cons h))
   intro z hz
   rcases List.mem_cons.1 ((ins_perm x r).subset hz) with rfl | hz
   ·simpa using hx
   ·exact List.rel_of_pairwise_cons h hz
theorem srt_snoc (l:List Ht) (x:Ht):srt (l ++ [x])=ins x (srt l):=by
 refine srt_of_perm (ins_srtd x _ (srt_srtd l)) ?_
 refine List.Perm.trans ?_ (ins_perm x _).symm
 exact (List.perm_append_singleton x l).trans ((srt_perm l).symm.cons x)
def keep (k:Nat) (m:List Ht) (x:Ht):List Ht:=(ins x m).take k
def kept (k:Nat) (m:List Ht) (x:Ht):Bool:=decide (m.length < k) || hlt x m[k - 1]!
theorem take_ins (x:Ht):∀ (k:Nat) (l:List Ht),(ins x l).take k=(ins x (l.take k)).take k
 | 0,_=>by simp
 | k + 1,[]=>by simp
 | k + 1,y :: r=>by
  simp only [List.take_succ_cons]
  unfold ins
  split
  ·simp only [List.take_succ_cons]
   cases k with
   | zero=>simp
   | succ k=>simp [List.take_succ_cons,List.take_take,Nat.min_eq_left (Nat.le_succ k)]
  ·simp only [List.take_succ_cons]
   rw [take_ins x k r]
def firsts (k:Nat) (l:List Ht):List Ht:=(srt l).take k
theorem firsts_snoc (k:Nat) (l:List Ht) (x:Ht):firsts k (l ++ [x])=keep k (firsts k l) x:=by
 unfold firsts keep
 rw [srt_snoc,take_ins]
theorem firsts_nil (k:Nat):firsts k []=[]:=by simp [firsts,srt]
theorem firsts_srtd (k:Nat) (l:List Ht):Srtd (firsts k l):=(srt_srtd l).sublist (List.take_sublist k _)
theorem firsts_len (k:Nat) (l:List Ht):(firsts k l).length=min k l.length:=by simp [firsts,srt_len]
theorem firsts_perm (k:Nat) {l l':List Ht} (p:l.Perm l'):firsts k l=firsts k l':=by
 unfold firsts;rw [srt_of_perm (srt_srtd l') (p.trans (srt_perm l').symm)]
theorem keep_srtd (k:Nat) {m:List Ht} (x:Ht) (h:Srtd m):Srtd (keep k m x):=(ins_srtd x m h).sublist (List.take_sublist k _)
theorem keep_more {k:Nat} {m:List Ht} (x:Ht) (h:m.length < k):keep k m x=ins x m:=by
 unfold keep;rw [List.take_of_length_le (by rw [ins_len];omega)]
theorem last_worst {m:List Ht} (h:Srtd m) (k:Nat) (hk:m.length=k):∀ y ∈ m,hlt m[k - 1]! y=false:=by
 intro y hy
 subst hk
 obtain ⟨i,hi,rfl⟩:=List.mem_iff_getElem.1 hy
 rw [getElem!_pos m (m.length - 1) (by omega)]
 by_cases e:i=m.length - 1
 ·subst e;exact hlt_irrefl _
 ·exact List.pairwise_iff_getElem.1 h i (m.length - 1) hi (by omega) (by omega)
theorem ins_no (x:Ht):∀ (m:List Ht),(∀ y ∈ m,hlt x y=false)->ins x m=m ++ [x]
 | [],_=>rfl
 | y :: r,h=>by
  unfold ins
  rw [if_neg (by rw [h y List.mem_cons_self];simp),ins_no x r (fun z hz=>h z (List.mem_cons_of_mem _ hz))]
  rfl
theorem keep_no {k:Nat} {m:List Ht} {x:Ht} (hs:Srtd m) (h:m.length=k) (hx:hlt x m[k - 1]! = false):keep k m x=m:=by
 unfold keep
 rw [ins_no x m (fun y hy=>hlt_ntrans hx (last_worst hs k h y hy)),List.take_append_of_le_length (by omega),List.take_of_length_le (by omega)]
theorem ins_app (x:Ht) (z:Ht) (hx:hlt x z=true):∀ (m:List Ht),ins x (m ++ [z])=ins x m ++ [z]
 | []=>by simp [ins,hx]
 | y :: r=>by
  simp only [List.cons_append]
  unfold ins
  split
  ·rfl
  ·rw [ins_app x z hx r];rfl
theorem keep_repl {k:Nat} {m:List Ht} {x:Ht} (hk:0 < k) (h:m.length=k) (hx:hlt x m[k - 1]! = true):(keep k m x).Perm (x :: m.dropLast):=by
 have hne:m ≠ []:=by intro e;subst e;simp at h;omega
 obtain ⟨a,z,rfl⟩:∃ a z,m=a ++ [z]:=⟨m.dropLast,m.getLast hne,(List.dropLast_concat_getLast hne).symm⟩
 simp only [List.length_append,List.length_cons,List.length_nil] at h
 have e:(a ++ [z])[k - 1]! = z:=by
  rw [getElem!_pos (a ++ [z]) (k - 1) (by simp;omega),List.getElem_append_right (by omega)]
  simp
 rw [e] at hx
 have hl:(ins x a).length=k:=by rw [ins_len];omega
 unfold keep
 rw [ins_app x z hx,List.take_append_of_le_length (by rw [hl];exact Nat.le_refl _),List.take_of_length_le (by rw [hl];exact Nat.le_refl _),List.dropLast_concat]
 exact ins_perm x _
end Go.Proofs.YtcipdampcmfmaabGreat.Tk

namespace Go.Proofs.YtcipdampcmfmaabGreat.Tk
open Go.RowKit Go.Sort
def Has (w:World) (hb k:Nat) (v:Value) (m:List Ht):Prop :=
 ∃ d,Hp w hb (k:Int) v d/\MaxH d/\d.toList.Perm m/\Srtd m/\m.length<=k/\1<=k/\k<=64
theorem Has.gr {w w':World} {hb k:Nat} {v:Value} {m:List Ht} (h:Has w hb k v m) (g:Gr w w'):Has w' hb k v m:=by
 obtain ⟨d,h1,r⟩:=h;exact ⟨d,h1.gr g,r⟩
theorem Has.kp {S:Nat->Prop} {w w':World} {hb k:Nat} {v:Value} {m:List Ht} (h:Has w hb k v m) (K:Kp S w w') (h1:¬ S hb) (h2:∀ g,v.ownBlock=some g->¬ S g):Has w' hb k v m:=by
 obtain ⟨d,hd,r⟩:=h;exact ⟨d,hd.kp K h1 h2,r⟩
theorem Has.lt {w:World} {hb k:Nat} {v:Value} {m:List Ht} (h:Has w hb k v m):hb < w.heap.size:=by obtain ⟨d,h1,_⟩:=h;exact h1.lt
theorem Has.own_lt {w:World} {hb k:Nat} {v:Value} {m:List Ht} (h:Has w hb k v m) {g:Nat} (hg:v.ownBlock=some g):g < w.heap.size:=by
 obtain ⟨d,h1,_⟩:=h;exact YtcipdampcmfmaabGreat.Tk.own_lt h1.own hg
theorem new_has (k:Nat) (h1:1<=k) (h2:k<=64) (w:World):Has (w.alloc (.cells #[.int .i64 (k:Int),.slice none 0 0] 131)) w.heap.size k (.slice none 0 0) [] :=
 ⟨#[],new_hp _ w,fun _ _ h=>absurd h (Nat.not_lt_zero _),List.Perm.refl _,List.Pairwise.nil,Nat.zero_le _,h1,h2⟩
theorem root_last {d:Array Ht} {m:List Ht} (hm:MaxH d) (p:d.toList.Perm m) (hs:Srtd m) {k:Nat} (hk:m.length=k) (h0:0 < k):d[0]! = m[k - 1]! := by
 have hd:d.size=k:=by have:=p.length_eq;simp at this;omega
 have a1:d[0]! ∈ m:=p.subset (by rw [getElem!_pos d 0 (by omega)];exact Array.mem_toList_iff.2 (Array.getElem_mem _))
 have a2:m[k - 1]! ∈ d.toList:=p.symm.subset (by rw [getElem!_pos m (k - 1) (by omega)];exact List.getElem_mem _)
 have b1:=last_worst hs k hk _ a1
 obtain ⟨i,hi,e⟩:=List.mem_iff_getElem.1 a2
 have b2:=maxh_root hm i (by simpa using hi)
 rw [getElem!_pos d i (by simpa using hi)] at b2
 simp only [Array.getElem_toList] at e
 rw [e] at b2
 exact hlt_tot b2 b1
def Offered (w w':World) (hb k:Nat) (v:Value) (m:List Ht) (x:Ht):Prop :=
 ∃ v',Has w' hb k v' (keep k m x)/\Kp (fun b=>b=hb ∨ some b=v.ownBlock) w w'/\(v'.ownBlock=v.ownBlock ∨ ∀ g,v'.ownBlock=some g->w.heap.size<=g)
theorem offer_has {w:World} {hb k:Nat} {v:Value} {m:List Ht} (h:Has w hb k v m) (x:Ht) :
  Calls Tryz.prog 75 #[.pointer (some ⟨hb,0,none⟩),hv x] w fun e w'=>e=.returned (.bool (kept k m x))/\Offered w w' hb k v m x:=by
 have h':=h
 obtain ⟨d,hp,hm,pm,hs,hl,k1,k2⟩:=h
 have hd:d.size=m.length:=by have:=pm.length_eq;simpa using this
 by_cases c:m.length < k
 ·have e:kept k m x=true:=by unfold kept;rw [decide_eq_true c];rfl
  rw [e]
  refine (offer_more hp hm (by omega) (by omega) x).mono ?_
  rintro e w' ⟨rfl,g,cap,d',p1,p2,p3,p4,p5⟩
  refine ⟨rfl,_,⟨d',p3,p2,?_,keep_srtd k x hs,by unfold keep;rw [List.length_take];omega,k1,k2⟩,p4,?_⟩
  ·rw [keep_more x c]
   refine p1.trans ((List.perm_append_singleton x d.toList).trans ((pm.cons x).trans (ins_perm x m).symm))
  ·rcases p5 with p5 | p5
   ·exact .inl p5.symm
   ·right;intro g' hg';simp [Value.ownBlock] at hg';omega
 have hk:m.length=k:=by omega
 have er:=root_last hm pm hs hk (by omega)
 by_cases cx:hlt x m[k - 1]! = true
 ·have e:kept k m x=true:=by unfold kept;rw [cx];simp
  rw [e]
  refine (offer_repl hp hm (by omega) (by omega) (by omega) x (by rw [er];exact cx)).mono ?_
  rintro e w' ⟨rfl,d',p1,p2,p3,p4⟩
  refine ⟨rfl,v,⟨d',p3,p2,?_,keep_srtd k x hs,by unfold keep;rw [List.length_take];omega,k1,k2⟩,p4,.inl rfl⟩
  refine (p1.trans ?_).trans (keep_repl (by omega) hk cx).symm
  have hne:m ≠ []:=by intro e0;subst e0;simp at hk;omega
  obtain ⟨a,z,rfl⟩:∃ a z,m=a ++ [z]:=⟨m.dropLast,m.getLast hne,(List.dropLast_concat_getLast hne).symm⟩
  have ez:(a ++ [z])[k - 1]! = z:=by
   simp only [List.length_append,List.length_cons,List.length_nil] at hk
   rw [getElem!_pos (a ++ [z]) (k - 1) (by simp;omega),List.getElem_append_right (by omega)]
   simp
  rw [ez] at er
  rw [List.dropLast_concat]
  cases hdl:d.toList with
  | nil =>
   have q0:d.toList.length=0:=by rw [hdl];rfl
   rw [Array.length_toList] at q0;omega
  | cons y r =>
   have hy:d[0]! = y:=by
    have hz:0 < d.size:=by omega
    rw [getElem!_pos d 0 hz,<- Array.getElem_toList hz]
    simp [hdl]
   rw [Array.toList_setIfInBounds,hdl,List.set_cons_zero]
   refine List.Perm.cons x ?_
   have q:(y :: r).Perm (z :: a):=by rw [<- hdl];exact pm.trans (List.perm_append_singleton z a)
   rw [<- hy,er] at q
   exact List.Perm.cons_inv q
 ·have cx':hlt x m[k - 1]! = false:=by simpa using cx
  have e:kept k m x=false:=by unfold kept;rw [cx',decide_eq_false c];rfl
  rw [e]
  refine (offer_no hp (by omega) (by omega) (by omega) x (by rw [er];exact cx')).mono ?_
  rintro e w' ⟨rfl,g⟩
  refine ⟨rfl,v,?_,Kp.of_gr g,.inl rfl⟩
  rw [keep_no hs hk cx']
  exact h'.gr g
theorem len_has {w:World} {hb k:Nat} {v:Value} {m:List Ht} (h:Has w hb k v m):Calls Tryz.prog 127 #[.pointer (some ⟨hb,0,none⟩)] w fun e w'=>e=.returned (.int .i64 (m.length:Nat))/\w'=w:=by
 obtain ⟨d,hp,hm,pm,hs,hl,k1,k2⟩:=h
 have:=len17 hp
 rwa [show d.size=m.length by have:=pm.length_eq;simpa using this] at this
theorem worst_has {w:World} {hb k:Nat} {v:Value} {m:List Ht} (h:Has w hb k v m) (h0:0 < m.length):Calls Tryz.prog 90 #[.pointer (some ⟨hb,0,none⟩)] w fun e w'=>e=.returned (.tuple #[hv m[m.length - 1]!,.bool true])/\Gr w w':=by
 obtain ⟨d,hp,hm,pm,hs,hl,k1,k2⟩:=h
 have hd:d.size=m.length:=by have:=pm.length_eq;simpa using this
 have:=worst15 hp (by omega) (by omega)
 rwa [root_last hm pm hs rfl h0] at this
theorem worst_has_none {w:World} {hb k:Nat} {v:Value} {m:List Ht} (h:Has w hb k v m) (h0:m.length=0):Calls Tryz.prog 90 #[.pointer (some ⟨hb,0,none⟩)] w fun e w'=>e=.returned (.tuple #[hv ⟨0,0,0⟩,.bool false])/\Gr w w':=by
 refine worst15_none _ w fun W g=>?_
 have:=len_has (h.gr g)
 rwa [h0] at this
theorem list_has {w:World} {hb k:Nat} {v:Value} {m:List Ht} (h:Has w hb k v m):Calls Tryz.prog 65 #[.pointer (some ⟨hb,0,none⟩)] w fun e w'=>∃ v',e=.returned v'/\Out w w' v' m:=by
 obtain ⟨d,hp,hm,pm,hs,hl,k1,k2⟩:=h
 have hd:d.size=m.length:=by have:=pm.length_eq;simpa using this
 have:=list16 hp (by omega)
 rwa [srt_of_perm hs pm] at this
end Go.Proofs.YtcipdampcmfmaabGreat.Tk

namespace Go.Proofs.YtcipdampcmfmaabGreat.Tk
open Go.RowKit Go.Sort
set_option maxRecDepth 100000
set_option maxHeartbeats 2000000
attribute [local go_sem ↓] Go.wp_at_zero Go.wp_at_succ
def Lies (w:World) (b o:Nat) (l:List Ht):Prop:=∀ i,i < l.length ->
 w.cell? ⟨b,o + i * 3,none⟩=some (.int .i64 l[i]!.id)/\w.cell? ⟨b,o + i * 3 + 1,none⟩=some (.int .u64 l[i]!.hi)/\w.cell? ⟨b,o + i * 3 + 2,none⟩=some (.int .u64 l[i]!.lo)
def Rd (w:World) (v:Value) (l:List Ht):Prop:=(v=.slice none 0 0/\l=[]) ∨ (∃ a cap,v=.slice (some a) 0 cap/\l=[]) ∨ ∃ b o cap,v=.slice (some ⟨b,o,none⟩) l.length cap/\Lies w b o l
theorem Lies.gr {w w':World} {b o:Nat} {l:List Ht} (h:Lies w b o l) (g:Gr w w'):Lies w' b o l:=fun i hi=>by
 obtain ⟨h0,h1,h2⟩:=h i hi;exact ⟨gr_keeps g h0,gr_keeps g h1,gr_keeps g h2⟩
theorem Lies.kp {S:Nat->Prop} {w w':World} {b o:Nat} {l:List Ht} (h:Lies w b o l) (g:Kp S w w') (hn:¬ S b):Lies w' b o l:=fun i hi=>by
 obtain ⟨h0,h1,h2⟩:=h i hi;exact ⟨g.cell h0 hn,g.cell h1 hn,g.cell h2 hn⟩
theorem Rd.gr {w w':World} {v:Value} {l:List Ht} (h:Rd w v l) (g:Gr w w'):Rd w' v l:=by
 rcases h with h | h | ⟨b,o,cap,e2,h⟩
 ·exact .inl h
 ·exact .inr (.inl h)
 ·exact .inr (.inr ⟨b,o,cap,e2,h.gr g⟩)
theorem own_lies {w:World} {g n cap:Nat} {d:Array Ht} (h:Own w (.slice (some ⟨g,0,none⟩) n cap) d):Lies w g 0 d.toList:=fun i hi=>by
 have hi':i < d.size:=by simpa using hi
 have:=own_cell h hi'
 rw [Nat.zero_add]
 have e:d.toList[i]! = d[i]! := by rw [getElem!_pos d.toList i hi,getElem!_pos d i hi'];simp
 rw [e];exact this
theorem Rd.form {w:World} {v:Value} {l:List Ht} (h:Rd w v l):∃ a cap,v=.slice a l.length cap/\∀ i,i < l.length->∃ b o,a=some ⟨b,o,none⟩/\Lies w b o l:=by
 rcases h with ⟨rfl,rfl⟩ | ⟨a,cap,rfl,rfl⟩ | ⟨b,o,cap,rfl,h⟩
 ·exact ⟨none,0,rfl,fun i hi=>absurd hi (Nat.not_lt_zero _)⟩
 ·exact ⟨_,cap,rfl,fun i hi=>absurd hi (Nat.not_lt_zero _)⟩
 ·exact ⟨_,cap,rfl,fun _ _=>⟨b,o,rfl,h⟩⟩
theorem hv_in (x y:Ht) (W:World):(Op.equalIn 10000 58 (hv x) (hv y)).run Tryz.prog W=.ok (decide (x=y)) W:=by
 have u3:=Tryz.underlying3
 have a3:=Tryz.isAgg3
 have z3:=Tryz.sizeOf3
 have u22:=Tryz.underlying23
 have a22:=Tryz.isAgg23
 have z22:=Tryz.sizeOf23
 have a24:=Tryz.isAgg40
 have z24:=Tryz.sizeOf40
 have hS:Tryz.prog.underlying 58=some (.struct (Tryz.prog.fieldsOf 58)):=by kernel_rfl
 have hp:Tryz.prog.stoodInHeld 58=false:=by kernel_rfl
 have hS2:Tryz.prog.underlying 40=some (.struct (Tryz.prog.fieldsOf 40)):=by kernel_rfl
 have hp2:Tryz.prog.stoodInHeld 40=false:=by kernel_rfl
 have h24:∀ (a b c d:Int) W,(Op.equalIn 9999 40 (.agg #[.int .u64 a,.int .u64 b]) (.agg #[.int .u64 c,.int .u64 d])).run Tryz.prog W=.ok (a == c && b == d) W:=by
  intro a b c d W
  rw [show (9999:Nat)=9998 + 1 from rfl,run_equalIn_agg W 9998 40 _ _ hS2 hp2]
  simp only [Program.fieldsOf,Tryz.underlying40]
  go_simp
  by_cases h1:a=c <;> by_cases h2:b=d <;> simp [h1,h2]
 rw [show (10000:Nat)=9999 + 1 from rfl,run_equalIn_agg W 9999 58 _ _ hS hp]
 simp only [Program.fieldsOf,Tryz.underlying58]
 go_simp
 obtain ⟨a,b,c⟩:=x
 obtain ⟨a',b',c'⟩:=y
 by_cases h1:a=a' <;> by_cases h2:b=b' <;> by_cases h3:c=c' <;> simp [h1,h2,h3]
theorem hv_ne (x y:Ht) (W:World):(binOp .neq 58 (hv x) (hv y)).run Tryz.prog W=.ok (.bool (!decide (x=y))) W:=by
 rw [run_neq_struct,hv_in];rfl
theorem same_c {w:World} {u v:Value} {l m:List Ht} (hu:Rd w u l) (hv':Rd w v m) (hlen:l.length<=4000) :
  Calls Tryz.prog 23 #[u,v] w fun e w'=>e=.returned (.bool (decide (l=m)))/\Gr w w':=by
 obtain ⟨a,ca,rfl,ha⟩:=hu.form
 obtain ⟨b,cb,rfl,hb⟩:=hv'.form
 clear hu hv'
 by_cases hlm:l.length=m.length
 ·have A:Hid (∀ i,i < l.length->∃ b o,a=some ⟨b,o,none⟩/\Lies w b o l):=ha
  have B:Hid (∀ i,i < m.length->∃ b' o,b=some ⟨b',o,none⟩/\Lies w b' o m):=hb
  have L:Hid (l.length=m.length):=hlm
  rw [<- hlm]
  obtain ⟨n,hN⟩:∃ n,n=l.length:=⟨_,rfl⟩
  have N:Hid (n=l.length):=hN
  rw [<- hN] at hlen ⊢
  clear ha hb hlm hN
  go_enter Tryz.func23,Tryz.ntmps23
  go_wp2
  go_loopw [5] (fun iv w'=>∃ q:Nat,iv=.int .i64 (q:Int)/\q<=n/\Hid (l.take q=m.take q/\Gr w w')) (fun iv _=>n - (intOf iv).toNat)
  case atStart=>exact ⟨0,rfl,Nat.zero_le _,⟨by simp,Below.refl _ _⟩⟩
  case round =>
   obtain ⟨q,rfl,hq,X⟩:=hrel
   by_cases hqn:q < n
   ·obtain ⟨b1,o1,ea,h1⟩:=A.out q (by have:=N.out;omega)
    obtain ⟨b2,o2,eb,h2⟩:=B.out q (by have:=L.out;have:=N.out;omega)
    obtain ⟨x0,x1,x2⟩:=(h1.gr X.out.2) q (by have:=N.out;omega)
    obtain ⟨y0,y1,y2⟩:=(h2.gr X.out.2) q (by have:=L.out;have:=N.out;omega)
    subst ea;subst eb
    have Q:Hid (q < l.length/\q < m.length):=⟨by have:=N.out;omega,by have:=L.out;have:=N.out;omega⟩
    obtain ⟨x,hx⟩:∃ x,x=l[q]! := ⟨_,rfl⟩
    obtain ⟨y,hy⟩:∃ y,y=m[q]! := ⟨_,rfl⟩
    have XY:Hid (x=l[q]! /\ y=m[q]!):=⟨hx,hy⟩
    rw [<- hx] at x0 x1 x2
    rw [<- hy] at y0 y1 y2
    clear hx hy h1 h2
    have hne:=fun W=>hv_ne x y W
    by_cases hxy:x=y
    ·have E:Hid (x=y):=hxy
     rw [decide_eq_true hxy] at hne
     clear hxy
     go_wp2
     go_quiet (fail)
     go_wp2
     go_roundw
     case rel =>
      refine ⟨q + 1,by simp,hqn,⟨?_,X.out.2.trans (below_drewN (Below.refl _ _) _)⟩⟩
      obtain ⟨e1,e2⟩:=XY.out
      have e3:=E.out
      rw [e1,e2,getElem!_pos l q Q.out.1,getElem!_pos m q Q.out.2] at e3
      rw [List.take_succ_eq_append_getElem Q.out.1,List.take_succ_eq_append_getElem Q.out.2,X.out.1,e3]
     case measure=>simp [intOf];omega
    ·have E:Hid (l ≠ m):=by
      intro e
      obtain ⟨e1,e2⟩:=XY.out
      exact hxy (by rw [e1,e2,e])
     rw [decide_eq_false hxy] at hne
     have R:Hid (decide (l=m)=false):=decide_eq_false E.out
     clear hxy
     go_wp2
     go_quiet (fail)
     go_wp2
     go_ret
     exact ⟨by rw [R.out];rfl,X.out.2.trans (below_drewN (Below.refl _ _) _)⟩
   ·have R:Hid (decide (l=m)=true):=by
     have e:=X.out.1
     have h1:=N.out
     have h2:=L.out
     rw [List.take_of_length_le (by omega),List.take_of_length_le (by omega)] at e
     exact decide_eq_true e
    go_wp2
    go_ret
    exact ⟨by rw [R.out];rfl,X.out.2⟩
 ·have R:Hid (decide (l=m)=false):=decide_eq_false (fun e=>hlm (by rw [e]))
  have hne:((l.length:Int) == (m.length:Int))=false:=by rw [beq_eq_false_iff_ne];omega
  generalize l.length=n1 at *
  generalize m.length=n2 at *
  clear ha hb hlm
  go_enter Tryz.func23,Tryz.ntmps23
  go_wp2
  go_ret
  exact ⟨by rw [R.out];rfl,Below.refl _ _⟩
end Go.Proofs.YtcipdampcmfmaabGreat.Tk
