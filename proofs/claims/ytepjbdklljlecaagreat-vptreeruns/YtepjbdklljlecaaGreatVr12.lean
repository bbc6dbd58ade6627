import Derived.Test.YtepjbdklljlecaaGreatVr11
import Derived.BigQuiet
namespace Go.Proofs.YtepjbdklljlecaaGreat.Tk
open Go.RowKit Go.Sort
set_option maxHeartbeats 1000000
attribute [local go_sem ↓] Go.wp_at_zero Go.wp_at_succ
theorem new_lo (k:Int) (hk:k < 1) (w:World):Calls Tryz.prog 40 #[.int .i64 k] w fun e w'=>e=.returned (.tuple #[.pointer none,.int .i64 1])/\w'=w:=by
 go_enter Tryz.func40,Tryz.ntmps40
 go_wp2
 go_ret2
 exact ⟨rfl,rfl⟩
theorem new_hi (k:Int) (hk:64 < k) (w:World):Calls Tryz.prog 40 #[.int .i64 k] w fun e w'=>e=.returned (.tuple #[.pointer none,.int .i64 1])/\w'=w:=by
 have h0:¬ k < 1:=by omega
 go_enter Tryz.func40,Tryz.ntmps40
 go_wp2
 go_ret2
 exact ⟨rfl,rfl⟩
theorem new_ok (k:Int) (h1:1<=k) (h2:k<=64) (w:World):Calls Tryz.prog 40 #[.int .i64 k] w fun e w'=>e=.returned (.tuple #[.pointer (some ⟨w.heap.size,0,none⟩),.int .i64 0])/\w'=w.alloc (.cells #[.int .i64 k,.slice none 0 0] 113):=by
 have h0:¬ k < 1:=by omega
 have h3:¬ 64 < k:=by omega
 go_enter Tryz.func40,Tryz.ntmps40
 go_wp2
 go_ret2
 exact ⟨rfl,rfl⟩
theorem new_hp (k:Int) (w:World):Hp (w.alloc (.cells #[.int .i64 k,.slice none 0 0] 113)) w.heap.size k (.slice none 0 0) #[] :=
 ⟨heap_alloc_new w _,own_nil _,by simp [Value.ownBlock]⟩
theorem Hp.form {w:World} {hb:Nat} {k:Int} {v:Value} {d:Array Ht} (h:Hp w hb k v d):∃ a cap,v=.slice a d.size cap:=by
 rcases h.own.2 with ⟨rfl,h0⟩ | ⟨g,cap,cur,rfl,_⟩
 ·exact ⟨none,0,by rw [h0]⟩
 ·exact ⟨_,_,rfl⟩
theorem len17 {w:World} {hb:Nat} {k:Int} {v:Value} {d:Array Ht} (h:Hp w hb k v d):Calls Tryz.prog 152 #[.pointer (some ⟨hb,0,none⟩)] w fun e w'=>e=.returned (.int .i64 (d.size:Nat))/\w'=w:=by
 have c1:=h.cell1
 obtain ⟨a,cap,rfl⟩:=h.form
 clear h
 generalize d.size=n at c1 ⊢
 go_enter Tryz.func152,Tryz.ntmps152
 go_wp2
 go_ret
 exact ⟨rfl,rfl⟩
theorem worst15_none (p:Value) (w:World) (hl:∀ W,Gr w W->Calls Tryz.prog 152 #[p] W fun e w'=>e=.returned (.int .i64 0)/\w'=W) :
  Calls Tryz.prog 104 #[p] w fun e w'=>e=.returned (.tuple #[hv ⟨0,0,0⟩,.bool false])/\Gr w w':=by
 go_enter Tryz.func104,Tryz.ntmps104
 go_wp2_with fail
 refine (hl _ (by go_grown)).mono ?_
 rintro e w' ⟨rfl,rfl⟩
 clear hl
 go_wp2
 refine bodyPost_ret (v:=.tuple #[hv ⟨0,0,0⟩,.bool false]) (by simp [results,Tryz.results104,go_sem]) rfl ?_
 exact ⟨rfl,by go_grown⟩
theorem worst15 {w:World} {hb:Nat} {k:Int} {v:Value} {d:Array Ht} (h:Hp w hb k v d) (hd:0 < d.size) (hn:d.size<=4000):Calls Tryz.prog 104 #[.pointer (some ⟨hb,0,none⟩)] w fun e w'=>e=.returned (.tuple #[hv d[0]!,.bool true])/\Gr w w':=by
 obtain ⟨g,cap,cur,rfl,_⟩:=own_form h.own hd
 have hA:Hid (Hp (w.alloc (.cells #[.int .i64 0,.int .u64 0,.int .u64 0] 68)) hb k (.slice (some ⟨g,0,none⟩) d.size cap) d):=h.gr (by go_grown)
 have hl:=len17 hA.out
 have c1:=hA.out.cell1
 have cc:=own_cell hA.out.own hd
 rw [Nat.zero_mul] at cc
 obtain ⟨x0,x1,x2⟩:=cc
 generalize d[0]! = x at *
 obtain ⟨n,hN⟩:∃ n,n=d.size:=⟨_,rfl⟩
 rw [<- hN] at *
 clear h hN hA
 go_enter Tryz.func104,Tryz.ntmps104
 go_wp2_with fail
 refine hl.mono ?_
 rintro e w' ⟨rfl,rfl⟩
 clear hl
 go_wp2
 refine bodyPost_ret (v:=.tuple #[hv x,.bool true]) (by simp [results,Tryz.results104,go_sem]) rfl ?_
 exact ⟨rfl,by go_grown⟩
end Go.Proofs.YtepjbdklljlecaaGreat.Tk

namespace Go.Proofs.YtepjbdklljlecaaGreat.Tk
open Go.RowKit Go.Sort
set_option maxRecDepth 100000
set_option maxHeartbeats 2000000
attribute [local go_sem ↓] Go.wp_at_zero Go.wp_at_succ
theorem Hp.heap {w w':World} {hb:Nat} {k:Int} {v:Value} {d:Array Ht} (h:Hp w hb k v d) (e:w'.heap=w.heap):Hp w' hb k v d :=
 ⟨by rw [e];exact h.blk,by have:=h.own;unfold Own World.ownsRow at *;rw [e];exact this,h.ne⟩
theorem More.before {w w0 w':World} {hb:Nat} {k:Int} {v:Value} {d:Array Ht} {x:Ht} (G:Gr w w0) (h:More w0 w' hb k v d x):More w w' hb k v d x:=by
 obtain ⟨g,cap,d',h1,h2,h3,h4,h5⟩:=h
 refine ⟨g,cap,d',h1,h2,h3,(Kp.of_gr G).trans h4,?_⟩
 rcases h5 with h5 | h5
 ·exact .inl h5
 ·exact .inr (Nat.le_trans G.size h5)
theorem offer_more {w:World} {hb:Nat} {k:Int} {v:Value} {d:Array Ht} (h:Hp w hb k v d) (hm:MaxH d) (hk:(d.size:Int) < k) (hn:d.size<=3000) (x:Ht) :
  Calls Tryz.prog 81 #[.pointer (some ⟨hb,0,none⟩),hv x] w fun e w'=>e=.returned (.bool true)/\More w w' hb k v d x:=by
 have G:Gr w (w.alloc (.cells #[.int .i64 x.id,.int .u64 x.hi,.int .u64 x.lo] 68)):=by go_grown
 have hA:Hid (Hp (w.alloc (.cells #[.int .i64 x.id,.int .u64 x.hi,.int .u64 x.lo] 68)) hb k v d/\MaxH d/\d.size<=3000/\Hp w hb k v d):=⟨h.gr G,hm,hn,h⟩
 have c0:=hA.out.1.cell0
 have c1:=hA.out.1.cell1
 obtain ⟨a,cap,rfl⟩:=h.form
 obtain ⟨n,hN⟩:∃ n,n=d.size:=⟨_,rfl⟩
 have N:Hid (n=d.size):=hN
 rw [<- hN] at c1 hk
 clear h hm hn hN
 go_enter Tryz.func81,Tryz.ntmps81
 go_wp2
 go_quiet (fail)
 go_wp2
 go_region_with (go_at_call 114;refine (push25 (hA.out.1.heap (by rfl)) hA.out.2.1 hA.out.2.2.1 x).mono ?_;rintro e w' ⟨rfl,hM⟩)
 all_goals
  have M:Hid (More w w' hb k (.slice a d.size cap) d x):=More.before (G.trans (below_drewN (Below.refl _ _) _)) hM
  clear hM
  go_wp2
  go_ret
  exact ⟨rfl,M.out⟩
def Repl (w w':World) (hb:Nat) (k:Int) (v:Value) (d:Array Ht) (x:Ht):Prop :=
 ∃ d',d'.toList.Perm (d.setIfInBounds 0 x).toList/\MaxH d'/\Hp w' hb k v d'/\Kp (fun b=>b=hb ∨ some b=v.ownBlock) w w'
theorem flat_set (d:Array Ht) (x:Ht) (hd:0 < d.size):setMany (flatK enc 3 d) 0 (enc x)=flatK enc 3 (d.setIfInBounds 0 x):=by
 refine ext_get! (by simp) fun t ht=>?_
 have ht':t < d.size * 3:=by simpa using ht
 rw [get_setMany _ _ _ t (by simpa using ht'),get_flatK _ _ _ t ht',get_flatK _ _ _ t (by simpa using ht'),enc_len]
 by_cases h:t < 3
 ·rw [if_pos (by omega),show t / 3=0 by omega,getElem!_set_same d 0 x hd,show t % 3=t by omega,Nat.sub_zero]
 ·rw [if_neg (by omega),getElem!_set_other d 0 _ x (by omega)]
theorem store_first {w:World} {g n cap:Nat} {d:Array Ht} (h:Own w (.slice (some ⟨g,0,none⟩) n cap) d) (x:Ht) (hd:0 < d.size) :
  ((w.setCell ⟨g,0,none⟩ (.int .i64 x.id)).setCell ⟨g,1,none⟩ (.int .u64 x.hi)).setCell ⟨g,2,none⟩ (.int .u64 x.lo)=putRowK enc 3 (Sort.ahead w 0) g 0 (d.setIfInBounds 0 x):=by
 have h1:=setCells_putRow w g 0 (enc x) 0 (flatK enc 3 d) (by rw [enc_len,size_flatK];omega)
 rw [putRow_self id w g 0 _ (own_holds h),flat_set d x hd] at h1
 exact h1
theorem offer_repl {w:World} {hb:Nat} {k:Int} {v:Value} {d:Array Ht} (h:Hp w hb k v d) (hm:MaxH d) (hk:(d.size:Int)=k) (hn:d.size<=3000) (hd:0 < d.size) (x:Ht) (hx:hlt x d[0]! = true) :
  Calls Tryz.prog 81 #[.pointer (some ⟨hb,0,none⟩),hv x] w fun e w'=>e=.returned (.bool true)/\Repl w w' hb k v d x:=by
 subst hk
 obtain ⟨g,cap,cur,rfl,_⟩:=own_form h.own hd
 have G:Gr w (w.alloc (.cells #[.int .i64 x.id,.int .u64 x.hi,.int .u64 x.lo] 68)):=by go_grown
 have hA:Hid (Hp (w.alloc (.cells #[.int .i64 x.id,.int .u64 x.hi,.int .u64 x.lo] 68)) hb (d.size:Nat) (.slice (some ⟨g,0,none⟩) d.size cap) d/\MaxH d/\d.size<=3000/\0 < d.size/\hlt x d[0]! = true):=⟨h.gr G,hm,hn,hd,hx⟩
 have c0:=hA.out.1.cell0
 have c1:=hA.out.1.cell1
 obtain ⟨n,hN⟩:∃ n,n=d.size:=⟨_,rfl⟩
 have N:Hid (n=d.size):=hN
 rw [<- hN] at c1 c0 hn hd
 clear h hm hN hx
 go_enter Tryz.func81,Tryz.ntmps81
 go_wp2
 go_quiet (fail)
 clear c0 c1
 go_wp2_with fail
 refine (worst15 (hA.out.1.heap (by rfl)) hA.out.2.2.2.1 (by have:=hA.out.2.2.1;omega)).mono ?_
 rintro e w1 ⟨rfl,g1⟩
 have b0:w1.cell? ⟨w.heap.size,0,none⟩=some (.int .i64 x.id):=gr_keeps g1 (by simp [go_sem])
 have b1:w1.cell? ⟨w.heap.size,1,none⟩=some (.int .u64 x.hi):=gr_keeps g1 (by simp [go_sem])
 have b2:w1.cell? ⟨w.heap.size,2,none⟩=some (.int .u64 x.lo):=gr_keeps g1 (by simp [go_sem])
 have G1:Gr w w1:=gr_trans (G.trans (below_drewN (Below.refl _ _) _)) g1
 have hB:Hid (Hp w1 hb (d.size:Nat) (.slice (some ⟨g,0,none⟩) d.size cap) d):=(hA.out.1.heap (by rfl)).gr g1
 obtain ⟨y,hy⟩:∃ y,y=d[0]! := ⟨_,rfl⟩
 have Y:Hid (y=d[0]!):=hy
 rw [<- hy]
 clear hy g1 G
 have hl:=fun W=>less_c x y W
 rw [show hlt x y=true by rw [Y.out];exact hA.out.2.2.2.2] at hl
 replace b0:=alloc_keeps b0 (.cells #[.int .i64 y.id,.int .u64 y.hi,.int .u64 y.lo] 68)
 replace b1:=alloc_keeps b1 (.cells #[.int .i64 y.id,.int .u64 y.hi,.int .u64 y.lo] 68)
 replace b2:=alloc_keeps b2 (.cells #[.int .i64 y.id,.int .u64 y.hi,.int .u64 y.lo] 68)
 go_wp2_with fail
 refine (hl _).mono ?_
 rintro e w2 ⟨rfl,g2⟩
 have G2:Gr w w2:=gr_trans (gr_alloc G1 _) g2.gr
 have hC:Hid (Hp w2 hb (d.size:Nat) (.slice (some ⟨g,0,none⟩) d.size cap) d):=(hB.out.gr (gr_alloc (Below.refl _ _) _)).gr g2.gr
 replace b0:=gr_keeps g2.gr b0
 replace b1:=gr_keeps g2.gr b1
 replace b2:=gr_keeps g2.gr b2
 have c1:=hC.out.cell1
 have cc:=own_cell hC.out.own hA.out.2.2.2.1
 rw [Nat.zero_mul] at cc
 obtain ⟨x0,x1,x2⟩:=cc
 have f0:=own_froz hC.out.own 0
 have f1:=own_froz hC.out.own 1
 have f2:=own_froz hC.out.own 2
 rw [<- N.out] at c1
 clear g2 G1 hB hl
 go_wp2
 go_region
 have hw:=store_first hC.out.own x hA.out.2.2.2.1
 rw [hw]
 have hD:Hid (Hp (putRowK enc 3 (Sort.ahead w2 0) g 0 (d.setIfInBounds 0 x)).drew hb (d.size:Nat) (.slice (some ⟨g,0,none⟩) d.size cap) (d.setIfInBounds 0 x)/\Kp (fun b=>b=g) w2 (putRowK enc 3 (Sort.ahead w2 0) g 0 (d.setIfInBounds 0 x)).drew):=by
  have K0:=Kp.put (g:=g) (m:=0) w2 (d.setIfInBounds 0 x)
  refine ⟨⟨?_,own_put hC.out.own 0 _ (by simp),hC.out.ne⟩,⟨K0.os,K0.tape,K0.output,K0.size,K0.block⟩⟩
  show (putRowK enc 3 (Sort.ahead w2 0) g 0 (d.setIfInBounds 0 x)).heap[hb]? = _
  rw [K0.block hb hC.out.lt (by have:=hC.out.ne;simp [Value.ownBlock] at this;omega)]
  exact hC.out.blk
 clear hw b0 b1 b2 c1 x0 x1 x2 f0 f1 f2
 generalize (putRowK enc 3 (Sort.ahead w2 0) g 0 (d.setIfInBounds 0 x)).drew=w3 at *
 have hf:=fix26 hD.out.1 (by simp) (by have:=hA.out.2.2.1;omega) hA.out.2.2.2.1 (down_set hA.out.2.1 x)
 go_wp2_with fail
 refine hf.mono ?_
 rintro e w4 ⟨rfl,d',p1,p2,p3,p4⟩
 have Z:Hid (Repl w w4 hb (d.size:Nat) (.slice (some ⟨g,0,none⟩) d.size cap) d x) :=
  ⟨d',p1,p2,p3,((Kp.of_gr G2).trans' hD.out.2 (fun i _ e=>.inr (by rw [e];rfl))).trans' p4 (fun i _ e=>.inr (by rw [e];rfl))⟩
 clear p1 p2 p3 p4 hf
 go_wp2
 go_ret
 exact ⟨rfl,Z.out⟩
theorem offer_no {w:World} {hb:Nat} {k:Int} {v:Value} {d:Array Ht} (h:Hp w hb k v d) (hk:(d.size:Int)=k) (hn:d.size<=3000) (hd:0 < d.size) (x:Ht) (hx:hlt x d[0]! = false) :
  Calls Tryz.prog 81 #[.pointer (some ⟨hb,0,none⟩),hv x] w fun e w'=>e=.returned (.bool false)/\Gr w w':=by
 subst hk
 obtain ⟨g,cap,cur,rfl,_⟩:=own_form h.own hd
 have G:Gr w (w.alloc (.cells #[.int .i64 x.id,.int .u64 x.hi,.int .u64 x.lo] 68)):=by go_grown
 have hA:Hid (Hp (w.alloc (.cells #[.int .i64 x.id,.int .u64 x.hi,.int .u64 x.lo] 68)) hb (d.size:Nat) (.slice (some ⟨g,0,none⟩) d.size cap) d/\d.size<=3000/\0 < d.size/\hlt x d[0]! = false):=⟨h.gr G,hn,hd,hx⟩
 have c0:=hA.out.1.cell0
 have c1:=hA.out.1.cell1
 obtain ⟨n,hN⟩:∃ n,n=d.size:=⟨_,rfl⟩
 rw [<- hN] at c1 c0 hn hd
 clear h hN hx
 go_enter Tryz.func81,Tryz.ntmps81
 go_wp2
 go_quiet (fail)
 clear c0 c1
 go_wp2_with fail
 refine (worst15 (hA.out.1.heap (by rfl)) hA.out.2.2.1 (by have:=hA.out.2.1;omega)).mono ?_
 rintro e w1 ⟨rfl,g1⟩
 have b0:w1.cell? ⟨w.heap.size,0,none⟩=some (.int .i64 x.id):=gr_keeps g1 (by simp [go_sem])
 have b1:w1.cell? ⟨w.heap.size,1,none⟩=some (.int .u64 x.hi):=gr_keeps g1 (by simp [go_sem])
 have b2:w1.cell? ⟨w.heap.size,2,none⟩=some (.int .u64 x.lo):=gr_keeps g1 (by simp [go_sem])
 have G1:Gr w w1:=gr_trans (G.trans (below_drewN (Below.refl _ _) _)) g1
 obtain ⟨y,hy⟩:∃ y,y=d[0]! := ⟨_,rfl⟩
 have Y:Hid (y=d[0]!):=hy
 rw [<- hy]
 clear hy g1 G
 have hl:=fun W=>less_c x y W
 rw [show hlt x y=false by rw [Y.out];exact hA.out.2.2.2] at hl
 replace b0:=alloc_keeps b0 (.cells #[.int .i64 y.id,.int .u64 y.hi,.int .u64 y.lo] 68)
 replace b1:=alloc_keeps b1 (.cells #[.int .i64 y.id,.int .u64 y.hi,.int .u64 y.lo] 68)
 replace b2:=alloc_keeps b2 (.cells #[.int .i64 y.id,.int .u64 y.hi,.int .u64 y.lo] 68)
 go_wp2_with fail
 refine (hl _).mono ?_
 rintro e w2 ⟨rfl,g2⟩
 have G2:Gr w w2:=gr_trans (gr_alloc G1 _) g2.gr
 clear g2 G1 hl b0 b1 b2
 go_wp2
 go_ret
 exact ⟨rfl,G2⟩
end Go.Proofs.YtepjbdklljlecaaGreat.Tk
