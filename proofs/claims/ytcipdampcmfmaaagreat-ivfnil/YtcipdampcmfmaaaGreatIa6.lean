import Derived.Test.YtcipdampcmfmaaaGreatIa5
import Derived.BigQuiet
import Derived.Shelf.SlSortCmp.NoneTotal
import Derived.Shelf.SlicesE.Clone
import Derived.Shelf.SlGeneric
import Derived.Shelf.Lay
import Derived.Ground.SlsfProg
import Derived.Ground.SlgnProg
import Derived.Test.YtcipdampcmfmaaaGreatProg
import Derived.WalkKit
import Derived.WalkSpells
import Derived.WalkLawsBesides
import Derived.RowKit3
import Derived.WalkSmall
import Derived.Deep.RegionHeld3
namespace Go.Proofs.YtcipdampcmfmaaaGreat.Tk
open Go.RowKit Go.Sort
set_option maxRecDepth 100000
set_option maxHeartbeats 2000000
theorem Kp.trans' {S T:Nat->Prop} {a b c:World} (h:Kp S a b) (k:Kp T b c) (hT:∀ i,i < a.heap.size->T i->S i):Kp S a c :=
 ⟨k.os.trans h.os,k.tape.trans h.tape,k.output.trans h.output,Nat.le_trans h.size k.size,fun i hi hn=>(k.block i (Nat.lt_of_lt_of_le hi h.size) (fun t=>hn (hT i hi t))).trans (h.block i hi hn)⟩
def More (w w':World) (hb:Nat) (k:Int) (v:Value) (d:Array Ht) (x:Ht):Prop :=
 ∃ g cap d',d'.toList.Perm (d.toList ++ [x])/\MaxH d'/\Hp w' hb k (.slice (some ⟨g,0,none⟩) (d.size + 1) cap) d'/\Kp (fun b=>b=hb ∨ some b=v.ownBlock) w w'/\(v.ownBlock=some g ∨ w.heap.size<=g)
theorem push25 {w:World} {hb:Nat} {k:Int} {v:Value} {d:Array Ht} (h:Hp w hb k v d) (hm:MaxH d) (hn:d.size<=3000) (x:Ht) :
  Calls Tryz.prog 113 #[.iface 164 (.pointer (some ⟨hb,1,none⟩)),.iface 81 (hv x)] w fun e w'=>e=.returned (.tuple #[])/\More w w' hb k v d x:=by
 have H:Hid (Hp w hb k v d/\MaxH d):=⟨h,hm⟩
 have hp:=push75 h (by omega) x
 have hi:=inv_push hb w
 obtain ⟨n,hN⟩:∃ n,n=d.size:=⟨_,rfl⟩
 have N:Hid (n=d.size):=hN
 rw [<- hN] at hn
 clear h hm hN
 go_enter Tryz.func113,Tryz.ntmps113
 go_wp2_with fail
 refine hp.mono ?_
 rintro e w1 ⟨rfl,g,cap,h1,k1,hg⟩
 have hu:=up_push H.out.2 x
 have e1:=N.out
 have X:Hid (Hp w1 hb k (.slice (some ⟨g,0,none⟩) (n + 1) cap) (d.push x)/\UpInv (d.push x) n/\(d.push x).size=n + 1):=⟨by rw [e1];exact h1,by rw [e1];exact hu,by rw [Array.size_push,e1]⟩
 have K1:Hid (Kp (fun b=>b=hb ∨ some b=v.ownBlock) w w1/\(v.ownBlock=some g ∨ w.heap.size<=g)):=⟨k1,hg⟩
 clear hp hi h1 k1 hg hu e1
 have hi:=inv_len hb _ w1 X.out.1.cell1
 go_wp2_with fail
 refine (len72 _ _ _ _).mono ?_
 rintro e w2 ⟨rfl,e2⟩
 subst e2
 have e3:((n + 1:Nat):Int) - 1=(n:Int):=by omega
 clear hi
 go_wp2_with fail
 refine (up_c X.out.1 X.out.2.2 (by omega) n (by omega) X.out.2.1).mono ?_
 rintro e w3 ⟨rfl,d',p1,p2,p3,p4⟩
 have Y:Hid (d'.toList.Perm (d.push x).toList/\MaxH d'/\Hp w3 hb k (.slice (some ⟨g,0,none⟩) (n + 1) cap) d'/\Kp (fun b=>b=g) w2 w3):=⟨p1,p2,p3,p4⟩
 clear p1 p2 p3 p4
 go_wp2
 go_end0
 obtain ⟨p1,p2,p3,p4⟩:=Y.out
 obtain ⟨k1,hg⟩:=K1.out
 refine ⟨rfl,g,cap,d',by simpa using p1,p2,by rw [<- N.out];exact p3,k1.trans' p4 ?_,hg⟩
 rintro i hi rfl
 rcases hg with hg | hg
 ·exact .inr hg.symm
 ·omega
theorem fix26 {w:World} {hb g n cap:Nat} {k:Int} {d:Array Ht} (h:Hp w hb k (.slice (some ⟨g,0,none⟩) n cap) d) (hs:d.size=n) (hn:n<=4000) (hn0:0 < n) (hu:DownInv d 0) :
  Calls Tryz.prog 115 #[.iface 164 (.pointer (some ⟨hb,1,none⟩)),.int .i64 0] w fun e w'=>e=.returned (.tuple #[])/\Fixed w w' hb g n cap k d:=by
 have H:Hid (Hp w hb k (.slice (some ⟨g,0,none⟩) n cap) d/\DownInv d 0/\d.size=n):=⟨h,hu,hs⟩
 have hi:=inv_len hb _ w h.cell1
 clear h hs hu
 go_enter Tryz.func115,Tryz.ntmps115
 go_wp2_with fail
 refine (len72 _ _ _ _).mono ?_
 rintro e w2 ⟨rfl,e2⟩
 subst e2
 clear hi
 go_wp2_with fail
 refine (down_c H.out.1 H.out.2.2 hn 0 hn0 H.out.2.1).mono ?_
 rintro e w3 ⟨⟨b,rfl⟩,d',p1,p2,p3,p4⟩
 have Y:Hid (d'.toList.Perm d.toList/\MaxH d'/\Hp w3 hb k (.slice (some ⟨g,0,none⟩) n cap) d'/\Kp (fun b=>b=g) w2 w3):=⟨p1,p2,p3,p4⟩
 clear p1 p2 p3 p4
 cases b with
 | true =>
  go_wp2
  go_end0
  exact ⟨rfl,d',Y.out⟩
 | false =>
  go_wp2_with fail
  refine (up_c (d:=d') Y.out.2.2.1 (by have:=Y.out.1.length_eq;have:=H.out.2.2;simp at *;omega) hn 0 hn0 ⟨fun i h0 h1 _=>Y.out.2.1 i h0 h1,fun _ _ _ _ h0=>absurd h0 (Nat.lt_irrefl _)⟩).mono ?_
  rintro e w4 ⟨rfl,d'',p1,p2,p3,p4⟩
  have Y2:Hid (d''.toList.Perm d'.toList/\MaxH d''/\Hp w4 hb k (.slice (some ⟨g,0,none⟩) n cap) d''/\Kp (fun b=>b=g) w3 w4):=⟨p1,p2,p3,p4⟩
  clear p1 p2 p3 p4
  go_wp2
  go_end0
  exact ⟨rfl,d'',Y2.out.1.trans Y.out.1,Y2.out.2.1,Y2.out.2.2.1,Y.out.2.2.2.trans Y2.out.2.2.2⟩
end Go.Proofs.YtcipdampcmfmaaaGreat.Tk

namespace Go.Proofs.YtcipdampcmfmaaaGreat.Tk
open Go.RowKit Go.Sort
set_option maxHeartbeats 1000000
attribute [local go_sem ↓] Go.wp_at_zero Go.wp_at_succ
theorem new_lo (k:Int) (hk:k < 1) (w:World):Calls Tryz.prog 46 #[.int .i64 k] w fun e w'=>e=.returned (.tuple #[.pointer none,.int .i64 1])/\w'=w:=by
 go_enter Tryz.func46,Tryz.ntmps46
 go_wp2
 go_ret2
 exact ⟨rfl,rfl⟩
theorem new_hi (k:Int) (hk:64 < k) (w:World):Calls Tryz.prog 46 #[.int .i64 k] w fun e w'=>e=.returned (.tuple #[.pointer none,.int .i64 1])/\w'=w:=by
 have h0:¬ k < 1:=by omega
 go_enter Tryz.func46,Tryz.ntmps46
 go_wp2
 go_ret2
 exact ⟨rfl,rfl⟩
theorem new_ok (k:Int) (h1:1<=k) (h2:k<=64) (w:World):Calls Tryz.prog 46 #[.int .i64 k] w fun e w'=>e=.returned (.tuple #[.pointer (some ⟨w.heap.size,0,none⟩),.int .i64 0])/\w'=w.alloc (.cells #[.int .i64 k,.slice none 0 0] 122):=by
 have h0:¬ k < 1:=by omega
 have h3:¬ 64 < k:=by omega
 go_enter Tryz.func46,Tryz.ntmps46
 go_wp2
 go_ret2
 exact ⟨rfl,rfl⟩
theorem new_hp (k:Int) (w:World):Hp (w.alloc (.cells #[.int .i64 k,.slice none 0 0] 122)) w.heap.size k (.slice none 0 0) #[] :=
 ⟨heap_alloc_new w _,own_nil _,by simp [Value.ownBlock]⟩
theorem Hp.form {w:World} {hb:Nat} {k:Int} {v:Value} {d:Array Ht} (h:Hp w hb k v d):∃ a cap,v=.slice a d.size cap:=by
 rcases h.own.2 with ⟨rfl,h0⟩ | ⟨g,cap,cur,rfl,_⟩
 ·exact ⟨none,0,by rw [h0]⟩
 ·exact ⟨_,_,rfl⟩
theorem len17 {w:World} {hb:Nat} {k:Int} {v:Value} {d:Array Ht} (h:Hp w hb k v d):Calls Tryz.prog 155 #[.pointer (some ⟨hb,0,none⟩)] w fun e w'=>e=.returned (.int .i64 (d.size:Nat))/\w'=w:=by
 have c1:=h.cell1
 obtain ⟨a,cap,rfl⟩:=h.form
 clear h
 generalize d.size=n at c1 ⊢
 go_enter Tryz.func155,Tryz.ntmps155
 go_wp2
 go_ret
 exact ⟨rfl,rfl⟩
theorem worst15_none (p:Value) (w:World) (hl:∀ W,Gr w W->Calls Tryz.prog 155 #[p] W fun e w'=>e=.returned (.int .i64 0)/\w'=W) :
  Calls Tryz.prog 105 #[p] w fun e w'=>e=.returned (.tuple #[hv ⟨0,0,0⟩,.bool false])/\Gr w w':=by
 go_enter Tryz.func105,Tryz.ntmps105
 go_wp2_with fail
 refine (hl _ (by go_grown)).mono ?_
 rintro e w' ⟨rfl,rfl⟩
 clear hl
 go_wp2
 refine bodyPost_ret (v:=.tuple #[hv ⟨0,0,0⟩,.bool false]) (by simp [results,Tryz.results105,go_sem]) rfl ?_
 exact ⟨rfl,by go_grown⟩
theorem worst15 {w:World} {hb:Nat} {k:Int} {v:Value} {d:Array Ht} (h:Hp w hb k v d) (hd:0 < d.size) (hn:d.size<=4000):Calls Tryz.prog 105 #[.pointer (some ⟨hb,0,none⟩)] w fun e w'=>e=.returned (.tuple #[hv d[0]!,.bool true])/\Gr w w':=by
 obtain ⟨g,cap,cur,rfl,_⟩:=own_form h.own hd
 have hA:Hid (Hp (w.alloc (.cells #[.int .i64 0,.int .u64 0,.int .u64 0] 81)) hb k (.slice (some ⟨g,0,none⟩) d.size cap) d):=h.gr (by go_grown)
 have hl:=len17 hA.out
 have c1:=hA.out.cell1
 have cc:=own_cell hA.out.own hd
 rw [Nat.zero_mul] at cc
 obtain ⟨x0,x1,x2⟩:=cc
 generalize d[0]! = x at *
 obtain ⟨n,hN⟩:∃ n,n=d.size:=⟨_,rfl⟩
 rw [<- hN] at *
 clear h hN hA
 go_enter Tryz.func105,Tryz.ntmps105
 go_wp2_with fail
 refine hl.mono ?_
 rintro e w' ⟨rfl,rfl⟩
 clear hl
 go_wp2
 refine bodyPost_ret (v:=.tuple #[hv x,.bool true]) (by simp [results,Tryz.results105,go_sem]) rfl ?_
 exact ⟨rfl,by go_grown⟩
end Go.Proofs.YtcipdampcmfmaaaGreat.Tk

namespace Go.Proofs.YtcipdampcmfmaaaGreat.Tk
open Go.RowKit Go.Sort
set_option maxRecDepth 100000
set_option maxHeartbeats 2000000
attribute [local go_sem ↓] Go.wp_at_zero Go.wp_at_succ
theorem Hp.heap {w w':World} {hb:Nat} {k:Int} {v:Value} {d:Array Ht} (h:Hp w hb k v d) (e:w'.heap=w.heap):Hp w' hb k v d :=
 ⟨by rw [e];exact h.blk,by have:=h.own;unfold Own World.ownsRow at *;rw [e];exact this,h.ne⟩
theorem More.before {w w0 w':World} {hb:Nat} {k:Int} {v:Value} {d:Array Ht} {x:Ht} (G:Gr w w0) (h:More w0 w' hb k v d x):More w w' hb k v d x:=by
 obtain ⟨g,cap,d',h1,h2,h3,h4,h5⟩:=h
 refine ⟨g,cap,d',h1,h2,h3,(Kp.of_gr G).trans h4,?_⟩
 rcases h5 with h5 | h5
 ·exact .inl h5
 ·exact .inr (Nat.le_trans G.size h5)
theorem offer_more {w:World} {hb:Nat} {k:Int} {v:Value} {d:Array Ht} (h:Hp w hb k v d) (hm:MaxH d) (hk:(d.size:Int) < k) (hn:d.size<=3000) (x:Ht) :
  Calls Tryz.prog 83 #[.pointer (some ⟨hb,0,none⟩),hv x] w fun e w'=>e=.returned (.bool true)/\More w w' hb k v d x:=by
 have G:Gr w (w.alloc (.cells #[.int .i64 x.id,.int .u64 x.hi,.int .u64 x.lo] 81)):=by go_grown
 have hA:Hid (Hp (w.alloc (.cells #[.int .i64 x.id,.int .u64 x.hi,.int .u64 x.lo] 81)) hb k v d/\MaxH d/\d.size<=3000/\Hp w hb k v d):=⟨h.gr G,hm,hn,h⟩
 have c0:=hA.out.1.cell0
 have c1:=hA.out.1.cell1
 obtain ⟨a,cap,rfl⟩:=h.form
 obtain ⟨n,hN⟩:∃ n,n=d.size:=⟨_,rfl⟩
 have N:Hid (n=d.size):=hN
 rw [<- hN] at c1 hk
 clear h hm hn hN
 go_enter Tryz.func83,Tryz.ntmps83
 go_wp2
 go_quiet (fail)
 go_wp2
 go_region_with (go_at_call 113;refine (push25 (hA.out.1.heap (by rfl)) hA.out.2.1 hA.out.2.2.1 x).mono ?_;rintro e w' ⟨rfl,hM⟩)
 all_goals
  have M:Hid (More w w' hb k (.slice a d.size cap) d x):=More.before (G.trans (below_drewN (Below.refl _ _) _)) hM
  clear hM
  go_wp2
  go_ret
  exact ⟨rfl,M.out⟩
def Repl (w w':World) (hb:Nat) (k:Int) (v:Value) (d:Array Ht) (x:Ht):Prop :=
 ∃ d',d'.toList.Perm (d.setIfInBounds 0 x).toList/\MaxH d'/\Hp w' hb k v d'/\Kp (fun b=>b=hb ∨ some b=v.ownBlock) w w'
theorem flat_set (d:Array Ht) (x:Ht) (hd:0 < d.size):setMany (flatK enc 3 d) 0 (enc x)=flatK enc 3 (d.setIfInBounds 0 x):=by
 refine ext_get! (by simp) fun t ht=>?_
 have ht':t < d.size * 3:=by simpa using ht
 rw [get_setMany _ _ _ t (by simpa using ht'),get_flatK _ _ _ t ht',get_flatK _ _ _ t (by simpa using ht'),enc_len]
 by_cases h:t < 3
 ·rw [if_pos (by omega),show t / 3=0 by omega,getElem!_set_same d 0 x hd,show t % 3=t by omega,Nat.sub_zero]
 ·rw [if_neg (by omega),getElem!_set_other d 0 _ x (by omega)]
theorem store_first {w:World} {g n cap:Nat} {d:Array Ht} (h:Own w (.slice (some ⟨g,0,none⟩) n cap) d) (x:Ht) (hd:0 < d.size) :
  ((w.setCell ⟨g,0,none⟩ (.int .i64 x.id)).setCell ⟨g,1,none⟩ (.int .u64 x.hi)).setCell ⟨g,2,none⟩ (.int .u64 x.lo)=putRowK enc 3 (Sort.ahead w 0) g 0 (d.setIfInBounds 0 x):=by
 have h1:=setCells_putRow w g 0 (enc x) 0 (flatK enc 3 d) (by rw [enc_len,size_flatK];omega)
 rw [putRow_self id w g 0 _ (own_holds h),flat_set d x hd] at h1
 exact h1
theorem offer_repl {w:World} {hb:Nat} {k:Int} {v:Value} {d:Array Ht} (h:Hp w hb k v d) (hm:MaxH d) (hk:(d.size:Int)=k) (hn:d.size<=3000) (hd:0 < d.size) (x:Ht) (hx:hlt x d[0]! = true) :
  Calls Tryz.prog 83 #[.pointer (some ⟨hb,0,none⟩),hv x] w fun e w'=>e=.returned (.bool true)/\Repl w w' hb k v d x:=by
 subst hk
 obtain ⟨g,cap,cur,rfl,_⟩:=own_form h.own hd
 have G:Gr w (w.alloc (.cells #[.int .i64 x.id,.int .u64 x.hi,.int .u64 x.lo] 81)):=by go_grown
 have hA:Hid (Hp (w.alloc (.cells #[.int .i64 x.id,.int .u64 x.hi,.int .u64 x.lo] 81)) hb (d.size:Nat) (.slice (some ⟨g,0,none⟩) d.size cap) d/\MaxH d/\d.size<=3000/\0 < d.size/\hlt x d[0]! = true):=⟨h.gr G,hm,hn,hd,hx⟩
 have c0:=hA.out.1.cell0
 have c1:=hA.out.1.cell1
 obtain ⟨n,hN⟩:∃ n,n=d.size:=⟨_,rfl⟩
 have N:Hid (n=d.size):=hN
 rw [<- hN] at c1 c0 hn hd
 clear h hm hN hx
 go_enter Tryz.func83,Tryz.ntmps83
 go_wp2
 go_quiet (fail)
 clear c0 c1
 go_wp2_with fail
 refine (worst15 (hA.out.1.heap (by rfl)) hA.out.2.2.2.1 (by have:=hA.out.2.2.1;omega)).mono ?_
 rintro e w1 ⟨rfl,g1⟩
 have b0:w1.cell? ⟨w.heap.size,0,none⟩=some (.int .i64 x.id):=gr_keeps g1 (by simp [go_sem])
 have b1:w1.cell? ⟨w.heap.size,1,none⟩=some (.int .u64 x.hi):=gr_keeps g1 (by simp [go_sem])
 have b2:w1.cell? ⟨w.heap.size,2,none⟩=some (.int .u64 x.lo):=gr_keeps g1 (by simp [go_sem])
 have G1:Gr w w1:=gr_trans (G.trans (below_drewN (Below.refl _ _) _)) g1
 have hB:Hid (Hp w1 hb (d.size:Nat) (.slice (some ⟨g,0,none⟩) d.size cap) d):=(hA.out.1.heap (by rfl)).gr g1
 obtain ⟨y,hy⟩:∃ y,y=d[0]! := ⟨_,rfl⟩
 have Y:Hid (y=d[0]!):=hy
 rw [<- hy]
 clear hy g1 G
 have hl:=fun W=>less_c x y W
 rw [show hlt x y=true by rw [Y.out];exact hA.out.2.2.2.2] at hl
 replace b0:=alloc_keeps b0 (.cells #[.int .i64 y.id,.int .u64 y.hi,.int .u64 y.lo] 81)
 replace b1:=alloc_keeps b1 (.cells #[.int .i64 y.id,.int .u64 y.hi,.int .u64 y.lo] 81)
 replace b2:=alloc_keeps b2 (.cells #[.int .i64 y.id,.int .u64 y.hi,.int .u64 y.lo] 81)
 go_wp2_with fail
 refine (hl _).mono ?_
 rintro e w2 ⟨rfl,g2⟩
 have G2:Gr w w2:=gr_trans (gr_alloc G1 _) g2.gr
 have hC:Hid (Hp w2 hb (d.size:Nat) (.slice (some ⟨g,0,none⟩) d.size cap) d):=(hB.out.gr (gr_alloc (Below.refl _ _) _)).gr g2.gr
 replace b0:=gr_keeps g2.gr b0
 replace b1:=gr_keeps g2.gr b1
 replace b2:=gr_keeps g2.gr b2
 have c1:=hC.out.cell1
 have cc:=own_cell hC.out.own hA.out.2.2.2.1
 rw [Nat.zero_mul] at cc
 obtain ⟨x0,x1,x2⟩:=cc
 have f0:=own_froz hC.out.own 0
 have f1:=own_froz hC.out.own 1
 have f2:=own_froz hC.out.own 2
 rw [<- N.out] at c1
 clear g2 G1 hB hl
 go_wp2
 go_region
 have hw:=store_first hC.out.own x hA.out.2.2.2.1
 rw [hw]
 have hD:Hid (Hp (putRowK enc 3 (Sort.ahead w2 0) g 0 (d.setIfInBounds 0 x)).drew hb (d.size:Nat) (.slice (some ⟨g,0,none⟩) d.size cap) (d.setIfInBounds 0 x)/\Kp (fun b=>b=g) w2 (putRowK enc 3 (Sort.ahead w2 0) g 0 (d.setIfInBounds 0 x)).drew):=by
  have K0:=Kp.put (g:=g) (m:=0) w2 (d.setIfInBounds 0 x)
  refine ⟨⟨?_,own_put hC.out.own 0 _ (by simp),hC.out.ne⟩,⟨K0.os,K0.tape,K0.output,K0.size,K0.block⟩⟩
  show (putRowK enc 3 (Sort.ahead w2 0) g 0 (d.setIfInBounds 0 x)).heap[hb]? = _
  rw [K0.block hb hC.out.lt (by have:=hC.out.ne;simp [Value.ownBlock] at this;omega)]
  exact hC.out.blk
 clear hw b0 b1 b2 c1 x0 x1 x2 f0 f1 f2
 generalize (putRowK enc 3 (Sort.ahead w2 0) g 0 (d.setIfInBounds 0 x)).drew=w3 at *
 have hf:=fix26 hD.out.1 (by simp) (by have:=hA.out.2.2.1;omega) hA.out.2.2.2.1 (down_set hA.out.2.1 x)
 go_wp2_with fail
 refine hf.mono ?_
 rintro e w4 ⟨rfl,d',p1,p2,p3,p4⟩
 have Z:Hid (Repl w w4 hb (d.size:Nat) (.slice (some ⟨g,0,none⟩) d.size cap) d x) :=
  ⟨d',p1,p2,p3,((Kp.of_gr G2).trans' hD.out.2 (fun i _ e=>.inr (by rw [e];rfl))).trans' p4 (fun i _ e=>.inr (by rw [e];rfl))⟩
 clear p1 p2 p3 p4 hf
 go_wp2
 go_ret
 exact ⟨rfl,Z.out⟩
theorem offer_no {w:World} {hb:Nat} {k:Int} {v:Value} {d:Array Ht} (h:Hp w hb k v d) (hk:(d.size:Int)=k) (hn:d.size<=3000) (hd:0 < d.size) (x:Ht) (hx:hlt x d[0]! = false) :
  Calls Tryz.prog 83 #[.pointer (some ⟨hb,0,none⟩),hv x] w fun e w'=>e=.returned (.bool false)/\Gr w w':=by
 subst hk
 obtain ⟨g,cap,cur,rfl,_⟩:=own_form h.own hd
 have G:Gr w (w.alloc (.cells #[.int .i64 x.id,.int .u64 x.hi,.int .u64 x.lo] 81)):=by go_grown
 have hA:Hid (Hp (w.alloc (.cells #[.int .i64 x.id,.int .u64 x.hi,.int .u64 x.lo] 81)) hb (d.size:Nat) (.slice (some ⟨g,0,none⟩) d.size cap) d/\d.size<=3000/\0 < d.size/\hlt x d[0]! = false):=⟨h.gr G,hn,hd,hx⟩
 have c0:=hA.out.1.cell0
 have c1:=hA.out.1.cell1
 obtain ⟨n,hN⟩:∃ n,n=d.size:=⟨_,rfl⟩
 rw [<- hN] at c1 c0 hn hd
 clear h hN hx
 go_enter Tryz.func83,Tryz.ntmps83
 go_wp2
 go_quiet (fail)
 clear c0 c1
 go_wp2_with fail
 refine (worst15 (hA.out.1.heap (by rfl)) hA.out.2.2.1 (by have:=hA.out.2.1;omega)).mono ?_
 rintro e w1 ⟨rfl,g1⟩
 have b0:w1.cell? ⟨w.heap.size,0,none⟩=some (.int .i64 x.id):=gr_keeps g1 (by simp [go_sem])
 have b1:w1.cell? ⟨w.heap.size,1,none⟩=some (.int .u64 x.hi):=gr_keeps g1 (by simp [go_sem])
 have b2:w1.cell? ⟨w.heap.size,2,none⟩=some (.int .u64 x.lo):=gr_keeps g1 (by simp [go_sem])
 have G1:Gr w w1:=gr_trans (G.trans (below_drewN (Below.refl _ _) _)) g1
 obtain ⟨y,hy⟩:∃ y,y=d[0]! := ⟨_,rfl⟩
 have Y:Hid (y=d[0]!):=hy
 rw [<- hy]
 clear hy g1 G
 have hl:=fun W=>less_c x y W
 rw [show hlt x y=false by rw [Y.out];exact hA.out.2.2.2] at hl
 replace b0:=alloc_keeps b0 (.cells #[.int .i64 y.id,.int .u64 y.hi,.int .u64 y.lo] 81)
 replace b1:=alloc_keeps b1 (.cells #[.int .i64 y.id,.int .u64 y.hi,.int .u64 y.lo] 81)
 replace b2:=alloc_keeps b2 (.cells #[.int .i64 y.id,.int .u64 y.hi,.int .u64 y.lo] 81)
 go_wp2_with fail
 refine (hl _).mono ?_
 rintro e w2 ⟨rfl,g2⟩
 have G2:Gr w w2:=gr_trans (gr_alloc G1 _) g2.gr
 clear g2 G1 hl b0 b1 b2
 go_wp2
 go_ret
 exact ⟨rfl,G2⟩
end Go.Proofs.YtcipdampcmfmaaaGreat.Tk

namespace Go.Proofs.YtcipdampcmfmaaaGreat.Tk
open Go.Shelf Go.RowKit Go.Lib Go.Sort
set_option maxHeartbeats 2000000
shelf_lay_g SlLaysF0.n6 Slsf 6 at Tryz 110 as Tryz.laidSort
shelf_lay_g SlLaysE0.n41 Slgn 41 at Tryz 109 as Tryz.laidClone
def srt (l:List Ht):List Ht:=l.mergeSort fun x y=>!hlt y x
theorem srt_perm (l:List Ht):(srt l).Perm l:=List.mergeSort_perm _ _
theorem srt_len (l:List Ht):(srt l).length=l.length:=(srt_perm l).length_eq
theorem swoH:SWO (ltOf cf):=⟨hlt_irrefl,fun _ _ _=>hlt_trans,fun _ _ _=>hlt_ntrans⟩
theorem cmpH (blk off size:Nat) (w:World):CmpLays Tryz.prog 111 #[] enc 3 cf blk off size w:=fun _ _ _ _ x y=>order_c x y _
theorem gr_grow (w:World) (os:Array Obj):Gr w (grow w os):=⟨rfl,rfl,rfl,by rw [size_grow];omega,fun _ hk=>heap_grow_old _ _ hk⟩
theorem clone28 {w:World} {g n cap:Nat} {d:Array Ht} (h:Own w (.slice (some ⟨g,0,none⟩) n cap) d) (hs:d.size=n) (hn:n<=4000) :
  Calls Tryz.prog 109 #[.slice (some ⟨g,0,none⟩) n cap] w fun e w'=>∃ g' cap',e=.returned (.slice (some ⟨g',0,none⟩) n cap')/\w.heap.size<=g'/\Own w' (.slice (some ⟨g',0,none⟩) n cap') d/\Gr w w':=by
 obtain ⟨i0,z0,hi0,hz0,hz1,hz2,hz3⟩:=info81
 have hc:=AnyE.slices_Clone Tryz.laidClone i0 z0 3 24 hi0 hz0 hz1 hz2 hz3 (by omega) Tryz.sizeOf81 g 0 n cap (fl d.toList) w (by rw [fl_len];simp [hs]) (by simp only [maxLen];omega) (by omega)
  (fun j u hu=>by have:=h.cells (g:=g) rfl j u hu;rwa [Addr.add_lit] at this) (fl_one_cell _)
 change Calls Tryz.prog 109 _ _ _ at hc
 refine hc.mono ?_
 rintro e w' ⟨v',rfl,ho,hv,hb⟩
 rcases ho.2 with ⟨h1,_⟩ | ⟨g',cap',cur,rfl,hb',hh,r⟩
 ·exact absurd h1 hv
 ·refine ⟨g',cap',rfl,hb',?_,hb⟩
  unfold Own
  rw [hs]
  exact ⟨ho.1,.inr ⟨g',cap',cur,rfl,Nat.zero_le _,hh,r⟩⟩
theorem clone28_nil (w:World):Calls Tryz.prog 109 #[.slice none 0 0] w fun e w'=>e=.returned (.slice none 0 0)/\w'=w:=by
 have hc:=AnyE.slices_Clone_nil Tryz.laidClone 0 0 w
 exact hc
theorem sort29 {w:World} {g n cap:Nat} {d:Array Ht} (h:Own w (.slice (some ⟨g,0,none⟩) n cap) d) (hs:d.size=n) (hn:n<=4000) :
  Calls Tryz.prog 110 #[.slice (some ⟨g,0,none⟩) n cap,.func (.func 111) #[] #[]] w fun e w'=>e=.returned (.tuple #[])/\Own w' (.slice (some ⟨g,0,none⟩) n cap) (srt d.toList).toArray/\Kp (fun b=>b=g) w w':=by
 subst hs
 have eg:∀ args w,(callFunc 111 args).run Tryz.prog w=.ok (.enter 111 args) w:=enters_of Tryz.func111 (by kernel_rfl) rfl
 have hc:=AnyQ.slices_SortFunc_total Tryz.laidSort 3 Tryz.isAgg81 Tryz.sizeOf81 enc enc_len enc_one cf swoH 111 #[] g 0 cap d w eg (cmpH g 0 d.size w) (own_holds h) (own_lt h rfl) (by omega) (fun x y h1 h2=>hlt_tot h1 h2)
 change Calls Tryz.prog 110 _ _ _ at hc
 refine hc.mono ?_
 rintro e w' ⟨rfl,q,os,rfl⟩
 have hsz:((d.toList.mergeSort fun x y=>!(ltOf cf) y x).toArray).size=d.size:=by simp
 refine ⟨rfl,?_,?_⟩
 ·exact own_gr (own_put h q _ hsz) (gr_grow _ _)
 ·exact (Kp.put w _).trans (Kp.of_gr (gr_grow _ _))
theorem sort29_nil (fv:Value) (w:World):Calls Tryz.prog 110 #[.slice none 0 0,fv] w fun e w'=>e=.returned (.tuple #[])/\w'=w:=by
 have hc:=AnyF.slices_SortFunc_none Tryz.laidSort none 0 fv w
 exact hc
def Out (w w':World) (v:Value) (l:List Ht):Prop:=Own w' v l.toArray/\Gr w w'/\∀ g,v.ownBlock=some g->w.heap.size<=g
theorem list16 {w:World} {hb:Nat} {k:Int} {v:Value} {d:Array Ht} (h:Hp w hb k v d) (hn:d.size<=4000) :
  Calls Tryz.prog 80 #[.pointer (some ⟨hb,0,none⟩)] w fun e w'=>∃ v',e=.returned v'/\Out w w' v' (srt d.toList):=by
 have c1:=h.cell1
 have H:Hid (Own w v d/\d.size<=4000):=⟨h.own,hn⟩
 rcases h.own.2 with ⟨rfl,h0⟩ | ⟨g,cap,cur,rfl,_⟩
 ·have D:Hid (d=#[]):=Array.eq_empty_of_size_eq_zero h0
  clear h hn h0
  go_enter Tryz.func80,Tryz.ntmps80
  go_wp2_with fail
  refine (clone28_nil _).mono ?_
  rintro e w' ⟨rfl,e2⟩
  subst e2
  go_wp2_with fail
  refine (sort29_nil _ _).mono ?_
  rintro e w2 ⟨rfl,e2⟩
  subst e2
  go_wp2
  go_ret
  refine ⟨.slice none 0 0,rfl,?_,Below.refl _ _,by simp [Value.ownBlock]⟩
  rw [D.out,show srt (#[]:Array Ht).toList=[] by simp [srt]]
  exact own_nil _
 ·obtain ⟨n,hN⟩:∃ n,n=d.size:=⟨_,rfl⟩
  have N:Hid (d.size=n):=hN.symm
  rw [<- hN] at c1
  have H2:Hid (Own w (.slice (some ⟨g,0,none⟩) n cap) d/\n<=4000):=by rw [hN];exact H
  clear h hn hN H
  go_enter Tryz.func80,Tryz.ntmps80
  go_wp2_with fail
  refine (clone28 H2.out.1 N.out H2.out.2).mono ?_
  rintro e w1 ⟨g',cap',rfl,hg,ho,hG⟩
  have X:Hid (Own w1 (.slice (some ⟨g',0,none⟩) n cap') d/\Gr w w1/\w.heap.size<=g'):=⟨ho,hG,hg⟩
  clear hg ho hG c1
  go_wp2_with fail
  refine (sort29 X.out.1 N.out H2.out.2).mono ?_
  rintro e w2 ⟨rfl,ho,hK⟩
  have Y:Hid (Own w2 (.slice (some ⟨g',0,none⟩) n cap') (srt d.toList).toArray/\Kp (fun b=>b=g') w1 w2):=⟨ho,hK⟩
  clear ho hK
  go_wp2
  go_ret
  refine ⟨.slice (some ⟨g',0,none⟩) n cap',rfl,Y.out.1,X.out.2.1.trans (Y.out.2.gr X.out.2.1.size (fun k e=>by rw [e];exact X.out.2.2)),?_⟩
  intro g2 e
  simp [Value.ownBlock] at e
  rw [<- e];exact X.out.2.2
end Go.Proofs.YtcipdampcmfmaaaGreat.Tk

namespace Go.Proofs.YtcipdampcmfmaaaGreat.Tk
open Go.RowKit Go.Sort
def Srtd (l:List Ht):Prop:=l.Pairwise fun x y=>hlt y x=false
theorem srt_srtd (l:List Ht):Srtd (srt l):=by
 have h:=List.pairwise_mergeSort (le:=fun x y=>!hlt y x) (fun a b c h1 h2=>by
  simp only [Bool.not_eq_true'] at *;exact hlt_ntrans h2 h1) (fun a b=>by
  cases h:hlt b a
  ·simp
  ·simp [hlt_asymm h]) l
 exact h.imp (fun h=>by simpa using h)
theorem srtd_unique:∀ (l l':List Ht),Srtd l->Srtd l'->l.Perm l'->l=l'
 | [],l',_,_,p=>(List.Perm.nil_eq p)
 | a :: r,[],_,_,p=>absurd p.length_eq (by simp)
 | a :: r,b :: r',h,h',p=>by
  have hb:b ∈ a :: r:=p.symm.subset List.mem_cons_self
  have ha:a ∈ b :: r':=p.subset List.mem_cons_self
  have e:a=b:=by
   rcases List.mem_cons.1 hb with e | hb
   ·exact e.symm
   rcases List.mem_cons.1 ha with e | ha
   ·exact e
   have h1:=List.rel_of_pairwise_cons h hb
   have h2:=List.rel_of_pairwise_cons h' ha
   exact hlt_tot h2 h1
  subst e
  rw [srtd_unique r r' (List.Pairwise.of_cons h) (List.Pairwise.of_cons h') (List.Perm.cons_inv p)]
theorem srt_of_perm {l m:List Ht} (h:Srtd m) (p:l.Perm m):srt l=m:=srtd_unique _ _ (srt_srtd l) h ((srt_perm l).trans p)
def ins (x:Ht):List Ht->List Ht
 | []=>[x]
 | y :: r=>if hlt x y=true then x :: y :: r else y :: ins x r
theorem ins_perm (x:Ht):∀ l,(ins x l).Perm (x :: l)
 | []=>List.Perm.refl _
 | y :: r=>by
  unfold ins
  split
  ·exact List.Perm.refl _
  ·exact ((ins_perm x r).cons y).trans (List.Perm.swap x y r)
theorem ins_len (x:Ht) (l:List Ht):(ins x l).length=l.length + 1:=by rw [(ins_perm x l).length_eq];rfl
theorem ins_srtd (x:Ht):∀ l,Srtd l->Srtd (ins x l)
 | [],_=>List.pairwise_singleton _ _
 | y :: r,h=>by
  unfold ins
  split
  ·rename_i hx
   refine List.Pairwise.cons ?_ h
   intro z hz
   rcases List.mem_cons.1 hz with rfl | hz
   ·exact hlt_asymm hx
   ·exact hlt_ntrans (List.rel_of_pairwise_cons h hz) (hlt_asymm hx)
  ·rename_i hx
   refine List.Pairwise.cons ?_ (ins_srtd x r (List.Pairwise.of_cons h))
   intro z hz
   rcases List.mem_cons.1 ((ins_perm x r).subset hz) with rfl | hz
   ·simpa using hx
   ·exact List.rel_of_pairwise_cons h hz
theorem srt_snoc (l:List Ht) (x:Ht):srt (l ++ [x])=ins x (srt l):=by
 refine srt_of_perm (ins_srtd x _ (srt_srtd l)) ?_
 refine List.Perm.trans ?_ (ins_perm x _).symm
 exact (List.perm_append_singleton x l).trans ((srt_perm l).symm.cons x)
def keep (k:Nat) (m:List Ht) (x:Ht):List Ht:=(ins x m).take k
def kept (k:Nat) (m:List Ht) (x:Ht):Bool:=decide (m.length < k) || hlt x m[k - 1]!
theorem take_ins (x:Ht):∀ (k:Nat) (l:List Ht),(ins x l).take k=(ins x (l.take k)).take k
 | 0,_=>by simp
 | k + 1,[]=>by simp
 | k + 1,y :: r=>by
  simp only [List.take_succ_cons]
  unfold ins
  split
  ·simp only [List.take_succ_cons]
   cases k with
   | zero=>simp
   | succ k=>simp [List.take_succ_cons,List.take_take,Nat.min_eq_left (Nat.le_succ k)]
  ·simp only [List.take_succ_cons]
   rw [take_ins x k r]
def firsts (k:Nat) (l:List Ht):List Ht:=(srt l).take k
theorem firsts_snoc (k:Nat) (l:List Ht) (x:Ht):firsts k (l ++ [x])=keep k (firsts k l) x:=by
 unfold firsts keep
 rw [srt_snoc,take_ins]
theorem firsts_nil (k:Nat):firsts k []=[]:=by simp [firsts,srt]
theorem firsts_srtd (k:Nat) (l:List Ht):Srtd (firsts k l):=(srt_srtd l).sublist (List.take_sublist k _)
theorem firsts_len (k:Nat) (l:List Ht):(firsts k l).length=min k l.length:=by simp [firsts,srt_len]
theorem firsts_perm (k:Nat) {l l':List Ht} (p:l.Perm l'):firsts k l=firsts k l':=by
 unfold firsts;rw [srt_of_perm (srt_srtd l') (p.trans (srt_perm l').symm)]
theorem keep_srtd (k:Nat) {m:List Ht} (x:Ht) (h:Srtd m):Srtd (keep k m x):=(ins_srtd x m h).sublist (List.take_sublist k _)
theorem keep_more {k:Nat} {m:List Ht} (x:Ht) (h:m.length < k):keep k m x=ins x m:=by
 unfold keep;rw [List.take_of_length_le (by rw [ins_len];omega)]
theorem last_worst {m:List Ht} (h:Srtd m) (k:Nat) (hk:m.length=k):∀ y ∈ m,hlt m[k - 1]! y=false:=by
 intro y hy
 subst hk
 obtain ⟨i,hi,rfl⟩:=List.mem_iff_getElem.1 hy
 rw [getElem!_pos m (m.length - 1) (by omega)]
 by_cases e:i=m.length - 1
 ·subst e;exact hlt_irrefl _
 ·exact List.pairwise_iff_getElem.1 h i (m.length - 1) hi (by omega) (by omega)
theorem ins_no (x:Ht):∀ (m:List Ht),(∀ y ∈ m,hlt x y=false)->ins x m=m ++ [x]
 | [],_=>rfl
 | y :: r,h=>by
  unfold ins
  rw [if_neg (by rw [h y List.mem_cons_self];simp),ins_no x r (fun z hz=>h z (List.mem_cons_of_mem _ hz))]
  rfl
theorem keep_no {k:Nat} {m:List Ht} {x:Ht} (hs:Srtd m) (h:m.length=k) (hx:hlt x m[k - 1]! = false):keep k m x=m:=by
 unfold keep
 rw [ins_no x m (fun y hy=>hlt_ntrans hx (last_worst hs k h y hy)),List.take_append_of_le_length (by omega),List.take_of_length_le (by omega)]
theorem ins_app (x:Ht) (z:Ht) (hx:hlt x z=true):∀ (m:List Ht),ins x (m ++ [z])=ins x m ++ [z]
 | []=>by simp [ins,hx]
 | y :: r=>by
  simp only [List.cons_append]
  unfold ins
  split
  ·rfl
  ·rw [ins_app x z hx r];rfl
theorem keep_repl {k:Nat} {m:List Ht} {x:Ht} (hk:0 < k) (h:m.length=k) (hx:hlt x m[k - 1]! = true):(keep k m x).Perm (x :: m.dropLast):=by
 have hne:m ≠ []:=by intro e;subst e;simp at h;omega
 obtain ⟨a,z,rfl⟩:∃ a z,m=a ++ [z]:=⟨m.dropLast,m.getLast hne,(List.dropLast_concat_getLast hne).symm⟩
 simp only [List.length_append,List.length_cons,List.length_nil] at h
 have e:(a ++ [z])[k - 1]! = z:=by
  rw [getElem!_pos (a ++ [z]) (k - 1) (by simp;omega),List.getElem_append_right (by omega)]
  simp
 rw [e] at hx
 have hl:(ins x a).length=k:=by rw [ins_len];omega
 unfold keep
 rw [ins_app x z hx,List.take_append_of_le_length (by rw [hl];exact Nat.le_refl _),List.take_of_length_le (by rw [hl];exact Nat.le_refl _),List.dropLast_concat]
 exact ins_perm x _
end Go.Proofs.YtcipdampcmfmaaaGreat.Tk

namespace Go.Proofs.YtcipdampcmfmaaaGreat
open Go.RowKit
theorem tkn {P : Program} {ops : Array Oper} {Q : Exit → Act → World → Prop} {md : Region.Mode} {S : World → Prop} (i : Nat) {oi : Oper} {fuel : Nat} {listed : Array Bool} {a : Act} {w : World} (v : Value) (hi : ops[i]? = some oi) (hy : ∀ w, S w → (execOp a.eval oi).run P w = .ok (.value v) w)
 (h : wpAnyH P md ops Q S fuel (listed.setIfInBounds i true) (a.put oi.dst v) w) (hs : Region.noSelect ops = true := by kernel_rfl) (hf : Region.free md ops listed i = true := by kernel_rfl) (hr : (Region.ready md ops listed).contains i = true := by kernel_rfl) (hQ : ∀ c a w, Q (.panic c) (a.put oi.dst v) w → Q (.panic c) a w := by exact fun _ _ _ h => h)
 (hw : Region.wanted oi (yielded ops a.tmps) = true := by rfl) (hS : S w := by assumption) : wpAnyH P md ops Q S (fuel + 1) listed a w := wpAnyH_take hi hs hf hr hQ (Or.inl ⟨hw, hy⟩) hS h
theorem rdn {P : Program} {ops : Array Oper} {Q : Exit → Act → World → Prop} {md : Region.Mode} {S : World → Prop} (i : Nat) {o : Oper} {fuel : Nat} {listed : Array Bool} {a : Act} {w : World} (ho : ops[i]? = some o)
 (h : ∀ K' : Act → World → Prop, Shut (∀ a w, S w → (S w → wpAnyH P md ops Q S fuel (listed.setIfInBounds i true) a w) → K' a w) → if Region.wanted o (yielded ops a.tmps) = true then Oper.wp P o a w K' Q else K' (a.put o.dst undef) w) (hr : Region.ready md ops listed = [i] := by kernel_rfl) : wpAnyH P md ops Q S (fuel + 1) listed a w := wpAnyH_ready hr (by simp) (AllReadyH.cons ho h AllReadyH.nil)
theorem pt : (∀ (a : Act) (d : Tmp) (v : Value), a.put (some d) v = { a with tmps := a.tmps.setIfInBounds d v }) ∧ (∀ (a : Act) (v : Value), a.put none v = a) ∧ (∀ {α : Type} (l : List α) (i : Nat) (h : i < l.toArray.size), l.toArray[i]'h = l[i]'(by simpa using h)) ∧ (∀ {α : Type} (a : α) (l : List α) (h : 0 < (a :: l).length), (a :: l)[0]'h = a) ∧ (∀ {α : Type} (a : α) (l : List α) (i : Nat) (h : i + 1 < (a :: l).length), (a :: l)[i + 1]'h = l[i]'(by simpa using h)) ∧ (∀ {α : Type} (l : List α) (i : Nat) (a : α), l.toArray.setIfInBounds i a = (l.set i a).toArray) ∧ (∀ {α : Type} (a b : α) (l : List α), (a :: l).set 0 b = b :: l) ∧ (∀ {α : Type} (a b : α) (l : List α) (i : Nat), (a :: l).set (i + 1) b = a :: l.set i b) := ⟨fun _ _ _ => rfl, fun _ _ => rfl, fun _ _ _ => by simp, fun _ _ _ => rfl, fun _ _ _ _ => rfl, fun _ _ _ => by simp, fun _ _ _ => rfl, fun _ _ _ _ => rfl⟩
theorem kp2 {a b : World} (g : Below a.heap.size a b) {p0 : Addr} {v0 : Value} {p1 : Addr} {v1 : Value} (h0 : a.cell? p0 = some v0) (h1 : a.cell? p1 = some v1) : b.cell? p0 = some v0 ∧ b.cell? p1 = some v1 := ⟨(g.cell (World.block_lt_of_cell? a _ h0)).trans h0, (g.cell (World.block_lt_of_cell? a _ h1)).trans h1⟩
theorem kp4 {a b : World} (g : Below a.heap.size a b) {p0 : Addr} {v0 : Value} {p1 : Addr} {v1 : Value} {p2 : Addr} {v2 : Value} {p3 : Addr} {v3 : Value} (h0 : a.cell? p0 = some v0) (h1 : a.cell? p1 = some v1) (h2 : a.cell? p2 = some v2) (h3 : a.cell? p3 = some v3) : b.cell? p0 = some v0 ∧ b.cell? p1 = some v1 ∧ b.cell? p2 = some v2 ∧ b.cell? p3 = some v3 := ⟨(g.cell (World.block_lt_of_cell? a _ h0)).trans h0, (g.cell (World.block_lt_of_cell? a _ h1)).trans h1, (g.cell (World.block_lt_of_cell? a _ h2)).trans h2, (g.cell (World.block_lt_of_cell? a _ h3)).trans h3⟩
end Go.Proofs.YtcipdampcmfmaaaGreat
