import Derived.Test.YtgbgejflmbhigaaGreatKwTkDown
import Derived.BigQuiet
import Derived.Test.YtgbgejflmbhigaaGreatKw10
namespace Go.Proofs.YtgbgejflmbhigaaGreat.Tk
open Go.RowKit Go.Sort
set_option maxRecDepth 100000
set_option maxHeartbeats 2000000
theorem Kp.trans' {S T:Nat->Prop} {a b c:World} (h:Kp S a b) (k:Kp T b c) (hT:∀ i,i < a.heap.size->T i->S i):Kp S a c :=
 ⟨k.os.trans h.os,k.tape.trans h.tape,k.output.trans h.output,Nat.le_trans h.size k.size,fun i hi hn=>(k.block i (Nat.lt_of_lt_of_le hi h.size) (fun t=>hn (hT i hi t))).trans (h.block i hi hn)⟩
def More (w w':World) (hb:Nat) (k:Int) (v:Value) (d:Array Ht) (x:Ht):Prop :=
 ∃ g cap d',d'.toList.Perm (d.toList ++ [x])/\MaxH d'/\Hp w' hb k (.slice (some ⟨g,0,none⟩) (d.size + 1) cap) d'/\Kp (fun b=>b=hb ∨ some b=v.ownBlock) w w'/\(v.ownBlock=some g ∨ w.heap.size<=g)
theorem push25 {w:World} {hb:Nat} {k:Int} {v:Value} {d:Array Ht} (h:Hp w hb k v d) (hm:MaxH d) (hn:d.size<=3000) (x:Ht) :
  Calls Tryz.prog 142 #[.iface 191 (.pointer (some ⟨hb,1,none⟩)),.iface 60 (hv x)] w fun e w'=>e=.returned (.tuple #[])/\More w w' hb k v d x:=by
 have H:Hid (Hp w hb k v d/\MaxH d):=⟨h,hm⟩
 have hp:=push75 h (by omega) x
 have hi:=inv_push hb w
 obtain ⟨n,hN⟩:∃ n,n=d.size:=⟨_,rfl⟩
 have N:Hid (n=d.size):=hN
 rw [<- hN] at hn
 clear h hm hN
 go_enter Tryz.func142,Tryz.ntmps142
 go_wp2_with fail
 refine hp.mono ?_
 rintro e w1 ⟨rfl,g,cap,h1,k1,hg⟩
 have hu:=up_push H.out.2 x
 have e1:=N.out
 have X:Hid (Hp w1 hb k (.slice (some ⟨g,0,none⟩) (n + 1) cap) (d.push x)/\UpInv (d.push x) n/\(d.push x).size=n + 1):=⟨by rw [e1];exact h1,by rw [e1];exact hu,by rw [Array.size_push,e1]⟩
 have K1:Hid (Kp (fun b=>b=hb ∨ some b=v.ownBlock) w w1/\(v.ownBlock=some g ∨ w.heap.size<=g)):=⟨k1,hg⟩
 clear hp hi h1 k1 hg hu e1
 have hi:=inv_len hb _ w1 X.out.1.cell1
 go_wp2_with fail
 refine (len72 _ _ _ _).mono ?_
 rintro e w2 ⟨rfl,e2⟩
 subst e2
 have e3:((n + 1:Nat):Int) - 1=(n:Int):=by omega
 clear hi
 go_wp2_with fail
 refine (up_c X.out.1 X.out.2.2 (by omega) n (by omega) X.out.2.1).mono ?_
 rintro e w3 ⟨rfl,d',p1,p2,p3,p4⟩
 have Y:Hid (d'.toList.Perm (d.push x).toList/\MaxH d'/\Hp w3 hb k (.slice (some ⟨g,0,none⟩) (n + 1) cap) d'/\Kp (fun b=>b=g) w2 w3):=⟨p1,p2,p3,p4⟩
 clear p1 p2 p3 p4
 go_wp2
 go_end0
 obtain ⟨p1,p2,p3,p4⟩:=Y.out
 obtain ⟨k1,hg⟩:=K1.out
 refine ⟨rfl,g,cap,d',by simpa using p1,p2,by rw [<- N.out];exact p3,k1.trans' p4 ?_,hg⟩
 rintro i hi rfl
 rcases hg with hg | hg
 ·exact .inr hg.symm
 ·omega
theorem fix26 {w:World} {hb g n cap:Nat} {k:Int} {d:Array Ht} (h:Hp w hb k (.slice (some ⟨g,0,none⟩) n cap) d) (hs:d.size=n) (hn:n<=4000) (hn0:0 < n) (hu:DownInv d 0) :
  Calls Tryz.prog 144 #[.iface 191 (.pointer (some ⟨hb,1,none⟩)),.int .i64 0] w fun e w'=>e=.returned (.tuple #[])/\Fixed w w' hb g n cap k d:=by
 have H:Hid (Hp w hb k (.slice (some ⟨g,0,none⟩) n cap) d/\DownInv d 0/\d.size=n):=⟨h,hu,hs⟩
 have hi:=inv_len hb _ w h.cell1
 clear h hs hu
 go_enter Tryz.func144,Tryz.ntmps144
 go_wp2_with fail
 refine (len72 _ _ _ _).mono ?_
 rintro e w2 ⟨rfl,e2⟩
 subst e2
 clear hi
 go_wp2_with fail
 refine (down_c H.out.1 H.out.2.2 hn 0 hn0 H.out.2.1).mono ?_
 rintro e w3 ⟨⟨b,rfl⟩,d',p1,p2,p3,p4⟩
 have Y:Hid (d'.toList.Perm d.toList/\MaxH d'/\Hp w3 hb k (.slice (some ⟨g,0,none⟩) n cap) d'/\Kp (fun b=>b=g) w2 w3):=⟨p1,p2,p3,p4⟩
 clear p1 p2 p3 p4
 cases b with
 | true =>
  go_wp2
  go_end0
  exact ⟨rfl,d',Y.out⟩
 | false =>
  go_wp2_with fail
  refine (up_c (d:=d') Y.out.2.2.1 (by have:=Y.out.1.length_eq;have:=H.out.2.2;simp at *;omega) hn 0 hn0 ⟨fun i h0 h1 _=>Y.out.2.1 i h0 h1,fun _ _ _ _ h0=>absurd h0 (Nat.lt_irrefl _)⟩).mono ?_
  rintro e w4 ⟨rfl,d'',p1,p2,p3,p4⟩
  have Y2:Hid (d''.toList.Perm d'.toList/\MaxH d''/\Hp w4 hb k (.slice (some ⟨g,0,none⟩) n cap) d''/\Kp (fun b=>b=g) w3 w4):=⟨p1,p2,p3,p4⟩
  clear p1 p2 p3 p4
  go_wp2
  go_end0
  exact ⟨rfl,d'',Y2.out.1.trans Y.out.1,Y2.out.2.1,Y2.out.2.2.1,Y.out.2.2.2.trans Y2.out.2.2.2⟩
end Go.Proofs.YtgbgejflmbhigaaGreat.Tk

namespace Go.Proofs.YtgbgejflmbhigaaGreat.Tk
open Go.RowKit Go.Sort
set_option maxHeartbeats 1000000
attribute [local go_sem ↓] Go.wp_at_zero Go.wp_at_succ
theorem new_lo (k:Int) (hk:k < 1) (w:World):Calls Tryz.prog 35 #[.int .i64 k] w fun e w'=>e=.returned (.tuple #[.pointer none,.int .i64 1])/\w'=w:=by
 go_enter Tryz.func35,Tryz.ntmps35
 go_wp2
 go_ret2
 exact ⟨rfl,rfl⟩
theorem new_hi (k:Int) (hk:64 < k) (w:World):Calls Tryz.prog 35 #[.int .i64 k] w fun e w'=>e=.returned (.tuple #[.pointer none,.int .i64 1])/\w'=w:=by
 have h0:¬ k < 1:=by omega
 go_enter Tryz.func35,Tryz.ntmps35
 go_wp2
 go_ret2
 exact ⟨rfl,rfl⟩
theorem new_ok (k:Int) (h1:1<=k) (h2:k<=64) (w:World):Calls Tryz.prog 35 #[.int .i64 k] w fun e w'=>e=.returned (.tuple #[.pointer (some ⟨w.heap.size,0,none⟩),.int .i64 0])/\w'=w.alloc (.cells #[.int .i64 k,.slice none 0 0] 113):=by
 have h0:¬ k < 1:=by omega
 have h3:¬ 64 < k:=by omega
 go_enter Tryz.func35,Tryz.ntmps35
 go_wp2
 go_ret2
 exact ⟨rfl,rfl⟩
theorem new_hp (k:Int) (w:World):Hp (w.alloc (.cells #[.int .i64 k,.slice none 0 0] 113)) w.heap.size k (.slice none 0 0) #[] :=
 ⟨heap_alloc_new w _,own_nil _,by simp [Value.ownBlock]⟩
theorem Hp.form {w:World} {hb:Nat} {k:Int} {v:Value} {d:Array Ht} (h:Hp w hb k v d):∃ a cap,v=.slice a d.size cap:=by
 rcases h.own.2 with ⟨rfl,h0⟩ | ⟨g,cap,cur,rfl,_⟩
 ·exact ⟨none,0,by rw [h0]⟩
 ·exact ⟨_,_,rfl⟩
theorem len17 {w:World} {hb:Nat} {k:Int} {v:Value} {d:Array Ht} (h:Hp w hb k v d):Calls Tryz.prog 141 #[.pointer (some ⟨hb,0,none⟩)] w fun e w'=>e=.returned (.int .i64 (d.size:Nat))/\w'=w:=by
 have c1:=h.cell1
 obtain ⟨a,cap,rfl⟩:=h.form
 clear h
 generalize d.size=n at c1 ⊢
 go_enter Tryz.func141,Tryz.ntmps141
 go_wp2
 go_ret
 exact ⟨rfl,rfl⟩
theorem worst15_none (p:Value) (w:World) (hl:∀ W,Gr w W->Calls Tryz.prog 141 #[p] W fun e w'=>e=.returned (.int .i64 0)/\w'=W) :
  Calls Tryz.prog 105 #[p] w fun e w'=>e=.returned (.tuple #[hv ⟨0,0,0⟩,.bool false])/\Gr w w':=by
 go_enter Tryz.func105,Tryz.ntmps105
 go_wp2_with fail
 refine (hl _ (by go_grown)).mono ?_
 rintro e w' ⟨rfl,rfl⟩
 clear hl
 go_wp2
 refine bodyPost_ret (v:=.tuple #[hv ⟨0,0,0⟩,.bool false]) (by simp [results,Tryz.results105,go_sem]) rfl ?_
 exact ⟨rfl,by go_grown⟩
theorem worst15 {w:World} {hb:Nat} {k:Int} {v:Value} {d:Array Ht} (h:Hp w hb k v d) (hd:0 < d.size) (hn:d.size<=4000):Calls Tryz.prog 105 #[.pointer (some ⟨hb,0,none⟩)] w fun e w'=>e=.returned (.tuple #[hv d[0]!,.bool true])/\Gr w w':=by
 obtain ⟨g,cap,cur,rfl,_⟩:=own_form h.own hd
 have hA:Hid (Hp (w.alloc (.cells #[.int .i64 0,.int .u64 0,.int .u64 0] 60)) hb k (.slice (some ⟨g,0,none⟩) d.size cap) d):=h.gr (by go_grown)
 have hl:=len17 hA.out
 have c1:=hA.out.cell1
 have cc:=own_cell hA.out.own hd
 rw [Nat.zero_mul] at cc
 obtain ⟨x0,x1,x2⟩:=cc
 generalize d[0]! = x at *
 obtain ⟨n,hN⟩:∃ n,n=d.size:=⟨_,rfl⟩
 rw [<- hN] at *
 clear h hN hA
 go_enter Tryz.func105,Tryz.ntmps105
 go_wp2_with fail
 refine hl.mono ?_
 rintro e w' ⟨rfl,rfl⟩
 clear hl
 go_wp2
 refine bodyPost_ret (v:=.tuple #[hv x,.bool true]) (by simp [results,Tryz.results105,go_sem]) rfl ?_
 exact ⟨rfl,by go_grown⟩
end Go.Proofs.YtgbgejflmbhigaaGreat.Tk

namespace Go.Proofs.YtgbgejflmbhigaaGreat
open Go.RowKit
set_option maxHeartbeats 2000000
theorem wide_any (n:Nat) (hn:n < 340282366920938463463374607431768211456) (o:Bool) (w:World) :
  Calls Tryz.prog 192 #[Nm n o] w fun e w'=>e=.returned (Wd n)/\Gr w w':=by
 have n0:=((NumAt.new w n o 204).call ((Gr.refl _).alloc #[.int .u64 0,.int .u64 0] 58)).call ((Gr.refl _).alloc #[.int .u64 0,.int .u64 0] 58)
 go_enter Tryz.func192,Tryz.ntmps192
 go_wp2
 go_loopw [4] (fun iv w'=>∃ z:Int,∃ k x y:Nat,iv=.int .i64 z/\z=(k:Int) - 1/\k<=4/\Hid (x=n / 18446744073709551616 / 65536 ^ k/\y=n % 18446744073709551616 / 65536 ^ k)/\Gr (((w.alloc (.cells #[.int .i64 (dd n 0),.int .i64 (dd n 1),.int .i64 (dd n 2),.int .i64 (dd n 3),.int .i64 (dd n 4),.int .i64 (dd n 5),.int .i64 (dd n 6),.int .i64 (dd n 7),.bool o] 204)).alloc (.cells #[.int .u64 0,.int .u64 0] 58))) w'/\NumAt w' w.heap.size n o/\w'.cell? ⟨w.heap.size + 1 + 1,0,none⟩=some (.int .u64 (x:Int))/\w'.cell? ⟨w.heap.size + 1 + 1,1,none⟩=some (.int .u64 (y:Int))/\w'.frozen? ⟨w.heap.size + 1 + 1,0,none⟩=false/\w'.frozen? ⟨w.heap.size + 1 + 1,1,none⟩=false) (fun iv _=>(intOf iv + 1).toNat)
 case atStart =>
  refine ⟨3,4,0,0,rfl,by omega,by omega,?_,(Gr.refl _).alloc _ _,n0,by simp [go_sem],by simp [go_sem],by simp [go_sem],by simp [go_sem]⟩
  show 0=n / 18446744073709551616 / 65536 ^ 4/\0=n % 18446744073709551616 / 65536 ^ 4
  simp only [Nat.reducePow];omega
 case round =>
  clear n0
  obtain ⟨z,k,x,y,rfl,hz,hk,X,hG,hN,c0,c1,f0,f1⟩:=hrel
  cases k with
  | zero =>
   have hz':z < 0:=by omega
   have E:Hid ((x:Int)=hi n/\(y:Int)=lo n):=by
    have:=X.out
    simp at this
    obtain ⟨h1,h2⟩:=this
    subst h1 h2;exact ⟨rfl,rfl⟩
   have V:=hG.var2
   simp only [World.size_alloc] at V
   obtain ⟨v0,v1,v2,v3⟩:=V
   clear hz X hN
   go_wp2
   refine bodyPost_ret (v:=Wd n) ?_ rfl ⟨rfl,?_⟩
   ·rw [Wd,<- E.out.1,<- E.out.2];simp [results,Tryz.results192,go_sem,v0,v1]
   ·exact (((((Gr.refl _).alloc _ _).alloc _ _).trans hG).setCell (by simp) _).setCell (by simp) _
  | succ t =>
   have hzt:z=(t:Int):=by omega
   subst hzt
   obtain ⟨e,he,he1,he2⟩:=dd_nat n t
   obtain ⟨f,hf,hf1,hf2⟩:=dd_nat n (4 + t)
   have ca:=hN.d t (by omega)
   have cb:=hN.d (4 + t) (by omega)
   rw [he] at ca;rw [hf] at cb
   have hnb:w.heap.size + 1 + 1 ≠ w.heap.size:=by omega
   have hx:x < 281474976710656/\y < 281474976710656:=by
    obtain ⟨h1,h2⟩:=X.out
    have ht:t=0 ∨ t=1 ∨ t=2 ∨ t=3:=by omega
    rcases ht with rfl | rfl | rfl | rfl <;> (simp only [Nat.reduceAdd,Nat.reducePow] at h1 h2;omega)
   obtain ⟨x1,y1⟩:=hx
   have X':Hid (65536 * x + f=n / 18446744073709551616 / 65536 ^ t/\65536 * y + e=n % 18446744073709551616 / 65536 ^ t):=by
    obtain ⟨h1,h2⟩:=X.out
    have ht:t=0 ∨ t=1 ∨ t=2 ∨ t=3:=by omega
    unfold Hid
    rcases ht with rfl | rfl | rfl | rfl <;> (simp only [Nat.reduceAdd,Nat.reducePow] at *;omega)
   clear he he2 hf hf2 X hz
   go_wp2
   go_region
   go_wp2
   go_region
   go_wp2
   refine ⟨⟨(t:Int) - 1,t,65536 * x + f,65536 * y + e,by go_num,rfl,by omega,X',?_,?_,?_,?_,?_,?_⟩,by simp [intOf]⟩
   ·exact (((hG.setCell (by simp) _).drew.setCell (by simp) _).drew)
   ·exact ((hN.far _ _ hnb _).far _ _ hnb _).call ((Gr.refl _).drew.drew)
   ·simp [go_sem,c0]
   ·simp [go_sem,c1]
   ·simp [go_sem,f0]
   ·simp [go_sem,f1]
end Go.Proofs.YtgbgejflmbhigaaGreat
