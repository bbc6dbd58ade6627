import Derived.Test.YtcipdampcmfmaabGreatJa7
import Derived.Test.YtcipdampcmfmaabGreatJa4
import Derived.BigQuiet
import Derived.Test.YtcipdampcmfmaabGreatJa3
import Derived.Test.YtcipdampcmfmaabGreatJa1
import Derived.Deep.RegionHeld3
import Derived.Test.YtcipdampcmfmaabGreatJa0
namespace Go.Proofs.YtcipdampcmfmaabGreat.Tk
open Go.RowKit Go.Sort
set_option maxRecDepth 100000
set_option maxHeartbeats 2000000
attribute [local go_sem ↓] Go.wp_at_zero Go.wp_at_succ
theorem Hp.kp {S:Nat->Prop} {w w':World} {hb:Nat} {k:Int} {v:Value} {d:Array Ht} (h:Hp w hb k v d) (K:Kp S w w') (h1:¬ S hb) (h2:∀ g,v.ownBlock=some g->¬ S g):Hp w' hb k v d :=
 ⟨by rw [K.block hb h.lt h1];exact h.blk,own_kp h.own K h2,h.ne⟩
theorem less73n {w:World} {g n cap:Nat} {d:Array Ht} (h:Own w (.slice (some ⟨g,0,none⟩) n cap) d) (hs:d.size=n) {i j:Nat} (hi:i < n) (hj:j < n) :
  Calls Tryz.prog 219 #[.slice (some ⟨g,0,none⟩) n cap,.int .i64 i,.int .i64 j] w fun e w'=>e=.returned (.bool (hlt d[j]! d[i]!))/\Gw w w':=by
 subst hs;exact less73 h hi hj
theorem swap74n {w:World} {hb g n cap:Nat} {k:Int} {d:Array Ht} (h:Hp w hb k (.slice (some ⟨g,0,none⟩) n cap) d) (hs:d.size=n) {i j:Nat} (hi:i < n) (hj:j < n) (hne:i ≠ j) :
  Calls Tryz.prog 220 #[.slice (some ⟨g,0,none⟩) n cap,.int .i64 i,.int .i64 j] w fun e w'=>e=.returned (.tuple #[])/\Hp w' hb k (.slice (some ⟨g,0,none⟩) n cap) (swp d i j)/\Kp (fun k=>k=g) w w':=by
 subst hs
 refine (swap74 h.own hi hj hne).mono ?_
 rintro e w' ⟨rfl,ho,hk⟩
 refine ⟨rfl,⟨?_,ho,h.ne⟩,hk⟩
 rw [hk.block hb h.lt (by have:=h.ne;simp [Value.ownBlock] at this;omega)]
 exact h.blk
def Fixed (w w':World) (hb g n cap:Nat) (k:Int) (d:Array Ht):Prop :=
 ∃ d',d'.toList.Perm d.toList/\MaxH d'/\Hp w' hb k (.slice (some ⟨g,0,none⟩) n cap) d'/\Kp (fun b=>b=g) w w'
theorem up_c {w:World} {hb g n cap:Nat} {k:Int} {d:Array Ht} (h:Hp w hb k (.slice (some ⟨g,0,none⟩) n cap) d) (hs:d.size=n) (hn:n<=4000) (j:Nat) (hj:j < n) (hu:UpInv d j) :
  Calls Tryz.prog 151 #[.iface 182 (.pointer (some ⟨hb,1,none⟩)),.int .i64 j] w fun e w'=>e=.returned (.tuple #[])/\Fixed w w' hb g n cap k d:=by
 have H:Hid (Hp w hb k (.slice (some ⟨g,0,none⟩) n cap) d/\UpInv d j/\d.size=n):=⟨h,hu,hs⟩
 clear h hu hs
 go_enter Tryz.func151,Tryz.ntmps151
 go_wp2
 go_loopw [1] (fun iv w'=>∃ (q:Nat) (d':Array Ht),iv=.int .i64 (q:Int)/\q < n/\Hid (d'.toList.Perm d.toList/\UpInv d' q/\Hp w' hb k (.slice (some ⟨g,0,none⟩) n cap) d'/\Kp (fun b=>b=g) w w')) (fun iv _=>(intOf iv).toNat)
 case atStart=>exact ⟨j,d,rfl,hj,List.Perm.refl _,H.out.2.1,H.out.1,Kp.refl _ _⟩
 case round =>
  clear hj
  obtain ⟨q,d',rfl,hq,X⟩:=hrel
  have hcell:wr.cell? ⟨hb,1,none⟩=some (.slice (some ⟨g,0,none⟩) n cap):=X.out.2.2.1.cell1
  have hs':Hid (d'.size=n):=by have:=X.out.1.length_eq;have:=H.out.2.2;simp at *;unfold Hid;omega
  by_cases h0:q=0
  ·subst h0
   go_wp2
   go_end0
   exact ⟨rfl,d',X.out.1,up_zero X.out.2.1,X.out.2.2.1,X.out.2.2.2⟩
  ·have hq0:(0:Int)<=(q:Int) - 1:=by omega
   obtain ⟨p,hp⟩:∃ p:Nat,p=(q - 1) / 2:=⟨_,rfl⟩
   have hp1:((q:Int) - 1) / 2=(p:Int):=by omega
   have hpq:p ≠ q:=by omega
   have hpn:p < n:=by omega
   have P:Hid (p=(q - 1) / 2):=hp
   clear hp
   have hm:=inv_less hb _ wr hcell
   have hl:=less73n X.out.2.2.1.own hs'.out hq hpn
   obtain ⟨t,ht⟩:∃ t,t=hlt d'[p]! d'[q]! := ⟨_,rfl⟩
   rw [<- ht] at hl
   have T:Hid (t=hlt d'[p]! d'[q]!):=ht
   clear ht
   cases t with
   | false =>
    go_wp2_with fail
    refine hl.mono ?_
    rintro e w1 ⟨rfl,g1⟩
    go_wp2
    go_end0
    have p1:=P.out
    refine ⟨rfl,d',X.out.1,up_stop X.out.2.1 (fun _=>by rw [<- p1];exact T.out.symm),X.out.2.2.1.gr g1.gr,X.out.2.2.2.trans (Kp.of_gr g1.gr)⟩
   | true =>
    go_wp2_with fail
    refine hl.mono ?_
    rintro e w1 ⟨rfl,g1⟩
    have H1:=X.out.2.2.1.gr g1.gr
    have hm1:=inv_swap hb _ w1 H1.cell1
    have hsw:=swap74n H1 hs'.out hpn hq hpq
    have XX:Hid (Hp w1 hb k (.slice (some ⟨g,0,none⟩) n cap) d'):=H1
    clear H1 hm hl
    go_wp2_with fail
    refine hsw.mono ?_
    rintro e w2 ⟨rfl,h2,k2⟩
    have h2':Hid (Hp w2 hb k (.slice (some ⟨g,0,none⟩) n cap) (swp d' p q)):=h2
    clear h2 hsw hm1
    go_wp2
    go_roundw
    case rel =>
     have p1:=P.out
     have sz:=hs'.out
     subst p1
     refine ⟨_,swp d' ((q - 1) / 2) q,rfl,hpn,?_,?_,h2'.out,(X.out.2.2.2.trans (Kp.of_gr g1.gr)).trans k2⟩
     ·exact (swp_perm d' _ _ (by omega) (by omega)).trans X.out.1
     ·exact up_step X.out.2.1 (by omega) (by omega) T.out.symm
    case measure=>have:=P.out;simp [intOf];omega
end Go.Proofs.YtcipdampcmfmaabGreat.Tk

namespace Go.Proofs.YtcipdampcmfmaabGreat.Tk
open Go.RowKit Go.Sort
set_option maxRecDepth 100000
set_option maxHeartbeats 4000000
attribute [local go_sem ↓] Go.wp_at_zero Go.wp_at_succ
theorem down_c {w:World} {hb g n cap:Nat} {k:Int} {d:Array Ht} (h:Hp w hb k (.slice (some ⟨g,0,none⟩) n cap) d) (hs:d.size=n) (hn:n<=4000) (j:Nat) (hj:j < n) (hu:DownInv d j) :
  Calls Tryz.prog 152 #[.iface 182 (.pointer (some ⟨hb,1,none⟩)),.int .i64 j,.int .i64 n] w fun e w'=>(∃ b,e=.returned (.bool b))/\Fixed w w' hb g n cap k d:=by
 have H:Hid (Hp w hb k (.slice (some ⟨g,0,none⟩) n cap) d/\DownInv d j/\d.size=n):=⟨h,hu,hs⟩
 clear h hu hs
 go_enter Tryz.func152,Tryz.ntmps152
 go_wp2
 go_loopw [7] (fun iv w'=>∃ (q:Nat) (d':Array Ht),iv=.int .i64 (q:Int)/\q < n/\Hid (d'.toList.Perm d.toList/\DownInv d' q/\Hp w' hb k (.slice (some ⟨g,0,none⟩) n cap) d'/\Kp (fun b=>b=g) w w')) (fun iv _=>n - (intOf iv).toNat)
 case atStart=>exact ⟨j,d,rfl,hj,List.Perm.refl _,H.out.2.1,H.out.1,Kp.refl _ _⟩
 case round =>
  clear hj
  obtain ⟨q,d',rfl,hq,X⟩:=hrel
  have hcell:wr.cell? ⟨hb,1,none⟩=some (.slice (some ⟨g,0,none⟩) n cap):=X.out.2.2.1.cell1
  have hs':Hid (d'.size=n):=by have:=X.out.1.length_eq;have:=H.out.2.2;simp at *;unfold Hid;omega
  obtain ⟨c1,hc1⟩:∃ c1:Nat,c1=2 * q + 1:=⟨_,rfl⟩
  have e1:2 * (q:Int) + 1=(c1:Int):=by omega
  have C1:Hid (c1=2 * q + 1):=hc1
  by_cases h1:n<=c1
  ·have h1':(n:Int)<=(c1:Int):=by omega
   clear hc1
   go_wp2
   go_ret
   refine ⟨⟨_,rfl⟩,d',X.out.1,down_stop0 X.out.2.1 ?_,X.out.2.2.1,X.out.2.2.2⟩
   have:=hs'.out;have:=C1.out;omega
  have h1':(c1:Int) < (n:Int):=by omega
  have h1n:c1 < n:=by omega
  by_cases h2:n<=c1 + 1
  ·have h2':(n:Int)<=(c1:Int) + 1:=by omega
   have hch:Hid (Child d' q c1):=by
    have s1:=hs'.out;have s2:=C1.out;subst s2
    exact child_one (by omega) (by omega)
   clear hc1 h1 h2
   have hne:q ≠ c1:=by have:=C1.out;omega
   have Z:Hid (Hp wr hb k (.slice (some ⟨g,0,none⟩) n cap) d'/\Kp (fun b=>b=g) w wr):=X.out.2.2
   have hm:=inv_less hb _ wr Z.out.1.cell1
   have hl:=less73n Z.out.1.own hs'.out h1n hq
   obtain ⟨t,ht⟩:∃ t,t=hlt d'[q]! d'[c1]! := ⟨_,rfl⟩
   rw [<- ht] at hl
   have T:Hid (t=hlt d'[q]! d'[c1]!):=ht
   clear ht
   cases t with
   | false =>
    go_wp2_with fail
    refine hl.mono ?_
    rintro e v1 ⟨rfl,g1⟩
    clear hm hl
    go_wp2
    go_ret
    exact ⟨⟨_,rfl⟩,d',X.out.1,down_stop1 X.out.2.1 hch.out T.out.symm,Z.out.1.gr g1.gr,Z.out.2.trans (Kp.of_gr g1.gr)⟩
   | true =>
    go_wp2_with fail
    refine hl.mono ?_
    rintro e v1 ⟨rfl,g1⟩
    have H1:=Z.out.1.gr g1.gr
    have hm1:=inv_swap hb _ v1 H1.cell1
    have hsw:=swap74n H1 hs'.out hq h1n hne
    clear H1 hm hl
    go_wp2_with fail
    refine hsw.mono ?_
    rintro e v2 ⟨rfl,h2,k2⟩
    have h2':Hid (Hp v2 hb k (.slice (some ⟨g,0,none⟩) n cap) (swp d' q c1)):=h2
    clear h2 hsw hm1
    go_wp2
    go_roundw
    case rel=>exact ⟨c1,swp d' q c1,rfl,h1n,(swp_perm d' _ _ (by have:=hs'.out;omega) (by have:=hs'.out;omega)).trans X.out.1,down_step X.out.2.1 hch.out T.out.symm,h2'.out,(Z.out.2.trans (Kp.of_gr g1.gr)).trans k2⟩
    case measure=>have:=C1.out;simp [intOf];omega
  obtain ⟨c2,hc2⟩:∃ c2:Nat,c2=c1 + 1:=⟨_,rfl⟩
  have e2:(c1:Int) + 1=(c2:Int):=by omega
  have h2n:c2 < n:=by omega
  have h2':(c2:Int) < (n:Int):=by omega
  have C2:Hid (c2=c1 + 1):=hc2
  clear hc1 h1 h2 hc2
  have hm:=inv_less hb _ wr hcell
  have hl:=less73n X.out.2.2.1.own hs'.out h2n h1n
  obtain ⟨t,ht⟩:∃ t,t=hlt d'[c1]! d'[c2]! := ⟨_,rfl⟩
  rw [<- ht] at hl
  have T0:Hid (t=hlt d'[c1]! d'[c2]!):=ht
  clear ht
  cases t with
  | false =>
   have hch:Hid (Child d' q c1):=by
    have s1:=hs'.out;have s2:=C1.out;have s3:=C2.out;have s4:=T0.out;subst s2;subst s3
    exact child_l (by omega) s4.symm
   have hne:q ≠ c1:=by have:=C1.out;omega
   go_wp2_with fail
   refine hl.mono ?_
   rintro e w1 ⟨rfl,g0⟩
   have Z:Hid (Hp w1 hb k (.slice (some ⟨g,0,none⟩) n cap) d'/\Kp (fun b=>b=g) w w1):=⟨X.out.2.2.1.gr g0.gr,X.out.2.2.2.trans (Kp.of_gr g0.gr)⟩
   clear hl hm hcell
   have hm:=inv_less hb _ w1 Z.out.1.cell1
   have hl:=less73n Z.out.1.own hs'.out h1n hq
   obtain ⟨t,ht⟩:∃ t,t=hlt d'[q]! d'[c1]! := ⟨_,rfl⟩
   rw [<- ht] at hl
   have T:Hid (t=hlt d'[q]! d'[c1]!):=ht
   clear ht
   cases t with
   | false =>
    go_wp2_with fail
    refine hl.mono ?_
    rintro e v1 ⟨rfl,g1⟩
    clear hm hl
    go_wp2
    go_ret
    exact ⟨⟨_,rfl⟩,d',X.out.1,down_stop1 X.out.2.1 hch.out T.out.symm,Z.out.1.gr g1.gr,Z.out.2.trans (Kp.of_gr g1.gr)⟩
   | true =>
    go_wp2_with fail
    refine hl.mono ?_
    rintro e v1 ⟨rfl,g1⟩
    have H1:=Z.out.1.gr g1.gr
    have hm1:=inv_swap hb _ v1 H1.cell1
    have hsw:=swap74n H1 hs'.out hq h1n hne
    clear H1 hm hl
    go_wp2_with fail
    refine hsw.mono ?_
    rintro e v2 ⟨rfl,h2,k2⟩
    have h2':Hid (Hp v2 hb k (.slice (some ⟨g,0,none⟩) n cap) (swp d' q c1)):=h2
    clear h2 hsw hm1
    go_wp2
    go_roundw
    case rel=>exact ⟨c1,swp d' q c1,rfl,h1n,(swp_perm d' _ _ (by have:=hs'.out;omega) (by have:=hs'.out;omega)).trans X.out.1,down_step X.out.2.1 hch.out T.out.symm,h2'.out,(Z.out.2.trans (Kp.of_gr g1.gr)).trans k2⟩
    case measure=>have:=C1.out;simp [intOf];omega
  | true =>
   have hch:Hid (Child d' q c2):=by
    have s1:=hs'.out;have s2:=C1.out;have s3:=C2.out;have s4:=T0.out;subst s2;subst s3
    exact child_r (by omega) s4.symm
   have hne:q ≠ c2:=by have:=C1.out;have:=C2.out;omega
   go_wp2_with fail
   refine hl.mono ?_
   rintro e w1 ⟨rfl,g0⟩
   have Z:Hid (Hp w1 hb k (.slice (some ⟨g,0,none⟩) n cap) d'/\Kp (fun b=>b=g) w w1):=⟨X.out.2.2.1.gr g0.gr,X.out.2.2.2.trans (Kp.of_gr g0.gr)⟩
   clear hl hm hcell
   have hm:=inv_less hb _ w1 Z.out.1.cell1
   have hl:=less73n Z.out.1.own hs'.out h2n hq
   obtain ⟨t,ht⟩:∃ t,t=hlt d'[q]! d'[c2]! := ⟨_,rfl⟩
   rw [<- ht] at hl
   have T:Hid (t=hlt d'[q]! d'[c2]!):=ht
   clear ht
   cases t with
   | false =>
    go_wp2_with fail
    refine hl.mono ?_
    rintro e v1 ⟨rfl,g1⟩
    clear hm hl
    go_wp2
    go_ret
    exact ⟨⟨_,rfl⟩,d',X.out.1,down_stop1 X.out.2.1 hch.out T.out.symm,Z.out.1.gr g1.gr,Z.out.2.trans (Kp.of_gr g1.gr)⟩
   | true =>
    go_wp2_with fail
    refine hl.mono ?_
    rintro e v1 ⟨rfl,g1⟩
    have H1:=Z.out.1.gr g1.gr
    have hm1:=inv_swap hb _ v1 H1.cell1
    have hsw:=swap74n H1 hs'.out hq h2n hne
    clear H1 hm hl
    go_wp2_with fail
    refine hsw.mono ?_
    rintro e v2 ⟨rfl,h2,k2⟩
    have h2':Hid (Hp v2 hb k (.slice (some ⟨g,0,none⟩) n cap) (swp d' q c2)):=h2
    clear h2 hsw hm1
    go_wp2
    go_roundw
    case rel=>exact ⟨c2,swp d' q c2,rfl,h2n,(swp_perm d' _ _ (by have:=hs'.out;omega) (by have:=hs'.out;omega)).trans X.out.1,down_step X.out.2.1 hch.out T.out.symm,h2'.out,(Z.out.2.trans (Kp.of_gr g1.gr)).trans k2⟩
    case measure=>have:=C1.out;have:=C2.out;simp [intOf];omega
end Go.Proofs.YtcipdampcmfmaabGreat.Tk

namespace Go.Proofs.YtcipdampcmfmaabGreat.Tk
open Go.RowKit Go.Sort
set_option maxRecDepth 100000
set_option maxHeartbeats 2000000
theorem Kp.trans' {S T:Nat->Prop} {a b c:World} (h:Kp S a b) (k:Kp T b c) (hT:∀ i,i < a.heap.size->T i->S i):Kp S a c :=
 ⟨k.os.trans h.os,k.tape.trans h.tape,k.output.trans h.output,Nat.le_trans h.size k.size,fun i hi hn=>(k.block i (Nat.lt_of_lt_of_le hi h.size) (fun t=>hn (hT i hi t))).trans (h.block i hi hn)⟩
def More (w w':World) (hb:Nat) (k:Int) (v:Value) (d:Array Ht) (x:Ht):Prop :=
 ∃ g cap d',d'.toList.Perm (d.toList ++ [x])/\MaxH d'/\Hp w' hb k (.slice (some ⟨g,0,none⟩) (d.size + 1) cap) d'/\Kp (fun b=>b=hb ∨ some b=v.ownBlock) w w'/\(v.ownBlock=some g ∨ w.heap.size<=g)
theorem push25 {w:World} {hb:Nat} {k:Int} {v:Value} {d:Array Ht} (h:Hp w hb k v d) (hm:MaxH d) (hn:d.size<=3000) (x:Ht) :
  Calls Tryz.prog 114 #[.iface 182 (.pointer (some ⟨hb,1,none⟩)),.iface 58 (hv x)] w fun e w'=>e=.returned (.tuple #[])/\More w w' hb k v d x:=by
 have H:Hid (Hp w hb k v d/\MaxH d):=⟨h,hm⟩
 have hp:=push75 h (by omega) x
 have hi:=inv_push hb w
 obtain ⟨n,hN⟩:∃ n,n=d.size:=⟨_,rfl⟩
 have N:Hid (n=d.size):=hN
 rw [<- hN] at hn
 clear h hm hN
 go_enter Tryz.func114,Tryz.ntmps114
 go_wp2_with fail
 refine hp.mono ?_
 rintro e w1 ⟨rfl,g,cap,h1,k1,hg⟩
 have hu:=up_push H.out.2 x
 have e1:=N.out
 have X:Hid (Hp w1 hb k (.slice (some ⟨g,0,none⟩) (n + 1) cap) (d.push x)/\UpInv (d.push x) n/\(d.push x).size=n + 1):=⟨by rw [e1];exact h1,by rw [e1];exact hu,by rw [Array.size_push,e1]⟩
 have K1:Hid (Kp (fun b=>b=hb ∨ some b=v.ownBlock) w w1/\(v.ownBlock=some g ∨ w.heap.size<=g)):=⟨k1,hg⟩
 clear hp hi h1 k1 hg hu e1
 have hi:=inv_len hb _ w1 X.out.1.cell1
 go_wp2_with fail
 refine (len72 _ _ _ _).mono ?_
 rintro e w2 ⟨rfl,e2⟩
 subst e2
 have e3:((n + 1:Nat):Int) - 1=(n:Int):=by omega
 clear hi
 go_wp2_with fail
 refine (up_c X.out.1 X.out.2.2 (by omega) n (by omega) X.out.2.1).mono ?_
 rintro e w3 ⟨rfl,d',p1,p2,p3,p4⟩
 have Y:Hid (d'.toList.Perm (d.push x).toList/\MaxH d'/\Hp w3 hb k (.slice (some ⟨g,0,none⟩) (n + 1) cap) d'/\Kp (fun b=>b=g) w2 w3):=⟨p1,p2,p3,p4⟩
 clear p1 p2 p3 p4
 go_wp2
 go_end0
 obtain ⟨p1,p2,p3,p4⟩:=Y.out
 obtain ⟨k1,hg⟩:=K1.out
 refine ⟨rfl,g,cap,d',by simpa using p1,p2,by rw [<- N.out];exact p3,k1.trans' p4 ?_,hg⟩
 rintro i hi rfl
 rcases hg with hg | hg
 ·exact .inr hg.symm
 ·omega
theorem fix26 {w:World} {hb g n cap:Nat} {k:Int} {d:Array Ht} (h:Hp w hb k (.slice (some ⟨g,0,none⟩) n cap) d) (hs:d.size=n) (hn:n<=4000) (hn0:0 < n) (hu:DownInv d 0) :
  Calls Tryz.prog 116 #[.iface 182 (.pointer (some ⟨hb,1,none⟩)),.int .i64 0] w fun e w'=>e=.returned (.tuple #[])/\Fixed w w' hb g n cap k d:=by
 have H:Hid (Hp w hb k (.slice (some ⟨g,0,none⟩) n cap) d/\DownInv d 0/\d.size=n):=⟨h,hu,hs⟩
 have hi:=inv_len hb _ w h.cell1
 clear h hs hu
 go_enter Tryz.func116,Tryz.ntmps116
 go_wp2_with fail
 refine (len72 _ _ _ _).mono ?_
 rintro e w2 ⟨rfl,e2⟩
 subst e2
 clear hi
 go_wp2_with fail
 refine (down_c H.out.1 H.out.2.2 hn 0 hn0 H.out.2.1).mono ?_
 rintro e w3 ⟨⟨b,rfl⟩,d',p1,p2,p3,p4⟩
 have Y:Hid (d'.toList.Perm d.toList/\MaxH d'/\Hp w3 hb k (.slice (some ⟨g,0,none⟩) n cap) d'/\Kp (fun b=>b=g) w2 w3):=⟨p1,p2,p3,p4⟩
 clear p1 p2 p3 p4
 cases b with
 | true =>
  go_wp2
  go_end0
  exact ⟨rfl,d',Y.out⟩
 | false =>
  go_wp2_with fail
  refine (up_c (d:=d') Y.out.2.2.1 (by have:=Y.out.1.length_eq;have:=H.out.2.2;simp at *;omega) hn 0 hn0 ⟨fun i h0 h1 _=>Y.out.2.1 i h0 h1,fun _ _ _ _ h0=>absurd h0 (Nat.lt_irrefl _)⟩).mono ?_
  rintro e w4 ⟨rfl,d'',p1,p2,p3,p4⟩
  have Y2:Hid (d''.toList.Perm d'.toList/\MaxH d''/\Hp w4 hb k (.slice (some ⟨g,0,none⟩) n cap) d''/\Kp (fun b=>b=g) w3 w4):=⟨p1,p2,p3,p4⟩
  clear p1 p2 p3 p4
  go_wp2
  go_end0
  exact ⟨rfl,d'',Y2.out.1.trans Y.out.1,Y2.out.2.1,Y2.out.2.2.1,Y.out.2.2.2.trans Y2.out.2.2.2⟩
end Go.Proofs.YtcipdampcmfmaabGreat.Tk

namespace Go.Proofs.YtcipdampcmfmaabGreat.Tk
open Go.RowKit Go.Sort
set_option maxHeartbeats 1000000
attribute [local go_sem ↓] Go.wp_at_zero Go.wp_at_succ
theorem new_lo (k:Int) (hk:k < 1) (w:World):Calls Tryz.prog 36 #[.int .i64 k] w fun e w'=>e=.returned (.tuple #[.pointer none,.int .i64 1])/\w'=w:=by
 go_enter Tryz.func36,Tryz.ntmps36
 go_wp2
 go_ret2
 exact ⟨rfl,rfl⟩
theorem new_hi (k:Int) (hk:64 < k) (w:World):Calls Tryz.prog 36 #[.int .i64 k] w fun e w'=>e=.returned (.tuple #[.pointer none,.int .i64 1])/\w'=w:=by
 have h0:¬ k < 1:=by omega
 go_enter Tryz.func36,Tryz.ntmps36
 go_wp2
 go_ret2
 exact ⟨rfl,rfl⟩
theorem new_ok (k:Int) (h1:1<=k) (h2:k<=64) (w:World):Calls Tryz.prog 36 #[.int .i64 k] w fun e w'=>e=.returned (.tuple #[.pointer (some ⟨w.heap.size,0,none⟩),.int .i64 0])/\w'=w.alloc (.cells #[.int .i64 k,.slice none 0 0] 131):=by
 have h0:¬ k < 1:=by omega
 have h3:¬ 64 < k:=by omega
 go_enter Tryz.func36,Tryz.ntmps36
 go_wp2
 go_ret2
 exact ⟨rfl,rfl⟩
theorem new_hp (k:Int) (w:World):Hp (w.alloc (.cells #[.int .i64 k,.slice none 0 0] 131)) w.heap.size k (.slice none 0 0) #[] :=
 ⟨heap_alloc_new w _,own_nil _,by simp [Value.ownBlock]⟩
theorem Hp.form {w:World} {hb:Nat} {k:Int} {v:Value} {d:Array Ht} (h:Hp w hb k v d):∃ a cap,v=.slice a d.size cap:=by
 rcases h.own.2 with ⟨rfl,h0⟩ | ⟨g,cap,cur,rfl,_⟩
 ·exact ⟨none,0,by rw [h0]⟩
 ·exact ⟨_,_,rfl⟩
theorem len17 {w:World} {hb:Nat} {k:Int} {v:Value} {d:Array Ht} (h:Hp w hb k v d):Calls Tryz.prog 127 #[.pointer (some ⟨hb,0,none⟩)] w fun e w'=>e=.returned (.int .i64 (d.size:Nat))/\w'=w:=by
 have c1:=h.cell1
 obtain ⟨a,cap,rfl⟩:=h.form
 clear h
 generalize d.size=n at c1 ⊢
 go_enter Tryz.func127,Tryz.ntmps127
 go_wp2
 go_ret
 exact ⟨rfl,rfl⟩
theorem worst15_none (p:Value) (w:World) (hl:∀ W,Gr w W->Calls Tryz.prog 127 #[p] W fun e w'=>e=.returned (.int .i64 0)/\w'=W) :
  Calls Tryz.prog 90 #[p] w fun e w'=>e=.returned (.tuple #[hv ⟨0,0,0⟩,.bool false])/\Gr w w':=by
 go_enter Tryz.func90,Tryz.ntmps90
 go_wp2_with fail
 refine (hl _ (by go_grown)).mono ?_
 rintro e w' ⟨rfl,rfl⟩
 clear hl
 go_wp2
 refine bodyPost_ret (v:=.tuple #[hv ⟨0,0,0⟩,.bool false]) (by simp [results,Tryz.results90,go_sem]) rfl ?_
 exact ⟨rfl,by go_grown⟩
theorem worst15 {w:World} {hb:Nat} {k:Int} {v:Value} {d:Array Ht} (h:Hp w hb k v d) (hd:0 < d.size) (hn:d.size<=4000):Calls Tryz.prog 90 #[.pointer (some ⟨hb,0,none⟩)] w fun e w'=>e=.returned (.tuple #[hv d[0]!,.bool true])/\Gr w w':=by
 obtain ⟨g,cap,cur,rfl,_⟩:=own_form h.own hd
 have hA:Hid (Hp (w.alloc (.cells #[.int .i64 0,.int .u64 0,.int .u64 0] 58)) hb k (.slice (some ⟨g,0,none⟩) d.size cap) d):=h.gr (by go_grown)
 have hl:=len17 hA.out
 have c1:=hA.out.cell1
 have cc:=own_cell hA.out.own hd
 rw [Nat.zero_mul] at cc
 obtain ⟨x0,x1,x2⟩:=cc
 generalize d[0]! = x at *
 obtain ⟨n,hN⟩:∃ n,n=d.size:=⟨_,rfl⟩
 rw [<- hN] at *
 clear h hN hA
 go_enter Tryz.func90,Tryz.ntmps90
 go_wp2_with fail
 refine hl.mono ?_
 rintro e w' ⟨rfl,rfl⟩
 clear hl
 go_wp2
 refine bodyPost_ret (v:=.tuple #[hv x,.bool true]) (by simp [results,Tryz.results90,go_sem]) rfl ?_
 exact ⟨rfl,by go_grown⟩
end Go.Proofs.YtcipdampcmfmaabGreat.Tk

namespace Go.Proofs.YtcipdampcmfmaabGreat.Rn
open Go.RowKit Go.Shelf
set_option maxHeartbeats 1000000
attribute [local go_sem] Oper.semAt_some
theorem Boxed.ne {W:World} {A B:Nat} {t u:TypeId} {v v':Value} (h:Boxed W A t v) (k:Boxed W B u v') (hn:t ≠ u):A ≠ B:=by
 rintro rfl
 have:=(show W.heap[A]? = _ from h).symm.trans k
 simp at this
 exact hn this.2
theorem Boxed.past {W:World} {A B:Nat} {t:TypeId} {v:Value} (h:Boxed W A t v) (hn:A ≠ B) (u:Value):Boxed (W.setCell ⟨B,0,none⟩ u) A t v :=
 h.kept (grownBy_setCell' W B u) (by simpa using hn)
theorem draws1_gives (n:Nat) (hn:1<=n) (Bs Bc b:Nat) (c x:Int) (_hx:U x) (hc:c<=1000000) (I:Nat->World->Prop)
  (hr:∀ k W,I k W->Boxed W Bs 218 (.pointer (some ⟨b,0,none⟩))/\Boxed W Bc 3 (.int .i64 c)/\Boxed W b 235 (.int .u64 (stN x k))) :
  Gives n Tryz.prog 196 #[.pointer (some ⟨Bs,0,none⟩),.pointer (some ⟨Bc,0,none⟩)] c.toNat b (fun k=>.int .u64 (stN x (k + 1))) (fun k=>.int .u64 (mx (stN x (k + 1)))) I:=by
 intro l J J1 Jx W hJI hst hY h0
 refine callsIn_of_wp Tryz.func196 rfl trivial ?_ rfl
 simp only [Tryz.ntmps196,List.size_toArray,List.length_cons,List.length_nil,Nat.reduceAdd,Nat.reduceSub,Array.replicate_succ,Array.replicate_zero,List.push_toArray,List.append_toArray,List.nil_append,List.cons_append]
 obtain ⟨r1,r2,r3⟩:=hr 0 W (hJI 0 W h0)
 have c1:=r1.cell
 have c2:=r2.cell
 gi_wp2
 clear c1 c2 r1 r2 r3
 gi_loopw [7] (fun v wr=>∃ k:Nat,v=.int .i64 k/\k<=c.toNat/\J k wr) (fun v _=>c.toNat - (intOf v).toNat)
 case atStart=>exact ⟨0,rfl,Nat.zero_le _,h0⟩
 case round =>
  obtain ⟨k,rfl,hk,hj⟩:=hrel
  by_cases hlt:k < c.toNat
  ·have hlt':(k:Int) < c:=by omega
   obtain ⟨r1,r2,r3⟩:=hr k wr (hJI k wr hj)
   have n1:=Boxed.ne r1 r3 (by decide)
   have c1:=r1.cell
   have c3:=r3.cell
   have f3:=r3.frozen
   have c4:=(Boxed.past r1 n1 (.int .u64 (IntKind.u64.wrap (stN x k + 11400714819323198485)))).cell
   have c5:=(r3.set (.int .u64 (IntKind.u64.wrap (stN x k + 11400714819323198485)))).cell
   obtain ⟨fn,tmps,assign,body,hy,hR⟩:=hY k _ hlt (hst k wr hlt hj)
   simp only [stN_succ] at hy hR
   gi_wp2_with (refine ⟨trivial,?_⟩;gi_at_call 197;refine (callsIn_wide.2 (mix_c _ _ (u_wrap _))).mono ?_;rintro e w1 ⟨rfl,rfl⟩)
   refine hR.mono ?_
   rintro e W3 (⟨rfl,hJ3⟩ | ⟨rfl,hJx3⟩)
   ·gi_wp2
    go_roundw
    case rel=>exact ⟨k + 1,by simp,by omega,hJ3⟩
    case measure=>simp [intOf];omega
   ·gi_wp2
    refine bodyPost_ret (results_none rfl _ _ _) rfl ?_
    exact ⟨⟨_,rfl⟩,.inr ⟨k,hlt,hJx3⟩⟩
  ·have hlt':¬ (k:Int) < c:=by omega
   gi_wp2
   go_end0
   obtain rfl:k=c.toNat:=by omega
   exact ⟨⟨_,rfl⟩,.inl hj⟩
end Go.Proofs.YtcipdampcmfmaabGreat.Rn

namespace Go.Proofs.YtcipdampcmfmaabGreat.Rn
open Go.RowKit Go.Shelf
theorem ownFrom_grown {B:Nat} {w:World} {r:Option Nat} (hB:w.heap.size<=B):OwnFrom B (fun (_:Nat) W=>w.grownBy W r) :=
 fun _ A C row hs hg hr=>⟨hg.os.trans hs.os,hg.tape.trans hs.tape,hg.output.trans hs.output,Nat.le_trans hs.size hg.size,fun k hk hn =>
  (hg.block k (Nat.lt_of_lt_of_le hk hs.size) (fun e=>by have:=(hr k e.symm).1;omega)).trans (hs.block k hk hn)⟩
theorem ownFrom_boxed {B b:Nat} {t:TypeId} {v:Nat->Value}:OwnFrom B (fun (k:Nat) W=>Boxed W b t (v k)) :=
 fun k A C row hs hg hr=>hs.kept hg (fun e=>by obtain ⟨_,o,ho,hc⟩:=hr b e.symm;rw [show A.heap[b]? = _ from hs] at ho;cases ho;cases hc)
theorem grownBy_refl (w:World) (r:Option Nat):w.grownBy w r:=⟨rfl,rfl,rfl,Nat.le_refl _,fun _ _ _=>rfl⟩
theorem grownBy_al {w V:World} {r:Option Nat} (h:w.grownBy V r) (o:Obj):w.grownBy (V.alloc o) r :=
 ⟨h.os,h.tape,h.output,by have:=h.size;simp;omega,fun k hk hn=>(Below.heap_alloc V o k (Nat.lt_of_lt_of_le hk h.size)).trans (h.block k hk hn)⟩
theorem grownBy_set {w V:World} {b:Nat} (h:w.grownBy V (some b)) {p:Addr} (hp:p.block=b ∨ w.heap.size<=p.block) (u:Value):w.grownBy (V.setCell p u) (some b) :=
 ⟨h.os,h.tape,h.output,Nat.le_trans h.size (KeepsWalks.setCell V p u).size,fun k hk hn=>(Below.heap_setCell V p u k (fun e=>by
  rcases hp with hp | hp
  ·exact hn (by rw [e,hp])
  ·omega)).trans (h.block k hk hn)⟩
theorem grownBy_new {w V:World} {r:Option Nat} {p:Addr} (h:w.grownBy V r) (hp:w.heap.size<=p.block) (u:Value):w.grownBy (V.setCell p u) r :=
 ⟨h.os,h.tape,h.output,Nat.le_trans h.size (KeepsWalks.setCell V p u).size,fun k hk hn=>(Below.heap_setCell V p u k (fun e=>by omega)).trans (h.block k hk hn)⟩
theorem grownBy_put {w V:World} {r:Option Nat} (h:w.grownBy V r) {D:Nat} (hD:w.heap.size<=D) (o:Obj):w.grownBy (V.putObj D o) r :=
 ⟨h.os,h.tape,h.output,by have:=h.size;simp;omega,fun k hk hn=>(World.putObj_heap_other (by omega)).trans (h.block k hk hn)⟩
theorem Boxed.put {W:World} {B D:Nat} {t:TypeId} {v:Value} {o:Obj} (h:Boxed W B t v) (hD:W.heap[D]? = some o) (ho:o.isCells=false) (o':Obj):Boxed (W.putObj D o') B t v :=
 h.kept (grownBy_putObj' W D o') (fun e=>by cases e;rw [show W.heap[B]? = _ from h] at hD;cases hD;cases ho)
abbrev ckOk (n lo hi:Int):Prop:=lo<=n/\n<=hi
theorem ckE_ok {n lo hi:Int} (h:ckOk n lo hi):ckE n lo hi=0:=if_neg (by have:=h.1;have:=h.2;omega)
end Go.Proofs.YtcipdampcmfmaabGreat.Rn

namespace Go.Proofs.YtcipdampcmfmaabGreat
open Go.RowKit
set_option maxHeartbeats 1000000
theorem square_nn (k:Nat) (hk:k<=4294967294) (w:World):Calls Tryz.prog 34 #[.int .i64 (k:Int)] w fun e w'=>e=.returned (Wd (k * k))/\Gr w w':=by
 have hp:=sq_small k hk
 have e1:hi (k * k)=0:=by unfold hi;omega
 have e2:lo (k * k)=((k * k:Nat):Int):=by unfold lo;omega
 have p:(k:Int) * (k:Int)=((k * k:Nat):Int):=(Int.natCast_mul _ _).symm
 unfold Wd
 rw [e1,e2]
 clear e1 e2
 generalize k * k=kk at *
 have h0:¬ (k:Int) < 0:=by omega
 go_enter Tryz.func34,Tryz.ntmps34
 go_wp2
 exact bodyPost_ret (v:=.agg #[.int .u64 0,.int .u64 (kk:Int)]) (by simp [results,Tryz.results34,go_sem]) rfl ⟨rfl,(Gr.refl _).alloc _ _⟩
theorem square_ng (k:Nat) (hk:k<=4294967294) (h1:1<=k) (w:World):Calls Tryz.prog 34 #[.int .i64 (-(k:Int))] w fun e w'=>e=.returned (Wd (k * k))/\Gr w w':=by
 have hp:=sq_small k hk
 have e1:hi (k * k)=0:=by unfold hi;omega
 have e2:lo (k * k)=((k * k:Nat):Int):=by unfold lo;omega
 have p:(k:Int) * (k:Int)=((k * k:Nat):Int):=(Int.natCast_mul _ _).symm
 unfold Wd
 rw [e1,e2]
 clear e1 e2
 generalize k * k=kk at *
 have h0:-(k:Int) < 0:=by omega
 have h2:- -(k:Int)=(k:Int):=by omega
 go_enter Tryz.func34,Tryz.ntmps34
 go_wp2
 exact bodyPost_ret (v:=.agg #[.int .u64 0,.int .u64 (kk:Int)]) (by simp [results,Tryz.results34,go_sem]) rfl ⟨rfl,(Gr.refl _).alloc _ _⟩
theorem square_c (n:Int) (k:Nat) (h:n.natAbs=k) (hk:k<=4294967294) (w:World):Calls Tryz.prog 34 #[.int .i64 n] w fun e w'=>e=.returned (Wd (k * k))/\Gr w w':=by
 by_cases h0:0<=n
 ·obtain rfl:n=(k:Int):=by omega
  exact square_nn k hk w
 ·obtain rfl:n=-(k:Int):=by omega
  exact square_ng k hk (by omega) w
theorem rsum_no (a0 a1 b0 b1:Int) (h0:0<=a0) (h1:0<=a1) (h2:0<=b0) (h3:0<=b1) (h4:a0 + b0 < 18446744073709551616) (h5:a1 + b1 < 18446744073709551616) (w:World) :
  Calls Tryz.prog 33 #[.agg #[.int .u64 a0,.int .u64 a1],.agg #[.int .u64 b0,.int .u64 b1]] w fun e w'=>e=.returned (.agg #[.int .u64 (a0 + b0),.int .u64 (a1 + b1)])/\Gr w w':=by
 have k:¬ (a1 + b1 < a1):=by omega
 go_enter Tryz.func33,Tryz.ntmps33
 go_wp2
 exact bodyPost_ret (v:=.agg #[.int .u64 (a0 + b0),.int .u64 (a1 + b1)]) (by simp [results,Tryz.results33,go_sem]) rfl ⟨rfl,by repeat (first | exact Gr.refl _ | refine Gr.alloc ?_ _ _ | refine Gr.setCell ?_ (by simp) _)⟩
theorem rsum_yes (a0 a1 b0 b1:Int) (h0:0<=a0) (h1:0<=a1) (h2:0<=b0) (h3:0<=b1) (a1':a1 < 18446744073709551616) (b1':b1 < 18446744073709551616) (h4:a0 + b0 + 1 < 18446744073709551616) (h5:18446744073709551616<=a1 + b1) (w:World) :
  Calls Tryz.prog 33 #[.agg #[.int .u64 a0,.int .u64 a1],.agg #[.int .u64 b0,.int .u64 b1]] w fun e w'=>e=.returned (.agg #[.int .u64 (a0 + b0 + 1),.int .u64 (a1 + b1 - 18446744073709551616)])/\Gr w w':=by
 obtain ⟨r,hr⟩:∃ r,r=a1 + b1 - 18446744073709551616:=⟨_,rfl⟩
 have hw:IntKind.u64.wrap (a1 + b1)=r:=by rw [IntKind.wrap_u64];omega
 have k:r < a1:=by omega
 have k0:0<=r:=by omega
 obtain ⟨s,hs⟩:∃ s,s=a0 + b0:=⟨_,rfl⟩
 have hw2:IntKind.u64.wrap (a0 + b0)=s:=by rw [IntKind.wrap_u64];omega
 have s0:0<=s:=by omega
 have s1:s + 1 < 18446744073709551616:=by omega
 rw [<- hr,<- hs]
 clear hr hs h4 h5 h0 h2
 go_enter Tryz.func33,Tryz.ntmps33
 go_wp2
 exact bodyPost_ret (v:=.agg #[.int .u64 (s + 1),.int .u64 r]) (by simp [results,Tryz.results33,go_sem]) rfl ⟨rfl,by repeat (first | exact Gr.refl _ | refine Gr.alloc ?_ _ _ | refine Gr.setCell ?_ (by simp) _)⟩
theorem rsum_c (s t:Nat) (h:s + t < 340282366920938463463374607431768211456) (w:World):Calls Tryz.prog 33 #[Wd s,Wd t] w fun e w'=>e=.returned (Wd (s + t))/\Gr w w':=by
 have hb:=hi_bd h
 by_cases hc:lo s + lo t < 18446744073709551616
 ·have e1:hi s + hi t=hi (s + t):=by unfold hi lo at *;omega
  have e2:lo s + lo t=lo (s + t):=by unfold lo at *;omega
  have:=rsum_no (hi s) (lo s) (hi t) (lo t) (hi_nn s) (lo_bd s).1 (hi_nn t) (lo_bd t).1 (by omega) hc w
  rw [e1,e2] at this;exact this
 ·have e1:hi s + hi t + 1=hi (s + t):=by unfold hi lo at *;omega
  have e2:lo s + lo t - 18446744073709551616=lo (s + t):=by unfold lo at *;omega
  have:=rsum_yes (hi s) (lo s) (hi t) (lo t) (hi_nn s) (lo_bd s).1 (hi_nn t) (lo_bd t).1 (lo_bd s).2 (lo_bd t).2 (by omega) (by omega) w
  rw [e1,e2] at this;exact this
end Go.Proofs.YtcipdampcmfmaabGreat

namespace Go.Proofs.YtcipdampcmfmaabGreat
open Go.RowKit
set_option maxHeartbeats 1000000
theorem of_small (x:Nat) (h:x < 18446744073709551616) (w:World) :
  Calls Tryz.prog 32 #[.agg #[.int .u64 0,.int .u64 (x:Int)]] w fun e w'=>e=.returned (Nm x false)/\Gr w w':=by
 rw [small_wd x h];exact of_any x (by omega) w
theorem times_ok (n m:Nat) (hn:n < 340282366920938463463374607431768211456) (hm:m < 340282366920938463463374607431768211456) (h:n * m < 340282366920938463463374607431768211456) (w:World) :
  Calls Tryz.prog 111 #[Nm n false,Nm m false] w fun e w'=>e=.returned (Nm (n * m) false)/\Gr w w':=by
 have:=times_false n m hn hm false w
 rw [Nat.mod_eq_of_lt h,decide_eq_false (by omega)] at this
 exact this
theorem rmul_any (x y:Nat) (hx:x < 18446744073709551616) (hy:y < 18446744073709551616) (w:World) :
  Calls Tryz.prog 72 #[.int .u64 (x:Int),.int .u64 (y:Int)] w fun e w'=>e=.returned (Wd (x * y))/\Gr w w':=by
 have hxy:=mul_lt x y hx hy
 go_enter Tryz.func72,Tryz.ntmps72
 go_wp2_with fail
 refine (of_small x hx _).mono ?_
 rintro e w1 ⟨rfl,g1⟩
 go_wp2_with fail
 refine (of_small y hy _).mono ?_
 rintro e w2 ⟨rfl,g2⟩
 go_wp2_with fail
 refine (times_ok x y (by omega) (by omega) hxy _).mono ?_
 rintro e w3 ⟨rfl,g3⟩
 go_wp2_with fail
 refine (wide_any (x * y) hxy false _).mono ?_
 rintro e w4 ⟨rfl,g4⟩
 have G:=((g1.trans g2).trans g3).trans g4
 obtain ⟨v0,v1,v2,v3⟩:=G.var2
 go_wp2
 exact bodyPost_ret (v:=Wd (x * y)) (by simp [results,Tryz.results72,go_sem,v0,v1]) rfl ⟨rfl,((((Gr.refl _).alloc _ _).trans G).setCell (by dsimp only;omega) _).setCell (by dsimp only;omega) _⟩
end Go.Proofs.YtcipdampcmfmaabGreat

namespace Go.Proofs.YtcipdampcmfmaabGreat
open Go.RowKit
set_option maxHeartbeats 2000000
theorem rless_v (a b:Nat) (ha:a < 340282366920938463463374607431768211456) (hb:b < 340282366920938463463374607431768211456) (r:Bool) (h:decide (a < b)=r) (w:World) :
  Calls Tryz.prog 12 #[Wd a,Wd b] w fun e w'=>e=.returned (.bool r)/\Gr w w':=by
 subst h;exact less_any a b ha hb w
theorem rroot_c (a:Nat) (ha:a < 340282366920938463463374607431768211456) (w:World) :
  Calls Tryz.prog 71 #[Wd a] w fun e w'=>e=.returned (.int .u64 (rt a:Int))/\Gr w w':=by
 go_enter Tryz.func71,Tryz.ntmps71
 go_wp2
 go_loopw [3,4] (fun lv hv w'=>∃ x y:Nat,lv=.int .u64 (x:Int)/\hv=.int .u64 (y:Int)/\x<=y/\y < 18446744073709551616/\Hid (x * x<=a/\a < (y + 1) * (y + 1))/\Gr (w.alloc (.cells #[.int .u64 (hi a),.int .u64 (lo a)] 40)) w') (fun lv hv _=>(intOf hv - intOf lv).toNat)
 case atStart=>exact ⟨0,18446744073709551615,by simp,by simp,by omega,by omega,⟨by omega,by omega⟩,Gr.refl _⟩
 case round =>
  obtain ⟨x,y,rfl,rfl,hxy,hy,X,hg⟩:=hrel
  obtain ⟨c0,c1,_,_⟩:=hg.var2
  by_cases hc:x < y
  ·have hci:(x:Int) < (y:Int):=by omega
   obtain ⟨k,hk⟩:∃ k:Nat,k=x + (y - x) / 2:=⟨_,rfl⟩
   obtain ⟨m,hm⟩:∃ m:Nat,m=k + 1:=⟨_,rfl⟩
   have e1:(x:Int) + ((y:Int) - (x:Int)) / 2=(k:Int):=by omega
   have e2:(k:Int) + 1=(m:Int):=by omega
   have K:Hid (k=x + (y - x) / 2/\m=k + 1/\x < m/\m<=y):=⟨hk,hm,by omega,by omega⟩
   have hm1:m < 18446744073709551616:=by omega
   have hk1:k < 18446744073709551616:=by omega
   have hmm:=mul_lt m m hm1 hm1
   clear hk hm
   by_cases hlt:a < m * m
   ·have cl:=fun W=>rless_v a (m * m) ha hmm true (decide_eq_true hlt) W
    have R:Hid (a < (m - 1 + 1) * (m - 1 + 1)):=by
     have:=K.out.2.2.1
     unfold Hid;rw [Nat.sub_add_cancel (by omega)];exact hlt
    clear hlt
    go_wp2
    go_region_held3 (fun w'=>w'.cell? ⟨w.heap.size,0,none⟩=some (.int .u64 (hi a))/\w'.cell? ⟨w.heap.size,1,none⟩=some (.int .u64 (lo a))) (first | (with_reducible exact call_keeps2 (by assumption) (by assumption)) | exact ⟨c0,c1⟩)
     (first
      | (go_at_call 72;refine (rmul_any m m hm1 hm1 _).mono ?_;rintro e w1 ⟨rfl,g1⟩)
      | (go_at_call 12;refine (cl _).mono ?_;rintro e w2 ⟨rfl,g2⟩))
    all_goals
     have hG:=(hg.drew.trans g1).trans g2
     have hm0:1<=m:=by have:=K.out;omega
     clear c0 c1 hg g1 g2
     go_wp2
     refine ⟨⟨x,m - 1,by go_num,?_,?_,by omega,⟨X.out.1,R.out⟩,hG⟩,?_⟩
     ·rw [Int.natCast_sub hm0];rfl
     ·have:=K.out;omega
     ·have:=K.out;simp [intOf];omega
   ·have cl:=fun W=>rless_v a (m * m) ha hmm false (decide_eq_false hlt) W
    have R:Hid (m * m<=a):=by unfold Hid;omega
    clear hlt
    go_wp2
    go_region_held3 (fun w'=>w'.cell? ⟨w.heap.size,0,none⟩=some (.int .u64 (hi a))/\w'.cell? ⟨w.heap.size,1,none⟩=some (.int .u64 (lo a))) (first | (with_reducible exact call_keeps2 (by assumption) (by assumption)) | exact ⟨c0,c1⟩)
     (first
      | (go_at_call 72;refine (rmul_any m m hm1 hm1 _).mono ?_;rintro e w1 ⟨rfl,g1⟩)
      | (go_at_call 12;refine (cl _).mono ?_;rintro e w2 ⟨rfl,g2⟩))
    all_goals
     have hG:=(hg.drew.trans g1).trans g2
     clear c0 c1 hg g1 g2
     go_wp2
     refine ⟨⟨m,y,rfl,by go_num,?_,hy,⟨R.out,X.out.2⟩,hG⟩,?_⟩
     ·have:=K.out;omega
     ·have:=K.out;simp [intOf];omega
  ·have hci:¬ (x:Int) < (y:Int):=by omega
   have E:Hid (x=rt a):=by
    have h1:=X.out
    rw [show y=x by omega] at h1
    exact root_one h1
   go_wp2
   go_ret
   exact ⟨by rw [<- E.out];rfl,((Gr.refl _).alloc _ _).trans hg⟩
end Go.Proofs.YtcipdampcmfmaabGreat
