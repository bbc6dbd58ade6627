import Derived.Test.YtgbgejflmbhigaaGreatKw7
namespace Go.Proofs.YtgbgejflmbhigaaGreat.Tk
open Go.RowKit Go.Sort
set_option maxRecDepth 100000
set_option maxHeartbeats 4000000
attribute [local go_sem ↓] Go.wp_at_zero Go.wp_at_succ
theorem down_c {w:World} {hb g n cap:Nat} {k:Int} {d:Array Ht} (h:Hp w hb k (.slice (some ⟨g,0,none⟩) n cap) d) (hs:d.size=n) (hn:n<=4000) (j:Nat) (hj:j < n) (hu:DownInv d j) :
  Calls Tryz.prog 176 #[.iface 191 (.pointer (some ⟨hb,1,none⟩)),.int .i64 j,.int .i64 n] w fun e w'=>(∃ b,e=.returned (.bool b))/\Fixed w w' hb g n cap k d:=by
 have H:Hid (Hp w hb k (.slice (some ⟨g,0,none⟩) n cap) d/\DownInv d j/\d.size=n):=⟨h,hu,hs⟩
 clear h hu hs
 go_enter Tryz.func176,Tryz.ntmps176
 go_wp2
 go_loopw [7] (fun iv w'=>∃ (q:Nat) (d':Array Ht),iv=.int .i64 (q:Int)/\q < n/\Hid (d'.toList.Perm d.toList/\DownInv d' q/\Hp w' hb k (.slice (some ⟨g,0,none⟩) n cap) d'/\Kp (fun b=>b=g) w w')) (fun iv _=>n - (intOf iv).toNat)
 case atStart=>exact ⟨j,d,rfl,hj,List.Perm.refl _,H.out.2.1,H.out.1,Kp.refl _ _⟩
 case round =>
  clear hj
  obtain ⟨q,d',rfl,hq,X⟩:=hrel
  have hcell:wr.cell? ⟨hb,1,none⟩=some (.slice (some ⟨g,0,none⟩) n cap):=X.out.2.2.1.cell1
  have hs':Hid (d'.size=n):=by have:=X.out.1.length_eq;have:=H.out.2.2;simp at *;unfold Hid;omega
  obtain ⟨c1,hc1⟩:∃ c1:Nat,c1=2 * q + 1:=⟨_,rfl⟩
  have e1:2 * (q:Int) + 1=(c1:Int):=by omega
  have C1:Hid (c1=2 * q + 1):=hc1
  by_cases h1:n<=c1
  ·have h1':(n:Int)<=(c1:Int):=by omega
   clear hc1
   go_wp2
   go_ret
   refine ⟨⟨_,rfl⟩,d',X.out.1,down_stop0 X.out.2.1 ?_,X.out.2.2.1,X.out.2.2.2⟩
   have:=hs'.out;have:=C1.out;omega
  have h1':(c1:Int) < (n:Int):=by omega
  have h1n:c1 < n:=by omega
  by_cases h2:n<=c1 + 1
  ·have h2':(n:Int)<=(c1:Int) + 1:=by omega
   have hch:Hid (Child d' q c1):=by
    have s1:=hs'.out;have s2:=C1.out;subst s2
    exact child_one (by omega) (by omega)
   clear hc1 h1 h2
   have hne:q ≠ c1:=by have:=C1.out;omega
   have Z:Hid (Hp wr hb k (.slice (some ⟨g,0,none⟩) n cap) d'/\Kp (fun b=>b=g) w wr):=X.out.2.2
   have hm:=inv_less hb _ wr Z.out.1.cell1
   have hl:=less73n Z.out.1.own hs'.out h1n hq
   obtain ⟨t,ht⟩:∃ t,t=hlt d'[q]! d'[c1]! := ⟨_,rfl⟩
   rw [<- ht] at hl
   have T:Hid (t=hlt d'[q]! d'[c1]!):=ht
   clear ht
   cases t with
   | false =>
    go_wp2_with fail
    refine hl.mono ?_
    rintro e v1 ⟨rfl,g1⟩
    clear hm hl
    go_wp2
    go_ret
    exact ⟨⟨_,rfl⟩,d',X.out.1,down_stop1 X.out.2.1 hch.out T.out.symm,Z.out.1.gr g1.gr,Z.out.2.trans (Kp.of_gr g1.gr)⟩
   | true =>
    go_wp2_with fail
    refine hl.mono ?_
    rintro e v1 ⟨rfl,g1⟩
    have H1:=Z.out.1.gr g1.gr
    have hm1:=inv_swap hb _ v1 H1.cell1
    have hsw:=swap74n H1 hs'.out hq h1n hne
    clear H1 hm hl
    go_wp2_with fail
    refine hsw.mono ?_
    rintro e v2 ⟨rfl,h2,k2⟩
    have h2':Hid (Hp v2 hb k (.slice (some ⟨g,0,none⟩) n cap) (swp d' q c1)):=h2
    clear h2 hsw hm1
    go_wp2
    go_roundw
    case rel=>exact ⟨c1,swp d' q c1,rfl,h1n,(swp_perm d' _ _ (by have:=hs'.out;omega) (by have:=hs'.out;omega)).trans X.out.1,down_step X.out.2.1 hch.out T.out.symm,h2'.out,(Z.out.2.trans (Kp.of_gr g1.gr)).trans k2⟩
    case measure=>have:=C1.out;simp [intOf];omega
  obtain ⟨c2,hc2⟩:∃ c2:Nat,c2=c1 + 1:=⟨_,rfl⟩
  have e2:(c1:Int) + 1=(c2:Int):=by omega
  have h2n:c2 < n:=by omega
  have h2':(c2:Int) < (n:Int):=by omega
  have C2:Hid (c2=c1 + 1):=hc2
  clear hc1 h1 h2 hc2
  have hm:=inv_less hb _ wr hcell
  have hl:=less73n X.out.2.2.1.own hs'.out h2n h1n
  obtain ⟨t,ht⟩:∃ t,t=hlt d'[c1]! d'[c2]! := ⟨_,rfl⟩
  rw [<- ht] at hl
  have T0:Hid (t=hlt d'[c1]! d'[c2]!):=ht
  clear ht
  cases t with
  | false =>
   have hch:Hid (Child d' q c1):=by
    have s1:=hs'.out;have s2:=C1.out;have s3:=C2.out;have s4:=T0.out;subst s2;subst s3
    exact child_l (by omega) s4.symm
   have hne:q ≠ c1:=by have:=C1.out;omega
   go_wp2_with fail
   refine hl.mono ?_
   rintro e w1 ⟨rfl,g0⟩
   have Z:Hid (Hp w1 hb k (.slice (some ⟨g,0,none⟩) n cap) d'/\Kp (fun b=>b=g) w w1):=⟨X.out.2.2.1.gr g0.gr,X.out.2.2.2.trans (Kp.of_gr g0.gr)⟩
   clear hl hm hcell
   have hm:=inv_less hb _ w1 Z.out.1.cell1
   have hl:=less73n Z.out.1.own hs'.out h1n hq
   obtain ⟨t,ht⟩:∃ t,t=hlt d'[q]! d'[c1]! := ⟨_,rfl⟩
   rw [<- ht] at hl
   have T:Hid (t=hlt d'[q]! d'[c1]!):=ht
   clear ht
   cases t with
   | false =>
    go_wp2_with fail
    refine hl.mono ?_
    rintro e v1 ⟨rfl,g1⟩
    clear hm hl
    go_wp2
    go_ret
    exact ⟨⟨_,rfl⟩,d',X.out.1,down_stop1 X.out.2.1 hch.out T.out.symm,Z.out.1.gr g1.gr,Z.out.2.trans (Kp.of_gr g1.gr)⟩
   | true =>
    go_wp2_with fail
    refine hl.mono ?_
    rintro e v1 ⟨rfl,g1⟩
    have H1:=Z.out.1.gr g1.gr
    have hm1:=inv_swap hb _ v1 H1.cell1
    have hsw:=swap74n H1 hs'.out hq h1n hne
    clear H1 hm hl
    go_wp2_with fail
    refine hsw.mono ?_
    rintro e v2 ⟨rfl,h2,k2⟩
    have h2':Hid (Hp v2 hb k (.slice (some ⟨g,0,none⟩) n cap) (swp d' q c1)):=h2
    clear h2 hsw hm1
    go_wp2
    go_roundw
    case rel=>exact ⟨c1,swp d' q c1,rfl,h1n,(swp_perm d' _ _ (by have:=hs'.out;omega) (by have:=hs'.out;omega)).trans X.out.1,down_step X.out.2.1 hch.out T.out.symm,h2'.out,(Z.out.2.trans (Kp.of_gr g1.gr)).trans k2⟩
    case measure=>have:=C1.out;simp [intOf];omega
  | true =>
   have hch:Hid (Child d' q c2):=by
    have s1:=hs'.out;have s2:=C1.out;have s3:=C2.out;have s4:=T0.out;subst s2;subst s3
    exact child_r (by omega) s4.symm
   have hne:q ≠ c2:=by have:=C1.out;have:=C2.out;omega
   go_wp2_with fail
   refine hl.mono ?_
   rintro e w1 ⟨rfl,g0⟩
   have Z:Hid (Hp w1 hb k (.slice (some ⟨g,0,none⟩) n cap) d'/\Kp (fun b=>b=g) w w1):=⟨X.out.2.2.1.gr g0.gr,X.out.2.2.2.trans (Kp.of_gr g0.gr)⟩
   clear hl hm hcell
   have hm:=inv_less hb _ w1 Z.out.1.cell1
   have hl:=less73n Z.out.1.own hs'.out h2n hq
   obtain ⟨t,ht⟩:∃ t,t=hlt d'[q]! d'[c2]! := ⟨_,rfl⟩
   rw [<- ht] at hl
   have T:Hid (t=hlt d'[q]! d'[c2]!):=ht
   clear ht
   cases t with
   | false =>
    go_wp2_with fail
    refine hl.mono ?_
    rintro e v1 ⟨rfl,g1⟩
    clear hm hl
    go_wp2
    go_ret
    exact ⟨⟨_,rfl⟩,d',X.out.1,down_stop1 X.out.2.1 hch.out T.out.symm,Z.out.1.gr g1.gr,Z.out.2.trans (Kp.of_gr g1.gr)⟩
   | true =>
    go_wp2_with fail
    refine hl.mono ?_
    rintro e v1 ⟨rfl,g1⟩
    have H1:=Z.out.1.gr g1.gr
    have hm1:=inv_swap hb _ v1 H1.cell1
    have hsw:=swap74n H1 hs'.out hq h2n hne
    clear H1 hm hl
    go_wp2_with fail
    refine hsw.mono ?_
    rintro e v2 ⟨rfl,h2,k2⟩
    have h2':Hid (Hp v2 hb k (.slice (some ⟨g,0,none⟩) n cap) (swp d' q c2)):=h2
    clear h2 hsw hm1
    go_wp2
    go_roundw
    case rel=>exact ⟨c2,swp d' q c2,rfl,h2n,(swp_perm d' _ _ (by have:=hs'.out;omega) (by have:=hs'.out;omega)).trans X.out.1,down_step X.out.2.1 hch.out T.out.symm,h2'.out,(Z.out.2.trans (Kp.of_gr g1.gr)).trans k2⟩
    case measure=>have:=C1.out;have:=C2.out;simp [intOf];omega
end Go.Proofs.YtgbgejflmbhigaaGreat.Tk
