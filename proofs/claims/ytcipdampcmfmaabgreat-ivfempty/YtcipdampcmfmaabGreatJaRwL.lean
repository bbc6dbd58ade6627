import Derived.Test.YtcipdampcmfmaabGreatJa15
import Derived.Test.YtcipdampcmfmaabGreatJaSmL
import Derived.Test.YtcipdampcmfmaabGreatJa4
namespace Go.Proofs.YtcipdampcmfmaabGreat
open Go.RowKit Go.Sort
set_option maxRecDepth 100000
set_option maxHeartbeats 16000000
theorem symR_cutA {w:World} {g o cap bf a m b md:Nat} {l:List El} {c lt:El->El->Prop} (ht:∀ x y z,lt x y->lt y z->lt x z) (h:SRA w g o l) (hl:l.length<=4000) (hb:b<=l.length) (hP:PreM c lt l a m b) (hc:CmpR w g bf l c) (ham:a + 1 < m) (hmb:m + 1 < b) (hmd:md=(a + b) / 2) (hcs:md < m) (RE:Hid (∀ (a' m' b':Nat) (l':List El) (W:World),b' - a' < b - a->a' < m'->m' < b'->b'<=l.length->l'.length=l.length->SRA W g o l'->PreM c lt l' a' m' b'->CmpR W g bf l' c->Calls Tryz.prog 160 #[.slice (some ⟨g,o,none⟩) l.length cap,.int .i64 (a':Int),.int .i64 (m':Int),.int .i64 (b':Int),.func (.func 79) #[] #[.pointer (some ⟨bf,0,none⟩)]] W fun e w'=>e=.returned (.tuple #[])/\∃ l2,Seg l' l2 a' b'/\Ri lt l2 a' b'/\SRA w' g o l2/\Tk.Kp (fun k=>k=g) W w')) :
  Calls Tryz.prog 160 #[.slice (some ⟨g,o,none⟩) l.length cap,.int .i64 (a:Int),.int .i64 (m:Int),.int .i64 (b:Int),.func (.func 79) #[] #[.pointer (some ⟨bf,0,none⟩)]] w fun e w'=>e=.returned (.tuple #[])/\∃ l',Seg l l' a b/\Ri lt l' a b/\SRA w' g o l'/\Tk.Kp (fun k=>k=g) w w':=by
 have H0:Hid (SRA w g o l):=h
 have CC:Hid (CmpR w g bf l c):=hc
 have PM:Hid (md=(a + b) / 2/\PreM c lt l a m b/\∀ x y z,lt x y->lt y z->lt x z):=⟨hmd,hP,ht⟩
 have em:(((m:Int) - (a:Int)) == 1)=false:=by rw [beq_eq_false_iff_ne];omega
 have eb:(((b:Int) - (m:Int)) == 1)=false:=by rw [beq_eq_false_iff_ne];omega
 have emd:((a:Int) + (b:Int)) / 2=(md:Int):=by omega
 obtain ⟨n,hn⟩:∃ n,n=md + m:=⟨_,rfl⟩
 have en0:(md:Int) + (m:Int)=(n:Int):=by omega
 obtain ⟨lo,hlo⟩:∃ lo,lo=md + m - b:=⟨_,rfl⟩
 have elo:(n:Int) - (b:Int)=(lo:Int):=by omega
 have hci:(md:Int) < (m:Int):=by omega
 obtain ⟨p,hp⟩:∃ p,p=n - 1:=⟨_,rfl⟩
 have ep:(n:Int) - 1=(p:Int):=by omega
 have NN:Hid (n=md + m/\p + 1=n/\lo=md + m - b/\lo + b=n):=⟨hn,by omega,hlo,by omega⟩
 have bd1:a<=lo/\lo<=md/\md<=m/\md<=md/\md < b/\n<=lo + b:=by omega
 have QB:Hid (∀ q,lo<=q->q < md->m<=p - q/\p - q < b/\q<=p):=fun q h1 h2=>by omega
 clear h hc hP ht hmd hn hp hlo
 go_enter Tryz.func160,Tryz.ntmps160
 go_wp2
 go_loopw [20,21] (fun iv jv W0=>∃ (W:World) (_:W=W0) (i j:Nat),iv=.int .i64 (i:Int)/\jv=.int .i64 (j:Int)/\lo<=i/\i<=j/\j<=md/\Hid ((i=lo ∨ ¬ c l[p + 1 - i]! l[i - 1]!)/\(j=md ∨ c l[p - j]! l[j]!)/\Tk.Gw w W)) (fun iv jv _=>(intOf jv).toNat - (intOf iv).toNat)
 case atStart=>exact ⟨_,rfl,lo,md,rfl,rfl,Nat.le_refl _,bd1.2.1,Nat.le_refl _,Or.inl rfl,Or.inl rfl,Tk.Gw.refl _⟩
 case round =>
  obtain ⟨W,hW,i,j,rfl,rfl,hai,hij,hjm,X⟩:=hrel
  subst hW
  by_cases hlt:i < j
  ·have hlti:(i:Int) < (j:Int):=by omega
   obtain ⟨q,hq⟩:∃ q,q=(i + j) / 2:=⟨_,rfl⟩
   have eh:((i:Int) + (j:Int)) / 2=(q:Int):=by omega
   have hiq:i<=q:=by omega
   have hqj:q < j:=by omega
   clear hq
   have QQ:=QB.out q (by omega) (by omega)
   obtain ⟨u,hu⟩:∃ u,u=p - q:=⟨_,rfl⟩
   have eu:(p:Int) - (q:Int)=(u:Int):=by omega
   have hh:u < l.length:=by omega
   have hk:q < l.length:=by omega
   have hhi:(u:Int) < (l.length:Int):=by omega
   have hki:(q:Int) < (l.length:Int):=by omega
   have wu:IntKind.i64.wrap (u:Int)=(u:Int):=wrap_small (by omega)
   obtain ⟨x,y,⟨c1,c1b⟩,⟨c2,c2b⟩,E1,E2,XL⟩:∃ x y:El,(W.cell? ⟨g,o + u * 2,none⟩=some (.int .i64 x.1)/\W.cell? ⟨g,o + u * 2 + 1,none⟩=some (sl x))/\(W.cell? ⟨g,o + q * 2,none⟩=some (.int .i64 y.1)/\W.cell? ⟨g,o + q * 2 + 1,none⟩=some (sl y))/\Hid (x ∈ l)/\Hid (y ∈ l)/\Hid (∀ z:Int,(z < 0 ↔ c x y)->(z < 0->c l[p - q]! l[q]!)/\(¬ z < 0->¬ c l[p + 1 - (q + 1)]! l[q + 1 - 1]!)) :=
    ⟨l[u]!,l[q]!,⟨gwk X.out.2.2 (H0.out.cell hh).1,gwk X.out.2.2 (H0.out.cell hh).2⟩,⟨gwk X.out.2.2 (H0.out.cell hk).1,gwk X.out.2.2 (H0.out.cell hk).2⟩,get_memR hh,get_memR hk,fun z hz=>⟨fun h=>by rw [<- hu];exact hz.1 h,fun h h'=>h (hz.2 (by rw [Nat.add_sub_cancel,show p + 1 - (q + 1)=u by omega] at h';exact h'))⟩⟩
   have KW:Hid (Tk.Kp (fun k=>k=g) w W):=Tk.Kp.of_gr X.out.2.2.gr
   obtain ⟨x1,x2,x3,x4⟩:=x
   obtain ⟨y1,y2,y3,y4⟩:=y
   simp only [sl] at c1 c1b c2 c2b
   clear hu QQ
   go_wp2
   refine wp_region_held_drew (S:=fun W2=>Tk.Gw W W2) (by kernel_rfl) ((Tk.Gw.refl W).drew) (fun hHeld=>?_)
   refine tkn 0 ?_ rfl ?_ ?_;rotate_left;·(intro w hSw;(have s1:=gwk hSw c1;have s2:=gwk hSw c2;have s3:=gwk hSw c1b;have s4:=gwk hSw c2b);go_simp;try rfl)
   try simp only [pt]
   refine tkn 1 ?_ rfl ?_ ?_;rotate_left;·(intro w hSw;(have s1:=gwk hSw c1;have s2:=gwk hSw c2;have s3:=gwk hSw c1b;have s4:=gwk hSw c2b);go_simp;try rfl)
   try simp only [pt]
   refine tkn 2 ?_ rfl ?_ ?_;rotate_left;·(intro w hSw;(have s1:=gwk hSw c1;have s2:=gwk hSw c2;have s3:=gwk hSw c1b;have s4:=gwk hSw c2b);go_simp;try rfl)
   try simp only [pt]
   refine tkn 3 ?_ rfl ?_ ?_;rotate_left;·(intro w hSw;(have s1:=gwk hSw c1;have s2:=gwk hSw c2;have s3:=gwk hSw c1b;have s4:=gwk hSw c2b);go_simp;try rfl)
   try simp only [pt]
   refine tkn 4 ?_ rfl ?_ ?_;rotate_left;·(intro w hSw;(have s1:=gwk hSw c1;have s2:=gwk hSw c2;have s3:=gwk hSw c1b;have s4:=gwk hSw c2b);go_simp;try rfl)
   try simp only [pt]
   refine tkn 5 ?_ rfl ?_ ?_;rotate_left;·(intro w hSw;(have s1:=gwk hSw c1;have s2:=gwk hSw c2;have s3:=gwk hSw c1b;have s4:=gwk hSw c2b);go_simp;try rfl)
   try simp only [pt]
   refine tkn 6 ?_ rfl ?_ ?_;rotate_left;·(intro w hSw;(have s1:=gwk hSw c1;have s2:=gwk hSw c2;have s3:=gwk hSw c1b;have s4:=gwk hSw c2b);go_simp;try rfl)
   try simp only [pt]
   refine tkn 7 ?_ rfl ?_ ?_;rotate_left;·(intro w hSw;(have s1:=gwk hSw c1;have s2:=gwk hSw c2;have s3:=gwk hSw c1b;have s4:=gwk hSw c2b);go_simp;try rfl)
   try simp only [pt]
   refine tkn 8 ?_ rfl ?_ ?_;rotate_left;·(intro w hSw;(have s1:=gwk hSw c1;have s2:=gwk hSw c2;have s3:=gwk hSw c1b;have s4:=gwk hSw c2b);go_simp;try rfl)
   try simp only [pt]
   refine tkn 9 ?_ rfl ?_ ?_;rotate_left;·(intro w hSw;(have s1:=gwk hSw c1;have s2:=gwk hSw c2;have s3:=gwk hSw c1b;have s4:=gwk hSw c2b);go_simp;try rfl)
   try simp only [pt]
   refine tkn 10 ?_ rfl ?_ ?_;rotate_left;·(intro w hSw;(have s1:=gwk hSw c1;have s2:=gwk hSw c2;have s3:=gwk hSw c1b;have s4:=gwk hSw c2b);go_simp;try rfl)
   try simp only [pt]
   refine rdn 11 rfl (fun K hK=>?_)
   go_simp
   refine (CC.out _ (KW.out.trans (Tk.Kp.of_gr hHeld.gr)) _ _ E1.out E2.out).mono ?_
   rintro e wa ⟨z,rfl,hz,ga⟩
   refine hK.out _ _ (hHeld.trans ga) (fun hHeld=>?_)
   clear hK K
   try simp only [pt]
   refine tkn 12 ?_ rfl ?_ ?_;rotate_left;·(intro w hSw;(have s1:=gwk hSw c1;have s2:=gwk hSw c2;have s3:=gwk hSw c1b;have s4:=gwk hSw c2b);go_simp;try rfl)
   try simp only [pt]
   refine tkn 13 ?_ rfl ?_ ?_;rotate_left;·(intro w hSw;(have s1:=gwk hSw c1;have s2:=gwk hSw c2;have s3:=gwk hSw c1b;have s4:=gwk hSw c2b);go_simp;try rfl)
   try simp only [pt]
   refine wpAnyH_done (by kernel_rfl) ?_ _
   have XZ:Hid _:=XL.out z hz
   clear hz XL
   go_wp2
   ·rename_i hd
    have hz0:¬ z < 0:=by simpa using hd
    have Y:Hid ((q + 1=lo ∨ ¬ c l[p + 1 - (q + 1)]! l[q + 1 - 1]!)/\(j=md ∨ c l[p - j]! l[j]!)/\Tk.Gw w _):=⟨Or.inr (XZ.out.2 (by omega)),X.out.2.1,X.out.2.2.trans hHeld⟩
    clear XZ X
    go_roundw
    case rel=>exact ⟨_,rfl,q + 1,j,by go_num,rfl,by omega,by omega,hjm,Y.out⟩
    case measure=>simp [intOf];omega
   ·rename_i hd
    have hz0:z < 0:=by simpa using hd
    have Y:Hid ((i=lo ∨ ¬ c l[p + 1 - i]! l[i - 1]!)/\(q=md ∨ c l[p - q]! l[q]!)/\Tk.Gw w _):=⟨X.out.1,Or.inr (XZ.out.1 hz0),X.out.2.2.trans hHeld⟩
    clear XZ X
    go_roundw
    case rel=>exact ⟨_,rfl,i,q,rfl,rfl,hai,hiq,by omega,Y.out⟩
    case measure=>simp [intOf];omega
  ·obtain rfl:i=j:=by omega
   obtain ⟨st,hst⟩:∃ st,st=i:=⟨_,rfl⟩
   subst hst
   obtain ⟨en,hen⟩:∃ en,en=n - st:=⟨_,rfl⟩
   have een:(n:Int) - (st:Int)=(en:Int):=by have:=NN.out;omega
   have HI:Hid (SRA W g o l/\Tk.Kp (fun k=>k=g) w W):=⟨H0.out.same (X.out.2.2.gr.block _ H0.out.lt),Tk.Kp.of_gr X.out.2.2.gr⟩
   have CUT:Hid (∀ l1,Rot l l1 st m en->(a<=st/\st<=md/\st<=m/\m<=en/\md<=en/\en<=b)/\PreM c lt l1 a st md/\PreM c lt l1 md en b/\∀ i j,a<=i->i < md->md<=j->j < b->lt l1[i]! l1[j]!):=fun l1 hr=>by
    obtain ⟨hmd,hP,ht⟩:=PM.out
    have nn:=NN.out
    have e1:(if md < m then md + m - b else a)=lo:=by rw [if_pos hcs];omega
    have e2:(if md < m then md else m)=md:=by rw [if_pos hcs]
    refine merge_cut c lt ht hP ⟨by omega,by omega⟩ hmd (by omega) (by rw [e1];exact hai) (by rw [e2];exact hjm) ?_ ?_ hr
    ·rw [e1]
     rcases X.out.1 with h1 | h1
     ·exact Or.inl h1
     ·refine Or.inr ?_
      rw [show en=p + 1 - st by omega];exact h1
    ·rw [e2]
     rcases X.out.2.1 with h1 | h1
     ·exact Or.inl h1
     ·refine Or.inr ?_
      rw [show en - 1=p - st by omega];exact h1
   have B1:Hid (a<=st/\st<=md/\st<=m/\m<=en/\md<=en/\en<=b):=by have nn:=NN.out;unfold Hid;omega
   have B2:=B1.out
   have EN:Hid (en + st=md + m/\md < m):=⟨by have nn:=NN.out;omega,hcs⟩
   have ROT:Hid (st < m->m < en->Calls Tryz.prog 185 #[.slice (some ⟨g,o,none⟩) l.length cap,.int .i64 (st:Int),.int .i64 (m:Int),.int .i64 (en:Int),.func (.func 79) #[] #[.pointer (some ⟨bf,0,none⟩)]] W fun e w'=>e=.returned (.tuple #[])/\∃ l',Rot l l' st m en/\SRA w' g o l'/\Tk.Kp (fun k=>k=g) W w'):=fun h1 h2=>rotateR _ HI.out.1 hl h1 h2 (by have:=B1.out;omega)
   have szm:md - a < b - a/\b - md < b - a:=by have:=PM.out.1;omega
   clear X H0 PM em eb hen hij hai hjm QB bd1 hcs
   by_cases hr:st < m/\m < en
   ·have rI1:(st:Int) < (m:Int):=by omega
    have rI2:(m:Int) < (en:Int):=by omega
    by_cases hL:a < st/\st < md
    ·have lI1:(a:Int) < (st:Int):=by omega
     have lI2:(st:Int) < (md:Int):=by omega
     by_cases hR:md < en/\en < b
     ·have eI1:(md:Int) < (en:Int):=by omega
      have eI2:(en:Int) < (b:Int):=by omega
      first
      | (exfalso;have:=EN.out;omega)
      |
       have S:=ROT.out hr.1 hr.2
       go_wp2_with fail
       refine S.mono ?_
       rintro e w1 ⟨rfl,l1,r1,a1,k1⟩
       have Z:Hid _:=CUT.out l1 r1
       have KA:Hid (SRA w1 g o l1/\Tk.Kp (fun k=>k=g) w w1/\l1.Perm l/\Seg l l1 a b):=⟨a1,HI.out.2.trans k1,r1.perm,r1.seg.mono B1.out.1 B1.out.2.2.2.2.2⟩
       clear a1 k1 r1 S
       have S1:=RE.out a st md l1 w1 (by omega) hL.1 hL.2 (by omega) KA.out.2.2.1.length_eq KA.out.1 Z.out.2.1 (CC.out.later KA.out.2.1 KA.out.2.2.1)
       go_wp2_with fail
       refine S1.mono ?_
       rintro e w2 ⟨rfl,l2,s2,i2,a2,k2⟩
       have KB:Hid (SRA w2 g o l2/\Tk.Kp (fun k=>k=g) w w2/\l2.Perm l/\Seg l1 l2 a md/\Ri lt l2 a md):=⟨a2,KA.out.2.1.trans k2,s2.perm.trans KA.out.2.2.1,s2,i2⟩
       clear S1 s2 i2 a2 k2
       have PR:Hid (PreM c lt l2 md en b):=Z.out.2.2.1.same c lt (fun i h1 h2=>KB.out.2.2.2.1.out i (Or.inr h1)) ⟨by omega,by omega⟩
       have S2:=RE.out md en b l2 w2 (by omega) hR.1 hR.2 (by omega) KB.out.2.2.1.length_eq KB.out.1 PR.out (CC.out.later KB.out.2.1 KB.out.2.2.1)
       go_wp2_with fail
       refine S2.mono ?_
       rintro e w3 ⟨rfl,l3,s3,i3,a3,k3⟩
       go_wp2
       go_end0
       have hlen:=KA.out.2.2.1.length_eq
       exact ⟨rfl,l3,(KA.out.2.2.2.trans (KB.out.2.2.2.1.mono (Nat.le_refl _) (by omega))).trans (s3.mono (by omega) (Nat.le_refl _)),merge_fin lt ⟨by omega,by omega⟩ (by omega) KB.out.2.2.2.1 KB.out.2.2.2.2 s3 i3 Z.out.2.2.2,a3,KB.out.2.1.trans k3⟩
     ·have eI1:((md:Int) < (en:Int)/\¬ (en:Int) < (b:Int)) ∨ ¬ (md:Int) < (en:Int):=by omega
      rcases eI1 with ⟨eI1,eI1b⟩ | eI1 <;>
      ·first
       | (exfalso;have:=EN.out;omega)
       |
        have S:=ROT.out hr.1 hr.2
        go_wp2_with fail
        refine S.mono ?_
        rintro e w1 ⟨rfl,l1,r1,a1,k1⟩
        have Z:Hid _:=CUT.out l1 r1
        have KA:Hid (SRA w1 g o l1/\Tk.Kp (fun k=>k=g) w w1/\l1.Perm l/\Seg l l1 a b):=⟨a1,HI.out.2.trans k1,r1.perm,r1.seg.mono B1.out.1 B1.out.2.2.2.2.2⟩
        clear a1 k1 r1 S
        have S1:=RE.out a st md l1 w1 (by omega) hL.1 hL.2 (by omega) KA.out.2.2.1.length_eq KA.out.1 Z.out.2.1 (CC.out.later KA.out.2.1 KA.out.2.2.1)
        go_wp2_with fail
        refine S1.mono ?_
        rintro e w2 ⟨rfl,l2,s2,i2,a2,k2⟩
        have KB:Hid (SRA w2 g o l2/\Tk.Kp (fun k=>k=g) w w2/\l2.Perm l/\Seg l1 l2 a md/\Ri lt l2 a md):=⟨a2,KA.out.2.1.trans k2,s2.perm.trans KA.out.2.2.1,s2,i2⟩
        clear S1 s2 i2 a2 k2
        have PR:Hid (PreM c lt l2 md en b):=Z.out.2.2.1.same c lt (fun i h1 h2=>KB.out.2.2.2.1.out i (Or.inr h1)) ⟨by omega,by omega⟩
        have RR:Hid (Ri lt l2 md b):=by
         have q:=PR.out
         by_cases h1:en=md
         ·have:=q.right;rw [h1] at this;exact this
         ·have:=q.left;rw [show en=b by omega] at this;exact this
        go_wp2
        go_end0
        have hlen:=KA.out.2.2.1.length_eq
        exact ⟨rfl,l2,KA.out.2.2.2.trans (KB.out.2.2.2.1.mono (Nat.le_refl _) (by omega)),merge_fin lt ⟨by omega,by omega⟩ (by omega) KB.out.2.2.2.1 KB.out.2.2.2.2 (Seg.refl _ _ _) RR.out Z.out.2.2.2,KB.out.1,KB.out.2.1⟩
    ·have lI1:((a:Int) < (st:Int)/\¬ (st:Int) < (md:Int)) ∨ ¬ (a:Int) < (st:Int):=by omega
     by_cases hR:md < en/\en < b
     ·have eI1:(md:Int) < (en:Int):=by omega
      have eI2:(en:Int) < (b:Int):=by omega
      rcases lI1 with ⟨lI1,lI1b⟩ | lI1 <;>
      ·first
       | (exfalso;have:=EN.out;omega)
       |
        have S:=ROT.out hr.1 hr.2
        go_wp2_with fail
        refine S.mono ?_
        rintro e w1 ⟨rfl,l1,r1,a1,k1⟩
        have Z:Hid _:=CUT.out l1 r1
        have KA:Hid (SRA w1 g o l1/\Tk.Kp (fun k=>k=g) w w1/\l1.Perm l/\Seg l l1 a b):=⟨a1,HI.out.2.trans k1,r1.perm,r1.seg.mono B1.out.1 B1.out.2.2.2.2.2⟩
        clear a1 k1 r1 S
        have KB:Hid (SRA w1 g o l1/\Tk.Kp (fun k=>k=g) w w1/\l1.Perm l/\Seg l1 l1 a md/\Ri lt l1 a md):=⟨KA.out.1,KA.out.2.1,KA.out.2.2.1,Seg.refl _ _ _,by
         have q:=Z.out.2.1
         by_cases h1:st=a
         ·have:=q.right;rw [h1] at this;exact this
         ·have:=q.left;rw [show st=md by omega] at this;exact this⟩
        have PR:Hid (PreM c lt l1 md en b):=Z.out.2.2.1.same c lt (fun i h1 h2=>KB.out.2.2.2.1.out i (Or.inr h1)) ⟨by omega,by omega⟩
        have S2:=RE.out md en b l1 w1 (by omega) hR.1 hR.2 (by omega) KB.out.2.2.1.length_eq KB.out.1 PR.out (CC.out.later KB.out.2.1 KB.out.2.2.1)
        go_wp2_with fail
        refine S2.mono ?_
        rintro e w3 ⟨rfl,l3,s3,i3,a3,k3⟩
        go_wp2
        go_end0
        have hlen:=KA.out.2.2.1.length_eq
        exact ⟨rfl,l3,(KA.out.2.2.2.trans (KB.out.2.2.2.1.mono (Nat.le_refl _) (by omega))).trans (s3.mono (by omega) (Nat.le_refl _)),merge_fin lt ⟨by omega,by omega⟩ (by omega) KB.out.2.2.2.1 KB.out.2.2.2.2 s3 i3 Z.out.2.2.2,a3,KB.out.2.1.trans k3⟩
     ·have eI1:((md:Int) < (en:Int)/\¬ (en:Int) < (b:Int)) ∨ ¬ (md:Int) < (en:Int):=by omega
      rcases lI1 with ⟨lI1,lI1b⟩ | lI1 <;> rcases eI1 with ⟨eI1,eI1b⟩ | eI1 <;>
      ·first
       | (exfalso;have:=EN.out;omega)
       |
        have S:=ROT.out hr.1 hr.2
        go_wp2_with fail
        refine S.mono ?_
        rintro e w1 ⟨rfl,l1,r1,a1,k1⟩
        have Z:Hid _:=CUT.out l1 r1
        have KA:Hid (SRA w1 g o l1/\Tk.Kp (fun k=>k=g) w w1/\l1.Perm l/\Seg l l1 a b):=⟨a1,HI.out.2.trans k1,r1.perm,r1.seg.mono B1.out.1 B1.out.2.2.2.2.2⟩
        clear a1 k1 r1 S
        have KB:Hid (SRA w1 g o l1/\Tk.Kp (fun k=>k=g) w w1/\l1.Perm l/\Seg l1 l1 a md/\Ri lt l1 a md):=⟨KA.out.1,KA.out.2.1,KA.out.2.2.1,Seg.refl _ _ _,by
         have q:=Z.out.2.1
         by_cases h1:st=a
         ·have:=q.right;rw [h1] at this;exact this
         ·have:=q.left;rw [show st=md by omega] at this;exact this⟩
        have PR:Hid (PreM c lt l1 md en b):=Z.out.2.2.1.same c lt (fun i h1 h2=>KB.out.2.2.2.1.out i (Or.inr h1)) ⟨by omega,by omega⟩
        have RR:Hid (Ri lt l1 md b):=by
         have q:=PR.out
         by_cases h1:en=md
         ·have:=q.right;rw [h1] at this;exact this
         ·have:=q.left;rw [show en=b by omega] at this;exact this
        go_wp2
        go_end0
        have hlen:=KA.out.2.2.1.length_eq
        exact ⟨rfl,l1,KA.out.2.2.2.trans (KB.out.2.2.2.1.mono (Nat.le_refl _) (by omega)),merge_fin lt ⟨by omega,by omega⟩ (by omega) KB.out.2.2.2.1 KB.out.2.2.2.2 (Seg.refl _ _ _) RR.out Z.out.2.2.2,KB.out.1,KB.out.2.1⟩
   ·have rI0:(decide ((st:Int) < (m:Int)) && decide ((m:Int) < (en:Int)))=false:=by simp;omega
    have rI1:((st:Int) < (m:Int)/\¬ (m:Int) < (en:Int)) ∨ ¬ (st:Int) < (m:Int):=by omega
    by_cases hL:a < st/\st < md
    ·have lI1:(a:Int) < (st:Int):=by omega
     have lI2:(st:Int) < (md:Int):=by omega
     by_cases hR:md < en/\en < b
     ·have eI1:(md:Int) < (en:Int):=by omega
      have eI2:(en:Int) < (b:Int):=by omega
      rcases rI1 with ⟨rI1,rI1b⟩ | rI1 <;>
      ·first
       | (exfalso;have:=EN.out;omega)
       |
        have Z:Hid _:=CUT.out l (Rot.none l (by omega) ⟨by omega,by omega⟩)
        have KA:Hid (SRA W g o l/\Tk.Kp (fun k=>k=g) w W/\l.Perm l/\Seg l l a b):=⟨HI.out.1,HI.out.2,List.Perm.refl _,Seg.refl _ _ _⟩
        have S1:=RE.out a st md l W (by omega) hL.1 hL.2 (by omega) KA.out.2.2.1.length_eq KA.out.1 Z.out.2.1 (CC.out.later KA.out.2.1 KA.out.2.2.1)
        go_wp2_with fail
        refine S1.mono ?_
        rintro e w2 ⟨rfl,l2,s2,i2,a2,k2⟩
        have KB:Hid (SRA w2 g o l2/\Tk.Kp (fun k=>k=g) w w2/\l2.Perm l/\Seg l l2 a md/\Ri lt l2 a md):=⟨a2,KA.out.2.1.trans k2,s2.perm.trans KA.out.2.2.1,s2,i2⟩
        clear S1 s2 i2 a2 k2
        have PR:Hid (PreM c lt l2 md en b):=Z.out.2.2.1.same c lt (fun i h1 h2=>KB.out.2.2.2.1.out i (Or.inr h1)) ⟨by omega,by omega⟩
        have S2:=RE.out md en b l2 w2 (by omega) hR.1 hR.2 (by omega) KB.out.2.2.1.length_eq KB.out.1 PR.out (CC.out.later KB.out.2.1 KB.out.2.2.1)
        go_wp2_with fail
        refine S2.mono ?_
        rintro e w3 ⟨rfl,l3,s3,i3,a3,k3⟩
        go_wp2
        go_end0
        have hlen:=KA.out.2.2.1.length_eq
        exact ⟨rfl,l3,(KA.out.2.2.2.trans (KB.out.2.2.2.1.mono (Nat.le_refl _) (by omega))).trans (s3.mono (by omega) (Nat.le_refl _)),merge_fin lt ⟨by omega,by omega⟩ (by omega) KB.out.2.2.2.1 KB.out.2.2.2.2 s3 i3 Z.out.2.2.2,a3,KB.out.2.1.trans k3⟩
     ·have eI1:((md:Int) < (en:Int)/\¬ (en:Int) < (b:Int)) ∨ ¬ (md:Int) < (en:Int):=by omega
      rcases rI1 with ⟨rI1,rI1b⟩ | rI1 <;> rcases eI1 with ⟨eI1,eI1b⟩ | eI1 <;>
      ·first
       | (exfalso;have:=EN.out;omega)
       |
        have Z:Hid _:=CUT.out l (Rot.none l (by omega) ⟨by omega,by omega⟩)
        have KA:Hid (SRA W g o l/\Tk.Kp (fun k=>k=g) w W/\l.Perm l/\Seg l l a b):=⟨HI.out.1,HI.out.2,List.Perm.refl _,Seg.refl _ _ _⟩
        have S1:=RE.out a st md l W (by omega) hL.1 hL.2 (by omega) KA.out.2.2.1.length_eq KA.out.1 Z.out.2.1 (CC.out.later KA.out.2.1 KA.out.2.2.1)
        go_wp2_with fail
        refine S1.mono ?_
        rintro e w2 ⟨rfl,l2,s2,i2,a2,k2⟩
        have KB:Hid (SRA w2 g o l2/\Tk.Kp (fun k=>k=g) w w2/\l2.Perm l/\Seg l l2 a md/\Ri lt l2 a md):=⟨a2,KA.out.2.1.trans k2,s2.perm.trans KA.out.2.2.1,s2,i2⟩
        clear S1 s2 i2 a2 k2
        have PR:Hid (PreM c lt l2 md en b):=Z.out.2.2.1.same c lt (fun i h1 h2=>KB.out.2.2.2.1.out i (Or.inr h1)) ⟨by omega,by omega⟩
        have RR:Hid (Ri lt l2 md b):=by
         have q:=PR.out
         by_cases h1:en=md
         ·have:=q.right;rw [h1] at this;exact this
         ·have:=q.left;rw [show en=b by omega] at this;exact this
        go_wp2
        go_end0
        have hlen:=KA.out.2.2.1.length_eq
        exact ⟨rfl,l2,KA.out.2.2.2.trans (KB.out.2.2.2.1.mono (Nat.le_refl _) (by omega)),merge_fin lt ⟨by omega,by omega⟩ (by omega) KB.out.2.2.2.1 KB.out.2.2.2.2 (Seg.refl _ _ _) RR.out Z.out.2.2.2,KB.out.1,KB.out.2.1⟩
    ·have lI1:((a:Int) < (st:Int)/\¬ (st:Int) < (md:Int)) ∨ ¬ (a:Int) < (st:Int):=by omega
     by_cases hR:md < en/\en < b
     ·have eI1:(md:Int) < (en:Int):=by omega
      have eI2:(en:Int) < (b:Int):=by omega
      rcases rI1 with ⟨rI1,rI1b⟩ | rI1 <;> rcases lI1 with ⟨lI1,lI1b⟩ | lI1 <;>
      ·first
       | (exfalso;have:=EN.out;omega)
       |
        have Z:Hid _:=CUT.out l (Rot.none l (by omega) ⟨by omega,by omega⟩)
        have KA:Hid (SRA W g o l/\Tk.Kp (fun k=>k=g) w W/\l.Perm l/\Seg l l a b):=⟨HI.out.1,HI.out.2,List.Perm.refl _,Seg.refl _ _ _⟩
        have KB:Hid (SRA W g o l/\Tk.Kp (fun k=>k=g) w W/\l.Perm l/\Seg l l a md/\Ri lt l a md):=⟨KA.out.1,KA.out.2.1,KA.out.2.2.1,Seg.refl _ _ _,by
         have q:=Z.out.2.1
         by_cases h1:st=a
         ·have:=q.right;rw [h1] at this;exact this
         ·have:=q.left;rw [show st=md by omega] at this;exact this⟩
        have PR:Hid (PreM c lt l md en b):=Z.out.2.2.1.same c lt (fun i h1 h2=>KB.out.2.2.2.1.out i (Or.inr h1)) ⟨by omega,by omega⟩
        have S2:=RE.out md en b l W (by omega) hR.1 hR.2 (by omega) KB.out.2.2.1.length_eq KB.out.1 PR.out (CC.out.later KB.out.2.1 KB.out.2.2.1)
        go_wp2_with fail
        refine S2.mono ?_
        rintro e w3 ⟨rfl,l3,s3,i3,a3,k3⟩
        go_wp2
        go_end0
        have hlen:=KA.out.2.2.1.length_eq
        exact ⟨rfl,l3,(KA.out.2.2.2.trans (KB.out.2.2.2.1.mono (Nat.le_refl _) (by omega))).trans (s3.mono (by omega) (Nat.le_refl _)),merge_fin lt ⟨by omega,by omega⟩ (by omega) KB.out.2.2.2.1 KB.out.2.2.2.2 s3 i3 Z.out.2.2.2,a3,KB.out.2.1.trans k3⟩
     ·have eI1:((md:Int) < (en:Int)/\¬ (en:Int) < (b:Int)) ∨ ¬ (md:Int) < (en:Int):=by omega
      rcases rI1 with ⟨rI1,rI1b⟩ | rI1 <;> rcases lI1 with ⟨lI1,lI1b⟩ | lI1 <;> rcases eI1 with ⟨eI1,eI1b⟩ | eI1 <;>
      ·first
       | (exfalso;have:=EN.out;omega)
       |
        have Z:Hid _:=CUT.out l (Rot.none l (by omega) ⟨by omega,by omega⟩)
        have KA:Hid (SRA W g o l/\Tk.Kp (fun k=>k=g) w W/\l.Perm l/\Seg l l a b):=⟨HI.out.1,HI.out.2,List.Perm.refl _,Seg.refl _ _ _⟩
        have KB:Hid (SRA W g o l/\Tk.Kp (fun k=>k=g) w W/\l.Perm l/\Seg l l a md/\Ri lt l a md):=⟨KA.out.1,KA.out.2.1,KA.out.2.2.1,Seg.refl _ _ _,by
         have q:=Z.out.2.1
         by_cases h1:st=a
         ·have:=q.right;rw [h1] at this;exact this
         ·have:=q.left;rw [show st=md by omega] at this;exact this⟩
        have PR:Hid (PreM c lt l md en b):=Z.out.2.2.1.same c lt (fun i h1 h2=>KB.out.2.2.2.1.out i (Or.inr h1)) ⟨by omega,by omega⟩
        have RR:Hid (Ri lt l md b):=by
         have q:=PR.out
         by_cases h1:en=md
         ·have:=q.right;rw [h1] at this;exact this
         ·have:=q.left;rw [show en=b by omega] at this;exact this
        go_wp2
        go_end0
        have hlen:=KA.out.2.2.1.length_eq
        exact ⟨rfl,l,KA.out.2.2.2.trans (KB.out.2.2.2.1.mono (Nat.le_refl _) (by omega)),merge_fin lt ⟨by omega,by omega⟩ (by omega) KB.out.2.2.2.1 KB.out.2.2.2.2 (Seg.refl _ _ _) RR.out Z.out.2.2.2,KB.out.1,KB.out.2.1⟩
theorem symR_cutB {w:World} {g o cap bf a m b md:Nat} {l:List El} {c lt:El->El->Prop} (ht:∀ x y z,lt x y->lt y z->lt x z) (h:SRA w g o l) (hl:l.length<=4000) (hb:b<=l.length) (hP:PreM c lt l a m b) (hc:CmpR w g bf l c) (ham:a + 1 < m) (hmb:m + 1 < b) (hmd:md=(a + b) / 2) (hcs:¬ md < m) (RE:Hid (∀ (a' m' b':Nat) (l':List El) (W:World),b' - a' < b - a->a' < m'->m' < b'->b'<=l.length->l'.length=l.length->SRA W g o l'->PreM c lt l' a' m' b'->CmpR W g bf l' c->Calls Tryz.prog 160 #[.slice (some ⟨g,o,none⟩) l.length cap,.int .i64 (a':Int),.int .i64 (m':Int),.int .i64 (b':Int),.func (.func 79) #[] #[.pointer (some ⟨bf,0,none⟩)]] W fun e w'=>e=.returned (.tuple #[])/\∃ l2,Seg l' l2 a' b'/\Ri lt l2 a' b'/\SRA w' g o l2/\Tk.Kp (fun k=>k=g) W w')) :
  Calls Tryz.prog 160 #[.slice (some ⟨g,o,none⟩) l.length cap,.int .i64 (a:Int),.int .i64 (m:Int),.int .i64 (b:Int),.func (.func 79) #[] #[.pointer (some ⟨bf,0,none⟩)]] w fun e w'=>e=.returned (.tuple #[])/\∃ l',Seg l l' a b/\Ri lt l' a b/\SRA w' g o l'/\Tk.Kp (fun k=>k=g) w w':=by
 have H0:Hid (SRA w g o l):=h
 have CC:Hid (CmpR w g bf l c):=hc
 have PM:Hid (md=(a + b) / 2/\PreM c lt l a m b/\∀ x y z,lt x y->lt y z->lt x z):=⟨hmd,hP,ht⟩
 have em:(((m:Int) - (a:Int)) == 1)=false:=by rw [beq_eq_false_iff_ne];omega
 have eb:(((b:Int) - (m:Int)) == 1)=false:=by rw [beq_eq_false_iff_ne];omega
 have emd:((a:Int) + (b:Int)) / 2=(md:Int):=by omega
 obtain ⟨n,hn⟩:∃ n,n=md + m:=⟨_,rfl⟩
 have en0:(md:Int) + (m:Int)=(n:Int):=by omega
 skip
 skip
 have hci:¬ (md:Int) < (m:Int):=by omega
 obtain ⟨p,hp⟩:∃ p,p=n - 1:=⟨_,rfl⟩
 have ep:(n:Int) - 1=(p:Int):=by omega
 have NN:Hid (n=md + m/\p + 1=n ):=⟨hn,by omega⟩
 have bd1:a<=a/\a<=m/\m<=m/\m<=md/\md < b/\n<=a + b:=by omega
 have QB:Hid (∀ q,a<=q->q < m->m<=p - q/\p - q < b/\q<=p):=fun q h1 h2=>by omega
 clear h hc hP ht hmd hn hp
 go_enter Tryz.func160,Tryz.ntmps160
 go_wp2
 go_loopw [20,21] (fun iv jv W0=>∃ (W:World) (_:W=W0) (i j:Nat),iv=.int .i64 (i:Int)/\jv=.int .i64 (j:Int)/\a<=i/\i<=j/\j<=m/\Hid ((i=a ∨ ¬ c l[p + 1 - i]! l[i - 1]!)/\(j=m ∨ c l[p - j]! l[j]!)/\Tk.Gw w W)) (fun iv jv _=>(intOf jv).toNat - (intOf iv).toNat)
 case atStart=>exact ⟨_,rfl,a,m,rfl,rfl,Nat.le_refl _,bd1.2.1,Nat.le_refl _,Or.inl rfl,Or.inl rfl,Tk.Gw.refl _⟩
 case round =>
  obtain ⟨W,hW,i,j,rfl,rfl,hai,hij,hjm,X⟩:=hrel
  subst hW
  by_cases hlt:i < j
  ·have hlti:(i:Int) < (j:Int):=by omega
   obtain ⟨q,hq⟩:∃ q,q=(i + j) / 2:=⟨_,rfl⟩
   have eh:((i:Int) + (j:Int)) / 2=(q:Int):=by omega
   have hiq:i<=q:=by omega
   have hqj:q < j:=by omega
   clear hq
   have QQ:=QB.out q (by omega) (by omega)
   obtain ⟨u,hu⟩:∃ u,u=p - q:=⟨_,rfl⟩
   have eu:(p:Int) - (q:Int)=(u:Int):=by omega
   have hh:u < l.length:=by omega
   have hk:q < l.length:=by omega
   have hhi:(u:Int) < (l.length:Int):=by omega
   have hki:(q:Int) < (l.length:Int):=by omega
   have wu:IntKind.i64.wrap (u:Int)=(u:Int):=wrap_small (by omega)
   obtain ⟨x,y,⟨c1,c1b⟩,⟨c2,c2b⟩,E1,E2,XL⟩:∃ x y:El,(W.cell? ⟨g,o + u * 2,none⟩=some (.int .i64 x.1)/\W.cell? ⟨g,o + u * 2 + 1,none⟩=some (sl x))/\(W.cell? ⟨g,o + q * 2,none⟩=some (.int .i64 y.1)/\W.cell? ⟨g,o + q * 2 + 1,none⟩=some (sl y))/\Hid (x ∈ l)/\Hid (y ∈ l)/\Hid (∀ z:Int,(z < 0 ↔ c x y)->(z < 0->c l[p - q]! l[q]!)/\(¬ z < 0->¬ c l[p + 1 - (q + 1)]! l[q + 1 - 1]!)) :=
    ⟨l[u]!,l[q]!,⟨gwk X.out.2.2 (H0.out.cell hh).1,gwk X.out.2.2 (H0.out.cell hh).2⟩,⟨gwk X.out.2.2 (H0.out.cell hk).1,gwk X.out.2.2 (H0.out.cell hk).2⟩,get_memR hh,get_memR hk,fun z hz=>⟨fun h=>by rw [<- hu];exact hz.1 h,fun h h'=>h (hz.2 (by rw [Nat.add_sub_cancel,show p + 1 - (q + 1)=u by omega] at h';exact h'))⟩⟩
   have KW:Hid (Tk.Kp (fun k=>k=g) w W):=Tk.Kp.of_gr X.out.2.2.gr
   obtain ⟨x1,x2,x3,x4⟩:=x
   obtain ⟨y1,y2,y3,y4⟩:=y
   simp only [sl] at c1 c1b c2 c2b
   clear hu QQ
   go_wp2
   refine wp_region_held_drew (S:=fun W2=>Tk.Gw W W2) (by kernel_rfl) ((Tk.Gw.refl W).drew) (fun hHeld=>?_)
   refine tkn 0 ?_ rfl ?_ ?_;rotate_left;·(intro w hSw;(have s1:=gwk hSw c1;have s2:=gwk hSw c2;have s3:=gwk hSw c1b;have s4:=gwk hSw c2b);go_simp;try rfl)
   try simp only [pt]
   refine tkn 1 ?_ rfl ?_ ?_;rotate_left;·(intro w hSw;(have s1:=gwk hSw c1;have s2:=gwk hSw c2;have s3:=gwk hSw c1b;have s4:=gwk hSw c2b);go_simp;try rfl)
   try simp only [pt]
   refine tkn 2 ?_ rfl ?_ ?_;rotate_left;·(intro w hSw;(have s1:=gwk hSw c1;have s2:=gwk hSw c2;have s3:=gwk hSw c1b;have s4:=gwk hSw c2b);go_simp;try rfl)
   try simp only [pt]
   refine tkn 3 ?_ rfl ?_ ?_;rotate_left;·(intro w hSw;(have s1:=gwk hSw c1;have s2:=gwk hSw c2;have s3:=gwk hSw c1b;have s4:=gwk hSw c2b);go_simp;try rfl)
   try simp only [pt]
   refine tkn 4 ?_ rfl ?_ ?_;rotate_left;·(intro w hSw;(have s1:=gwk hSw c1;have s2:=gwk hSw c2;have s3:=gwk hSw c1b;have s4:=gwk hSw c2b);go_simp;try rfl)
   try simp only [pt]
   refine tkn 5 ?_ rfl ?_ ?_;rotate_left;·(intro w hSw;(have s1:=gwk hSw c1;have s2:=gwk hSw c2;have s3:=gwk hSw c1b;have s4:=gwk hSw c2b);go_simp;try rfl)
   try simp only [pt]
   refine tkn 6 ?_ rfl ?_ ?_;rotate_left;·(intro w hSw;(have s1:=gwk hSw c1;have s2:=gwk hSw c2;have s3:=gwk hSw c1b;have s4:=gwk hSw c2b);go_simp;try rfl)
   try simp only [pt]
   refine tkn 7 ?_ rfl ?_ ?_;rotate_left;·(intro w hSw;(have s1:=gwk hSw c1;have s2:=gwk hSw c2;have s3:=gwk hSw c1b;have s4:=gwk hSw c2b);go_simp;try rfl)
   try simp only [pt]
   refine tkn 8 ?_ rfl ?_ ?_;rotate_left;·(intro w hSw;(have s1:=gwk hSw c1;have s2:=gwk hSw c2;have s3:=gwk hSw c1b;have s4:=gwk hSw c2b);go_simp;try rfl)
   try simp only [pt]
   refine tkn 9 ?_ rfl ?_ ?_;rotate_left;·(intro w hSw;(have s1:=gwk hSw c1;have s2:=gwk hSw c2;have s3:=gwk hSw c1b;have s4:=gwk hSw c2b);go_simp;try rfl)
   try simp only [pt]
   refine tkn 10 ?_ rfl ?_ ?_;rotate_left;·(intro w hSw;(have s1:=gwk hSw c1;have s2:=gwk hSw c2;have s3:=gwk hSw c1b;have s4:=gwk hSw c2b);go_simp;try rfl)
   try simp only [pt]
   refine rdn 11 rfl (fun K hK=>?_)
   go_simp
   refine (CC.out _ (KW.out.trans (Tk.Kp.of_gr hHeld.gr)) _ _ E1.out E2.out).mono ?_
   rintro e wa ⟨z,rfl,hz,ga⟩
   refine hK.out _ _ (hHeld.trans ga) (fun hHeld=>?_)
   clear hK K
   try simp only [pt]
   refine tkn 12 ?_ rfl ?_ ?_;rotate_left;·(intro w hSw;(have s1:=gwk hSw c1;have s2:=gwk hSw c2;have s3:=gwk hSw c1b;have s4:=gwk hSw c2b);go_simp;try rfl)
   try simp only [pt]
   refine tkn 13 ?_ rfl ?_ ?_;rotate_left;·(intro w hSw;(have s1:=gwk hSw c1;have s2:=gwk hSw c2;have s3:=gwk hSw c1b;have s4:=gwk hSw c2b);go_simp;try rfl)
   try simp only [pt]
   refine wpAnyH_done (by kernel_rfl) ?_ _
   have XZ:Hid _:=XL.out z hz
   clear hz XL
   go_wp2
   ·rename_i hd
    have hz0:¬ z < 0:=by simpa using hd
    have Y:Hid ((q + 1=a ∨ ¬ c l[p + 1 - (q + 1)]! l[q + 1 - 1]!)/\(j=m ∨ c l[p - j]! l[j]!)/\Tk.Gw w _):=⟨Or.inr (XZ.out.2 (by omega)),X.out.2.1,X.out.2.2.trans hHeld⟩
    clear XZ X
    go_roundw
    case rel=>exact ⟨_,rfl,q + 1,j,by go_num,rfl,by omega,by omega,hjm,Y.out⟩
    case measure=>simp [intOf];omega
   ·rename_i hd
    have hz0:z < 0:=by simpa using hd
    have Y:Hid ((i=a ∨ ¬ c l[p + 1 - i]! l[i - 1]!)/\(q=m ∨ c l[p - q]! l[q]!)/\Tk.Gw w _):=⟨X.out.1,Or.inr (XZ.out.1 hz0),X.out.2.2.trans hHeld⟩
    clear XZ X
    go_roundw
    case rel=>exact ⟨_,rfl,i,q,rfl,rfl,hai,hiq,by omega,Y.out⟩
    case measure=>simp [intOf];omega
  ·obtain rfl:i=j:=by omega
   obtain ⟨st,hst⟩:∃ st,st=i:=⟨_,rfl⟩
   subst hst
   obtain ⟨en,hen⟩:∃ en,en=n - st:=⟨_,rfl⟩
   have een:(n:Int) - (st:Int)=(en:Int):=by have:=NN.out;omega
   have HI:Hid (SRA W g o l/\Tk.Kp (fun k=>k=g) w W):=⟨H0.out.same (X.out.2.2.gr.block _ H0.out.lt),Tk.Kp.of_gr X.out.2.2.gr⟩
   have CUT:Hid (∀ l1,Rot l l1 st m en->(a<=st/\st<=md/\st<=m/\m<=en/\md<=en/\en<=b)/\PreM c lt l1 a st md/\PreM c lt l1 md en b/\∀ i j,a<=i->i < md->md<=j->j < b->lt l1[i]! l1[j]!):=fun l1 hr=>by
    obtain ⟨hmd,hP,ht⟩:=PM.out
    have nn:=NN.out
    have e1:(if md < m then md + m - b else a)=a:=by rw [if_neg hcs]
    have e2:(if md < m then md else m)=m:=by rw [if_neg hcs]
    refine merge_cut c lt ht hP ⟨by omega,by omega⟩ hmd (by omega) (by rw [e1];exact hai) (by rw [e2];exact hjm) ?_ ?_ hr
    ·rw [e1]
     rcases X.out.1 with h1 | h1
     ·exact Or.inl h1
     ·refine Or.inr ?_
      rw [show en=p + 1 - st by omega];exact h1
    ·rw [e2]
     rcases X.out.2.1 with h1 | h1
     ·exact Or.inl h1
     ·refine Or.inr ?_
      rw [show en - 1=p - st by omega];exact h1
   have B1:Hid (a<=st/\st<=md/\st<=m/\m<=en/\md<=en/\en<=b):=by have nn:=NN.out;unfold Hid;omega
   have B2:=B1.out
   have EN:Hid (en + st=md + m/\¬ md < m):=⟨by have nn:=NN.out;omega,hcs⟩
   have ROT:Hid (st < m->m < en->Calls Tryz.prog 185 #[.slice (some ⟨g,o,none⟩) l.length cap,.int .i64 (st:Int),.int .i64 (m:Int),.int .i64 (en:Int),.func (.func 79) #[] #[.pointer (some ⟨bf,0,none⟩)]] W fun e w'=>e=.returned (.tuple #[])/\∃ l',Rot l l' st m en/\SRA w' g o l'/\Tk.Kp (fun k=>k=g) W w'):=fun h1 h2=>rotateR _ HI.out.1 hl h1 h2 (by have:=B1.out;omega)
   have szm:md - a < b - a/\b - md < b - a:=by have:=PM.out.1;omega
   clear X H0 PM em eb hen hij hai hjm QB bd1 hcs
   by_cases hr:st < m/\m < en
   ·have rI1:(st:Int) < (m:Int):=by omega
    have rI2:(m:Int) < (en:Int):=by omega
    by_cases hL:a < st/\st < md
    ·have lI1:(a:Int) < (st:Int):=by omega
     have lI2:(st:Int) < (md:Int):=by omega
     by_cases hR:md < en/\en < b
     ·have eI1:(md:Int) < (en:Int):=by omega
      have eI2:(en:Int) < (b:Int):=by omega
      first
      | (exfalso;have:=EN.out;omega)
      |
       have S:=ROT.out hr.1 hr.2
       go_wp2_with fail
       refine S.mono ?_
       rintro e w1 ⟨rfl,l1,r1,a1,k1⟩
       have Z:Hid _:=CUT.out l1 r1
       have KA:Hid (SRA w1 g o l1/\Tk.Kp (fun k=>k=g) w w1/\l1.Perm l/\Seg l l1 a b):=⟨a1,HI.out.2.trans k1,r1.perm,r1.seg.mono B1.out.1 B1.out.2.2.2.2.2⟩
       clear a1 k1 r1 S
       have S1:=RE.out a st md l1 w1 (by omega) hL.1 hL.2 (by omega) KA.out.2.2.1.length_eq KA.out.1 Z.out.2.1 (CC.out.later KA.out.2.1 KA.out.2.2.1)
       go_wp2_with fail
       refine S1.mono ?_
       rintro e w2 ⟨rfl,l2,s2,i2,a2,k2⟩
       have KB:Hid (SRA w2 g o l2/\Tk.Kp (fun k=>k=g) w w2/\l2.Perm l/\Seg l1 l2 a md/\Ri lt l2 a md):=⟨a2,KA.out.2.1.trans k2,s2.perm.trans KA.out.2.2.1,s2,i2⟩
       clear S1 s2 i2 a2 k2
       have PR:Hid (PreM c lt l2 md en b):=Z.out.2.2.1.same c lt (fun i h1 h2=>KB.out.2.2.2.1.out i (Or.inr h1)) ⟨by omega,by omega⟩
       have S2:=RE.out md en b l2 w2 (by omega) hR.1 hR.2 (by omega) KB.out.2.2.1.length_eq KB.out.1 PR.out (CC.out.later KB.out.2.1 KB.out.2.2.1)
       go_wp2_with fail
       refine S2.mono ?_
       rintro e w3 ⟨rfl,l3,s3,i3,a3,k3⟩
       go_wp2
       go_end0
       have hlen:=KA.out.2.2.1.length_eq
       exact ⟨rfl,l3,(KA.out.2.2.2.trans (KB.out.2.2.2.1.mono (Nat.le_refl _) (by omega))).trans (s3.mono (by omega) (Nat.le_refl _)),merge_fin lt ⟨by omega,by omega⟩ (by omega) KB.out.2.2.2.1 KB.out.2.2.2.2 s3 i3 Z.out.2.2.2,a3,KB.out.2.1.trans k3⟩
     ·have eI1:((md:Int) < (en:Int)/\¬ (en:Int) < (b:Int)) ∨ ¬ (md:Int) < (en:Int):=by omega
      rcases eI1 with ⟨eI1,eI1b⟩ | eI1 <;>
      ·first
       | (exfalso;have:=EN.out;omega)
       |
        have S:=ROT.out hr.1 hr.2
        go_wp2_with fail
        refine S.mono ?_
        rintro e w1 ⟨rfl,l1,r1,a1,k1⟩
        have Z:Hid _:=CUT.out l1 r1
        have KA:Hid (SRA w1 g o l1/\Tk.Kp (fun k=>k=g) w w1/\l1.Perm l/\Seg l l1 a b):=⟨a1,HI.out.2.trans k1,r1.perm,r1.seg.mono B1.out.1 B1.out.2.2.2.2.2⟩
        clear a1 k1 r1 S
        have S1:=RE.out a st md l1 w1 (by omega) hL.1 hL.2 (by omega) KA.out.2.2.1.length_eq KA.out.1 Z.out.2.1 (CC.out.later KA.out.2.1 KA.out.2.2.1)
        go_wp2_with fail
        refine S1.mono ?_
        rintro e w2 ⟨rfl,l2,s2,i2,a2,k2⟩
        have KB:Hid (SRA w2 g o l2/\Tk.Kp (fun k=>k=g) w w2/\l2.Perm l/\Seg l1 l2 a md/\Ri lt l2 a md):=⟨a2,KA.out.2.1.trans k2,s2.perm.trans KA.out.2.2.1,s2,i2⟩
        clear S1 s2 i2 a2 k2
        have PR:Hid (PreM c lt l2 md en b):=Z.out.2.2.1.same c lt (fun i h1 h2=>KB.out.2.2.2.1.out i (Or.inr h1)) ⟨by omega,by omega⟩
        have RR:Hid (Ri lt l2 md b):=by
         have q:=PR.out
         by_cases h1:en=md
         ·have:=q.right;rw [h1] at this;exact this
         ·have:=q.left;rw [show en=b by omega] at this;exact this
        go_wp2
        go_end0
        have hlen:=KA.out.2.2.1.length_eq
        exact ⟨rfl,l2,KA.out.2.2.2.trans (KB.out.2.2.2.1.mono (Nat.le_refl _) (by omega)),merge_fin lt ⟨by omega,by omega⟩ (by omega) KB.out.2.2.2.1 KB.out.2.2.2.2 (Seg.refl _ _ _) RR.out Z.out.2.2.2,KB.out.1,KB.out.2.1⟩
    ·have lI1:((a:Int) < (st:Int)/\¬ (st:Int) < (md:Int)) ∨ ¬ (a:Int) < (st:Int):=by omega
     by_cases hR:md < en/\en < b
     ·have eI1:(md:Int) < (en:Int):=by omega
      have eI2:(en:Int) < (b:Int):=by omega
      rcases lI1 with ⟨lI1,lI1b⟩ | lI1 <;>
      ·first
       | (exfalso;have:=EN.out;omega)
       |
        have S:=ROT.out hr.1 hr.2
        go_wp2_with fail
        refine S.mono ?_
        rintro e w1 ⟨rfl,l1,r1,a1,k1⟩
        have Z:Hid _:=CUT.out l1 r1
        have KA:Hid (SRA w1 g o l1/\Tk.Kp (fun k=>k=g) w w1/\l1.Perm l/\Seg l l1 a b):=⟨a1,HI.out.2.trans k1,r1.perm,r1.seg.mono B1.out.1 B1.out.2.2.2.2.2⟩
        clear a1 k1 r1 S
        have KB:Hid (SRA w1 g o l1/\Tk.Kp (fun k=>k=g) w w1/\l1.Perm l/\Seg l1 l1 a md/\Ri lt l1 a md):=⟨KA.out.1,KA.out.2.1,KA.out.2.2.1,Seg.refl _ _ _,by
         have q:=Z.out.2.1
         by_cases h1:st=a
         ·have:=q.right;rw [h1] at this;exact this
         ·have:=q.left;rw [show st=md by omega] at this;exact this⟩
        have PR:Hid (PreM c lt l1 md en b):=Z.out.2.2.1.same c lt (fun i h1 h2=>KB.out.2.2.2.1.out i (Or.inr h1)) ⟨by omega,by omega⟩
        have S2:=RE.out md en b l1 w1 (by omega) hR.1 hR.2 (by omega) KB.out.2.2.1.length_eq KB.out.1 PR.out (CC.out.later KB.out.2.1 KB.out.2.2.1)
        go_wp2_with fail
        refine S2.mono ?_
        rintro e w3 ⟨rfl,l3,s3,i3,a3,k3⟩
        go_wp2
        go_end0
        have hlen:=KA.out.2.2.1.length_eq
        exact ⟨rfl,l3,(KA.out.2.2.2.trans (KB.out.2.2.2.1.mono (Nat.le_refl _) (by omega))).trans (s3.mono (by omega) (Nat.le_refl _)),merge_fin lt ⟨by omega,by omega⟩ (by omega) KB.out.2.2.2.1 KB.out.2.2.2.2 s3 i3 Z.out.2.2.2,a3,KB.out.2.1.trans k3⟩
     ·have eI1:((md:Int) < (en:Int)/\¬ (en:Int) < (b:Int)) ∨ ¬ (md:Int) < (en:Int):=by omega
      rcases lI1 with ⟨lI1,lI1b⟩ | lI1 <;> rcases eI1 with ⟨eI1,eI1b⟩ | eI1 <;>
      ·first
       | (exfalso;have:=EN.out;omega)
       |
        have S:=ROT.out hr.1 hr.2
        go_wp2_with fail
        refine S.mono ?_
        rintro e w1 ⟨rfl,l1,r1,a1,k1⟩
        have Z:Hid _:=CUT.out l1 r1
        have KA:Hid (SRA w1 g o l1/\Tk.Kp (fun k=>k=g) w w1/\l1.Perm l/\Seg l l1 a b):=⟨a1,HI.out.2.trans k1,r1.perm,r1.seg.mono B1.out.1 B1.out.2.2.2.2.2⟩
        clear a1 k1 r1 S
        have KB:Hid (SRA w1 g o l1/\Tk.Kp (fun k=>k=g) w w1/\l1.Perm l/\Seg l1 l1 a md/\Ri lt l1 a md):=⟨KA.out.1,KA.out.2.1,KA.out.2.2.1,Seg.refl _ _ _,by
         have q:=Z.out.2.1
         by_cases h1:st=a
         ·have:=q.right;rw [h1] at this;exact this
         ·have:=q.left;rw [show st=md by omega] at this;exact this⟩
        have PR:Hid (PreM c lt l1 md en b):=Z.out.2.2.1.same c lt (fun i h1 h2=>KB.out.2.2.2.1.out i (Or.inr h1)) ⟨by omega,by omega⟩
        have RR:Hid (Ri lt l1 md b):=by
         have q:=PR.out
         by_cases h1:en=md
         ·have:=q.right;rw [h1] at this;exact this
         ·have:=q.left;rw [show en=b by omega] at this;exact this
        go_wp2
        go_end0
        have hlen:=KA.out.2.2.1.length_eq
        exact ⟨rfl,l1,KA.out.2.2.2.trans (KB.out.2.2.2.1.mono (Nat.le_refl _) (by omega)),merge_fin lt ⟨by omega,by omega⟩ (by omega) KB.out.2.2.2.1 KB.out.2.2.2.2 (Seg.refl _ _ _) RR.out Z.out.2.2.2,KB.out.1,KB.out.2.1⟩
   ·have rI0:(decide ((st:Int) < (m:Int)) && decide ((m:Int) < (en:Int)))=false:=by simp;omega
    have rI1:((st:Int) < (m:Int)/\¬ (m:Int) < (en:Int)) ∨ ¬ (st:Int) < (m:Int):=by omega
    by_cases hL:a < st/\st < md
    ·have lI1:(a:Int) < (st:Int):=by omega
     have lI2:(st:Int) < (md:Int):=by omega
     by_cases hR:md < en/\en < b
     ·have eI1:(md:Int) < (en:Int):=by omega
      have eI2:(en:Int) < (b:Int):=by omega
      rcases rI1 with ⟨rI1,rI1b⟩ | rI1 <;>
      ·first
       | (exfalso;have:=EN.out;omega)
       |
        have Z:Hid _:=CUT.out l (Rot.none l (by omega) ⟨by omega,by omega⟩)
        have KA:Hid (SRA W g o l/\Tk.Kp (fun k=>k=g) w W/\l.Perm l/\Seg l l a b):=⟨HI.out.1,HI.out.2,List.Perm.refl _,Seg.refl _ _ _⟩
        have S1:=RE.out a st md l W (by omega) hL.1 hL.2 (by omega) KA.out.2.2.1.length_eq KA.out.1 Z.out.2.1 (CC.out.later KA.out.2.1 KA.out.2.2.1)
        go_wp2_with fail
        refine S1.mono ?_
        rintro e w2 ⟨rfl,l2,s2,i2,a2,k2⟩
        have KB:Hid (SRA w2 g o l2/\Tk.Kp (fun k=>k=g) w w2/\l2.Perm l/\Seg l l2 a md/\Ri lt l2 a md):=⟨a2,KA.out.2.1.trans k2,s2.perm.trans KA.out.2.2.1,s2,i2⟩
        clear S1 s2 i2 a2 k2
        have PR:Hid (PreM c lt l2 md en b):=Z.out.2.2.1.same c lt (fun i h1 h2=>KB.out.2.2.2.1.out i (Or.inr h1)) ⟨by omega,by omega⟩
        have S2:=RE.out md en b l2 w2 (by omega) hR.1 hR.2 (by omega) KB.out.2.2.1.length_eq KB.out.1 PR.out (CC.out.later KB.out.2.1 KB.out.2.2.1)
        go_wp2_with fail
        refine S2.mono ?_
        rintro e w3 ⟨rfl,l3,s3,i3,a3,k3⟩
        go_wp2
        go_end0
        have hlen:=KA.out.2.2.1.length_eq
        exact ⟨rfl,l3,(KA.out.2.2.2.trans (KB.out.2.2.2.1.mono (Nat.le_refl _) (by omega))).trans (s3.mono (by omega) (Nat.le_refl _)),merge_fin lt ⟨by omega,by omega⟩ (by omega) KB.out.2.2.2.1 KB.out.2.2.2.2 s3 i3 Z.out.2.2.2,a3,KB.out.2.1.trans k3⟩
     ·have eI1:((md:Int) < (en:Int)/\¬ (en:Int) < (b:Int)) ∨ ¬ (md:Int) < (en:Int):=by omega
      rcases rI1 with ⟨rI1,rI1b⟩ | rI1 <;> rcases eI1 with ⟨eI1,eI1b⟩ | eI1 <;>
      ·first
       | (exfalso;have:=EN.out;omega)
       |
        have Z:Hid _:=CUT.out l (Rot.none l (by omega) ⟨by omega,by omega⟩)
        have KA:Hid (SRA W g o l/\Tk.Kp (fun k=>k=g) w W/\l.Perm l/\Seg l l a b):=⟨HI.out.1,HI.out.2,List.Perm.refl _,Seg.refl _ _ _⟩
        have S1:=RE.out a st md l W (by omega) hL.1 hL.2 (by omega) KA.out.2.2.1.length_eq KA.out.1 Z.out.2.1 (CC.out.later KA.out.2.1 KA.out.2.2.1)
        go_wp2_with fail
        refine S1.mono ?_
        rintro e w2 ⟨rfl,l2,s2,i2,a2,k2⟩
        have KB:Hid (SRA w2 g o l2/\Tk.Kp (fun k=>k=g) w w2/\l2.Perm l/\Seg l l2 a md/\Ri lt l2 a md):=⟨a2,KA.out.2.1.trans k2,s2.perm.trans KA.out.2.2.1,s2,i2⟩
        clear S1 s2 i2 a2 k2
        have PR:Hid (PreM c lt l2 md en b):=Z.out.2.2.1.same c lt (fun i h1 h2=>KB.out.2.2.2.1.out i (Or.inr h1)) ⟨by omega,by omega⟩
        have RR:Hid (Ri lt l2 md b):=by
         have q:=PR.out
         by_cases h1:en=md
         ·have:=q.right;rw [h1] at this;exact this
         ·have:=q.left;rw [show en=b by omega] at this;exact this
        go_wp2
        go_end0
        have hlen:=KA.out.2.2.1.length_eq
        exact ⟨rfl,l2,KA.out.2.2.2.trans (KB.out.2.2.2.1.mono (Nat.le_refl _) (by omega)),merge_fin lt ⟨by omega,by omega⟩ (by omega) KB.out.2.2.2.1 KB.out.2.2.2.2 (Seg.refl _ _ _) RR.out Z.out.2.2.2,KB.out.1,KB.out.2.1⟩
    ·have lI1:((a:Int) < (st:Int)/\¬ (st:Int) < (md:Int)) ∨ ¬ (a:Int) < (st:Int):=by omega
     by_cases hR:md < en/\en < b
     ·have eI1:(md:Int) < (en:Int):=by omega
      have eI2:(en:Int) < (b:Int):=by omega
      rcases rI1 with ⟨rI1,rI1b⟩ | rI1 <;> rcases lI1 with ⟨lI1,lI1b⟩ | lI1 <;>
      ·first
       | (exfalso;have:=EN.out;omega)
       |
        have Z:Hid _:=CUT.out l (Rot.none l (by omega) ⟨by omega,by omega⟩)
        have KA:Hid (SRA W g o l/\Tk.Kp (fun k=>k=g) w W/\l.Perm l/\Seg l l a b):=⟨HI.out.1,HI.out.2,List.Perm.refl _,Seg.refl _ _ _⟩
        have KB:Hid (SRA W g o l/\Tk.Kp (fun k=>k=g) w W/\l.Perm l/\Seg l l a md/\Ri lt l a md):=⟨KA.out.1,KA.out.2.1,KA.out.2.2.1,Seg.refl _ _ _,by
         have q:=Z.out.2.1
         by_cases h1:st=a
         ·have:=q.right;rw [h1] at this;exact this
         ·have:=q.left;rw [show st=md by omega] at this;exact this⟩
        have PR:Hid (PreM c lt l md en b):=Z.out.2.2.1.same c lt (fun i h1 h2=>KB.out.2.2.2.1.out i (Or.inr h1)) ⟨by omega,by omega⟩
        have S2:=RE.out md en b l W (by omega) hR.1 hR.2 (by omega) KB.out.2.2.1.length_eq KB.out.1 PR.out (CC.out.later KB.out.2.1 KB.out.2.2.1)
        go_wp2_with fail
        refine S2.mono ?_
        rintro e w3 ⟨rfl,l3,s3,i3,a3,k3⟩
        go_wp2
        go_end0
        have hlen:=KA.out.2.2.1.length_eq
        exact ⟨rfl,l3,(KA.out.2.2.2.trans (KB.out.2.2.2.1.mono (Nat.le_refl _) (by omega))).trans (s3.mono (by omega) (Nat.le_refl _)),merge_fin lt ⟨by omega,by omega⟩ (by omega) KB.out.2.2.2.1 KB.out.2.2.2.2 s3 i3 Z.out.2.2.2,a3,KB.out.2.1.trans k3⟩
     ·have eI1:((md:Int) < (en:Int)/\¬ (en:Int) < (b:Int)) ∨ ¬ (md:Int) < (en:Int):=by omega
      rcases rI1 with ⟨rI1,rI1b⟩ | rI1 <;> rcases lI1 with ⟨lI1,lI1b⟩ | lI1 <;> rcases eI1 with ⟨eI1,eI1b⟩ | eI1 <;>
      ·first
       | (exfalso;have:=EN.out;omega)
       |
        have Z:Hid _:=CUT.out l (Rot.none l (by omega) ⟨by omega,by omega⟩)
        have KA:Hid (SRA W g o l/\Tk.Kp (fun k=>k=g) w W/\l.Perm l/\Seg l l a b):=⟨HI.out.1,HI.out.2,List.Perm.refl _,Seg.refl _ _ _⟩
        have KB:Hid (SRA W g o l/\Tk.Kp (fun k=>k=g) w W/\l.Perm l/\Seg l l a md/\Ri lt l a md):=⟨KA.out.1,KA.out.2.1,KA.out.2.2.1,Seg.refl _ _ _,by
         have q:=Z.out.2.1
         by_cases h1:st=a
         ·have:=q.right;rw [h1] at this;exact this
         ·have:=q.left;rw [show st=md by omega] at this;exact this⟩
        have PR:Hid (PreM c lt l md en b):=Z.out.2.2.1.same c lt (fun i h1 h2=>KB.out.2.2.2.1.out i (Or.inr h1)) ⟨by omega,by omega⟩
        have RR:Hid (Ri lt l md b):=by
         have q:=PR.out
         by_cases h1:en=md
         ·have:=q.right;rw [h1] at this;exact this
         ·have:=q.left;rw [show en=b by omega] at this;exact this
        go_wp2
        go_end0
        have hlen:=KA.out.2.2.1.length_eq
        exact ⟨rfl,l,KA.out.2.2.2.trans (KB.out.2.2.2.1.mono (Nat.le_refl _) (by omega)),merge_fin lt ⟨by omega,by omega⟩ (by omega) KB.out.2.2.2.1 KB.out.2.2.2.2 (Seg.refl _ _ _) RR.out Z.out.2.2.2,KB.out.1,KB.out.2.1⟩
end Go.Proofs.YtcipdampcmfmaabGreat
