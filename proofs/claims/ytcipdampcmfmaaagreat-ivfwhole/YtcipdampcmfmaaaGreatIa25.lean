import Derived.Test.YtcipdampcmfmaaaGreatIa19
import Derived.Test.YtcipdampcmfmaaaGreatIa6
import Derived.Test.YtcipdampcmfmaaaGreatIa22
namespace Go.Proofs.YtcipdampcmfmaaaGreat
open Go.RowKit Go.Sort
set_option maxRecDepth 100000
set_option maxHeartbeats 8000000
theorem Tag.part {c lt:Int->Int->Prop} {l l1:List Int} {a b n:Nat} (h:Tag c lt l 0 n) (he:∀ i,a<=i->l1[i]! = l[i]!) (hb:b<=n):Tag c lt l1 a b:=fun i j h1 h2 h3=>by
 rw [he i h1,he j (by omega)]
 exact h i j (Nat.zero_le _) h2 (by omega)
theorem stableI {w:World} {g o cap bf:Nat} {l:List Int} {c lt:Int->Int->Prop} (ht:∀ x y z,lt x y->lt y z->lt x z) (h:IA w g o l) (hl:l.length<=4000) (hT:Tag c lt l 0 l.length) (hc:CmpI w g bf l c) :
  Calls Tryz.prog 104 #[.slice (some ⟨g,o,none⟩) l.length cap,.int .i64 (l.length:Int),.func (.func 75) #[] #[.pointer (some ⟨bf,0,none⟩)]] w fun e w'=>e=.returned (.tuple #[])/\∃ l',l'.Perm l/\Ri lt l' 0 l.length/\IA w' g o l'/\Tk.Kp (fun k=>k=g) w w':=by
 obtain ⟨n,hn⟩:∃ n,n=l.length:=⟨_,rfl⟩
 have N:Hid (n=l.length):=hn
 have INS:Hid (∀ (W:World) (l1:List Int) (a b:Nat),l1.Perm l->a<=b->b<=n->IA W g o l1->Tk.Kp (fun k=>k=g) w W->Tag c lt l1 a b->Calls Tryz.prog 153 #[.slice (some ⟨g,o,none⟩) n cap,.int .i64 (a:Int),.int .i64 (b:Int),.func (.func 75) #[] #[.pointer (some ⟨bf,0,none⟩)]] W fun e w'=>e=.returned (.tuple #[])/\∃ l',Seg l1 l' a b/\Ri lt l' a b/\IA w' g o l'/\Tk.Kp (fun k=>k=g) W w'):=fun W l1 a b hp h1 h2 h3 h4 h5=>by
  have q:=smInsI (cap:=cap) ht h3 (by rw [hp.length_eq];exact hl) h1 (by rw [hp.length_eq];omega) h5 (hc.later h4 hp)
  rw [hp.length_eq,<- hn] at q
  exact q
 have SYM:Hid (∀ (W:World) (l1:List Int) (a m b:Nat),l1.Perm l->a < m->m < b->b<=n->IA W g o l1->Tk.Kp (fun k=>k=g) w W->PreM c lt l1 a m b->Calls Tryz.prog 154 #[.slice (some ⟨g,o,none⟩) n cap,.int .i64 (a:Int),.int .i64 (m:Int),.int .i64 (b:Int),.func (.func 75) #[] #[.pointer (some ⟨bf,0,none⟩)]] W fun e w'=>e=.returned (.tuple #[])/\∃ l',Seg l1 l' a b/\Ri lt l' a b/\IA w' g o l'/\Tk.Kp (fun k=>k=g) W w'):=fun W l1 a m b hp h1 h2 h3 h4 h5 h6=>by
  have q:=symI (cap:=cap) ht (b - a) a m b l1 W (Nat.le_refl _) h1 h2 (by rw [hp.length_eq];omega) (by rw [hp.length_eq];exact hl) h4 h6 (hc.later h5 hp)
  rw [hp.length_eq,<- hn] at q
  exact q
 have TG:Hid (Tag c lt l 0 n):=by unfold Hid;rw [hn];exact hT
 have H0:Hid (IA w g o l):=h
 rw [<- hn] at hl ⊢
 have hnl:Hid (n<=l.length):=Nat.le_of_eq hn
 clear h hc hT ht hn
 go_enter Tryz.func104,Tryz.ntmps104
 go_wp2
 go_loopw [7,8] (fun av bv W0=>∃ (W:World) (_:W=W0) (a b:Nat) (l1:List Int),av=.int .i64 (a:Int)/\bv=.int .i64 (b:Int)/\a<=n/\b<=n + 20/\Hid (b=a + 20/\20 ∣ a/\Pa lt l l l1 n 20 a/\IA W g o l1/\Tk.Kp (fun k=>k=g) w W)) (fun av _ _=>n + 1 - (intOf av).toNat)
 case atStart=>exact ⟨_,rfl,0,20,l,rfl,rfl,Nat.zero_le _,by omega,rfl,⟨0,rfl⟩,Pa.start (List.Perm.refl _),H0.out,Tk.Kp.refl _ _⟩
 case round =>
  obtain ⟨W,hW,a,b,l1,rfl,rfl,han,hbn,X⟩:=hrel
  subst hW
  by_cases hb:b<=n
  ·have hbi:(b:Int)<=(n:Int):=by omega
   have S:=INS.out W l1 a b X.out.2.2.1.perm (by have:=X.out.1;omega) hb X.out.2.2.2.1 X.out.2.2.2.2 (TG.out.part X.out.2.2.1.rest hb)
   go_wp2_with fail
   refine S.mono ?_
   rintro e w1 ⟨rfl,l2,s2,i2,a2,k2⟩
   have Y:Hid (20 ∣ b/\Pa lt l l l2 n 20 b/\IA w1 g o l2/\Tk.Kp (fun k=>k=g) w w1):=by
    have e1:=X.out.1
    have e2:min (a + 20) n=b:=by omega
    have q:=X.out.2.2.1.step (by decide) X.out.2.1 han hnl.out (by rw [e2];exact s2) (by rw [e2];exact i2) (fun i h1 h2=>⟨i,⟨h1,h2⟩,rfl⟩)
    rw [<- e1] at q
    exact ⟨by rw [e1];exact Nat.dvd_add X.out.2.1 (Nat.dvd_refl _),q,a2,X.out.2.2.2.2.trans k2⟩
   have hab:Hid (a < b):=by have:=X.out.1;unfold Hid;omega
   clear S s2 i2 a2 k2 X
   go_wp2
   go_roundw
   case rel=>exact ⟨_,rfl,b,b + 20,l2,rfl,by go_num,hb,by omega,rfl,Y.out⟩
   case measure=>have:=hab.out;simp [intOf];omega
  ·have hbi:¬ (b:Int)<=(n:Int):=by omega
   have S:=INS.out W l1 a n X.out.2.2.1.perm han (Nat.le_refl _) X.out.2.2.2.1 X.out.2.2.2.2 (TG.out.part X.out.2.2.1.rest (Nat.le_refl _))
   go_wp2_with fail
   refine S.mono ?_
   rintro e w1 ⟨rfl,l2,s2,i2,a2,k2⟩
   have Y:Hid (SBk lt l l2 n 20/\IA w1 g o l2/\Tk.Kp (fun k=>k=g) w w1):=by
    have e1:=X.out.1
    have e2:min (a + 20) n=n:=by omega
    have q:=X.out.2.2.1.step (by decide) X.out.2.1 han hnl.out (by rw [e2];exact s2) (by rw [e2];exact i2) (fun i h1 h2=>⟨i,⟨h1,h2⟩,rfl⟩)
    exact ⟨q.fin (by omega),a2,X.out.2.2.2.2.trans k2⟩
   clear S s2 i2 a2 k2 X
   go_wp2
   go_loopw [6] (fun sv W0=>∃ (W:World) (_:W=W0) (s:Nat) (l3:List Int),sv=.int .i64 (s:Int)/\0 < s/\s<=2 * n + 20/\Hid (SBk lt l l3 n s/\IA W g o l3/\Tk.Kp (fun k=>k=g) w W)) (fun sv _=>n - (intOf sv).toNat)
   case atStart=>exact ⟨_,rfl,20,l2,rfl,by decide,by omega,Y.out⟩
   case round =>
    obtain ⟨W2,hW2,s,l3,rfl,hs0,hsn,Z⟩:=hrel
    subst hW2
    by_cases hsl:s < n
    ·have hsi:(s:Int) < (n:Int):=by omega
     obtain ⟨t,hte⟩:∃ t,t=2 * s:=⟨_,rfl⟩
     have et:2 * (s:Int)=(t:Int):=by omega
     have TT:Hid (t=2 * s):=hte
     have htn:t < 2 * n:=by omega
     have hst:s < t:=by omega
     clear hte
     go_wp2
     go_loopw [7,8] (fun av bv W0=>∃ (W:World) (_:W=W0) (a b:Nat) (l4:List Int),av=.int .i64 (a:Int)/\bv=.int .i64 (b:Int)/\a<=n/\b<=n + t/\Hid (b=a + t/\t ∣ a/\Pa lt l l3 l4 n t a/\IA W g o l4/\Tk.Kp (fun k=>k=g) w W)) (fun av _ _=>n + 1 - (intOf av).toNat)
     case atStart=>exact ⟨_,rfl,0,t,l3,rfl,rfl,Nat.zero_le _,by omega,by omega,Nat.dvd_zero _,Pa.start Z.out.1.perm,Z.out.2.1,Z.out.2.2⟩
     case round =>
      obtain ⟨W3,hW3,a,b,l4,rfl,rfl,han,hbn,V⟩:=hrel
      subst hW3
      have sa:Hid (s ∣ a):=by have q:=V.out.2.1;have e:=TT.out;rw [e] at q;exact Nat.dvd_trans ⟨2,by omega⟩ q
      obtain ⟨m,hme⟩:∃ m,m=a + s:=⟨_,rfl⟩
      have em:(a:Int) + (s:Int)=(m:Int):=by omega
      have MM:Hid (m=a + s):=hme
      have ham:a < m:=by omega
      clear hme
      by_cases hb:b<=n
      ·have hbi:(b:Int)<=(n:Int):=by omega
       have hmb:m < b:=by have:=V.out.1;have:=MM.out;omega
       have S:=SYM.out W3 l4 a m b V.out.2.2.1.perm ham hmb hb V.out.2.2.2.1 V.out.2.2.2.2 (by have e:=MM.out;rw [e];exact Z.out.1.pre TG.out hs0 sa.out (by have:=V.out.1;have:=TT.out;omega) (by omega) V.out.2.2.1.rest)
       go_wp2_with fail
       refine S.mono ?_
       rintro e w1 ⟨rfl,l5,s5,i5,a5,k5⟩
       have Y2:Hid (t ∣ b/\Pa lt l l3 l5 n t b/\IA w1 g o l5/\Tk.Kp (fun k=>k=g) w w1):=by
        have e1:=V.out.1
        have e2:min (a + t) n=b:=by omega
        have q:=V.out.2.2.1.step (by omega) V.out.2.1 han hnl.out (by rw [e2];exact s5) (by rw [e2];exact i5) (fun i h1 h2=>by have e:=TT.out;rw [e] at h2 ⊢;exact Z.out.1.two sa.out i h1 h2)
        rw [<- e1] at q
        exact ⟨by rw [e1];exact Nat.dvd_add V.out.2.1 (Nat.dvd_refl _),q,a5,V.out.2.2.2.2.trans k5⟩
       have hab:Hid (a < b):=by unfold Hid;omega
       clear S s5 i5 a5 k5 V
       go_wp2
       go_roundw
       case rel=>exact ⟨_,rfl,b,b + t,l5,rfl,by first | rfl | go_num,hb,by omega,rfl,Y2.out⟩
       case measure=>have:=hab.out;simp [intOf];omega
      ·have hbi:¬ (b:Int)<=(n:Int):=by omega
       have es:(s:Int) * 2=(t:Int):=by omega
       by_cases hm:m < n
       ·have hmi:(m:Int) < (n:Int):=by omega
        have S:=SYM.out W3 l4 a m n V.out.2.2.1.perm ham hm (Nat.le_refl _) V.out.2.2.2.1 V.out.2.2.2.2 (by have e:=MM.out;rw [e];exact Z.out.1.pre TG.out hs0 sa.out (by have:=V.out.1;have:=TT.out;omega) (by omega) V.out.2.2.1.rest)
        go_wp2_with fail
        refine S.mono ?_
        rintro e w1 ⟨rfl,l5,s5,i5,a5,k5⟩
        have Y2:Hid (SBk lt l l5 n t/\IA w1 g o l5/\Tk.Kp (fun k=>k=g) w w1):=by
         have e1:=V.out.1
         have e2:min (a + t) n=n:=by omega
         have q:=V.out.2.2.1.step (by omega) V.out.2.1 han hnl.out (by rw [e2];exact s5) (by rw [e2];exact i5) (fun i h1 h2=>by have e:=TT.out;rw [e] at h2 ⊢;exact Z.out.1.two sa.out i h1 h2)
         exact ⟨q.fin (by omega),a5,V.out.2.2.2.2.trans k5⟩
        clear S s5 i5 a5 k5 V
        go_wp2
        go_roundw
        case rel=>exact ⟨_,rfl,t,l5,by first | rfl | go_num,by omega,by omega,Y2.out⟩
        case measure=>simp [intOf];omega
       ·have hmi:¬ (m:Int) < (n:Int):=by omega
        have Y2:Hid (SBk lt l l4 n t/\IA W3 g o l4/\Tk.Kp (fun k=>k=g) w W3):=by
         have e1:=V.out.1
         have e0:=MM.out
         have e2:min (a + t) n=n:=by omega
         have rr:=Z.out.1.alone (l1:=l4) sa.out (by omega) V.out.2.2.1.rest
         rw [<- TT.out] at rr
         have q:=V.out.2.2.1.step (by omega) V.out.2.1 han hnl.out (Seg.refl _ _ _) rr (fun i h1 h2=>by have e:=TT.out;rw [e] at h2 ⊢;exact Z.out.1.two sa.out i h1 h2)
         exact ⟨q.fin (by omega),V.out.2.2.2.1,V.out.2.2.2.2⟩
        clear V
        go_wp2
        go_roundw
        case rel=>exact ⟨_,rfl,t,l4,by first | rfl | go_num,by omega,by omega,Y2.out⟩
        case measure=>simp [intOf];omega
    ·have hsi:¬ (s:Int) < (n:Int):=by omega
     go_wp2
     go_end0
     exact ⟨rfl,l3,Z.out.1.perm,Z.out.1.done (by omega),Z.out.2.1,Z.out.2.2⟩
theorem sortStableI {w:World} {g o cap bf:Nat} {l:List Int} {c lt:Int->Int->Prop} (ht:∀ x y z,lt x y->lt y z->lt x z) (h:IA w g o l) (hl:l.length<=4000) (hT:Tag c lt l 0 l.length) (hc:CmpI w g bf l c) :
  Calls Tryz.prog 74 #[.slice (some ⟨g,o,none⟩) l.length cap,.func (.func 75) #[] #[.pointer (some ⟨bf,0,none⟩)]] w fun e w'=>e=.returned (.tuple #[])/\∃ l',l'.Perm l/\Ri lt l' 0 l.length/\IA w' g o l'/\Tk.Kp (fun k=>k=g) w w':=by
 have S:=stableI (cap:=cap) ht h hl hT hc
 go_enter Tryz.func74,Tryz.ntmps74
 go_wp2_with fail
 refine S.mono ?_
 rintro e w1 ⟨rfl,q⟩
 go_wp2
 go_end0
 exact ⟨rfl,q⟩
end Go.Proofs.YtcipdampcmfmaaaGreat

namespace Go.Proofs.YtcipdampcmfmaaaGreat
open Go.RowKit Go.Sort
set_option maxRecDepth 100000
set_option maxHeartbeats 4000000
theorem cmpw_any (ah al bh bl:Int) (w:World):Calls Tryz.prog 76 #[.agg #[.int .u64 ah,.int .u64 al],.agg #[.int .u64 bh,.int .u64 bl]] w fun e w'=>∃ z:Int,e=.returned (.int .i64 z)/\(z < 0 ↔ ah < bh ∨ (ah=bh/\al < bl))/\Tk.Gw w w':=by
 rcases Int.lt_trichotomy ah bh with h | rfl | h
 ·have h1:(ah == bh)=false:=by rw [beq_eq_false_iff_ne];omega
  go_enter Tryz.func76,Tryz.ntmps76
  go_wp2
  go_ret
  exact ⟨-1,rfl,by first | omega | (simp;done) | (simp;omega) | (simp [h];done),((Tk.Gw.refl _).alloc _).alloc _⟩
 ·rcases Int.lt_trichotomy al bl with h | rfl | h
  ·have h1:(al == bl)=false:=by rw [beq_eq_false_iff_ne];omega
   go_enter Tryz.func76,Tryz.ntmps76
   go_wp2
   go_ret
   exact ⟨-1,rfl,by first | omega | (simp;done) | (simp;omega) | (simp [h];done),((Tk.Gw.refl _).alloc _).alloc _⟩
  ·skip
   go_enter Tryz.func76,Tryz.ntmps76
   go_wp2
   go_ret
   exact ⟨0,rfl,by first | omega | (simp;done) | (simp;omega) | (simp [h];done),((Tk.Gw.refl _).alloc _).alloc _⟩
  ·have h1:(al == bl)=false:=by rw [beq_eq_false_iff_ne];omega
   go_enter Tryz.func76,Tryz.ntmps76
   go_wp2
   go_ret
   exact ⟨1,rfl,by first | omega | (simp;done) | (simp;omega) | (simp [h];done),((Tk.Gw.refl _).alloc _).alloc _⟩
 ·have h1:(ah == bh)=false:=by rw [beq_eq_false_iff_ne];omega
  go_enter Tryz.func76,Tryz.ntmps76
  go_wp2
  go_ret
  exact ⟨1,rfl,by first | omega | (simp;done) | (simp;omega) | (simp [h];done),((Tk.Gw.refl _).alloc _).alloc _⟩
def FarA (w:World) (bf fb:Nat) (n:Nat) (hiF loF:Nat->Int):Prop:=(∃ cap,w.cell? ⟨bf,0,none⟩=some (.slice (some ⟨fb,0,none⟩) n cap))/\∀ i,i < n->w.cell? ⟨fb,i * 2,none⟩=some (.int .u64 (hiF i))/\w.cell? ⟨fb,i * 2 + 1,none⟩=some (.int .u64 (loF i))
theorem outward1_c {W:World} {bf fb n x y:Nat} {hiF loF:Nat->Int} (h:FarA W bf fb n hiF loF) (hx:x < n) (hy:y < n) :
  Calls Tryz.prog 75 #[.int .i64 (x:Int),.int .i64 (y:Int),.pointer (some ⟨bf,0,none⟩)] W fun e w'=>∃ z:Int,e=.returned (.int .i64 z)/\(z < 0 ↔ hiF x < hiF y ∨ (hiF x=hiF y/\loF x < loF y))/\Tk.Gw W w':=by
 obtain ⟨⟨cap,c1⟩,hF⟩:=h
 obtain ⟨c2,c3⟩:=hF x hx
 obtain ⟨c4,c5⟩:=hF y hy
 have hxi:(x:Int) < (n:Int):=by omega
 have hyi:(y:Int) < (n:Int):=by omega
 generalize hiF x=xh at *
 generalize loF x=xl at *
 generalize hiF y=yh at *
 generalize loF y=yl at *
 clear hF
 go_enter Tryz.func75,Tryz.ntmps75
 go_wp2
 refine wp_region_held_drew (S:=fun W2=>Tk.Gw W W2) (by kernel_rfl) ((Tk.Gw.refl W).drew) (fun hHeld=>?_)
 refine tkn 0 ?_ rfl ?_ ?_;rotate_left;·(intro w hSw;(have s1:=gwk hSw c1;have s2:=gwk hSw c2;have s3:=gwk hSw c3;have s4:=gwk hSw c4;have s5:=gwk hSw c5);go_simp;try rfl)
 try simp only [pt]
 refine tkn 1 ?_ rfl ?_ ?_;rotate_left;·(intro w hSw;(have s1:=gwk hSw c1;have s2:=gwk hSw c2;have s3:=gwk hSw c3;have s4:=gwk hSw c4;have s5:=gwk hSw c5);go_simp;try rfl)
 try simp only [pt]
 refine tkn 2 ?_ rfl ?_ ?_;rotate_left;·(intro w hSw;(have s1:=gwk hSw c1;have s2:=gwk hSw c2;have s3:=gwk hSw c3;have s4:=gwk hSw c4;have s5:=gwk hSw c5);go_simp;try rfl)
 try simp only [pt]
 refine tkn 3 ?_ rfl ?_ ?_;rotate_left;·(intro w hSw;(have s1:=gwk hSw c1;have s2:=gwk hSw c2;have s3:=gwk hSw c3;have s4:=gwk hSw c4;have s5:=gwk hSw c5);go_simp;try rfl)
 try simp only [pt]
 refine tkn 4 ?_ rfl ?_ ?_;rotate_left;·(intro w hSw;(have s1:=gwk hSw c1;have s2:=gwk hSw c2;have s3:=gwk hSw c3;have s4:=gwk hSw c4;have s5:=gwk hSw c5);go_simp;try rfl)
 try simp only [pt]
 refine tkn 5 ?_ rfl ?_ ?_;rotate_left;·(intro w hSw;(have s1:=gwk hSw c1;have s2:=gwk hSw c2;have s3:=gwk hSw c3;have s4:=gwk hSw c4;have s5:=gwk hSw c5);go_simp;try rfl)
 try simp only [pt]
 refine tkn 6 ?_ rfl ?_ ?_;rotate_left;·(intro w hSw;(have s1:=gwk hSw c1;have s2:=gwk hSw c2;have s3:=gwk hSw c3;have s4:=gwk hSw c4;have s5:=gwk hSw c5);go_simp;try rfl)
 try simp only [pt]
 refine tkn 7 ?_ rfl ?_ ?_;rotate_left;·(intro w hSw;(have s1:=gwk hSw c1;have s2:=gwk hSw c2;have s3:=gwk hSw c3;have s4:=gwk hSw c4;have s5:=gwk hSw c5);go_simp;try rfl)
 try simp only [pt]
 refine rdn 8 rfl (fun K hK=>?_)
 go_simp
 refine (cmpw_any _ _ _ _ _).mono ?_
 rintro e wa ⟨z,rfl,hz,ga⟩
 refine hK.out _ _ (hHeld.trans ga) (fun hHeld=>?_)
 clear hK K
 try simp only [pt]
 refine tkn 9 ?_ rfl ?_ ?_;rotate_left;·(intro w hSw;(have s1:=gwk hSw c1;have s2:=gwk hSw c2;have s3:=gwk hSw c3;have s4:=gwk hSw c4;have s5:=gwk hSw c5);go_simp;try rfl)
 try simp only [pt]
 refine wpAnyH_done (by kernel_rfl) ?_ _
 go_wp2
 go_ret
 exact ⟨z,rfl,hz,hHeld⟩
end Go.Proofs.YtcipdampcmfmaaaGreat

namespace Go.Proofs.YtcipdampcmfmaaaGreat
open Go.RowKit Go.Sort Go.Maps
structure TreeO (Iq:Nat->Prop) (w:World) (tb m:Nat) (C:Vs) (rs:List Rw) (gc cc lb pb:Nat) (ks pk:List Int) (f:Int->Value) (pf:Int->Int) (G:Int->Loc):Prop where
 blk:w.heap[tb]? = some (.cells #[.int .i64 (m:Int),.slice (some ⟨gc,0,none⟩) C.length cc,.map (some lb),.map (some pb)] 90 (0,0))
 cen:CenQ Iq w gc C
 lst:MapA Tryz.prog 3 w lb ks f
 plc:MapA Tryz.prog 3 w pb pk (fun x=>.int .i64 (pf x))
 ls:LstM Iq w C rs ks f G
 pkk:∀ x,x ∈ pk ↔ x ∈ idsOf rs
 pfv:∀ r ∈ rs,pf r.1=((nearP C r.2).1:Int)
 ris:Ris rs
 rok:RowsOk rs (m:Int)
 cok:VsOk C (m:Int)/\1<=C.length/\C.length<=64
 dim:1<=m/\m<=64
 ne:lb ≠ pb
 up:Up Iq w
abbrev blks (tb gc lb pb:Nat) (ks:List Int) (G:Int->Loc):List Nat:=tb :: gc :: lb :: pb :: ks.map (fun x=>(G x).1)
theorem TreeAt.opn {Iq:Nat->Prop} {w:World} {tb m:Nat} {C:Vs} {rs:List Rw} {F:List Nat} (h:TreeAt Iq w tb m C rs F):∃ gc cc lb pb ks pk f pf G,TreeO Iq w tb m C rs gc cc lb pb ks pk f pf G/\F=blks tb gc lb pb ks G:=by
 obtain ⟨gc,cc,lb,pb,ks,pk,f,pf,G,h1,h2,h3,h4,h5,h6,h7,h8,h9,h10,h11,h12,h13⟩:=h
 exact ⟨gc,cc,lb,pb,ks,pk,f,pf,G,⟨h1,h2,h3,h4,h5,h6,h7,h8,h9,h10,h12.1,h12.2,h13⟩,h11⟩
theorem TreeO.shut {Iq:Nat->Prop} {w:World} {tb m:Nat} {C:Vs} {rs:List Rw} {gc cc lb pb:Nat} {ks pk:List Int} {f:Int->Value} {pf:Int->Int} {G:Int->Loc} (h:TreeO Iq w tb m C rs gc cc lb pb ks pk f pf G):TreeAt Iq w tb m C rs (blks tb gc lb pb ks G) :=
 ⟨gc,cc,lb,pb,ks,pk,f,pf,G,h.blk,h.cen,h.lst,h.plc,h.ls,h.pkk,h.pfv,h.ris,h.rok,h.cok,rfl,⟨h.dim,h.ne⟩,h.up⟩
theorem turned_of {w w':World} {b:Nat} (t:w.mapTurned w' b):w'.heap.size=w.heap.size/\(∀ k,k ≠ b->w'.heap[k]? = w.heap[k]?)/\Tk.Kp (fun k=>k=b) w w':=by
 obtain ⟨es,cl,es',cl',h1,rfl⟩:=t
 have e1:∀ k,k ≠ b->(ChangeMaps.setBlock w b (.map es' cl')).heap[k]? = w.heap[k]? := fun k hk=>by
  show (w.heap.setIfInBounds b _)[k]? = _
  rw [Array.getElem?_setIfInBounds_ne (fun e=>hk e.symm)]
 have e2:(ChangeMaps.setBlock w b (.map es' cl')).heap.size=w.heap.size:=by
  show (w.heap.setIfInBounds b _).size=_
  rw [Array.size_setIfInBounds]
 exact ⟨e2,e1,⟨rfl,rfl,rfl,by omega,fun k _ hk=>e1 k hk⟩⟩
theorem TreeO.cells {Iq:Nat->Prop} {w:World} {tb m:Nat} {C:Vs} {rs:List Rw} {gc cc lb pb:Nat} {ks pk:List Int} {f:Int->Value} {pf:Int->Int} {G:Int->Loc} (h:TreeO Iq w tb m C rs gc cc lb pb ks pk f pf G) :
  w.cell? ⟨tb,0,none⟩=some (.int .i64 (m:Int))/\w.cell? ⟨tb,1,none⟩=some (.slice (some ⟨gc,0,none⟩) C.length cc)/\w.cell? ⟨tb,2,none⟩=some (.map (some lb))/\w.cell? ⟨tb,3,none⟩=some (.map (some pb)) :=
 ⟨cell_cur h.blk rfl,cell_cur h.blk rfl,cell_cur h.blk rfl,cell_cur h.blk rfl⟩
theorem TreeO.ksl {Iq:Nat->Prop} {w:World} {tb m:Nat} {C:Vs} {rs:List Rw} {gc cc lb pb:Nat} {ks pk:List Int} {f:Int->Value} {pf:Int->Int} {G:Int->Loc} (h:TreeO Iq w tb m C rs gc cc lb pb ks pk f pf G):ks.length<=512:=by
 obtain ⟨_,_,hnd,_⟩:=h.lst
 have p:=lists_perm h.ris hnd h.ls.keys
 have h1:=p.length_eq
 have h2:=h.rok.few
 rw [List.length_flatMap] at h1
 have:∀ l:List Int,(∀ x ∈ l,listR C rs x.toNat ≠ [])->l.length<=(l.map fun x=>(listR C rs x.toNat).length).sum:=by
  intro l
  induction l with
  | nil=>intro _;simp
  | cons x r ih =>
   intro hl
   have a1:=ih (fun y hy=>hl y (List.mem_cons_of_mem _ hy))
   have a2:=List.length_pos_iff.2 (hl x List.mem_cons_self)
   simp only [List.map_cons,List.sum_cons,List.length_cons]
   omega
 have:=this ks (fun x hx=>((h.ls.keys x).1 hx).2)
 omega
theorem TreeO.pkl {Iq:Nat->Prop} {w:World} {tb m:Nat} {C:Vs} {rs:List Rw} {gc cc lb pb:Nat} {ks pk:List Int} {f:Int->Value} {pf:Int->Int} {G:Int->Loc} (h:TreeO Iq w tb m C rs gc cc lb pb ks pk f pf G):pk.length=rs.length:=by
 obtain ⟨_,_,hnd,_⟩:=h.plc
 have hi:(idsOf rs).Nodup:=h.rok.ids
 have:=(nd_perm hnd hi h.pkk).length_eq
 rw [this]
 simp [idsOf]
theorem PcR.rd {w:World} {g o cap:Nat} {d:List Rt} (h:PcR w g o d.length cap (d.flatMap encR)):RwRd w g o d:=fun i hi=>by
 have h1:=h.cells (i * 2) (.int .i64 d[i].1) (by rw [flR_get,dif_pos (by omega)];simp [show i * 2 / 2=i by omega])
 have h2:=h.cells (i * 2 + 1) d[i].2.1 (by rw [flR_get,dif_pos (by omega)];simp [show (i * 2 + 1) / 2=i by omega,show (i * 2 + 1) % 2=1 by omega])
 exact ⟨h1,by rw [Nat.add_assoc];exact h2⟩
theorem RwRd.rdw' {w:World} {g o cap:Nat} {d:List Rt} (h:RwRd w g o d) (hv:∀ x ∈ d,RdI w x.2.1 x.2.2):RdW w (.slice (some ⟨g,o,none⟩) d.length cap) (d.map rwR):=by
 refine ⟨_,cap,by rw [List.length_map],fun i hi=>?_⟩
 rw [List.length_map] at hi
 rw [getElem!_pos (d.map rwR) i (by rw [List.length_map];exact hi),List.getElem_map]
 obtain ⟨h1,h2⟩:=h i hi
 exact ⟨g,o,d[i].2.1,rfl,h1,h2,hv _ (List.getElem_mem hi)⟩
theorem TreeO.chg {Iq:Nat->Prop} {w W:World} {tb m:Nat} {C:Vs} {rs rs':List Rw} {gc cc lb pb:Nat} {ks pk ks' pk':List Int} {f f':Int->Value} {pf pf':Int->Int} {G G':Int->Loc} (h:TreeO Iq w tb m C rs gc cc lb pb ks pk f pf G) {p:Nat}
  (k:Tk.Kp (fun b=>b ∈ blks tb gc lb pb ks G) w W) (tbk:W.heap[tb]? = w.heap[tb]?) (gck:W.heap[gc]? = w.heap[gc]?) (ml:MapA Tryz.prog 3 W lb ks' f') (mp:MapA Tryz.prog 3 W pb pk' (fun x=>.int .i64 (pf' x)))
  (oth:∀ x ∈ ks,x ≠ (p:Int)->f' x=f x/\G' x=G x/\∀ n xs,PcR w (G x).1 (G x).2.1 n (G x).2.2 xs->PcR W (G x).1 (G x).2.1 n (G x).2.2 xs)
  (keys:∀ x:Int,x ∈ ks' ↔ 0<=x/\listR C rs' x.toNat ≠ []) (same:∀ x:Nat,x ≠ p->listR C rs' x=listR C rs x)
  (new:(p:Int) ∈ ks'->∃ d vl vh vi,LsAt Iq W C[p]! (listR C rs' p) (f' p) (G' p) d vl vh vi) (apt:(p:Int) ∈ ks'->∀ x ∈ ks,x ≠ (p:Int)->Apart (G' p) (G x))
  (gnew:(p:Int) ∈ ks'->((p:Int) ∈ ks/\(G' p).1=(G p).1) ∨ w.heap.size<=(G' p).1) (pkk:∀ x,x ∈ pk' ↔ x ∈ idsOf rs') (pfv:∀ r ∈ rs',pf' r.1=((nearP C r.2).1:Int)) (ris:Ris rs') (rok:RowsOk rs' (m:Int)) :
  TOut Iq w tb m C (blks tb gc lb pb ks G) rs' W:=by
 have hno:=h.shut.noint
 have old:∀ x:Int,x ∈ ks'->x ≠ (p:Int)->x ∈ ks:=fun x hx hne=>by
  have h1:=(keys x).1 hx
  rw [same x.toNat (by omega)] at h1
  exact (h.ls.keys x).2 h1
 have cq:CenQ Iq W gc C:=by
  obtain ⟨cur,e,hl,hu⟩:=h.cen.blk
  refine ⟨cur,gck.trans e,hl,fun i hi=>?_⟩
  obtain ⟨u,e1,e2⟩:=hu i hi
  exact ⟨u,e1,arq_noi e2 k (NoI.of hno)⟩
 have lm:LstM Iq W C rs' ks' f' G':=by
  refine ⟨keys,fun x hx=>?_,fun x hx y hy hne=>?_⟩
  ·by_cases e:x=(p:Int)
   ·subst e
    simpa using new hx
   ·have hxo:=old x hx e
    obtain ⟨d,vl,vh,vi,a⟩:=h.ls.at_ x hxo
    obtain ⟨o1,o2,o3⟩:=oth x hxo e
    have hx0:=((keys x).1 hx).1
    refine ⟨d,vl,vh,vi,?_⟩
    rw [same x.toNat (by omega),o1,o2]
    exact ⟨a.val,a.rows,o3 _ _ a.pc,fun y hy=>ownq_noint (a.vec y hy) k hno,ownq_noint a.low k hno,ownq_noint a.high k hno,ownq_noint a.ids k hno⟩
  ·by_cases e:x=(p:Int)
   ·subst e
    have hyo:=old y hy (fun e=>hne e.symm)
    rw [(oth y hyo (fun e=>hne e.symm)).2.1]
    exact apt hx y hyo (fun e=>hne e.symm)
   ·have hxo:=old x hx e
    rw [(oth x hxo e).2.1]
    by_cases e':y=(p:Int)
    ·subst e'
     rcases apt hy x hxo e with a | a | a
     ·exact .inl (fun e=>a e.symm)
     ·exact .inr (.inr a)
     ·exact .inr (.inl a)
    ·have hyo:=old y hy e'
     rw [(oth y hyo e').2.1]
     exact h.ls.apart x hxo y hyo hne
 refine ⟨blks tb gc lb pb ks' G',TreeO.shut (pk:=pk') (pf:=pf') (cc:=cc) (f:=f') ⟨by rw [tbk];exact h.blk,cq,ml,mp,lm,pkk,pfv,ris,rok,h.cok,h.dim,h.ne,h.up.le k.size⟩,fun y hy=>?_,k⟩
 simp only [blks,List.mem_cons,List.mem_map] at hy ⊢
 rcases hy with hy | hy | hy | hy | ⟨x,hx,rfl⟩
 ·exact .inl (.inl hy)
 ·exact .inl (.inr (.inl hy))
 ·exact .inl (.inr (.inr (.inl hy)))
 ·exact .inl (.inr (.inr (.inr (.inl hy))))
 ·by_cases e:x=(p:Int)
  ·subst e
   rcases gnew hx with ⟨g1,g2⟩ | g
   ·exact .inl (.inr (.inr (.inr (.inr ⟨p,g1,g2.symm⟩))))
   ·exact .inr g
  ·have hxo:=old x hx e
   exact .inl (.inr (.inr (.inr (.inr ⟨x,hxo,by rw [(oth x hxo e).2.1]⟩))))
theorem del_at {R:List Rw} {id:Int} (h:Ris R) {i:Nat} (hi:i < R.length) (e:R[i].1=id):R.take i ++ R.drop (i + 1)=delRw R id:=by
 have hp:=List.pairwise_iff_getElem.1 h
 have e2:R=R.take i ++ R[i] :: R.drop (i + 1):=by rw [List.getElem_cons_drop,List.take_append_drop]
 unfold delRw
 conv=>rhs;rw [e2]
 rw [List.filter_append,List.filter_cons_of_neg (by simp [e])]
 congr 1
 ·symm
  rw [List.filter_eq_self]
  intro x hx
  obtain ⟨j,hj,rfl⟩:=List.getElem_of_mem hx
  rw [List.length_take] at hj
  rw [List.getElem_take]
  have:=hp j i (by omega) hi (by omega)
  simp
  omega
 ·symm
  rw [List.filter_eq_self]
  intro x hx
  obtain ⟨j,hj,rfl⟩:=List.getElem_of_mem hx
  rw [List.length_drop] at hj
  rw [List.getElem_drop]
  have:=hp i (i + 1 + j) hi (by omega) (by omega)
  simp
  omega
end Go.Proofs.YtcipdampcmfmaaaGreat

namespace Go.Proofs.YtcipdampcmfmaaaGreat
open Go.RowKit Go.Sort
set_option maxRecDepth 100000
set_option maxHeartbeats 2000000
theorem placeOf_c {w:World} {tb:Nat} {id:Int} {u v:Value} {cs:Vs} {x:List Int} (hu:RdV w u cs) (hv:RdI w v x) (hc:w.cell? ⟨tb,1,none⟩=some u) (hn:nearE cs x=0) :
  Calls Tryz.prog 90 #[.pointer (some ⟨tb,0,none⟩),.agg #[.int .i64 id,v]] w fun e w'=>e=.returned (.int .i64 ((nearP cs x).1:Int))/\Gr w w':=by
 obtain ⟨d,hd⟩:∃ d,d=(nearP cs x).2:=⟨_,rfl⟩
 have CN:Hid (∀ W,Gr w W->Calls Tryz.prog 130 #[u,v] W fun e w'=>e=.returned (.tuple #[.int .i64 ((nearP cs x).1:Int),.agg #[.int .u64 (hi d),.int .u64 (lo d)],.int .i64 0])/\Gr W w'):=fun W g=>by
  have h:=near_c (hu.gr g) (hv.gr g)
  rw [hn,if_pos rfl,if_pos rfl,<- hd] at h
  exact h
 generalize (nearP cs x).1=p at *
 generalize hi d=dh at *
 generalize lo d=dl at *
 have hlt:tb < w.heap.size:=cell_lt hc
 obtain ⟨pa,cp,rfl,_⟩:=hv
 generalize x.length=n at *
 have FS:(w.alloc (.cells #[.int .i64 id,.slice pa n cp] 43)).drew.cell? ⟨tb,1,none⟩=some u/\(w.alloc (.cells #[.int .i64 id,.slice pa n cp] 43)).drew.cell? ⟨w.heap.size,1,none⟩=some (.slice pa n cp):=⟨alloc_keeps hc _,by simp [go_sem]⟩
 have G1:Hid (Gr w (w.alloc (.cells #[.int .i64 id,.slice pa n cp] 43)).drew):=((Gr.refl _).alloc _ _).drew
 clear hd hn hu
 go_enter Tryz.func90,Tryz.ntmps90
 go_wp2_with fail
 refine wp_region_held_drew (S:=fun W=>W.cell? ⟨tb,1,none⟩=some u/\W.cell? ⟨w.heap.size,1,none⟩=some (.slice pa n cp)) (by kernel_rfl) (FS) (fun hHeld=>?_)
 refine tkn 0 ?_ rfl ?_ ?_;rotate_left;·(rintro w ⟨s0,s1⟩;go_simp;try rfl)
 try simp only [pt]
 refine tkn 1 ?_ rfl ?_ ?_;rotate_left;·(rintro w ⟨s0,s1⟩;go_simp;try rfl)
 try simp only [pt]
 refine tkn 2 ?_ rfl ?_ ?_;rotate_left;·(rintro w ⟨s0,s1⟩;go_simp;try rfl)
 try simp only [pt]
 refine tkn 3 ?_ rfl ?_ ?_;rotate_left;·(rintro w ⟨s0,s1⟩;go_simp;try rfl)
 try simp only [pt]
 refine tkn 4 ?_ rfl ?_ ?_;rotate_left;·(rintro w ⟨s0,s1⟩;go_simp;try rfl)
 try simp only [pt]
 refine tkn 5 ?_ rfl ?_ ?_;rotate_left;·(rintro w ⟨s0,s1⟩;go_simp;try rfl)
 try simp only [pt]
 refine wpAnyH_ready (rs:=[6,11]) (by kernel_rfl) (by simp) ?_
 refine AllReadyH.cons rfl (fun K hK=>?_) (AllReadyH.cons rfl (fun K hK=>?_) AllReadyH.nil)
 ·go_simp
  go_fit (CN.out _ G1.out)
  rintro e w1 ⟨rfl,g1⟩
  refine hK.out _ _ ⟨g1.keeps hHeld.1,g1.keeps hHeld.2⟩ (fun hHeld=>?_)
  clear hK K
  try simp only [pt]
  refine tkn 7 ?_ rfl ?_ ?_;rotate_left;·(rintro w ⟨s0,s1⟩;go_simp;try rfl)
  try simp only [pt]
  refine tkn 8 ?_ rfl ?_ ?_;rotate_left;·(rintro w ⟨s0,s1⟩;go_simp;try rfl)
  try simp only [pt]
  refine tkn 9 ?_ rfl ?_ ?_;rotate_left;·(rintro w ⟨s0,s1⟩;go_simp;try rfl)
  try simp only [pt]
  refine tkn 10 ?_ rfl ?_ ?_;rotate_left;·(rintro w ⟨s0,s1⟩;go_simp;try rfl)
  try simp only [pt]
  refine rdn 11 rfl (fun K hK=>?_)
  go_simp
  refine hK.out _ _ (⟨alloc_keeps hHeld.1 _,alloc_keeps hHeld.2 _⟩) (fun hHeld=>?_)
  clear hK K
  try simp only [pt]
  refine tkn 12 ?_ rfl ?_ ?_;rotate_left;·(rintro w ⟨s0,s1⟩;go_simp;try rfl)
  try simp only [pt]
  refine rdn 13 rfl (fun K hK=>?_)
  go_simp
  refine hK.out _ _ ⟨alloc_keeps (g1.keeps FS.1) _,alloc_keeps (g1.keeps FS.2) _⟩ (fun hHeld=>?_)
  clear hK K
  try simp only [pt]
  refine tkn 14 ?_ rfl ?_ ?_;rotate_left;·(rintro w ⟨s0,s1⟩;go_simp;try rfl)
  try simp only [pt]
  refine wpAnyH_done (by kernel_rfl) ?_ _
  go_wp2
  go_ret
  exact ⟨rfl,(G1.out.trans g1).alloc _ _⟩
 ·go_simp
  refine hK.out _ _ ⟨alloc_keeps hHeld.1 _,alloc_keeps hHeld.2 _⟩ (fun hHeld=>?_)
  clear hK K
  try simp only [pt]
  refine rdn 6 rfl (fun K hK=>?_)
  go_simp
  go_fit (CN.out _ (G1.out.alloc _ _))
  rintro e w1 ⟨rfl,g1⟩
  obtain ⟨v0,v1,f0,f1⟩:=(((Gr.refl _).drew).trans g1).var2
  refine hK.out _ _ ⟨g1.keeps hHeld.1,g1.keeps hHeld.2⟩ (fun hHeld=>?_)
  clear hK K
  have hsz:(w.alloc (.cells #[.int .i64 id,.slice pa n cp] 43)).heap.size=w.heap.size + 1:=World.size_alloc _ _
  rw [hsz] at v0 v1 f0 f1
  try simp only [pt]
  refine tkn 7 ?_ rfl ?_ ?_;rotate_left;·(rintro w ⟨s0,s1⟩;go_simp;try rfl)
  try simp only [pt]
  refine tkn 8 ?_ rfl ?_ ?_;rotate_left;·(rintro w ⟨s0,s1⟩;go_simp;try rfl)
  try simp only [pt]
  refine tkn 9 ?_ rfl ?_ ?_;rotate_left;·(rintro w ⟨s0,s1⟩;go_simp;try rfl)
  try simp only [pt]
  refine tkn 10 ?_ rfl ?_ ?_;rotate_left;·(rintro w ⟨s0,s1⟩;go_simp;try rfl)
  try simp only [pt]
  refine tkn 12 ?_ rfl ?_ ?_;rotate_left;·(rintro w ⟨s0,s1⟩;go_simp;try rfl)
  try simp only [pt]
  refine rdn 13 rfl (fun K hK=>?_)
  go_simp
  refine hK.out _ _ (set_far2 (by dsimp only;omega) (by dsimp only;omega) (set_far2 (by dsimp only;omega) (by dsimp only;omega) hHeld)) (fun hHeld=>?_)
  clear hK K
  try simp only [pt]
  refine tkn 14 ?_ rfl ?_ ?_;rotate_left;·(rintro w ⟨s0,s1⟩;go_simp;try rfl)
  try simp only [pt]
  refine wpAnyH_done (by kernel_rfl) ?_ _
  go_wp2
  go_ret
  exact ⟨rfl,(((G1.out.alloc _ _).trans g1).setCell (by dsimp only;omega) _).setCell (by dsimp only;omega) _⟩
end Go.Proofs.YtcipdampcmfmaaaGreat

namespace Go.Proofs.YtcipdampcmfmaaaGreat
open Go.RowKit Go.Sort Go.Maps
def KeepO (w w':World) (lb p:Nat) (ks:List Int) (f:Int->Value) (c:List Int) (R:List Rw) (sl:Value):Prop :=
 (R=[]/\MapA Tryz.prog 3 w' lb (ks.erase p) f/\w.mapTurned w' lb) ∨
 (R ≠ []/\∃ w1 W vl vh vi,OutR w w1 (ballR c R) vl vh vi/\Gb w1 W/\MapA Tryz.prog 3 w' lb (putK ks p) (putF f p (lv (ballR c R) vl vh vi sl))/\W.mapTurned w' lb)
theorem keep_any {w:World} {tb lb p n cap:Nat} {a:Option Addr} {ks:List Int} {f:Int->Value} {u:Value} {cs:Vs} {rs:List Rw} (hc:w.cell? ⟨tb,1,none⟩=some u) (hu:RdV w u cs) (hp:w.cell? ⟨tb,2,none⟩=some (.map (some lb))) (hm:MapA Tryz.prog 3 w lb ks f) (hk:ks.length < 1000000) (hpl:p < cs.length) (hcl:cs.length<=100000)
  (h:RdW w (.slice a n cap) rs) (hn2:n<=4000) (hwf:∀ i,i < rs.length->(Lit.int .i64 rs[i]!.1).wf=true) :
  Calls Tryz.prog 88 #[.pointer (some ⟨tb,0,none⟩),.int .i64 (p:Int),.slice a n cap] w fun e w'=>e=.returned (.tuple #[])/\KeepO w w' lb p ks f cs[p]! rs (.slice a n cap):=by
 have hln:rs.length=n:=by
  obtain ⟨a',c',e,_⟩:=h
  injection e with _ e _
  exact e.symm
 by_cases h0:n=0
 ·subst h0
  refine (keep_none hp hm ⟨by omega,by omega⟩).mono ?_
  rintro e w' ⟨rfl,h1,h2⟩
  exact ⟨rfl,.inl ⟨List.length_eq_zero_iff.1 hln,h1,h2⟩⟩
 ·refine (keep_c hc hu hp hm hk hpl hcl h (by omega) hn2 (by omega) hwf).mono ?_
  rintro e w' ⟨rfl,h1⟩
  exact ⟨rfl,.inr ⟨fun e=>by rw [e] at hln;simp at hln;omega,h1⟩⟩
theorem KeepO.kp {w w':World} {lb p:Nat} {ks:List Int} {f:Int->Value} {c:List Int} {R:List Rw} {sl:Value} (h:KeepO w w' lb p ks f c R sl):Tk.Kp (fun k=>k=lb) w w':=by
 rcases h with ⟨_,_,t⟩ | ⟨_,w1,W,vl,vh,vi,o,g,_,t⟩
 ·exact (turned_of t).2.2
 ·have g2:=gb_trans o.1 g
  have k1:Tk.Kp (fun k=>k=lb) w W:=⟨g2.os,g2.tape,g2.output,g2.size,fun k hk _=>g2.block k hk⟩
  exact k1.trans (turned_of t).2.2
def PcO (w w':World) (here:Prop) (a b:Loc):Prop:=(here/\b=a/\Tn w w' a.1 a.2.1 (a.2.2 * 2)) ∨ (w.heap.size<=b.1/\Gb w w')
theorem PcR.ne_map {w:World} {g o n cap b:Nat} {xs:List Value} {ks:List Int} {f:Int->Value} (h:PcR w g o n cap xs) (m:MapA Tryz.prog 3 w b ks f):g ≠ b:=by
 rintro rfl
 obtain ⟨cur,e,_⟩:=h
 obtain ⟨es,cl,e'⟩:=m.isMap
 rw [e] at e';simp at e'
theorem one_fin {Iq:Nat->Prop} {w w1 w2 w3 w4 w5:World} {tb m:Nat} {C:Vs} {rs rs':List Rw} {gc cc lb pb:Nat} {ks pk pk':List Int} {f:Int->Value} {pf pf':Int->Int} {G:Int->Loc} (h:TreeO Iq w tb m C rs gc cc lb pb ks pk f pf G) {p:Nat} {G1:Loc} {d':List Rt}
  (g1:Gb w w1) (ch:PcO w1 w2 ((p:Int) ∈ ks) (G p) G1) (pc:PcR w2 G1.1 G1.2.1 d'.length G1.2.2 (d'.flatMap encR)) (hd:d'.map rwR=listR C rs' p) (hv:∀ x ∈ d',OwnQ Iq w2 x.2.1 x.2.2)
  (kp:KeepO w2 w3 lb p ks f C[p]! (listR C rs' p) (.slice (some ⟨G1.1,G1.2.1,none⟩) d'.length G1.2.2)) (g4:Gb w3 w4) (mp:MapA Tryz.prog 3 w5 pb pk' (fun x=>.int .i64 (pf' x))) (t5:w4.mapTurned w5 pb)
  (same:∀ x:Nat,x ≠ p->listR C rs' x=listR C rs x) (pkk:∀ x,x ∈ pk' ↔ x ∈ idsOf rs') (pfv:∀ r ∈ rs',pf' r.1=((nearP C r.2).1:Int)) (ris:Ris rs') (rok:RowsOk rs' (m:Int)) :
  TOut Iq w tb m C (blks tb gc lb pb ks G) rs' w5:=by
 have hpc:(p:Int) ∈ ks->∃ n xs,PcR w (G p).1 (G p).2.1 n (G p).2.2 xs:=fun hp=>by
  obtain ⟨d,vl,vh,vi,a⟩:=h.ls.at_ _ hp
  exact ⟨_,_,a.pc⟩
 have k2:Tk.Kp (fun b=>(p:Int) ∈ ks/\b=(G p).1) w w2:=by
  rcases ch with ⟨hp,e,t,_⟩ | ⟨_,g⟩
  ·exact (kpF g1 |>.mono (fun _ _ h=>h.elim)).trans (t.mono (fun k _ e=>⟨hp,e⟩))
  ·exact (kpF (gb_trans g1 g)).mono (fun _ _ h=>h.elim)
 have eL:w2.heap[lb]? = w.heap[lb]? := k2.block _ h.lst.lt (fun ⟨hp,e⟩=>by
  obtain ⟨n,xs,c⟩:=hpc hp
  exact c.ne_map h.lst e.symm)
 have eP:w2.heap[pb]? = w.heap[pb]? := k2.block _ h.plc.lt (fun ⟨hp,e⟩=>by
  obtain ⟨n,xs,c⟩:=hpc hp
  exact c.ne_map h.plc e.symm)
 have eT:w2.heap[tb]? = w.heap[tb]? := k2.block _ (Array.getElem?_eq_some_iff.1 h.blk).1 (fun ⟨hp,e⟩=>by
  obtain ⟨n,xs,cur,c,_⟩:=hpc hp
  rw [<- e,h.blk] at c;simp at c)
 obtain ⟨ccur,hcc,_⟩:=h.cen.blk
 have eC:w2.heap[gc]? = w.heap[gc]? := k2.block _ (Array.getElem?_eq_some_iff.1 hcc).1 (fun ⟨hp,e⟩=>by
  obtain ⟨n,xs,cur,c,_⟩:=hpc hp
  rw [<- e,hcc] at c;simp at c)
 have mL:=h.lst.same eL
 have mP:=h.plc.same eP
 have kk5:Tk.Kp (fun k=>k=lb ∨ k=pb) w2 w5:=((kp.kp.mono (fun k _ e=>.inl e)).trans ((kpF g4).mono (fun _ _ h=>h.elim))).trans ((turned_of t5).2.2.mono (fun k _ e=>.inr e))
 have no5:NoInt w2 (fun k=>k=lb ∨ k=pb):=by
  rintro k (rfl | rfl) cur s e
  ·obtain ⟨es,cl,e'⟩:=mL.isMap
   rw [e] at e';simp at e'
  ·obtain ⟨es,cl,e'⟩:=mP.isMap
   rw [e] at e';simp at e'
 have k5:Tk.Kp (fun b=>b ∈ blks tb gc lb pb ks G) w w5:=by
  refine (k2.mono (fun k _ e=>?_)).trans (kk5.mono (fun k _ e=>?_))
  ·simp only [blks,List.mem_cons,List.mem_map]
   exact .inr (.inr (.inr (.inr ⟨p,e.1,e.2.symm⟩)))
  ·rcases e with rfl | rfl <;> simp [blks]
 have t5':=turned_of t5
 have eT5:w5.heap[tb]? = w.heap[tb]? := by
  rw [kk5.block _ (Nat.lt_of_lt_of_le (Array.getElem?_eq_some_iff.1 h.blk).1 k2.size) (fun e=>?_)]
  ·exact eT
  ·rcases e with rfl | rfl
   ·obtain ⟨es,cl,e'⟩:=h.lst.isMap
    rw [h.blk] at e';simp at e'
   ·obtain ⟨es,cl,e'⟩:=h.plc.isMap
    rw [h.blk] at e';simp at e'
 have eC5:w5.heap[gc]? = w.heap[gc]? := by
  rw [kk5.block _ (Nat.lt_of_lt_of_le (Array.getElem?_eq_some_iff.1 hcc).1 k2.size) (fun e=>?_)]
  ·exact eC
  ·rcases e with rfl | rfl
   ·obtain ⟨es,cl,e'⟩:=h.lst.isMap
    rw [hcc] at e';simp at e'
   ·obtain ⟨es,cl,e'⟩:=h.plc.isMap
    rw [hcc] at e';simp at e'
 have pc25:∀ {g o n cap:Nat} {xs:List Value},PcR w2 g o n cap xs->PcR w5 g o n cap xs:=fun c=>c.blk (kk5.block _ c.lt (fun e=>by
  rcases e with e | e
  ·exact c.ne_map mL e
  ·exact c.ne_map mP e))
 obtain ⟨_,_,hnd,_⟩:=h.lst
 have pcs:∀ x ∈ ks,x ≠ (p:Int)->∀ n xs,PcR w (G x).1 (G x).2.1 n (G x).2.2 xs->PcR w5 (G x).1 (G x).2.1 n (G x).2.2 xs:=fun x hx hne n xs c=>by
  have c1:=c.blk (g1.block _ c.lt)
  refine pc25 ?_
  rcases ch with ⟨hp,e,t⟩ | ⟨_,g⟩
  ·by_cases eg:(G x).1=(G p).1
   ·rcases h.ls.apart x hx p hp hne with a | a | a
    ·exact absurd eg a
    ·rw [eg] at c1 ⊢
     exact c1.apart t (.inl a)
    ·rw [eg] at c1 ⊢
     exact c1.apart t (.inr a)
   ·exact c1.blk (t.1.block _ c1.lt eg)
  ·exact c1.blk (g.block _ c1.lt)
 have apt:∀ x ∈ ks,x ≠ (p:Int)->Apart G1 (G x):=fun x hx hne=>by
  rcases ch with ⟨hp,e,t⟩ | ⟨hB,g⟩
  ·rw [e]
   exact h.ls.apart p hp x hx (fun e=>hne e.symm)
  ·obtain ⟨d,vl,vh,vi,a⟩:=h.ls.at_ _ hx
   have:=a.pc.lt
   have:=g1.size
   exact .inl (by omega)
 have gnew:((p:Int) ∈ ks/\G1.1=(G p).1) ∨ w.heap.size<=G1.1:=by
  rcases ch with ⟨hp,e,_⟩ | ⟨hB,_⟩
  ·exact .inl ⟨hp,by rw [e]⟩
  ·have:=g1.size
   exact .inr (by omega)
 rcases kp with ⟨hR,mk,t3⟩ | ⟨hR,v1,V,vl,vh,vi,o,gV,mk,t3⟩
 ·have hkeys:∀ x:Int,x ∈ ks.erase (p:Int) ↔ 0<=x/\listR C rs' x.toNat ≠ []:=fun x=>by
   rw [hnd.mem_erase_iff,h.ls.keys x]
   by_cases e:x=(p:Int)
   ·subst e
    simp [hR]
   ·constructor
    ·rintro ⟨_,h1,h2⟩
     exact ⟨h1,by rw [same x.toNat (by omega)];exact h2⟩
    ·rintro ⟨h1,h2⟩
     exact ⟨e,h1,by rw [<- same x.toNat (by omega)];exact h2⟩
  have hnp:(p:Int) ∉ ks.erase (p:Int):=fun hm=>(hkeys _).1 hm |>.2 (by simpa using hR)
  refine h.chg (p:=p) (G':=G) (f':=f) k5 eT5 eC5 (mk.same ?_) mp (fun x hx hne=>⟨rfl,rfl,pcs x hx hne⟩) hkeys same (fun hm=>absurd hm hnp) (fun hm=>absurd hm hnp) (fun hm=>absurd hm hnp) pkk pfv ris rok
  rw [t5'.2.1 _ h.ne,g4.block _ mk.lt]
 ·have hkeys:∀ x:Int,x ∈ putK ks (p:Int) ↔ 0<=x/\listR C rs' x.toNat ≠ []:=fun x=>by
   rw [mem_putK,h.ls.keys x]
   by_cases e:x=(p:Int)
   ·subst e
    simp [hR]
   ·constructor
    ·rintro (e' | ⟨h1,h2⟩)
     ·exact absurd e' e
     ·exact ⟨h1,by rw [same x.toNat (by omega)];exact h2⟩
    ·rintro ⟨h1,h2⟩
     exact .inr ⟨h1,by rw [<- same x.toNat (by omega)];exact h2⟩
  have upw2:Up Iq w2:=h.up.le k2.size
  have kv5:Tk.Kp (fun k=>k=lb ∨ k=pb) v1 w5:=((((kpF gV).mono (fun _ _ h=>h.elim)).trans ((turned_of t3).2.2.mono (fun k _ e=>.inl e))).trans ((kpF g4).mono (fun _ _ h=>h.elim))).trans (t5'.2.2.mono (fun k _ e=>.inr e))
  have nov:NoInt v1 (fun k=>k=lb ∨ k=pb):=by
   have mL':=mL.same (o.1.block _ mL.lt)
   have mP':=mP.same (o.1.block _ mP.lt)
   rintro k (rfl | rfl) cur s e
   ·obtain ⟨es,cl,e'⟩:=mL'.isMap
    rw [e] at e';simp at e'
   ·obtain ⟨es,cl,e'⟩:=mP'.isMap
    rw [e] at e';simp at e'
  have q1:OwnQ Iq w5 vl (ballR C[p]! (listR C rs' p)).L:=ownq_noint (OwnQ.new o.2.1 upw2 (Nat.le_refl _)) kv5 nov
  have q2:OwnQ Iq w5 vh (ballR C[p]! (listR C rs' p)).H:=ownq_noint (OwnQ.new o.2.2.1 upw2 (Nat.le_refl _)) kv5 nov
  have q3:OwnQ Iq w5 vi (ballR C[p]! (listR C rs' p)).I:=ownq_noint (OwnQ.new o.2.2.2.1 upw2 (Nat.le_refl _)) kv5 nov
  refine h.chg (p:=p) (G':=fun x=>if x=(p:Int) then G1 else G x) (f':=putF f p (lv (ballR C[p]! (listR C rs' p)) vl vh vi (.slice (some ⟨G1.1,G1.2.1,none⟩) d'.length G1.2.2))) k5 eT5 eC5 (mk.same ?_) mp (fun x hx hne=>⟨if_neg hne,if_neg hne,pcs x hx hne⟩) hkeys same (fun _=>⟨d',vl,vh,vi,?_⟩) (fun _ x hx hne=>?_) (fun _=>?_) pkk pfv ris rok
  ·rw [t5'.2.1 _ h.ne,g4.block _ mk.lt]
  ·refine ⟨?_,hd,?_,fun x hx=>ownq_noint (hv x hx) kk5 no5,q1,q2,q3⟩
   ·simp [putF]
   ·simpa using pc25 pc
  ·simpa using apt x hx hne
  ·simpa using gnew
end Go.Proofs.YtcipdampcmfmaaaGreat
