import Derived.Test.YtepjbdklljlecaaGreatVr33
import Derived.BigQuiet
namespace Go.Proofs.YtepjbdklljlecaaGreat
open Go.RowKit
set_option maxHeartbeats 4000000
theorem plus_sum (n:Nat) (hn:n < 340282366920938463463374607431768211456) (o:Bool) (i k v:Nat) (hk:i + k<=14) (hv:v < 8589934592) (w:World) :
  Calls Tryz.prog 231 #[Nm n o,.int .i64 ((i:Int) + (k:Int)),.int .i64 (v:Int)] w fun e w'=>∃ q:Nat,∃ p:Bool,e=.returned (Nm q p)/\q < 340282366920938463463374607431768211456 /\
   Hid (q=(n + v * 65536 ^ (i + k)) % 340282366920938463463374607431768211456/\p=(o || decide (340282366920938463463374607431768211456<=n + v * 65536 ^ (i + k))))/\Gr w w':=by
 have:=plus_ex n hn o (i + k) v hk hv w
 rw [Int.natCast_add] at this;exact this
theorem times_step (n m i k e f v Y:Nat) (hf:f=m / 65536 ^ k % 65536) (hv:v=e * f) (hY:Y=n % 65536 ^ i * m + e * 65536 ^ i * (m % 65536 ^ k)) :
  Y + v * 65536 ^ (i + k)=n % 65536 ^ i * m + e * 65536 ^ i * (m % 65536 ^ (k + 1)):=by
 subst hY hv
 rw [Nat.pow_succ,Nat.mod_mul,<- hf,Nat.mul_add,Nat.pow_add,Nat.add_assoc]
 congr 2
 rw [Nat.mul_mul_mul_comm,Nat.mul_comm f,Nat.mul_assoc e]
theorem times_row (n m i e Y:Nat) (hm:m < 340282366920938463463374607431768211456) (he:e=n / 65536 ^ i % 65536) (hY:Y=n % 65536 ^ i * m + e * 65536 ^ i * (m % 65536 ^ 8)):Y=n % 65536 ^ (i + 1) * m:=by
 subst hY
 rw [Nat.mod_eq_of_lt (show m < 65536 ^ 8 from hm),Nat.pow_succ,Nat.mod_mul,<- he,Nat.add_mul,Nat.mul_comm e]
theorem times_false (n m:Nat) (hn:n < 340282366920938463463374607431768211456) (hm:m < 340282366920938463463374607431768211456) (o2:Bool) (w:World) :
  Calls Tryz.prog 219 #[Nm n false,Nm m o2] w fun e w' =>
   e=.returned (Nm (n * m % 340282366920938463463374607431768211456) (o2 || decide (340282366920938463463374607431768211456<=n * m)))/\Gr w w':=by
 have n0:=NumAt.new w n false 234
 have n1:=NumAt.new (w.alloc (.cells #[.int .i64 (dd n 0),.int .i64 (dd n 1),.int .i64 (dd n 2),.int .i64 (dd n 3),.int .i64 (dd n 4),.int .i64 (dd n 5),.int .i64 (dd n 6),.int .i64 (dd n 7),.bool false] 234)) m o2 234
 have n2:=NumAt.zero ((w.alloc (.cells #[.int .i64 (dd n 0),.int .i64 (dd n 1),.int .i64 (dd n 2),.int .i64 (dd n 3),.int .i64 (dd n 4),.int .i64 (dd n 5),.int .i64 (dd n 6),.int .i64 (dd n 7),.bool false] 234)).alloc (.cells #[.int .i64 (dd m 0),.int .i64 (dd m 1),.int .i64 (dd m 2),.int .i64 (dd m 3),.int .i64 (dd m 4),.int .i64 (dd m 5),.int .i64 (dd m 6),.int .i64 (dd m 7),.bool o2] 234)) 234
 have n3:=NumAt.new (((w.alloc (.cells #[.int .i64 (dd n 0),.int .i64 (dd n 1),.int .i64 (dd n 2),.int .i64 (dd n 3),.int .i64 (dd n 4),.int .i64 (dd n 5),.int .i64 (dd n 6),.int .i64 (dd n 7),.bool false] 234)).alloc (.cells #[.int .i64 (dd m 0),.int .i64 (dd m 1),.int .i64 (dd m 2),.int .i64 (dd m 3),.int .i64 (dd m 4),.int .i64 (dd m 5),.int .i64 (dd m 6),.int .i64 (dd m 7),.bool o2] 234)).alloc (.cells #[.int .i64 0,.int .i64 0,.int .i64 0,.int .i64 0,.int .i64 0,.int .i64 0,.int .i64 0,.int .i64 0,.bool false] 234)) 0 o2 234
 simp only [World.size_alloc] at n1 n2 n3
 go_enter Tryz.func219,Tryz.ntmps219
 go_wp2
 go_loopw [6] (fun iv w'=>∃ i Y q:Nat,∃ p:Bool,iv=.int .i64 (i:Int)/\i<=8/\q < 340282366920938463463374607431768211456/\Hid (Y=n % 65536 ^ i * m)/\Hid (q=Y % 340282366920938463463374607431768211456/\p=(o2 || decide (340282366920938463463374607431768211456<=Y)))/\Gr w w'/\NumAt w' w.heap.size n false/\NumAt w' (w.heap.size + 1) m o2/\NumAt w' (w.heap.size + 1 + 1) 0 false/\NumAt w' (w.heap.size + 1 + 1 + 1) q p) (fun iv _=>8 - (intOf iv).toNat)
 case atStart =>
  refine ⟨0,0,0,o2,rfl,by omega,by omega,by show 0=n % 65536 ^ 0 * m;rw [Nat.pow_zero,Nat.mod_one,Nat.zero_mul],⟨rfl,by rw [decide_eq_false (by omega)];simp⟩,((((Gr.refl _).alloc _ _).alloc _ _).alloc _ _).alloc _ _,((n0.call ((Gr.refl _).alloc _ _)).call ((Gr.refl _).alloc _ _)).call ((Gr.refl _).alloc _ _),(n1.call ((Gr.refl _).alloc _ _)).call ((Gr.refl _).alloc _ _),n2.call ((Gr.refl _).alloc _ _),n3⟩
 case round =>
  clear n0 n1 n2 n3
  obtain ⟨i,Y,q,p,rfl,hi8,hq,HY,X,hG,hN,hM,hR,hO⟩:=hrel
  by_cases hi:i < 8
  ·obtain ⟨e,he,he1,he2⟩:=dd_nat n i
   have E2:Hid (e=n / 65536 ^ i % 65536):=he2
   have hcn:=hN.d i hi
   rw [he] at hcn
   clear he he2
   have hib:decide ((i:Int) < 8)=true:=by simp;omega
   go_wp2
   go_loopw [7] (fun kv w'=>∃ k Y q:Nat,∃ p:Bool,kv=.int .i64 (k:Int)/\k<=8/\q < 340282366920938463463374607431768211456/\Hid (Y=n % 65536 ^ i * m + e * 65536 ^ i * (m % 65536 ^ k))/\Hid (q=Y % 340282366920938463463374607431768211456/\p=(o2 || decide (340282366920938463463374607431768211456<=Y)))/\Gr w w'/\NumAt w' w.heap.size n false/\NumAt w' (w.heap.size + 1) m o2/\NumAt w' (w.heap.size + 1 + 1) 0 false/\NumAt w' (w.heap.size + 1 + 1 + 1) q p) (fun kv _=>8 - (intOf kv).toNat)
   case atStart =>
    exact ⟨0,Y,q,p,rfl,by omega,hq,by unfold Hid;rw [Nat.pow_zero,Nat.mod_one,Nat.mul_zero,Nat.add_zero];exact HY.out,X,hG,hN,hM,hR,hO⟩
   case round =>
    clear HY X hG hN hM hR hO hcn hq
    obtain ⟨k,Y,q,p,rfl,hk8,hq,HY,X,hG,hN,hM,hR,hO⟩:=hrel
    by_cases hk:k < 8
    ·obtain ⟨f,hf,hf1,hf2⟩:=dd_nat m k
     have hcn:=hN.d i hi
     have hcm:=hM.d k hk
     obtain ⟨e',he',he1',he2'⟩:=dd_nat n i
     obtain rfl:e'=e:=by rw [he2',E2.out]
     rw [he'] at hcn
     rw [hf] at hcm
     have hvb:e' * f<=65535 * 65535:=Nat.mul_le_mul (by omega) (by omega)
     obtain ⟨v,hv⟩:∃ v:Nat,v=e' * f:=⟨_,rfl⟩
     have hvI:(e':Int) * (f:Int)=(v:Int):=by rw [hv,Int.natCast_mul]
     have hvb':v < 4294967296:=by omega
     have HS:Hid (Y + v * 65536 ^ (i + k)=n % 65536 ^ i * m + e' * 65536 ^ i * (m % 65536 ^ (k + 1))):=times_step n m i k e' f v Y hf2 hv HY.out
     obtain ⟨c0,c1,c2,c3,c4,c5,c6,c7,c8⟩:=hO.cells
     have fo:=hO.f 8 (by omega)
     clear hf hf2 he' he2' hv hvb HY
     by_cases hbig:0 < v/\8<=i + k
     ·obtain ⟨hv0,hik⟩:=hbig
      have X':Hid (q=(Y + v * 65536 ^ (i + k)) % 340282366920938463463374607431768211456/\true=(o2 || decide (340282366920938463463374607431768211456<=Y + v * 65536 ^ (i + k)))):=by
       obtain ⟨x1,x2⟩:=X.out
       obtain ⟨p1,p2⟩:=pow_past (i + k) hik v q hq hv0
       refine ⟨by rw [<- p1,x1];omega,?_⟩
       have:340282366920938463463374607431768211456<=Y + v * 65536 ^ (i + k):=by omega
       rw [decide_eq_true this];simp
      go_wp2
      go_quiet (fail)
      go_wp2
      refine ⟨⟨k + 1,Y + v * 65536 ^ (i + k),q,true,by go_num,by omega,hq,HS,X',(hG.drewN _).setCell (by dsimp only;omega) _,?_,?_,?_,?_⟩,by simp [intOf];omega⟩
      ·exact (hN.call ((Gr.refl _).drewN _)).far _ _ (by omega) _
      ·exact (hM.call ((Gr.refl _).drewN _)).far _ _ (by omega) _
      ·exact (hR.call ((Gr.refl _).drewN _)).far _ _ (by omega) _
      ·exact (hO.call ((Gr.refl _).drewN _)).setOver true
     ·by_cases hv0:0 < v
      ·have hik:i + k < 8:=by omega
       clear hbig
       go_wp2
       go_quiet (fail)
       go_wp2_with (go_at_call 231;refine (plus_sum q hq p i k v (by omega) (by omega) _).mono ?_;rintro _ w2 ⟨q',p',rfl,hq',Z,g2⟩;have hO2:=(hO.call ((Gr.refl _).drewN _)).call g2;obtain ⟨d0,d1,d2,d3,d4,d5,d6,d7,d8⟩:=hO2.cells;obtain ⟨f0,f1,f2,f3,f4,f5,f6,f7,f8⟩:=hO2.open9)
       go_roundw
       case measure=>simp [intOf];omega
       refine ⟨k + 1,Y + v * 65536 ^ (i + k),q',p',by go_num,by omega,hq',HS,?_,((hG.drewN _).trans g2).store9 (by omega) _ _ _ _ _ _ _ _ _,?_,?_,?_,hO2.store q' p'⟩
       ·exact sum_step Y (v * 65536 ^ (i + k)) _ q q' p p' X.out.1 X.out.2 Z.out.1 Z.out.2
       ·have hN2:=(hN.call ((Gr.refl _).drewN _)).call g2
        exact (((((((((hN2.far _ _ (by omega) _).far _ _ (by omega) _).far _ _ (by omega) _).far _ _ (by omega) _).far _ _ (by omega) _).far _ _ (by omega) _).far _ _ (by omega) _).far _ _ (by omega) _).far _ _ (by omega) _)
       ·have hM2:=(hM.call ((Gr.refl _).drewN _)).call g2
        exact (((((((((hM2.far _ _ (by omega) _).far _ _ (by omega) _).far _ _ (by omega) _).far _ _ (by omega) _).far _ _ (by omega) _).far _ _ (by omega) _).far _ _ (by omega) _).far _ _ (by omega) _).far _ _ (by omega) _)
       ·have hR2:=(hR.call ((Gr.refl _).drewN _)).call g2
        exact (((((((((hR2.far _ _ (by omega) _).far _ _ (by omega) _).far _ _ (by omega) _).far _ _ (by omega) _).far _ _ (by omega) _).far _ _ (by omega) _).far _ _ (by omega) _).far _ _ (by omega) _).far _ _ (by omega) _)
      ·have hv1:v<=0:=by omega
       clear hbig
       go_wp2
       go_quiet (fail)
       go_wp2_with (go_at_call 231;refine (plus_sum q hq p i k v (by omega) (by omega) _).mono ?_;rintro _ w2 ⟨q',p',rfl,hq',Z,g2⟩;have hO2:=(hO.call ((Gr.refl _).drewN _)).call g2;obtain ⟨d0,d1,d2,d3,d4,d5,d6,d7,d8⟩:=hO2.cells;obtain ⟨f0,f1,f2,f3,f4,f5,f6,f7,f8⟩:=hO2.open9)
       go_roundw
       case measure=>simp [intOf];omega
       refine ⟨k + 1,Y + v * 65536 ^ (i + k),q',p',by go_num,by omega,hq',HS,?_,((hG.drewN _).trans g2).store9 (by omega) _ _ _ _ _ _ _ _ _,?_,?_,?_,hO2.store q' p'⟩
       ·exact sum_step Y (v * 65536 ^ (i + k)) _ q q' p p' X.out.1 X.out.2 Z.out.1 Z.out.2
       ·have hN2:=(hN.call ((Gr.refl _).drewN _)).call g2
        exact (((((((((hN2.far _ _ (by omega) _).far _ _ (by omega) _).far _ _ (by omega) _).far _ _ (by omega) _).far _ _ (by omega) _).far _ _ (by omega) _).far _ _ (by omega) _).far _ _ (by omega) _).far _ _ (by omega) _)
       ·have hM2:=(hM.call ((Gr.refl _).drewN _)).call g2
        exact (((((((((hM2.far _ _ (by omega) _).far _ _ (by omega) _).far _ _ (by omega) _).far _ _ (by omega) _).far _ _ (by omega) _).far _ _ (by omega) _).far _ _ (by omega) _).far _ _ (by omega) _).far _ _ (by omega) _)
       ·have hR2:=(hR.call ((Gr.refl _).drewN _)).call g2
        exact (((((((((hR2.far _ _ (by omega) _).far _ _ (by omega) _).far _ _ (by omega) _).far _ _ (by omega) _).far _ _ (by omega) _).far _ _ (by omega) _).far _ _ (by omega) _).far _ _ (by omega) _).far _ _ (by omega) _)
    ·have hk9:k=8:=by omega
     have HY':Hid (Y=n % 65536 ^ (i + 1) * m):=times_row n m i e Y hm E2.out (by rw [HY.out,hk9])
     clear HY hk9
     go_wp2
     refine ⟨⟨i + 1,Y,q,p,by go_num,by omega,hq,HY',X,hG,hN,hM,hR,hO⟩,by simp [intOf];omega⟩
  ·have hi9:i=8:=by omega
   obtain ⟨r0,r1,r2,r3,r4,r5,r6,r7,r8⟩:=hR.cells
   obtain ⟨f0,f1,f2,f3,f4,f5,f6,f7,f8⟩:=hR.open9
   obtain ⟨c0,c1,c2,c3,c4,c5,c6,c7,c8⟩:=hO.cells
   have E:Hid (q=n * m % 340282366920938463463374607431768211456/\p=(o2 || decide (340282366920938463463374607431768211456<=n * m))):=by
    have h1:=HY.out
    rw [hi9,Nat.mod_eq_of_lt (show n < 65536 ^ 8 from hn)] at h1
    have h2:=X.out
    rw [h1] at h2
    exact h2
   clear HY X hi9 hN hM hR hO
   go_wp2
   exact bodyPost_ret (v:=Nm q p) (by simp [results,Tryz.results219,go_sem,r0,r1,r2,r3,r4,r5,r6,r7,r8]) rfl ⟨by rw [<- E.out.1,<- E.out.2],hG.store9 (by omega) _ _ _ _ _ _ _ _ _⟩
end Go.Proofs.YtepjbdklljlecaaGreat
