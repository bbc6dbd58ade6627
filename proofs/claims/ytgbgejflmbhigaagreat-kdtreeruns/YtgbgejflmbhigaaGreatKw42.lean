import Derived.Test.YtgbgejflmbhigaaGreatKw41
import Derived.Test.YtgbgejflmbhigaaGreatKw12
import Derived.BigQuiet
import Derived.Test.YtgbgejflmbhigaaGreatKw10
import Derived.Test.YtgbgejflmbhigaaGreatKw15
import Derived.Test.YtgbgejflmbhigaaGreatKw33
import Derived.Test.YtgbgejflmbhigaaGreatKw16
import Derived.Test.YtgbgejflmbhigaaGreatKwFar
namespace Go.Proofs.YtgbgejflmbhigaaGreat
open Go.RowKit Go.Sort Go.Maps
set_option maxRecDepth 100000
set_option maxHeartbeats 1000000
theorem tput_id {w:World} {tb m:Nat} {rs:List Rw} {G:List Nat} {xi:Int} {u:Value} {xl:List Int} (h:TbAt w tb m rs G) (hu:RdI w u xl) (h1:okId xi=false):Calls Tryz.prog 20 #[.pointer (some ⟨tb,0,none⟩),.agg #[.int .i64 xi,u]] w fun e w'=>e=.returned (.tuple #[.bool false,.int .i64 50])/\TbOut w tb m rs G w':=by
 obtain ⟨W1,hW1⟩:∃ W1,W1=w.alloc (.cells #[.int .i64 xi,u] 39):=⟨_,rfl⟩
 have G0:Hid (Gb w W1):=by unfold Hid;rw [hW1];exact gb_alloc (Below.refl _ _) _
 have b0:W1.cell? ⟨w.heap.size,0,none⟩=some (.int .i64 xi):=by rw [hW1];simp [go_sem]
 have b1:W1.cell? ⟨w.heap.size,1,none⟩=some u:=by rw [hW1];simp [go_sem]
 have cI:=fun W=>rid_c xi W
 rw [h1] at cI
 obtain ⟨au,cu,rfl,_⟩:=hu
 go_enter Tryz.func20,Tryz.ntmps20
 go_wp2_with fail
 rw [<- hW1]
 clear hW1
 go_wp2_with fail
 refine (cI _).mono ?_
 rintro e w2 ⟨rfl,rfl⟩
 clear b0 b1 cI
 go_wp2
 exact bodyPost_ret (v:=.tuple #[.bool false,.int .i64 50]) (by simp [results,Tryz.results20,go_sem]) rfl ⟨rfl,G,h.gb G0.out,fun y hy=>.inl hy,Tk.Kp.of_gr G0.out⟩
theorem tput_chk {w:World} {tb m:Nat} {rs:List Rw} {G:List Nat} {xi:Int} {u:Value} {xl:List Int} (h:TbAt w tb m rs G) (hu:RdI w u xl) (h1:okId xi=true) {e0:Int} (h2:chk xl (m:Int)=e0) (h3:e0 ≠ 0):Calls Tryz.prog 20 #[.pointer (some ⟨tb,0,none⟩),.agg #[.int .i64 xi,u]] w fun e w'=>e=.returned (.tuple #[.bool false,.int .i64 e0])/\TbOut w tb m rs G w':=by
 obtain ⟨W1,hW1⟩:∃ W1,W1=w.alloc (.cells #[.int .i64 xi,u] 39):=⟨_,rfl⟩
 have G0:Hid (Gb w W1):=by unfold Hid;rw [hW1];exact gb_alloc (Below.refl _ _) _
 have b0:W1.cell? ⟨w.heap.size,0,none⟩=some (.int .i64 xi):=by rw [hW1];simp [go_sem]
 have b1:W1.cell? ⟨w.heap.size,1,none⟩=some u:=by rw [hW1];simp [go_sem]
 have cI:=fun W=>rid_c xi W
 rw [h1] at cI
 have cC:=fun W (g:Gb W1 W)=>rcheck_v ((hu.gb G0.out).gb g) (m:Int) e0 h2
 obtain ⟨a,cap,c0,c1,_⟩:=(h.gb G0.out).rd
 have GD:Gb W1 W1.drew:=⟨rfl,rfl,rfl,Nat.le_refl _,fun _ _=>rfl⟩
 have hzb:(e0 == 0)=false:=by rw [beq_eq_false_iff_ne];exact h3
 obtain ⟨au,cu,rfl,_⟩:=hu
 go_enter Tryz.func20,Tryz.ntmps20
 go_wp2_with fail
 rw [<- hW1]
 clear hW1
 go_wp2_with fail
 refine (cI _).mono ?_
 rintro e wa ⟨rfl,rfl⟩
 clear cI
 go_wp2_with fail
 refine wp_region_held_drew (S:=fun W=>Gb W1 W) (by kernel_rfl) (GD) (fun hHeld=>?_)
 refine tkn 0 ?_ rfl ?_ ?_;rotate_left;·(intro w hSw;obtain ⟨s0,s1,s2,s3⟩:=kp4 hSw b0 b1 c0 c1;go_simp;try rfl)
 try simp only [Act.put,List.getElem_toArray,List.getElem_cons_zero,List.setIfInBounds_toArray,List.set_cons_zero,List.set_cons_succ]
 refine tkn 1 ?_ rfl ?_ ?_;rotate_left;·(intro w hSw;obtain ⟨s0,s1,s2,s3⟩:=kp4 hSw b0 b1 c0 c1;go_simp;try rfl)
 try simp only [Act.put,List.getElem_toArray,List.getElem_cons_zero,List.getElem_cons_succ,List.setIfInBounds_toArray,List.set_cons_zero,List.set_cons_succ]
 refine tkn 2 ?_ rfl ?_ ?_;rotate_left;·(intro w hSw;obtain ⟨s0,s1,s2,s3⟩:=kp4 hSw b0 b1 c0 c1;go_simp;try rfl)
 try simp only [Act.put,List.getElem_toArray,List.getElem_cons_zero,List.getElem_cons_succ,List.setIfInBounds_toArray,List.set_cons_zero,List.set_cons_succ]
 refine tkn 3 ?_ rfl ?_ ?_;rotate_left;·(intro w hSw;obtain ⟨s0,s1,s2,s3⟩:=kp4 hSw b0 b1 c0 c1;go_simp;try rfl)
 try simp only [Act.put,List.getElem_toArray,List.getElem_cons_zero,List.getElem_cons_succ,List.setIfInBounds_toArray,List.set_cons_zero,List.set_cons_succ]
 refine tkn 4 ?_ rfl ?_ ?_;rotate_left;·(intro w hSw;obtain ⟨s0,s1,s2,s3⟩:=kp4 hSw b0 b1 c0 c1;go_simp;try rfl)
 try simp only [Act.put,List.getElem_toArray,List.getElem_cons_zero,List.getElem_cons_succ,List.setIfInBounds_toArray,List.set_cons_zero,List.set_cons_succ]
 refine tkn 5 ?_ rfl ?_ ?_;rotate_left;·(intro w hSw;obtain ⟨s0,s1,s2,s3⟩:=kp4 hSw b0 b1 c0 c1;go_simp;try rfl)
 try simp only [Act.put,List.getElem_toArray,List.getElem_cons_zero,List.getElem_cons_succ,List.setIfInBounds_toArray,List.set_cons_zero,List.set_cons_succ]
 refine rdn 6 rfl (fun K hK=>?_)
 go_simp
 refine (cC _ hHeld).mono ?_
 rintro e w3 ⟨rfl,rfl⟩
 refine hK.out _ _ (hHeld) (fun hHeld=>?_)
 clear hK K
 try simp only [Act.put,List.getElem_toArray,List.getElem_cons_zero,List.getElem_cons_succ,List.setIfInBounds_toArray,List.set_cons_zero,List.set_cons_succ]
 refine tkn 7 ?_ rfl ?_ ?_;rotate_left;·(intro w hSw;obtain ⟨s0,s1,s2,s3⟩:=kp4 hSw b0 b1 c0 c1;go_simp;try rfl)
 try simp only [Act.put,List.getElem_toArray,List.getElem_cons_zero,List.getElem_cons_succ,List.setIfInBounds_toArray,List.set_cons_zero,List.set_cons_succ]
 refine wpAnyH_done (by kernel_rfl) ?_ _
 clear b0 b1 c0 c1 cC
 have GF:Hid (Gb w W1.drew):=gb_trans G0.out hHeld
 clear hHeld
 go_wp2
 exact bodyPost_ret (v:=.tuple #[.bool false,.int .i64 e0]) (by simp [results,Tryz.results20,go_sem]) rfl ⟨rfl,G,h.gb GF.out,fun y hy=>.inl hy,Tk.Kp.of_gr GF.out⟩
end Go.Proofs.YtgbgejflmbhigaaGreat

namespace Go.Proofs.YtgbgejflmbhigaaGreat
open Go.RowKit
set_option maxHeartbeats 4000000
theorem plus_sum (n:Nat) (hn:n < 340282366920938463463374607431768211456) (o:Bool) (i k v:Nat) (hk:i + k<=14) (hv:v < 8589934592) (w:World) :
  Calls Tryz.prog 198 #[Nm n o,.int .i64 ((i:Int) + (k:Int)),.int .i64 (v:Int)] w fun e w'=>∃ q:Nat,∃ p:Bool,e=.returned (Nm q p)/\q < 340282366920938463463374607431768211456 /\
   Hid (q=(n + v * 65536 ^ (i + k)) % 340282366920938463463374607431768211456/\p=(o || decide (340282366920938463463374607431768211456<=n + v * 65536 ^ (i + k))))/\Gr w w':=by
 have:=plus_ex n hn o (i + k) v hk hv w
 rw [Int.natCast_add] at this;exact this
theorem times_step (n m i k e f v Y:Nat) (hf:f=m / 65536 ^ k % 65536) (hv:v=e * f) (hY:Y=n % 65536 ^ i * m + e * 65536 ^ i * (m % 65536 ^ k)) :
  Y + v * 65536 ^ (i + k)=n % 65536 ^ i * m + e * 65536 ^ i * (m % 65536 ^ (k + 1)):=by
 subst hY hv
 rw [Nat.pow_succ,Nat.mod_mul,<- hf,Nat.mul_add,Nat.pow_add,Nat.add_assoc]
 congr 2
 rw [Nat.mul_mul_mul_comm,Nat.mul_comm f,Nat.mul_assoc e]
theorem times_row (n m i e Y:Nat) (hm:m < 340282366920938463463374607431768211456) (he:e=n / 65536 ^ i % 65536) (hY:Y=n % 65536 ^ i * m + e * 65536 ^ i * (m % 65536 ^ 8)):Y=n % 65536 ^ (i + 1) * m:=by
 subst hY
 rw [Nat.mod_eq_of_lt (show m < 65536 ^ 8 from hm),Nat.pow_succ,Nat.mod_mul,<- he,Nat.add_mul,Nat.mul_comm e]
theorem times_false (n m:Nat) (hn:n < 340282366920938463463374607431768211456) (hm:m < 340282366920938463463374607431768211456) (o2:Bool) (w:World) :
  Calls Tryz.prog 191 #[Nm n false,Nm m o2] w fun e w' =>
   e=.returned (Nm (n * m % 340282366920938463463374607431768211456) (o2 || decide (340282366920938463463374607431768211456<=n * m)))/\Gr w w':=by
 have n0:=NumAt.new w n false 204
 have n1:=NumAt.new (w.alloc (.cells #[.int .i64 (dd n 0),.int .i64 (dd n 1),.int .i64 (dd n 2),.int .i64 (dd n 3),.int .i64 (dd n 4),.int .i64 (dd n 5),.int .i64 (dd n 6),.int .i64 (dd n 7),.bool false] 204)) m o2 204
 have n2:=NumAt.zero ((w.alloc (.cells #[.int .i64 (dd n 0),.int .i64 (dd n 1),.int .i64 (dd n 2),.int .i64 (dd n 3),.int .i64 (dd n 4),.int .i64 (dd n 5),.int .i64 (dd n 6),.int .i64 (dd n 7),.bool false] 204)).alloc (.cells #[.int .i64 (dd m 0),.int .i64 (dd m 1),.int .i64 (dd m 2),.int .i64 (dd m 3),.int .i64 (dd m 4),.int .i64 (dd m 5),.int .i64 (dd m 6),.int .i64 (dd m 7),.bool o2] 204)) 204
 have n3:=NumAt.new (((w.alloc (.cells #[.int .i64 (dd n 0),.int .i64 (dd n 1),.int .i64 (dd n 2),.int .i64 (dd n 3),.int .i64 (dd n 4),.int .i64 (dd n 5),.int .i64 (dd n 6),.int .i64 (dd n 7),.bool false] 204)).alloc (.cells #[.int .i64 (dd m 0),.int .i64 (dd m 1),.int .i64 (dd m 2),.int .i64 (dd m 3),.int .i64 (dd m 4),.int .i64 (dd m 5),.int .i64 (dd m 6),.int .i64 (dd m 7),.bool o2] 204)).alloc (.cells #[.int .i64 0,.int .i64 0,.int .i64 0,.int .i64 0,.int .i64 0,.int .i64 0,.int .i64 0,.int .i64 0,.bool false] 204)) 0 o2 204
 simp only [World.size_alloc] at n1 n2 n3
 go_enter Tryz.func191,Tryz.ntmps191
 go_wp2
 go_loopw [6] (fun iv w'=>∃ i Y q:Nat,∃ p:Bool,iv=.int .i64 (i:Int)/\i<=8/\q < 340282366920938463463374607431768211456/\Hid (Y=n % 65536 ^ i * m)/\Hid (q=Y % 340282366920938463463374607431768211456/\p=(o2 || decide (340282366920938463463374607431768211456<=Y)))/\Gr w w'/\NumAt w' w.heap.size n false/\NumAt w' (w.heap.size + 1) m o2/\NumAt w' (w.heap.size + 1 + 1) 0 false/\NumAt w' (w.heap.size + 1 + 1 + 1) q p) (fun iv _=>8 - (intOf iv).toNat)
 case atStart =>
  refine ⟨0,0,0,o2,rfl,by omega,by omega,by show 0=n % 65536 ^ 0 * m;rw [Nat.pow_zero,Nat.mod_one,Nat.zero_mul],⟨rfl,by rw [decide_eq_false (by omega)];simp⟩,((((Gr.refl _).alloc _ _).alloc _ _).alloc _ _).alloc _ _,((n0.call ((Gr.refl _).alloc _ _)).call ((Gr.refl _).alloc _ _)).call ((Gr.refl _).alloc _ _),(n1.call ((Gr.refl _).alloc _ _)).call ((Gr.refl _).alloc _ _),n2.call ((Gr.refl _).alloc _ _),n3⟩
 case round =>
  clear n0 n1 n2 n3
  obtain ⟨i,Y,q,p,rfl,hi8,hq,HY,X,hG,hN,hM,hR,hO⟩:=hrel
  by_cases hi:i < 8
  ·obtain ⟨e,he,he1,he2⟩:=dd_nat n i
   have E2:Hid (e=n / 65536 ^ i % 65536):=he2
   have hcn:=hN.d i hi
   rw [he] at hcn
   clear he he2
   have hib:decide ((i:Int) < 8)=true:=by simp;omega
   go_wp2
   go_loopw [7] (fun kv w'=>∃ k Y q:Nat,∃ p:Bool,kv=.int .i64 (k:Int)/\k<=8/\q < 340282366920938463463374607431768211456/\Hid (Y=n % 65536 ^ i * m + e * 65536 ^ i * (m % 65536 ^ k))/\Hid (q=Y % 340282366920938463463374607431768211456/\p=(o2 || decide (340282366920938463463374607431768211456<=Y)))/\Gr w w'/\NumAt w' w.heap.size n false/\NumAt w' (w.heap.size + 1) m o2/\NumAt w' (w.heap.size + 1 + 1) 0 false/\NumAt w' (w.heap.size + 1 + 1 + 1) q p) (fun kv _=>8 - (intOf kv).toNat)
   case atStart =>
    exact ⟨0,Y,q,p,rfl,by omega,hq,by unfold Hid;rw [Nat.pow_zero,Nat.mod_one,Nat.mul_zero,Nat.add_zero];exact HY.out,X,hG,hN,hM,hR,hO⟩
   case round =>
    clear HY X hG hN hM hR hO hcn hq
    obtain ⟨k,Y,q,p,rfl,hk8,hq,HY,X,hG,hN,hM,hR,hO⟩:=hrel
    by_cases hk:k < 8
    ·obtain ⟨f,hf,hf1,hf2⟩:=dd_nat m k
     have hcn:=hN.d i hi
     have hcm:=hM.d k hk
     obtain ⟨e',he',he1',he2'⟩:=dd_nat n i
     obtain rfl:e'=e:=by rw [he2',E2.out]
     rw [he'] at hcn
     rw [hf] at hcm
     have hvb:e' * f<=65535 * 65535:=Nat.mul_le_mul (by omega) (by omega)
     obtain ⟨v,hv⟩:∃ v:Nat,v=e' * f:=⟨_,rfl⟩
     have hvI:(e':Int) * (f:Int)=(v:Int):=by rw [hv,Int.natCast_mul]
     have hvb':v < 4294967296:=by omega
     have HS:Hid (Y + v * 65536 ^ (i + k)=n % 65536 ^ i * m + e' * 65536 ^ i * (m % 65536 ^ (k + 1))):=times_step n m i k e' f v Y hf2 hv HY.out
     obtain ⟨c0,c1,c2,c3,c4,c5,c6,c7,c8⟩:=hO.cells
     have fo:=hO.f 8 (by omega)
     clear hf hf2 he' he2' hv hvb HY
     by_cases hbig:0 < v/\8<=i + k
     ·obtain ⟨hv0,hik⟩:=hbig
      have X':Hid (q=(Y + v * 65536 ^ (i + k)) % 340282366920938463463374607431768211456/\true=(o2 || decide (340282366920938463463374607431768211456<=Y + v * 65536 ^ (i + k)))):=by
       obtain ⟨x1,x2⟩:=X.out
       obtain ⟨p1,p2⟩:=pow_past (i + k) hik v q hq hv0
       refine ⟨by rw [<- p1,x1];omega,?_⟩
       have:340282366920938463463374607431768211456<=Y + v * 65536 ^ (i + k):=by omega
       rw [decide_eq_true this];simp
      go_wp2
      go_quiet (fail)
      go_wp2
      refine ⟨⟨k + 1,Y + v * 65536 ^ (i + k),q,true,by go_num,by omega,hq,HS,X',(hG.drewN _).setCell (by dsimp only;omega) _,?_,?_,?_,?_⟩,by simp [intOf];omega⟩
      ·exact (hN.call ((Gr.refl _).drewN _)).far _ _ (by omega) _
      ·exact (hM.call ((Gr.refl _).drewN _)).far _ _ (by omega) _
      ·exact (hR.call ((Gr.refl _).drewN _)).far _ _ (by omega) _
      ·exact (hO.call ((Gr.refl _).drewN _)).setOver true
     ·by_cases hv0:0 < v
      ·have hik:i + k < 8:=by omega
       clear hbig
       go_wp2
       go_quiet (fail)
       go_wp2_with (go_at_call 198;refine (plus_sum q hq p i k v (by omega) (by omega) _).mono ?_;rintro _ w2 ⟨q',p',rfl,hq',Z,g2⟩;have hO2:=(hO.call ((Gr.refl _).drewN _)).call g2;obtain ⟨d0,d1,d2,d3,d4,d5,d6,d7,d8⟩:=hO2.cells;obtain ⟨f0,f1,f2,f3,f4,f5,f6,f7,f8⟩:=hO2.open9)
       go_roundw
       case measure=>simp [intOf];omega
       refine ⟨k + 1,Y + v * 65536 ^ (i + k),q',p',by go_num,by omega,hq',HS,?_,((hG.drewN _).trans g2).store9 (by omega) _ _ _ _ _ _ _ _ _,?_,?_,?_,hO2.store q' p'⟩
       ·exact sum_step Y (v * 65536 ^ (i + k)) _ q q' p p' X.out.1 X.out.2 Z.out.1 Z.out.2
       ·have hN2:=(hN.call ((Gr.refl _).drewN _)).call g2
        exact (((((((((hN2.far _ _ (by omega) _).far _ _ (by omega) _).far _ _ (by omega) _).far _ _ (by omega) _).far _ _ (by omega) _).far _ _ (by omega) _).far _ _ (by omega) _).far _ _ (by omega) _).far _ _ (by omega) _)
       ·have hM2:=(hM.call ((Gr.refl _).drewN _)).call g2
        exact (((((((((hM2.far _ _ (by omega) _).far _ _ (by omega) _).far _ _ (by omega) _).far _ _ (by omega) _).far _ _ (by omega) _).far _ _ (by omega) _).far _ _ (by omega) _).far _ _ (by omega) _).far _ _ (by omega) _)
       ·have hR2:=(hR.call ((Gr.refl _).drewN _)).call g2
        exact (((((((((hR2.far _ _ (by omega) _).far _ _ (by omega) _).far _ _ (by omega) _).far _ _ (by omega) _).far _ _ (by omega) _).far _ _ (by omega) _).far _ _ (by omega) _).far _ _ (by omega) _).far _ _ (by omega) _)
      ·have hv1:v<=0:=by omega
       clear hbig
       go_wp2
       go_quiet (fail)
       go_wp2_with (go_at_call 198;refine (plus_sum q hq p i k v (by omega) (by omega) _).mono ?_;rintro _ w2 ⟨q',p',rfl,hq',Z,g2⟩;have hO2:=(hO.call ((Gr.refl _).drewN _)).call g2;obtain ⟨d0,d1,d2,d3,d4,d5,d6,d7,d8⟩:=hO2.cells;obtain ⟨f0,f1,f2,f3,f4,f5,f6,f7,f8⟩:=hO2.open9)
       go_roundw
       case measure=>simp [intOf];omega
       refine ⟨k + 1,Y + v * 65536 ^ (i + k),q',p',by go_num,by omega,hq',HS,?_,((hG.drewN _).trans g2).store9 (by omega) _ _ _ _ _ _ _ _ _,?_,?_,?_,hO2.store q' p'⟩
       ·exact sum_step Y (v * 65536 ^ (i + k)) _ q q' p p' X.out.1 X.out.2 Z.out.1 Z.out.2
       ·have hN2:=(hN.call ((Gr.refl _).drewN _)).call g2
        exact (((((((((hN2.far _ _ (by omega) _).far _ _ (by omega) _).far _ _ (by omega) _).far _ _ (by omega) _).far _ _ (by omega) _).far _ _ (by omega) _).far _ _ (by omega) _).far _ _ (by omega) _).far _ _ (by omega) _)
       ·have hM2:=(hM.call ((Gr.refl _).drewN _)).call g2
        exact (((((((((hM2.far _ _ (by omega) _).far _ _ (by omega) _).far _ _ (by omega) _).far _ _ (by omega) _).far _ _ (by omega) _).far _ _ (by omega) _).far _ _ (by omega) _).far _ _ (by omega) _).far _ _ (by omega) _)
       ·have hR2:=(hR.call ((Gr.refl _).drewN _)).call g2
        exact (((((((((hR2.far _ _ (by omega) _).far _ _ (by omega) _).far _ _ (by omega) _).far _ _ (by omega) _).far _ _ (by omega) _).far _ _ (by omega) _).far _ _ (by omega) _).far _ _ (by omega) _).far _ _ (by omega) _)
    ·have hk9:k=8:=by omega
     have HY':Hid (Y=n % 65536 ^ (i + 1) * m):=times_row n m i e Y hm E2.out (by rw [HY.out,hk9])
     clear HY hk9
     go_wp2
     refine ⟨⟨i + 1,Y,q,p,by go_num,by omega,hq,HY',X,hG,hN,hM,hR,hO⟩,by simp [intOf];omega⟩
  ·have hi9:i=8:=by omega
   obtain ⟨r0,r1,r2,r3,r4,r5,r6,r7,r8⟩:=hR.cells
   obtain ⟨f0,f1,f2,f3,f4,f5,f6,f7,f8⟩:=hR.open9
   obtain ⟨c0,c1,c2,c3,c4,c5,c6,c7,c8⟩:=hO.cells
   have E:Hid (q=n * m % 340282366920938463463374607431768211456/\p=(o2 || decide (340282366920938463463374607431768211456<=n * m))):=by
    have h1:=HY.out
    rw [hi9,Nat.mod_eq_of_lt (show n < 65536 ^ 8 from hn)] at h1
    have h2:=X.out
    rw [h1] at h2
    exact h2
   clear HY X hi9 hN hM hR hO
   go_wp2
   exact bodyPost_ret (v:=Nm q p) (by simp [results,Tryz.results191,go_sem,r0,r1,r2,r3,r4,r5,r6,r7,r8]) rfl ⟨by rw [<- E.out.1,<- E.out.2],hG.store9 (by omega) _ _ _ _ _ _ _ _ _⟩
end Go.Proofs.YtgbgejflmbhigaaGreat

namespace Go.Proofs.YtgbgejflmbhigaaGreat
open Go.RowKit
set_option maxHeartbeats 1000000
theorem of_small (x:Nat) (h:x < 18446744073709551616) (w:World) :
  Calls Tryz.prog 162 #[.agg #[.int .u64 0,.int .u64 (x:Int)]] w fun e w'=>e=.returned (Nm x false)/\Gr w w':=by
 rw [small_wd x h];exact of_any x (by omega) w
theorem times_ok (n m:Nat) (hn:n < 340282366920938463463374607431768211456) (hm:m < 340282366920938463463374607431768211456) (h:n * m < 340282366920938463463374607431768211456) (w:World) :
  Calls Tryz.prog 191 #[Nm n false,Nm m false] w fun e w'=>e=.returned (Nm (n * m) false)/\Gr w w':=by
 have:=times_false n m hn hm false w
 rw [Nat.mod_eq_of_lt h,decide_eq_false (by omega)] at this
 exact this
theorem rmul_any (x y:Nat) (hx:x < 18446744073709551616) (hy:y < 18446744073709551616) (w:World) :
  Calls Tryz.prog 166 #[.int .u64 (x:Int),.int .u64 (y:Int)] w fun e w'=>e=.returned (Wd (x * y))/\Gr w w':=by
 have hxy:=mul_lt x y hx hy
 go_enter Tryz.func166,Tryz.ntmps166
 go_wp2_with fail
 refine (of_small x hx _).mono ?_
 rintro e w1 ⟨rfl,g1⟩
 go_wp2_with fail
 refine (of_small y hy _).mono ?_
 rintro e w2 ⟨rfl,g2⟩
 go_wp2_with fail
 refine (times_ok x y (by omega) (by omega) hxy _).mono ?_
 rintro e w3 ⟨rfl,g3⟩
 go_wp2_with fail
 refine (wide_any (x * y) hxy false _).mono ?_
 rintro e w4 ⟨rfl,g4⟩
 have G:=((g1.trans g2).trans g3).trans g4
 obtain ⟨v0,v1,v2,v3⟩:=G.var2
 go_wp2
 exact bodyPost_ret (v:=Wd (x * y)) (by simp [results,Tryz.results166,go_sem,v0,v1]) rfl ⟨rfl,((((Gr.refl _).alloc _ _).trans G).setCell (by dsimp only;omega) _).setCell (by dsimp only;omega) _⟩
end Go.Proofs.YtgbgejflmbhigaaGreat

namespace Go.Proofs.YtgbgejflmbhigaaGreat
open Go.RowKit
set_option maxHeartbeats 2000000
theorem rless_v (a b:Nat) (ha:a < 340282366920938463463374607431768211456) (hb:b < 340282366920938463463374607431768211456) (r:Bool) (h:decide (a < b)=r) (w:World) :
  Calls Tryz.prog 126 #[Wd a,Wd b] w fun e w'=>e=.returned (.bool r)/\Gr w w':=by
 subst h;exact less_any a b ha hb w
theorem rroot_c (a:Nat) (ha:a < 340282366920938463463374607431768211456) (w:World) :
  Calls Tryz.prog 165 #[Wd a] w fun e w'=>e=.returned (.int .u64 (rt a:Int))/\Gr w w':=by
 go_enter Tryz.func165,Tryz.ntmps165
 go_wp2
 go_loopw [3,4] (fun lv hv w'=>∃ x y:Nat,lv=.int .u64 (x:Int)/\hv=.int .u64 (y:Int)/\x<=y/\y < 18446744073709551616/\Hid (x * x<=a/\a < (y + 1) * (y + 1))/\Gr (w.alloc (.cells #[.int .u64 (hi a),.int .u64 (lo a)] 58)) w') (fun lv hv _=>(intOf hv - intOf lv).toNat)
 case atStart=>exact ⟨0,18446744073709551615,by simp,by simp,by omega,by omega,⟨by omega,by omega⟩,Gr.refl _⟩
 case round =>
  obtain ⟨x,y,rfl,rfl,hxy,hy,X,hg⟩:=hrel
  obtain ⟨c0,c1,_,_⟩:=hg.var2
  by_cases hc:x < y
  ·have hci:(x:Int) < (y:Int):=by omega
   obtain ⟨k,hk⟩:∃ k:Nat,k=x + (y - x) / 2:=⟨_,rfl⟩
   obtain ⟨m,hm⟩:∃ m:Nat,m=k + 1:=⟨_,rfl⟩
   have e1:(x:Int) + ((y:Int) - (x:Int)) / 2=(k:Int):=by omega
   have e2:(k:Int) + 1=(m:Int):=by omega
   have K:Hid (k=x + (y - x) / 2/\m=k + 1/\x < m/\m<=y):=⟨hk,hm,by omega,by omega⟩
   have hm1:m < 18446744073709551616:=by omega
   have hk1:k < 18446744073709551616:=by omega
   have hmm:=mul_lt m m hm1 hm1
   clear hk hm
   by_cases hlt:a < m * m
   ·have cl:=fun W=>rless_v a (m * m) ha hmm true (decide_eq_true hlt) W
    have R:Hid (a < (m - 1 + 1) * (m - 1 + 1)):=by
     have:=K.out.2.2.1
     unfold Hid;rw [Nat.sub_add_cancel (by omega)];exact hlt
    clear hlt
    go_wp2
    go_region_held3 (fun w'=>w'.cell? ⟨w.heap.size,0,none⟩=some (.int .u64 (hi a))/\w'.cell? ⟨w.heap.size,1,none⟩=some (.int .u64 (lo a))) (first | (with_reducible exact call_keeps2 (by assumption) (by assumption)) | exact ⟨c0,c1⟩)
     (first
      | (go_at_call 166;refine (rmul_any m m hm1 hm1 _).mono ?_;rintro e w1 ⟨rfl,g1⟩)
      | (go_at_call 126;refine (cl _).mono ?_;rintro e w2 ⟨rfl,g2⟩))
    all_goals
     have hG:=(hg.drew.trans g1).trans g2
     have hm0:1<=m:=by have:=K.out;omega
     clear c0 c1 hg g1 g2
     go_wp2
     refine ⟨⟨x,m - 1,by go_num,?_,?_,by omega,⟨X.out.1,R.out⟩,hG⟩,?_⟩
     ·rw [Int.natCast_sub hm0];rfl
     ·have:=K.out;omega
     ·have:=K.out;simp [intOf];omega
   ·have cl:=fun W=>rless_v a (m * m) ha hmm false (decide_eq_false hlt) W
    have R:Hid (m * m<=a):=by unfold Hid;omega
    clear hlt
    go_wp2
    go_region_held3 (fun w'=>w'.cell? ⟨w.heap.size,0,none⟩=some (.int .u64 (hi a))/\w'.cell? ⟨w.heap.size,1,none⟩=some (.int .u64 (lo a))) (first | (with_reducible exact call_keeps2 (by assumption) (by assumption)) | exact ⟨c0,c1⟩)
     (first
      | (go_at_call 166;refine (rmul_any m m hm1 hm1 _).mono ?_;rintro e w1 ⟨rfl,g1⟩)
      | (go_at_call 126;refine (cl _).mono ?_;rintro e w2 ⟨rfl,g2⟩))
    all_goals
     have hG:=(hg.drew.trans g1).trans g2
     clear c0 c1 hg g1 g2
     go_wp2
     refine ⟨⟨m,y,rfl,by go_num,?_,hy,⟨R.out,X.out.2⟩,hG⟩,?_⟩
     ·have:=K.out;omega
     ·have:=K.out;simp [intOf];omega
  ·have hci:¬ (x:Int) < (y:Int):=by omega
   have E:Hid (x=rt a):=by
    have h1:=X.out
    rw [show y=x by omega] at h1
    exact root_one h1
   go_wp2
   go_ret
   exact ⟨by rw [<- E.out];rfl,((Gr.refl _).alloc _ _).trans hg⟩
end Go.Proofs.YtgbgejflmbhigaaGreat

namespace Go.Proofs.YtgbgejflmbhigaaGreat
open Go.RowKit
set_option maxRecDepth 100000
set_option maxHeartbeats 8000000
theorem bxN_succ (l h a:List Int) (q:Nat):bxN l h a (q + 1)=bxN l h a q + gap l[q]! h[q]! a[q]! * gap l[q]! h[q]! a[q]! := rfl
theorem bxN_mono (l h a:List Int) {p q:Nat} (hpq:p<=q):bxN l h a p<=bxN l h a q:=by
 induction q with
 | zero =>
   have:p=0:=by omega
   subst this;exact Nat.le_refl _
 | succ q ih =>
  by_cases e:p=q + 1
  ·subst e;exact Nat.le_refl _
  ·rw [bxN_succ];have:=ih (by omega);omega
theorem bx_no {l h a:List Int} {q:Nat} (hq:q < a.length) (hg:gap l[q]! h[q]! a[q]! ≠ 0):decide (bx l h a=0)=false:=by
 rw [decide_eq_false_iff_not]
 intro e
 have h1:=bxN_mono l h a (show q + 1<=a.length by omega)
 rw [bxN_succ] at h1
 have h2:0 < gap l[q]! h[q]! a[q]! * gap l[q]! h[q]! a[q]! := Nat.mul_pos (by omega) (by omega)
 unfold bx at e
 omega
theorem rin_box {w:World} {v u:Value} {r:Reg} {a:List Int} (hv:RdR w v r) (hu:RdI w u a) (h0:ckB r a=0) (s2:r.S=2) :
  Calls Tryz.prog 158 #[v,u] w fun e w'=>e=.returned (.bool (inV r a))/\Gr w w':=by
 obtain ⟨vl,vh,vi,rfl,hL,hH,hI⟩:=hv
 have RA:Hid (RegAt (w.alloc (rc r vl vh vi)) w.heap.size r vl vh vi):=RegAt.new w r vl vh vi
 have G0:Gr w (w.alloc (rc r vl vh vi)):=(Gr.refl _).alloc _ _
 obtain ⟨k1,k2,k3,k4,k5,k6,k7⟩:=box_ok h0 s2
 have E:Hid (inV r a=decide (bx r.L r.H a=0)):=by unfold Hid inV;rw [if_pos s2]
 generalize inV r a=res at *
 obtain ⟨pl,cl,rfl,aL⟩:=hL
 obtain ⟨ph,ch,rfl,aH⟩:=hH
 obtain ⟨pa,ca,rfl,aU⟩:=hu
 have A:Hid (∀ i,i < a.length->∃ b o,pl=some ⟨b,o,none⟩/\w.cell? ⟨b,o + i,none⟩=some (.int .i64 r.L[i]!)):=fun i hi=>aL i (by omega)
 have B:Hid (∀ i,i < a.length->∃ b o,ph=some ⟨b,o,none⟩/\w.cell? ⟨b,o + i,none⟩=some (.int .i64 r.H[i]!)):=fun i hi=>aH i (by omega)
 have C:Hid (∀ i,i < a.length->∃ b o,pa=some ⟨b,o,none⟩/\w.cell? ⟨b,o + i,none⟩=some (.int .i64 a[i]!)):=aU
 clear aL aH aU hI h0 k4 k5 k6 k7
 obtain ⟨S,L,H,R,I⟩:=r
 dsimp only at *
 subst s2
 have N:Hid (∀ q,gap L[q]! H[q]! a[q]! ≠ 0->q < a.length->res=false):=fun q hg hq=>by rw [E.out];exact bx_no hq hg
 have N2:Hid (bxN L H a a.length=0->res=true):=fun h=>by rw [E.out,decide_eq_true_eq];exact h
 generalize hnl:L.length=nl at *
 generalize hnh:H.length=nh at *
 generalize hna:a.length=n at *
 clear hnl hnh hna E
 replace k1:=k1.symm
 replace k2:=k2.symm
 subst k1;subst k2
 go_enter Tryz.func158,Tryz.ntmps158
 go_wp2
 go_loopw [5] (fun iv w'=>∃ q:Nat,iv=.int .i64 (q:Int)/\q<=n/\Gr (w.alloc (rc ⟨2,L,H,R,I⟩ (.slice pl n cl) (.slice ph n ch) vi)) w'/\Hid (bxN L H a q=0)) (fun iv _=>n - (intOf iv).toNat)
 case atStart=>exact ⟨0,rfl,Nat.zero_le _,Gr.refl _,rfl⟩
 case round =>
  obtain ⟨q,rfl,hq,g1,X⟩:=hrel
  obtain ⟨q0,q1,q2,q3,q4,q5⟩:=RA.out.gb g1.gb
  dsimp only at q0 q1 q2 q3 q4 q5
  by_cases hqn:q < n
  ·have hqi:(q:Int) < (n:Int):=by omega
   obtain ⟨b1,o1,ea,hc1⟩:=A.out q hqn
   obtain ⟨b2,o2,eb,hc2⟩:=B.out q hqn
   obtain ⟨b3,o3,ec,hc3⟩:=C.out q hqn
   subst ea;subst eb;subst ec
   replace hc1:=(G0.trans g1).keeps hc1
   replace hc2:=(G0.trans g1).keeps hc2
   replace hc3:=(G0.trans g1).keeps hc3
   have NQ:Hid (gap L[q]! H[q]! a[q]! ≠ 0->res=false):=fun h=>N.out q h hqn
   have NS:Hid (bxN L H a (q + 1)=bxN L H a q + gap L[q]! H[q]! a[q]! * gap L[q]! H[q]! a[q]!):=rfl
   generalize L[q]! = x at *
   generalize H[q]! = y at *
   generalize a[q]! = z at *
   by_cases h1:z < x
   ·have R1:Hid (res=false):=NQ.out (by unfold gap;rw [if_pos h1];omega)
    have h1':decide (z < x)=true:=by simpa using h1
    clear h1 N N2 NQ NS X
    go_wp2
    go_quiet (fail)
    go_wp2
    go_ret
    exact ⟨by rw [R1.out];rfl,(G0.trans g1).drewN _⟩
   ·have h1':decide (z < x)=false:=by simpa using h1
    by_cases h2:y < z
    ·have R1:Hid (res=false):=NQ.out (by unfold gap;rw [if_neg h1,if_pos h2];omega)
     clear h1 N N2 NQ NS X
     go_wp2
     go_quiet (fail)
     go_wp2
     go_ret
     exact ⟨by rw [R1.out];rfl,(G0.trans g1).drewN _⟩
    ·have R1:Hid (bxN L H a (q + 1)=0):=by
      have:gap x y z=0:=by unfold gap;rw [if_neg h1,if_neg h2]
      unfold Hid;rw [NS.out,X.out,this]
     clear h1 N NQ NS X
     go_wp2
     go_quiet (fail)
     go_wp2
     go_roundw
     case rel=>exact ⟨q + 1,by simp,hqn,g1.drewN _,R1⟩
     case measure=>simp [intOf];omega
  ·have hqi:¬ (q:Int) < (n:Int):=by omega
   have R1:Hid (res=true):=N2.out (by
     have h2:q=n:=by omega
     rw [<- h2];exact X.out)
   go_wp2
   go_ret
   exact ⟨by rw [R1.out];rfl,G0.trans g1⟩
theorem rin_c {w:World} {v u:Value} {r:Reg} {a:List Int} (hv:RdR w v r) (hu:RdI w u a) (h0:ckB r a=0) (hR:r.R < 340282366920938463463374607431768211456) :
  Calls Tryz.prog 158 #[v,u] w fun e w'=>e=.returned (.bool (inV r a))/\Gr w w':=by
 by_cases s2:r.S=2
 ·exact rin_box hv hu h0 s2
 have s2':(r.S == 2)=false:=by rw [beq_eq_false_iff_ne];exact s2
 obtain ⟨vl,vh,vi,rfl,hL,hH,hI⟩:=hv
 have RA:Hid (RegAt (w.alloc (rc r vl vh vi)) w.heap.size r vl vh vi):=RegAt.new w r vl vh vi
 have G0:Gr w (w.alloc (rc r vl vh vi)):=(Gr.refl _).alloc _ _
 have E:Hid (inV r a=if r.S=3 then decide (dst r.L a<=r.R) else true):=by unfold Hid inV;rw [if_neg s2]
 generalize inV r a=res at *
 by_cases s3:r.S=3
 ·obtain ⟨k1,k2,k3,k4⟩:=ball_ok h0 s3
  rw [if_pos s3] at E
  have c2:=fun W' (g:Gr (w.alloc (rc r vl vh vi)) W')=>far_c (hL.gb (G0.trans g).gb) (hu.gb (G0.trans g).gb) k1 k2 k3 k4
  have c3:=fun W=>less_any r.R (dst r.L a) hR (dst_lt k3 k4 k1 k2) W
  have hle:Hid ((!decide (r.R < dst r.L a))=res):=by
   unfold Hid;rw [E.out]
   by_cases h:r.R < dst r.L a
   ·rw [decide_eq_true h,decide_eq_false (by omega)];rfl
   ·rw [decide_eq_false h,decide_eq_true (by omega)];rfl
  obtain ⟨pa,ca,rfl,_⟩:=hu
  obtain ⟨pl,cl,rfl,_⟩:=hL
  clear hH hI h0 k1 k2 k3 k4 hR E s2 s2'
  obtain ⟨S,L,H,R,I⟩:=r
  dsimp only at *
  subst s3
  generalize dst L a=bb at *
  generalize decide (R < bb)=cc at *
  generalize a.length=na at *
  generalize L.length=nl at *
  obtain ⟨q0,q1,q2,q3,q4,q5⟩:=RA.out
  dsimp only at q0 q1 q2 q3 q4 q5
  have g1d:Gr (w.alloc (rc ⟨3,L,H,R,I⟩ (.slice pl nl cl) vh vi)) (w.alloc (rc ⟨3,L,H,R,I⟩ (.slice pl nl cl) vh vi)).drew:=(Gr.refl _).drew
  go_enter Tryz.func158,Tryz.ntmps158
  go_wp2_with fail
  go_region_held3 (fun w'=>w'.cell? ⟨w.heap.size,1,none⟩=some (.slice pl nl cl)/\w'.cell? ⟨w.heap.size,3,none⟩=some (.int .u64 (hi R))/\w'.cell? ⟨w.heap.size,4,none⟩=some (.int .u64 (lo R))) (first | (with_reducible exact three_call (by assumption) (by assumption)) | exact ⟨q1,q3,q4⟩)
   (first
    | (go_at_call 159;refine (c2 _ g1d).mono ?_;rintro e w2 ⟨rfl,g2⟩)
    | (go_at_call 126;refine (c3 _).mono ?_;rintro e w3 ⟨rfl,g3⟩))
  all_goals
   go_wp2
   go_ret
   exact ⟨by rw [<- hle.out];rfl,((G0.trans g1d).trans g2).trans g3⟩
 ·have s3':(r.S == 3)=false:=by rw [beq_eq_false_iff_ne];exact s3
  rw [if_neg s3] at E
  have e:=E.out
  subst e
  obtain ⟨pa,ca,rfl,_⟩:=hu
  clear hL hH hI h0 hR E s2 s3
  obtain ⟨S,L,H,R,I⟩:=r
  dsimp only at *
  generalize a.length=na at *
  obtain ⟨q0,q1,q2,q3,q4,q5⟩:=RA.out
  dsimp only at q0 q1 q2 q3 q4 q5
  go_enter Tryz.func158,Tryz.ntmps158
  go_wp2
  go_ret
  exact ⟨rfl,G0⟩
end Go.Proofs.YtgbgejflmbhigaaGreat

namespace Go.Proofs.YtgbgejflmbhigaaGreat
open Go.RowKit Go.Sort
set_option maxRecDepth 100000
set_option maxHeartbeats 2000000
theorem ckB_of {r:Reg} {a:List Int} {d:Int} (h:ckR r d=0) (ha:chk a d=0):ckB r a=0:=by
 have e:(a.length:Int)=d:=(chk_ok ha).2.2.1.symm
 unfold ckB
 rw [e,if_pos h,ha]
theorem rin_v {w:World} {v u:Value} {r:Reg} {a:List Int} (hv:RdR w v r) (hu:RdI w u a) (h0:ckB r a=0) (hR:r.R < 340282366920938463463374607431768211456) (h:inV r a=true) :
  Calls Tryz.prog 158 #[v,u] w fun e w'=>e=.returned (.bool true)/\Gr w w':=by
 have:=rin_c hv hu h0 hR
 rw [h] at this
 exact this
theorem rregion_c {w:World} {v u:Value} {rs:List Rw} {r:Reg} (hv:RdW w v rs) (hu:RdR w u r) (hlen:rs.length<=4611686018427387904) (hI:r.I.length<=4611686018427387904) (d:Int) (h0:ckR r d=0) (hne:r.I ≠ []) (hR:r.R < 340282366920938463463374607431768211456)
  (hrow:∀ row ∈ rs,chk row.2 d=0) (hin:∀ x ∈ r.I,∃ row ∈ rs,row.1=x) (hin2:∀ row ∈ rs,row.1 ∈ r.I->inV r row.2=true) :
  Calls Tryz.prog 121 #[v,u,.int .i64 d] w fun e w'=>e=.returned (.bool true)/\Gb w w':=by
 have V:Hid (RdW w v rs):=hv
 have U:Hid (RdR w u r):=hu
 have R0:Hid (ckR r d=0/\r.R < 340282366920938463463374607431768211456):=⟨h0,hR⟩
 have RW:Hid (∀ row ∈ rs,chk row.2 d=0):=hrow
 have IN:Hid (∀ x ∈ r.I,∃ row ∈ rs,row.1=x):=hin
 have IN2:Hid (∀ row ∈ rs,row.1 ∈ r.I->inV r row.2=true):=hin2
 have LN:Hid (rs.length<=4611686018427387904):=hlen
 obtain ⟨vl,vh,vi,rfl,hL,hH,hI'⟩:=hu
 obtain ⟨W1,hW1⟩:∃ W1,W1=w.alloc (rc r vl vh vi):=⟨_,rfl⟩
 have G0:Gb w W1:=by rw [hW1];exact gb_alloc (Below.refl _ _) _
 have RA:Hid (RegAt W1 w.heap.size r vl vh vi):=by rw [hW1];exact RegAt.new w r vl vh vi
 have ck:=rckR_v (U.out.gb G0) hI d 0 h0
 obtain ⟨av,cv,rfl,_⟩:=hv
 obtain ⟨pi,ci,rfl,aI⟩:=hI'
 have AI:Hid (∀ i,i < r.I.length->∃ b o,pi=some ⟨b,o,none⟩/\w.cell? ⟨b,o + i,none⟩=some (.int .i64 r.I[i]!)):=aI
 obtain ⟨n,hn⟩:∃ n,n=rs.length:=⟨_,rfl⟩
 obtain ⟨m,hm⟩:∃ m,m=r.I.length:=⟨_,rfl⟩
 have M:Hid (m=r.I.length):=hm
 have N:Hid (n=rs.length):=hn
 have hm0:0 < m:=by rw [hm];exact List.length_pos_iff.2 hne
 have hm1:((m:Int) == 0)=false:=by rw [beq_eq_false_iff_ne];omega
 have hm2:¬ (m:Int)=0:=by omega
 have hml:m<=4611686018427387904:=by omega
 rw [<- hn] at V ⊢
 rw [<- hm] at U RA ck hW1 ⊢
 clear hn hm aI h0 hR hrow hin hin2 hlen hI hne hL hH
 obtain ⟨S,L,H,R,I⟩:=r
 dsimp only at *
 go_enter Tryz.func121,Tryz.ntmps121
 go_wp2_with fail
 rw [<- hW1]
 obtain ⟨q0,q1,q2,q3,q4,q5⟩:=RA.out
 dsimp only at q0 q1 q2 q3 q4 q5
 go_wp2_with fail
 refine ck.mono ?_
 rintro e w2 ⟨rfl,g2⟩
 have G2:Hid (Gb W1 w2):=g2.gb
 clear ck q0 q1 q2 q3 q4 q5 g2
 obtain ⟨q0,q1,q2,q3,q4,q5⟩:=RA.out.gb G2.out
 dsimp only at q0 q1 q2 q3 q4 q5
 go_wp2
 clear q0 q1 q2 q3 q4 q5
 have GW:Hid (Gb w W1):=G0
 clear G0 hW1
 go_loopw [7] (fun iv W=>∃ p:Nat,iv=.int .i64 (p:Int)/\p<=m/\Hid (Gb W1 W)) (fun iv _=>m - (intOf iv).toNat)
 case atStart=>exact ⟨0,rfl,Nat.zero_le _,G2⟩
 case round =>
  obtain ⟨p,rfl,hp,X⟩:=hrel
  obtain ⟨q0,q1,q2,q3,q4,q5⟩:=RA.out.gb X.out
  dsimp only at q0 q1 q2 q3 q4 q5
  by_cases hpm:p < m
  ·have hpi:(p:Int) < (m:Int):=by omega
   have hpl:p < I.length:=by have:=M.out;omega
   obtain ⟨bi,oi,ei,ci'⟩:=AI.out p hpl
   subst ei
   have GX0:Hid (Gb w wr):=gb_trans GW.out X.out
   have hc:=gb_keeps GX0.out ci'
   have cf:=rfind_c (V.out.gb GX0.out) LN.out I[p]!
   have MEM:Hid (I[p]! ∈ I):=by unfold Hid;rw [getElem!_pos I p hpl];exact List.getElem_mem hpl
   clear ci'
   generalize hx:I[p]! = x at hc cf
   have HX:Hid (x ∈ I):=by unfold Hid;rw [<- hx];exact MEM.out
   clear hx MEM hpl
   go_wp2_with fail
   refine cf.mono ?_
   rintro e w3 ⟨⟨z,rfl,hz⟩,e3⟩
   subst e3
   clear cf
   obtain ⟨i,hzi,hil,hix⟩:∃ i:Nat,z=(i:Int)/\i < rs.length/\rs[i]!.1=x:=by
    rcases hz with ⟨_,h⟩ | h
    ·obtain ⟨row,hr,e⟩:=IN.out x HX.out
     obtain ⟨j,hj,e2⟩:=List.mem_iff_getElem.1 hr
     exact absurd (by rw [getElem!_pos rs j hj,e2];exact e) (h j hj)
    ·exact h
   subst hzi
   clear hz
   have hir:rs[i]! ∈ rs:=by rw [getElem!_pos rs i hil];exact List.getElem_mem hil
   obtain ⟨_,_,ev,hA⟩:=V.out
   obtain ⟨b,o,ur,ea,_,k2,k3⟩:=hA i hil
   injection ev with ev1 ev2 ev3
   subst ev1
   subst ea
   clear hA ev2 ev3
   have CB:Hid (ckB ⟨S,L,H,R,I⟩ rs[i]!.2=0):=ckB_of R0.out.1 (RW.out _ hir)
   have IV:Hid (inV ⟨S,L,H,R,I⟩ rs[i]!.2=true):=IN2.out _ hir (by rw [hix];exact HX.out)
   have GX:Hid (Gb w wr.drew):=GX0.out.drew
   have cin:=fun W (g:Gb w W)=>rin_v (U.out.gb g) (k3.gb g) CB.out R0.out.2 IV.out
   obtain ⟨pr',cr,eu,_⟩:=k3
   subst eu
   have FS0:RegAt wr.drew w.heap.size ⟨S,L,H,R,I⟩ vl vh (.slice (some ⟨bi,oi,none⟩) m ci)/\wr.drew.cell? ⟨b,o + i * 2 + 1,none⟩=some (.slice pr' rs[i]!.2.length cr):=⟨RA.out.gb X.out.drew,gb_keeps GX0.out k2⟩
   generalize rs[i]!.2.length=nr at *
   generalize hur:Value.slice pr' nr cr=ur at *
   have hin':i < n:=by have:=N.out;omega
   have hii:(i:Int) < (n:Int):=by omega
   have hi0:decide ((i:Int) < 0)=false:=by rw [decide_eq_false_iff_not];omega
   have hi1:¬ (i:Int) < 0:=by omega
   clear k2 hir hix hil q0 q1 q2 q3 q4 q5 hc
   go_wp2_with fail
   refine wp_region_held_drew (S:=fun W=>RegAt W w.heap.size ⟨S,L,H,R,I⟩ vl vh (.slice (some ⟨bi,oi,none⟩) m ci)/\W.cell? ⟨b,o + i * 2 + 1,none⟩=some ur) (by kernel_rfl) (FS0) (fun hHeld=>?_)
   refine tkn 0 ?_ rfl ?_ ?_;rotate_left;·(intro w hSw;obtain ⟨⟨s0,s1,s2,s3,s4,s5⟩,s6⟩:=hSw;go_simp;try rfl)
   try simp only [Act.put,List.getElem_toArray,List.getElem_cons_zero,List.setIfInBounds_toArray,List.set_cons_zero,List.set_cons_succ]
   refine tkn 1 ?_ rfl ?_ ?_;rotate_left;·(intro w hSw;obtain ⟨⟨s0,s1,s2,s3,s4,s5⟩,s6⟩:=hSw;go_simp;try rfl)
   try simp only [Act.put,List.getElem_toArray,List.getElem_cons_zero,List.getElem_cons_succ,List.setIfInBounds_toArray,List.set_cons_zero,List.set_cons_succ]
   refine tkn 2 ?_ rfl ?_ ?_;rotate_left;·(intro w hSw;obtain ⟨⟨s0,s1,s2,s3,s4,s5⟩,s6⟩:=hSw;go_simp;try rfl)
   try simp only [Act.put,List.getElem_toArray,List.getElem_cons_zero,List.getElem_cons_succ,List.setIfInBounds_toArray,List.set_cons_zero,List.set_cons_succ]
   refine tkn 3 ?_ rfl ?_ ?_;rotate_left;·(intro w hSw;obtain ⟨⟨s0,s1,s2,s3,s4,s5⟩,s6⟩:=hSw;go_simp;try rfl)
   try simp only [Act.put,List.getElem_toArray,List.getElem_cons_zero,List.getElem_cons_succ,List.setIfInBounds_toArray,List.set_cons_zero,List.set_cons_succ]
   refine tkn 4 ?_ rfl ?_ ?_;rotate_left;·(intro w hSw;obtain ⟨⟨s0,s1,s2,s3,s4,s5⟩,s6⟩:=hSw;go_simp;try rfl)
   try simp only [Act.put,List.getElem_toArray,List.getElem_cons_zero,List.getElem_cons_succ,List.setIfInBounds_toArray,List.set_cons_zero,List.set_cons_succ]
   refine tkn 5 ?_ rfl ?_ ?_;rotate_left;·(intro w hSw;obtain ⟨⟨s0,s1,s2,s3,s4,s5⟩,s6⟩:=hSw;go_simp;try rfl)
   try simp only [Act.put,List.getElem_toArray,List.getElem_cons_zero,List.getElem_cons_succ,List.setIfInBounds_toArray,List.set_cons_zero,List.set_cons_succ]
   refine tkn 6 ?_ rfl ?_ ?_;rotate_left;·(intro w hSw;obtain ⟨⟨s0,s1,s2,s3,s4,s5⟩,s6⟩:=hSw;go_simp;try rfl)
   try simp only [Act.put,List.getElem_toArray,List.getElem_cons_zero,List.getElem_cons_succ,List.setIfInBounds_toArray,List.set_cons_zero,List.set_cons_succ]
   refine tkn 7 ?_ rfl ?_ ?_;rotate_left;·(intro w hSw;obtain ⟨⟨s0,s1,s2,s3,s4,s5⟩,s6⟩:=hSw;go_simp;try rfl)
   try simp only [Act.put,List.getElem_toArray,List.getElem_cons_zero,List.getElem_cons_succ,List.setIfInBounds_toArray,List.set_cons_zero,List.set_cons_succ]
   refine tkn 8 ?_ rfl ?_ ?_;rotate_left;·(intro w hSw;obtain ⟨⟨s0,s1,s2,s3,s4,s5⟩,s6⟩:=hSw;go_simp;try rfl)
   try simp only [Act.put,List.getElem_toArray,List.getElem_cons_zero,List.getElem_cons_succ,List.setIfInBounds_toArray,List.set_cons_zero,List.set_cons_succ]
   refine rdn 9 rfl (fun K hK=>?_)
   go_simp
   refine (cin _ GX.out).mono ?_
   rintro e w4 ⟨rfl,g4⟩
   refine hK.out _ _ (⟨hHeld.1.gb g4.gb,g4.keeps hHeld.2⟩) (fun hHeld=>?_)
   clear hK K
   try simp only [Act.put,List.getElem_toArray,List.getElem_cons_zero,List.getElem_cons_succ,List.setIfInBounds_toArray,List.set_cons_zero,List.set_cons_succ]
   refine tkn 10 ?_ rfl ?_ ?_;rotate_left;·(intro w hSw;obtain ⟨⟨s0,s1,s2,s3,s4,s5⟩,s6⟩:=hSw;go_simp;try rfl)
   try simp only [Act.put,List.getElem_toArray,List.getElem_cons_zero,List.getElem_cons_succ,List.setIfInBounds_toArray,List.set_cons_zero,List.set_cons_succ]
   refine tkn 11 ?_ rfl ?_ ?_;rotate_left;·(intro w hSw;obtain ⟨⟨s0,s1,s2,s3,s4,s5⟩,s6⟩:=hSw;go_simp;try rfl)
   try simp only [Act.put,List.getElem_toArray,List.getElem_cons_zero,List.getElem_cons_succ,List.setIfInBounds_toArray,List.set_cons_zero,List.set_cons_succ]
   refine wpAnyH_done (by kernel_rfl) ?_ _
   go_wp2
   go_roundw
   case rel=>exact ⟨p + 1,by first | rfl | go_num | simp,hpm,gb_trans X.out.drew g4.gb⟩
   case measure=>simp [intOf];omega
  ·have hpi:¬ (p:Int) < (m:Int):=by omega
   have G:Hid (Gb w wr):=gb_trans GW.out X.out
   go_wp2
   go_ret
   exact ⟨rfl,G.out⟩
end Go.Proofs.YtgbgejflmbhigaaGreat

namespace Go.Proofs.YtgbgejflmbhigaaGreat
open Go.RowKit Go.Sort
structure UpSt (w W:World) (v:Value) (l:List Int):Prop where
 row:Own W w.heap.size v l
 gb:Gb w W
theorem UpSt.alloc {w W:World} {v:Value} {l:List Int} (h:UpSt w W v l) (o:Obj):UpSt w (W.alloc o) v l :=
 ⟨World.ownsRow.alloc h.row o,gb_alloc h.gb o⟩
theorem UpSt.next {w W W2:World} {v v':Value} {l:List Int} {x:Int} (h:UpSt w W v l)
  (hr:W2.ownsRow w.heap.size 3 1 v' (l.length + 1) (l.map (Value.int .i64) ++ [.int .i64 x])) (hg2:W.grownBy W2 v.ownBlock):UpSt w W2 v' (l ++ [x]):=by
 refine ⟨?_,below_grown h.gb hg2 (fun k e=>(World.ownsRow.lt h.row k e).1) h.gb.size⟩
 unfold Own
 rw [List.length_append,List.map_append]
 exact hr
end Go.Proofs.YtgbgejflmbhigaaGreat

namespace Go.Proofs.YtgbgejflmbhigaaGreat
open Go.RowKit Go.Sort
theorem grown_setCell (w:World) (p:Addr) (u:Value):w.grownBy (w.setCell p u) (some p.block) :=
 ⟨rfl,rfl,rfl,by simp [World.setCell],fun k _ hn=>Below.heap_setCell _ _ _ _ (by rintro rfl;exact hn rfl)⟩
def RestAt (w:World) (B:Nat) (v:Value) (rs:List Rw):Prop:=(rs=[]/\v=.slice none 0 0) ∨ rs ≠ []/\∃ vi g,v=.slice (some ⟨g,0,none⟩) 1 1/\B<=g /\
 w.heap[g]? = some (.cells #[.int .i64 1,.slice none 0 0,.slice none 0 0,.int .u64 0,.int .u64 0,vi] 97 (0,0))/\Own w B vi (srt (idsOf rs))
theorem RestAt.grown {w w':World} {B:Nat} {v:Value} {rs:List Rw} {b:Nat} (h:RestAt w B v rs) (g:w.grownBy w' (some b)) (hb:b < B):RestAt w' B v rs:=by
 rcases h with h | ⟨h0,vi,x,h1,h2,h3,h4⟩
 ·exact .inl h
 ·refine .inr ⟨h0,vi,x,h1,h2,(g.block x (Array.getElem?_eq_some_iff.1 h3).1 (by simp;omega)).trans h3,h4.kept g (.inr fun e=>?_)⟩
  have:=(World.ownsRow.lt h4 b e).1
  omega
def AnsB (w w':World) (B1 B2:Nat) (vh vs vr:Value) (rs:List Rw) (q:List Int) (k c:Nat):Prop:=w.heap.size<=B1/\B1<=B2/\B2<=w'.heap.size/\Gb w w'/\Tk.Own w' vh (Tk.firsts k (hitsOf q (rs.take c))).toArray /\
 (∀ g,vh.ownBlock=some g->w.heap.size<=g/\g < B1)/\Own w' B1 vs (srt (idsOf (rs.take c)))/\(∀ g,vs.ownBlock=some g->g < B2)/\RestAt w' B2 vr (rs.drop c)
theorem AnsB.set {w w':World} {B1 B2:Nat} {vh vs vr:Value} {rs:List Rw} {q:List Int} {k c:Nat} (h:AnsB w w' B1 B2 vh vs vr rs q k c) (hne:vh.ownBlock ≠ some w.heap.size) (h1:vs.ownBlock ≠ some w.heap.size) (h2:w.heap.size < B2) (o:Nat) (u:Value) :
  AnsB w (w'.setCell ⟨w.heap.size,o,none⟩ u) B1 B2 vh vs vr rs q k c:=by
 obtain ⟨b1,b2,b3,g,t,b4,b5,b6,b7⟩:=h
 have gs:=grown_setCell w' ⟨w.heap.size,o,none⟩ u
 refine ⟨b1,b2,by have:=gs.size;omega,gb_set g (Nat.le_refl _) u,?_,b4,b5.kept gs (.inr h1),b6,b7.grown gs h2⟩
 exact Tk.own_kp t (Tk.Kp.grown gs) fun x hx e=>hne (by rw [hx,e])
end Go.Proofs.YtgbgejflmbhigaaGreat
