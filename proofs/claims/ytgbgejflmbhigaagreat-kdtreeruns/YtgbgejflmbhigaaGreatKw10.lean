import Derived.Test.YtgbgejflmbhigaaGreatKwNum
import Derived.BigQuiet
namespace Go.Proofs.YtgbgejflmbhigaaGreat
open Go.RowKit
set_option maxHeartbeats 4000000
theorem Gr.store9 {a w:World} (h:Gr a w) {B:Nat} (hB:a.heap.size<=B) (x0 x1 x2 x3 x4 x5 x6 x7 x8:Value) :
  Gr a ((((((((((w.setCell ⟨B,0,none⟩ x0).setCell ⟨B,1,none⟩ x1).setCell ⟨B,2,none⟩ x2).setCell ⟨B,3,none⟩ x3).setCell ⟨B,4,none⟩ x4).setCell ⟨B,5,none⟩ x5).setCell ⟨B,6,none⟩ x6).setCell ⟨B,7,none⟩ x7).setCell ⟨B,8,none⟩ x8)) :=
 (((((((((h.setCell (p:=⟨B,0,none⟩) hB x0).setCell (p:=⟨B,1,none⟩) hB x1).setCell (p:=⟨B,2,none⟩) hB x2).setCell (p:=⟨B,3,none⟩) hB x3).setCell (p:=⟨B,4,none⟩) hB x4).setCell (p:=⟨B,5,none⟩) hB x5).setCell (p:=⟨B,6,none⟩) hB x6).setCell (p:=⟨B,7,none⟩) hB x7).setCell (p:=⟨B,8,none⟩) hB x8)
theorem dd_nat (m k:Nat):∃ e:Nat,dd m k=(e:Int)/\e < 65536/\e=m / 65536 ^ k % 65536:=⟨_,rfl,Nat.mod_lt _ (by omega),rfl⟩
theorem pow_past (k:Nat) (h:8<=k) (c m:Nat) (hm:m < 340282366920938463463374607431768211456) (hc:0 < c) :
  (m + c * 65536 ^ k) % 340282366920938463463374607431768211456=m/\340282366920938463463374607431768211456<=m + c * 65536 ^ k:=by
 obtain ⟨j,rfl⟩:∃ j,k=8 + j:=⟨k - 8,by omega⟩
 have e:c * 65536 ^ (8 + j)=340282366920938463463374607431768211456 * (c * 65536 ^ j):=by
  rw [Nat.pow_add,show (65536:Nat) ^ 8=340282366920938463463374607431768211456 by decide,Nat.mul_left_comm]
 have hp:0 < c * 65536 ^ j:=Nat.mul_pos hc (Nat.pow_pos (by omega))
 rw [e]
 refine ⟨by rw [Nat.add_mul_mod_self_left];exact Nat.mod_eq_of_lt hm,?_⟩
 have:340282366920938463463374607431768211456 * 1<=340282366920938463463374607431768211456 * (c * 65536 ^ j):=Nat.mul_le_mul_left _ hp
 omega
theorem plus_round (m c k:Nat) (hm:m < 340282366920938463463374607431768211456) (hk:k < 8) :
  setD m k ((c + m / 65536 ^ k % 65536) % 65536) + (c + m / 65536 ^ k % 65536) / 65536 * 65536 ^ (k + 1)=m + c * 65536 ^ k:=by
 obtain ⟨_,_,_,h⟩:=setD_spec m k ((c + m / 65536 ^ k % 65536) % 65536) hm hk (Nat.mod_lt _ (by omega))
 generalize m / 65536 ^ k % 65536=e at *
 have h2:(c + e) / 65536 * 65536 ^ (k + 1) + (c + e) % 65536 * 65536 ^ k=(c + e) * 65536 ^ k:=by
  rw [Nat.pow_succ,<- Nat.mul_assoc,Nat.mul_right_comm,<- Nat.add_mul]
  congr 1;omega
 rw [Nat.add_mul] at h2
 omega
theorem plus_any (n:Nat) (hn:n < 340282366920938463463374607431768211456) (o:Bool) (at' v:Nat) (hat:at'<=14) (hv:v < 8589934592) (w:World) :
  Calls Tryz.prog 198 #[Nm n o,.int .i64 (at':Int),.int .i64 (v:Int)] w fun e w' =>
   e=.returned (Nm ((n + v * 65536 ^ at') % 340282366920938463463374607431768211456) (o || decide (340282366920938463463374607431768211456<=n + v * 65536 ^ at')))/\Gr w w':=by
 go_enter Tryz.func198,Tryz.ntmps198
 go_wp2
 go_loopw [2,7] (fun vv iv w'=>∃ m c k:Nat,vv=.int .i64 (c:Int)/\iv=.int .i64 (k:Int)/\k<=15/\m < 340282366920938463463374607431768211456/\c < 8589934592/\Hid (m + c * 65536 ^ k=n + v * 65536 ^ at')/\Gr w w'/\NumAt w' w.heap.size m o/\NumAt w' (w.heap.size + 1) 0 false) (fun _ iv _=>16 - (intOf iv).toNat)
 case atStart =>
  refine ⟨n,v,at',rfl,rfl,by omega,hn,hv,rfl,((Gr.refl _).alloc _ _).alloc _ _,(NumAt.new w n o 204).call ((Gr.refl _).alloc _ _),?_⟩
  have:=NumAt.new (w.alloc (.cells #[.int .i64 (dd n 0),.int .i64 (dd n 1),.int .i64 (dd n 2),.int .i64 (dd n 3),.int .i64 (dd n 4),.int .i64 (dd n 5),.int .i64 (dd n 6),.int .i64 (dd n 7),.bool o] 204)) 0 false 204
  rw [World.size_alloc] at this
  exact this
 case round =>
  obtain ⟨m,c,k,rfl,rfl,hk,hm,hc,X,hG,hN,hR⟩:=hrel
  obtain ⟨r0,r1,r2,r3,r4,r5,r6,r7,r8⟩:=hR.cells
  obtain ⟨f0,f1,f2,f3,f4,f5,f6,f7,f8⟩:=hR.open9
  by_cases hc0:c=0
  ·subst hc0
   obtain ⟨c0,c1,c2,c3,c4,c5,c6,c7,c8⟩:=hN.cells
   have E:Hid (m=(n + v * 65536 ^ at') % 340282366920938463463374607431768211456/\o=(o || decide (340282366920938463463374607431768211456<=n + v * 65536 ^ at'))):=by
    have:=X.out
    rw [Nat.zero_mul,Nat.add_zero] at this
    rw [<- this]
    exact ⟨(Nat.mod_eq_of_lt hm).symm,by rw [decide_eq_false (by omega)];simp⟩
   clear X hN hR
   go_wp2
   refine bodyPost_ret (v:=Nm m o) (by simp [results,Tryz.results198,go_sem,r0,r1,r2,r3,r4,r5,r6,r7,r8]) rfl ⟨by rw [<- E.out.1,<- E.out.2],?_⟩
   exact hG.store9 (by omega) _ _ _ _ _ _ _ _ _
  ·by_cases hk8:k < 8
   ·obtain ⟨e,he,he1,he2⟩:=dd_nat m k
    have hcell:=hN.d k hk8
    rw [he] at hcell
    have hfr:=hN.f k (by omega)
    obtain ⟨s1,s2,s3,_⟩:=setD_spec m k ((c + e) % 65536) hm hk8 (by omega)
    have hpr:=plus_round m c k hm hk8
    rw [<- he2] at hpr
    have P:Hid (setD m k ((c + e) % 65536) + (c + e) / 65536 * 65536 ^ (k + 1)=m + c * 65536 ^ k):=hpr
    have S1:Hid (dd (setD m k ((c + e) % 65536)) k=(((c + e) % 65536:Nat):Int)):=s1
    have S2:Hid (∀ j,j < 8->j ≠ k->dd (setD m k ((c + e) % 65536)) j=dd m j):=s2
    clear he he2 hpr s1 s2 r0 r1 r2 r3 r4 r5 r6 r7 r8 f0 f1 f2 f3 f4 f5 f6 f7 f8
    go_wp2
    refine ⟨⟨setD m k ((c + e) % 65536),(c + e) / 65536,k + 1,by go_num,by go_num,by omega,s3,by omega,P.out.trans X.out,hG.setCell (by simp) _,?_,hR.far _ _ (by omega) _⟩,by simp [intOf];omega⟩
    exact hN.setDigit k hk8 _ (S1.out.trans (by omega)) S2.out
   ·obtain ⟨c0,c1,c2,c3,c4,c5,c6,c7,c8⟩:=hN.cells
    have f9:=hN.f 8 (by omega)
    have E:Hid (m=(n + v * 65536 ^ at') % 340282366920938463463374607431768211456/\true=(o || decide (340282366920938463463374607431768211456<=n + v * 65536 ^ at'))):=by
     obtain ⟨p1,p2⟩:=pow_past k (by omega) c m hm (by omega)
     have:=X.out
     rw [<- this]
     exact ⟨p1.symm,by rw [decide_eq_true p2];simp⟩
    clear X hN hR
    go_wp2
    refine bodyPost_ret (v:=Nm m true) (by simp [results,Tryz.results198,go_sem,r0,r1,r2,r3,r4,r5,r6,r7,r8]) rfl ⟨by rw [<- E.out.1,<- E.out.2],?_⟩
    exact (hG.setCell (by simp) _).store9 (by omega) _ _ _ _ _ _ _ _ _
end Go.Proofs.YtgbgejflmbhigaaGreat

namespace Go.Proofs.YtgbgejflmbhigaaGreat
open Go.RowKit
set_option maxHeartbeats 2000000
theorem ret_int {k:IntKind} {a b:Int} (h:a=b):Ending.returned (.int k a)=.returned (.int k b):=by rw [h]
theorem up_digit (a t:Nat):a / 65536 ^ t=a / 65536 ^ (t + 1) * 65536 + a / 65536 ^ t % 65536:=by
 rw [Nat.pow_succ,<- Nat.div_div_eq_div_mul];omega
theorem lt_of_div {a b d:Nat} (h:a / d < b / d):a < b:=by
 apply Nat.lt_of_not_le;intro hc
 exact absurd (Nat.div_le_div_right (c:=d) hc) (by omega)
theorem refcmp_any (a b:Nat) (ha:a < 340282366920938463463374607431768211456) (hb:b < 340282366920938463463374607431768211456) (o p:Bool) (w:World) :
  Calls Tryz.prog 161 #[Nm a o,Nm b p] w fun e w'=>e=.returned (.int .i64 (cmp3 a b))/\Gr w w':=by
 have n0:=(NumAt.new w a o 204).call ((Gr.refl _).alloc #[.int .i64 (dd b 0),.int .i64 (dd b 1),.int .i64 (dd b 2),.int .i64 (dd b 3),.int .i64 (dd b 4),.int .i64 (dd b 5),.int .i64 (dd b 6),.int .i64 (dd b 7),.bool p] 204)
 have n1:=NumAt.new (w.alloc (.cells #[.int .i64 (dd a 0),.int .i64 (dd a 1),.int .i64 (dd a 2),.int .i64 (dd a 3),.int .i64 (dd a 4),.int .i64 (dd a 5),.int .i64 (dd a 6),.int .i64 (dd a 7),.bool o] 204)) b p 204
 simp only [World.size_alloc] at n1
 go_enter Tryz.func161,Tryz.ntmps161
 go_wp2
 go_loopw [5] (fun iv w'=>∃ z:Int,∃ k:Nat,iv=.int .i64 z/\z=(k:Int) - 1/\k<=8/\Hid (a / 65536 ^ k=b / 65536 ^ k)/\Gr w w'/\NumAt w' w.heap.size a o/\NumAt w' (w.heap.size + 1) b p) (fun iv _=>(intOf iv + 1).toNat)
 case atStart =>
  refine ⟨7,8,rfl,by omega,by omega,?_,((Gr.refl _).alloc _ _).alloc _ _,n0,n1⟩
  show a / 65536 ^ 8=b / 65536 ^ 8
  rw [Nat.div_eq_of_lt ha,Nat.div_eq_of_lt hb]
 case round =>
  clear n0 n1
  obtain ⟨z,k,rfl,hz,hk,X,hG,hA,hB⟩:=hrel
  cases k with
  | zero =>
   have E:Hid (cmp3 a b=0):=by
    have:=X.out
    simp at this
    subst this;unfold Hid cmp3;simp
   have hz':z < 0:=by omega
   clear hz X hA hB
   go_wp2
   go_ret
   exact ⟨ret_int E.out.symm,hG⟩
  | succ t =>
   have hzt:z=(t:Int):=by omega
   subst hzt
   obtain ⟨e,he,he1,he2⟩:=dd_nat a t
   obtain ⟨f,hf,hf1,hf2⟩:=dd_nat b t
   have ca:=hA.d t (by omega)
   have cb:=hB.d t (by omega)
   rw [he] at ca;rw [hf] at cb
   have ua:=up_digit a t
   have ub:=up_digit b t
   rw [<- he2] at ua;rw [<- hf2] at ub
   have hX:=X.out
   by_cases hlt:e < f
   ·have E:Hid (cmp3 a b=-1):=by unfold Hid cmp3;rw [if_pos (lt_of_div (d:=65536 ^ t) (by omega))]
    have g1:((e:Int) == (f:Int))=false:=by rw [beq_eq_false_iff_ne];omega
    clear he he2 hf hf2 ua ub hX X hz hA hB
    go_wp2
    go_quiet (fail)
    go_wp2
    go_quiet (fail)
    go_wp2
    go_ret
    exact ⟨ret_int E.out.symm,(hG.drewN _).drewN _⟩
   by_cases hgt:f < e
   ·have hba:b < a:=lt_of_div (d:=65536 ^ t) (by omega)
    have E:Hid (cmp3 a b=1):=by unfold Hid cmp3;rw [if_neg (by omega),if_neg (by omega)]
    have g1:((e:Int) == (f:Int))=false:=by rw [beq_eq_false_iff_ne];omega
    clear he he2 hf hf2 ua ub hX X hz hA hB hba
    go_wp2
    go_quiet (fail)
    go_wp2
    go_quiet (fail)
    go_wp2
    go_ret
    exact ⟨ret_int E.out.symm,(hG.drewN _).drewN _⟩
   ·have hef:f=e:=by omega
    subst hef
    have E:Hid (a / 65536 ^ t=b / 65536 ^ t):=by unfold Hid;omega
    clear he he2 hf hf2 ua ub hX X hz hlt hgt
    go_wp2
    go_quiet (fail)
    go_wp2
    refine ⟨⟨(t:Int) - 1,t,by go_num,rfl,by omega,E,hG.drewN _,hA.call ((Gr.refl _).drewN _),hB.call ((Gr.refl _).drewN _)⟩,by simp [intOf]⟩
theorem less_any (a b:Nat) (ha:a < 340282366920938463463374607431768211456) (hb:b < 340282366920938463463374607431768211456) (w:World) :
  Calls Tryz.prog 126 #[Wd a,Wd b] w fun e w'=>e=.returned (.bool (decide (a < b)))/\Gr w w':=by
 have c0:((w.alloc (.cells #[.int .u64 (hi a),.int .u64 (lo a)] 58)).alloc (.cells #[.int .u64 (hi b),.int .u64 (lo b)] 58)).cell? ⟨w.heap.size,0,none⟩=some (.int .u64 (hi a)):=by simp [go_sem]
 have c1:((w.alloc (.cells #[.int .u64 (hi a),.int .u64 (lo a)] 58)).alloc (.cells #[.int .u64 (hi b),.int .u64 (lo b)] 58)).cell? ⟨w.heap.size,1,none⟩=some (.int .u64 (lo a)):=by simp [go_sem]
 have c2:((w.alloc (.cells #[.int .u64 (hi a),.int .u64 (lo a)] 58)).alloc (.cells #[.int .u64 (hi b),.int .u64 (lo b)] 58)).cell? ⟨w.heap.size + 1,0,none⟩=some (.int .u64 (hi b)):=by simp [go_sem]
 have c3:((w.alloc (.cells #[.int .u64 (hi a),.int .u64 (lo a)] 58)).alloc (.cells #[.int .u64 (hi b),.int .u64 (lo b)] 58)).cell? ⟨w.heap.size + 1,1,none⟩=some (.int .u64 (lo b)):=by simp [go_sem]
 have E:Hid (decide (cmp3 a b < 0)=decide (a < b)):=by
  unfold Hid cmp3
  by_cases h:a < b
  ·simp [h]
  ·rw [if_neg h];split <;> simp [h]
 go_enter Tryz.func126,Tryz.ntmps126
 go_wp2
 go_region_held3 (fun w'=>w'.cell? ⟨w.heap.size,0,none⟩=some (.int .u64 (hi a))/\w'.cell? ⟨w.heap.size,1,none⟩=some (.int .u64 (lo a))/\w'.cell? ⟨w.heap.size + 1,0,none⟩=some (.int .u64 (hi b))/\w'.cell? ⟨w.heap.size + 1,1,none⟩=some (.int .u64 (lo b))) (first | exact ⟨c0,c1,c2,c3⟩ | exact call_keeps4 (by assumption) (by assumption))
  (first
   | (go_at_call_of 162 (hi a);refine (of_any a ha _).mono ?_;rintro e w1 ⟨rfl,g1⟩)
   | (go_at_call_of 162 (hi b);refine (of_any b hb _).mono ?_;rintro e w2 ⟨rfl,g2⟩)
   | (go_at_call 161;refine (refcmp_any a b ha hb false false _).mono ?_;rintro e w3 ⟨rfl,g3⟩))
 all_goals
  go_wp2
  go_ret
  exact ⟨ret_bool E.out,by repeat (first | exact ((Gr.refl _).alloc _ _).alloc _ _ | apply Gr.drew | refine Gr.trans ?_ g3 | refine Gr.trans ?_ g2 | refine Gr.trans ?_ g1)⟩
end Go.Proofs.YtgbgejflmbhigaaGreat
