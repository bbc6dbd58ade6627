import Derived.Test.YtgbgejflmbhigaaGreatKw42
namespace Go.Proofs.YtgbgejflmbhigaaGreat
open Go.RowKit
set_option maxRecDepth 100000
set_option maxHeartbeats 8000000
theorem rmul_int (x y:Int) (n:Nat) (hx:0<=x) (hy:0<=y) (hx1:x < 18446744073709551616) (hy1:y < 18446744073709551616) (h:x.toNat * y.toNat=n) (w:World) :
  Calls Tryz.prog 166 #[.int .u64 x,.int .u64 y] w fun e w'=>e=.returned (Wd n)/\Gr w w':=by
 have:=rmul_any x.toNat y.toNat (by omega) (by omega) w
 rw [Int.toNat_of_nonneg hx,Int.toNat_of_nonneg hy,h] at this
 exact this
theorem rnear_ball {w:World} {v u:Value} {r:Reg} {a:List Int} (hv:RdR w v r) (hu:RdI w u a) (h0:ckB r a=0) (hR:r.R < 340282366920938463463374607431768211456) (s3:r.S=3) :
  Calls Tryz.prog 127 #[v,u] w fun e w'=>e=.returned (Wd (bdV r a))/\Gr w w':=by
 obtain ⟨vl,vh,vi,rfl,hL,hH,hI⟩:=hv
 have RA:Hid (RegAt (w.alloc (rc r vl vh vi)) w.heap.size r vl vh vi):=RegAt.new w r vl vh vi
 have G00:Gr w (w.alloc (rc r vl vh vi)):=(Gr.refl _).alloc _ _
 have G01:Gr (w.alloc (rc r vl vh vi)) (((w.alloc (rc r vl vh vi)).alloc (.cells #[.int .u64 0,.int .u64 0] 58)).alloc (.cells #[.int .u64 0,.int .u64 0] 58)):=((Gr.refl _).alloc _ _).alloc _ _
 have G0:=G00.trans G01
 have AA:Hid (At2 (((w.alloc (rc r vl vh vi)).alloc (.cells #[.int .u64 0,.int .u64 0] 58)).alloc (.cells #[.int .u64 0,.int .u64 0] 58)) (w.heap.size + 1) 0/\At2 (((w.alloc (rc r vl vh vi)).alloc (.cells #[.int .u64 0,.int .u64 0] 58)).alloc (.cells #[.int .u64 0,.int .u64 0] 58)) (w.heap.size + 1 + 1) 0):=by
  have h1:=At2.new (w.alloc (rc r vl vh vi)) 0 58
  have h2:=At2.new ((w.alloc (rc r vl vh vi)).alloc (.cells #[.int .u64 0,.int .u64 0] 58)) 0 58
  rw [World.size_alloc] at h1
  rw [World.size_alloc,World.size_alloc] at h2
  exact ⟨h1.gr ((Gr.refl _).alloc _ _),h2⟩
 obtain ⟨k1,k2,k3,k4⟩:=ball_ok h0 s3
 have c1:=far_c (hL.gb G0.gb) (hu.gb G0.gb) k1 k2 k3 k4
 have c2:=fun W=>rroot_c (dst r.L a) (dst_lt k3 k4 k1 k2) W
 have c3:=fun W=>rroot_c r.R hR W
 have l1:=rt_lt (dst_lt k3 k4 k1 k2)
 have l2:=rt_lt hR
 have E:Hid (bdV r a=if rt (dst r.L a)<=rt r.R then 0 else (rt (dst r.L a) - rup r.R) * (rt (dst r.L a) - rup r.R)):=by unfold Hid bdV;rw [if_neg (by omega),if_pos s3];rfl
 have E2:Hid (rup r.R=if rt r.R * rt r.R=r.R then rt r.R else rt r.R + 1):=rfl
 generalize bdV r a=res at *
 clear hH hI k1 k2 k3 k4 h0
 obtain ⟨S,L,H,R,I⟩:=r
 dsimp only at *
 subst s3
 obtain ⟨pl,cl,rfl,_⟩:=hL
 obtain ⟨pa,ca,rfl,_⟩:=hu
 generalize L.length=nl at *
 generalize a.length=na at *
 generalize dst L a=D at *
 generalize rt D=s at *
 generalize rup R=t' at *
 generalize rt R=t at *
 obtain ⟨W0,hW0⟩:∃ W0,((w.alloc (rc ⟨3,L,H,R,I⟩ (.slice pl nl cl) vh vi)).alloc (.cells #[.int .u64 0,.int .u64 0] 58)).alloc (.cells #[.int .u64 0,.int .u64 0] 58)=W0:=⟨_,rfl⟩
 obtain ⟨q0,q1,q2,q3,q4,q5⟩:=RA.out.gb G01.gb
 dsimp only at q0 q1 q2 q3 q4 q5
 rw [hW0] at c1 q0 q1 q2 q3 q4 q5
 have W1:Hid (Gr (w.alloc (rc ⟨3,L,H,R,I⟩ (.slice pl nl cl) vh vi)) W0):=by unfold Hid;rw [<- hW0];exact G01
 have AA0:Hid (At2 W0 (w.heap.size + 1) 0/\At2 W0 (w.heap.size + 1 + 1) 0):=by rw [<- hW0];exact AA.out
 have GG:Hid (Gr w W0):=by rw [<- hW0];exact G0
 have SZ:Hid (w.heap.size + 1 + 1 + 1=W0.heap.size):=by unfold Hid;rw [<- hW0];simp
 clear AA G00 G01 G0
 go_enter Tryz.func127,Tryz.ntmps127
 go_wp2_with fail
 refine c1.mono ?_
 rintro e w1 ⟨rfl,g1⟩
 clear hW0
 go_wp2_with fail
 refine (c2 _).mono ?_
 rintro e w2 ⟨rfl,g2⟩
 replace g2:=g1.trans g2
 clear q0 q1 q2 q3 q4 q5
 obtain ⟨_,_,_,q3,q4,_⟩:=RA.out.gb (W1.out.trans g2).gb
 dsimp only at q3 q4
 go_wp2_with fail
 refine (c3 _).mono ?_
 rintro e w3 ⟨rfl,g3⟩
 replace g3:=g2.trans g3
 clear c1 c2 c3 g1 g2 q3 q4
 obtain ⟨_,_,_,q3,q4,_⟩:=RA.out.gb (W1.out.trans g3).gb
 dsimp only at q3 q4
 have cm:=fun W=>rmul_any t t l2 l2 W
 by_cases ht:t * t=R
 ·have hne:=fun W=>wd_ne (t * t) R false (by simp [ht]) W
  rw [if_pos ht] at E2
  have e:=E2.out
  subst e
  by_cases hst:s<=t'
  ·rw [if_pos hst] at E
   have e:=E.out
   subst e
   have hst':¬ (t':Int) < (s:Int):=by omega
   clear E E2 hst ht
   go_wp2
   go_region_held3 (fun w'=>w'.cell? ⟨w.heap.size,3,none⟩=some (.int .u64 (hi R))/\w'.cell? ⟨w.heap.size,4,none⟩=some (.int .u64 (lo R))) (first | (with_reducible exact call_keeps2 (by assumption) (by assumption)) | exact ⟨q3,q4⟩)
    (first
     | (go_at_call 166;refine (cm _).mono ?_;rintro e w4 ⟨rfl,g4⟩))
   all_goals
    have G4:=g3.drew.trans g4
    obtain ⟨A1,A2⟩:=AA0.out
    replace A1:=A1.gr G4
    replace A2:=A2.gr G4
    obtain ⟨u0,u1,_,_⟩:=A1.set 0
    obtain ⟨r0,r1,r2,r3⟩:=A1
    obtain ⟨s0,s1,_,_⟩:=A2
    go_wp2
    exact bodyPost_ret (v:=Wd 0) (by simp [results,Tryz.results127,go_sem,u0,u1]) rfl ⟨rfl,((GG.out.trans G4).setCell (by simp) _).setCell (by simp) _⟩
  ·rw [if_neg hst] at E
   have hst':(t':Int) < (s:Int):=by omega
   have cs:=fun W=>rmul_int ((s:Int) - (t':Int)) ((s:Int) - (t':Int)) res (by omega) (by omega) (by omega) (by omega) (by rw [E.out];congr 1 <;> omega) W
   have b1:0<=(s:Int) - (t':Int):=by omega
   have b2:(s:Int) - (t':Int) < 18446744073709551616:=by omega
   clear E E2 hst ht
   go_wp2
   go_region_held3 (fun w'=>w'.cell? ⟨w.heap.size,3,none⟩=some (.int .u64 (hi R))/\w'.cell? ⟨w.heap.size,4,none⟩=some (.int .u64 (lo R))) (first | (with_reducible exact call_keeps2 (by assumption) (by assumption)) | exact ⟨q3,q4⟩)
    (first
     | (go_at_call 166;refine (cm _).mono ?_;rintro e w4 ⟨rfl,g4⟩))
   all_goals
    have G4:=g3.drew.trans g4
    go_wp2_with fail
    refine (cs _).mono ?_
    rintro e w5 ⟨rfl,g5⟩
    have G5:=G4.trans g5
    obtain ⟨A1,A2⟩:=AA0.out
    replace A1:=A1.gr G5
    replace A2:=A2.gr G5
    have A3:=A2.set res
    obtain ⟨s0,s1,s2,s3⟩:=A2
    obtain ⟨v0,v1,_,_⟩:=A3
    have A4:At2 ((w5.setCell ⟨w.heap.size + 1 + 1,0,none⟩ (.int .u64 (hi res))).setCell ⟨w.heap.size + 1 + 1,1,none⟩ (.int .u64 (lo res))) (w.heap.size + 1) 0:=by
     obtain ⟨r0,r1,r2,r3⟩:=A1
     exact ⟨set2_far' (by simp) r0 _ _,set2_far' (by simp) r1 _ _,by simpa using r2,by simpa using r3⟩
    have GX:Gr w ((w5.setCell ⟨w.heap.size + 1 + 1,0,none⟩ (.int .u64 (hi res))).setCell ⟨w.heap.size + 1 + 1,1,none⟩ (.int .u64 (lo res))):=((GG.out.trans G5).setCell (by simp;omega) _).setCell (by simp;omega) _
    obtain ⟨u0,u1,_,_⟩:=A4.set res
    obtain ⟨r0,r1,r2,r3⟩:=A4
    go_wp2
    exact bodyPost_ret (v:=Wd res) (by simp [results,Tryz.results127,go_sem,u0,u1]) rfl ⟨rfl,(GX.setCell (by simp) _).setCell (by simp) _⟩
 ·have hne:=fun W=>wd_ne (t * t) R true (by simp [ht]) W
  rw [if_neg ht] at E2
  by_cases hst:s<=t
  ·rw [if_pos hst] at E
   have e:=E.out
   subst e
   have hst':(s:Int)<=(t:Int):=by omega
   clear E E2 hst ht
   go_wp2
   go_region_held3 (fun w'=>w'.cell? ⟨w.heap.size,3,none⟩=some (.int .u64 (hi R))/\w'.cell? ⟨w.heap.size,4,none⟩=some (.int .u64 (lo R))) (first | (with_reducible exact call_keeps2 (by assumption) (by assumption)) | exact ⟨q3,q4⟩)
    (first
     | (go_at_call 166;refine (cm _).mono ?_;rintro e w4 ⟨rfl,g4⟩))
   all_goals
    have G4:=g3.drew.trans g4
    obtain ⟨A1,A2⟩:=AA0.out
    replace A1:=A1.gr G4
    replace A2:=A2.gr G4
    obtain ⟨u0,u1,_,_⟩:=A1.set 0
    obtain ⟨r0,r1,r2,r3⟩:=A1
    obtain ⟨s0,s1,_,_⟩:=A2
    go_wp2
    exact bodyPost_ret (v:=Wd 0) (by simp [results,Tryz.results127,go_sem,u0,u1]) rfl ⟨rfl,((GG.out.trans G4).setCell (by simp) _).setCell (by simp) _⟩
  ·rw [if_neg hst] at E
   have hst':¬ (s:Int)<=(t:Int):=by omega
   have T1:Hid ((t:Int) + 1=(t':Int)):=by unfold Hid;have:=E2.out;omega
   have hT:t'=t + 1:=E2.out
   by_cases hs2:s<=t'
   ·have e:res=0:=by rw [E.out,show s - t'=0 by omega]
    subst e
    have H2:Hid (¬ (t':Int) < (s:Int)):=by unfold Hid;omega
    clear E E2 hst ht hs2 hT
    go_wp2
    go_region_held3 (fun w'=>w'.cell? ⟨w.heap.size,3,none⟩=some (.int .u64 (hi R))/\w'.cell? ⟨w.heap.size,4,none⟩=some (.int .u64 (lo R))) (first | (with_reducible exact call_keeps2 (by assumption) (by assumption)) | exact ⟨q3,q4⟩)
     (first
      | (go_at_call 166;refine (cm _).mono ?_;rintro e w4 ⟨rfl,g4⟩))
    all_goals
     have T2:=T1.out
     have h2:=H2.out
     have G4:=g3.drew.trans g4
     obtain ⟨A1,A2⟩:=AA0.out
     replace A1:=A1.gr G4
     replace A2:=A2.gr G4
     obtain ⟨u0,u1,_,_⟩:=A1.set 0
     obtain ⟨r0,r1,r2,r3⟩:=A1
     obtain ⟨s0,s1,_,_⟩:=A2
     go_wp2
     exact bodyPost_ret (v:=Wd 0) (by simp [results,Tryz.results127,go_sem,u0,u1]) rfl ⟨rfl,((GG.out.trans G4).setCell (by simp) _).setCell (by simp) _⟩
   ·have cs:=fun W=>rmul_int ((s:Int) - (t':Int)) ((s:Int) - (t':Int)) res (by omega) (by omega) (by omega) (by omega) (by rw [E.out];congr 1 <;> omega) W
    have H2:Hid ((t':Int) < (s:Int)/\0<=(s:Int) - (t':Int)/\(s:Int) - (t':Int) < 18446744073709551616):=⟨by omega,by omega,by omega⟩
    clear E E2 hst ht hs2 hT
    go_wp2
    go_region_held3 (fun w'=>w'.cell? ⟨w.heap.size,3,none⟩=some (.int .u64 (hi R))/\w'.cell? ⟨w.heap.size,4,none⟩=some (.int .u64 (lo R))) (first | (with_reducible exact call_keeps2 (by assumption) (by assumption)) | exact ⟨q3,q4⟩)
     (first
      | (go_at_call 166;refine (cm _).mono ?_;rintro e w4 ⟨rfl,g4⟩))
    all_goals
     have G4:=g3.drew.trans g4
     have T2:=T1.out
     obtain ⟨h2,b1,b2⟩:=H2.out
     go_wp2_with fail
     refine (cs _).mono ?_
     rintro e w5 ⟨rfl,g5⟩
     have G5:=G4.trans g5
     obtain ⟨A1,A2⟩:=AA0.out
     replace A1:=A1.gr G5
     replace A2:=A2.gr G5
     have A3:=A2.set res
     obtain ⟨s0,s1,s2,s3⟩:=A2
     obtain ⟨v0,v1,_,_⟩:=A3
     have A4:At2 ((w5.setCell ⟨w.heap.size + 1 + 1,0,none⟩ (.int .u64 (hi res))).setCell ⟨w.heap.size + 1 + 1,1,none⟩ (.int .u64 (lo res))) (w.heap.size + 1) 0:=by
      obtain ⟨r0,r1,r2,r3⟩:=A1
      exact ⟨set2_far' (by simp) r0 _ _,set2_far' (by simp) r1 _ _,by simpa using r2,by simpa using r3⟩
     have GX:Gr w ((w5.setCell ⟨w.heap.size + 1 + 1,0,none⟩ (.int .u64 (hi res))).setCell ⟨w.heap.size + 1 + 1,1,none⟩ (.int .u64 (lo res))):=((GG.out.trans G5).setCell (by simp;omega) _).setCell (by simp;omega) _
     obtain ⟨u0,u1,_,_⟩:=A4.set res
     obtain ⟨r0,r1,r2,r3⟩:=A4
     go_wp2
     exact bodyPost_ret (v:=Wd res) (by simp [results,Tryz.results127,go_sem,u0,u1]) rfl ⟨rfl,(GX.setCell (by simp) _).setCell (by simp) _⟩
theorem rnear_all {w:World} {v u:Value} {r:Reg} {a:List Int} (hv:RdR w v r) (hu:RdI w u a) (s2:¬ r.S=2) (s3:¬ r.S=3) :
  Calls Tryz.prog 127 #[v,u] w fun e w'=>e=.returned (Wd (bdV r a))/\Gr w w':=by
 obtain ⟨vl,vh,vi,rfl,hL,hH,hI⟩:=hv
 have G0:Gr w (((w.alloc (rc r vl vh vi)).alloc (.cells #[.int .u64 0,.int .u64 0] 58)).alloc (.cells #[.int .u64 0,.int .u64 0] 58)):=(((Gr.refl _).alloc _ _).alloc _ _).alloc _ _
 have e:bdV r a=0:=by unfold bdV;rw [if_neg s2,if_neg s3]
 rw [e]
 have s2':(r.S == 2)=false:=by rw [beq_eq_false_iff_ne];exact s2
 have s3':(r.S == 3)=false:=by rw [beq_eq_false_iff_ne];exact s3
 obtain ⟨pa,ca,rfl,_⟩:=hu
 clear hL hH hI e s2 s3
 obtain ⟨S,L,H,R,I⟩:=r
 dsimp only at *
 generalize a.length=na at *
 go_enter Tryz.func127,Tryz.ntmps127
 go_wp2
 exact bodyPost_ret (v:=Wd 0) (by simp [results,Tryz.results127,go_sem,hi,lo]) rfl ⟨rfl,G0⟩
end Go.Proofs.YtgbgejflmbhigaaGreat
