import Derived.Test.YtcipdampcmfmaaaGreatIa2
import Derived.Test.YtcipdampcmfmaaaGreatIa5
import Derived.Deep.OwnRows
import Derived.Deep.RegionHeld3
import Derived.Test.YtcipdampcmfmaaaGreatIa4
import Derived.Test.YtcipdampcmfmaaaGreatIaSmM
import Derived.BigRegion
namespace Go.Proofs.YtcipdampcmfmaaaGreat
open Go.RowKit
set_option maxRecDepth 100000
set_option maxHeartbeats 4000000
def ckR (r:Reg) (d:Int):Int :=
 if 1<=d/\d<=64 then (if uses r=true/\rise r.I=true then (if r.S=2 then cornE r.L r.H d else if r.S=3 then chk r.L d else 0) else 32) else 30
theorem checkRegion_c {w:World} {v:Value} {r:Reg} (h:RdR w v r) (hlen:r.I.length<=4611686018427387904) (d:Int) :
  Calls Tryz.prog 198 #[v,.int .i64 d] w fun e w'=>e=.returned (.int .i64 (ckR r d))/\Gr w w':=by
 have HR:Hid (RdR w v r):=h
 obtain ⟨vl,vh,vi,rfl,hL,hH,hI⟩:=h
 have G0:Gr w (w.alloc (rc r vl vh vi)):=(Gr.refl _).alloc _ _
 have RA:Hid (RegAt (w.alloc (rc r vl vh vi)) w.heap.size r vl vh vi):=RegAt.new w r vl vh vi
 have CU:=fun b hb=>uses_v (HR.out.gb G0.gb) b hb
 have CI:=fun W' (g:Gr (w.alloc (rc r vl vh vi)) W') b hb=>idsRise_v (hI.gb (G0.trans g).gb) hlen b hb
 have CC:=fun W' (g:Gr (w.alloc (rc r vl vh vi)) W') e he=>corners_v (hL.gb (G0.trans g).gb) (hH.gb (G0.trans g).gb) d e he
 have CK:=fun W' (g:Gr (w.alloc (rc r vl vh vi)) W') e he=>check_v (hL.gb (G0.trans g).gb) d e he
 have E:Hid (ckR r d=if 1<=d/\d<=64 then (if uses r=true/\rise r.I=true then (if r.S=2 then cornE r.L r.H d else if r.S=3 then chk r.L d else 0) else 32) else 30):=rfl
 obtain ⟨pl,cl,rfl,_⟩:=hL
 obtain ⟨ph,ch,rfl,_⟩:=hH
 obtain ⟨pi,ci,rfl,_⟩:=hI
 generalize ckR r d=res at *
 by_cases hd:(decide (1<=d) && decide (d<=64))=true
 ·have hd':1<=d/\d<=64:=by simpa using hd
  have c1:=fun W=>isDim_v d true hd W
  rw [if_pos hd'] at E
  by_cases hu:uses r=true
  ·have c2:=CU _ hu
   by_cases hi':rise r.I=true
   ·rw [if_pos ⟨hu,hi'⟩] at E
    have c3:=fun W' g=>CI W' g true hi'
    clear CU hd hd' hu CI hi' HR hlen
    by_cases s2:r.S=2
    ·rw [if_pos s2] at E
     have c4:=fun W' g=>CC W' g res E.out.symm
     clear CC CK E
     obtain ⟨S,L,H,R,I⟩:=r
     dsimp only at *
     subst s2
     generalize L.length=nl at *
     generalize H.length=nh at *
     generalize I.length=ni at *
     go_enter Tryz.func198,Tryz.ntmps198
     go_wp2_with fail
     refine (c1 _).mono ?_
     rintro e w' ⟨rfl,e2⟩
     subst e2
     go_wp2_with fail
     refine c2.mono ?_
     rintro e w1 ⟨rfl,g1⟩
     obtain ⟨q0,q1,q2,q3,q4,q5⟩:=RA.out.gb g1.gb
     go_wp2_with fail
     refine (c3 _ g1).mono ?_
     rintro e w' ⟨rfl,e2⟩
     subst e2
     go_wp2_with fail
     refine (c4 _ g1).mono ?_
     rintro e w' ⟨rfl,e2⟩
     subst e2
     go_wp2
     go_ret
     exact ⟨rfl,G0.trans g1⟩
    ·rw [if_neg s2] at E
     have s2':(r.S == 2)=false:=by rw [beq_eq_false_iff_ne];exact s2
     by_cases s3:r.S=3
     ·rw [if_pos s3] at E
      have c4:=fun W' g=>CK W' g res E.out.symm
      clear CC CK E s2 s2'
      obtain ⟨S,L,H,R,I⟩:=r
      dsimp only at *
      subst s3
      generalize L.length=nl at *
      generalize H.length=nh at *
      generalize I.length=ni at *
      go_enter Tryz.func198,Tryz.ntmps198
      go_wp2_with fail
      refine (c1 _).mono ?_
      rintro e w' ⟨rfl,e2⟩
      subst e2
      go_wp2_with fail
      refine c2.mono ?_
      rintro e w1 ⟨rfl,g1⟩
      obtain ⟨q0,q1,q2,q3,q4,q5⟩:=RA.out.gb g1.gb
      go_wp2_with fail
      refine (c3 _ g1).mono ?_
      rintro e w' ⟨rfl,e2⟩
      subst e2
      go_wp2_with fail
      refine (c4 _ g1).mono ?_
      rintro e w' ⟨rfl,e2⟩
      subst e2
      go_wp2
      go_ret
      exact ⟨rfl,G0.trans g1⟩
     ·rw [if_neg s3] at E
      have s3':(r.S == 3)=false:=by rw [beq_eq_false_iff_ne];exact s3
      have e:=E.out
      subst e
      clear CC CK E s2 s3
      obtain ⟨S,L,H,R,I⟩:=r
      dsimp only at *
      generalize L.length=nl at *
      generalize H.length=nh at *
      generalize I.length=ni at *
      go_enter Tryz.func198,Tryz.ntmps198
      go_wp2_with fail
      refine (c1 _).mono ?_
      rintro e w' ⟨rfl,e2⟩
      subst e2
      go_wp2_with fail
      refine c2.mono ?_
      rintro e w1 ⟨rfl,g1⟩
      obtain ⟨q0,q1,q2,q3,q4,q5⟩:=RA.out.gb g1.gb
      go_wp2_with fail
      refine (c3 _ g1).mono ?_
      rintro e w' ⟨rfl,e2⟩
      subst e2
      go_wp2
      go_ret
      exact ⟨rfl,G0.trans g1⟩
   ·rw [if_neg (fun h=>hi' h.2)] at E
    have c3:=fun W' g=>CI W' g false (by simpa using hi')
    have e:=E.out
    subst e
    clear CU hd hd' hu CI hi' HR hlen CC CK E
    obtain ⟨S,L,H,R,I⟩:=r
    dsimp only at *
    generalize L.length=nl at *
    generalize H.length=nh at *
    generalize I.length=ni at *
    go_enter Tryz.func198,Tryz.ntmps198
    go_wp2_with fail
    refine (c1 _).mono ?_
    rintro e w' ⟨rfl,e2⟩
    subst e2
    go_wp2_with fail
    refine c2.mono ?_
    rintro e w1 ⟨rfl,g1⟩
    obtain ⟨q0,q1,q2,q3,q4,q5⟩:=RA.out.gb g1.gb
    go_wp2_with fail
    refine (c3 _ g1).mono ?_
    rintro e w' ⟨rfl,e2⟩
    subst e2
    go_wp2
    go_ret
    exact ⟨rfl,G0.trans g1⟩
  ·rw [if_neg (fun h=>hu h.1)] at E
   have c2:=CU false (by simpa using hu)
   have e:=E.out
   subst e
   clear CU hd hd' hu CI HR hlen CC CK E
   obtain ⟨S,L,H,R,I⟩:=r
   dsimp only at *
   generalize L.length=nl at *
   generalize H.length=nh at *
   generalize I.length=ni at *
   go_enter Tryz.func198,Tryz.ntmps198
   go_wp2_with fail
   refine (c1 _).mono ?_
   rintro e w' ⟨rfl,e2⟩
   subst e2
   go_wp2_with fail
   refine c2.mono ?_
   rintro e w1 ⟨rfl,g1⟩
   obtain ⟨q0,q1,q2,q3,q4,q5⟩:=RA.out.gb g1.gb
   go_wp2
   go_ret
   exact ⟨rfl,G0.trans g1⟩
 ·have hd':¬ (1<=d/\d<=64):=by simpa using hd
  have c1:=fun W=>isDim_v d false (by simpa using hd) W
  rw [if_neg hd'] at E
  have e:=E.out
  subst e
  clear CU CI CC CK HR hd hd' E RA
  go_enter Tryz.func198,Tryz.ntmps198
  go_wp2_with (go_at_call 72;refine (c1 _).mono ?_;rintro e w' ⟨rfl,e2⟩;subst e2)
  go_ret
  exact ⟨rfl,G0⟩
theorem checkRegion_v {w:World} {v:Value} {r:Reg} (h:RdR w v r) (hlen:r.I.length<=4611686018427387904) (d x:Int) (hx:ckR r d=x) :
  Calls Tryz.prog 198 #[v,.int .i64 d] w fun e w'=>e=.returned (.int .i64 x)/\Gr w w':=by
 subst hx;exact checkRegion_c h hlen d
def ckB (r:Reg) (a:List Int):Int:=if ckR r a.length=0 then chk a a.length else ckR r a.length
theorem checkBoth_c {w:World} {v u:Value} {r:Reg} {a:List Int} (h:RdR w v r) (hu:RdI w u a) (hlen:r.I.length<=4611686018427387904) :
  Calls Tryz.prog 156 #[v,u] w fun e w'=>e=.returned (.int .i64 (ckB r a))/\Gr w w':=by
 have HR:Hid (RdR w v r):=h
 obtain ⟨vl,vh,vi,rfl,hL,hH,hI⟩:=h
 have G0:Gr w (w.alloc (rc r vl vh vi)):=(Gr.refl _).alloc _ _
 have C1:=fun x hx=>checkRegion_v (HR.out.gb G0.gb) hlen (a.length:Int) x hx
 have C2:=fun W' (g:Gr (w.alloc (rc r vl vh vi)) W') x hx=>check_v (hu.gb (G0.trans g).gb) (a.length:Int) x hx
 have E:Hid (ckB r a=if ckR r a.length=0 then chk a a.length else ckR r a.length):=rfl
 obtain ⟨pa,ca,rfl,_⟩:=hu
 generalize ckB r a=res at *
 by_cases h1:ckR r a.length=0
 ·rw [if_pos h1] at E
  have c1:=C1 _ h1
  have c2:=fun W' g=>C2 W' g res E.out.symm
  clear C1 C2 E h1 HR hlen hL hH hI
  obtain ⟨S,L,H,R,I⟩:=r
  generalize a.length=n at *
  go_enter Tryz.func156,Tryz.ntmps156
  go_wp2_with fail
  refine c1.mono ?_
  rintro e w1 ⟨rfl,g1⟩
  go_wp2_with fail
  refine (c2 _ g1).mono ?_
  rintro e w' ⟨rfl,e2⟩
  subst e2
  go_wp2
  go_ret
  exact ⟨rfl,G0.trans g1⟩
 ·rw [if_neg h1] at E
  have e:=E.out
  have h1':(res == 0)=false:=by rw [beq_eq_false_iff_ne,e];exact h1
  have c1:=C1 _ e.symm
  clear C1 C2 E h1 HR hlen hL hH hI e
  obtain ⟨S,L,H,R,I⟩:=r
  generalize a.length=n at *
  go_enter Tryz.func156,Tryz.ntmps156
  go_wp2_with fail
  refine c1.mono ?_
  rintro e w1 ⟨rfl,g1⟩
  go_wp2
  go_ret
  exact ⟨rfl,G0.trans g1⟩
theorem checkBoth_v {w:World} {v u:Value} {r:Reg} {a:List Int} (h:RdR w v r) (hu:RdI w u a) (hlen:r.I.length<=4611686018427387904) (x:Int) (hx:ckB r a=x) :
  Calls Tryz.prog 156 #[v,u] w fun e w'=>e=.returned (.int .i64 x)/\Gr w w':=by
 subst hx;exact checkBoth_c h hu hlen
end Go.Proofs.YtcipdampcmfmaaaGreat

namespace Go.Proofs.YtcipdampcmfmaaaGreat
open Go.RowKit
set_option maxRecDepth 100000
set_option maxHeartbeats 4000000
def rtTo (a:Nat):Nat->Nat
 | 0=>0
 | n + 1=>if (n + 1) * (n + 1)<=a then n + 1 else rtTo a n
def rt (a:Nat):Nat:=rtTo a a
theorem rtTo_is (a:Nat):∀ n,a < (n + 1) * (n + 1)->IsRoot a (rtTo a n)
 | 0,h=>⟨Nat.zero_le _,by simpa [rtTo] using h⟩
 | n + 1,h=>by
  unfold rtTo
  split
  ·rename_i h1;exact ⟨h1,h⟩
  ·rename_i h1;exact rtTo_is a n (by omega)
theorem rt_is (a:Nat):IsRoot a (rt a):=rtTo_is a a (by
 have:(a + 1) * 1<=(a + 1) * (a + 1):=Nat.mul_le_mul_left _ (by omega)
 omega)
theorem root_le {a r s:Nat} (h1:IsRoot a r) (h2:IsRoot a s):s<=r:=by
 apply Nat.le_of_not_lt;intro hc
 have:=sq_le (show r + 1<=s by omega)
 have:=h1.2;have:=h2.1;omega
theorem root_one {a r:Nat} (h:IsRoot a r):r=rt a:=Nat.le_antisymm (root_le (rt_is a) h) (root_le h (rt_is a))
theorem rt_lt {a:Nat} (ha:a < 340282366920938463463374607431768211456):rt a < 18446744073709551616:=by
 apply Nat.lt_of_not_le;intro hc
 have:=sq_le hc
 have:=(rt_is a).1;omega
theorem sqrt_c (a:Nat) (ha:a < 340282366920938463463374607431768211456) (w:World) :
  Calls Tryz.prog 199 #[Wd a] w fun e w'=>e=.returned (.int .u64 (rt a:Int))/\Gr w w':=by
 refine (sqrt_any a ha w).mono ?_
 rintro e w' ⟨r,rfl,_,hr,g⟩
 rw [root_one hr];exact ⟨rfl,g⟩
def rup (R:Nat):Nat:=if rt R * rt R=R then rt R else rt R + 1
def ballV (a R:Nat):Nat:=if rt a<=rt R then 0 else (rt a - rup R) * (rt a - rup R)
theorem wd_ne (a b:Nat) (r:Bool) (h:(!decide (a=b))=r) (W:World):(binOp .neq 79 (.agg #[.int .u64 (hi a),.int .u64 (lo a)]) (.agg #[.int .u64 (hi b),.int .u64 (lo b)])).run Tryz.prog W=.ok (.bool r) W:=by
 subst h
 have h1:=wd_eq a b W
 rw [run_eql_struct] at h1
 rw [run_neq_struct]
 revert h1
 generalize (Op.equalIn 10000 79 (Wd a) (Wd b)).run Tryz.prog W=x
 intro h1
 cases x with
 | ok v w' =>
  simp only [Result.andThen] at h1 ⊢
  injection h1 with h2 h3
  injection h2 with h4
  rw [h3,h4]
 | _=>simp [Result.andThen] at h1
theorem ballBound_c {w:World} {v u:Value} {r:Reg} {a:List Int} (hv:RdR w v r) (hu:RdI w u a) (hl:r.L.length=a.length) (hn:r.L.length<=64) (rl:allR r.L=true) (ra:allR a=true) (hR:r.R < 340282366920938463463374607431768211456) :
  Calls Tryz.prog 158 #[v,u] w fun e w'=>e=.returned (Wd (ballV (dst r.L a) r.R))/\Gr w w':=by
 have HV:Hid (RdR w v r):=hv
 obtain ⟨vl,vh,vi,rfl,hL,hH,hI⟩:=hv
 have RA:Hid (RegAt (w.alloc (rc r vl vh vi)) w.heap.size r vl vh vi):=RegAt.new w r vl vh vi
 have G00:Gr w (w.alloc (rc r vl vh vi)):=(Gr.refl _).alloc _ _
 have G0:Gr w ((w.alloc (rc r vl vh vi)).alloc (.cells #[.int .u64 0,.int .u64 0] 79)):=G00.alloc _ _
 have c1:=distance_c (hL.gb G0.gb) (hu.gb G0.gb) hl hn rl ra
 have c2:=fun W=>sqrt_c (dst r.L a) (dst_lt rl ra hl hn) W
 have c3:=fun W=>sqrt_c r.R hR W
 have l1:=rt_lt (dst_lt rl ra hl hn)
 have l2:=rt_lt hR
 have l3:=(rt_is (dst r.L a)).1
 have l4:=dst_lt rl ra hl hn
 clear hH hI HV hl hn rl ra
 obtain ⟨S,L,H,R,I⟩:=r
 dsimp only at *
 obtain ⟨pl,cl,rfl,_⟩:=hL
 obtain ⟨pa,ca,rfl,_⟩:=hu
 generalize L.length=nl at *
 generalize a.length=na at *
 have E:Hid (ballV (dst L a) R=if rt (dst L a)<=rt R then 0 else (rt (dst L a) - rup R) * (rt (dst L a) - rup R)):=rfl
 generalize ballV (dst L a) R=res at *
 generalize dst L a=D at *
 have E2:Hid (rup R=if rt R * rt R=R then rt R else rt R + 1):=rfl
 generalize rt D=s at *
 generalize rup R=t' at *
 generalize rt R=t at *
 clear l3 l4
 have W0:Hid (Gr (w.alloc (.cells #[.int .i64 S,.slice pl nl cl,vh,.int .u64 (hi R),.int .u64 (lo R),vi] 99)) ((w.alloc (.cells #[.int .i64 S,.slice pl nl cl,vh,.int .u64 (hi R),.int .u64 (lo R),vi] 99)).alloc (.cells #[.int .u64 0,.int .u64 0] 79))):=(Gr.refl _).alloc _ _
 go_enter Tryz.func158,Tryz.ntmps158
 go_wp2_with fail
 refine c1.mono ?_
 rintro e w1 ⟨rfl,g1⟩
 go_wp2_with fail
 refine (c2 _).mono ?_
 rintro e w2 ⟨rfl,g2⟩
 have g2:=g1.trans g2
 obtain ⟨_,_,_,q3,q4,_⟩:=RA.out.gb (W0.out.trans g2).gb
 dsimp only at q3 q4
 go_wp2_with fail
 refine (c3 _).mono ?_
 rintro e w3 ⟨rfl,g3⟩
 have G3:=g2.trans g3
 have VV:=G3.var2
 simp only [World.size_alloc] at VV
 obtain ⟨v0,v1,v2,v3⟩:=VV
 clear c1 c2 c3 g1 g2 g3 q3 q4
 by_cases hst:s<=t
 ·rw [if_pos hst] at E
  have e:=E.out
  subst e
  have hst':(s:Int)<=(t:Int):=by omega
  clear E E2 hst
  go_wp2
  exact bodyPost_ret (v:=Wd 0) (by simp [results,Tryz.results158,go_sem,v0,v1,hi,lo]) rfl ⟨rfl,by repeat (first | exact G0.trans G3 | refine Gr.setCell ?_ (by simp) _)⟩
 ·rw [if_neg hst] at E
  have hst':¬ (s:Int)<=(t:Int):=by omega
  obtain ⟨_,_,_,q3,q4,_⟩:=RA.out.gb (W0.out.trans G3).gb
  dsimp only at q3 q4
  have cm:=fun W=>mul_any t t l2 l2 W
  have reg:∀ r':Bool,(!decide (t * t=R))=r'->Hid ((!decide (t * t=R))=r'):=fun _ h=>h
  by_cases ht:t * t=R
  ·have hne:=fun W=>wd_ne (t * t) R false (by simp [ht]) W
   rw [if_pos ht] at E2
   have e:=E2.out
   subst e
   have cs:=fun W=>mul_int ((s:Int) - (t':Int)) ((s:Int) - (t':Int)) (by omega) (by omega) (by omega) (by omega) W
   have E3:Hid (((s:Int) - (t':Int)).toNat * ((s:Int) - (t':Int)).toNat=res):=by unfold Hid;rw [E.out];congr 1 <;> omega
   rw [E3.out] at cs
   have b1:0<=(s:Int) - (t':Int):=by omega
   have b2:(s:Int) - (t':Int) < 18446744073709551616:=by omega
   clear E E2 E3 hst ht reg
   go_wp2
   go_region_held3 (fun w'=>w'.cell? ⟨w.heap.size,3,none⟩=some (.int .u64 (hi R))/\w'.cell? ⟨w.heap.size,4,none⟩=some (.int .u64 (lo R))) (first | (with_reducible exact call_keeps2 (by assumption) (by assumption)) | exact ⟨q3,q4⟩)
    (first
     | (go_at_call 195;refine (cm _).mono ?_;rintro e w4 ⟨rfl,g4⟩))
   all_goals
    have G4:=G3.drew.trans g4
    go_wp2_with fail
    refine (cs _).mono ?_
    rintro e w5 ⟨rfl,g5⟩
    have G5:=G4.trans g5
    have VV:=G5.var2
    simp only [World.size_alloc] at VV
    obtain ⟨u0,u1,u2,u3⟩:=VV
    go_wp2
    exact bodyPost_ret (v:=Wd res) (by simp [results,Tryz.results158,go_sem,u0,u1]) rfl ⟨rfl,by repeat (first | exact G0.trans G5 | refine Gr.setCell ?_ (by simp) _)⟩
  ·have hne:=fun W=>wd_ne (t * t) R true (by simp [ht]) W
   rw [if_neg ht] at E2
   have e:=E2.out
   have T1:Hid ((t:Int) + 1=(t':Int)):=by unfold Hid;omega
   have cs:=fun W=>mul_int ((s:Int) - (t':Int)) ((s:Int) - (t':Int)) (by omega) (by omega) (by omega) (by omega) W
   have E3:Hid (((s:Int) - (t':Int)).toNat * ((s:Int) - (t':Int)).toNat=res):=by unfold Hid;rw [E.out];congr 1 <;> omega
   rw [E3.out] at cs
   have BB:Hid (0<=(s:Int) - (t':Int)/\(s:Int) - (t':Int) < 18446744073709551616):=⟨by omega,by omega⟩
   clear e
   clear E E2 E3 hst ht reg
   go_wp2
   go_region_held3 (fun w'=>w'.cell? ⟨w.heap.size,3,none⟩=some (.int .u64 (hi R))/\w'.cell? ⟨w.heap.size,4,none⟩=some (.int .u64 (lo R))) (first | (with_reducible exact call_keeps2 (by assumption) (by assumption)) | exact ⟨q3,q4⟩)
    (first
     | (go_at_call 195;refine (cm _).mono ?_;rintro e w4 ⟨rfl,g4⟩))
   all_goals
    have G4:=G3.drew.trans g4
    have T2:=T1.out
    obtain ⟨b1,b2⟩:=BB.out
    go_wp2_with fail
    refine (cs _).mono ?_
    rintro e w5 ⟨rfl,g5⟩
    have G5:=G4.trans g5
    have VV:=G5.var2
    simp only [World.size_alloc] at VV
    obtain ⟨u0,u1,u2,u3⟩:=VV
    go_wp2
    exact bodyPost_ret (v:=Wd res) (by simp [results,Tryz.results158,go_sem,u0,u1]) rfl ⟨rfl,by repeat (first | exact G0.trans G5 | refine Gr.setCell ?_ (by simp) _)⟩
end Go.Proofs.YtcipdampcmfmaaaGreat

namespace Go.Proofs.YtcipdampcmfmaaaGreat.Rn
open Go.RowKit Go.Shelf
set_option maxHeartbeats 1000000
def Arr (w:World) (g n cap:Nat) (f:Nat->Int):Prop :=
 ∃ cur:Array Value,w.heap[g]? = some (.cells cur 3 (0,0))/\cap<=cur.size/\n<=cap/\∀ i,i < n->cur[i]? = some (.int .i64 (f i))
theorem Arr.lt {w:World} {g n cap:Nat} {f:Nat->Int} (h:Arr w g n cap f):g < w.heap.size:=by
 obtain ⟨cur,h1,_⟩:=h;exact (Array.getElem?_eq_some_iff.1 h1).1
theorem Arr.cell {w:World} {g n cap:Nat} {f:Nat->Int} (h:Arr w g n cap f) {i:Nat} (hi:i < n):w.cell? ⟨g,i,none⟩=some (.int .i64 (f i)):=by
 obtain ⟨cur,h1,_,_,h4⟩:=h
 simp [World.cell?,h1,h4 i hi]
theorem Arr.frozen {w:World} {g n cap:Nat} {f:Nat->Int} (h:Arr w g n cap f) (i:Nat):w.frozen? ⟨g,i,none⟩=false:=by
 obtain ⟨cur,h1,_⟩:=h
 simp [World.frozen?,h1]
theorem Arr.kept {w w':World} {g n cap:Nat} {f:Nat->Int} {r:Option Nat} (h:Arr w g n cap f) (hg:w.grownBy w' r) (hn:some g ≠ r):Arr w' g n cap f:=by
 have hl:=h.lt
 obtain ⟨cur,h1,h2⟩:=h
 exact ⟨cur,(hg.block g hl hn).trans h1,h2⟩
theorem Arr.alloc {w:World} {g n cap:Nat} {f:Nat->Int} (h:Arr w g n cap f) (o:Obj):Arr (w.alloc o) g n cap f :=
 h.kept (World.grownBy_alloc w o none) (by simp)
theorem Arr.set {w:World} {g n cap:Nat} {f:Nat->Int} (h:Arr w g n cap f) {i:Nat} (hi:i < n) (x:Int) :
  Arr (w.setCell ⟨g,i,none⟩ (.int .i64 x)) g n cap (fun t=>if t=i then x else f t):=by
 obtain ⟨cur,h1,h2,h3,h4⟩:=h
 refine ⟨cur.setIfInBounds i (.int .i64 x),?_,by simpa using h2,h3,fun t ht=>?_⟩
 ·simp [World.setCell,Array.getElem?_modify,h1]
 ·by_cases e:t=i
  ·subst e;simp [Array.getElem?_setIfInBounds];omega
  ·rw [Array.getElem?_setIfInBounds_ne (Ne.symm e),h4 t ht];simp only [if_neg e]
theorem Arr.other {w:World} {g n cap:Nat} {f:Nat->Int} (h:Arr w g n cap f) {p:Addr} (hp:p.block ≠ g) (u:Value):Arr (w.setCell p u) g n cap f:=by
 obtain ⟨cur,h1,h2⟩:=h
 exact ⟨cur,(Below.heap_setCell w p u g (Ne.symm hp)).trans h1,h2⟩
theorem Arr.put {w:World} {g n cap:Nat} {f:Nat->Int} {D:Nat} {o:Obj} (h:Arr w g n cap f) (hD:w.heap[D]? = some o) (ho:o.isCells=false) (o':Obj):Arr (w.putObj D o') g n cap f:=by
 obtain ⟨cur,h1,h2⟩:=h
 refine ⟨cur,(World.putObj_heap_other (fun e=>?_)).trans h1,h2⟩
 subst e;rw [h1] at hD;cases hD;cases ho
theorem Arr.congr {w:World} {g n cap:Nat} {f f':Nat->Int} (h:Arr w g n cap f) (e:∀ i,i < n->f i=f' i):Arr w g n cap f':=by
 obtain ⟨cur,h1,h2,h3,h4⟩:=h
 exact ⟨cur,h1,h2,h3,fun i hi=>by rw [h4 i hi,e i hi]⟩
theorem ownFrom_arr {B g n cap:Nat} {f:Nat->Nat->Int}:OwnFrom B (fun (k:Nat) W=>Arr W g n cap (f k)) :=
 fun k A C row hs hg hr=>hs.kept hg (fun e=>by
  obtain ⟨_,o,ho,hc⟩:=hr g e.symm
  obtain ⟨cur,h1,_⟩:=hs
  rw [h1] at ho;cases ho;cases hc)
theorem arr_made (w:World) (n:Nat):Arr (w.alloc (.cells (madeCells #[Value.int .i64 0] n) 3)) w.heap.size n n (fun _=>0):=by
 refine ⟨_,World.alloc_heap_new w _,by rw [size_madeCells];exact Nat.le_refl _,Nat.le_refl _,fun i hi=>?_⟩
 simp [madeCells,hi,Nat.mod_one]
theorem Tryz.info3':(Tryz.prog.info? 3).map (fun i=>(i.zero,i.size,i.bytes))=some (some (.int .i64 0),1,8):=by kernel_rfl
theorem rising_c (n:Nat) (w:World) (hn:n<=65536) :
  Calls Tryz.prog 214 #[.int .i64 n] w fun e w'=>e=.returned (.slice (some ⟨w.heap.size,0,none⟩) n n)/\Arr w' w.heap.size n n (fun t=>(t:Int))/\w.grownBy w' none:=by
 have hmk:=run_make_row' (P:=Tryz.prog) 41 3 (.int .i64 0) 8 Tryz.underlying41 Tryz.info3' rfl .i64 .i64 n (by omega) (by omega) w
 have A0:=arr_made w n
 have G0:w.grownBy (w.alloc (.cells (madeCells #[Value.int .i64 0] n) 3)) none:=grownBy_al (grownBy_refl _ _) _
 generalize w.alloc (.cells (madeCells #[Value.int .i64 0] n) 3)=V at *
 go_enter Tryz.func214,Tryz.ntmps214
 go_wp2
 clear hmk
 go_loopw [4,9] (fun _ v wr=>∃ k:Nat,v=.int .i64 k/\k<=n/\Arr wr w.heap.size n n (fun t=>if t < k then (t:Int) else 0)/\w.grownBy wr none) (fun _ v _=>n - (intOf v).toNat)
 case atStart=>exact ⟨0,rfl,Nat.zero_le _,by simpa using A0,G0⟩
 case round =>
  clear A0 G0
  obtain ⟨k,rfl,hk,A,G⟩:=hrel
  by_cases hlt:k < n
  ·have hlt':(k:Int) < n:=by omega
   have c1:=A.cell hlt
   have f1:=A.frozen k
   go_wp2
   go_roundw
   case rel =>
    refine ⟨k + 1,by simp,by omega,(A.set hlt (k:Int)).congr (fun i hi=>?_),grownBy_new G (Nat.le_refl _) _⟩
    by_cases e:i=k
    ·subst e;simp
    ·simp only [if_neg e];by_cases e2:i < k
     ·rw [if_pos e2,if_pos (by omega)]
     ·rw [if_neg e2,if_neg (by omega)]
   case measure=>simp [intOf];omega
  ·obtain rfl:k=n:=by omega
   go_wp2
   go_ret
   exact ⟨rfl,A.congr (fun i hi=>by rw [if_pos hi]),G⟩
def swp (f:Nat->Int) (i j:Nat):Nat->Int:=fun t=>if t=j then f i else if t=i then f j else f t
def pS (x:Int) (n:Nat):Nat->Nat->Int
 | 0=>fun t=>(t:Int)
 | k + 1=>swp (pS x n k) (n - 1 - k) (mx (stN x (k + 1)) % ((n - 1 - k:Nat) + 1)).toNat
theorem any_round {l n:Nat} {P:Program} {ops:Array Oper} {Q:Exit->Act->World->Prop} {md:Region.Mode} (hnd:∀ (i:Nat) (o:Oper),ops[i]? = some o->∀ c,o.op ≠ .defer c) (hQ:¬ LetsOut Q) :
  ∀ (fuel:Nat) (listed:Array Bool) (a:Act) (w:World),wpAny P md ops Q fuel listed a w->wpAnyIn (Fence.wide.inRound l) n P md ops Q fuel listed a w
 | 0,_,_,_,h=>h
 | fuel + 1,listed,a,w,h=>by
  refine ⟨h.1,fun i hi=>?_⟩
  have:=h.2 i hi
  unfold wpOp at this
  unfold wpOpIn
  cases ho:ops[i]? with
  | none=>simp only [ho] at this ⊢;exact any_round hnd hQ fuel _ _ _ this
  | some o =>
   simp only [ho] at this ⊢
   by_cases hw:Region.wanted o (yielded ops a.tmps)=true
   ·simp only [hw,if_true] at this ⊢
    rcases this with this | this
    ·refine ⟨fun _ _=>trivial,?_⟩
     unfold Oper.wp at this
     rw [Oper.semAt_plain _ _ _ (hnd i o ho)]
     generalize (execOp a.eval o).run P w=r at *
     cases r with
     | ok x w' =>
      cases x <;> simp only [Oper.upon,Oper.uponIn] at this ⊢
      case value v=>exact any_round hnd hQ fuel _ _ _ this
      case skip=>exact any_round hnd hQ fuel _ _ _ this
      case defer d=>exact any_round hnd hQ fuel _ _ _ this
      case enter f args =>
       refine ⟨fun h=>by simp [Fence.wide,Fence.inRound] at h,CallsIn.inRound l (callsIn_wide.2 (Calls.mono this fun e w'' he=>?_))⟩
       cases e with
       | returned u=>exact any_round hnd hQ fuel _ _ _ he
       | panicked c=>exact he
       | outgrown=>exact he
      case row row args =>
       exact ⟨fun h=>by simp [Fence.wide,Fence.inRound] at h,fun c cs _=>let ⟨v,w',r,st⟩:=this c cs;⟨v,w',any_round hnd hQ fuel _ _ _ r,stepsIn_wide.2 st⟩⟩
     | halt x w'=>cases x <;> simp only [Oper.upon,Oper.uponIn] at this ⊢ <;> exact this
    ·exact (hQ this.2).elim
   ·simp only [hw] at this ⊢
    exact ⟨fun _ _=>trivial,any_round hnd hQ fuel _ _ _ this⟩
end Go.Proofs.YtcipdampcmfmaaaGreat.Rn

namespace Go.Proofs.YtcipdampcmfmaaaGreat
open Go.RowKit Go.Sort
set_option maxHeartbeats 2000000
theorem _root_.Go.Proofs.YtcipdampcmfmaaaGreat.Tk.Kp.drew' {S:Nat->Prop} {a w:World} (h:Tk.Kp S a w):Tk.Kp S a w.drew:=⟨h.os,h.tape,h.output,h.size,h.block⟩
theorem kp_swp (W:World) (g p q:Nat) (u v:Value):Tk.Kp (fun k=>k=g) W ((W.setCell ⟨g,p,none⟩ u).setCell ⟨g,q,none⟩ v).drew :=
 (((Tk.Kp.refl (fun k=>k=g) W).setCell (p:=⟨g,p,none⟩) (Or.inl rfl) u).setCell (p:=⟨g,q,none⟩) (Or.inl rfl) v).drew'
def IA (w:World) (g o:Nat) (l:List Int):Prop:=∃ cs t,w.heap[g]? = some (.cells cs t (0,0))/\∀ i,i < l.length->cs[o + i]? = some (.int .i64 l[i]!)
theorem IA.cell {w:World} {g o:Nat} {l:List Int} (h:IA w g o l) {i:Nat} (hi:i < l.length):w.cell? ⟨g,o + i,none⟩=some (.int .i64 l[i]!):=by
 obtain ⟨cs,t,hb,hc⟩:=h
 simp [World.cell?,hb,hc i hi]
theorem IA.froz {w:World} {g o:Nat} {l:List Int} (h:IA w g o l) (i:Nat):w.frozen? ⟨g,i,none⟩=false:=by
 obtain ⟨cs,t,hb,hc⟩:=h
 simp [World.frozen?,hb]
theorem IA.lt {w:World} {g o:Nat} {l:List Int} (h:IA w g o l):g < w.heap.size:=by
 obtain ⟨cs,t,hb,hc⟩:=h
 exact (Array.getElem?_eq_some_iff.1 hb).1
theorem IA.same {w w':World} {g o:Nat} {l:List Int} (h:IA w g o l) (hb:w'.heap[g]? = w.heap[g]?):IA w' g o l:=by
 obtain ⟨cs,t,h1,hc⟩:=h
 exact ⟨cs,t,hb.trans h1,hc⟩
theorem IA.set {w:World} {g o:Nat} {l:List Int} (h:IA w g o l) {i:Nat} (hi:i < l.length) (x:Int):IA (w.setCell ⟨g,o + i,none⟩ (.int .i64 x)) g o (l.set i x):=by
 obtain ⟨cs,t,hb,hc⟩:=h
 refine ⟨cs.setIfInBounds (o + i) (.int .i64 x),t,by simp [World.setCell,Array.getElem?_modify,hb],fun k hk=>?_⟩
 rw [get_set _ _ _ _ hi]
 simp only [List.length_set] at hk
 by_cases hki:k=i
 ·subst hki
  have:=hc k hk
  have hlt:o + k < cs.size:=by
   rcases Nat.lt_or_ge (o + k) cs.size with h' | h'
   ·exact h'
   ·rw [Array.getElem?_eq_none h'] at this;cases this
  simp [hlt]
 ·rw [if_neg hki,Array.getElem?_setIfInBounds_ne (by omega)]
  exact hc k hk
theorem IA.sws {w:World} {g o:Nat} {l:List Int} (h:IA w g o l) {i j:Nat} (hi:i < l.length) (hj:j < l.length) :
  IA ((w.setCell ⟨g,o + i,none⟩ (.int .i64 l[j]!)).setCell ⟨g,o + j,none⟩ (.int .i64 l[i]!)) g o (sws l i j) :=
 (h.set hi _).set (by simpa using hj) _
theorem swapRangeI {w:World} {g o cap a b n:Nat} {l:List Int} (cv:Value) (h:IA w g o l) (hl:l.length<=4000) (hab:a + n<=b) (hb:b + n<=l.length) :
  Calls Tryz.prog 225 #[.slice (some ⟨g,o,none⟩) l.length cap,.int .i64 (a:Int),.int .i64 (b:Int),.int .i64 (n:Int),cv] w fun e w'=>e=.returned (.tuple #[])/\∃ l',SwR l l' a b n/\IA w' g o l'/\Tk.Kp (fun k=>k=g) w w':=by
 have H0:Hid (IA w g o l):=h
 clear h
 go_enter Tryz.func225,Tryz.ntmps225
 go_wp2
 go_loopw [10] (fun iv W0=>∃ (W:World) (_:W=W0) (i:Nat) (l1:List Int),iv=.int .i64 (i:Int)/\i<=n/\Hid (SwR l l1 a b i/\IA W g o l1/\Tk.Kp (fun k=>k=g) w W)) (fun iv _=>n - (intOf iv).toNat)
 case atStart=>exact ⟨_,rfl,0,l,rfl,Nat.zero_le _,SwR.zero l a b,H0.out,Tk.Kp.refl _ _⟩
 case round =>
  obtain ⟨W,hW,i,l1,rfl,hin,H⟩:=hrel
  subst hW
  by_cases hi:i < n
  ·have hl1:l1.length=l.length:=H.out.1.perm.length_eq
   have ii:(i:Int) < (n:Int):=by omega
   have k1:(a:Int) + (i:Int) < (l.length:Int):=by omega
   have k2:(b:Int) + (i:Int) < (l.length:Int):=by omega
   have c1:W.cell? ⟨g,o + (a + i),none⟩=some (.int .i64 l1[a + i]!):=H.out.2.1.cell (by omega)
   have c2:W.cell? ⟨g,o + (b + i),none⟩=some (.int .i64 l1[b + i]!):=H.out.2.1.cell (by omega)
   have f1:W.frozen? ⟨g,o + (a + i),none⟩=false:=H.out.2.1.froz _
   have f2:W.frozen? ⟨g,o + (b + i),none⟩=false:=H.out.2.1.froz _
   have hne:a + i ≠ b + i:=by omega
   have N:Hid (SwR l (sws l1 (a + i) (b + i)) a b (i + 1)):=H.out.1.step (by omega) (by omega)
   have M:Hid (IA ((W.setCell ⟨g,o + (a + i),none⟩ (.int .i64 l1[b + i]!)).setCell ⟨g,o + (b + i),none⟩ (.int .i64 l1[a + i]!)) g o (sws l1 (a + i) (b + i))):=H.out.2.1.sws (by omega) (by omega)
   generalize l1[a + i]! = x at *
   generalize l1[b + i]! = y at *
   go_wp2
   go_region
   go_wp2
   go_roundw
   case rel=>exact ⟨_,rfl,i + 1,sws l1 (a + i) (b + i),by go_num,hi,N.out,M.out.same rfl,H.out.2.2.trans (kp_swp W g _ _ _ _)⟩
   case measure=>simp [intOf];omega
  ·obtain rfl:i=n:=by omega
   go_wp2
   go_end0
   exact ⟨rfl,l1,H.out⟩
theorem rotateI {w:World} {g o cap a m b:Nat} {l:List Int} (cv:Value) (h:IA w g o l) (hl:l.length<=4000) (ham:a < m) (hmb:m < b) (hb:b<=l.length) :
  Calls Tryz.prog 197 #[.slice (some ⟨g,o,none⟩) l.length cap,.int .i64 (a:Int),.int .i64 (m:Int),.int .i64 (b:Int),cv] w fun e w'=>e=.returned (.tuple #[])/\∃ l',Rot l l' a m b/\IA w' g o l'/\Tk.Kp (fun k=>k=g) w w':=by
 have H0:Hid (IA w g o l):=h
 clear h
 have sw:=fun (W:World) (l1:List Int) (hl1:l1.length=l.length) (x y n:Nat) (hA:IA W g o l1) (h1:x + n<=y) (h2:y + n<=l.length)=>swapRangeI (cap:=cap) (a:=x) (b:=y) (n:=n) cv hA (by omega) h1 (by omega)
 have SW:Hid (∀ (W:World) (l1:List Int) (hl1:l1.length=l.length) (x y n:Nat) (hA:IA W g o l1) (h1:x + n<=y) (h2:y + n<=l.length),Calls Tryz.prog 225 #[.slice (some ⟨g,o,none⟩) l.length cap,.int .i64 (x:Int),.int .i64 (y:Int),.int .i64 (n:Int),cv] W fun e w'=>e=.returned (.tuple #[])/\∃ l',SwR l1 l' x y n/\IA w' g o l'/\Tk.Kp (fun k=>k=g) W w') :=
  fun W l1 hl1 x y n hA h1 h2=>by have:=sw W l1 hl1 x y n hA h1 h2;rw [hl1] at this;exact this
 clear sw
 obtain ⟨i0,j0,ha0,hb0,hi0,hj0,him⟩:∃ i0 j0:Nat,m - i0=a/\m + j0=b/\0 < i0/\0 < j0/\i0<=m:=⟨m - a,b - m,by omega,by omega,by omega,by omega,by omega⟩
 have ei:(m:Int) - (a:Int)=(i0:Int):=by omega
 have ej:(b:Int) - (m:Int)=(j0:Int):=by omega
 have hjl:m + j0<=l.length:=by omega
 have AB:Hid (m - i0=a/\m + j0=b):=⟨ha0,hb0⟩
 clear ha0 hb0 ham hmb hb
 go_enter Tryz.func197,Tryz.ntmps197
 go_wp2
 go_loopw [10,11] (fun iv jv W0=>∃ (W:World) (_:W=W0) (i j:Nat) (l1:List Int),iv=.int .i64 (i:Int)/\jv=.int .i64 (j:Int)/\(0 < i/\i<=i0)/\(0 < j/\j<=j0)/\Hid (l1.length=l.length/\IA W g o l1/\Tk.Kp (fun k=>k=g) w W/\∀ l2,Rot l1 l2 (m - i) m (m + j)->Rot l l2 a m b)) (fun iv jv _=>(intOf iv).toNat + (intOf jv).toNat)
 case atStart=>exact ⟨_,rfl,i0,j0,l,by first | rfl | (congr 1;omega) | (congr 1),by first | rfl | (congr 1;omega) | (congr 1),⟨hi0,Nat.le_refl _⟩,⟨hj0,Nat.le_refl _⟩,rfl,H0.out,Tk.Kp.refl _ _,fun l2 h=>by have q:=AB.out;rw [q.1,q.2] at h;exact h⟩
 case round =>
  obtain ⟨W,hW,i,j,l1,rfl,rfl,⟨hi,hi'⟩,⟨hj,hj'⟩,H⟩:=hrel
  subst hW
  by_cases hij:i=j
  ·subst hij
   have e1:(m:Int) - (i:Int)=((m - i:Nat):Int):=by omega
   have S:=SW.out W l1 H.out.1 (m - i) m i H.out.2.1 (by omega) (by omega)
   go_wp2_with fail
   refine S.mono ?_
   rintro e w1 ⟨rfl,l2,s2,a2,k2⟩
   go_wp2
   go_end0
   exact ⟨rfl,l2,H.out.2.2.2 l2 (Rot.eq s2 (by omega)),a2,H.out.2.2.1.trans k2⟩
  ·by_cases hgt:j < i
   ·have e1:(m:Int) - (i:Int)=((m - i:Nat):Int):=by omega
    have b1:((i:Int) == (j:Int))=false:=by rw [beq_eq_false_iff_ne];omega
    have b2:(j:Int) < (i:Int):=by omega
    have S:=SW.out W l1 H.out.1 (m - i) m j H.out.2.1 (by omega) (by omega)
    go_wp2_with fail
    refine S.mono ?_
    rintro e w1 ⟨rfl,l2,s2,a2,k2⟩
    clear e1 b1 S
    have e3:(i:Int) - (j:Int)=((i - j:Nat):Int):=by omega
    go_wp2
    clear e3 b2
    go_roundw
    case rel=>exact ⟨_,rfl,i - j,j,l2,by first | rfl | (congr 1;omega),rfl,⟨by omega,by omega⟩,⟨hj,hj'⟩,s2.perm.length_eq.trans H.out.1,a2,H.out.2.2.1.trans k2,fun l3 h3=>H.out.2.2.2 l3 (Rot.left hgt (by omega) s2 h3)⟩
    case measure=>simp [intOf];omega
   ·have e1:(m:Int) - (i:Int)=((m - i:Nat):Int):=by omega
    have e2:(m:Int) + (j:Int) - (i:Int)=((m + j - i:Nat):Int):=by omega
    have b1:((i:Int) == (j:Int))=false:=by rw [beq_eq_false_iff_ne];omega
    have b2:¬ (j:Int) < (i:Int):=by omega
    have S:=SW.out W l1 H.out.1 (m - i) (m + j - i) i H.out.2.1 (by omega) (by omega)
    go_wp2_with fail
    refine S.mono ?_
    rintro e w1 ⟨rfl,l2,s2,a2,k2⟩
    go_wp2
    go_roundw
    case rel=>exact ⟨_,rfl,i,j - i,l2,rfl,by congr 1;omega,⟨hi,hi'⟩,⟨by omega,by omega⟩,s2.perm.length_eq.trans H.out.1,a2,H.out.2.2.1.trans k2,fun l3 h3=>H.out.2.2.2 l3 (Rot.right (by omega) (by omega) s2 h3)⟩
    case measure=>simp [intOf];omega
end Go.Proofs.YtcipdampcmfmaaaGreat
