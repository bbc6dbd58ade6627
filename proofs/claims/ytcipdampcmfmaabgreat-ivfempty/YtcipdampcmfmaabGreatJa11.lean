import Derived.Test.YtcipdampcmfmaabGreatJa1
import Derived.Test.YtcipdampcmfmaabGreatJa8
import Derived.Deep.RegionHeld3
import Derived.Test.YtcipdampcmfmaabGreatJa4
namespace Go.Proofs.YtcipdampcmfmaabGreat
open Go.RowKit
set_option maxRecDepth 100000
set_option maxHeartbeats 4000000
def ckR (r:Reg) (d:Int):Int :=
 if 1<=d/\d<=64 then (if uses r=true/\rise r.I=true then (if r.S=2 then cornE r.L r.H d else if r.S=3 then chk r.L d else 0) else 32) else 30
theorem checkRegion_c {w:World} {v:Value} {r:Reg} (h:RdR w v r) (hlen:r.I.length<=4611686018427387904) (d:Int) :
  Calls Tryz.prog 165 #[v,.int .i64 d] w fun e w'=>e=.returned (.int .i64 (ckR r d))/\Gr w w':=by
 have HR:Hid (RdR w v r):=h
 obtain ⟨vl,vh,vi,rfl,hL,hH,hI⟩:=h
 have G0:Gr w (w.alloc (rc r vl vh vi)):=(Gr.refl _).alloc _ _
 have RA:Hid (RegAt (w.alloc (rc r vl vh vi)) w.heap.size r vl vh vi):=RegAt.new w r vl vh vi
 have CU:=fun b hb=>uses_v (HR.out.gb G0.gb) b hb
 have CI:=fun W' (g:Gr (w.alloc (rc r vl vh vi)) W') b hb=>idsRise_v (hI.gb (G0.trans g).gb) hlen b hb
 have CC:=fun W' (g:Gr (w.alloc (rc r vl vh vi)) W') e he=>corners_v (hL.gb (G0.trans g).gb) (hH.gb (G0.trans g).gb) d e he
 have CK:=fun W' (g:Gr (w.alloc (rc r vl vh vi)) W') e he=>check_v (hL.gb (G0.trans g).gb) d e he
 have E:Hid (ckR r d=if 1<=d/\d<=64 then (if uses r=true/\rise r.I=true then (if r.S=2 then cornE r.L r.H d else if r.S=3 then chk r.L d else 0) else 32) else 30):=rfl
 obtain ⟨pl,cl,rfl,_⟩:=hL
 obtain ⟨ph,ch,rfl,_⟩:=hH
 obtain ⟨pi,ci,rfl,_⟩:=hI
 generalize ckR r d=res at *
 by_cases hd:(decide (1<=d) && decide (d<=64))=true
 ·have hd':1<=d/\d<=64:=by simpa using hd
  have c1:=fun W=>isDim_v d true hd W
  rw [if_pos hd'] at E
  by_cases hu:uses r=true
  ·have c2:=CU _ hu
   by_cases hi':rise r.I=true
   ·rw [if_pos ⟨hu,hi'⟩] at E
    have c3:=fun W' g=>CI W' g true hi'
    clear CU hd hd' hu CI hi' HR hlen
    by_cases s2:r.S=2
    ·rw [if_pos s2] at E
     have c4:=fun W' g=>CC W' g res E.out.symm
     clear CC CK E
     obtain ⟨S,L,H,R,I⟩:=r
     dsimp only at *
     subst s2
     generalize L.length=nl at *
     generalize H.length=nh at *
     generalize I.length=ni at *
     go_enter Tryz.func165,Tryz.ntmps165
     go_wp2_with fail
     refine (c1 _).mono ?_
     rintro e w' ⟨rfl,e2⟩
     subst e2
     go_wp2_with fail
     refine c2.mono ?_
     rintro e w1 ⟨rfl,g1⟩
     obtain ⟨q0,q1,q2,q3,q4,q5⟩:=RA.out.gb g1.gb
     go_wp2_with fail
     refine (c3 _ g1).mono ?_
     rintro e w' ⟨rfl,e2⟩
     subst e2
     go_wp2_with fail
     refine (c4 _ g1).mono ?_
     rintro e w' ⟨rfl,e2⟩
     subst e2
     go_wp2
     go_ret
     exact ⟨rfl,G0.trans g1⟩
    ·rw [if_neg s2] at E
     have s2':(r.S == 2)=false:=by rw [beq_eq_false_iff_ne];exact s2
     by_cases s3:r.S=3
     ·rw [if_pos s3] at E
      have c4:=fun W' g=>CK W' g res E.out.symm
      clear CC CK E s2 s2'
      obtain ⟨S,L,H,R,I⟩:=r
      dsimp only at *
      subst s3
      generalize L.length=nl at *
      generalize H.length=nh at *
      generalize I.length=ni at *
      go_enter Tryz.func165,Tryz.ntmps165
      go_wp2_with fail
      refine (c1 _).mono ?_
      rintro e w' ⟨rfl,e2⟩
      subst e2
      go_wp2_with fail
      refine c2.mono ?_
      rintro e w1 ⟨rfl,g1⟩
      obtain ⟨q0,q1,q2,q3,q4,q5⟩:=RA.out.gb g1.gb
      go_wp2_with fail
      refine (c3 _ g1).mono ?_
      rintro e w' ⟨rfl,e2⟩
      subst e2
      go_wp2_with fail
      refine (c4 _ g1).mono ?_
      rintro e w' ⟨rfl,e2⟩
      subst e2
      go_wp2
      go_ret
      exact ⟨rfl,G0.trans g1⟩
     ·rw [if_neg s3] at E
      have s3':(r.S == 3)=false:=by rw [beq_eq_false_iff_ne];exact s3
      have e:=E.out
      subst e
      clear CC CK E s2 s3
      obtain ⟨S,L,H,R,I⟩:=r
      dsimp only at *
      generalize L.length=nl at *
      generalize H.length=nh at *
      generalize I.length=ni at *
      go_enter Tryz.func165,Tryz.ntmps165
      go_wp2_with fail
      refine (c1 _).mono ?_
      rintro e w' ⟨rfl,e2⟩
      subst e2
      go_wp2_with fail
      refine c2.mono ?_
      rintro e w1 ⟨rfl,g1⟩
      obtain ⟨q0,q1,q2,q3,q4,q5⟩:=RA.out.gb g1.gb
      go_wp2_with fail
      refine (c3 _ g1).mono ?_
      rintro e w' ⟨rfl,e2⟩
      subst e2
      go_wp2
      go_ret
      exact ⟨rfl,G0.trans g1⟩
   ·rw [if_neg (fun h=>hi' h.2)] at E
    have c3:=fun W' g=>CI W' g false (by simpa using hi')
    have e:=E.out
    subst e
    clear CU hd hd' hu CI hi' HR hlen CC CK E
    obtain ⟨S,L,H,R,I⟩:=r
    dsimp only at *
    generalize L.length=nl at *
    generalize H.length=nh at *
    generalize I.length=ni at *
    go_enter Tryz.func165,Tryz.ntmps165
    go_wp2_with fail
    refine (c1 _).mono ?_
    rintro e w' ⟨rfl,e2⟩
    subst e2
    go_wp2_with fail
    refine c2.mono ?_
    rintro e w1 ⟨rfl,g1⟩
    obtain ⟨q0,q1,q2,q3,q4,q5⟩:=RA.out.gb g1.gb
    go_wp2_with fail
    refine (c3 _ g1).mono ?_
    rintro e w' ⟨rfl,e2⟩
    subst e2
    go_wp2
    go_ret
    exact ⟨rfl,G0.trans g1⟩
  ·rw [if_neg (fun h=>hu h.1)] at E
   have c2:=CU false (by simpa using hu)
   have e:=E.out
   subst e
   clear CU hd hd' hu CI HR hlen CC CK E
   obtain ⟨S,L,H,R,I⟩:=r
   dsimp only at *
   generalize L.length=nl at *
   generalize H.length=nh at *
   generalize I.length=ni at *
   go_enter Tryz.func165,Tryz.ntmps165
   go_wp2_with fail
   refine (c1 _).mono ?_
   rintro e w' ⟨rfl,e2⟩
   subst e2
   go_wp2_with fail
   refine c2.mono ?_
   rintro e w1 ⟨rfl,g1⟩
   obtain ⟨q0,q1,q2,q3,q4,q5⟩:=RA.out.gb g1.gb
   go_wp2
   go_ret
   exact ⟨rfl,G0.trans g1⟩
 ·have hd':¬ (1<=d/\d<=64):=by simpa using hd
  have c1:=fun W=>isDim_v d false (by simpa using hd) W
  rw [if_neg hd'] at E
  have e:=E.out
  subst e
  clear CU CI CC CK HR hd hd' E RA
  go_enter Tryz.func165,Tryz.ntmps165
  go_wp2_with (go_at_call 50;refine (c1 _).mono ?_;rintro e w' ⟨rfl,e2⟩;subst e2)
  go_ret
  exact ⟨rfl,G0⟩
theorem checkRegion_v {w:World} {v:Value} {r:Reg} (h:RdR w v r) (hlen:r.I.length<=4611686018427387904) (d x:Int) (hx:ckR r d=x) :
  Calls Tryz.prog 165 #[v,.int .i64 d] w fun e w'=>e=.returned (.int .i64 x)/\Gr w w':=by
 subst hx;exact checkRegion_c h hlen d
def ckB (r:Reg) (a:List Int):Int:=if ckR r a.length=0 then chk a a.length else ckR r a.length
theorem checkBoth_c {w:World} {v u:Value} {r:Reg} {a:List Int} (h:RdR w v r) (hu:RdI w u a) (hlen:r.I.length<=4611686018427387904) :
  Calls Tryz.prog 128 #[v,u] w fun e w'=>e=.returned (.int .i64 (ckB r a))/\Gr w w':=by
 have HR:Hid (RdR w v r):=h
 obtain ⟨vl,vh,vi,rfl,hL,hH,hI⟩:=h
 have G0:Gr w (w.alloc (rc r vl vh vi)):=(Gr.refl _).alloc _ _
 have C1:=fun x hx=>checkRegion_v (HR.out.gb G0.gb) hlen (a.length:Int) x hx
 have C2:=fun W' (g:Gr (w.alloc (rc r vl vh vi)) W') x hx=>check_v (hu.gb (G0.trans g).gb) (a.length:Int) x hx
 have E:Hid (ckB r a=if ckR r a.length=0 then chk a a.length else ckR r a.length):=rfl
 obtain ⟨pa,ca,rfl,_⟩:=hu
 generalize ckB r a=res at *
 by_cases h1:ckR r a.length=0
 ·rw [if_pos h1] at E
  have c1:=C1 _ h1
  have c2:=fun W' g=>C2 W' g res E.out.symm
  clear C1 C2 E h1 HR hlen hL hH hI
  obtain ⟨S,L,H,R,I⟩:=r
  generalize a.length=n at *
  go_enter Tryz.func128,Tryz.ntmps128
  go_wp2_with fail
  refine c1.mono ?_
  rintro e w1 ⟨rfl,g1⟩
  go_wp2_with fail
  refine (c2 _ g1).mono ?_
  rintro e w' ⟨rfl,e2⟩
  subst e2
  go_wp2
  go_ret
  exact ⟨rfl,G0.trans g1⟩
 ·rw [if_neg h1] at E
  have e:=E.out
  have h1':(res == 0)=false:=by rw [beq_eq_false_iff_ne,e];exact h1
  have c1:=C1 _ e.symm
  clear C1 C2 E h1 HR hlen hL hH hI e
  obtain ⟨S,L,H,R,I⟩:=r
  generalize a.length=n at *
  go_enter Tryz.func128,Tryz.ntmps128
  go_wp2_with fail
  refine c1.mono ?_
  rintro e w1 ⟨rfl,g1⟩
  go_wp2
  go_ret
  exact ⟨rfl,G0.trans g1⟩
theorem checkBoth_v {w:World} {v u:Value} {r:Reg} {a:List Int} (h:RdR w v r) (hu:RdI w u a) (hlen:r.I.length<=4611686018427387904) (x:Int) (hx:ckB r a=x) :
  Calls Tryz.prog 128 #[v,u] w fun e w'=>e=.returned (.int .i64 x)/\Gr w w':=by
 subst hx;exact checkBoth_c h hu hlen
end Go.Proofs.YtcipdampcmfmaabGreat

namespace Go.Proofs.YtcipdampcmfmaabGreat
open Go.RowKit
set_option maxRecDepth 100000
set_option maxHeartbeats 8000000
theorem set2_far' {W:World} {b:Nat} {p:Addr} {v:Value} (hb:b ≠ p.block) (h:W.cell? p=some v) (x y:Value):((W.setCell ⟨b,0,none⟩ x).setCell ⟨b,1,none⟩ y).cell? p=some v:=by
 rw [World.cell?_setCell_far _ _ _ _ hb,World.cell?_setCell_far _ _ _ _ hb];exact h
theorem two_set {W:World} {b b1 b2 o1 o2:Nat} {v0 v1:Value} (h1:b ≠ b1) (h2:b ≠ b2) (h:W.cell? ⟨b1,o1,none⟩=some v0/\W.cell? ⟨b2,o2,none⟩=some v1) (x y:Value) :
  ((W.setCell ⟨b,0,none⟩ x).setCell ⟨b,1,none⟩ y).cell? ⟨b1,o1,none⟩=some v0/\((W.setCell ⟨b,0,none⟩ x).setCell ⟨b,1,none⟩ y).cell? ⟨b2,o2,none⟩=some v1:=⟨set2_far' h1 h.1 x y,set2_far' h2 h.2 x y⟩
theorem gap_nat (x y:Int):(x - y).natAbs=gap x x y:=by unfold gap;split <;> (try split) <;> omega
theorem far_c {w:World} {u v:Value} {a b:List Int} (hu:RdI w u a) (hv:RdI w v b) (hab:a.length=b.length) (hn:a.length<=64) (ha:allR a=true) (hb:allR b=true) :
  Calls Tryz.prog 13 #[u,v] w fun e w'=>e=.returned (Wd (dst a b))/\Gr w w':=by
 obtain ⟨pa,ca,rfl,hu⟩:=hu
 obtain ⟨pb,cb,rfl,hv⟩:=hv
 have A:Hid (∀ i,i < a.length->∃ b o,pa=some ⟨b,o,none⟩/\w.cell? ⟨b,o + i,none⟩=some (.int .i64 a[i]!)):=hu
 have B:Hid (∀ i,i < b.length->∃ b' o,pb=some ⟨b',o,none⟩/\w.cell? ⟨b',o + i,none⟩=some (.int .i64 b[i]!)):=hv
 have H:Hid (a.length=b.length/\allR a=true/\allR b=true):=⟨hab,ha,hb⟩
 rw [<- hab]
 obtain ⟨n,hN⟩:∃ n,n=a.length:=⟨_,rfl⟩
 have N:Hid (n=a.length):=hN
 rw [<- hN] at hn ⊢
 clear hu hv hab ha hb hN
 have S0:At2 ((w.alloc (.cells #[.int .u64 0,.int .u64 0] 40)).alloc (.cells #[.int .u64 0,.int .u64 0] 40)) (w.heap.size + 1) 0:=by
  have:=At2.new (w.alloc (.cells #[.int .u64 0,.int .u64 0] 40)) 0 40
  rw [World.size_alloc] at this
  exact this
 have G0:Gr (w.alloc (.cells #[.int .u64 0,.int .u64 0] 40)) ((w.alloc (.cells #[.int .u64 0,.int .u64 0] 40)).alloc (.cells #[.int .u64 0,.int .u64 0] 40)):=(Gr.refl _).alloc _ _
 go_enter Tryz.func13,Tryz.ntmps13
 go_wp2
 go_loopw [6] (fun iv w'=>∃ q s:Nat,iv=.int .i64 (q:Int)/\q<=n/\Hid (s=dstN a b q)/\Gr (w.alloc (.cells #[.int .u64 0,.int .u64 0] 40)) w'/\At2 w' (w.heap.size + 1) s) (fun iv _=>n - (intOf iv).toNat)
 case atStart=>exact ⟨0,0,rfl,Nat.zero_le _,rfl,G0,S0⟩
 case round =>
  clear S0 G0
  obtain ⟨q,s,rfl,hq,X,hG,hS⟩:=hrel
  by_cases hqn:q < n
  ·have hqi:(q:Int) < (n:Int):=by omega
   have hqa:q < a.length:=by have:=N.out;omega
   have hqb:q < b.length:=by have:=H.out.1;omega
   obtain ⟨b1,o1,ea,h1⟩:=A.out q hqa
   obtain ⟨b2,o2,eb,h2⟩:=B.out q hqb
   subst ea;subst eb
   have G1:Gr w wr:=((Gr.refl _).alloc _ _).trans hG
   have x0:=G1.keeps h1
   have y0:=G1.keeps h2
   have hb1:w.heap.size + 1 ≠ b1:=by have:=cell_lt h1;dsimp only at this;omega
   have hb2:w.heap.size + 1 ≠ b2:=by have:=cell_lt h2;dsimp only at this;omega
   have hx:=allR_get H.out.2.1 hqa
   have hy:=allR_get H.out.2.2 hqb
   have hs0:s<=q * 18446744056529682436:=by rw [X.out];exact dstN_le H.out.2.1 H.out.2.2 H.out.1 q (by omega)
   have Y:Hid (dstN a b (q + 1)=dstN a b q + gap a[q]! a[q]! b[q]! * gap a[q]! a[q]! b[q]!):=rfl
   generalize a[q]! = x at *
   generalize b[q]! = y at *
   have hg:=gap_le x x y hx hx hy
   have hgs:s + gap x x y * gap x x y < 340282366920938463463374607431768211456:=by have:=sq_small _ hg;omega
   have Z:Hid (s + gap x x y * gap x x y=dstN a b (q + 1)):=by unfold Hid;rw [Y.out,X.out]
   obtain ⟨dd,hdd⟩:∃ dd,dd=x - y:=⟨_,rfl⟩
   have hw:IntKind.i64.wrap (x - y)=dd:=by rw [IntKind.wrap_i64];omega
   have c60:=fun W=>square_c dd (gap x x y) (by rw [hdd];exact gap_nat x y) hg W
   have c59:=fun W=>rsum_c s (gap x x y * gap x x y) hgs W
   obtain ⟨s0,s1,s2,s3⟩:=hS
   clear h1 h2 hx hy hs0 Y X hg hgs hqa hqb G1 hdd
   generalize s + gap x x y * gap x x y=t at *
   generalize gap x x y * gap x x y=g at *
   go_wp2
   have hS0:wr.cell? ⟨b1,o1 + q,none⟩=some (.int .i64 x)/\wr.cell? ⟨b2,o2 + q,none⟩=some (.int .i64 y):=⟨x0,y0⟩
   refine wp_region_held_drew (S:=fun w'=>w'.cell? ⟨b1,o1 + q,none⟩=some (.int .i64 x)/\w'.cell? ⟨b2,o2 + q,none⟩=some (.int .i64 y)) (by kernel_rfl) hS0 (fun hHeld=>?_)
   clear hS0
   refine tkn 1 ?_ rfl ?_ ?_;rotate_left;·(intro w hSw;(try dsimp only at hSw);go_simp;try rfl)
   try simp only [pt]
   refine tkn 2 ?_ rfl ?_ ?_;rotate_left;·(intro w hSw;(try dsimp only at hSw);go_simp;try rfl)
   try simp only [Act.put]
   refine tkn 3 ?_ rfl ?_ ?_;rotate_left;·(intro w hSw;(try dsimp only at hSw);go_simp;try rfl)
   try simp only [Act.put]
   refine tkn 4 ?_ rfl ?_ ?_;rotate_left;·(intro w hSw;(try dsimp only at hSw);go_simp;try rfl)
   try simp only [Act.put]
   refine tkn 5 ?_ rfl ?_ ?_;rotate_left;·(intro w hSw;(try dsimp only at hSw);go_simp;try rfl)
   try simp only [Act.put]
   refine tkn 6 ?_ rfl ?_ ?_;rotate_left;·(intro w hSw;(try dsimp only at hSw);go_simp;try rfl)
   try simp only [Act.put]
   refine tkn 7 ?_ rfl ?_ ?_;rotate_left;·(intro w hSw;(try dsimp only at hSw);go_simp;try rfl)
   try simp only [Act.put]
   refine tkn 8 ?_ rfl ?_ ?_;rotate_left;·(intro w hSw;(try dsimp only at hSw);go_simp;try rfl)
   try simp only [Act.put]
   refine tkn 9 ?_ rfl ?_ ?_;rotate_left;·(intro w hSw;(try dsimp only at hSw);go_simp;try rfl)
   try simp only [Act.put]
   refine wpAnyH_ready (rs:=[0,10]) (by kernel_rfl) (by simp) ?_
   refine AllReadyH.cons rfl (fun K hK=>?_) (AllReadyH.cons rfl (fun K hK=>?_) (AllReadyH.nil))
   ·go_simp
    refine hK.out _ _ hHeld (fun hHeld=>?_)
    clear hK K
    try simp only [pt]
    refine rdn 10 rfl (fun K hK=>?_)
    go_simp
    go_at_call 34
    refine (c60 _).mono ?_
    rintro e w1 ⟨rfl,g1⟩
    have s0:=g1.keeps s0
    have s1:=g1.keeps s1
    have s2:=(g1.froz _).trans s2
    have s3:=(g1.froz _).trans s3
    refine hK.out _ _ (call_keeps2 g1 hHeld) (fun hHeld=>?_)
    clear hK K
    try simp only [pt]
    refine rdn 11 rfl (fun K hK=>?_)
    go_simp
    go_at_call 33
    refine (c59 _).mono ?_
    rintro e w3 ⟨rfl,g3⟩
    have s0:=g3.keeps s0
    have s1:=g3.keeps s1
    have s2:=(g3.froz _).trans s2
    have s3:=(g3.froz _).trans s3
    refine hK.out _ _ (call_keeps2 g3 hHeld) (fun hHeld=>?_)
    clear hK K
    try simp only [pt]
    refine rdn 12 rfl (fun K hK=>?_)
    go_simp
    refine hK.out _ _ (two_set hb1 hb2 hHeld _ _) (fun hHeld=>?_)
    clear hK K
    try simp only [pt]
    refine wpAnyH_done (by kernel_rfl) ?_ _
    have hG3:=(hG.drew.trans g1).trans g3
    have hS3:At2 w3 (w.heap.size + 1) s:=⟨s0,s1,s2,s3⟩
    clear c59 c60 x0 y0 s0 s1 s2 s3 g1 g3 hG hHeld
    go_wp2
    exact ⟨⟨q + 1,t,by go_num,hqn,Z,(hG3.setCell (by simp) _).setCell (by simp) _,hS3.set t⟩,by simp [intOf];omega⟩
   ·go_simp
    go_at_call 34
    refine (c60 _).mono ?_
    rintro e w1 ⟨rfl,g1⟩
    have s0:=g1.keeps s0
    have s1:=g1.keeps s1
    have s2:=(g1.froz _).trans s2
    have s3:=(g1.froz _).trans s3
    refine hK.out _ _ (call_keeps2 g1 hHeld) (fun hHeld=>?_)
    clear hK K
    try simp only [pt]
    refine rdn 0 rfl (fun K hK=>?_)
    go_simp
    refine hK.out _ _ hHeld (fun hHeld=>?_)
    clear hK K
    try simp only [pt]
    refine rdn 11 rfl (fun K hK=>?_)
    go_simp
    go_at_call 33
    refine (c59 _).mono ?_
    rintro e w3 ⟨rfl,g3⟩
    have s0:=g3.keeps s0
    have s1:=g3.keeps s1
    have s2:=(g3.froz _).trans s2
    have s3:=(g3.froz _).trans s3
    refine hK.out _ _ (call_keeps2 g3 hHeld) (fun hHeld=>?_)
    clear hK K
    try simp only [pt]
    refine rdn 12 rfl (fun K hK=>?_)
    go_simp
    refine hK.out _ _ (two_set hb1 hb2 hHeld _ _) (fun hHeld=>?_)
    clear hK K
    try simp only [pt]
    refine wpAnyH_done (by kernel_rfl) ?_ _
    have hG3:=(hG.drew.trans g1).trans g3
    have hS3:At2 w3 (w.heap.size + 1) s:=⟨s0,s1,s2,s3⟩
    clear c59 c60 x0 y0 s0 s1 s2 s3 g1 g3 hG hHeld
    go_wp2
    exact ⟨⟨q + 1,t,by go_num,hqn,Z,(hG3.setCell (by simp) _).setCell (by simp) _,hS3.set t⟩,by simp [intOf];omega⟩
  ·have hqi:¬ (q:Int) < (n:Int):=by omega
   have E:Hid (s=dst a b):=by
    have h1:=X.out
    have h2:q=a.length:=by have:=N.out;omega
    rw [h2] at h1;exact h1
   obtain ⟨s0,s1,s2,s3⟩:=hS
   obtain ⟨v0,v1,v2,v3⟩:=hG.var2
   go_wp2
   exact bodyPost_ret (v:=Wd s) (by simp [results,Tryz.results13,go_sem,v0,v1]) rfl ⟨by rw [E.out],by repeat (first | exact ((Gr.refl _).alloc _ _).trans hG | refine Gr.setCell ?_ (by simp) _)⟩
end Go.Proofs.YtcipdampcmfmaabGreat
