import Derived.Test.YtepjbdklljlecaaGreatVrTkDown
import Derived.Test.YtepjbdklljlecaaGreatVr3
namespace Go.Proofs.YtepjbdklljlecaaGreat.Tk
open Go.RowKit Go.Sort
set_option maxRecDepth 100000
set_option maxHeartbeats 2000000
theorem Kp.trans' {S T:Nat->Prop} {a b c:World} (h:Kp S a b) (k:Kp T b c) (hT:∀ i,i < a.heap.size->T i->S i):Kp S a c :=
 ⟨k.os.trans h.os,k.tape.trans h.tape,k.output.trans h.output,Nat.le_trans h.size k.size,fun i hi hn=>(k.block i (Nat.lt_of_lt_of_le hi h.size) (fun t=>hn (hT i hi t))).trans (h.block i hi hn)⟩
def More (w w':World) (hb:Nat) (k:Int) (v:Value) (d:Array Ht) (x:Ht):Prop :=
 ∃ g cap d',d'.toList.Perm (d.toList ++ [x])/\MaxH d'/\Hp w' hb k (.slice (some ⟨g,0,none⟩) (d.size + 1) cap) d'/\Kp (fun b=>b=hb ∨ some b=v.ownBlock) w w'/\(v.ownBlock=some g ∨ w.heap.size<=g)
theorem push25 {w:World} {hb:Nat} {k:Int} {v:Value} {d:Array Ht} (h:Hp w hb k v d) (hm:MaxH d) (hn:d.size<=3000) (x:Ht) :
  Calls Tryz.prog 114 #[.iface 166 (.pointer (some ⟨hb,1,none⟩)),.iface 68 (hv x)] w fun e w'=>e=.returned (.tuple #[])/\More w w' hb k v d x:=by
 have H:Hid (Hp w hb k v d/\MaxH d):=⟨h,hm⟩
 have hp:=push75 h (by omega) x
 have hi:=inv_push hb w
 obtain ⟨n,hN⟩:∃ n,n=d.size:=⟨_,rfl⟩
 have N:Hid (n=d.size):=hN
 rw [<- hN] at hn
 clear h hm hN
 go_enter Tryz.func114,Tryz.ntmps114
 go_wp2_with fail
 refine hp.mono ?_
 rintro e w1 ⟨rfl,g,cap,h1,k1,hg⟩
 have hu:=up_push H.out.2 x
 have e1:=N.out
 have X:Hid (Hp w1 hb k (.slice (some ⟨g,0,none⟩) (n + 1) cap) (d.push x)/\UpInv (d.push x) n/\(d.push x).size=n + 1):=⟨by rw [e1];exact h1,by rw [e1];exact hu,by rw [Array.size_push,e1]⟩
 have K1:Hid (Kp (fun b=>b=hb ∨ some b=v.ownBlock) w w1/\(v.ownBlock=some g ∨ w.heap.size<=g)):=⟨k1,hg⟩
 clear hp hi h1 k1 hg hu e1
 have hi:=inv_len hb _ w1 X.out.1.cell1
 go_wp2_with fail
 refine (len72 _ _ _ _).mono ?_
 rintro e w2 ⟨rfl,e2⟩
 subst e2
 have e3:((n + 1:Nat):Int) - 1=(n:Int):=by omega
 clear hi
 go_wp2_with fail
 refine (up_c X.out.1 X.out.2.2 (by omega) n (by omega) X.out.2.1).mono ?_
 rintro e w3 ⟨rfl,d',p1,p2,p3,p4⟩
 have Y:Hid (d'.toList.Perm (d.push x).toList/\MaxH d'/\Hp w3 hb k (.slice (some ⟨g,0,none⟩) (n + 1) cap) d'/\Kp (fun b=>b=g) w2 w3):=⟨p1,p2,p3,p4⟩
 clear p1 p2 p3 p4
 go_wp2
 go_end0
 obtain ⟨p1,p2,p3,p4⟩:=Y.out
 obtain ⟨k1,hg⟩:=K1.out
 refine ⟨rfl,g,cap,d',by simpa using p1,p2,by rw [<- N.out];exact p3,k1.trans' p4 ?_,hg⟩
 rintro i hi rfl
 rcases hg with hg | hg
 ·exact .inr hg.symm
 ·omega
theorem fix26 {w:World} {hb g n cap:Nat} {k:Int} {d:Array Ht} (h:Hp w hb k (.slice (some ⟨g,0,none⟩) n cap) d) (hs:d.size=n) (hn:n<=4000) (hn0:0 < n) (hu:DownInv d 0) :
  Calls Tryz.prog 116 #[.iface 166 (.pointer (some ⟨hb,1,none⟩)),.int .i64 0] w fun e w'=>e=.returned (.tuple #[])/\Fixed w w' hb g n cap k d:=by
 have H:Hid (Hp w hb k (.slice (some ⟨g,0,none⟩) n cap) d/\DownInv d 0/\d.size=n):=⟨h,hu,hs⟩
 have hi:=inv_len hb _ w h.cell1
 clear h hs hu
 go_enter Tryz.func116,Tryz.ntmps116
 go_wp2_with fail
 refine (len72 _ _ _ _).mono ?_
 rintro e w2 ⟨rfl,e2⟩
 subst e2
 clear hi
 go_wp2_with fail
 refine (down_c H.out.1 H.out.2.2 hn 0 hn0 H.out.2.1).mono ?_
 rintro e w3 ⟨⟨b,rfl⟩,d',p1,p2,p3,p4⟩
 have Y:Hid (d'.toList.Perm d.toList/\MaxH d'/\Hp w3 hb k (.slice (some ⟨g,0,none⟩) n cap) d'/\Kp (fun b=>b=g) w2 w3):=⟨p1,p2,p3,p4⟩
 clear p1 p2 p3 p4
 cases b with
 | true =>
  go_wp2
  go_end0
  exact ⟨rfl,d',Y.out⟩
 | false =>
  go_wp2_with fail
  refine (up_c (d:=d') Y.out.2.2.1 (by have:=Y.out.1.length_eq;have:=H.out.2.2;simp at *;omega) hn 0 hn0 ⟨fun i h0 h1 _=>Y.out.2.1 i h0 h1,fun _ _ _ _ h0=>absurd h0 (Nat.lt_irrefl _)⟩).mono ?_
  rintro e w4 ⟨rfl,d'',p1,p2,p3,p4⟩
  have Y2:Hid (d''.toList.Perm d'.toList/\MaxH d''/\Hp w4 hb k (.slice (some ⟨g,0,none⟩) n cap) d''/\Kp (fun b=>b=g) w3 w4):=⟨p1,p2,p3,p4⟩
  clear p1 p2 p3 p4
  go_wp2
  go_end0
  exact ⟨rfl,d'',Y2.out.1.trans Y.out.1,Y2.out.2.1,Y2.out.2.2.1,Y.out.2.2.2.trans Y2.out.2.2.2⟩
end Go.Proofs.YtepjbdklljlecaaGreat.Tk

namespace Go.Proofs.YtepjbdklljlecaaGreat
open Go.RowKit
set_option maxRecDepth 100000
set_option maxHeartbeats 4000000
def ckR (r:Reg) (d:Int):Int :=
 if 1<=d/\d<=64 then (if uses r=true/\rise r.I=true then (if r.S=2 then cornE r.L r.H d else if r.S=3 then chk r.L d else 0) else 32) else 30
theorem checkRegion_c {w:World} {v:Value} {r:Reg} (h:RdR w v r) (hlen:r.I.length<=4611686018427387904) (d:Int) :
  Calls Tryz.prog 145 #[v,.int .i64 d] w fun e w'=>e=.returned (.int .i64 (ckR r d))/\Gr w w':=by
 have HR:Hid (RdR w v r):=h
 obtain ⟨vl,vh,vi,rfl,hL,hH,hI⟩:=h
 have G0:Gr w (w.alloc (rc r vl vh vi)):=(Gr.refl _).alloc _ _
 have RA:Hid (RegAt (w.alloc (rc r vl vh vi)) w.heap.size r vl vh vi):=RegAt.new w r vl vh vi
 have CU:=fun b hb=>uses_v (HR.out.gb G0.gb) b hb
 have CI:=fun W' (g:Gr (w.alloc (rc r vl vh vi)) W') b hb=>idsRise_v (hI.gb (G0.trans g).gb) hlen b hb
 have CC:=fun W' (g:Gr (w.alloc (rc r vl vh vi)) W') e he=>corners_v (hL.gb (G0.trans g).gb) (hH.gb (G0.trans g).gb) d e he
 have CK:=fun W' (g:Gr (w.alloc (rc r vl vh vi)) W') e he=>check_v (hL.gb (G0.trans g).gb) d e he
 have E:Hid (ckR r d=if 1<=d/\d<=64 then (if uses r=true/\rise r.I=true then (if r.S=2 then cornE r.L r.H d else if r.S=3 then chk r.L d else 0) else 32) else 30):=rfl
 obtain ⟨pl,cl,rfl,_⟩:=hL
 obtain ⟨ph,ch,rfl,_⟩:=hH
 obtain ⟨pi,ci,rfl,_⟩:=hI
 generalize ckR r d=res at *
 by_cases hd:(decide (1<=d) && decide (d<=64))=true
 ·have hd':1<=d/\d<=64:=by simpa using hd
  have c1:=fun W=>isDim_v d true hd W
  rw [if_pos hd'] at E
  by_cases hu:uses r=true
  ·have c2:=CU _ hu
   by_cases hi':rise r.I=true
   ·rw [if_pos ⟨hu,hi'⟩] at E
    have c3:=fun W' g=>CI W' g true hi'
    clear CU hd hd' hu CI hi' HR hlen
    by_cases s2:r.S=2
    ·rw [if_pos s2] at E
     have c4:=fun W' g=>CC W' g res E.out.symm
     clear CC CK E
     obtain ⟨S,L,H,R,I⟩:=r
     dsimp only at *
     subst s2
     generalize L.length=nl at *
     generalize H.length=nh at *
     generalize I.length=ni at *
     go_enter Tryz.func145,Tryz.ntmps145
     go_wp2_with fail
     refine (c1 _).mono ?_
     rintro e w' ⟨rfl,e2⟩
     subst e2
     go_wp2_with fail
     refine c2.mono ?_
     rintro e w1 ⟨rfl,g1⟩
     obtain ⟨q0,q1,q2,q3,q4,q5⟩:=RA.out.gb g1.gb
     go_wp2_with fail
     refine (c3 _ g1).mono ?_
     rintro e w' ⟨rfl,e2⟩
     subst e2
     go_wp2_with fail
     refine (c4 _ g1).mono ?_
     rintro e w' ⟨rfl,e2⟩
     subst e2
     go_wp2
     go_ret
     exact ⟨rfl,G0.trans g1⟩
    ·rw [if_neg s2] at E
     have s2':(r.S == 2)=false:=by rw [beq_eq_false_iff_ne];exact s2
     by_cases s3:r.S=3
     ·rw [if_pos s3] at E
      have c4:=fun W' g=>CK W' g res E.out.symm
      clear CC CK E s2 s2'
      obtain ⟨S,L,H,R,I⟩:=r
      dsimp only at *
      subst s3
      generalize L.length=nl at *
      generalize H.length=nh at *
      generalize I.length=ni at *
      go_enter Tryz.func145,Tryz.ntmps145
      go_wp2_with fail
      refine (c1 _).mono ?_
      rintro e w' ⟨rfl,e2⟩
      subst e2
      go_wp2_with fail
      refine c2.mono ?_
      rintro e w1 ⟨rfl,g1⟩
      obtain ⟨q0,q1,q2,q3,q4,q5⟩:=RA.out.gb g1.gb
      go_wp2_with fail
      refine (c3 _ g1).mono ?_
      rintro e w' ⟨rfl,e2⟩
      subst e2
      go_wp2_with fail
      refine (c4 _ g1).mono ?_
      rintro e w' ⟨rfl,e2⟩
      subst e2
      go_wp2
      go_ret
      exact ⟨rfl,G0.trans g1⟩
     ·rw [if_neg s3] at E
      have s3':(r.S == 3)=false:=by rw [beq_eq_false_iff_ne];exact s3
      have e:=E.out
      subst e
      clear CC CK E s2 s3
      obtain ⟨S,L,H,R,I⟩:=r
      dsimp only at *
      generalize L.length=nl at *
      generalize H.length=nh at *
      generalize I.length=ni at *
      go_enter Tryz.func145,Tryz.ntmps145
      go_wp2_with fail
      refine (c1 _).mono ?_
      rintro e w' ⟨rfl,e2⟩
      subst e2
      go_wp2_with fail
      refine c2.mono ?_
      rintro e w1 ⟨rfl,g1⟩
      obtain ⟨q0,q1,q2,q3,q4,q5⟩:=RA.out.gb g1.gb
      go_wp2_with fail
      refine (c3 _ g1).mono ?_
      rintro e w' ⟨rfl,e2⟩
      subst e2
      go_wp2
      go_ret
      exact ⟨rfl,G0.trans g1⟩
   ·rw [if_neg (fun h=>hi' h.2)] at E
    have c3:=fun W' g=>CI W' g false (by simpa using hi')
    have e:=E.out
    subst e
    clear CU hd hd' hu CI hi' HR hlen CC CK E
    obtain ⟨S,L,H,R,I⟩:=r
    dsimp only at *
    generalize L.length=nl at *
    generalize H.length=nh at *
    generalize I.length=ni at *
    go_enter Tryz.func145,Tryz.ntmps145
    go_wp2_with fail
    refine (c1 _).mono ?_
    rintro e w' ⟨rfl,e2⟩
    subst e2
    go_wp2_with fail
    refine c2.mono ?_
    rintro e w1 ⟨rfl,g1⟩
    obtain ⟨q0,q1,q2,q3,q4,q5⟩:=RA.out.gb g1.gb
    go_wp2_with fail
    refine (c3 _ g1).mono ?_
    rintro e w' ⟨rfl,e2⟩
    subst e2
    go_wp2
    go_ret
    exact ⟨rfl,G0.trans g1⟩
  ·rw [if_neg (fun h=>hu h.1)] at E
   have c2:=CU false (by simpa using hu)
   have e:=E.out
   subst e
   clear CU hd hd' hu CI HR hlen CC CK E
   obtain ⟨S,L,H,R,I⟩:=r
   dsimp only at *
   generalize L.length=nl at *
   generalize H.length=nh at *
   generalize I.length=ni at *
   go_enter Tryz.func145,Tryz.ntmps145
   go_wp2_with fail
   refine (c1 _).mono ?_
   rintro e w' ⟨rfl,e2⟩
   subst e2
   go_wp2_with fail
   refine c2.mono ?_
   rintro e w1 ⟨rfl,g1⟩
   obtain ⟨q0,q1,q2,q3,q4,q5⟩:=RA.out.gb g1.gb
   go_wp2
   go_ret
   exact ⟨rfl,G0.trans g1⟩
 ·have hd':¬ (1<=d/\d<=64):=by simpa using hd
  have c1:=fun W=>isDim_v d false (by simpa using hd) W
  rw [if_neg hd'] at E
  have e:=E.out
  subst e
  clear CU CI CC CK HR hd hd' E RA
  go_enter Tryz.func145,Tryz.ntmps145
  go_wp2_with (go_at_call 66;refine (c1 _).mono ?_;rintro e w' ⟨rfl,e2⟩;subst e2)
  go_ret
  exact ⟨rfl,G0⟩
theorem checkRegion_v {w:World} {v:Value} {r:Reg} (h:RdR w v r) (hlen:r.I.length<=4611686018427387904) (d x:Int) (hx:ckR r d=x) :
  Calls Tryz.prog 145 #[v,.int .i64 d] w fun e w'=>e=.returned (.int .i64 x)/\Gr w w':=by
 subst hx;exact checkRegion_c h hlen d
def ckB (r:Reg) (a:List Int):Int:=if ckR r a.length=0 then chk a a.length else ckR r a.length
theorem checkBoth_c {w:World} {v u:Value} {r:Reg} {a:List Int} (h:RdR w v r) (hu:RdI w u a) (hlen:r.I.length<=4611686018427387904) :
  Calls Tryz.prog 99 #[v,u] w fun e w'=>e=.returned (.int .i64 (ckB r a))/\Gr w w':=by
 have HR:Hid (RdR w v r):=h
 obtain ⟨vl,vh,vi,rfl,hL,hH,hI⟩:=h
 have G0:Gr w (w.alloc (rc r vl vh vi)):=(Gr.refl _).alloc _ _
 have C1:=fun x hx=>checkRegion_v (HR.out.gb G0.gb) hlen (a.length:Int) x hx
 have C2:=fun W' (g:Gr (w.alloc (rc r vl vh vi)) W') x hx=>check_v (hu.gb (G0.trans g).gb) (a.length:Int) x hx
 have E:Hid (ckB r a=if ckR r a.length=0 then chk a a.length else ckR r a.length):=rfl
 obtain ⟨pa,ca,rfl,_⟩:=hu
 generalize ckB r a=res at *
 by_cases h1:ckR r a.length=0
 ·rw [if_pos h1] at E
  have c1:=C1 _ h1
  have c2:=fun W' g=>C2 W' g res E.out.symm
  clear C1 C2 E h1 HR hlen hL hH hI
  obtain ⟨S,L,H,R,I⟩:=r
  generalize a.length=n at *
  go_enter Tryz.func99,Tryz.ntmps99
  go_wp2_with fail
  refine c1.mono ?_
  rintro e w1 ⟨rfl,g1⟩
  go_wp2_with fail
  refine (c2 _ g1).mono ?_
  rintro e w' ⟨rfl,e2⟩
  subst e2
  go_wp2
  go_ret
  exact ⟨rfl,G0.trans g1⟩
 ·rw [if_neg h1] at E
  have e:=E.out
  have h1':(res == 0)=false:=by rw [beq_eq_false_iff_ne,e];exact h1
  have c1:=C1 _ e.symm
  clear C1 C2 E h1 HR hlen hL hH hI e
  obtain ⟨S,L,H,R,I⟩:=r
  generalize a.length=n at *
  go_enter Tryz.func99,Tryz.ntmps99
  go_wp2_with fail
  refine c1.mono ?_
  rintro e w1 ⟨rfl,g1⟩
  go_wp2
  go_ret
  exact ⟨rfl,G0.trans g1⟩
theorem checkBoth_v {w:World} {v u:Value} {r:Reg} {a:List Int} (h:RdR w v r) (hu:RdI w u a) (hlen:r.I.length<=4611686018427387904) (x:Int) (hx:ckB r a=x) :
  Calls Tryz.prog 99 #[v,u] w fun e w'=>e=.returned (.int .i64 x)/\Gr w w':=by
 subst hx;exact checkBoth_c h hu hlen
end Go.Proofs.YtepjbdklljlecaaGreat
