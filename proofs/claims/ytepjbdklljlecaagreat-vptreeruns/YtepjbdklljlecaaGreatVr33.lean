import Derived.Test.YtepjbdklljlecaaGreatVr26
import Derived.Test.YtepjbdklljlecaaGreatVr4
import Derived.Test.YtepjbdklljlecaaGreatVr15
import Derived.Test.YtepjbdklljlecaaGreatVr3
import Derived.Test.YtepjbdklljlecaaGreatVr19
import Derived.Test.YtepjbdklljlecaaGreatVr8
import Derived.Deep.RegionWith
import Derived.Maps.OwnIn
namespace Go.Proofs.YtepjbdklljlecaaGreat
open Go.RowKit Go.Shelf
attribute [local go_sem] Oper.semAt_some
theorem Boxed.kp {S:Nat->Prop} {W W':World} {B:Nat} {t:TypeId} {v:Value} (h:Boxed W B t v) (k:Tk.Kp S W W') (hn:¬ S B):Boxed W' B t v :=
 (k.block B h.lt hn).trans h
theorem Has.cells {W:World} {hb k:Nat} {v:Value} {m:List Tk.Ht} (h:Tk.Has W hb k v m):∃ cs,W.heap[hb]? = some (.cells cs 113 (0,0)):=by
 obtain ⟨d,h1,_⟩:=h;exact ⟨_,h1.blk⟩
theorem Has.own {W:World} {hb k:Nat} {v:Value} {m:List Tk.Ht} (h:Tk.Has W hb k v m) {g:Nat} (hg:v.ownBlock=some g):∃ cs,W.heap[g]? = some (.cells cs 68 (0,0)):=by
 obtain ⟨d,h1,_⟩:=h
 rcases h1.own.2 with ⟨rfl,_⟩ | ⟨g',cap',cur,rfl,_,hh,_⟩
 ·cases hg
 ·simp only [Value.ownBlock,Option.some.injEq] at hg
  exact ⟨cur,by rw [<- hg];exact hh⟩
theorem below_putObj {a b:World} {B D:Nat} (h:Below B a b) (hD:B<=D) (o:Obj):Below B a (b.putObj D o) :=
 ⟨h.os,h.tape,h.output,by simpa [World.putObj] using h.size,fun k hk=>(World.putObj_heap_other (by omega)).trans (h.block k hk)⟩
theorem own_putObj {w:World} {v:Value} {d:Array Tk.Ht} {D:Nat} {o:Obj} (h:Tk.Own w v d) (hK:w.heap[D]? = some o) (hc:o.isCells=false) (o':Obj):Tk.Own (w.putObj D o') v d:=by
 refine Tk.own_kp h (Tk.Kp.grown (grownBy_putObj' w D o')) fun g hg e=>?_
 rcases h.2 with ⟨rfl,_⟩ | ⟨g',cap',cur,rfl,_,hh,_⟩
 ·cases hg
 ·simp only [Value.ownBlock,Option.some.injEq] at hg e
  subst hg;subst e
  rw [hh] at hK;injection hK with hK;subst hK;cases hc
abbrev hitObj (x:Tk.Ht):Obj:=.cells #[.int .i64 x.1,.int .u64 x.2.1,.int .u64 x.2.2] 68
def HitBox (W:World) (p:Nat) (x:Tk.Ht):Prop:=W.heap[p]? = some (hitObj x)
theorem HitBox.cells {W:World} {p:Nat} {x:Tk.Ht} (h:HitBox W p x):W.cell? ⟨p,0,none⟩=some (.int .i64 x.1)/\W.cell? ⟨p,1,none⟩=some (.int .u64 x.2.1)/\W.cell? ⟨p,2,none⟩=some (.int .u64 x.2.2):=by
 have e:W.heap[p]? = some (hitObj x):=h
 refine ⟨?_,?_,?_⟩ <;> simp [World.cell?,e]
theorem offer_has' {w:World} {hb k:Nat} {v:Value} {m:List Tk.Ht} (h:Tk.Has w hb k v m) (x:Tk.Ht) :
  Calls Tryz.prog 81 #[.pointer (some ⟨hb,0,none⟩),Tk.hv x] w fun e w'=>(∃ b,e=.returned (.bool b))/\∃ v',Tk.Has w' hb k v' (Tk.keep k m x)/\Tk.Kp (fun b=>b=hb ∨ some b=v.ownBlock) w w'/\(v'.ownBlock=v.ownBlock ∨ ∀ g,v'.ownBlock=some g->w.heap.size<=g):=by
 refine (Tk.offer_has h x).mono ?_
 rintro e w' ⟨rfl,v',h1,h2,h3⟩
 exact ⟨⟨_,rfl⟩,v',h1,h2,h3⟩
def OutH (w0 w':World) (v:Value) (l:List Tk.Ht):Prop:=Tk.Own w' v l.toArray/\Below w0.heap.size w0 w'/\∀ g,v.ownBlock=some g->w0.heap.size<=g
end Go.Proofs.YtepjbdklljlecaaGreat

namespace Go.Proofs.YtepjbdklljlecaaGreat
open Go.RowKit Go.Sort
end Go.Proofs.YtepjbdklljlecaaGreat

namespace Go.Proofs.YtepjbdklljlecaaGreat
open Go.RowKit Go.Sort
def srtR (rs:List Rw):List Rw:=rs.mergeSort fun a b=>decide (a.1<=b.1)
theorem srtR_perm (rs:List Rw):(srtR rs).Perm rs:=List.mergeSort_perm rs _
theorem srtR_ids (rs:List Rw):idsOf (srtR rs)=srt (idsOf rs):=by
 refine srtI_unique _ _ ?_ (srt_srtI _) (((srtR_perm rs).map _).trans (srt_perm _).symm)
 have h:=List.pairwise_mergeSort (le:=fun a b:Rw=>decide (a.1<=b.1)) (fun a b c h1 h2=>by simp at *;omega) (fun a b=>by simp;omega) rs
 unfold SrtI idsOf srtR
 rw [List.pairwise_map]
 exact h.imp fun h=>by simpa using h
theorem srt_lt {l:List Int} (h:l.Pairwise (· ≠ ·)):∀ i,i + 1 < (srt l).length->(srt l)[i]! < (srt l)[i + 1]! := fun i hi=>by
 have h1:=srt_srtI l
 have h2:(srt l).Pairwise (· ≠ ·):=(List.Perm.pairwise_iff (fun e=>Ne.symm e) (srt_perm l)).2 h
 unfold SrtI at h1
 have a:=List.pairwise_iff_getElem.1 h1 i (i + 1) (by omega) hi (by omega)
 have b:=List.pairwise_iff_getElem.1 h2 i (i + 1) (by omega) hi (by omega)
 rw [getElem!_pos (srt l) i (by omega),getElem!_pos (srt l) (i + 1) hi]
 omega
theorem rise_of {l:List Int} (h:l.Pairwise (· ≠ ·)) (hok:∀ x ∈ l,okId x=true):rise (srt l)=true:=by
 unfold rise
 have key:∀ q,q<=(srt l).length->riseTo (srt l) q=true:=by
  intro q
  induction q with
  | zero=>intro _;rfl
  | succ q ih =>
   intro hq
   rw [riseTo,ih (by omega),Bool.true_and]
   unfold okAt
   have h1:okId (srt l)[q]! = true:=by
    rw [getElem!_pos (srt l) q (by omega)]
    exact hok _ ((srt_perm l).subset (List.getElem_mem _))
   rw [h1,Bool.true_and]
   cases q with
   | zero=>rfl
   | succ j =>
    have:=srt_lt h j (by omega)
    rw [Bool.or_eq_true]
    exact .inr (decide_eq_true (by rw [Nat.add_sub_cancel];exact this))
 exact key _ (Nat.le_refl _)
end Go.Proofs.YtepjbdklljlecaaGreat

namespace Go.Proofs.YtepjbdklljlecaaGreat
open Go.RowKit
set_option maxRecDepth 100000
set_option maxHeartbeats 8000000
theorem rids_v {w:World} {v:Value} {l:List Int} (h:RdI w v l) (hlen:l.length<=4611686018427387904) (b:Bool) (hb:rise l=b) :
  Calls Tryz.prog 218 #[v] w fun e w'=>e=.returned (.bool b)/\Gr w w':=by
 subst hb;exact rids_c h hlen
theorem uses_S {r:Reg} (h:uses r=true):r.S=1 ∨ r.S=2 ∨ r.S=3:=by
 unfold uses at h
 by_cases s1:r.S=1
 ·exact .inl s1
 by_cases s2:r.S=2
 ·exact .inr (.inl s2)
 by_cases s3:r.S=3
 ·exact .inr (.inr s3)
 rw [if_neg s1,if_neg s2,if_neg s3] at h
 cases h
theorem rckR_c {w:World} {v:Value} {r:Reg} (h:RdR w v r) (hlen:r.I.length<=4611686018427387904) (d:Int) :
  Calls Tryz.prog 178 #[v,.int .i64 d] w fun e w'=>e=.returned (.int .i64 (ckR r d))/\Gr w w':=by
 have HR:Hid (RdR w v r):=h
 obtain ⟨vl,vh,vi,rfl,hL,hH,hI⟩:=h
 have G0:Gr w (w.alloc (rc r vl vh vi)):=(Gr.refl _).alloc _ _
 have RA:Hid (RegAt (w.alloc (rc r vl vh vi)) w.heap.size r vl vh vi):=RegAt.new w r vl vh vi
 have CU:=fun b hb=>form_v (HR.out.gb G0.gb) b hb
 have CI:=fun W' (g:Gr (w.alloc (rc r vl vh vi)) W') b hb=>rids_v (hI.gb (G0.trans g).gb) hlen b hb
 have CL:=fun W' (g:Gr (w.alloc (rc r vl vh vi)) W') e he=>rcheck_v (hL.gb (G0.trans g).gb) d e he
 have CH:=fun W' (g:Gr (w.alloc (rc r vl vh vi)) W') e he=>rcheck_v (hH.gb (G0.trans g).gb) d e he
 have E:Hid (ckR r d=if 1<=d/\d<=64 then (if uses r=true/\rise r.I=true then (if r.S=2 then cornE r.L r.H d else if r.S=3 then chk r.L d else 0) else 32) else 30):=rfl
 obtain ⟨pl,cl,rfl,aL⟩:=hL
 obtain ⟨ph,ch,rfl,aH⟩:=hH
 obtain ⟨pi,ci,rfl,_⟩:=hI
 generalize ckR r d=res at *
 by_cases d1:d < 1
 ·rw [if_neg (by omega)] at E
  have e:=E.out
  subst e
  clear CU CI CL CH HR E RA aL aH
  go_enter Tryz.func178,Tryz.ntmps178
  go_wp2
  go_ret
  exact ⟨rfl,G0⟩
 by_cases d2:64 < d
 ·rw [if_neg (by omega)] at E
  have e:=E.out
  subst e
  clear CU CI CL CH HR E RA aL aH
  go_enter Tryz.func178,Tryz.ntmps178
  go_wp2
  go_ret
  exact ⟨rfl,G0⟩
 rw [if_pos (by omega)] at E
 by_cases hu:uses r=true
 ·have c2:=CU _ hu
  by_cases hi':rise r.I=true
  ·rw [if_pos ⟨hu,hi'⟩] at E
   have c3:=fun W' g=>CI W' g true hi'
   have hS:=uses_S hu
   clear CU hu CI hi' HR hlen
   by_cases s1:r.S=1
   ·rw [if_neg (by omega),if_neg (by omega)] at E
    have e:=E.out
    subst e
    clear CL CH E aL aH hS
    obtain ⟨S,L,H,R,I⟩:=r
    dsimp only at *
    subst s1
    generalize L.length=nl at *
    generalize H.length=nh at *
    generalize I.length=ni at *
    go_enter Tryz.func178,Tryz.ntmps178
    go_wp2_with fail
    refine c2.mono ?_
    rintro e w1 ⟨rfl,g1⟩
    obtain ⟨q0,q1,q2,q3,q4,q5⟩:=RA.out.gb g1.gb
    go_wp2_with fail
    refine (c3 _ g1).mono ?_
    rintro e w2 ⟨rfl,g2⟩
    replace g1:=g1.trans g2
    clear q0 q1 q2 q3 q4 q5
    obtain ⟨q0,q1,q2,q3,q4,q5⟩:=RA.out.gb g1.gb
    go_wp2
    go_ret
    exact ⟨rfl,G0.trans g1⟩
   ·have s1':(r.S == 1)=false:=by rw [beq_eq_false_iff_ne];exact s1
    by_cases s3:r.S=3
    ·rw [if_neg (by omega),if_pos s3] at E
     have c4:=fun W' g=>CL W' g res E.out.symm
     clear CL CH E aL aH hS s1 s1'
     by_cases hz:res=0
     ·subst hz
      obtain ⟨S,L,H,R,I⟩:=r
      dsimp only at *
      subst s3
      generalize L.length=nl at *
      generalize H.length=nh at *
      generalize I.length=ni at *
      go_enter Tryz.func178,Tryz.ntmps178
      go_wp2_with fail
      refine c2.mono ?_
      rintro e w1 ⟨rfl,g1⟩
      obtain ⟨q0,q1,q2,q3,q4,q5⟩:=RA.out.gb g1.gb
      go_wp2_with fail
      refine (c3 _ g1).mono ?_
      rintro e w2 ⟨rfl,g2⟩
      replace g1:=g1.trans g2
      clear q0 q1 q2 q3 q4 q5
      obtain ⟨q0,q1,q2,q3,q4,q5⟩:=RA.out.gb g1.gb
      go_wp2_with fail
      refine (c4 _ g1).mono ?_
      rintro e w' ⟨rfl,e2⟩
      subst e2
      go_wp2
      go_ret
      exact ⟨rfl,G0.trans g1⟩
     ·have hz':(res == 0)=false:=by rw [beq_eq_false_iff_ne];exact hz
      obtain ⟨S,L,H,R,I⟩:=r
      dsimp only at *
      subst s3
      generalize L.length=nl at *
      generalize H.length=nh at *
      generalize I.length=ni at *
      go_enter Tryz.func178,Tryz.ntmps178
      go_wp2_with fail
      refine c2.mono ?_
      rintro e w1 ⟨rfl,g1⟩
      obtain ⟨q0,q1,q2,q3,q4,q5⟩:=RA.out.gb g1.gb
      go_wp2_with fail
      refine (c3 _ g1).mono ?_
      rintro e w2 ⟨rfl,g2⟩
      replace g1:=g1.trans g2
      clear q0 q1 q2 q3 q4 q5
      obtain ⟨q0,q1,q2,q3,q4,q5⟩:=RA.out.gb g1.gb
      go_wp2_with fail
      refine (c4 _ g1).mono ?_
      rintro e w' ⟨rfl,e2⟩
      subst e2
      go_wp2
      go_ret
      exact ⟨rfl,G0.trans g1⟩
    ·have s2:r.S=2:=by omega
     rw [if_pos s2] at E
     have s3':(r.S == 3)=false:=by rw [beq_eq_false_iff_ne];exact s3
     by_cases k1:chk r.L d=0
     ·have c4:=fun W' g=>CL W' g 0 k1
      by_cases k2:chk r.H d=0
      ·have c5:=fun W' g=>CH W' g 0 k2
       have E2:Hid (res=if below r.L r.H r.L.length=true then 0 else 32):=by have:=E.out;unfold cornE at this;rw [if_pos k1,if_pos k2] at this;exact this
       obtain ⟨m1,m2,m3,_⟩:=chk_ok k1
       obtain ⟨_,_,m4,_⟩:=chk_ok k2
       have A:Hid (∀ i,i < r.L.length->∃ b o,pl=some ⟨b,o,none⟩/\w.cell? ⟨b,o + i,none⟩=some (.int .i64 r.L[i]!)):=aL
       have B:Hid (∀ i,i < r.L.length->∃ b o,ph=some ⟨b,o,none⟩/\w.cell? ⟨b,o + i,none⟩=some (.int .i64 r.H[i]!)):=fun i hi=>aH i (by omega)
       obtain ⟨S,L,H,R,I⟩:=r
       dsimp only at *
       clear aL aH CL CH E k1 k2
       generalize H.length=nh at *
       have hnh:nh=L.length:=by omega
       subst hnh
       subst m3
       obtain ⟨n,hN⟩:∃ n,n=L.length:=⟨_,rfl⟩
       have N:Hid (n=L.length):=hN
       simp only [<- hN] at *
       clear hN m4 hS s1 s3 d1 d2
       subst s2
       generalize I.length=ni at *
       go_enter Tryz.func178,Tryz.ntmps178
       go_wp2_with fail
       refine c2.mono ?_
       rintro e w1 ⟨rfl,g1⟩
       obtain ⟨q0,q1,q2,q3,q4,q5⟩:=RA.out.gb g1.gb
       go_wp2_with fail
       refine (c3 _ g1).mono ?_
       rintro e w2 ⟨rfl,g2⟩
       replace g1:=g1.trans g2
       clear q0 q1 q2 q3 q4 q5
       obtain ⟨q0,q1,q2,q3,q4,q5⟩:=RA.out.gb g1.gb
       go_wp2_with fail
       refine (c4 _ g1).mono ?_
       rintro e w' ⟨rfl,e2⟩
       subst e2
       go_wp2_with fail
       refine (c5 _ g1).mono ?_
       rintro e w' ⟨rfl,e2⟩
       subst e2
       clear c2 c3 c4 c5
       go_wp2
       go_loopw [6] (fun iv w'=>∃ q:Nat,iv=.int .i64 (q:Int)/\q<=n/\Gr (w.alloc (rc ⟨2,L,H,R,I⟩ (.slice pl n cl) (.slice ph n ch) (.slice pi ni ci))) w'/\Hid (below L H q=true)) (fun iv _=>n - (intOf iv).toNat)
       case atStart=>exact ⟨0,rfl,Nat.zero_le _,g1,rfl⟩
       case round =>
        clear q0 q1 q2 q3 q4 q5 g1
        obtain ⟨q,rfl,hq,g1,X⟩:=hrel
        obtain ⟨q0,q1,q2,q3,q4,q5⟩:=RA.out.gb g1.gb
        by_cases hqn:q < n
        ·have hqi:(q:Int) < (n:Int):=by omega
         obtain ⟨b1,o1,ea,hc1⟩:=A.out q hqn
         obtain ⟨b2,o2,eb,hc2⟩:=B.out q hqn
         subst ea;subst eb
         replace hc1:=(G0.trans g1).keeps hc1
         replace hc2:=(G0.trans g1).keeps hc2
         by_cases hle:L[q]! <= H[q]!
         ·have R1:Hid (below L H (q + 1)=true):=by unfold Hid;rw [below,X.out,decide_eq_true hle];rfl
          have hle':¬ H[q]! < L[q]! := by omega
          generalize L[q]! = x at *
          generalize H[q]! = y at *
          clear X hle
          go_wp2
          go_quiet (fail)
          go_wp2
          go_roundw
          case rel=>exact ⟨q + 1,by simp,hqn,g1.drewN _,R1⟩
          case measure=>simp [intOf];omega
         ·have R1:Hid (res=32):=by
           have:below L H n=false:=below_le (p:=q + 1) (by omega) (by rw [below,decide_eq_false hle,Bool.and_false])
           unfold Hid;rw [E2.out,this];rfl
          have hle':H[q]! < L[q]! := by omega
          generalize L[q]! = x at *
          generalize H[q]! = y at *
          clear X hle
          go_wp2
          go_quiet (fail)
          go_wp2
          go_ret
          exact ⟨by rw [R1.out];rfl,(G0.trans g1).drewN _⟩
        ·have hqi:¬ (q:Int) < (n:Int):=by omega
         have R1:Hid (res=0):=by
          have h2:q=n:=by omega
          unfold Hid;rw [E2.out,<- h2,X.out];rfl
         go_wp2
         go_ret
         exact ⟨by rw [R1.out];rfl,G0.trans g1⟩
      ·have c5:=fun W' g=>CH W' g res (by have:=E.out;unfold cornE at this;rw [if_pos k1,if_neg k2] at this;exact this.symm)
       have hz:¬ res=0:=by have:=E.out;unfold cornE at this;rw [if_pos k1,if_neg k2] at this;rw [this];exact k2
       have hz':(res == 0)=false:=by rw [beq_eq_false_iff_ne];exact hz
       clear CL CH E aL aH hS s1 s3 k1 k2
       obtain ⟨S,L,H,R,I⟩:=r
       dsimp only at *
       subst s2
       generalize L.length=nl at *
       generalize H.length=nh at *
       generalize I.length=ni at *
       go_enter Tryz.func178,Tryz.ntmps178
       go_wp2_with fail
       refine c2.mono ?_
       rintro e w1 ⟨rfl,g1⟩
       obtain ⟨q0,q1,q2,q3,q4,q5⟩:=RA.out.gb g1.gb
       go_wp2_with fail
       refine (c3 _ g1).mono ?_
       rintro e w2 ⟨rfl,g2⟩
       replace g1:=g1.trans g2
       clear q0 q1 q2 q3 q4 q5
       obtain ⟨q0,q1,q2,q3,q4,q5⟩:=RA.out.gb g1.gb
       go_wp2_with fail
       refine (c4 _ g1).mono ?_
       rintro e w' ⟨rfl,e2⟩
       subst e2
       go_wp2_with fail
       refine (c5 _ g1).mono ?_
       rintro e w' ⟨rfl,e2⟩
       subst e2
       go_wp2
       go_ret
       exact ⟨rfl,G0.trans g1⟩
     ·have c4:=fun W' g=>CL W' g res (by have:=E.out;unfold cornE at this;rw [if_neg k1] at this;exact this.symm)
      have hz:¬ res=0:=by have:=E.out;unfold cornE at this;rw [if_neg k1] at this;rw [this];exact k1
      have hz':(res == 0)=false:=by rw [beq_eq_false_iff_ne];exact hz
      clear CL CH E aL aH hS s1 s3 k1
      obtain ⟨S,L,H,R,I⟩:=r
      dsimp only at *
      subst s2
      generalize L.length=nl at *
      generalize H.length=nh at *
      generalize I.length=ni at *
      go_enter Tryz.func178,Tryz.ntmps178
      go_wp2_with fail
      refine c2.mono ?_
      rintro e w1 ⟨rfl,g1⟩
      obtain ⟨q0,q1,q2,q3,q4,q5⟩:=RA.out.gb g1.gb
      go_wp2_with fail
      refine (c3 _ g1).mono ?_
      rintro e w2 ⟨rfl,g2⟩
      replace g1:=g1.trans g2
      clear q0 q1 q2 q3 q4 q5
      obtain ⟨q0,q1,q2,q3,q4,q5⟩:=RA.out.gb g1.gb
      go_wp2_with fail
      refine (c4 _ g1).mono ?_
      rintro e w' ⟨rfl,e2⟩
      subst e2
      go_wp2
      go_ret
      exact ⟨rfl,G0.trans g1⟩
  ·rw [if_neg (fun h=>hi' h.2)] at E
   have c3:=fun W' g=>CI W' g false (by simpa using hi')
   have e:=E.out
   subst e
   clear CU hu CI hi' HR hlen CL CH E aL aH
   obtain ⟨S,L,H,R,I⟩:=r
   dsimp only at *
   generalize L.length=nl at *
   generalize H.length=nh at *
   generalize I.length=ni at *
   go_enter Tryz.func178,Tryz.ntmps178
   go_wp2_with fail
   refine c2.mono ?_
   rintro e w1 ⟨rfl,g1⟩
   obtain ⟨q0,q1,q2,q3,q4,q5⟩:=RA.out.gb g1.gb
   go_wp2_with fail
   refine (c3 _ g1).mono ?_
   rintro e w2 ⟨rfl,g2⟩
   replace g1:=g1.trans g2
   clear q0 q1 q2 q3 q4 q5
   obtain ⟨q0,q1,q2,q3,q4,q5⟩:=RA.out.gb g1.gb
   go_wp2
   go_ret
   exact ⟨rfl,G0.trans g1⟩
 ·rw [if_neg (fun h=>hu h.1)] at E
  have c2:=CU false (by simpa using hu)
  have e:=E.out
  subst e
  clear CU hu CI HR hlen CL CH E aL aH
  obtain ⟨S,L,H,R,I⟩:=r
  dsimp only at *
  generalize L.length=nl at *
  generalize H.length=nh at *
  generalize I.length=ni at *
  go_enter Tryz.func178,Tryz.ntmps178
  go_wp2_with fail
  refine c2.mono ?_
  rintro e w1 ⟨rfl,g1⟩
  obtain ⟨q0,q1,q2,q3,q4,q5⟩:=RA.out.gb g1.gb
  go_wp2
  go_ret
  exact ⟨rfl,G0.trans g1⟩
theorem rckR_v {w:World} {v:Value} {r:Reg} (h:RdR w v r) (hlen:r.I.length<=4611686018427387904) (d x:Int) (hx:ckR r d=x) :
  Calls Tryz.prog 178 #[v,.int .i64 d] w fun e w'=>e=.returned (.int .i64 x)/\Gr w w':=by
 subst hx;exact rckR_c h hlen d
end Go.Proofs.YtepjbdklljlecaaGreat

namespace Go.Proofs.YtepjbdklljlecaaGreat
open Go.RowKit
theorem plus_ex (n:Nat) (hn:n < 340282366920938463463374607431768211456) (o:Bool) (k v:Nat) (hk:k<=14) (hv:v < 8589934592) (w:World) :
  Calls Tryz.prog 231 #[Nm n o,.int .i64 (k:Int),.int .i64 (v:Int)] w fun e w'=>∃ q:Nat,∃ p:Bool,e=.returned (Nm q p)/\q < 340282366920938463463374607431768211456 /\
   Hid (q=(n + v * 65536 ^ k) % 340282366920938463463374607431768211456/\p=(o || decide (340282366920938463463374607431768211456<=n + v * 65536 ^ k)))/\Gr w w':=by
 refine (plus_any n hn o k v hk hv w).mono ?_
 rintro e w' ⟨rfl,g⟩
 exact ⟨_,_,rfl,Nat.mod_lt _ (by omega),⟨rfl,rfl⟩,g⟩
theorem sum_step (Y d:Nat) (ov:Bool) (q q':Nat) (p p':Bool) (hq:q=Y % 340282366920938463463374607431768211456) (hp:p=(ov || decide (340282366920938463463374607431768211456<=Y)))
  (hq':q'=(q + d) % 340282366920938463463374607431768211456) (hp':p'=(p || decide (340282366920938463463374607431768211456<=q + d))) :
  q'=(Y + d) % 340282366920938463463374607431768211456/\p'=(ov || decide (340282366920938463463374607431768211456<=Y + d)):=by
 subst hq hp hq' hp'
 refine ⟨by omega,?_⟩
 by_cases h:340282366920938463463374607431768211456<=Y
 ·rw [decide_eq_true h,decide_eq_true (show 340282366920938463463374607431768211456<=Y + d by omega)];simp
 ·rw [Nat.mod_eq_of_lt (by omega),decide_eq_false h];simp
theorem NumAt.zero (w:World) (t:TypeId):NumAt (w.alloc (.cells #[.int .i64 0,.int .i64 0,.int .i64 0,.int .i64 0,.int .i64 0,.int .i64 0,.int .i64 0,.int .i64 0,.bool false] t)) w.heap.size 0 false:=NumAt.new w 0 false t
theorem NumAt.drew {w:World} {B n:Nat} {o:Bool} (h:NumAt w B n o):NumAt w.drew B n o:=h.call (Gr.refl _).drew
end Go.Proofs.YtepjbdklljlecaaGreat

namespace Go.Proofs.YtepjbdklljlecaaGreat
open Go.RowKit Go.Shelf Go.Sort Go.Lib
attribute [local go_sem] Oper.semAt_some
end Go.Proofs.YtepjbdklljlecaaGreat

namespace Go.Proofs.YtepjbdklljlecaaGreat
open Go.RowKit Go.Shelf Go.Sort Go.Lib
attribute [local go_sem] Oper.semAt_some
def RadBox (W:World) (p:Nat) (rh rl:Int):Prop:=W.heap[p]? = some (.cells #[.int .u64 rh,.int .u64 rl] 66 (0,0))
theorem RadBox.cells {W:World} {p:Nat} {rh rl:Int} (h:RadBox W p rh rl):W.cell? ⟨p,0,none⟩=some (.int .u64 rh)/\W.cell? ⟨p,1,none⟩=some (.int .u64 rl):=by
 have e:W.heap[p]? = _:=h
 refine ⟨?_,?_⟩ <;> simp [World.cell?,e]
theorem RadBox.gb {W W':World} {p:Nat} {rh rl:Int} (h:RadBox W p rh rl) (g:Gb W W'):RadBox W' p rh rl:=gb_same g h
theorem Boxed.gb {W W':World} {B:Nat} {t:TypeId} {v:Value} (h:Boxed W B t v) (g:Gb W W'):Boxed W' B t v:=gb_same g h
end Go.Proofs.YtepjbdklljlecaaGreat

namespace Go.Proofs.YtepjbdklljlecaaGreat
open Go.RowKit Go.Sort
structure UpSt (w W:World) (v:Value) (l:List Int):Prop where
 row:Own W w.heap.size v l
 gb:Gb w W
theorem UpSt.alloc {w W:World} {v:Value} {l:List Int} (h:UpSt w W v l) (o:Obj):UpSt w (W.alloc o) v l :=
 ⟨World.ownsRow.alloc h.row o,gb_alloc h.gb o⟩
theorem UpSt.next {w W W2:World} {v v':Value} {l:List Int} {x:Int} (h:UpSt w W v l)
  (hr:W2.ownsRow w.heap.size 3 1 v' (l.length + 1) (l.map (Value.int .i64) ++ [.int .i64 x])) (hg2:W.grownBy W2 v.ownBlock):UpSt w W2 v' (l ++ [x]):=by
 refine ⟨?_,below_grown h.gb hg2 (fun k e=>(World.ownsRow.lt h.row k e).1) h.gb.size⟩
 unfold Own
 rw [List.length_append,List.map_append]
 exact hr
end Go.Proofs.YtepjbdklljlecaaGreat
