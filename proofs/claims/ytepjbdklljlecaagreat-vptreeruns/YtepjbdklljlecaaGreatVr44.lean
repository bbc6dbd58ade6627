import Derived.Test.YtepjbdklljlecaaGreatVr4
import Derived.ProofKit
import Derived.Carry
import Derived.Deep.Slices
import Derived.Lib.SmallJoins
import Derived.Test.YtepjbdklljlecaaGreatVr41
import Derived.Test.YtepjbdklljlecaaGreatVr7
import Derived.Test.YtepjbdklljlecaaGreatVr14
import Derived.Test.YtepjbdklljlecaaGreatVr33
import Derived.Test.YtepjbdklljlecaaGreatVr15
import Derived.Test.YtepjbdklljlecaaGreatVrFar
import Derived.Test.YtepjbdklljlecaaGreatVr19
import Derived.Test.YtepjbdklljlecaaGreatVr5
namespace Go.Proofs.YtepjbdklljlecaaGreat
open Go.ChangeShapes Go.WideShapes Go.ChangeAt Go.RowKit Go.Joins Go.Deep
theorem Tryz.own:ownKnob Tryz.prog.godebug=none:=by kernel_rfl
theorem Tryz.cells3:Tryz.prog.cellsOf 3=1:=by kernel_rfl
theorem Tryz.cells41:Tryz.prog.cellsOf 41=1:=by kernel_rfl
theorem Tryz.cells23:Tryz.prog.cellsOf 23=1:=by kernel_rfl
theorem Tryz.cells43:Tryz.prog.cellsOf 43=2:=by kernel_rfl
theorem below_trodAll {H:Type} {enc:TypeId × Value->H} {W W':World} (g:Gb W W'):∀ (ts:List TypeId) (vs:List Value) (ds:List (DataW H)) (p:List MemPlace),
  (∀ t ∈ ts,Tryz.prog.readableRec t=true/\t < Tryz.prog.types.size)->(∀ x ∈ p,x.block < W.heap.size)->DataW.TrodAll enc Tryz.prog W 0 (fun _=>true) true ts vs ds p ->
  DataW.TrodAll enc Tryz.prog W' 0 (fun b=>decide (b < W.heap.size)) true ts vs ds p
 | [],vs,ds,p,_,_,h=>by
  obtain ⟨rfl,rfl,rfl⟩:=trodAll_nil h
  rfl
 | t :: ts,vs,ds,p,hr,hl,h=>by
  obtain ⟨v,vs1,d,ds1,a,b,rfl,rfl,rfl,h1,h2⟩:=trodAll_cons h
  exact ⟨a,b,Below.trod (by kernel_rfl) (hr t List.mem_cons_self).1 (hr t List.mem_cons_self).2 h1 g (fun x hx=>hl x (List.mem_append_left _ hx)),
   below_trodAll g ts vs1 ds1 b (fun t' ht'=>hr t' (List.mem_cons_of_mem _ ht')) (fun x hx=>hl x (List.mem_append_right _ hx)) h2,rfl⟩
theorem law_post {H:Type} {enc:TypeId × Value->H} {s:ChangeSpec} {f:Func} {W W':World} {args:Array Value} {ds gs:List (DataW H)} {before:List MemPlace}
  (hW:DataW.Whole enc Tryz.prog f.params.toList s.vars false W args.toList ds gs before) (hv:s.vars=[]) (hr:f.resultTypes=#[4])
  (hf:s.fn H (ds ++ gs)={ results:=[.lit (.bool true)],args:=ds }) (hread:∀ t ∈ f.params.toList,Tryz.prog.readableRec t=true/\t < Tryz.prog.types.size) (g:Gb W W') :
  s.post enc Tryz.prog f false true false false W args (.bool true) W':=by
 have hlt:=hW.lt
 have hW2:=hW
 obtain ⟨p,q,hA,hV,rfl,_,_⟩:=hW2
 rw [hv] at hV
 obtain ⟨rfl,rfl⟩:=trodVars_none hV
 rw [List.append_nil] at hlt
 refine ⟨ds,[],p ++ [],[],p,[],hW,?_,?_,?_,Below.frame g _,fun h=>by cases h⟩
 ·rw [hf,hr]
  exact trodAll_mk1 (shut_bool Tryz.underlying4 _)
 ·rw [hf]
  exact below_trodAll g _ _ _ _ hread hlt hA
 ·rw [hf,hv]
  exact rfl
theorem spot_none {w:World} {a:Addr} {v:Value} (h:w.cell? a=some v):a=⟨a.block,a.off,none⟩:=by
 obtain ⟨b,o,s⟩:=a
 cases s with
 | none=>rfl
 | some s =>
  simp only [World.cell?] at h
  split at h <;> simp at h
theorem word_of_wf {a:Int} (h:(Lit.int .u64 a).wf=true):0<=a/\a < 18446744073709551616:=by
 simp [Lit.wf,IntKind.min,IntKind.max,IntKind.signed,IntKind.bits] at h
 exact ⟨by omega,by omega⟩
theorem trod22 {H:Type} {enc:TypeId × Value->H} {W:World} {base fuel:Nat} {hd:Bool} {cs:List Value} {x:DataW H × List MemPlace}
  (h:DataW.trod enc Tryz.prog W base (fun _=>true) hd fuel 41 cs=some x):∃ v l,cs=[v]/\RdI W v l/\l.length<=maxLen:=by
 rcases open_slice1 Tryz.underlying41 Tryz.cells3 h with ⟨rfl,_⟩ | ⟨a,len,cap,m,n,V,D,Pl,rfl,_,hlc,hcm,hm,_,hx⟩
 ·exact ⟨_,[],rfl,rdi_nil _,Nat.zero_le _⟩
 ·rw [if_pos rfl] at hm
  subst hm
  have hy:∀ i,i < len->∃ y:Int,W.cell? (a.add i)=some (.int .i64 y):=by
   intro i hi
   obtain ⟨hc,ht⟩:=hx i (by omega)
   obtain ⟨y,e,_⟩:=DataW.trod_int Tryz.underlying3 ht
   simp at e
   exact ⟨y,by rw [hc,e]⟩
  obtain ⟨Y,hY⟩:=choose_lt (α:=Int) (p:=fun i y=>W.cell? (a.add i)=some (.int .i64 y)) hy
  refine ⟨_,(List.range len).map Y,rfl,⟨some a,m,by simp,fun i hi=>?_⟩,by simp;omega⟩
  have hi':i < len:=by simpa using hi
  have ha:a=⟨a.block,a.off,none⟩:=spot_none (by simpa [Addr.add] using hY 0 (by omega))
  refine ⟨a.block,a.off,by rw [<- ha],?_⟩
  have e:((List.range len).map Y)[i]! = Y i:=by rw [getElem!_pos _ i hi];simp
  rw [e]
  have:=hY i hi'
  rwa [ha,Addr.add_lit] at this
end Go.Proofs.YtepjbdklljlecaaGreat

namespace Go.Proofs.YtepjbdklljlecaaGreat
open Go.RowKit
set_option maxHeartbeats 2000000
theorem rless_v (a b:Nat) (ha:a < 340282366920938463463374607431768211456) (hb:b < 340282366920938463463374607431768211456) (r:Bool) (h:decide (a < b)=r) (w:World) :
  Calls Tryz.prog 143 #[Wd a,Wd b] w fun e w'=>e=.returned (.bool r)/\Gr w w':=by
 subst h;exact less_any a b ha hb w
theorem rroot_c (a:Nat) (ha:a < 340282366920938463463374607431768211456) (w:World) :
  Calls Tryz.prog 186 #[Wd a] w fun e w'=>e=.returned (.int .u64 (rt a:Int))/\Gr w w':=by
 go_enter Tryz.func186,Tryz.ntmps186
 go_wp2
 go_loopw [3,4] (fun lv hv w'=>∃ x y:Nat,lv=.int .u64 (x:Int)/\hv=.int .u64 (y:Int)/\x<=y/\y < 18446744073709551616/\Hid (x * x<=a/\a < (y + 1) * (y + 1))/\Gr (w.alloc (.cells #[.int .u64 (hi a),.int .u64 (lo a)] 66)) w') (fun lv hv _=>(intOf hv - intOf lv).toNat)
 case atStart=>exact ⟨0,18446744073709551615,by simp,by simp,by omega,by omega,⟨by omega,by omega⟩,Gr.refl _⟩
 case round =>
  obtain ⟨x,y,rfl,rfl,hxy,hy,X,hg⟩:=hrel
  obtain ⟨c0,c1,_,_⟩:=hg.var2
  by_cases hc:x < y
  ·have hci:(x:Int) < (y:Int):=by omega
   obtain ⟨k,hk⟩:∃ k:Nat,k=x + (y - x) / 2:=⟨_,rfl⟩
   obtain ⟨m,hm⟩:∃ m:Nat,m=k + 1:=⟨_,rfl⟩
   have e1:(x:Int) + ((y:Int) - (x:Int)) / 2=(k:Int):=by omega
   have e2:(k:Int) + 1=(m:Int):=by omega
   have K:Hid (k=x + (y - x) / 2/\m=k + 1/\x < m/\m<=y):=⟨hk,hm,by omega,by omega⟩
   have hm1:m < 18446744073709551616:=by omega
   have hk1:k < 18446744073709551616:=by omega
   have hmm:=mul_lt m m hm1 hm1
   clear hk hm
   by_cases hlt:a < m * m
   ·have cl:=fun W=>rless_v a (m * m) ha hmm true (decide_eq_true hlt) W
    have R:Hid (a < (m - 1 + 1) * (m - 1 + 1)):=by
     have:=K.out.2.2.1
     unfold Hid;rw [Nat.sub_add_cancel (by omega)];exact hlt
    clear hlt
    go_wp2
    go_region_held3 (fun w'=>w'.cell? ⟨w.heap.size,0,none⟩=some (.int .u64 (hi a))/\w'.cell? ⟨w.heap.size,1,none⟩=some (.int .u64 (lo a))) (first | (with_reducible exact call_keeps2 (by assumption) (by assumption)) | exact ⟨c0,c1⟩)
     (first
      | (go_at_call 187;refine (rmul_any m m hm1 hm1 _).mono ?_;rintro e w1 ⟨rfl,g1⟩)
      | (go_at_call 143;refine (cl _).mono ?_;rintro e w2 ⟨rfl,g2⟩))
    all_goals
     have hG:=(hg.drew.trans g1).trans g2
     have hm0:1<=m:=by have:=K.out;omega
     clear c0 c1 hg g1 g2
     go_wp2
     refine ⟨⟨x,m - 1,by go_num,?_,?_,by omega,⟨X.out.1,R.out⟩,hG⟩,?_⟩
     ·rw [Int.natCast_sub hm0];rfl
     ·have:=K.out;omega
     ·have:=K.out;simp [intOf];omega
   ·have cl:=fun W=>rless_v a (m * m) ha hmm false (decide_eq_false hlt) W
    have R:Hid (m * m<=a):=by unfold Hid;omega
    clear hlt
    go_wp2
    go_region_held3 (fun w'=>w'.cell? ⟨w.heap.size,0,none⟩=some (.int .u64 (hi a))/\w'.cell? ⟨w.heap.size,1,none⟩=some (.int .u64 (lo a))) (first | (with_reducible exact call_keeps2 (by assumption) (by assumption)) | exact ⟨c0,c1⟩)
     (first
      | (go_at_call 187;refine (rmul_any m m hm1 hm1 _).mono ?_;rintro e w1 ⟨rfl,g1⟩)
      | (go_at_call 143;refine (cl _).mono ?_;rintro e w2 ⟨rfl,g2⟩))
    all_goals
     have hG:=(hg.drew.trans g1).trans g2
     clear c0 c1 hg g1 g2
     go_wp2
     refine ⟨⟨m,y,rfl,by go_num,?_,hy,⟨R.out,X.out.2⟩,hG⟩,?_⟩
     ·have:=K.out;omega
     ·have:=K.out;simp [intOf];omega
  ·have hci:¬ (x:Int) < (y:Int):=by omega
   have E:Hid (x=rt a):=by
    have h1:=X.out
    rw [show y=x by omega] at h1
    exact root_one h1
   go_wp2
   go_ret
   exact ⟨by rw [<- E.out];rfl,((Gr.refl _).alloc _ _).trans hg⟩
end Go.Proofs.YtepjbdklljlecaaGreat

namespace Go.Proofs.YtepjbdklljlecaaGreat
open Go.RowKit
set_option maxRecDepth 100000
set_option maxHeartbeats 8000000
theorem bxN_succ (l h a:List Int) (q:Nat):bxN l h a (q + 1)=bxN l h a q + gap l[q]! h[q]! a[q]! * gap l[q]! h[q]! a[q]! := rfl
theorem bxN_mono (l h a:List Int) {p q:Nat} (hpq:p<=q):bxN l h a p<=bxN l h a q:=by
 induction q with
 | zero =>
   have:p=0:=by omega
   subst this;exact Nat.le_refl _
 | succ q ih =>
  by_cases e:p=q + 1
  ·subst e;exact Nat.le_refl _
  ·rw [bxN_succ];have:=ih (by omega);omega
theorem bx_no {l h a:List Int} {q:Nat} (hq:q < a.length) (hg:gap l[q]! h[q]! a[q]! ≠ 0):decide (bx l h a=0)=false:=by
 rw [decide_eq_false_iff_not]
 intro e
 have h1:=bxN_mono l h a (show q + 1<=a.length by omega)
 rw [bxN_succ] at h1
 have h2:0 < gap l[q]! h[q]! a[q]! * gap l[q]! h[q]! a[q]! := Nat.mul_pos (by omega) (by omega)
 unfold bx at e
 omega
theorem rin_box {w:World} {v u:Value} {r:Reg} {a:List Int} (hv:RdR w v r) (hu:RdI w u a) (h0:ckB r a=0) (s2:r.S=2) :
  Calls Tryz.prog 179 #[v,u] w fun e w'=>e=.returned (.bool (inV r a))/\Gr w w':=by
 obtain ⟨vl,vh,vi,rfl,hL,hH,hI⟩:=hv
 have RA:Hid (RegAt (w.alloc (rc r vl vh vi)) w.heap.size r vl vh vi):=RegAt.new w r vl vh vi
 have G0:Gr w (w.alloc (rc r vl vh vi)):=(Gr.refl _).alloc _ _
 obtain ⟨k1,k2,k3,k4,k5,k6,k7⟩:=box_ok h0 s2
 have E:Hid (inV r a=decide (bx r.L r.H a=0)):=by unfold Hid inV;rw [if_pos s2]
 generalize inV r a=res at *
 obtain ⟨pl,cl,rfl,aL⟩:=hL
 obtain ⟨ph,ch,rfl,aH⟩:=hH
 obtain ⟨pa,ca,rfl,aU⟩:=hu
 have A:Hid (∀ i,i < a.length->∃ b o,pl=some ⟨b,o,none⟩/\w.cell? ⟨b,o + i,none⟩=some (.int .i64 r.L[i]!)):=fun i hi=>aL i (by omega)
 have B:Hid (∀ i,i < a.length->∃ b o,ph=some ⟨b,o,none⟩/\w.cell? ⟨b,o + i,none⟩=some (.int .i64 r.H[i]!)):=fun i hi=>aH i (by omega)
 have C:Hid (∀ i,i < a.length->∃ b o,pa=some ⟨b,o,none⟩/\w.cell? ⟨b,o + i,none⟩=some (.int .i64 a[i]!)):=aU
 clear aL aH aU hI h0 k4 k5 k6 k7
 obtain ⟨S,L,H,R,I⟩:=r
 dsimp only at *
 subst s2
 have N:Hid (∀ q,gap L[q]! H[q]! a[q]! ≠ 0->q < a.length->res=false):=fun q hg hq=>by rw [E.out];exact bx_no hq hg
 have N2:Hid (bxN L H a a.length=0->res=true):=fun h=>by rw [E.out,decide_eq_true_eq];exact h
 generalize hnl:L.length=nl at *
 generalize hnh:H.length=nh at *
 generalize hna:a.length=n at *
 clear hnl hnh hna E
 replace k1:=k1.symm
 replace k2:=k2.symm
 subst k1;subst k2
 go_enter Tryz.func179,Tryz.ntmps179
 go_wp2
 go_loopw [5] (fun iv w'=>∃ q:Nat,iv=.int .i64 (q:Int)/\q<=n/\Gr (w.alloc (rc ⟨2,L,H,R,I⟩ (.slice pl n cl) (.slice ph n ch) vi)) w'/\Hid (bxN L H a q=0)) (fun iv _=>n - (intOf iv).toNat)
 case atStart=>exact ⟨0,rfl,Nat.zero_le _,Gr.refl _,rfl⟩
 case round =>
  obtain ⟨q,rfl,hq,g1,X⟩:=hrel
  obtain ⟨q0,q1,q2,q3,q4,q5⟩:=RA.out.gb g1.gb
  dsimp only at q0 q1 q2 q3 q4 q5
  by_cases hqn:q < n
  ·have hqi:(q:Int) < (n:Int):=by omega
   obtain ⟨b1,o1,ea,hc1⟩:=A.out q hqn
   obtain ⟨b2,o2,eb,hc2⟩:=B.out q hqn
   obtain ⟨b3,o3,ec,hc3⟩:=C.out q hqn
   subst ea;subst eb;subst ec
   replace hc1:=(G0.trans g1).keeps hc1
   replace hc2:=(G0.trans g1).keeps hc2
   replace hc3:=(G0.trans g1).keeps hc3
   have NQ:Hid (gap L[q]! H[q]! a[q]! ≠ 0->res=false):=fun h=>N.out q h hqn
   have NS:Hid (bxN L H a (q + 1)=bxN L H a q + gap L[q]! H[q]! a[q]! * gap L[q]! H[q]! a[q]!):=rfl
   generalize L[q]! = x at *
   generalize H[q]! = y at *
   generalize a[q]! = z at *
   by_cases h1:z < x
   ·have R1:Hid (res=false):=NQ.out (by unfold gap;rw [if_pos h1];omega)
    have h1':decide (z < x)=true:=by simpa using h1
    clear h1 N N2 NQ NS X
    go_wp2
    go_quiet (fail)
    go_wp2
    go_ret
    exact ⟨by rw [R1.out];rfl,(G0.trans g1).drewN _⟩
   ·have h1':decide (z < x)=false:=by simpa using h1
    by_cases h2:y < z
    ·have R1:Hid (res=false):=NQ.out (by unfold gap;rw [if_neg h1,if_pos h2];omega)
     clear h1 N N2 NQ NS X
     go_wp2
     go_quiet (fail)
     go_wp2
     go_ret
     exact ⟨by rw [R1.out];rfl,(G0.trans g1).drewN _⟩
    ·have R1:Hid (bxN L H a (q + 1)=0):=by
      have:gap x y z=0:=by unfold gap;rw [if_neg h1,if_neg h2]
      unfold Hid;rw [NS.out,X.out,this]
     clear h1 N NQ NS X
     go_wp2
     go_quiet (fail)
     go_wp2
     go_roundw
     case rel=>exact ⟨q + 1,by simp,hqn,g1.drewN _,R1⟩
     case measure=>simp [intOf];omega
  ·have hqi:¬ (q:Int) < (n:Int):=by omega
   have R1:Hid (res=true):=N2.out (by
     have h2:q=n:=by omega
     rw [<- h2];exact X.out)
   go_wp2
   go_ret
   exact ⟨by rw [R1.out];rfl,G0.trans g1⟩
theorem rin_c {w:World} {v u:Value} {r:Reg} {a:List Int} (hv:RdR w v r) (hu:RdI w u a) (h0:ckB r a=0) (hR:r.R < 340282366920938463463374607431768211456) :
  Calls Tryz.prog 179 #[v,u] w fun e w'=>e=.returned (.bool (inV r a))/\Gr w w':=by
 by_cases s2:r.S=2
 ·exact rin_box hv hu h0 s2
 have s2':(r.S == 2)=false:=by rw [beq_eq_false_iff_ne];exact s2
 obtain ⟨vl,vh,vi,rfl,hL,hH,hI⟩:=hv
 have RA:Hid (RegAt (w.alloc (rc r vl vh vi)) w.heap.size r vl vh vi):=RegAt.new w r vl vh vi
 have G0:Gr w (w.alloc (rc r vl vh vi)):=(Gr.refl _).alloc _ _
 have E:Hid (inV r a=if r.S=3 then decide (dst r.L a<=r.R) else true):=by unfold Hid inV;rw [if_neg s2]
 generalize inV r a=res at *
 by_cases s3:r.S=3
 ·obtain ⟨k1,k2,k3,k4⟩:=ball_ok h0 s3
  rw [if_pos s3] at E
  have c2:=fun W' (g:Gr (w.alloc (rc r vl vh vi)) W')=>far_c (hL.gb (G0.trans g).gb) (hu.gb (G0.trans g).gb) k1 k2 k3 k4
  have c3:=fun W=>less_any r.R (dst r.L a) hR (dst_lt k3 k4 k1 k2) W
  have hle:Hid ((!decide (r.R < dst r.L a))=res):=by
   unfold Hid;rw [E.out]
   by_cases h:r.R < dst r.L a
   ·rw [decide_eq_true h,decide_eq_false (by omega)];rfl
   ·rw [decide_eq_false h,decide_eq_true (by omega)];rfl
  obtain ⟨pa,ca,rfl,_⟩:=hu
  obtain ⟨pl,cl,rfl,_⟩:=hL
  clear hH hI h0 k1 k2 k3 k4 hR E s2 s2'
  obtain ⟨S,L,H,R,I⟩:=r
  dsimp only at *
  subst s3
  generalize dst L a=bb at *
  generalize decide (R < bb)=cc at *
  generalize a.length=na at *
  generalize L.length=nl at *
  obtain ⟨q0,q1,q2,q3,q4,q5⟩:=RA.out
  dsimp only at q0 q1 q2 q3 q4 q5
  have g1d:Gr (w.alloc (rc ⟨3,L,H,R,I⟩ (.slice pl nl cl) vh vi)) (w.alloc (rc ⟨3,L,H,R,I⟩ (.slice pl nl cl) vh vi)).drew:=(Gr.refl _).drew
  go_enter Tryz.func179,Tryz.ntmps179
  go_wp2_with fail
  go_region_held3 (fun w'=>w'.cell? ⟨w.heap.size,1,none⟩=some (.slice pl nl cl)/\w'.cell? ⟨w.heap.size,3,none⟩=some (.int .u64 (hi R))/\w'.cell? ⟨w.heap.size,4,none⟩=some (.int .u64 (lo R))) (first | (with_reducible exact three_call (by assumption) (by assumption)) | exact ⟨q1,q3,q4⟩)
   (first
    | (go_at_call 180;refine (c2 _ g1d).mono ?_;rintro e w2 ⟨rfl,g2⟩)
    | (go_at_call 143;refine (c3 _).mono ?_;rintro e w3 ⟨rfl,g3⟩))
  all_goals
   go_wp2
   go_ret
   exact ⟨by rw [<- hle.out];rfl,((G0.trans g1d).trans g2).trans g3⟩
 ·have s3':(r.S == 3)=false:=by rw [beq_eq_false_iff_ne];exact s3
  rw [if_neg s3] at E
  have e:=E.out
  subst e
  obtain ⟨pa,ca,rfl,_⟩:=hu
  clear hL hH hI h0 hR E s2 s3
  obtain ⟨S,L,H,R,I⟩:=r
  dsimp only at *
  generalize a.length=na at *
  obtain ⟨q0,q1,q2,q3,q4,q5⟩:=RA.out
  dsimp only at q0 q1 q2 q3 q4 q5
  go_enter Tryz.func179,Tryz.ntmps179
  go_wp2
  go_ret
  exact ⟨rfl,G0⟩
end Go.Proofs.YtepjbdklljlecaaGreat

namespace Go.Proofs.YtepjbdklljlecaaGreat
open Go.RowKit Go.Sort
set_option maxRecDepth 100000
set_option maxHeartbeats 2000000
theorem ckB_of {r:Reg} {a:List Int} {d:Int} (h:ckR r d=0) (ha:chk a d=0):ckB r a=0:=by
 have e:(a.length:Int)=d:=(chk_ok ha).2.2.1.symm
 unfold ckB
 rw [e,if_pos h,ha]
theorem rin_v {w:World} {v u:Value} {r:Reg} {a:List Int} (hv:RdR w v r) (hu:RdI w u a) (h0:ckB r a=0) (hR:r.R < 340282366920938463463374607431768211456) (h:inV r a=true) :
  Calls Tryz.prog 179 #[v,u] w fun e w'=>e=.returned (.bool true)/\Gr w w':=by
 have:=rin_c hv hu h0 hR
 rw [h] at this
 exact this
theorem rregion_c {w:World} {v u:Value} {rs:List Rw} {r:Reg} (hv:RdW w v rs) (hu:RdR w u r) (hlen:rs.length<=4611686018427387904) (hI:r.I.length<=4611686018427387904) (d:Int) (h0:ckR r d=0) (hne:r.I ≠ []) (hR:r.R < 340282366920938463463374607431768211456)
  (hrow:∀ row ∈ rs,chk row.2 d=0) (hin:∀ x ∈ r.I,∃ row ∈ rs,row.1=x) (hin2:∀ row ∈ rs,row.1 ∈ r.I->inV r row.2=true) :
  Calls Tryz.prog 138 #[v,u,.int .i64 d] w fun e w'=>e=.returned (.bool true)/\Gb w w':=by
 have V:Hid (RdW w v rs):=hv
 have U:Hid (RdR w u r):=hu
 have R0:Hid (ckR r d=0/\r.R < 340282366920938463463374607431768211456):=⟨h0,hR⟩
 have RW:Hid (∀ row ∈ rs,chk row.2 d=0):=hrow
 have IN:Hid (∀ x ∈ r.I,∃ row ∈ rs,row.1=x):=hin
 have IN2:Hid (∀ row ∈ rs,row.1 ∈ r.I->inV r row.2=true):=hin2
 have LN:Hid (rs.length<=4611686018427387904):=hlen
 obtain ⟨vl,vh,vi,rfl,hL,hH,hI'⟩:=hu
 obtain ⟨W1,hW1⟩:∃ W1,W1=w.alloc (rc r vl vh vi):=⟨_,rfl⟩
 have G0:Gb w W1:=by rw [hW1];exact gb_alloc (Below.refl _ _) _
 have RA:Hid (RegAt W1 w.heap.size r vl vh vi):=by rw [hW1];exact RegAt.new w r vl vh vi
 have ck:=rckR_v (U.out.gb G0) hI d 0 h0
 obtain ⟨av,cv,rfl,_⟩:=hv
 obtain ⟨pi,ci,rfl,aI⟩:=hI'
 have AI:Hid (∀ i,i < r.I.length->∃ b o,pi=some ⟨b,o,none⟩/\w.cell? ⟨b,o + i,none⟩=some (.int .i64 r.I[i]!)):=aI
 obtain ⟨n,hn⟩:∃ n,n=rs.length:=⟨_,rfl⟩
 obtain ⟨m,hm⟩:∃ m,m=r.I.length:=⟨_,rfl⟩
 have M:Hid (m=r.I.length):=hm
 have N:Hid (n=rs.length):=hn
 have hm0:0 < m:=by rw [hm];exact List.length_pos_iff.2 hne
 have hm1:((m:Int) == 0)=false:=by rw [beq_eq_false_iff_ne];omega
 have hm2:¬ (m:Int)=0:=by omega
 have hml:m<=4611686018427387904:=by omega
 rw [<- hn] at V ⊢
 rw [<- hm] at U RA ck hW1 ⊢
 clear hn hm aI h0 hR hrow hin hin2 hlen hI hne hL hH
 obtain ⟨S,L,H,R,I⟩:=r
 dsimp only at *
 go_enter Tryz.func138,Tryz.ntmps138
 go_wp2_with fail
 rw [<- hW1]
 obtain ⟨q0,q1,q2,q3,q4,q5⟩:=RA.out
 dsimp only at q0 q1 q2 q3 q4 q5
 go_wp2_with fail
 refine ck.mono ?_
 rintro e w2 ⟨rfl,g2⟩
 have G2:Hid (Gb W1 w2):=g2.gb
 clear ck q0 q1 q2 q3 q4 q5 g2
 obtain ⟨q0,q1,q2,q3,q4,q5⟩:=RA.out.gb G2.out
 dsimp only at q0 q1 q2 q3 q4 q5
 go_wp2
 clear q0 q1 q2 q3 q4 q5
 have GW:Hid (Gb w W1):=G0
 clear G0 hW1
 go_loopw [7] (fun iv W=>∃ p:Nat,iv=.int .i64 (p:Int)/\p<=m/\Hid (Gb W1 W)) (fun iv _=>m - (intOf iv).toNat)
 case atStart=>exact ⟨0,rfl,Nat.zero_le _,G2⟩
 case round =>
  obtain ⟨p,rfl,hp,X⟩:=hrel
  obtain ⟨q0,q1,q2,q3,q4,q5⟩:=RA.out.gb X.out
  dsimp only at q0 q1 q2 q3 q4 q5
  by_cases hpm:p < m
  ·have hpi:(p:Int) < (m:Int):=by omega
   have hpl:p < I.length:=by have:=M.out;omega
   obtain ⟨bi,oi,ei,ci'⟩:=AI.out p hpl
   subst ei
   have GX0:Hid (Gb w wr):=gb_trans GW.out X.out
   have hc:=gb_keeps GX0.out ci'
   have cf:=rfind_c (V.out.gb GX0.out) LN.out I[p]!
   have MEM:Hid (I[p]! ∈ I):=by unfold Hid;rw [getElem!_pos I p hpl];exact List.getElem_mem hpl
   clear ci'
   generalize hx:I[p]! = x at hc cf
   have HX:Hid (x ∈ I):=by unfold Hid;rw [<- hx];exact MEM.out
   clear hx MEM hpl
   go_wp2_with fail
   refine cf.mono ?_
   rintro e w3 ⟨⟨z,rfl,hz⟩,e3⟩
   subst e3
   clear cf
   obtain ⟨i,hzi,hil,hix⟩:∃ i:Nat,z=(i:Int)/\i < rs.length/\rs[i]!.1=x:=by
    rcases hz with ⟨_,h⟩ | h
    ·obtain ⟨row,hr,e⟩:=IN.out x HX.out
     obtain ⟨j,hj,e2⟩:=List.mem_iff_getElem.1 hr
     exact absurd (by rw [getElem!_pos rs j hj,e2];exact e) (h j hj)
    ·exact h
   subst hzi
   clear hz
   have hir:rs[i]! ∈ rs:=by rw [getElem!_pos rs i hil];exact List.getElem_mem hil
   obtain ⟨_,_,ev,hA⟩:=V.out
   obtain ⟨b,o,ur,ea,_,k2,k3⟩:=hA i hil
   injection ev with ev1 ev2 ev3
   subst ev1
   subst ea
   clear hA ev2 ev3
   have CB:Hid (ckB ⟨S,L,H,R,I⟩ rs[i]!.2=0):=ckB_of R0.out.1 (RW.out _ hir)
   have IV:Hid (inV ⟨S,L,H,R,I⟩ rs[i]!.2=true):=IN2.out _ hir (by rw [hix];exact HX.out)
   have GX:Hid (Gb w wr.drew):=GX0.out.drew
   have cin:=fun W (g:Gb w W)=>rin_v (U.out.gb g) (k3.gb g) CB.out R0.out.2 IV.out
   obtain ⟨pr',cr,eu,_⟩:=k3
   subst eu
   have FS0:RegAt wr.drew w.heap.size ⟨S,L,H,R,I⟩ vl vh (.slice (some ⟨bi,oi,none⟩) m ci)/\wr.drew.cell? ⟨b,o + i * 2 + 1,none⟩=some (.slice pr' rs[i]!.2.length cr):=⟨RA.out.gb X.out.drew,gb_keeps GX0.out k2⟩
   generalize rs[i]!.2.length=nr at *
   generalize hur:Value.slice pr' nr cr=ur at *
   have hin':i < n:=by have:=N.out;omega
   have hii:(i:Int) < (n:Int):=by omega
   have hi0:decide ((i:Int) < 0)=false:=by rw [decide_eq_false_iff_not];omega
   have hi1:¬ (i:Int) < 0:=by omega
   clear k2 hir hix hil q0 q1 q2 q3 q4 q5 hc
   go_wp2_with fail
   refine wp_region_held_drew (S:=fun W=>RegAt W w.heap.size ⟨S,L,H,R,I⟩ vl vh (.slice (some ⟨bi,oi,none⟩) m ci)/\W.cell? ⟨b,o + i * 2 + 1,none⟩=some ur) (by kernel_rfl) (FS0) (fun hHeld=>?_)
   refine tkn 0 ?_ rfl ?_ ?_;rotate_left;·(intro w hSw;obtain ⟨⟨s0,s1,s2,s3,s4,s5⟩,s6⟩:=hSw;go_simp;try rfl)
   try simp only [Act.put,List.getElem_toArray,List.getElem_cons_zero,List.setIfInBounds_toArray,List.set_cons_zero,List.set_cons_succ]
   refine tkn 1 ?_ rfl ?_ ?_;rotate_left;·(intro w hSw;obtain ⟨⟨s0,s1,s2,s3,s4,s5⟩,s6⟩:=hSw;go_simp;try rfl)
   try simp only [Act.put,List.getElem_toArray,List.getElem_cons_zero,List.getElem_cons_succ,List.setIfInBounds_toArray,List.set_cons_zero,List.set_cons_succ]
   refine tkn 2 ?_ rfl ?_ ?_;rotate_left;·(intro w hSw;obtain ⟨⟨s0,s1,s2,s3,s4,s5⟩,s6⟩:=hSw;go_simp;try rfl)
   try simp only [Act.put,List.getElem_toArray,List.getElem_cons_zero,List.getElem_cons_succ,List.setIfInBounds_toArray,List.set_cons_zero,List.set_cons_succ]
   refine tkn 3 ?_ rfl ?_ ?_;rotate_left;·(intro w hSw;obtain ⟨⟨s0,s1,s2,s3,s4,s5⟩,s6⟩:=hSw;go_simp;try rfl)
   try simp only [Act.put,List.getElem_toArray,List.getElem_cons_zero,List.getElem_cons_succ,List.setIfInBounds_toArray,List.set_cons_zero,List.set_cons_succ]
   refine tkn 4 ?_ rfl ?_ ?_;rotate_left;·(intro w hSw;obtain ⟨⟨s0,s1,s2,s3,s4,s5⟩,s6⟩:=hSw;go_simp;try rfl)
   try simp only [Act.put,List.getElem_toArray,List.getElem_cons_zero,List.getElem_cons_succ,List.setIfInBounds_toArray,List.set_cons_zero,List.set_cons_succ]
   refine tkn 5 ?_ rfl ?_ ?_;rotate_left;·(intro w hSw;obtain ⟨⟨s0,s1,s2,s3,s4,s5⟩,s6⟩:=hSw;go_simp;try rfl)
   try simp only [Act.put,List.getElem_toArray,List.getElem_cons_zero,List.getElem_cons_succ,List.setIfInBounds_toArray,List.set_cons_zero,List.set_cons_succ]
   refine tkn 6 ?_ rfl ?_ ?_;rotate_left;·(intro w hSw;obtain ⟨⟨s0,s1,s2,s3,s4,s5⟩,s6⟩:=hSw;go_simp;try rfl)
   try simp only [Act.put,List.getElem_toArray,List.getElem_cons_zero,List.getElem_cons_succ,List.setIfInBounds_toArray,List.set_cons_zero,List.set_cons_succ]
   refine tkn 7 ?_ rfl ?_ ?_;rotate_left;·(intro w hSw;obtain ⟨⟨s0,s1,s2,s3,s4,s5⟩,s6⟩:=hSw;go_simp;try rfl)
   try simp only [Act.put,List.getElem_toArray,List.getElem_cons_zero,List.getElem_cons_succ,List.setIfInBounds_toArray,List.set_cons_zero,List.set_cons_succ]
   refine tkn 8 ?_ rfl ?_ ?_;rotate_left;·(intro w hSw;obtain ⟨⟨s0,s1,s2,s3,s4,s5⟩,s6⟩:=hSw;go_simp;try rfl)
   try simp only [Act.put,List.getElem_toArray,List.getElem_cons_zero,List.getElem_cons_succ,List.setIfInBounds_toArray,List.set_cons_zero,List.set_cons_succ]
   refine rdn 9 rfl (fun K hK=>?_)
   go_simp
   refine (cin _ GX.out).mono ?_
   rintro e w4 ⟨rfl,g4⟩
   refine hK.out _ _ (⟨hHeld.1.gb g4.gb,g4.keeps hHeld.2⟩) (fun hHeld=>?_)
   clear hK K
   try simp only [Act.put,List.getElem_toArray,List.getElem_cons_zero,List.getElem_cons_succ,List.setIfInBounds_toArray,List.set_cons_zero,List.set_cons_succ]
   refine tkn 10 ?_ rfl ?_ ?_;rotate_left;·(intro w hSw;obtain ⟨⟨s0,s1,s2,s3,s4,s5⟩,s6⟩:=hSw;go_simp;try rfl)
   try simp only [Act.put,List.getElem_toArray,List.getElem_cons_zero,List.getElem_cons_succ,List.setIfInBounds_toArray,List.set_cons_zero,List.set_cons_succ]
   refine tkn 11 ?_ rfl ?_ ?_;rotate_left;·(intro w hSw;obtain ⟨⟨s0,s1,s2,s3,s4,s5⟩,s6⟩:=hSw;go_simp;try rfl)
   try simp only [Act.put,List.getElem_toArray,List.getElem_cons_zero,List.getElem_cons_succ,List.setIfInBounds_toArray,List.set_cons_zero,List.set_cons_succ]
   refine wpAnyH_done (by kernel_rfl) ?_ _
   go_wp2
   go_roundw
   case rel=>exact ⟨p + 1,by first | rfl | go_num | simp,hpm,gb_trans X.out.drew g4.gb⟩
   case measure=>simp [intOf];omega
  ·have hpi:¬ (p:Int) < (m:Int):=by omega
   have G:Hid (Gb w wr):=gb_trans GW.out X.out
   go_wp2
   go_ret
   exact ⟨rfl,G.out⟩
end Go.Proofs.YtepjbdklljlecaaGreat

namespace Go.Proofs.YtepjbdklljlecaaGreat
open Go.RowKit Go.Sort
def HA (W:World) (g n cap:Nat) (f:Nat->Tk.Ht):Prop :=
 ∃ cur:Array Value,W.heap[g]? = some (.cells cur 68 (0,0))/\cur.size=cap * 3/\n<=cap/\cap<=maxLen/\∀ i,i < n->cur[i * 3]? = some (.int .i64 (f i).1)/\cur[i * 3 + 1]? = some (.int .u64 (f i).2.1)/\cur[i * 3 + 2]? = some (.int .u64 (f i).2.2)
theorem HA.lt {W:World} {g n cap:Nat} {f:Nat->Tk.Ht} (h:HA W g n cap f):g < W.heap.size:=by
 obtain ⟨cur,h1,_⟩:=h;exact (Array.getElem?_eq_some_iff.1 h1).1
theorem HA.cell {W:World} {g n cap:Nat} {f:Nat->Tk.Ht} (h:HA W g n cap f) {i:Nat} (hi:i < n):W.cell? ⟨g,i * 3,none⟩=some (.int .i64 (f i).1)/\W.cell? ⟨g,i * 3 + 1,none⟩=some (.int .u64 (f i).2.1)/\W.cell? ⟨g,i * 3 + 2,none⟩=some (.int .u64 (f i).2.2):=by
 obtain ⟨cur,h1,_,_,_,h4⟩:=h
 obtain ⟨a,b,c⟩:=h4 i hi
 simp [World.cell?,h1,a,b,c]
theorem HA.frozen {W:World} {g n cap:Nat} {f:Nat->Tk.Ht} (h:HA W g n cap f) (o:Nat):W.frozen? ⟨g,o,none⟩=false:=by
 obtain ⟨cur,h1,_⟩:=h
 simp [World.frozen?,h1]
theorem HA.block {W W':World} {g n cap:Nat} {f:Nat->Tk.Ht} (h:HA W g n cap f) (e:W'.heap[g]? = W.heap[g]?):HA W' g n cap f:=by
 obtain ⟨cur,h1,h2⟩:=h
 exact ⟨cur,e.trans h1,h2⟩
theorem HA.congr {W:World} {g n cap:Nat} {f f':Nat->Tk.Ht} (h:HA W g n cap f) (e:∀ i,i < n->f i=f' i):HA W g n cap f':=by
 obtain ⟨cur,h1,h2,h3,h4,h5⟩:=h
 exact ⟨cur,h1,h2,h3,h4,fun i hi=>by rw [<- e i hi];exact h5 i hi⟩
theorem HA.set {W:World} {g n cap:Nat} {f:Nat->Tk.Ht} (h:HA W g n cap f) {i:Nat} (hi:i < n) (x:Tk.Ht) :
  HA (((W.setCell ⟨g,i * 3,none⟩ (.int .i64 x.1)).setCell ⟨g,i * 3 + 1,none⟩ (.int .u64 x.2.1)).setCell ⟨g,i * 3 + 2,none⟩ (.int .u64 x.2.2)) g n cap (fun t=>if t=i then x else f t):=by
 obtain ⟨cur,h1,h2,h3,h4,h5⟩:=h
 refine ⟨((cur.setIfInBounds (i * 3) (.int .i64 x.1)).setIfInBounds (i * 3 + 1) (.int .u64 x.2.1)).setIfInBounds (i * 3 + 2) (.int .u64 x.2.2),?_,by simpa using h2,h3,h4,fun t ht=>?_⟩
 ·simp [World.setCell,Array.getElem?_modify,h1]
 ·by_cases e:t=i
  ·subst e
   simp only [if_true]
   refine ⟨?_,?_,?_⟩
   ·rw [Array.getElem?_setIfInBounds_ne (by omega),Array.getElem?_setIfInBounds_ne (by omega),Array.getElem?_setIfInBounds_self_of_lt (by omega)]
   ·rw [Array.getElem?_setIfInBounds_ne (by omega),Array.getElem?_setIfInBounds_self_of_lt (by simp;omega)]
   ·rw [Array.getElem?_setIfInBounds_self_of_lt (by simp;omega)]
  ·simp only [if_neg e]
   obtain ⟨a,b,c⟩:=h5 t ht
   refine ⟨?_,?_,?_⟩
   ·rw [Array.getElem?_setIfInBounds_ne (by omega),Array.getElem?_setIfInBounds_ne (by omega),Array.getElem?_setIfInBounds_ne (by omega)];exact a
   ·rw [Array.getElem?_setIfInBounds_ne (by omega),Array.getElem?_setIfInBounds_ne (by omega),Array.getElem?_setIfInBounds_ne (by omega)];exact b
   ·rw [Array.getElem?_setIfInBounds_ne (by omega),Array.getElem?_setIfInBounds_ne (by omega),Array.getElem?_setIfInBounds_ne (by omega)];exact c
theorem ha_of_own {W:World} {g n cap:Nat} {d:Array Tk.Ht} (h:Tk.Own W (.slice (some ⟨g,0,none⟩) n cap) d):n=d.size/\HA W g d.size cap (fun i=>d.toList[i]!):=by
 rcases h.2 with ⟨e,_⟩ | ⟨g',cap',cur,e,_,h2,h3,h4,h5,h6⟩
 ·cases e
 ·cases e
  refine ⟨rfl,cur,h2,h5,h3,h4,fun i hi=>?_⟩
  have hl:i < d.toList.length:=by simpa using hi
  have key:∀ c,c < 3->cur[i * 3 + c]? = (Tk.enc d.toList[i]!)[c]? := fun c hc=>by
   have h7:=Tk.fl_get d.toList i c hl hc
   rw [<- h6,List.getElem?_take_of_lt (by omega),Array.getElem?_toList] at h7
   rw [h7,getElem!_pos d.toList i hl]
  have k0:=key 0 (by omega)
  have k1:=key 1 (by omega)
  have k2:=key 2 (by omega)
  rw [Nat.add_zero] at k0
  exact ⟨k0.trans rfl,k1.trans rfl,k2.trans rfl⟩
theorem own_of_ha {W:World} {g cap:Nat} {l:List Tk.Ht} {f:Nat->Tk.Ht} (h:HA W g l.length cap f) (e:∀ i,i < l.length->f i=l[i]!):Tk.Own W (.slice (some ⟨g,0,none⟩) l.length cap) l.toArray:=by
 obtain ⟨cur,h1,h2,h3,h4,h5⟩:=h
 refine ⟨by rw [Tk.fl_len];simp,.inr ⟨g,cap,cur,by simp,Nat.zero_le _,h1,by simpa using h3,h4,h2,?_⟩⟩
 simp only [List.size_toArray]
 apply List.ext_getElem?
 intro j
 by_cases hj:j < l.length * 3
 ·obtain ⟨i,c,hc,rfl⟩:∃ i c,c < 3/\j=i * 3 + c:=⟨j / 3,j % 3,by omega,by omega⟩
  have hi:i < l.length:=by omega
  rw [List.getElem?_take_of_lt hj,Array.getElem?_toList,Tk.fl_get l i c hi hc]
  obtain ⟨a,b,d⟩:=h5 i hi
  rw [e i hi,getElem!_pos l i hi] at a b d
  rcases c with _ | _ | _ | c
  ·rw [Nat.add_zero];exact a
  ·exact b
  ·exact d
  ·omega
 ·rw [List.getElem?_eq_none (by rw [List.length_take];omega),List.getElem?_eq_none (by rw [Tk.fl_len];simpa using hj)]
end Go.Proofs.YtepjbdklljlecaaGreat
