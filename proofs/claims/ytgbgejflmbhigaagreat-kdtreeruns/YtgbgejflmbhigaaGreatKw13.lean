import Derived.Test.YtgbgejflmbhigaaGreatKw4
import Derived.ProofKit
import Derived.Carry
import Derived.Deep.Slices
import Derived.Lib.SmallJoins
import Derived.Test.YtgbgejflmbhigaaGreatKw3
namespace Go.Proofs.YtgbgejflmbhigaaGreat
open Go.ChangeShapes Go.WideShapes Go.ChangeAt Go.RowKit Go.Joins Go.Deep
theorem Tryz.own:ownKnob Tryz.prog.godebug=none:=by kernel_rfl
theorem Tryz.cells3:Tryz.prog.cellsOf 3=1:=by kernel_rfl
theorem Tryz.cells37:Tryz.prog.cellsOf 37=1:=by kernel_rfl
theorem Tryz.cells23:Tryz.prog.cellsOf 23=1:=by kernel_rfl
theorem Tryz.cells39:Tryz.prog.cellsOf 39=2:=by kernel_rfl
theorem below_trodAll {H:Type} {enc:TypeId × Value->H} {W W':World} (g:Gb W W'):∀ (ts:List TypeId) (vs:List Value) (ds:List (DataW H)) (p:List MemPlace),
  (∀ t ∈ ts,Tryz.prog.readableRec t=true/\t < Tryz.prog.types.size)->(∀ x ∈ p,x.block < W.heap.size)->DataW.TrodAll enc Tryz.prog W 0 (fun _=>true) true ts vs ds p ->
  DataW.TrodAll enc Tryz.prog W' 0 (fun b=>decide (b < W.heap.size)) true ts vs ds p
 | [],vs,ds,p,_,_,h=>by
  obtain ⟨rfl,rfl,rfl⟩:=trodAll_nil h
  rfl
 | t :: ts,vs,ds,p,hr,hl,h=>by
  obtain ⟨v,vs1,d,ds1,a,b,rfl,rfl,rfl,h1,h2⟩:=trodAll_cons h
  exact ⟨a,b,Below.trod (by kernel_rfl) (hr t List.mem_cons_self).1 (hr t List.mem_cons_self).2 h1 g (fun x hx=>hl x (List.mem_append_left _ hx)),
   below_trodAll g ts vs1 ds1 b (fun t' ht'=>hr t' (List.mem_cons_of_mem _ ht')) (fun x hx=>hl x (List.mem_append_right _ hx)) h2,rfl⟩
theorem law_post {H:Type} {enc:TypeId × Value->H} {s:ChangeSpec} {f:Func} {W W':World} {args:Array Value} {ds gs:List (DataW H)} {before:List MemPlace}
  (hW:DataW.Whole enc Tryz.prog f.params.toList s.vars false W args.toList ds gs before) (hv:s.vars=[]) (hr:f.resultTypes=#[4])
  (hf:s.fn H (ds ++ gs)={ results:=[.lit (.bool true)],args:=ds }) (hread:∀ t ∈ f.params.toList,Tryz.prog.readableRec t=true/\t < Tryz.prog.types.size) (g:Gb W W') :
  s.post enc Tryz.prog f false true false false W args (.bool true) W':=by
 have hlt:=hW.lt
 have hW2:=hW
 obtain ⟨p,q,hA,hV,rfl,_,_⟩:=hW2
 rw [hv] at hV
 obtain ⟨rfl,rfl⟩:=trodVars_none hV
 rw [List.append_nil] at hlt
 refine ⟨ds,[],p ++ [],[],p,[],hW,?_,?_,?_,Below.frame g _,fun h=>by cases h⟩
 ·rw [hf,hr]
  exact trodAll_mk1 (shut_bool Tryz.underlying4 _)
 ·rw [hf]
  exact below_trodAll g _ _ _ _ hread hlt hA
 ·rw [hf,hv]
  exact rfl
theorem spot_none {w:World} {a:Addr} {v:Value} (h:w.cell? a=some v):a=⟨a.block,a.off,none⟩:=by
 obtain ⟨b,o,s⟩:=a
 cases s with
 | none=>rfl
 | some s =>
  simp only [World.cell?] at h
  split at h <;> simp at h
theorem trod22 {H:Type} {enc:TypeId × Value->H} {W:World} {base fuel:Nat} {hd:Bool} {cs:List Value} {x:DataW H × List MemPlace}
  (h:DataW.trod enc Tryz.prog W base (fun _=>true) hd fuel 37 cs=some x):∃ v l,cs=[v]/\RdI W v l/\l.length<=maxLen:=by
 rcases open_slice1 Tryz.underlying37 Tryz.cells3 h with ⟨rfl,_⟩ | ⟨a,len,cap,m,n,V,D,Pl,rfl,_,hlc,hcm,hm,_,hx⟩
 ·exact ⟨_,[],rfl,rdi_nil _,Nat.zero_le _⟩
 ·rw [if_pos rfl] at hm
  subst hm
  have hy:∀ i,i < len->∃ y:Int,W.cell? (a.add i)=some (.int .i64 y):=by
   intro i hi
   obtain ⟨hc,ht⟩:=hx i (by omega)
   obtain ⟨y,e,_⟩:=DataW.trod_int Tryz.underlying3 ht
   simp at e
   exact ⟨y,by rw [hc,e]⟩
  obtain ⟨Y,hY⟩:=choose_lt (α:=Int) (p:=fun i y=>W.cell? (a.add i)=some (.int .i64 y)) hy
  refine ⟨_,(List.range len).map Y,rfl,⟨some a,m,by simp,fun i hi=>?_⟩,by simp;omega⟩
  have hi':i < len:=by simpa using hi
  have ha:a=⟨a.block,a.off,none⟩:=spot_none (by simpa [Addr.add] using hY 0 (by omega))
  refine ⟨a.block,a.off,by rw [<- ha],?_⟩
  have e:((List.range len).map Y)[i]! = Y i:=by rw [getElem!_pos _ i hi];simp
  rw [e]
  have:=hY i hi'
  rwa [ha,Addr.add_lit] at this
end Go.Proofs.YtgbgejflmbhigaaGreat

namespace Go.Proofs.YtgbgejflmbhigaaGreat
open Go.RowKit
set_option maxRecDepth 100000
set_option maxHeartbeats 4000000
def ckR (r:Reg) (d:Int):Int :=
 if 1<=d/\d<=64 then (if uses r=true/\rise r.I=true then (if r.S=2 then cornE r.L r.H d else if r.S=3 then chk r.L d else 0) else 32) else 30
theorem checkRegion_c {w:World} {v:Value} {r:Reg} (h:RdR w v r) (hlen:r.I.length<=4611686018427387904) (d:Int) :
  Calls Tryz.prog 134 #[v,.int .i64 d] w fun e w'=>e=.returned (.int .i64 (ckR r d))/\Gr w w':=by
 have HR:Hid (RdR w v r):=h
 obtain ⟨vl,vh,vi,rfl,hL,hH,hI⟩:=h
 have G0:Gr w (w.alloc (rc r vl vh vi)):=(Gr.refl _).alloc _ _
 have RA:Hid (RegAt (w.alloc (rc r vl vh vi)) w.heap.size r vl vh vi):=RegAt.new w r vl vh vi
 have CU:=fun b hb=>uses_v (HR.out.gb G0.gb) b hb
 have CI:=fun W' (g:Gr (w.alloc (rc r vl vh vi)) W') b hb=>idsRise_v (hI.gb (G0.trans g).gb) hlen b hb
 have CC:=fun W' (g:Gr (w.alloc (rc r vl vh vi)) W') e he=>corners_v (hL.gb (G0.trans g).gb) (hH.gb (G0.trans g).gb) d e he
 have CK:=fun W' (g:Gr (w.alloc (rc r vl vh vi)) W') e he=>check_v (hL.gb (G0.trans g).gb) d e he
 have E:Hid (ckR r d=if 1<=d/\d<=64 then (if uses r=true/\rise r.I=true then (if r.S=2 then cornE r.L r.H d else if r.S=3 then chk r.L d else 0) else 32) else 30):=rfl
 obtain ⟨pl,cl,rfl,_⟩:=hL
 obtain ⟨ph,ch,rfl,_⟩:=hH
 obtain ⟨pi,ci,rfl,_⟩:=hI
 generalize ckR r d=res at *
 by_cases hd:(decide (1<=d) && decide (d<=64))=true
 ·have hd':1<=d/\d<=64:=by simpa using hd
  have c1:=fun W=>isDim_v d true hd W
  rw [if_pos hd'] at E
  by_cases hu:uses r=true
  ·have c2:=CU _ hu
   by_cases hi':rise r.I=true
   ·rw [if_pos ⟨hu,hi'⟩] at E
    have c3:=fun W' g=>CI W' g true hi'
    clear CU hd hd' hu CI hi' HR hlen
    by_cases s2:r.S=2
    ·rw [if_pos s2] at E
     have c4:=fun W' g=>CC W' g res E.out.symm
     clear CC CK E
     obtain ⟨S,L,H,R,I⟩:=r
     dsimp only at *
     subst s2
     generalize L.length=nl at *
     generalize H.length=nh at *
     generalize I.length=ni at *
     go_enter Tryz.func134,Tryz.ntmps134
     go_wp2_with fail
     refine (c1 _).mono ?_
     rintro e w' ⟨rfl,e2⟩
     subst e2
     go_wp2_with fail
     refine c2.mono ?_
     rintro e w1 ⟨rfl,g1⟩
     obtain ⟨q0,q1,q2,q3,q4,q5⟩:=RA.out.gb g1.gb
     go_wp2_with fail
     refine (c3 _ g1).mono ?_
     rintro e w' ⟨rfl,e2⟩
     subst e2
     go_wp2_with fail
     refine (c4 _ g1).mono ?_
     rintro e w' ⟨rfl,e2⟩
     subst e2
     go_wp2
     go_ret
     exact ⟨rfl,G0.trans g1⟩
    ·rw [if_neg s2] at E
     have s2':(r.S == 2)=false:=by rw [beq_eq_false_iff_ne];exact s2
     by_cases s3:r.S=3
     ·rw [if_pos s3] at E
      have c4:=fun W' g=>CK W' g res E.out.symm
      clear CC CK E s2 s2'
      obtain ⟨S,L,H,R,I⟩:=r
      dsimp only at *
      subst s3
      generalize L.length=nl at *
      generalize H.length=nh at *
      generalize I.length=ni at *
      go_enter Tryz.func134,Tryz.ntmps134
      go_wp2_with fail
      refine (c1 _).mono ?_
      rintro e w' ⟨rfl,e2⟩
      subst e2
      go_wp2_with fail
      refine c2.mono ?_
      rintro e w1 ⟨rfl,g1⟩
      obtain ⟨q0,q1,q2,q3,q4,q5⟩:=RA.out.gb g1.gb
      go_wp2_with fail
      refine (c3 _ g1).mono ?_
      rintro e w' ⟨rfl,e2⟩
      subst e2
      go_wp2_with fail
      refine (c4 _ g1).mono ?_
      rintro e w' ⟨rfl,e2⟩
      subst e2
      go_wp2
      go_ret
      exact ⟨rfl,G0.trans g1⟩
     ·rw [if_neg s3] at E
      have s3':(r.S == 3)=false:=by rw [beq_eq_false_iff_ne];exact s3
      have e:=E.out
      subst e
      clear CC CK E s2 s3
      obtain ⟨S,L,H,R,I⟩:=r
      dsimp only at *
      generalize L.length=nl at *
      generalize H.length=nh at *
      generalize I.length=ni at *
      go_enter Tryz.func134,Tryz.ntmps134
      go_wp2_with fail
      refine (c1 _).mono ?_
      rintro e w' ⟨rfl,e2⟩
      subst e2
      go_wp2_with fail
      refine c2.mono ?_
      rintro e w1 ⟨rfl,g1⟩
      obtain ⟨q0,q1,q2,q3,q4,q5⟩:=RA.out.gb g1.gb
      go_wp2_with fail
      refine (c3 _ g1).mono ?_
      rintro e w' ⟨rfl,e2⟩
      subst e2
      go_wp2
      go_ret
      exact ⟨rfl,G0.trans g1⟩
   ·rw [if_neg (fun h=>hi' h.2)] at E
    have c3:=fun W' g=>CI W' g false (by simpa using hi')
    have e:=E.out
    subst e
    clear CU hd hd' hu CI hi' HR hlen CC CK E
    obtain ⟨S,L,H,R,I⟩:=r
    dsimp only at *
    generalize L.length=nl at *
    generalize H.length=nh at *
    generalize I.length=ni at *
    go_enter Tryz.func134,Tryz.ntmps134
    go_wp2_with fail
    refine (c1 _).mono ?_
    rintro e w' ⟨rfl,e2⟩
    subst e2
    go_wp2_with fail
    refine c2.mono ?_
    rintro e w1 ⟨rfl,g1⟩
    obtain ⟨q0,q1,q2,q3,q4,q5⟩:=RA.out.gb g1.gb
    go_wp2_with fail
    refine (c3 _ g1).mono ?_
    rintro e w' ⟨rfl,e2⟩
    subst e2
    go_wp2
    go_ret
    exact ⟨rfl,G0.trans g1⟩
  ·rw [if_neg (fun h=>hu h.1)] at E
   have c2:=CU false (by simpa using hu)
   have e:=E.out
   subst e
   clear CU hd hd' hu CI HR hlen CC CK E
   obtain ⟨S,L,H,R,I⟩:=r
   dsimp only at *
   generalize L.length=nl at *
   generalize H.length=nh at *
   generalize I.length=ni at *
   go_enter Tryz.func134,Tryz.ntmps134
   go_wp2_with fail
   refine (c1 _).mono ?_
   rintro e w' ⟨rfl,e2⟩
   subst e2
   go_wp2_with fail
   refine c2.mono ?_
   rintro e w1 ⟨rfl,g1⟩
   obtain ⟨q0,q1,q2,q3,q4,q5⟩:=RA.out.gb g1.gb
   go_wp2
   go_ret
   exact ⟨rfl,G0.trans g1⟩
 ·have hd':¬ (1<=d/\d<=64):=by simpa using hd
  have c1:=fun W=>isDim_v d false (by simpa using hd) W
  rw [if_neg hd'] at E
  have e:=E.out
  subst e
  clear CU CI CC CK HR hd hd' E RA
  go_enter Tryz.func134,Tryz.ntmps134
  go_wp2_with (go_at_call 61;refine (c1 _).mono ?_;rintro e w' ⟨rfl,e2⟩;subst e2)
  go_ret
  exact ⟨rfl,G0⟩
theorem checkRegion_v {w:World} {v:Value} {r:Reg} (h:RdR w v r) (hlen:r.I.length<=4611686018427387904) (d x:Int) (hx:ckR r d=x) :
  Calls Tryz.prog 134 #[v,.int .i64 d] w fun e w'=>e=.returned (.int .i64 x)/\Gr w w':=by
 subst hx;exact checkRegion_c h hlen d
def ckB (r:Reg) (a:List Int):Int:=if ckR r a.length=0 then chk a a.length else ckR r a.length
theorem checkBoth_c {w:World} {v u:Value} {r:Reg} {a:List Int} (h:RdR w v r) (hu:RdI w u a) (hlen:r.I.length<=4611686018427387904) :
  Calls Tryz.prog 99 #[v,u] w fun e w'=>e=.returned (.int .i64 (ckB r a))/\Gr w w':=by
 have HR:Hid (RdR w v r):=h
 obtain ⟨vl,vh,vi,rfl,hL,hH,hI⟩:=h
 have G0:Gr w (w.alloc (rc r vl vh vi)):=(Gr.refl _).alloc _ _
 have C1:=fun x hx=>checkRegion_v (HR.out.gb G0.gb) hlen (a.length:Int) x hx
 have C2:=fun W' (g:Gr (w.alloc (rc r vl vh vi)) W') x hx=>check_v (hu.gb (G0.trans g).gb) (a.length:Int) x hx
 have E:Hid (ckB r a=if ckR r a.length=0 then chk a a.length else ckR r a.length):=rfl
 obtain ⟨pa,ca,rfl,_⟩:=hu
 generalize ckB r a=res at *
 by_cases h1:ckR r a.length=0
 ·rw [if_pos h1] at E
  have c1:=C1 _ h1
  have c2:=fun W' g=>C2 W' g res E.out.symm
  clear C1 C2 E h1 HR hlen hL hH hI
  obtain ⟨S,L,H,R,I⟩:=r
  generalize a.length=n at *
  go_enter Tryz.func99,Tryz.ntmps99
  go_wp2_with fail
  refine c1.mono ?_
  rintro e w1 ⟨rfl,g1⟩
  go_wp2_with fail
  refine (c2 _ g1).mono ?_
  rintro e w' ⟨rfl,e2⟩
  subst e2
  go_wp2
  go_ret
  exact ⟨rfl,G0.trans g1⟩
 ·rw [if_neg h1] at E
  have e:=E.out
  have h1':(res == 0)=false:=by rw [beq_eq_false_iff_ne,e];exact h1
  have c1:=C1 _ e.symm
  clear C1 C2 E h1 HR hlen hL hH hI e
  obtain ⟨S,L,H,R,I⟩:=r
  generalize a.length=n at *
  go_enter Tryz.func99,Tryz.ntmps99
  go_wp2_with fail
  refine c1.mono ?_
  rintro e w1 ⟨rfl,g1⟩
  go_wp2
  go_ret
  exact ⟨rfl,G0.trans g1⟩
theorem checkBoth_v {w:World} {v u:Value} {r:Reg} {a:List Int} (h:RdR w v r) (hu:RdI w u a) (hlen:r.I.length<=4611686018427387904) (x:Int) (hx:ckB r a=x) :
  Calls Tryz.prog 99 #[v,u] w fun e w'=>e=.returned (.int .i64 x)/\Gr w w':=by
 subst hx;exact checkBoth_c h hu hlen
end Go.Proofs.YtgbgejflmbhigaaGreat
