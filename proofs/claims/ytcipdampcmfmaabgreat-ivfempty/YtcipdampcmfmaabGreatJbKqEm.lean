import Derived.Test.YtcipdampcmfmaabGreatJa46
import Derived.Test.YtcipdampcmfmaabGreatJa4
namespace Go.Proofs.YtcipdampcmfmaabGreat
open Go.RowKit Go.Sort
set_option maxRecDepth 100000
set_option maxHeartbeats 8000000
theorem hasId_del (rs:List Rw) (a x:Int):hasId (delRw rs a) x=(hasId rs x && !decide (x=a)):=by
 rw [Bool.eq_iff_iff]
 simp only [hasId,delRw,List.any_filter,List.any_eq_true,Bool.and_eq_true,Bool.not_eq_true',decide_eq_false_iff_not,decide_eq_true_eq]
 constructor
 ·rintro ⟨y,hy,h1,rfl⟩
  exact ⟨⟨y,hy,rfl⟩,h1⟩
 ·rintro ⟨⟨y,hy,rfl⟩,h1⟩
  exact ⟨y,hy,h1,rfl⟩
theorem hasId_dels (x:Int):∀ (ids:List Int) (rs:List Rw),hasId (ids.foldl delRw rs) x=(hasId rs x && !ids.contains x)
 | [],rs=>by simp
 | a :: r,rs=>by
  rw [List.foldl_cons,hasId_dels x r,hasId_del,List.contains_cons,show (x == a)=decide (x=a) from rfl]
  cases hasId rs x <;> cases decide (x=a) <;> rfl
theorem hasId_mem {rs:List Rw} {x:Int}:hasId rs x=true ↔ x ∈ idsOf rs:=by
 simp [hasId,idsOf,List.any_eq_true,List.mem_map]
theorem dels_all {l rs:List Rw} (p:rs.Perm l):(idsOf l).foldl delRw rs=[]:=by
 have h:∀ x,hasId ((idsOf l).foldl delRw rs) x=false:=by
  intro x
  rw [hasId_dels]
  cases hx:hasId rs x with
  | false=>rfl
  | true =>
   have h1:x ∈ idsOf l:=(p.map _).mem_iff.1 (hasId_mem.1 hx)
   simp [h1]
 cases hd:(idsOf l).foldl delRw rs with
 | nil=>rfl
 | cons y r =>
  have:=h y.1
  rw [hd] at this
  simp [hasId] at this
theorem dels_has {l rs:List Rw} (p:rs.Perm l) (hn:(idsOf l).Pairwise (· ≠ ·)) {i:Nat} (hi:i < l.length):hasId (((idsOf l).take i).foldl delRw rs) l[i]!.1=true:=by
 have hl:(idsOf l).length=l.length:=by simp [idsOf]
 have e:l[i]!.1=(idsOf l)[i]'(by omega):=by rw [getElem!_pos l i hi];simp [idsOf]
 rw [hasId_dels,e]
 have h1:hasId rs ((idsOf l)[i]'(by omega))=true:=hasId_mem.2 ((p.map _).mem_iff.2 (List.getElem_mem _))
 rw [h1,Bool.true_and]
 simp only [Bool.not_eq_true',List.contains_eq_mem,decide_eq_false_iff_not]
 intro hm
 obtain ⟨j,hj,ej⟩:=List.getElem_of_mem hm
 rw [List.length_take] at hj
 rw [List.getElem_take] at ej
 exact List.pairwise_iff_getElem.1 hn j i (by omega) (by omega) (by omega) ej
theorem dels_step {l rs:List Rw} {i:Nat} (hi:i < l.length):((idsOf l).take (i + 1)).foldl delRw rs=delRw (((idsOf l).take i).foldl delRw rs) l[i]!.1:=by
 have hl:(idsOf l).length=l.length:=by simp [idsOf]
 have e:l[i]!.1=(idsOf l)[i]'(by omega):=by rw [getElem!_pos l i hi];simp [idsOf]
 rw [List.take_succ_eq_append_getElem (by omega),List.foldl_append,e]
 rfl
theorem put_none {r:Rw}:putRw [] r=[r]:=by simp [putRw,delRw,insRw]
theorem empty_no {w:World} {v u:Value} {l:List Rw} {q xl:List Int} {ax:Option Addr} {cx:Nat} (hv:RdW w v l) (hwf:Wf l) (hu:RdI w u q) (leaf B S k b xi:Int) (hz:bldE l (q.length:Int) leaf B ≠ 0) :
  Calls Tryz.prog 4 #[v,.agg #[.int .i64 leaf,.int .i64 B,.int .u64 S],u,.int .i64 k,.int .i64 b,.agg #[.int .i64 xi,.slice ax xl.length cx]] w fun e w'=>e=.returned (.bool true)/\Gb w w':=by
 have g1:Gb w ((w.alloc (.cells #[.int .i64 leaf,.int .i64 B,.int .u64 S] 25)).alloc (.cells #[.int .i64 xi,.slice ax xl.length cx] 45)):=gb_alloc (gb_alloc (Below.refl _ _) _) _
 obtain ⟨w1,hw1⟩:∃ w1,w1=(w.alloc (.cells #[.int .i64 leaf,.int .i64 B,.int .u64 S] 25)).alloc (.cells #[.int .i64 xi,.slice ax xl.length cx] 45):=⟨_,rfl⟩
 rw [<- hw1] at g1
 have c0:w1.cell? ⟨w.heap.size,0,none⟩=some (.int .i64 leaf):=by rw [hw1];simp [go_sem]
 have c1:w1.cell? ⟨w.heap.size,1,none⟩=some (.int .i64 B):=by rw [hw1];simp [go_sem]
 have c2:w1.cell? ⟨w.heap.size,2,none⟩=some (.int .u64 S):=by rw [hw1];simp [go_sem]
 have c3:w1.cell? ⟨w.heap.size + 1,0,none⟩=some (.int .i64 xi):=by rw [hw1];simp [go_sem]
 have c4:w1.cell? ⟨w.heap.size + 1,1,none⟩=some (.slice ax xl.length cx):=by rw [hw1];simp [go_sem]
 have cB:=kbig_c (hv.gb g1) (by have:=hwf.1;omega) (rdo_nil w1)
 have cU:=fun W (g:Gb w1 W)=>kbuild_no ((hv.gb g1).gb g) hwf (q.length:Int) leaf B S hz
 have CU:Hid _:=cU
 clear cU
 obtain ⟨av,cv,ev,_⟩:=hv
 obtain ⟨aq,cq,eq,_⟩:=hu.rd0
 subst ev eq
 generalize bldE l (q.length:Int) leaf B=z at *
 generalize l.length=n at *
 generalize q.length=m at *
 generalize xl.length=x at *
 have hzb:(z == 0)=false:=by rw [beq_eq_false_iff_ne];exact hz
 clear hwf hu
 go_enter Tryz.func4,Tryz.ntmps4
 go_wp2_with fail
 rw [<- hw1]
 clear hw1
 refine cB.mono ?_
 rintro e w2 ⟨bb,rfl,g2⟩
 have d0:=gb_keeps g2 c0
 have d1:=gb_keeps g2 c1
 have d2:=gb_keeps g2 c2
 have d3:=gb_keeps g2 c3
 have d4:=gb_keeps g2 c4
 clear cB c0 c1 c2 c3 c4
 cases bb with
 | true =>
  go_wp2
  refine bodyPost_ret (v:=.bool true) (by simp [results,Tryz.results4,go_sem]) rfl ⟨rfl,?_⟩
  exact gb_trans g1 g2
 | false =>
  by_cases h1:32768 < (m:Int)
  ·skip
   go_wp2
   refine bodyPost_ret (v:=.bool true) (by simp [results,Tryz.results4,go_sem]) rfl ⟨rfl,?_⟩
   exact gb_trans g1 g2
  by_cases h2:32768 < (x:Int)
  ·skip
   go_wp2
   refine bodyPost_ret (v:=.bool true) (by simp [results,Tryz.results4,go_sem]) rfl ⟨rfl,?_⟩
   exact gb_trans g1 g2
  have cU:=CU.out w2 g2
  clear CU
  go_wp2_with fail
  refine cU.mono ?_
  rintro e w3 ⟨rfl,g3⟩
  have G3:=gb_trans g1 (gb_trans g2 g3)
  clear cU d0 d1 d2 d3 d4
  go_wp2_with fail
  refine (kawake_c _).mono ?_
  rintro e wz ⟨rfl,gz⟩
  have GZ:Hid (Gb w wz):=gb_trans G3 gz
  clear gz
  go_wp2
  refine bodyPost_ret (v:=.bool true) (by simp [results,Tryz.results4,go_sem]) rfl ⟨rfl,?_⟩
  exact GZ.out
theorem firsts_one {k:Nat} (hk:1<=k) (h:Tk.Ht):Tk.firsts k [h]=[h]:=by
 unfold Tk.firsts
 rw [Tk.srt_of_srtd (List.pairwise_singleton _ _)]
 exact List.take_of_length_le hk
theorem empty_ok {w:World} {v u:Value} {l:List Rw} {q xl:List Int} {ax:Option Addr} {cx lf B:Nat} (hv:RdW w v l) (hwf:Wf l) (hu:RdI w u q) (hx:RdI w (.slice ax xl.length cx) xl) (S k b xi:Int) (hz:flatE l (q.length:Int)=0) (hlf:1<=lf/\lf<=64) (hB:B<=20) (hus:Rn.U S) :
  Calls Tryz.prog 4 #[v,.agg #[.int .i64 (lf:Int),.int .i64 (B:Int),.int .u64 S],u,.int .i64 k,.int .i64 b,.agg #[.int .i64 xi,.slice ax xl.length cx]] w fun e w'=>e=.returned (.bool true)/\Gb w w':=by
 have g1:Gb w ((w.alloc (.cells #[.int .i64 (lf:Int),.int .i64 (B:Int),.int .u64 S] 25)).alloc (.cells #[.int .i64 xi,.slice ax xl.length cx] 45)):=gb_alloc (gb_alloc (Below.refl _ _) _) _
 obtain ⟨w1,hw1⟩:∃ w1,w1=(w.alloc (.cells #[.int .i64 (lf:Int),.int .i64 (B:Int),.int .u64 S] 25)).alloc (.cells #[.int .i64 xi,.slice ax xl.length cx] 45):=⟨_,rfl⟩
 rw [<- hw1] at g1
 have c0:w1.cell? ⟨w.heap.size,0,none⟩=some (.int .i64 (lf:Int)):=by rw [hw1];simp [go_sem]
 have c1:w1.cell? ⟨w.heap.size,1,none⟩=some (.int .i64 (B:Int)):=by rw [hw1];simp [go_sem]
 have c2:w1.cell? ⟨w.heap.size,2,none⟩=some (.int .u64 S):=by rw [hw1];simp [go_sem]
 have c3:w1.cell? ⟨w.heap.size + 1,0,none⟩=some (.int .i64 xi):=by rw [hw1];simp [go_sem]
 have c4:w1.cell? ⟨w.heap.size + 1,1,none⟩=some (.slice ax xl.length cx):=by rw [hw1];simp [go_sem]
 have cB:=kbig_c (hv.gb g1) (by have:=hwf.1;omega) (rdo_nil w1)
 have cU:=fun W (g:Gb w1 W)=>kbuild_ok (upT W) ((hv.gb g1).gb g) hwf (m:=q.length) hz hlf hB S hus
 have CU:Hid _:=cU
 have HV:Hid (RdW w v l):=hv
 have HU:Hid (RdI w u q):=hu
 have HX:Hid (RdI w (.slice ax xl.length cx) xl):=hx
 have hok:=(flatE_zero.1 hz).2
 have ND:Hid ((idsOf l).Pairwise (· ≠ ·)):=hok.ids
 have FEW:Hid (l.length<=512):=hok.few
 obtain ⟨av,cv,ev,_⟩:=hv
 obtain ⟨aq,cq,eq,_⟩:=hu.rd0
 subst ev eq
 have KW:Hid (∀ i,i < l.length->KWf l[i]!.1):=fun i hi=>by
  have h1:=(okId_iff _).1 (hok.row l[i]! (by rw [getElem!_pos l i hi];exact List.getElem_mem hi)).1
  exact ⟨by omega,by omega⟩
 clear cU hwf hu hx hz hok hlf hB hus
 obtain ⟨n,hN⟩:∃ n,n=l.length:=⟨_,rfl⟩
 have NN:Hid (n=l.length):=hN
 have hnb:n<=512:=by rw [hN];exact FEW.out
 rw [<- hN]
 clear hN FEW
 go_enter Tryz.func4,Tryz.ntmps4
 go_wp2_with fail
 rw [<- hw1]
 clear hw1
 rw [<- NN.out] at cB
 refine cB.mono ?_
 rintro e w2 ⟨bb,rfl,g2⟩
 have d0:=gb_keeps g2 c0
 have d1:=gb_keeps g2 c1
 have d2:=gb_keeps g2 c2
 have d3:=gb_keeps g2 c3
 have d4:=gb_keeps g2 c4
 have G2:=gb_trans g1 g2
 clear cB c0 c1 c2 c3 c4
 cases bb with
 | true =>
  go_wp2
  refine bodyPost_ret (v:=.bool true) (by simp [results,Tryz.results4,go_sem]) rfl ⟨rfl,?_⟩
  exact G2
 | false =>
  by_cases h1:32768 < (q.length:Int)
  ·skip
   go_wp2
   refine bodyPost_ret (v:=.bool true) (by simp [results,Tryz.results4,go_sem]) rfl ⟨rfl,?_⟩
   exact G2
  by_cases h2:32768 < (xl.length:Int)
  ·skip
   go_wp2
   refine bodyPost_ret (v:=.bool true) (by simp [results,Tryz.results4,go_sem]) rfl ⟨rfl,?_⟩
   exact G2
  have cU:=CU.out w2 g2
  clear CU g1 g2
  rw [<- NN.out] at cU
  go_wp2_with fail
  refine cU.mono ?_
  intro e w3 hO
  obtain ⟨tb,rs,rfl,T3,pm,_⟩:=trw_of hO
  have TT:Hid (TrW IqT w2 tb q.length (cenOf rs q.length lf B S) rs w3):=T3
  have D3:Hid (w2.cell? ⟨w.heap.size + 1,0,none⟩=some (.int .i64 xi)/\w2.cell? ⟨w.heap.size + 1,1,none⟩=some (.slice ax xl.length cx)):=⟨d3,d4⟩
  have PM:Hid (rs.Perm l):=pm
  clear cU hO T3 d0 d1 d2 d3 d4 pm
  go_wp2
  go_loopw [15] (fun iv W=>∃ i:Nat,iv=.int .i64 (i:Int)/\i<=n/\Hid (TrW IqT w2 tb q.length (cenOf rs q.length lf B S) (((idsOf l).take i).foldl delRw rs) W)) (fun iv _=>n - (intOf iv).toNat)
  case atStart=>exact ⟨0,rfl,Nat.zero_le _,TT⟩
  case round =>
   clear TT
   obtain ⟨i,rfl,hi,TI⟩:=hrel
   by_cases hin:i < n
   ·have hii:(i:Int) < (n:Int):=by omega
    have hil:i < l.length:=by rw [<- NN.out];exact hin
    obtain ⟨a',c',e',hc⟩:=(HV.out.gb G2).gb TI.out.old
    obtain ⟨b0,o0,u0,ea,hcell,_,_⟩:=hc i hil
    injection e' with e1 e2 e3
    subst e1 e3 ea
    have cD:=trw_del TI.out l[i]!.1 (KW.out i hil)
    rw [dels_has PM.out ND.out hil] at cD
    rw [<- dels_step hil] at cD
    generalize l[i]!.1=id at *
    clear hil hc e2
    go_wp2_with fail
    refine cD.mono ?_
    rintro e w4 ⟨rfl,T4⟩
    have TN:Hid (TrW IqT w2 tb q.length (cenOf rs q.length lf B S) (((idsOf l).take (i + 1)).foldl delRw rs) w4):=T4
    clear cD T4 hcell TI
    go_wp2
    go_roundw
    case rel=>exact ⟨i + 1,by simp,hin,TN⟩
    case measure=>simp [intOf];omega
   ·have hii:¬ (i:Int) < (n:Int):=by omega
    have T0:TrW IqT w2 tb q.length (cenOf rs q.length lf B S) [] wr:=by
     have h:=TI.out
     have e:i=n:=by omega
     rw [e,NN.out,List.take_of_length_le (by simp [idsOf]),dels_all PM.out] at h
     exact h
    have cS:=trw_search T0 ((HU.out.gb G2).gb T0.old) k b
    clear TI
    go_wp2_with fail
    refine cS.mono ?_
    rintro e w4 ⟨a1,n1,c1,a2,n2,c2,a3,n3,c3,rfl,T4,hn,_⟩
    obtain ⟨rfl,rfl,rfl⟩:=hn (.inr rfl)
    have T5:=T4.gb (gb_alloc (Below.refl w4.heap.size w4) (.cells #[.slice a1 0 c1,.slice a2 0 c2,.slice a3 0 c3] 51))
    clear cS hn T4 T0
    have cL:=trw_len T5
    rw [show (([]:List Rw).length:Int)=0 from rfl] at cL
    have cR:=trw_rows T5
    generalize srchE q.length q k b=f at *
    go_wp2_with fail
    refine cL.mono ?_
    rintro e w5 ⟨rfl,rfl⟩
    clear cL
    go_wp2_with fail
    refine cR.mono ?_
    rintro e w6 ⟨v6,rfl,o6,g6⟩
    obtain ⟨r6,c6,rfl⟩:=o6.form
    have T6:=T5.gb g6
    have hb0:w6.cell? ⟨w4.heap.size,0,none⟩=some (.slice a1 0 c1):=gb_keeps g6 (by simp [go_sem])
    have hb1:w6.cell? ⟨w4.heap.size,1,none⟩=some (.slice a2 0 c2):=gb_keeps g6 (by simp [go_sem])
    have hb2:w6.cell? ⟨w4.heap.size,2,none⟩=some (.slice a3 0 c3):=gb_keeps g6 (by simp [go_sem])
    clear cR o6 g6 T5
    rw [show ([]:List Rw).length=0 from rfl]
    have d3:=gb_keeps T6.old D3.out.1
    have d4:=gb_keeps T6.old D3.out.2
    have cP:=trw_put T6 xi (HX.out.gb G2)
    rw [show hasId [] xi=false from rfl,Bool.not_false,Bool.and_true] at cP
    obtain ⟨z,hzz⟩:∃ z,z=putE q.length [] (xi,xl):=⟨_,rfl⟩
    rw [<- hzz] at cP
    clear hzz T6
    go_wp2_with fail
    refine cP.mono ?_
    rintro e w7 ⟨rfl,T7⟩
    have P7:Hid (z=0->TrW IqT w2 tb q.length (cenOf rs q.length lf B S) [(xi,xl)] w7):=by
     intro h0
     rw [if_pos h0,put_none] at T7
     exact T7
    have cS:=trw_search T7 ((HU.out.gb G2).gb T7.old) k 1000000
    have E7:Hid (z=0->(if z=0 then putRw [] (xi,xl) else [])=[(xi,xl)]):=fun h0=>by rw [if_pos h0,put_none]
    generalize (if z=0 then putRw [] (xi,xl) else [])=rs7 at *
    clear cP d3 d4 hb0 hb1 hb2 T7
    go_wp2_with fail
    refine cS.mono ?_
    rintro e w8 ⟨a1',n1',c1',a2',n2',c2',a3',n3',c3',rfl,T8,hn8,hw,hn9⟩
    clear hn8 hn9
    have hF:srchE q.length q k 1000000=0->1<=k.toNat:=fun h0=>by
     have:=(srchE_zero.1 h0).2.1.1
     omega
    generalize srchE q.length q k 1000000=f2 at *
    have T9:=T8.gb (gb_alloc (Below.refl w8.heap.size w8) (.cells #[.slice a1' n1' c1',.slice a2' n2' c2',.slice a3' n3' c3'] 51))
    have G9:Gb w _:=gb_trans G2 T9.old
    clear cS
    by_cases hf:f=0
    ·subst hf
     by_cases hz0:z=0
     ·subst hz0
      by_cases hf2:f2=0
      ·subst hf2
       have e7:=E7.out rfl
       subst e7
       have hh:=hw rfl (by simp)
       rw [show hitsOf q [(xi,xl)]=[hitOf q (xi,xl)] from rfl,firsts_one (hF rfl)] at hh
       obtain ⟨gh,ch,eh,_,lh⟩:=kown_sl hh (by simp)
       rw [List.length_singleton] at eh
       cases eh
       have l0:=(lh 0 (by simp)).1
       have gA:Gb w8 (w8.alloc (.cells #[.slice (some ⟨gh,0,none⟩) 1 c1',.slice a2' n2' c2',.slice a3' n3' c3'] 51)):=gb_alloc (Below.refl _ _) _
       have hc1:=gb_keeps gA (show w8.cell? ⟨gh,0,none⟩=some (.int .i64 xi) from l0)
       have hc2:=gb_keeps T9.old D3.out.1
       have hc0:(w8.alloc (.cells #[.slice (some ⟨gh,0,none⟩) 1 c1',.slice a2' n2' c2',.slice a3' n3' c3'] 51)).cell? ⟨w8.heap.size,0,none⟩=some (.slice (some ⟨gh,0,none⟩) 1 c1'):=by simp [go_sem]
       have T9':TrW IqT w2 tb q.length (cenOf rs q.length lf B S) [(xi,xl)] (w8.alloc (.cells #[.slice (some ⟨gh,0,none⟩) 1 c1',.slice a2' n2' c2',.slice a3' n3' c3'] 51)):=T9
       obtain ⟨w9,hw9⟩:∃ w9,w9=w8.alloc (.cells #[.slice (some ⟨gh,0,none⟩) 1 c1',.slice a2' n2' c2',.slice a3' n3' c3'] 51):=⟨_,rfl⟩
       have G10:Hid (Gb w w9):=by rw [hw9];exact gb_trans G2 T9'.old
       rw [<- hw9] at hc0 hc1 hc2 T9'
       have cL:∀ W,Gb w9 W->Calls Tryz.prog 17 #[.pointer (some ⟨tb,0,none⟩)] W fun e w'=>e=.returned (.int .i64 1)/\w'=W:=fun W g=>trw_len (T9'.gb g)
       have gd8:Gb w9 w9.drew:=⟨rfl,rfl,rfl,Nat.le_refl _,fun _ _=>rfl⟩
       clear T9 G9 hh lh l0 gA T8 hw hF
       go_wp2_with fail
       rw [<- hw9]
       clear hw9 T9'
       refine wp_region_held_drew (S:=fun W=>Gb w9 W) (by kernel_rfl) (gd8) (fun hHeld=>?_)
       refine rdn 0 rfl (fun K hK=>?_)
       go_simp
       refine (kawake_c _).mono ?_
       rintro e wa ⟨rfl,ga⟩
       refine hK.out _ _ (gb_trans hHeld ga) (fun hHeld=>?_)
       clear hK K
       try simp only [pt]
       refine tkn 1 ?_ rfl ?_ ?_;rotate_left;·(intro w hSw;obtain ⟨s0,s1,s2⟩:=kp3 hSw hc0 hc1 hc2;go_simp;try rfl)
       try simp only [pt]
       refine tkn 2 ?_ rfl ?_ ?_;rotate_left;·(intro w hSw;obtain ⟨s0,s1,s2⟩:=kp3 hSw hc0 hc1 hc2;go_simp;try rfl)
       try simp only [pt]
       refine tkn 3 ?_ rfl ?_ ?_;rotate_left;·(intro w hSw;obtain ⟨s0,s1,s2⟩:=kp3 hSw hc0 hc1 hc2;go_simp;try rfl)
       try simp only [pt]
       refine tkn 4 ?_ rfl ?_ ?_;rotate_left;·(intro w hSw;obtain ⟨s0,s1,s2⟩:=kp3 hSw hc0 hc1 hc2;go_simp;try rfl)
       try simp only [pt]
       refine tkn 5 ?_ rfl ?_ ?_;rotate_left;·(intro w hSw;obtain ⟨s0,s1,s2⟩:=kp3 hSw hc0 hc1 hc2;go_simp;try rfl)
       try simp only [pt]
       refine rdn 6 rfl (fun K hK=>?_)
       go_simp
       refine (cL _ hHeld).mono ?_
       rintro e wb ⟨rfl,rfl⟩
       refine hK.out _ _ (hHeld) (fun hHeld=>?_)
       clear hK K
       try simp only [pt]
       refine tkn 7 ?_ rfl ?_ ?_;rotate_left;·(intro w hSw;obtain ⟨s0,s1,s2⟩:=kp3 hSw hc0 hc1 hc2;go_simp;try rfl)
       try simp only [pt]
       refine tkn 8 ?_ rfl ?_ ?_;rotate_left;·(intro w hSw;obtain ⟨s0,s1,s2⟩:=kp3 hSw hc0 hc1 hc2;go_simp;try rfl)
       try simp only [pt]
       refine tkn 9 ?_ rfl ?_ ?_;rotate_left;·(intro w hSw;obtain ⟨s0,s1,s2⟩:=kp3 hSw hc0 hc1 hc2;go_simp;try rfl)
       try simp only [pt]
       refine tkn 10 ?_ rfl ?_ ?_;rotate_left;·(intro w hSw;obtain ⟨s0,s1,s2⟩:=kp3 hSw hc0 hc1 hc2;go_simp;try rfl)
       try simp only [pt]
       refine tkn 11 ?_ rfl ?_ ?_;rotate_left;·(intro w hSw;obtain ⟨s0,s1,s2⟩:=kp3 hSw hc0 hc1 hc2;go_simp;try rfl)
       try simp only [pt]
       refine tkn 12 ?_ rfl ?_ ?_;rotate_left;·(intro w hSw;obtain ⟨s0,s1,s2⟩:=kp3 hSw hc0 hc1 hc2;go_simp;try rfl)
       try simp only [pt]
       refine tkn 13 ?_ rfl ?_ ?_;rotate_left;·(intro w hSw;obtain ⟨s0,s1,s2⟩:=kp3 hSw hc0 hc1 hc2;go_simp;try rfl)
       try simp only [pt]
       refine tkn 14 ?_ rfl ?_ ?_;rotate_left;·(intro w hSw;obtain ⟨s0,s1,s2⟩:=kp3 hSw hc0 hc1 hc2;go_simp;try rfl)
       try simp only [pt]
       refine tkn 15 ?_ rfl ?_ ?_;rotate_left;·(intro w hSw;obtain ⟨s0,s1,s2⟩:=kp3 hSw hc0 hc1 hc2;go_simp;try rfl)
       try simp only [pt]
       refine tkn 16 ?_ rfl ?_ ?_;rotate_left;·(intro w hSw;obtain ⟨s0,s1,s2⟩:=kp3 hSw hc0 hc1 hc2;go_simp;try rfl)
       try simp only [pt]
       refine tkn 17 ?_ rfl ?_ ?_;rotate_left;·(intro w hSw;obtain ⟨s0,s1,s2⟩:=kp3 hSw hc0 hc1 hc2;go_simp;try rfl)
       try simp only [pt]
       refine tkn 18 ?_ rfl ?_ ?_;rotate_left;·(intro w hSw;obtain ⟨s0,s1,s2⟩:=kp3 hSw hc0 hc1 hc2;go_simp;try rfl)
       try simp only [pt]
       refine tkn 19 ?_ rfl ?_ ?_;rotate_left;·(intro w hSw;obtain ⟨s0,s1,s2⟩:=kp3 hSw hc0 hc1 hc2;go_simp;try rfl)
       try simp only [pt]
       refine tkn 20 ?_ rfl ?_ ?_;rotate_left;·(intro w hSw;obtain ⟨s0,s1,s2⟩:=kp3 hSw hc0 hc1 hc2;go_simp;try rfl)
       try simp only [pt]
       refine tkn 21 ?_ rfl ?_ ?_;rotate_left;·(intro w hSw;obtain ⟨s0,s1,s2⟩:=kp3 hSw hc0 hc1 hc2;go_simp;try rfl)
       try simp only [pt]
       refine tkn 22 ?_ rfl ?_ ?_;rotate_left;·(intro w hSw;obtain ⟨s0,s1,s2⟩:=kp3 hSw hc0 hc1 hc2;go_simp;try rfl)
       try simp only [pt]
       refine tkn 23 ?_ rfl ?_ ?_;rotate_left;·(intro w hSw;obtain ⟨s0,s1,s2⟩:=kp3 hSw hc0 hc1 hc2;go_simp;try rfl)
       try simp only [pt]
       refine tkn 24 ?_ rfl ?_ ?_;rotate_left;·(intro w hSw;obtain ⟨s0,s1,s2⟩:=kp3 hSw hc0 hc1 hc2;go_simp;try rfl)
       try simp only [pt]
       refine tkn 25 ?_ rfl ?_ ?_;rotate_left;·(intro w hSw;obtain ⟨s0,s1,s2⟩:=kp3 hSw hc0 hc1 hc2;go_simp;try rfl)
       try simp only [pt]
       refine wpAnyH_done (by kernel_rfl) ?_ _
       have G11:Hid (Gb w wb):=gb_trans G10.out hHeld
       clear hHeld
       go_wp2
       refine bodyPost_ret (v:=.bool true) (by simp [results,Tryz.results4,go_sem]) rfl ⟨rfl,?_⟩
       exact G11.out
      ·have hfb:(f2 == 0)=false:=by rw [beq_eq_false_iff_ne];exact hf2
       clear hw T8 T9
       go_wp2_with fail
       refine (kawake_c _).mono ?_
       rintro e wz ⟨rfl,gz⟩
       have GZ:Hid (Gb w wz):=gb_trans G9 gz
       clear gz
       go_wp2
       refine bodyPost_ret (v:=.bool true) (by simp [results,Tryz.results4,go_sem]) rfl ⟨rfl,?_⟩
       exact GZ.out
     ·have hzb:(z == 0)=false:=by rw [beq_eq_false_iff_ne];exact hz0
      clear hw T8 T9
      go_wp2_with fail
      refine (kawake_c _).mono ?_
      rintro e wz ⟨rfl,gz⟩
      have GZ:Hid (Gb w wz):=gb_trans G9 gz
      clear gz
      go_wp2
      refine bodyPost_ret (v:=.bool true) (by simp [results,Tryz.results4,go_sem]) rfl ⟨rfl,?_⟩
      exact GZ.out
    ·have hfb:(f == 0)=false:=by rw [beq_eq_false_iff_ne];exact hf
     clear hw T8 T9
     go_wp2_with fail
     refine (kawake_c _).mono ?_
     rintro e wz ⟨rfl,gz⟩
     have GZ:Hid (Gb w wz):=gb_trans G9 gz
     clear gz
     go_wp2
     refine bodyPost_ret (v:=.bool true) (by simp [results,Tryz.results4,go_sem]) rfl ⟨rfl,?_⟩
     exact GZ.out
end Go.Proofs.YtcipdampcmfmaabGreat
