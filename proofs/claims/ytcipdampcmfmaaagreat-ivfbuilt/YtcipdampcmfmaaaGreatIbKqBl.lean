import Derived.Test.YtcipdampcmfmaaaGreatIbKqT2
import Derived.Test.YtcipdampcmfmaaaGreatIbKqWh
import Derived.Test.YtcipdampcmfmaaaGreatIa17
namespace Go.Proofs.YtcipdampcmfmaaaGreat
open Go.RowKit Go.Sort
set_option maxRecDepth 100000
set_option maxHeartbeats 8000000
theorem wf_nil:Wf []:=⟨Nat.zero_le _,fun _ hi=>absurd hi (Nat.not_lt_zero _)⟩
theorem rok_nil (d:Int):RowsOk [] d:=⟨by simp,by simp [idsOf],fun _ h=>by cases h⟩
theorem built_no {w:World} {v u sc:Value} {l:List Rw} {q:List Int} {ops:List Opv} (hv:RdW w v l) (hwf:Wf l) (hs:RdO w sc ops) (hu:RdI w u q) (leaf B S k:Int) (hz:bldE l (q.length:Int) leaf B ≠ 0) (hus:Rn.U S) :
  Calls Tryz.prog 6 #[v,.agg #[.int .i64 leaf,.int .i64 B,.int .u64 S],sc,u,.int .i64 k] w fun e w'=>e=.returned (.bool true)/\Gb w w':=by
 have g1:Gb w (w.alloc (.cells #[.int .i64 leaf,.int .i64 B,.int .u64 S] 25)):=gb_alloc (Below.refl _ _) _
 obtain ⟨w1,hw1⟩:∃ w1,w1=w.alloc (.cells #[.int .i64 leaf,.int .i64 B,.int .u64 S] 25):=⟨_,rfl⟩
 rw [<- hw1] at g1
 have c0:w1.cell? ⟨w.heap.size,0,none⟩=some (.int .i64 leaf):=by rw [hw1];simp [go_sem]
 have c1:w1.cell? ⟨w.heap.size,1,none⟩=some (.int .i64 B):=by rw [hw1];simp [go_sem]
 have c2:w1.cell? ⟨w.heap.size,2,none⟩=some (.int .u64 S):=by rw [hw1];simp [go_sem]
 have cB:=kbig_c (hv.gb g1) (by have:=hwf.1;omega) (hs.gb g1)
 have cU:=fun W (g:Gb w1 W)=>kbuild_no ((hv.gb g1).gb g) hwf (q.length:Int) leaf B S hz
 have cV:∀ W,Calls Tryz.prog 12 #[.slice none 0 0,.int .i64 (q.length:Int),.agg #[.int .i64 leaf,.int .i64 B,.int .u64 S]] W fun e w'=>∃ x z,e=.returned (.tuple #[.pointer x,.int .i64 z])/\Gb W w':=by
  intro W
  by_cases h2:bldE [] (q.length:Int) leaf B=0
  ·obtain ⟨h3,h4,h5⟩:=bldE_zero.1 h2
   obtain ⟨lf,rfl⟩:=Int.eq_ofNat_of_zero_le (show 0<=leaf by omega)
   obtain ⟨B',rfl⟩:=Int.eq_ofNat_of_zero_le h5.1
   refine (kbuild_ok (upT W) (rdw_nil W) wf_nil (m:=q.length) h3 (by omega) (by omega) S hus).mono ?_
   intro e w' hO
   obtain ⟨tb,rs0,rfl,T3,_⟩:=trw_of hO
   exact ⟨_,_,rfl,T3.old⟩
  ·refine (kbuild_no (rdw_nil W) wf_nil (q.length:Int) leaf B S h2).mono ?_
   rintro e w' ⟨rfl,g⟩
   exact ⟨_,_,rfl,g⟩
 have CU:Hid _:=cU
 have CV:Hid _:=cV
 clear cU cV
 obtain ⟨av,cv,ev,_⟩:=hv
 obtain ⟨aq,cq,eq,_⟩:=hu.rd0
 obtain ⟨sca,scc,es,_⟩:=hs
 subst ev eq es
 generalize bldE l (q.length:Int) leaf B=z at *
 generalize l.length=n at *
 generalize q.length=m at *
 generalize ops.length=no at *
 have hzb:(z == 0)=false:=by rw [beq_eq_false_iff_ne];exact hz
 clear hwf hu hus
 go_enter Tryz.func6,Tryz.ntmps6
 go_wp2_with fail
 rw [<- hw1]
 clear hw1
 refine cB.mono ?_
 rintro e w2 ⟨bb,rfl,g2⟩
 have d0:=gb_keeps g2 c0
 have d1:=gb_keeps g2 c1
 have d2:=gb_keeps g2 c2
 have G2:=gb_trans g1 g2
 clear cB c0 c1 c2
 cases bb with
 | true =>
  go_wp2
  refine bodyPost_ret (v:=.bool true) (by simp [results,Tryz.results6,go_sem]) rfl ⟨rfl,?_⟩
  exact G2
 | false =>
  by_cases h1:32768 < (m:Int)
  ·skip
   go_wp2
   refine bodyPost_ret (v:=.bool true) (by simp [results,Tryz.results6,go_sem]) rfl ⟨rfl,?_⟩
   exact G2
  have cU:=CU.out w2 g2
  clear CU
  go_wp2_with fail
  refine cU.mono ?_
  rintro e w3 ⟨rfl,g3⟩
  have G3:=gb_trans G2 g3
  have d0:=gb_keeps g3 d0
  have d1:=gb_keeps g3 d1
  have d2:=gb_keeps g3 d2
  have cV:=CV.out w3
  clear cU CV
  go_wp2_with fail
  refine cV.mono ?_
  rintro e w4 ⟨x,z',rfl,g4⟩
  have G4:=gb_trans G3 g4
  clear cV d0 d1 d2
  go_wp2_with fail
  refine (kawake_c _).mono ?_
  rintro e wz ⟨rfl,gz⟩
  have GZ:Hid (Gb w wz):=gb_trans G4 gz
  clear gz
  go_wp2
  refine bodyPost_ret (v:=.bool true) (by simp [results,Tryz.results6,go_sem]) rfl ⟨rfl,?_⟩
  exact GZ.out
theorem drop_put {m i:Nat} {l:List Rw} (hi:i < l.length):(l.drop i).foldr (fun r a=>put1 m a r) []=put1 m ((l.drop (i + 1)).foldr (fun r a=>put1 m a r) []) l[i]! := by
 rw [List.drop_eq_getElem_cons hi,List.foldr_cons,getElem!_pos l i hi]
theorem built_ok {w:World} {v u sc:Value} {l:List Rw} {q:List Int} {ops:List Opv} {lf B:Nat} (hv:RdW w v l) (hwf:Wf l) (hs:RdO w sc ops) (hwo:WfO ops) (hn:ops.length<=9223372036854775807) (hu:RdI w u q) (S k:Int) (hz:flatE l (q.length:Int)=0) (hlf:1<=lf/\lf<=64) (hB:B<=20) (hus:Rn.U S) :
  Calls Tryz.prog 6 #[v,.agg #[.int .i64 (lf:Int),.int .i64 (B:Int),.int .u64 S],sc,u,.int .i64 k] w fun e w'=>e=.returned (.bool true)/\Gb w w':=by
 have g1:Gb w (w.alloc (.cells #[.int .i64 (lf:Int),.int .i64 (B:Int),.int .u64 S] 25)):=gb_alloc (Below.refl _ _) _
 obtain ⟨w1,hw1⟩:∃ w1,w1=w.alloc (.cells #[.int .i64 (lf:Int),.int .i64 (B:Int),.int .u64 S] 25):=⟨_,rfl⟩
 rw [<- hw1] at g1
 have c0:w1.cell? ⟨w.heap.size,0,none⟩=some (.int .i64 (lf:Int)):=by rw [hw1];simp [go_sem]
 have c1:w1.cell? ⟨w.heap.size,1,none⟩=some (.int .i64 (B:Int)):=by rw [hw1];simp [go_sem]
 have c2:w1.cell? ⟨w.heap.size,2,none⟩=some (.int .u64 S):=by rw [hw1];simp [go_sem]
 have cB:=kbig_c (hv.gb g1) (by have:=hwf.1;omega) (hs.gb g1)
 have cU:=fun W (g:Gb w1 W)=>kbuild_ok (upT W) ((hv.gb g1).gb g) hwf (m:=q.length) hz hlf hB S hus
 have ROK:Hid (RowsOk l (q.length:Int)):=(flatE_zero.1 hz).2
 have cV:=fun W=>kbuild_ok (upT W) (rdw_nil W) wf_nil (m:=q.length) (flatE_zero.2 ⟨(flatE_zero.1 hz).1,rok_nil _⟩) hlf hB S hus
 have CU:Hid _:=cU
 have CV:Hid _:=cV
 have HV:Hid (RdW w v l):=hv
 have HU:Hid (RdI w u q):=hu
 have HS:Hid (RdO w sc ops):=hs
 have HN:Hid (ops.length<=9223372036854775807):=hn
 obtain ⟨av,cv,ev,_⟩:=hv
 obtain ⟨aq,cq,eq,_⟩:=hu.rd0
 obtain ⟨sca,scc,es,_⟩:=hs
 subst ev eq es
 obtain ⟨nl,hnl⟩:∃ nl,nl=l.length:=⟨_,rfl⟩
 have NL:Hid (nl=l.length):=hnl
 have hnl5:nl<=512:=by rw [hnl];exact ROK.out.few
 rw [<- hnl] at HV cB ⊢
 simp only [<- hnl] at CU
 have WO:Hid (WfO ops):=hwo
 clear cU cV hwf hu hz hlf hB hn hnl hus hwo
 go_enter Tryz.func6,Tryz.ntmps6
 go_wp2_with fail
 rw [<- hw1]
 clear hw1
 refine cB.mono ?_
 rintro e w2 ⟨bb,rfl,g2⟩
 have d0:=gb_keeps g2 c0
 have d1:=gb_keeps g2 c1
 have d2:=gb_keeps g2 c2
 have G2:=gb_trans g1 g2
 clear cB c0 c1 c2
 cases bb with
 | true =>
  go_wp2
  refine bodyPost_ret (v:=.bool true) (by simp [results,Tryz.results6,go_sem]) rfl ⟨rfl,?_⟩
  exact G2
 | false =>
  by_cases h1:32768 < (q.length:Int)
  ·skip
   go_wp2
   refine bodyPost_ret (v:=.bool true) (by simp [results,Tryz.results6,go_sem]) rfl ⟨rfl,?_⟩
   exact G2
  have cU:=CU.out w2 g2
  clear CU g1 g2
  go_wp2_with fail
  refine cU.mono ?_
  intro e w3 hO
  obtain ⟨tb,rs0,rfl,T3,pm,ri⟩:=trw_of hO
  have d0:=gb_keeps T3.old d0
  have d1:=gb_keeps T3.old d1
  have d2:=gb_keeps T3.old d2
  have PE:Hid (l.foldr (fun r a=>put1 q.length a r) []=rs0):=puts_eq ROK.out ri pm
  have cV:=CV.out w3
  clear cU hO pm ri CV
  go_wp2_with fail
  refine cV.mono ?_
  intro e w4 hO
  obtain ⟨ub,us0,rfl,T4,pm,_⟩:=trw_of hO
  have e0:us0=[]:=pm.eq_nil
  subst e0
  have TT:Hid (Tw2 w2 ub tb q.length (cenOf [] q.length lf B S) (cenOf rs0 q.length lf B S) [] rs0 w4):=(Tw2.of T3 T4).symm
  clear cV hO pm T3 T4 d0 d1 d2
  go_wp2
  go_loopw [15] (fun iv W=>∃ z:Int,iv=.int .i64 z/\-1<=z/\z < nl/\Hid (Tw2 w2 ub tb q.length (cenOf [] q.length lf B S) (cenOf rs0 q.length lf B S) ((l.drop (z + 1).toNat).foldr (fun r a=>put1 q.length a r) []) rs0 W)) (fun iv _=>(intOf iv + 1).toNat)
  case atStart=>exact ⟨(nl:Int) - 1,by first | rfl | go_num | simp,by omega,by omega,by
   unfold Hid
   rw [List.drop_of_length_le (by have:=NL.out;omega)]
   exact TT.out⟩
  case round =>
   clear TT
   obtain ⟨z,rfl,hz1,hz2,TI⟩:=hrel
   by_cases hz0:0<=z
   ·obtain ⟨i,rfl⟩:=Int.eq_ofNat_of_zero_le hz0
    have hil:i < l.length:=by have:=NL.out;omega
    obtain ⟨_,_,ea,hA⟩:=HV.out
    injection ea with ea1 ea2 ea3
    subst ea1 ea3
    obtain ⟨rb,ro,ru,er,r0,r1,hr⟩:=hA i hil
    subst er
    have go:=gb_trans G2 TI.out.old
    have r0:=gb_keeps go r0
    have r1:=gb_keeps go r1
    have e1:((i:Int) + 1).toNat=i + 1:=by omega
    have TI':Hid (Tw2 w2 ub tb q.length (cenOf [] q.length lf B S) (cenOf rs0 q.length lf B S) ((l.drop (i + 1)).foldr (fun r a=>put1 q.length a r) []) rs0 wr):=by
     have:=TI.out
     rw [e1] at this
     exact this
    have cP:=tw2_put TI'.out l[i]!.1 (hr.gb G2)
    have NX:Hid (∀ W',Tw2 w2 ub tb q.length (cenOf [] q.length lf B S) (cenOf rs0 q.length lf B S) (if putE q.length ((l.drop (i + 1)).foldr (fun r a=>put1 q.length a r) []) (l[i]!.1,l[i]!.2)=0 then putRw ((l.drop (i + 1)).foldr (fun r a=>put1 q.length a r) []) (l[i]!.1,l[i]!.2) else ((l.drop (i + 1)).foldr (fun r a=>put1 q.length a r) [])) rs0 W'->Tw2 w2 ub tb q.length (cenOf [] q.length lf B S) (cenOf rs0 q.length lf B S) ((l.drop ((i:Int) - 1 + 1).toNat).foldr (fun r a=>put1 q.length a r) []) rs0 W'):=by
     intro W' h
     rw [show ((i:Int) - 1 + 1).toNat=i by omega,drop_put hil]
     exact h
    generalize (l.drop (i + 1)).foldr (fun r a=>put1 q.length a r) []=rsi at *
    obtain ⟨ar,cr,er,_⟩:=hr.rd0
    subst er
    generalize l[i]!.1=xi at *
    generalize hxl:l[i]!.2=xl at *
    clear hxl ea2 hA TI TI' go hil e1 hr
    generalize putE q.length rsi (xi,xl)=zz at *
    go_wp2_with fail
    refine cP.mono ?_
    rintro e w5 ⟨rfl,T5⟩
    have TN:=NX.out _ T5
    have TN':Hid _:=TN
    clear cP T5 NX r0 r1 TN
    go_wp2
    go_roundw
    case rel=>exact ⟨(i:Int) - 1,by first | rfl | go_num | simp,by omega,by omega,TN'⟩
    case measure=>simp [intOf]
   ·have ez:z=-1:=by omega
    subst ez
    have TT:Hid (Tw2 w2 ub tb q.length (cenOf [] q.length lf B S) (cenOf rs0 q.length lf B S) rs0 rs0 wr):=by
     have:=TI.out
     rw [show ((-1:Int) + 1).toNat=0 from rfl,List.drop_zero,PE.out] at this
     exact this
    have cP:=plays_2 TT.out.symm (HS.out.gb G2) HN.out WO.out
    clear TI TT hz0 hz1 hz2
    go_wp2_with fail
    refine cP.mono ?_
    rintro e w5 ⟨rfl,T5⟩
    have cQ:=plays_2 T5.symm (HS.out.gb G2) HN.out WO.out
    clear cP T5
    go_wp2_with fail
    refine cQ.mono ?_
    rintro e w6 ⟨rfl,T6⟩
    clear cQ
    generalize ops.foldl (playRw q.length) rs0=rs at *
    have cS:=trw_searchg T6.symm.left ((HU.out.gb G2).gb T6.old) k 1000000
    have TT:Hid (Tw2 w2 ub tb q.length (cenOf [] q.length lf B S) (cenOf rs0 q.length lf B S) rs rs w6):=T6
    clear T6
    go_wp2_with fail
    refine cS.mono ?_
    rintro e w7 ⟨a1,n1,c1,a2,n2,c2,a3,n3,c3,rfl,G7,hh7,hz7⟩
    obtain ⟨wx,hwx⟩:∃ wx,wx=w7.alloc (.cells #[.slice a1 n1 c1,.slice a2 n2 c2,.slice a3 n3 c3] 51):=⟨_,rfl⟩
    have gx:Gb w7 wx:=by rw [hwx];exact gb_alloc (Below.refl _ _) _
    have x0:wx.cell? ⟨w7.heap.size,0,none⟩=some (.slice a1 n1 c1):=by rw [hwx];simp [go_sem]
    have TX:=(TT.out.gb G7).gb gx
    have cS2:=trw_searchg TX.left ((HU.out.gb G2).gb TX.old) k 1000000
    have H7:Hid (srchE q.length q k 1000000=0->(rs.length:Int)<=1000000->Tk.Own w7 (.slice a1 n1 c1) (Tk.firsts k.toNat (hitsOf q rs)).toArray):=hh7
    have Z7:Hid (srchE q.length q k 1000000 ≠ 0->a1=none/\n1=0/\c1=0):=hz7
    have T7:Hid (Tw2 w2 ub tb q.length (cenOf [] q.length lf B S) (cenOf rs0 q.length lf B S) rs rs wx):=TX
    clear cS hh7 hz7 TT TX
    go_wp2_with fail
    rw [<- hwx]
    refine cS2.mono ?_
    rintro e w9 ⟨b1,m1,e1,b2,m2,e2,b3,m3,e3,rfl,G9,hh9,hz9⟩
    obtain ⟨w8,hw8⟩:∃ w8,w8=w9.alloc (.cells #[.slice b1 m1 e1,.slice b2 m2 e2,.slice b3 m3 e3] 51):=⟨_,rfl⟩
    have gy:Gb w9 w8:=by rw [hw8];exact gb_alloc (Below.refl _ _) _
    have y0:w8.cell? ⟨w9.heap.size,0,none⟩=some (.slice b1 m1 e1):=by rw [hw8];simp [go_sem]
    have G98:=gb_trans G9 gy
    have x0:=gb_keeps G98 x0
    have T8:=T7.out.gb G98
    have hok:=T8.left.rok.1
    have KB:Hid (rs.length<=4611686018427387904/\∀ r ∈ rs,r.2.length<=4611686018427387904):=⟨by have:=hok.few;omega,fun r hr=>by
     have:=(chk_ok (hok.row r hr).2)
     have h1:=this.2.1
     have h2:=this.2.2.1
     omega⟩
    have F5:Hid (rs.length<=512):=hok.few
    have cH:∀ W,Gb w8 W->Calls Tryz.prog 22 #[.slice a1 n1 c1,.slice b1 m1 e1] W fun e w'=>e=.returned (.bool true)/\Gb W w':=by
     intro W gW
     by_cases h0:srchE q.length q k 1000000=0
     ·have o1:=kown_rd (H7.out h0 (by have:=F5.out;omega))
      have o2:=kown_rd (hh9 h0 (by have:=F5.out;omega))
      have hk:=(srchE_zero.1 h0).2.1
      refine (Tk.same_c (o1.gr (gb_trans gx (gb_trans G98 gW))) (o2.gr (gb_trans gy gW)) (by rw [Tk.firsts_len];omega)).mono ?_
      rintro e w' ⟨rfl,g⟩
      exact ⟨by simp,g⟩
     ·obtain ⟨rfl,rfl,rfl⟩:=Z7.out h0
      obtain ⟨rfl,rfl,rfl⟩:=hz9 h0
      refine (Tk.same_c (.inl ⟨rfl,rfl⟩) (.inl ⟨rfl,rfl⟩) (Nat.zero_le _)).mono ?_
      rintro e w' ⟨rfl,g⟩
      exact ⟨by simp,g⟩
    have cRt:∀ W,Gb w8 W->Calls Tryz.prog 21 #[.pointer (some ⟨tb,0,none⟩)] W fun e w'=>∃ v',e=.returned v'/\OwnC w' W.heap.size v' rs/\Gb W w':=fun W g=>trw_rows (T8.symm.left.gb g)
    have cRu:∀ W,Gb w8 W->Calls Tryz.prog 21 #[.pointer (some ⟨ub,0,none⟩)] W fun e w'=>∃ v',e=.returned v'/\OwnC w' W.heap.size v' rs/\Gb W w':=fun W g=>trw_rows (T8.left.gb g)
    have gd8:Gb w8 w8.drew:=⟨rfl,rfl,rfl,Nat.le_refl _,fun _ _=>rfl⟩
    have G10:Hid (Gb w w8):=gb_trans G2 T8.old
    generalize srchE q.length q k 1000000=f at *
    clear cS2 hh9 hz9 T8 T7 H7 Z7 hok G98 G9 gy gx G7 hwx
    go_wp2_with fail
    rw [<- hw8]
    clear hw8
    refine (kawake_c _).mono ?_
    rintro e wa ⟨rfl,ga⟩
    have x0:=gb_keeps ga x0
    have y0:=gb_keeps ga y0
    have cH:=cH _ ga
    go_wp2_with fail
    refine cH.mono ?_
    rintro e wh ⟨rfl,gh⟩
    have GH:=gb_trans ga gh
    have cRt:=cRt _ GH
    clear cH x0 y0
    go_wp2_with fail
    refine cRt.mono ?_
    rintro e wb ⟨v1,rfl,o1,g1⟩
    have GA:=gb_trans GH g1
    have cRu:=cRu _ GA
    clear cRt
    go_wp2_with fail
    refine cRu.mono ?_
    rintro e wc ⟨v2,rfl,o2,g2⟩
    have GB:=gb_trans GA g2
    have cK:=krsame_c ((o1.gb g2).rdw) (o2.rdw) KB.out.1 KB.out.2
    clear cRu
    go_wp2_with fail
    refine cK.mono ?_
    rintro e wd ⟨rfl,gk⟩
    have G11:Hid (Gb w wd):=gb_trans G10.out (gb_trans GB gk)
    clear cK gk GB GA GH ga gh g1 g2 o1 o2
    go_wp2
    refine bodyPost_ret (v:=.bool true) (by simp [results,Tryz.results6,go_sem]) rfl ⟨rfl,?_⟩
    exact G11.out
end Go.Proofs.YtcipdampcmfmaaaGreat
