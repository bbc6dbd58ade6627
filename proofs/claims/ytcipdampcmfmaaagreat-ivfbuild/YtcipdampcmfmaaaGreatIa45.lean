import Derived.Test.YtcipdampcmfmaaaGreatIa42
import Derived.Test.YtcipdampcmfmaaaGreatIa6
import Derived.Test.YtcipdampcmfmaaaGreatIa24
import Derived.Test.YtcipdampcmfmaaaGreatIa31
namespace Go.Proofs.YtcipdampcmfmaaaGreat
open Go.RowKit Go.Sort Go.Maps
set_option maxRecDepth 100000
set_option maxHeartbeats 16000000
theorem TbAt.froz {w:World} {tb m:Nat} {rs:List Rw} {G:List Nat} (h:TbAt w tb m rs G):w.frozen? ⟨tb,1,none⟩=false:=by
 obtain ⟨v,d,h1,_⟩:=h
 simp [World.frozen?,h1]
theorem plc_stop {rs:List Rw} {id:Int} {q:Nat} (h:Ris rs) (hq:q<=rs.length) (h1:∀ i,i < q->rs[i]!.1 < id) (h2:q < rs.length->¬ rs[q]!.1 < id):plc rs id=q:=by
 refine plc_of hq (fun t ht htq=>?_) (fun t ht hqt=>?_)
 ·have:=h1 t htq
  rw [getElem!_pos rs t ht] at this
  exact this
 ·have h3:=h2 (by omega)
  rw [getElem!_pos rs q (by omega)] at h3
  by_cases e:q=t
  ·subst e;exact h3
  ·have:=List.pairwise_iff_getElem.1 h q t (by omega) ht (by omega)
   omega
theorem has_stop {rs:List Rw} {id:Int} {q:Nat} (h:Ris rs) (hp:plc rs id=q) (h2:q < rs.length->rs[q]!.1 ≠ id):hasId rs id=false:=by
 rw [Bool.eq_false_iff]
 intro hh
 obtain ⟨hp',he⟩:=plc_has h hh
 subst hp
 have:=h2 hp'
 rw [getElem!_pos rs _ hp'] at this
 exact this he
theorem thas_at {rs:List Rw} {id:Int} {q:Nat} (hq:q < rs.length) (h2:rs[q]!.1=id):hasId rs id=true:=by
 unfold hasId
 rw [List.any_eq_true]
 exact ⟨rs[q],List.getElem_mem hq,by rw [getElem!_pos rs q hq] at h2;simpa using h2⟩
theorem tput_in {w:World} {tb m:Nat} {rs:List Rw} {G:List Nat} {xi:Int} {u:Value} {xl:List Int} (h:TbAt w tb m rs G) (hu:RdI w u xl) (h1:okId xi=true) (h2:chk xl (m:Int)=0):Calls Tryz.prog 42 #[.pointer (some ⟨tb,0,none⟩),.agg #[.int .i64 xi,u]] w fun e w'=>e=.returned (.tuple #[.bool (decide (putE m rs (xi,xl)=0) && !hasId rs xi),.int .i64 (putE m rs (xi,xl))])/\TbOut w tb m (if putE m rs (xi,xl)=0 then putRw rs (xi,xl) else rs) G w':=by
 have PE:Hid ((hasId rs xi=false->rs.length < 512->putE m rs (xi,xl)=0)/\(hasId rs xi=true->putE m rs (xi,xl)=0)/\(hasId rs xi=false->512<=rs.length->putE m rs (xi,xl)=2)):=by
  unfold putE
  rw [if_pos h1,if_pos h2]
  refine ⟨fun _ h4=>if_neg (fun h=>by omega),fun h3=>if_neg (fun h=>by rw [h3] at h;exact absurd h.1 (by decide)),fun h3 h4=>if_pos ⟨h3,h4⟩⟩
 obtain ⟨PO,hPO⟩:∃ PO:Ending->World->Prop,PO=fun e w'=>e=.returned (.tuple #[.bool (decide (putE m rs (xi,xl)=0) && !hasId rs xi),.int .i64 (putE m rs (xi,xl))])/\TbOut w tb m (if putE m rs (xi,xl)=0 then putRw rs (xi,xl) else rs) G w':=⟨_,rfl⟩
 have FL:Hid (∀ e w',hasId rs xi=false->512<=rs.length->e=.returned (.tuple #[.bool false,.int .i64 2])->TbOut w tb m rs G w'->PO e w'):=by
  intro e w' h3 h4 he ho
  rw [hPO]
  dsimp only
  rw [PE.out.2.2 h3 h4,he]
  exact ⟨rfl,ho⟩
 have FP:Hid (∀ e w' b,hasId rs xi=!b->putE m rs (xi,xl)=0->e=.returned (.tuple #[.bool b,.int .i64 0])->TbOut w tb m (putRw rs (xi,xl)) G w'->PO e w'):=by
  intro e w' b h3 h4 he ho
  rw [hPO]
  dsimp only
  rw [h4,he,h3]
  exact ⟨by cases b <;> rfl,ho⟩
 have hc:(fun (e:Ending) (w':World)=>e=.returned (.tuple #[.bool (decide (putE m rs (xi,xl)=0) && !hasId rs xi),.int .i64 (putE m rs (xi,xl))])/\TbOut w tb m (if putE m rs (xi,xl)=0 then putRw rs (xi,xl) else rs) G w')=PO:=hPO.symm
 rw [hc]
 clear hPO hc
 have TA:Hid (TbAt w tb m rs G):=h
 obtain ⟨W1,hW1⟩:∃ W1,W1=w.alloc (.cells #[.int .i64 xi,u] 43):=⟨_,rfl⟩
 have G0:Hid (Gb w W1):=by unfold Hid;rw [hW1];exact gb_alloc (Below.refl _ _) _
 have b0:W1.cell? ⟨w.heap.size,0,none⟩=some (.int .i64 xi):=by rw [hW1];simp [go_sem]
 have b1:W1.cell? ⟨w.heap.size,1,none⟩=some u:=by rw [hW1];simp [go_sem]
 have cI:=fun W=>rid_c xi W
 rw [h1] at cI
 have cC:=fun W (g:Gb W1 W)=>rcheck_v ((hu.gb G0.out).gb g) (m:Int) 0 h2
 have HU':Hid (RdI w u xl):=hu
 have LX:=(chk_ok h2)
 obtain ⟨v,d,hb,ho,hdr,hri,hl5,hG⟩:=h
 have hdl:d.length=rs.length:=by rw [<- hdr,List.length_map]
 obtain ⟨a,cap,ev⟩:=owns_form ho.row
 subst ev
 have RI:Hid (Ris rs):=hri
 have DR:Hid (d.map rwR=rs):=hdr
 obtain ⟨n,hn⟩:∃ n,n=d.length:=⟨_,rfl⟩
 have CN:Hid (n<=cap):=by
  rw [hn]
  rcases ho.row.2 with ⟨e,h0⟩ | ⟨g,c,cur,e,_,_,hc,_⟩
  ·rw [h0];exact Nat.zero_le _
  ·injection e with _ _ e3;rw [e3];exact hc
 have DL:Hid (d.length=n):=hn.symm
 have NR:Hid (n=rs.length):=by rw [hn];exact hdl
 have n512:n<=512:=by have:=NR.out;omega
 have N5:Hid (n<=512):=n512
 rw [<- hn] at ho hb
 have HO:Hid (OwnRs IqT w (.slice a n cap) d):=ho
 have RW:Hid (RdW w (.slice a n cap) rs):=by rw [<- hdr];exact ho.rdw
 have c0:W1.cell? ⟨tb,0,none⟩=some (.int .i64 (m:Int)):=gb_keeps G0.out (by simp [World.cell?,hb])
 have c1:W1.cell? ⟨tb,1,none⟩=some (.slice a n cap):=gb_keeps G0.out (by simp [World.cell?,hb])
 obtain ⟨i0,hi,hz0,hz1,hz2⟩:=info_partsW
 have II:Hid (Tryz.prog.info? 43=some i0/\i0.zero=some (.agg #[.int .i64 0,.slice none 0 0])/\i0.size=2/\i0.bytes=32):=⟨hi,hz0,hz1,hz2⟩
 obtain ⟨j0,hi',hz0',hz1',hz2'⟩:=info_parts Tryz.info3
 have JJ:Hid (Tryz.prog.info? 3=some j0/\j0.zero=some (.int .i64 0)/\j0.size=1/\j0.bytes=8):=⟨hi',hz0',hz1',hz2'⟩
 obtain ⟨au,cu,eu,hau⟩:=hu
 subst eu
 obtain ⟨lu,hlu⟩:∃ lu,lu=xl.length:=⟨_,rfl⟩
 have LU:Hid (lu=xl.length):=hlu
 have LL:Hid (1<=lu/\lu<=64):=by have:=LX.1;have:=LX.2.1;have:=LX.2.2.1;unfold Hid;omega
 have UN:Hid (au=none->lu=0/\cu=0):=fun e=>by
  obtain ⟨b,o,e',_⟩:=hau 0 (by have:=LL.out;omega)
  rw [e] at e'
  cases e'
 rw [<- hlu] at HU' hW1 b1 cC ⊢
 have HU:Hid (RdI w (.slice au lu cu) xl):=HU'
 have GD:Gb W1 W1.drew:=⟨rfl,rfl,rfl,Nat.le_refl _,fun _ _=>rfl⟩
 have B0:Hid (W1.cell? ⟨w.heap.size,0,none⟩=some (.int .i64 xi)/\W1.cell? ⟨w.heap.size,1,none⟩=some (.slice au lu cu)/\W1.cell? ⟨tb,0,none⟩=some (.int .i64 (m:Int))/\W1.cell? ⟨tb,1,none⟩=some (.slice a n cap)):=⟨b0,b1,c0,c1⟩
 clear hau hlu HU' LX hb ho hdr hri hl5 hG hn hdl hi hz0 hz1 hz2 hi' hz0' hz1' hz2' h1 h2
 go_enter Tryz.func42,Tryz.ntmps42
 go_wp2_with fail
 rw [<- hW1]
 clear hW1
 go_wp2_with fail
 refine (cI _).mono ?_
 rintro e wa ⟨rfl,rfl⟩
 clear cI
 go_wp2_with fail
 refine wp_region_held_drew (S:=fun W=>Gb W1 W) (by kernel_rfl) (GD) (fun hHeld=>?_)
 refine tkn 0 ?_ rfl ?_ ?_;rotate_left;·(intro w hSw;obtain ⟨s0,s1,s2,s3⟩:=kp4 hSw b0 b1 c0 c1;go_simp;try rfl)
 refine tkn 1 ?_ rfl ?_ ?_;rotate_left;·(intro w hSw;obtain ⟨s0,s1,s2,s3⟩:=kp4 hSw b0 b1 c0 c1;go_simp;try rfl)
 refine tkn 2 ?_ rfl ?_ ?_;rotate_left;·(intro w hSw;obtain ⟨s0,s1,s2,s3⟩:=kp4 hSw b0 b1 c0 c1;go_simp;try rfl)
 refine tkn 3 ?_ rfl ?_ ?_;rotate_left;·(intro w hSw;obtain ⟨s0,s1,s2,s3⟩:=kp4 hSw b0 b1 c0 c1;go_simp;try rfl)
 refine tkn 4 ?_ rfl ?_ ?_;rotate_left;·(intro w hSw;obtain ⟨s0,s1,s2,s3⟩:=kp4 hSw b0 b1 c0 c1;go_simp;try rfl)
 refine tkn 5 ?_ rfl ?_ ?_;rotate_left;·(intro w hSw;obtain ⟨s0,s1,s2,s3⟩:=kp4 hSw b0 b1 c0 c1;go_simp;try rfl)
 refine rdn 6 rfl (fun K hK=>?_)
 go_simp
 refine (cC _ hHeld).mono ?_
 rintro e w3 ⟨rfl,rfl⟩
 refine hK.out _ _ (hHeld) (fun hHeld=>?_)
 clear hK K
 refine tkn 7 ?_ rfl ?_ ?_;rotate_left;·(intro w hSw;obtain ⟨s0,s1,s2,s3⟩:=kp4 hSw b0 b1 c0 c1;go_simp;try rfl)
 refine wpAnyH_done (by kernel_rfl) ?_ _
 have X3:Hid (Gb W1 W1.drew):=hHeld
 clear hHeld GD b0 b1 c0 c1 cC
 go_wp2
 go_loopw [7] (fun iv W=>∃ q:Nat,iv=.int .i64 (q:Int)/\q<=n/\Hid ((∀ i,i < q->rs[i]!.1 < xi)/\Gb W1 W)) (fun iv _=>n - (intOf iv).toNat)
 case atStart=>exact ⟨0,rfl,Nat.zero_le _,fun i hi=>absurd hi (Nat.not_lt_zero _),X3.out⟩
 case round =>
  clear X3
  obtain ⟨q,rfl,hq,X⟩:=hrel
  obtain ⟨b0,b1,c0,c1⟩:=B0.out
  have b0:=gb_keeps X.out.2 b0
  have b1:=gb_keeps X.out.2 b1
  have c0:=gb_keeps X.out.2 c0
  have c1:=gb_keeps X.out.2 c1
  by_cases hqn:q < n
  ·have hqi:(q:Int) < (n:Int):=by omega
   have hql:q < rs.length:=by have:=NR.out;omega
   obtain ⟨_,_,e,hc⟩:=RW.out
   injection e with e1 e2 e3
   subst e1 e3
   obtain ⟨rb,ro,_,e,r0,_,_⟩:=hc q hql
   subst e
   have r0:=gb_keeps (gb_trans G0.out X.out.2) r0
   clear hc e2
   by_cases hlt:rs[q]!.1 < xi
   ·have R:Hid (∀ i,i < q + 1->rs[i]!.1 < xi):=fun i hi=>by
     by_cases e:i=q
     ·rw [e];exact hlt
     ·exact X.out.1 i (by omega)
    generalize rs[q]!.1=y at *
    go_wp2
    go_quiet (fail)
    have XN:Hid (Gb W1 (wr.drewN nq)):=gb_trans X.out.2 (below_drewN (Below.refl _ _) _)
    clear b0 b1 c0 c1 r0
    go_wp2
    go_roundw
    case rel=>exact ⟨q + 1,by first | rfl | go_num | simp,hqn,R.out,XN.out⟩
    case measure=>simp [intOf];omega
   ·have hpq:plc rs xi=q:=plc_stop RI.out (by omega) X.out.1 (fun _=>hlt)
    have hqe:((q:Int) == (n:Int))=false:=by rw [beq_eq_false_iff_ne];omega
    have hqe':¬ (q:Int)=(n:Int):=by omega
    by_cases hxe:rs[q]!.1=xi
    ·have ht:hasId rs xi=true:=thas_at hql hxe
     rw [hxe] at r0 hlt
     go_wp2
     go_quiet (fail)
     have GX0:Gb wr (wr.drewN nq):=below_drewN (Below.refl _ _) _
     generalize wr.drewN nq=wx at GX0 ⊢
     have b0:=gb_keeps GX0 b0
     have b1:=gb_keeps GX0 b1
     have c0:=gb_keeps GX0 c0
     have c1:=gb_keeps GX0 c1
     have r0:=gb_keeps GX0 r0
     clear nq
     go_wp2
     go_quiet (fail)
     have GY0:Gb wx (wx.drewN nq):=below_drewN (Below.refl _ _) _
     generalize wx.drewN nq=wy at GY0 ⊢
     have b0:=gb_keeps GY0 b0
     have b1:=gb_keeps GY0 b1
     have c0:=gb_keeps GY0 c0
     have c1:=gb_keeps GY0 c1
     have GY:Hid (Gb W1 wy):=gb_trans X.out.2 (gb_trans GX0 GY0)
     clear nq GX0 GY0 r0
     generalize (some (⟨rb,ro,none⟩:Addr))=a at *
     have C1:Hid (wy.cell? ⟨tb,1,none⟩=some (.slice a n cap)):=c1
     have FZ:Hid (∀ W,Gb wy W->W.frozen? ⟨tb,1,none⟩=false):=fun W g=>(gb_froz g C1.out).trans ((TA.out.gb (gb_trans G0.out GY.out)).froz)
     clear X
     have PT:Hid (putRw rs (xi,xl)=rs.take q ++ (xi,xl) :: rs.drop (q + 1)):=by
      unfold Hid
      rw [put_at RI.out,hpq,ht]
      rfl
     have PR:Hid (Ris (putRw rs (xi,xl))):=putRw_ris RI.out
     have PL:Hid ((putRw rs (xi,xl)).length<=512):=put_len (m:=m) RI.out (by have:=N5.out;have:=NR.out;omega) (PE.out.2.1 ht)
     have FQ:Hid (∀ e w',e=.returned (.tuple #[.bool false,.int .i64 0])->TbOut w tb m (putRw rs (xi,xl)) G w'->PO e w'):=fun e w' he h=>FP.out _ _ false ht (PE.out.2.1 ht) he h
     clear hpq hxe ht hlt hql
     have D0:Hid (OwnRs IqT wy (.slice a n cap) d):=(HO.out.gb (gb_trans G0.out GY.out))
     obtain ⟨t1,t2⟩:=take_news D0.out q (by omega)
     generalize hA:(if cap=q + 1 then a else Option.map (fun x=>x.add ((q + 1) * 2)) a)=a2
     obtain ⟨t3,t4⟩:=rest_news D0.out (q + 1) (by omega) hA
     have T1:Hid (a=none->q=0/\cap=0):=t1
     have T2:Hid (∀ ad,a=some ad->∀ j u,((d.take q).flatMap encR)[j]? = some u->wy.cell? (ad.add j)=some u):=t2
     have T3:Hid (a2=none->n - (q + 1)=0/\cap - (q + 1)=0):=t3
     have T4:Hid (∀ ad,a2=some ad->∀ j u,((d.drop (q + 1)).flatMap encR)[j]? = some u->wy.cell? (ad.add j)=some u):=t4
     have T5:Hid (∀ ad,au=some ad->∀ j u,(xl.map (Value.int .i64))[j]? = some u->wy.cell? (ad.add j)=some u):=ints_news (HU.out.gb (gb_trans G0.out GY.out))
     have hA':∀ (x y:Nat),Value.slice (if cap=q + 1 then a else Option.map (fun x=>x.add ((q + 1) * 2)) a) x y=Value.slice a2 x y:=fun x y=>by rw [hA]
     have hcn:n<=cap:=CN.out
     have hq0:(0:Int)<=(q:Int):=by omega
     have hq1:(q:Int)<=(cap:Int):=by omega
     have hq2:(q:Int)<=(n:Int):=by omega
     have hq3:(n:Int)<=(cap:Int):=by omega
     clear t1 t2 t3 t4
     go_wp2_with (first
      | (at_builtin;refine append_any rfl _ _ 41 rfl wy.heap.size 3 j0 (.int .i64 0) 1 8 Tryz.underlying41 JJ.out.1 JJ.out.2.1 JJ.out.2.2.1 JJ.out.2.2.2 rfl (by decide) (.slice none 0 0) 0 [] rfl (World.ownsRow_nil _ _ _ _) au lu cu (xl.map (Value.int .i64)) rfl UN.out (by rw [List.length_map,<- LU.out];omega) T5.out (ints_oneCell .i64 _) (by have:=LL.out;simp only [maxLen];omega) (by have:=LL.out;omega) (Nat.le_refl _) ?_;intro v1 w1 ho1 hg1 _;have G1:Gb wy w1:=below_grown (Below.refl _ _) hg1 (fun k e=>by cases e) (Nat.le_refl _);have c1:=gb_keeps G1 c1;have b0:=gb_keeps G1 b0;rw [Nat.zero_add] at ho1;obtain ⟨a1,k1,e1⟩:=owns_form ho1;subst e1)
      | (at_builtin;refine append_any rfl _ _ 22 rfl wy.heap.size 43 i0 (.agg #[.int .i64 0,.slice none 0 0]) 2 32 Tryz.underlying22 II.out.1 II.out.2.1 II.out.2.2.1 II.out.2.2.2 rfl (by decide) (.slice none 0 0) 0 [] rfl (World.ownsRow_nil _ _ _ _) a q cap ((d.take q).flatMap encR) rfl T1.out (by rw [encR_len,List.length_take,DL.out];omega) (fun ad e j u h=>gb_keeps G1 (T2.out ad e j u h)) (fun u hu=>encR_one D0.out.vec u (List.mem_of_mem_take (by rw [flat_takeR];exact hu))) (by have:=N5.out;simp only [maxLen];omega) (by have:=N5.out;omega) G1.size ?_;intro v2 w2 ho2 hg2 _;have G2:Gb w1 w2:=below_grown (Below.refl _ _) hg2 (fun k e=>by cases e) (Nat.le_refl _);have b0:=gb_keeps G2 b0;have c1:=gb_keeps G2 c1)
      | (at_builtin;refine append_any rfl _ _ 22 rfl wy.heap.size 43 i0 (.agg #[.int .i64 0,.slice none 0 0]) 2 32 Tryz.underlying22 II.out.1 II.out.2.1 II.out.2.2.1 II.out.2.2.2 rfl (by decide) v2 (0 + q) ([] ++ (d.take q).flatMap encR) rfl (ho2.alloc _) (some ⟨w2.heap.size,0,none⟩) 1 1 [.int .i64 xi,.slice a1 lu k1] rfl (fun e=>by cases e) rfl (fun ad e=>by cases e;exact two_cells _ _ _ _) (by intro y hy;simp only [List.mem_cons,List.not_mem_nil,or_false] at hy;rcases hy with rfl | rfl <;> rfl) (by have:=N5.out;simp only [maxLen];omega) (by have:=N5.out;omega) (Nat.le_trans (gb_trans G1 G2).size (by simp)) ?_;intro v3 w3 ho3 hg3 _)
      | (at_builtin;refine append_any rfl _ _ 22 rfl wy.heap.size 43 i0 (.agg #[.int .i64 0,.slice none 0 0]) 2 32 Tryz.underlying22 II.out.1 II.out.2.1 II.out.2.2.1 II.out.2.2.2 rfl (by decide) v3 (0 + q + 1) ([] ++ (d.take q).flatMap encR ++ [.int .i64 xi,.slice a1 lu k1]) rfl ho3 a2 (n - (q + 1)) (cap - (q + 1)) ((d.drop (q + 1)).flatMap encR) rfl T3.out (by rw [encR_len,List.length_drop,DL.out]) (fun ad e j u h=>gb_keeps (below_grown (gb_alloc (gb_trans G1 G2) _) hg3 (fun k e=>(ho2.lt k e).1) (gb_alloc (gb_trans G1 G2) _).size) (T4.out ad e j u h)) (fun u hu=>encR_one D0.out.vec u (List.mem_of_mem_drop (by rw [flat_dropR];exact hu))) (by have:=N5.out;simp only [maxLen];omega) (by have:=N5.out;omega) (below_grown (gb_alloc (gb_trans G1 G2) _) hg3 (fun k e=>(ho2.lt k e).1) (gb_alloc (gb_trans G1 G2) _).size).size ?_;intro v4 w4 ho4 hg4 _;obtain ⟨FF,G4⟩:=put_fin TA.out HO.out DR.out (gb_trans G0.out GY.out) LU.out ho1 hg1 ho2 hg2 ho3 hg3 ho4 hg4 (by rw [DL.out]) (by rw [DL.out];omega) PT.out PR.out PL.out;have f1:=FZ.out w4 G4;have c1:=gb_keeps G4 C1.out;generalize 0 + q + 1 + (n - (q + 1))=n4 at ho4;obtain ⟨a4,k4,e4⟩:=owns_form ho4;subst e4)
      | go_in)
     have FX:Hid _:=FF
     clear FF ho1 hg1 ho2 hg2 ho3 hg3 ho4 hg4
     go_wp2
     exact FQ.out _ _ rfl FX.out
    ·have hf:hasId rs xi=false:=has_stop RI.out hpq (fun _=>hxe)
     have hxb:(rs[q]!.1 == xi)=false:=by rw [beq_eq_false_iff_ne];exact hxe
     have hxn:(rs[q]!.1 != xi)=true:=by rw [bne,hxb];rfl
     generalize rs[q]!.1=y at *
     go_wp2
     go_quiet (fail)
     have GX0:Gb wr (wr.drewN nq):=below_drewN (Below.refl _ _) _
     generalize wr.drewN nq=wx at GX0 ⊢
     have b0:=gb_keeps GX0 b0
     have b1:=gb_keeps GX0 b1
     have c0:=gb_keeps GX0 c0
     have c1:=gb_keeps GX0 c1
     have r0:=gb_keeps GX0 r0
     clear nq
     go_wp2
     go_quiet (fail)
     have GY0:Gb wx (wx.drewN nq):=below_drewN (Below.refl _ _) _
     generalize wx.drewN nq=wy at GY0 ⊢
     have b0:=gb_keeps GY0 b0
     have b1:=gb_keeps GY0 b1
     have c0:=gb_keeps GY0 c0
     have c1:=gb_keeps GY0 c1
     have GY:Hid (Gb W1 wy):=gb_trans X.out.2 (gb_trans GX0 GY0)
     clear nq GX0 GY0 r0
     generalize (some (⟨rb,ro,none⟩:Addr))=a at *
     have C1:Hid (wy.cell? ⟨tb,1,none⟩=some (.slice a n cap)):=c1
     have FZ:Hid (∀ W,Gb wy W->W.frozen? ⟨tb,1,none⟩=false):=fun W g=>(gb_froz g C1.out).trans ((TA.out.gb (gb_trans G0.out GY.out)).froz)
     clear X
     by_cases hn5:512<=n
     ·skip
      have F2:Hid (TbOut w tb m rs G wy):=⟨G,TA.out.gb (gb_trans G0.out GY.out),fun y hy=>.inl hy,Tk.Kp.of_gr (gb_trans G0.out GY.out)⟩
      have hn5':(512:Int)<=(n:Int):=by omega
      clear n512 hn5
      go_wp2
      exact FL.out _ _ hf (by have:=NR.out;omega) rfl F2.out
     have PT:Hid (putRw rs (xi,xl)=rs.take q ++ (xi,xl) :: rs.drop (q)):=by
      unfold Hid
      rw [put_at RI.out,hpq,hf]
      rfl
     have PR:Hid (Ris (putRw rs (xi,xl))):=putRw_ris RI.out
     have PL:Hid ((putRw rs (xi,xl)).length<=512):=put_len (m:=m) RI.out (by have:=N5.out;have:=NR.out;omega) (PE.out.1 hf (by have:=NR.out;omega))
     have FQ:Hid (∀ e w',e=.returned (.tuple #[.bool true,.int .i64 0])->TbOut w tb m (putRw rs (xi,xl)) G w'->PO e w'):=fun e w' he h=>FP.out _ _ true hf (PE.out.1 hf (by have:=NR.out;omega)) he h
     have hn6:¬ (512:Int)<=(n:Int):=by omega
     clear hpq hxe hf hlt hql hxb hxn hn5
     have D0:Hid (OwnRs IqT wy (.slice a n cap) d):=(HO.out.gb (gb_trans G0.out GY.out))
     obtain ⟨t1,t2⟩:=take_news D0.out q (by omega)
     generalize hA:(if cap=q then a else Option.map (fun x=>x.add ((q) * 2)) a)=a2
     obtain ⟨t3,t4⟩:=rest_news D0.out (q) (by omega) hA
     have T1:Hid (a=none->q=0/\cap=0):=t1
     have T2:Hid (∀ ad,a=some ad->∀ j u,((d.take q).flatMap encR)[j]? = some u->wy.cell? (ad.add j)=some u):=t2
     have T3:Hid (a2=none->n - (q)=0/\cap - (q)=0):=t3
     have T4:Hid (∀ ad,a2=some ad->∀ j u,((d.drop (q)).flatMap encR)[j]? = some u->wy.cell? (ad.add j)=some u):=t4
     have T5:Hid (∀ ad,au=some ad->∀ j u,(xl.map (Value.int .i64))[j]? = some u->wy.cell? (ad.add j)=some u):=ints_news (HU.out.gb (gb_trans G0.out GY.out))
     have hA':∀ (x y:Nat),Value.slice (if cap=q then a else Option.map (fun x=>x.add ((q) * 2)) a) x y=Value.slice a2 x y:=fun x y=>by rw [hA]
     have hA2:Option.map (fun x=>x.add (q * 2)) a=a2:=by rw [<- hA,if_neg (by have:=CN.out;omega)]
     have hA3:∀ (x y:Nat),Value.slice (Option.map (fun x=>x.add (q * 2)) a) x y=Value.slice a2 x y:=fun x y=>by rw [hA2]
     clear hA2
     have hcn:n<=cap:=CN.out
     have hq0:(0:Int)<=(q:Int):=by omega
     have hq1:(q:Int)<=(cap:Int):=by omega
     have hq2:(q:Int)<=(n:Int):=by omega
     have hq3:(n:Int)<=(cap:Int):=by omega
     clear t1 t2 t3 t4
     go_wp2_with (first
      | (at_builtin;refine append_any rfl _ _ 41 rfl wy.heap.size 3 j0 (.int .i64 0) 1 8 Tryz.underlying41 JJ.out.1 JJ.out.2.1 JJ.out.2.2.1 JJ.out.2.2.2 rfl (by decide) (.slice none 0 0) 0 [] rfl (World.ownsRow_nil _ _ _ _) au lu cu (xl.map (Value.int .i64)) rfl UN.out (by rw [List.length_map,<- LU.out];omega) T5.out (ints_oneCell .i64 _) (by have:=LL.out;simp only [maxLen];omega) (by have:=LL.out;omega) (Nat.le_refl _) ?_;intro v1 w1 ho1 hg1 _;have G1:Gb wy w1:=below_grown (Below.refl _ _) hg1 (fun k e=>by cases e) (Nat.le_refl _);have c1:=gb_keeps G1 c1;have b0:=gb_keeps G1 b0;rw [Nat.zero_add] at ho1;obtain ⟨a1,k1,e1⟩:=owns_form ho1;subst e1)
      | (at_builtin;refine append_any rfl _ _ 22 rfl wy.heap.size 43 i0 (.agg #[.int .i64 0,.slice none 0 0]) 2 32 Tryz.underlying22 II.out.1 II.out.2.1 II.out.2.2.1 II.out.2.2.2 rfl (by decide) (.slice none 0 0) 0 [] rfl (World.ownsRow_nil _ _ _ _) a q cap ((d.take q).flatMap encR) rfl T1.out (by rw [encR_len,List.length_take,DL.out];omega) (fun ad e j u h=>gb_keeps G1 (T2.out ad e j u h)) (fun u hu=>encR_one D0.out.vec u (List.mem_of_mem_take (by rw [flat_takeR];exact hu))) (by have:=N5.out;simp only [maxLen];omega) (by have:=N5.out;omega) G1.size ?_;intro v2 w2 ho2 hg2 _;have G2:Gb w1 w2:=below_grown (Below.refl _ _) hg2 (fun k e=>by cases e) (Nat.le_refl _);have b0:=gb_keeps G2 b0;have c1:=gb_keeps G2 c1)
      | (at_builtin;refine append_any rfl _ _ 22 rfl wy.heap.size 43 i0 (.agg #[.int .i64 0,.slice none 0 0]) 2 32 Tryz.underlying22 II.out.1 II.out.2.1 II.out.2.2.1 II.out.2.2.2 rfl (by decide) v2 (0 + q) ([] ++ (d.take q).flatMap encR) rfl (ho2.alloc _) (some ⟨w2.heap.size,0,none⟩) 1 1 [.int .i64 xi,.slice a1 lu k1] rfl (fun e=>by cases e) rfl (fun ad e=>by cases e;exact two_cells _ _ _ _) (by intro y hy;simp only [List.mem_cons,List.not_mem_nil,or_false] at hy;rcases hy with rfl | rfl <;> rfl) (by have:=N5.out;simp only [maxLen];omega) (by have:=N5.out;omega) (Nat.le_trans (gb_trans G1 G2).size (by simp)) ?_;intro v3 w3 ho3 hg3 _)
      | (at_builtin;refine append_any rfl _ _ 22 rfl wy.heap.size 43 i0 (.agg #[.int .i64 0,.slice none 0 0]) 2 32 Tryz.underlying22 II.out.1 II.out.2.1 II.out.2.2.1 II.out.2.2.2 rfl (by decide) v3 (0 + q + 1) ([] ++ (d.take q).flatMap encR ++ [.int .i64 xi,.slice a1 lu k1]) rfl ho3 a2 (n - (q)) (cap - (q)) ((d.drop (q)).flatMap encR) rfl T3.out (by rw [encR_len,List.length_drop,DL.out]) (fun ad e j u h=>gb_keeps (below_grown (gb_alloc (gb_trans G1 G2) _) hg3 (fun k e=>(ho2.lt k e).1) (gb_alloc (gb_trans G1 G2) _).size) (T4.out ad e j u h)) (fun u hu=>encR_one D0.out.vec u (List.mem_of_mem_drop (by rw [flat_dropR];exact hu))) (by have:=N5.out;simp only [maxLen];omega) (by have:=N5.out;omega) (below_grown (gb_alloc (gb_trans G1 G2) _) hg3 (fun k e=>(ho2.lt k e).1) (gb_alloc (gb_trans G1 G2) _).size).size ?_;intro v4 w4 ho4 hg4 _;obtain ⟨FF,G4⟩:=put_fin TA.out HO.out DR.out (gb_trans G0.out GY.out) LU.out ho1 hg1 ho2 hg2 ho3 hg3 ho4 hg4 (by rw [DL.out]) (by rw [DL.out];omega) PT.out PR.out PL.out;have f1:=FZ.out w4 G4;have c1:=gb_keeps G4 C1.out;generalize 0 + q + 1 + (n - (q))=n4 at ho4;obtain ⟨a4,k4,e4⟩:=owns_form ho4;subst e4)
      | go_in)
     have FX:Hid _:=FF
     clear FF ho1 hg1 ho2 hg2 ho3 hg3 ho4 hg4
     go_wp2
     exact FQ.out _ _ rfl FX.out
  ·have hqe:q=n:=by omega
   have hpq:plc rs xi=q:=plc_stop RI.out (by have:=NR.out;omega) X.out.1 (fun h=>by have:=NR.out;omega)
   have hf:hasId rs xi=false:=has_stop RI.out hpq (fun h=>by have:=NR.out;omega)
   have hqi:¬ (q:Int) < (n:Int):=by omega
   have hqb:((q:Int) == (n:Int))=true:=by rw [beq_iff_eq];omega
   clear hqe
   go_wp2
   go_quiet (fail)
   have GX0:Gb wr (wr.drewN nq):=below_drewN (Below.refl _ _) _
   generalize wr.drewN nq=wx at GX0 ⊢
   have b0:=gb_keeps GX0 b0
   have b1:=gb_keeps GX0 b1
   have c0:=gb_keeps GX0 c0
   have c1:=gb_keeps GX0 c1
   clear nq
   go_wp2
   go_quiet (fail)
   have GY0:Gb wx (wx.drewN nq):=below_drewN (Below.refl _ _) _
   generalize wx.drewN nq=wy at GY0 ⊢
   have b0:=gb_keeps GY0 b0
   have b1:=gb_keeps GY0 b1
   have c0:=gb_keeps GY0 c0
   have c1:=gb_keeps GY0 c1
   have GY:Hid (Gb W1 wy):=gb_trans X.out.2 (gb_trans GX0 GY0)
   clear nq GX0 GY0
   have C1:Hid (wy.cell? ⟨tb,1,none⟩=some (.slice a n cap)):=c1
   have FZ:Hid (∀ W,Gb wy W->W.frozen? ⟨tb,1,none⟩=false):=fun W g=>(gb_froz g C1.out).trans ((TA.out.gb (gb_trans G0.out GY.out)).froz)
   clear X
   by_cases hn5:512<=n
   ·skip
    have F2:Hid (TbOut w tb m rs G wy):=⟨G,TA.out.gb (gb_trans G0.out GY.out),fun y hy=>.inl hy,Tk.Kp.of_gr (gb_trans G0.out GY.out)⟩
    have hn5':(512:Int)<=(n:Int):=by omega
    clear n512 hn5
    go_wp2
    exact FL.out _ _ hf (by have:=NR.out;omega) rfl F2.out
   have PT:Hid (putRw rs (xi,xl)=rs.take q ++ (xi,xl) :: rs.drop (q)):=by
    unfold Hid
    rw [put_at RI.out,hpq,hf]
    rfl
   have PR:Hid (Ris (putRw rs (xi,xl))):=putRw_ris RI.out
   have PL:Hid ((putRw rs (xi,xl)).length<=512):=put_len (m:=m) RI.out (by have:=N5.out;have:=NR.out;omega) (PE.out.1 hf (by have:=NR.out;omega))
   have FQ:Hid (∀ e w',e=.returned (.tuple #[.bool true,.int .i64 0])->TbOut w tb m (putRw rs (xi,xl)) G w'->PO e w'):=fun e w' he h=>FP.out _ _ true hf (PE.out.1 hf (by have:=NR.out;omega)) he h
   have hn6:¬ (512:Int)<=(n:Int):=by omega
   clear hpq hf hn5
   have D0:Hid (OwnRs IqT wy (.slice a n cap) d):=(HO.out.gb (gb_trans G0.out GY.out))
   obtain ⟨t1,t2⟩:=take_news D0.out q (by omega)
   generalize hA:(if cap=q then a else Option.map (fun x=>x.add ((q) * 2)) a)=a2
   obtain ⟨t3,t4⟩:=rest_news D0.out (q) (by omega) hA
   have T1:Hid (a=none->q=0/\cap=0):=t1
   have T2:Hid (∀ ad,a=some ad->∀ j u,((d.take q).flatMap encR)[j]? = some u->wy.cell? (ad.add j)=some u):=t2
   have T3:Hid (a2=none->n - (q)=0/\cap - (q)=0):=t3
   have T4:Hid (∀ ad,a2=some ad->∀ j u,((d.drop (q)).flatMap encR)[j]? = some u->wy.cell? (ad.add j)=some u):=t4
   have T5:Hid (∀ ad,au=some ad->∀ j u,(xl.map (Value.int .i64))[j]? = some u->wy.cell? (ad.add j)=some u):=ints_news (HU.out.gb (gb_trans G0.out GY.out))
   have hA':∀ (x y:Nat),Value.slice (if cap=q then a else Option.map (fun x=>x.add ((q) * 2)) a) x y=Value.slice a2 x y:=fun x y=>by rw [hA]
   have hcn:n<=cap:=CN.out
   have hq0:(0:Int)<=(q:Int):=by omega
   have hq1:(q:Int)<=(cap:Int):=by omega
   have hq2:(q:Int)<=(n:Int):=by omega
   have hq3:(n:Int)<=(cap:Int):=by omega
   clear t1 t2 t3 t4 n512 hcn hq hqn hqi hqb
   go_wp2_with (first
    | (at_builtin;refine append_any rfl _ _ 41 rfl wy.heap.size 3 j0 (.int .i64 0) 1 8 Tryz.underlying41 JJ.out.1 JJ.out.2.1 JJ.out.2.2.1 JJ.out.2.2.2 rfl (by decide) (.slice none 0 0) 0 [] rfl (World.ownsRow_nil _ _ _ _) au lu cu (xl.map (Value.int .i64)) rfl UN.out (by rw [List.length_map,<- LU.out];omega) T5.out (ints_oneCell .i64 _) (by have:=LL.out;simp only [maxLen];omega) (by have:=LL.out;omega) (Nat.le_refl _) ?_;intro v1 w1 ho1 hg1 _;have G1:Gb wy w1:=below_grown (Below.refl _ _) hg1 (fun k e=>by cases e) (Nat.le_refl _);have c1:=gb_keeps G1 c1;have b0:=gb_keeps G1 b0;rw [Nat.zero_add] at ho1;obtain ⟨a1,k1,e1⟩:=owns_form ho1;subst e1)
    | (at_builtin;refine append_any rfl _ _ 22 rfl wy.heap.size 43 i0 (.agg #[.int .i64 0,.slice none 0 0]) 2 32 Tryz.underlying22 II.out.1 II.out.2.1 II.out.2.2.1 II.out.2.2.2 rfl (by decide) (.slice none 0 0) 0 [] rfl (World.ownsRow_nil _ _ _ _) a q cap ((d.take q).flatMap encR) rfl T1.out (by rw [encR_len,List.length_take,DL.out];omega) (fun ad e j u h=>gb_keeps G1 (T2.out ad e j u h)) (fun u hu=>encR_one D0.out.vec u (List.mem_of_mem_take (by rw [flat_takeR];exact hu))) (by have:=N5.out;simp only [maxLen];omega) (by have:=N5.out;omega) G1.size ?_;intro v2 w2 ho2 hg2 _;have G2:Gb w1 w2:=below_grown (Below.refl _ _) hg2 (fun k e=>by cases e) (Nat.le_refl _);have b0:=gb_keeps G2 b0;have c1:=gb_keeps G2 c1)
    | (at_builtin;refine append_any rfl _ _ 22 rfl wy.heap.size 43 i0 (.agg #[.int .i64 0,.slice none 0 0]) 2 32 Tryz.underlying22 II.out.1 II.out.2.1 II.out.2.2.1 II.out.2.2.2 rfl (by decide) v2 (0 + q) ([] ++ (d.take q).flatMap encR) rfl (ho2.alloc _) (some ⟨w2.heap.size,0,none⟩) 1 1 [.int .i64 xi,.slice a1 lu k1] rfl (fun e=>by cases e) rfl (fun ad e=>by cases e;exact two_cells _ _ _ _) (by intro y hy;simp only [List.mem_cons,List.not_mem_nil,or_false] at hy;rcases hy with rfl | rfl <;> rfl) (by have:=N5.out;simp only [maxLen];omega) (by have:=N5.out;omega) (Nat.le_trans (gb_trans G1 G2).size (by simp)) ?_;intro v3 w3 ho3 hg3 _)
    | (at_builtin;refine append_any rfl _ _ 22 rfl wy.heap.size 43 i0 (.agg #[.int .i64 0,.slice none 0 0]) 2 32 Tryz.underlying22 II.out.1 II.out.2.1 II.out.2.2.1 II.out.2.2.2 rfl (by decide) v3 (0 + q + 1) ([] ++ (d.take q).flatMap encR ++ [.int .i64 xi,.slice a1 lu k1]) rfl ho3 a2 (n - (q)) (cap - (q)) ((d.drop (q)).flatMap encR) rfl T3.out (by rw [encR_len,List.length_drop,DL.out]) (fun ad e j u h=>gb_keeps (below_grown (gb_alloc (gb_trans G1 G2) _) hg3 (fun k e=>(ho2.lt k e).1) (gb_alloc (gb_trans G1 G2) _).size) (T4.out ad e j u h)) (fun u hu=>encR_one D0.out.vec u (List.mem_of_mem_drop (by rw [flat_dropR];exact hu))) (by have:=N5.out;simp only [maxLen];omega) (by have:=N5.out;omega) (below_grown (gb_alloc (gb_trans G1 G2) _) hg3 (fun k e=>(ho2.lt k e).1) (gb_alloc (gb_trans G1 G2) _).size).size ?_;intro v4 w4 ho4 hg4 _;obtain ⟨FF,G4⟩:=put_fin TA.out HO.out DR.out (gb_trans G0.out GY.out) LU.out ho1 hg1 ho2 hg2 ho3 hg3 ho4 hg4 (by rw [DL.out]) (by rw [DL.out];omega) PT.out PR.out PL.out;have f1:=FZ.out w4 G4;have c1:=gb_keeps G4 C1.out;generalize 0 + q + 1 + (n - (q))=n4 at ho4;obtain ⟨a4,k4,e4⟩:=owns_form ho4;subst e4)
    | go_in)
   have FX:Hid _:=FF
   clear FF ho1 hg1 ho2 hg2 ho3 hg3 ho4 hg4
   go_wp2
   exact FQ.out _ _ rfl FX.out
theorem tput_c {w:World} {tb m:Nat} {rs:List Rw} {G:List Nat} {xi:Int} {u:Value} {xl:List Int} (h:TbAt w tb m rs G) (hu:RdI w u xl):Calls Tryz.prog 42 #[.pointer (some ⟨tb,0,none⟩),.agg #[.int .i64 xi,u]] w fun e w'=>e=.returned (.tuple #[.bool (decide (putE m rs (xi,xl)=0) && !hasId rs xi),.int .i64 (putE m rs (xi,xl))])/\TbOut w tb m (if putE m rs (xi,xl)=0 then putRw rs (xi,xl) else rs) G w':=by
 by_cases h1:okId xi=true
 ·by_cases h2:chk xl (m:Int)=0
  ·exact tput_in h hu h1 h2
  ·refine (tput_chk h hu h1 rfl h2).mono ?_
   rintro e w' ⟨rfl,ho⟩
   have he:putE m rs (xi,xl)=chk xl (m:Int):=by unfold putE;rw [if_pos h1,if_neg h2]
   rw [he,if_neg h2,decide_eq_false h2]
   exact ⟨rfl,ho⟩
 ·refine (tput_id h hu (Bool.eq_false_iff.2 h1)).mono ?_
  rintro e w' ⟨rfl,ho⟩
  have he:putE m rs (xi,xl)=50:=by unfold putE;rw [if_neg h1]
  rw [he,if_neg (by decide)]
  exact ⟨rfl,ho⟩
end Go.Proofs.YtcipdampcmfmaaaGreat

namespace Go.Proofs.YtcipdampcmfmaaaGreat
open Go.RowKit Go.Sort Go.Maps
set_option maxRecDepth 100000
set_option maxHeartbeats 2000000
def putQ (m:Nat) (rs:List Rw) (r:Rw):List Rw:=if putE m rs r=0 then putRw rs r else rs
theorem putsQ_same {m:Nat}:∀ {l:List Rw},RowsOk l (m:Int)->Ris (l.foldr (fun r a=>putQ m a r) [])/\(l.foldr (fun r a=>putQ m a r) []).Perm l
 | [],_=>⟨List.Pairwise.nil,List.Perm.refl _⟩
 | r :: l,h=>by
  have hl:RowsOk l (m:Int):=h.sub (List.sublist_cons_self r l)
  obtain ⟨a,p⟩:=putsQ_same hl
  rw [List.foldr_cons]
  generalize l.foldr (fun r a=>putQ m a r) []=x at a p
  have hn:∀ y ∈ x,y.1 ≠ r.1:=fun y hy e=>by
   have h1:=h.ids
   unfold idsOf at h1
   rw [List.map_cons,List.pairwise_cons] at h1
   exact h1.1 y.1 (List.mem_map.2 ⟨y,p.mem_iff.1 hy,rfl⟩) e.symm
  have hd:delRw x r.1=x:=by
   unfold delRw
   rw [List.filter_eq_self]
   intro y hy
   have:=hn y hy
   simpa using this
  have hf:=h.few
  have he:putE m x r=0:=by
   obtain ⟨h1,h2⟩:=h.row r List.mem_cons_self
   unfold putE
   rw [if_pos h1,if_pos h2,if_neg]
   rintro ⟨_,h4⟩
   rw [p.length_eq] at h4
   simp at hf
   omega
  unfold putQ
  rw [if_pos he]
  unfold putRw
  rw [hd]
  refine ⟨ins_ris a hn,(ins_perm x r).trans ?_⟩
  exact (List.perm_append_singleton r x).trans (p.cons r)
theorem puts_l {m:Nat} {l rs:List Rw} (h:RowsOk l (m:Int)) (hr:Ris rs) (hp:rs.Perm l):l.foldl (putQ m) []=rs:=by
 have h':RowsOk l.reverse (m:Int):=h.perm (List.reverse_perm l).symm
 obtain ⟨a,p⟩:=putsQ_same h'
 rw [List.foldr_reverse] at a p
 exact ris_eq a hr ((p.trans (List.reverse_perm l)).trans hp.symm)
theorem tb_new {w:World} {m:Nat}:TbAt (w.alloc (.cells #[.int .i64 (m:Int),.slice none 0 0] 83)) w.heap.size m [] [w.heap.size]:=by
 refine ⟨.slice none 0 0,[],heap_new _ _,⟨World.ownsRow_nil _ _ _ _,(fun x hx=>by cases hx),upT _⟩,rfl,List.Pairwise.nil,by simp,rfl⟩
def OfO (w:World) (m:Nat) (rs:List Rw) (e:Ending) (w':World):Prop:=∃ tb G,e=.returned (.pointer (some ⟨tb,0,none⟩))/\TbAt w' tb m rs G/\(∀ y ∈ G,w.heap.size<=y)/\Gb w w'
theorem tof_c {w:World} {v:Value} {l rs:List Rw} {m:Nat} (hv:RdW w v l) (hok:RowsOk l (m:Int)) (hr:Ris rs) (hp:rs.Perm l) :
  Calls Tryz.prog 16 #[v,.int .i64 (m:Int)] w fun e w'=>OfO w m rs e w':=by
 have PS:Hid (l.foldl (putQ m) []=rs):=puts_l hok hr hp
 have V:Hid (RdW w v l):=hv
 obtain ⟨av,cv,ev,_⟩:=hv
 subst ev
 obtain ⟨n,hn⟩:∃ n,n=l.length:=⟨_,rfl⟩
 have N:Hid (n=l.length):=hn
 have n512:n<=512:=by rw [hn];exact hok.few
 have T0:=tb_new (w:=w) (m:=m)
 have G0:Gb w (w.alloc (.cells #[.int .i64 (m:Int),.slice none 0 0] 83)):=gb_alloc (Below.refl _ _) _
 obtain ⟨w1,hw1⟩:∃ w1,w1=w.alloc (.cells #[.int .i64 (m:Int),.slice none 0 0] 83):=⟨_,rfl⟩
 rw [<- hw1] at T0 G0
 have TT:Hid (∃ G,TbAt w1 w.heap.size m [] G/\(∀ y ∈ G,w.heap.size<=y)/\Gb w w1):=⟨_,T0,fun y hy=>by simp at hy;omega,G0⟩
 rw [<- hn] at V ⊢
 clear hn hok hr hp T0 G0
 go_enter Tryz.func16,Tryz.ntmps16
 go_wp2
 rw [<- hw1]
 clear hw1
 go_loopw [6] (fun iv W=>∃ q:Nat,iv=.int .i64 (q:Int)/\q<=n/\Hid (∃ G,TbAt W w.heap.size m ((l.take q).foldl (putQ m) []) G/\(∀ y ∈ G,w.heap.size<=y)/\Gb w W)) (fun iv _=>n - (intOf iv).toNat)
 case atStart=>exact ⟨0,rfl,Nat.zero_le _,TT⟩
 case round =>
  clear TT
  obtain ⟨q,rfl,hq,X⟩:=hrel
  by_cases hqn:q < n
  ·have hqi:(q:Int) < (n:Int):=by omega
   have hql:q < l.length:=by have:=N.out;omega
   obtain ⟨G,tt,hG,g⟩:=X.out
   obtain ⟨_,_,e,hc⟩:=V.out
   injection e with e1 e2 e3
   subst e1 e3
   obtain ⟨rb,ro,ru,e,r0,r1,hr⟩:=hc q hql
   subst e
   have r0:=gb_keeps g r0
   have r1:=gb_keeps g r1
   have cP:=tput_c (xi:=l[q]!.1) tt (hr.gb g)
   have hs:=g.size
   have NX:Hid (∀ W',TbOut wr w.heap.size m (if putE m ((l.take q).foldl (putQ m) []) (l[q]!.1,l[q]!.2)=0 then putRw ((l.take q).foldl (putQ m) []) (l[q]!.1,l[q]!.2) else (l.take q).foldl (putQ m) []) G W'->∃ G,TbAt W' w.heap.size m ((l.take (q + 1)).foldl (putQ m) []) G/\(∀ y ∈ G,w.heap.size<=y)/\Gb w W'):=by
    rintro W' ⟨G',t',l',k'⟩
    rw [List.take_succ_eq_append_getElem hql,List.foldl_append,<- getElem!_pos l q hql]
    refine ⟨G',t',fun y hy=>?_,g.trans (k'.gr hs (fun k e=>by omega))⟩
    rcases l' y hy with h | h
    ·exact hG y h
    ·omega
   obtain ⟨ar,cr,er,_⟩:=hr.rd0
   subst er
   generalize (l.take q).foldl (putQ m) []=rsq at *
   generalize l[q]!.1=xi at *
   generalize hxl:l[q]!.2=xl at *
   generalize putE m rsq (xi,xl)=pe at *
   clear hxl hc e2 hr tt X hG hql hs g
   go_wp2_with fail
   refine cP.mono ?_
   rintro e w3 ⟨rfl,hO⟩
   have XN:Hid _:=NX.out _ hO
   clear cP hO NX r0 r1
   go_wp2
   go_roundw
   case rel=>exact ⟨q + 1,by first | rfl | go_num | simp,hqn,XN⟩
   case measure=>simp [intOf];omega
  ·have hqi:¬ (q:Int) < (n:Int):=by omega
   have FX:Hid (∃ G,TbAt wr w.heap.size m rs G/\(∀ y ∈ G,w.heap.size<=y)/\Gb w wr):=by
    obtain ⟨G,tt,hG,g⟩:=X.out
    rw [List.take_of_length_le (by have:=N.out;omega),PS.out] at tt
    exact ⟨G,tt,hG,g⟩
   clear X
   go_wp2
   go_ret
   obtain ⟨G,tt,hG,g⟩:=FX.out
   exact ⟨_,G,rfl,tt,hG,g⟩
end Go.Proofs.YtcipdampcmfmaaaGreat
