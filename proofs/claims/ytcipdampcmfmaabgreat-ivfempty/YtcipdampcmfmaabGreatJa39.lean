import Derived.Test.YtcipdampcmfmaabGreatJa32
import Derived.Test.YtcipdampcmfmaabGreatJa29
namespace Go.Proofs.YtcipdampcmfmaabGreat
open Go.RowKit Go.Sort Go.Maps
set_option maxRecDepth 100000
set_option maxHeartbeats 4000000
theorem bs_nil {fv:Value} (w:World) (id:Int):Calls Tryz.prog 87 #[.slice none 0 0,.int .i64 id,fv] w fun e w'=>e=.returned (.tuple #[.int .i64 0,.bool false])/\Gb w w':=by
 go_enter Tryz.func87,Tryz.ntmps87
 go_wp2
 go_rounds 1
 all_goals
  go_wp2
  refine bodyPost_ret (v:=.tuple #[.int .i64 0,.bool false]) (by simp [results,Tryz.results87,go_sem]) rfl ⟨rfl,?_⟩
  first | exact Below.refl _ _ | exact (Below.refl _ _).drew
theorem among_nil (w:World) (id:Int):Calls Tryz.prog 59 #[.slice none 0 0,.int .i64 id] w fun e w'=>e=.returned (.int .i64 ((0:Nat):Int))/\Gb w w':=by
 have cB:=fun fv w=>bs_nil (fv:=fv) w id
 go_enter Tryz.func59,Tryz.ntmps59
 go_wp2_with fail
 go_fit (cB _ _)
 rintro e w1 ⟨rfl,g1⟩
 have G:Hid (Gb w w1):=g1
 clear g1 cB
 go_wp2
 go_ret
 exact ⟨rfl,G.out⟩
theorem add_c {Iq:Nat->Prop} {w:World} {tb m:Nat} {C:Vs} {rs:List Rw} {F:List Nat} {v:Value} {xi:Int} {xl:List Int} (h:TreeAt Iq w tb m C rs F) (hv:OwnQ Iq w v xl) (h1:okId xi=true) (h2:chk xl (m:Int)=0) (hh:hasId rs xi=false) (h512:rs.length < 512) :
  Calls Tryz.prog 42 #[.pointer (some ⟨tb,0,none⟩),.agg #[.int .i64 xi,v]] w fun e w'=>e=.returned (.tuple #[])/\TOut Iq w tb m C F (insRw rs (xi,xl)) w':=by
 obtain ⟨gc,cc,lb,pb,ks,pk,f,pf,G,o,rfl⟩:=h.opn
 obtain ⟨c0,c1,c2,c3⟩:=o.cells
 have hxi:=(okId_iff xi).1 h1
 have hid:KWf xi:=⟨by omega,by omega⟩
 have hnid:∀ r ∈ rs,r.1 ≠ xi:=fun r hr e=>by
  have:hasId rs xi=true:=by unfold hasId;rw [List.any_eq_true];exact ⟨r,hr,by simp [e]⟩
  rw [hh] at this;cases this
 obtain ⟨p,hp⟩:∃ p,p=(nearP C xl).1:=⟨_,rfl⟩
 have hpl:p < C.length:=by rw [hp];exact nearP_lt o.cok.2.1 _
 obtain ⟨R,eR⟩:∃ R,R=listR C rs p:=⟨_,rfl⟩
 have hris:Ris R:=by rw [eR];exact listR_ris p o.ris
 have hRok:RowsOk R (m:Int):=by rw [eR];exact o.rok.sub (listR_sub C rs p)
 have hfew:=hRok.few
 have hnR:∀ r ∈ R,r.1 ≠ xi:=fun r hr=>hnid r (by rw [eR] at hr;exact (mem_listR.1 hr).1)
 have hins:listR C (insRw rs (xi,xl)) p=insRw R (xi,xl):=by rw [listR_ins o.ris,if_pos hp.symm,<- eR]
 have hrok:RowsOk (insRw rs (xi,xl)) (m:Int):=by
  have hpm:=ins_perm rs (xi,xl)
  refine RowsOk.perm ?_ hpm.symm
  refine ⟨by rw [List.length_append];simp;omega,?_,fun r hr=>?_⟩
  ·unfold idsOf
   rw [List.map_append,List.pairwise_append]
   refine ⟨o.rok.ids,by simp,fun a ha b hb e=>?_⟩
   obtain ⟨y,hy,rfl⟩:=List.mem_map.1 ha
   simp at hb
   exact hnid y hy (e.trans hb)
  ·rcases List.mem_append.1 hr with hr | hr
   ·exact o.rok.row r hr
   ·simp at hr
    subst hr
    exact ⟨h1,h2⟩
 have hiris:Ris (insRw rs (xi,xl)):=ins_ris o.ris hnid
 obtain ⟨d,sl,LV,hsl,hLV,_,hdR,hvd,AM,IN⟩:∃ (d:List Rt) (sl LV:Value),(∃ a n c,sl=.slice a n c)/\((Instr.lookup 71 (.map (some lb)) (.int .i64 (p:Int)) false).run Tryz.prog w=.ok LV w/\(∀ w',w'.heap[lb]? = w.heap[lb]? -> (Instr.lookup 71 (.map (some lb)) (.int .i64 (p:Int)) false).run Tryz.prog w'=.ok LV w')/\∃ a1 a2 a3 a4 a5 b1 b2 b3 b4 b5 b6 b7 b8 b9,LV=.agg #[.int .i64 a1,.slice b1 b2 b3,.slice b4 b5 b6,.int .u64 a2,.int .u64 a3,.slice b7 b8 b9,sl]/\a4=0/\a5=0)/\True/\d.map rwR=R/\(∀ x ∈ d,OwnQ Iq w x.2.1 x.2.2) /\
   (∀ W,Gb w W->Calls Tryz.prog 59 #[sl,.int .i64 xi] W fun e w'=>e=.returned (.int .i64 (plc R xi:Nat))/\Gb W w') /\
   (∀ W vb tv,Gb w W->w.heap.size<=vb->W.heap[vb]? = some (.cells #[.int .i64 xi,v] tv (0,0))->Calls Tryz.prog 70 #[sl,.int .i64 (plc R xi:Nat),.slice (some ⟨vb,0,none⟩) 1 1] W fun e W'=>∃ G1:Loc,e=.returned (.slice (some ⟨G1.1,G1.2.1,none⟩) (R.length + 1) G1.2.2)/\PcR W' G1.1 G1.2.1 (R.length + 1) G1.2.2 ((d.take (plc R xi) ++ (xi,v,xl) :: d.drop (plc R xi)).flatMap encR)/\PcO W W' ((p:Int) ∈ ks) (G p) G1):=by
  have hv1:v.oneCell'=true:=oneCell_own hv
  have h1v:∀ u ∈ [Value.int .i64 xi,v],u.oneCell'=true:=fun u hu=>by
   simp only [List.mem_cons,List.not_mem_nil,or_false] at hu
   rcases hu with rfl | rfl
   ·rfl
   ·exact hv1
  have flm:∀ (d:List Rt) (i:Nat),(d.flatMap encR).take (i * 2) ++ [.int .i64 xi,v] ++ (d.flatMap encR).drop (i * 2)=(d.take i ++ (xi,v,xl) :: d.drop i).flatMap encR:=fun d i=>by
   rw [flat_takeR,flat_dropR,List.flatMap_append,List.flatMap_cons,List.append_assoc]
  have lk:=fun w' (e:w'.heap[lb]? = w.heap[lb]?)=>(o.lst.same e).look (t:=71) Tryz.underlying3 Tryz.underlying71 (zeroList w') (x:=(p:Int)) ⟨by omega,by have:=o.cok.2.2;omega⟩
  by_cases hks:(p:Int) ∈ ks
  ·obtain ⟨d,vl,vh,vi,a⟩:=o.ls.at_ _ hks
   simp only [Int.toNat_natCast] at a
   rw [<- eR] at a
   have hdl:d.length=R.length:=by rw [<- a.rows,List.length_map]
   have hone:∀ x ∈ d,x.2.1.oneCell'=true:=fun x hx=>oneCell_own (a.vec x hx)
   have h1c:∀ v ∈ d.flatMap encR,v.oneCell'=true:=fun v hv=>by
    obtain ⟨x,hx,hv⟩:=List.mem_flatMap.1 hv
    simp only [encR,List.mem_cons,List.not_mem_nil,or_false] at hv
    rcases hv with rfl | rfl
    ·rfl
    ·exact hone x hx
   obtain ⟨al,nl,cl,el⟩:∃ al nl cl,vl=.slice al nl cl:=by obtain ⟨x,y,e,_⟩:=a.low.rd;exact ⟨_,_,_,e⟩
   obtain ⟨ah,nh,ch,eh⟩:∃ al nl cl,vh=.slice al nl cl:=by obtain ⟨x,y,e,_⟩:=a.high.rd;exact ⟨_,_,_,e⟩
   obtain ⟨ai,ni,ci,ei'⟩:∃ al nl cl,vi=.slice al nl cl:=by obtain ⟨x,y,e,_⟩:=a.ids.rd;exact ⟨_,_,_,e⟩
   have lk2:=fun w' e=>by
    have:=lk w' e
    rw [if_pos hks,a.val,el,eh,ei'] at this
    exact this
   refine ⟨d,.slice (some ⟨(G p).1,(G p).2.1,none⟩) d.length (G p).2.2,_,⟨_,_,_,rfl⟩,⟨lk2 w rfl,lk2,_,_,_,0,0,_,_,_,_,_,_,_,_,_,rfl,rfl,rfl⟩,trivial,a.rows,a.vec,fun W g=>?_,fun W vb tv g hvb hb=>?_⟩
   ·refine (among_c (cap:=(G p).2.2) (a.pc.blk (g.block _ a.pc.lt)).rd hone (by omega) xi (by rw [a.rows];exact hris)).mono ?_
    rintro e w' ⟨rfl,g'⟩
    rw [a.rows]
    exact ⟨rfl,gw_gb g'⟩
   ·have pcW:=a.pc.blk (g.block _ a.pc.lt)
    refine (insP_c (i:=plc R xi) (vs:=[.int .i64 xi,v]) pcW (by omega) (by have:=plc_le R xi;omega) hb rfl (by have:=a.pc.lt;omega) h1c h1v).mono ?_
    intro e W' hO
    rw [flm] at hO
    rw [<- hdl]
    rcases hO with ⟨rfl,q1,q2⟩ | ⟨g',cap',rfl,q1,q2,q3⟩
    ·exact ⟨G p,rfl,q1,.inl ⟨hks,rfl,q2⟩⟩
    ·exact ⟨(g',0,cap'),rfl,q2,.inr ⟨q1,q3⟩⟩
  ·have hR0:R=[]:=by
    rw [eR]
    refine Decidable.byContradiction fun hne=>hks ((o.ls.keys _).2 ⟨by omega,by simpa using hne⟩)
   have lk2:=fun w' e=>by
    have:=lk w' e
    rw [if_neg hks] at this
    exact this
   refine ⟨[],.slice none 0 0,_,⟨_,_,_,rfl⟩,⟨lk2 w rfl,lk2,_,_,_,0,0,_,_,_,_,_,_,_,_,_,rfl,rfl,rfl⟩,trivial,by rw [hR0];rfl,(fun x hx=>by cases hx),fun W g=>?_,fun W vb tv g hvb hb=>?_⟩
   ·rw [hR0]
    exact among_nil W xi
   ·rw [hR0]
    refine (insR_c (v:=.slice none 0 0) (n:=0) (i:=0) (xs:=[]) (vs:=[.int .i64 xi,v]) (World.ownsRow_nil W 0 _ _) (by omega) (by omega) hb rfl (by simp [Value.ownBlock]) (fun v hv=>by cases hv) h1v).mono ?_
    rintro e W' ⟨g',cap',rfl,q1,q2,q3⟩
    refine ⟨(g',0,cap'),rfl,PcR.own q1,.inr ⟨?_,⟨q2.os,q2.tape,q2.output,q2.size,fun k hk=>q2.block k hk (by simp [Value.ownBlock])⟩⟩⟩
    rcases q3 with q3 | q3
    ·simp [Value.ownBlock] at q3
    ·exact q3
 obtain ⟨sa,sn,sc,rfl⟩:=hsl
 obtain ⟨lk0,lkA,a1,a2,a3,_,_,b1,b2,b3,b4,b5,b6,b7,b8,b9,rfl,_,_⟩:=hLV
 obtain ⟨va,vn,vc,rfl⟩:∃ a n c,v=.slice a n c:=by obtain ⟨x,y,e,_⟩:=hv.rd;exact ⟨_,_,_,e⟩
 have g0:Gb w (w.alloc (.cells #[.int .i64 xi,.slice va vn vc] 45)):=gb_alloc (Below.refl _ _) _
 have PO:=placeOf_c (id:=xi) ((o.cen.rd cc).gb g0) (hv.rd.gb g0) (gb_keeps g0 c1) (nE o.cok.1 o.cok.2.1 o.cok.2.2 h2)
 rw [<- hp] at PO
 have hdR2:(d.take (plc R xi) ++ (xi,.slice va vn vc,xl) :: d.drop (plc R xi)).map rwR=insRw R (xi,xl):=by
  rw [List.map_append,List.map_cons,List.map_take,List.map_drop,hdR]
  rfl
 have hdl2:(d.take (plc R xi) ++ (xi,.slice va vn vc,xl) :: d.drop (plc R xi)).length=R.length + 1:=by
  have:=congrArg List.length hdR2
  rw [List.length_map] at this
  rw [this]
  have:=(ins_perm R (xi,xl)).length_eq
  simpa using this
 have hvd2:∀ x ∈ d.take (plc R xi) ++ (xi,.slice va vn vc,xl) :: d.drop (plc R xi),OwnQ Iq w x.2.1 x.2.2:=fun x hx=>by
  rcases List.mem_append.1 hx with hx | hx
  ·exact hvd x (List.mem_of_mem_take hx)
  ·rcases List.mem_cons.1 hx with rfl | hx
   ·exact hv
   ·exact hvd x (List.mem_of_mem_drop hx)
 have hiok:RowsOk (insRw R (xi,xl)) (m:Int):=by rw [<- hins];exact hrok.sub (listR_sub _ _ _)
 have KP:Hid (∀ W1 W2 (G1:Loc),Gb (w.alloc (.cells #[.int .i64 xi,.slice va vn vc] 45)) W1->PcR W2 G1.1 G1.2.1 (R.length + 1) G1.2.2 ((d.take (plc R xi) ++ (xi,.slice va vn vc,xl) :: d.drop (plc R xi)).flatMap encR)->PcO W1 W2 ((p:Int) ∈ ks) (G p) G1 ->
   Calls Tryz.prog 60 #[.pointer (some ⟨tb,0,none⟩),.int .i64 (p:Int),.slice (some ⟨G1.1,G1.2.1,none⟩) (R.length + 1) G1.2.2] W2 fun e w3=>e=.returned (.tuple #[]) /\
    w3.cell? ⟨tb,3,none⟩=some (.map (some pb))/\w3.cell? ⟨w.heap.size,0,none⟩=some (.int .i64 xi)/\∃ w5,(Instr.mapUpdate 72 (.map (some pb)) (.int .i64 xi) (.int .i64 (p:Int))).run Tryz.prog w3.drew=.ok () w5/\TOut Iq w tb m C (blks tb gc lb pb ks G) (insRw rs (xi,xl)) w5):=fun W1 W2 G1 g1 pc pco=>by
  have gw1:=gb_trans g0 g1
  have k2:Tk.Kp (fun b=>(p:Int) ∈ ks/\b=(G p).1) W1 W2:=by
   rcases pco with ⟨hp,_,t,_⟩ | ⟨_,g⟩
   ·exact t.mono (fun k _ e=>⟨hp,e⟩)
   ·exact (kpF g).mono (fun _ _ h=>h.elim)
  have hpc:(p:Int) ∈ ks->∃ n xs,PcR w (G p).1 (G p).2.1 n (G p).2.2 xs:=fun hp=>by
   obtain ⟨d,vl,vh,vi,a⟩:=o.ls.at_ _ hp
   exact ⟨_,_,a.pc⟩
  have keep:∀ b,b < w.heap.size->(∀ cur,w.heap[b]? ≠ some (.cells cur 45 (0,0)))->W2.heap[b]? = w.heap[b]? := fun b hb hne=>by
   rw [k2.block _ (Nat.lt_of_lt_of_le hb gw1.size) (fun ⟨hp,e⟩=>?_),gw1.block _ hb]
   obtain ⟨n,xs,cur,c,_⟩:=hpc hp
   exact hne cur (by rw [e];exact c)
  have noS:NoInt W1 (fun b=>(p:Int) ∈ ks/\b=(G p).1):=by
   rintro k ⟨hp,rfl⟩ cur s e
   obtain ⟨n,xs,c⟩:=hpc hp
   obtain ⟨cur',e',_⟩:=c.blk (gw1.block _ c.lt)
   rw [e] at e';simp at e'
  obtain ⟨ccur,hcc,_⟩:=o.cen.blk
  have tlt:=(Array.getElem?_eq_some_iff.1 o.blk).1
  have eT:W2.heap[tb]? = w.heap[tb]? := keep tb tlt (fun cur e=>by rw [o.blk] at e;simp at e)
  have eL:W2.heap[lb]? = w.heap[lb]? := keep lb o.lst.lt (fun cur e=>by obtain ⟨es,cl,e'⟩:=o.lst.isMap;rw [e] at e';simp at e')
  have eP:W2.heap[pb]? = w.heap[pb]? := keep pb o.plc.lt (fun cur e=>by obtain ⟨es,cl,e'⟩:=o.plc.isMap;rw [e] at e';simp at e')
  have cqk:Tk.Kp (fun b=>(p:Int) ∈ ks/\b=(G p).1) w W2:=(kpF gw1 |>.mono (fun _ _ h=>h.elim)).trans k2
  have no0:NoInt w (fun b=>(p:Int) ∈ ks/\b=(G p).1):=by
   rintro k ⟨hp,rfl⟩ cur s e
   obtain ⟨n,xs,cur',e',_⟩:=hpc hp
   rw [e] at e';simp at e'
  have cq:=o.cen.kq cqk (NoI.of no0) (fun ⟨hp,e⟩=>by
   obtain ⟨n,xs,cur',e',_⟩:=hpc hp
   rw [<- e,hcc] at e';simp at e')
  have hv2:∀ x ∈ d.take (plc R xi) ++ (xi,.slice va vn vc,xl) :: d.drop (plc R xi),OwnQ Iq W2 x.2.1 x.2.2:=fun x hx=>ownq_noint (hvd2 x hx) cqk no0
  have rd:RdW W2 (.slice (some ⟨G1.1,G1.2.1,none⟩) (R.length + 1) G1.2.2) (insRw R (xi,xl)):=by
   rw [<- hdR2,<- hdl2]
   rw [<- hdl2] at pc
   exact RwRd.rdw' pc.rd (fun x hx=>(hv2 x hx).rd)
  refine (keep_any (cell_cur (eT.trans o.blk) rfl) (cq.rd cc) (cell_cur (eT.trans o.blk) rfl) (o.lst.same eL) (by have:=o.ksl;omega) hpl (by have:=o.cok.2.2;omega) rd (by omega) (wf_ok hiok)).mono ?_
  rintro e w3 ⟨rfl,ko⟩
  have k3:=ko.kp
  have tbl:tb ≠ lb:=fun e=>by
   obtain ⟨es,cl,e'⟩:=o.lst.isMap
   rw [<- e,o.blk] at e';simp at e'
  have eT3:w3.heap[tb]? = w.heap[tb]? := (k3.block _ (Nat.lt_of_lt_of_le tlt cqk.size) tbl).trans eT
  have mP:=o.plc.same eP
  have mP3:=mP.same (k3.block _ mP.lt (fun e=>o.ne e.symm))
  have b0:(w.alloc (.cells #[.int .i64 xi,.slice va vn vc] 45)).heap[w.heap.size]? = some (.cells #[.int .i64 xi,.slice va vn vc] 45 (0,0)):=Array.getElem?_push_size
  have b1:W1.heap[w.heap.size]? = _:=(g1.block _ (by simp)).trans b0
  have b2:W2.heap[w.heap.size]? = _:=(k2.block _ (Array.getElem?_eq_some_iff.1 b1).1 (fun ⟨hp,e⟩=>by
   obtain ⟨n,xs,c⟩:=hpc hp
   have:=c.lt
   omega)).trans b1
  have b3:w3.heap[w.heap.size]? = _:=(k3.block _ (Array.getElem?_eq_some_iff.1 b2).1 (fun e=>by have:=o.lst.lt;omega)).trans b2
  obtain ⟨w5,hrun,m5,t5⟩:=(mP3.same (w':=w3.drew) rfl).put (t:=72) Tryz.underlying3 Tryz.underlying72 (by have:=o.pkl;omega) hid (.int .i64 (p:Int))
  refine ⟨rfl,cell_cur (eT3.trans o.blk) rfl,cell_cur b3 rfl,w5,hrun,?_⟩
  have m5':MapA Tryz.prog 3 w5 pb (putK pk xi) (fun x=>.int .i64 (if x=xi then (p:Int) else pf x)):=m5.ext (fun x _=>by unfold putF;split <;> rfl)
  refine one_fin (p:=p) (G1:=G1) (d':=d.take (plc R xi) ++ (xi,.slice va vn vc,xl) :: d.drop (plc R xi)) o gw1 pco (by rw [hdl2];exact pc) (by rw [hins];exact hdR2) hv2 (by rw [hins,hdl2];exact ko) (w4:=w3.drew) (Below.refl _ _).drew m5' t5 (fun x hx=>?_) (fun x=>?_) (fun y hy=>?_) hiris hrok
  ·rw [listR_ins o.ris,if_neg (fun e=>hx (by rw [<- e,hp]))]
  ·rw [mem_putK,o.pkk x]
   unfold idsOf
   rw [((ins_perm rs (xi,xl)).map Prod.fst).mem_iff,List.map_append,List.mem_append]
   simp
   exact or_comm
  ·have hy':=(ins_perm rs (xi,xl)).mem_iff.1 hy
   rcases List.mem_append.1 hy' with hy' | hy'
   ·rw [if_neg (hnid y hy')]
    exact o.pfv y hy'
   ·simp at hy'
    subst hy'
    rw [if_pos rfl,hp]
 have FL:=fld_rows (.int .i64 a1) (.slice b1 b2 b3) (.slice b4 b5 b6) (.int .u64 a2) (.int .u64 a3) (.slice b7 b8 b9) (.slice sa sn sc)
 have LB:Hid (∀ W,Gb w W->(Instr.lookup 71 (.map (some lb)) (.int .i64 (p:Int)) false).run Tryz.prog W=.ok (.agg #[.int .i64 a1,.slice b1 b2 b3,.slice b4 b5 b6,.int .u64 a2,.int .u64 a3,.slice b7 b8 b9,.slice sa sn sc]) W):=fun W g=>lkA W (g.block _ o.lst.lt)
 have AH:Hid _:=AM
 have IH:Hid _:=IN
 have G0:Hid _:=g0
 have CX:Hid (w.cell? ⟨tb,2,none⟩=some (.map (some lb))):=c2
 have tlt:tb < w.heap.size:=cell_lt c1
 obtain ⟨at0,eat⟩:∃ a,a=plc R xi:=⟨_,rfl⟩
 rw [<- eat] at *
 clear AM IN lk0 lkA hdR hdR2 hdl2 hvd hvd2 hiok hiris hrok hins hnR hfew hRok hris hnid hid hxi g0 c0 c1 c2 c3 hv eat hp eR o h hh h512 h1 h2 hpl
 go_enter Tryz.func42,Tryz.ntmps42
 go_wp2_with fail
 refine PO.mono ?_
 rintro e w1 ⟨rfl,g1⟩
 have G1:Hid (Gb (w.alloc (.cells #[.int .i64 xi,.slice va vn vc] 45)) w1):=g1.gb
 clear PO g1
 have GW:Hid (Gb w w1):=gb_trans G0.out G1.out
 have e0:(w.alloc (.cells #[.int .i64 xi,.slice va vn vc] 45)).cell? ⟨w.heap.size,0,none⟩=some (.int .i64 xi):=by simp [go_sem]
 have e1:(w.alloc (.cells #[.int .i64 xi,.slice va vn vc] 45)).cell? ⟨w.heap.size,1,none⟩=some (.slice va vn vc):=by simp [go_sem]
 have E:Hid (∀ W,Gb (w.alloc (.cells #[.int .i64 xi,.slice va vn vc] 45)) W->W.cell? ⟨w.heap.size,0,none⟩=some (.int .i64 xi)/\W.cell? ⟨w.heap.size,1,none⟩=some (.slice va vn vc)):=fun W g=>⟨gb_keeps g e0,gb_keeps g e1⟩
 clear e0 e1
 obtain ⟨x0,x1⟩:=E.out w1 G1.out
 have x2:=gb_keeps GW.out CX.out
 have lk:=LB.out w1 GW.out
 have A:=AH.out w1 GW.out
 have tl1:tb < w1.heap.size:=cell_lt x2
 go_wp2_with fail
 refine A.mono ?_
 rintro e w2 ⟨rfl,g2⟩
 have G2:Hid (Gb (w.alloc (.cells #[.int .i64 xi,.slice va vn vc] 45)) w2):=gb_trans G1.out g2
 have GW2:Hid (Gb w w2):=gb_trans G0.out G2.out
 clear A g2 x0 x1 x2 lk tl1
 obtain ⟨x0,x1⟩:=E.out w2 G2.out
 have I:=IH.out (w2.alloc (.cells #[.int .i64 xi,.slice va vn vc] 45)) w2.heap.size 45 (gb_alloc GW2.out _) GW2.out.size Array.getElem?_push_size
 go_wp2_with fail
 refine I.mono ?_
 rintro e w3 ⟨Gn,rfl,pc,pco⟩
 have K:=KP.out _ w3 Gn (gb_alloc G2.out _) pc pco
 clear I pc pco x0 x1
 go_wp2_with fail
 refine K.mono ?_
 rintro e w4 ⟨rfl,x3,x4,w5,hrun,hT⟩
 have T5:Hid (TOut Iq w tb m C (blks tb gc lb pb ks G) (insRw rs (xi,xl)) w5):=hT
 clear K hT
 have tl4:tb < w4.heap.size:=cell_lt x3
 have bl4:w.heap.size < w4.heap.size:=cell_lt x4
 go_wp2_with fail
 go_region
 all_goals
  go_wp2
  go_end0
  exact ⟨rfl,T5.out⟩
end Go.Proofs.YtcipdampcmfmaabGreat

namespace Go.Proofs.YtcipdampcmfmaabGreat
open Go.RowKit Go.Sort Go.Maps
set_option maxRecDepth 100000
set_option maxHeartbeats 2000000
def cenOf (rs:List Rw) (m A B:Nat) (S:Int):Vs:=if rs=[] then [List.replicate m 0] else trainV (rs.map Prod.snd) (min A rs.length) B S
theorem cen_nil (m A B:Nat) (S:Int):cenOf [] m A B S=[List.replicate m 0]:=if_pos rfl
theorem vec_get {rs:List Rw} {i:Nat} (hi:i < rs.length):(rs.map Prod.snd)[i]! = rs[i]!.2:=by
 rw [getElem!_pos (rs.map Prod.snd) i (by rw [List.length_map];exact hi),getElem!_pos rs i hi,List.getElem_map]
theorem cen_train {rs:List Rw} {m A B:Nat} (h:RowsOk rs (m:Int)) (hA:1<=A/\A<=64) (hB:B<=20) (hne:rs ≠ []):trainE (rs.map Prod.snd) ((min A rs.length:Nat):Int) (B:Int)=0/\(rs.map Prod.snd)[0]!.length=m:=by
 have h0:=List.length_pos_iff.2 hne
 have hc:∀ i,i < rs.length->chk rs[i]!.2 (m:Int)=0:=fun i hi=>(h.row rs[i]! (by rw [getElem!_pos rs i hi];exact List.getElem_mem hi)).2
 have h1:=chk_ok (hc 0 h0)
 rw [vec_get h0]
 have hl:rs[0]!.2.length=m:=by omega
 refine ⟨trainE_zero.2 ⟨by omega,by rw [List.length_map];exact h.few,by rw [List.length_map];omega,fun i hi=>?_⟩,hl⟩
 rw [List.length_map] at hi
 rw [vec_get hi,vec_get h0,hl]
 exact hc i hi
theorem cen_ok {rs:List Rw} {m A B:Nat} {S:Int} (hm:1<=m/\m<=64) (h:RowsOk rs (m:Int)) (hA:1<=A/\A<=64) (hB:B<=20):VsOk (cenOf rs m A B S) (m:Int)/\1<=(cenOf rs m A B S).length/\(cenOf rs m A B S).length<=64:=by
 by_cases hne:rs=[]
 ·subst hne
  rw [cen_nil]
  refine ⟨fun i hi=>?_,by simp,by simp⟩
  have:i=0:=by simp at hi;omega
  subst this
  show chk (List.replicate m 0) (m:Int)=0
  unfold chk
  rw [if_pos ⟨by omega,by omega,by simp⟩]
  have:allR (List.replicate m 0)=true:=by
   unfold allR
   rw [List.all_eq_true]
   intro x hx
   rw [List.eq_of_mem_replicate hx]
   rfl
  unfold vErr;rw [this];rfl
 ·obtain ⟨h1,h2⟩:=cen_train (B:=B) h hA hB hne
  have h0:=List.length_pos_iff.2 hne
  unfold cenOf
  rw [if_neg hne]
  obtain ⟨_,t2,t3⟩:=train_ok h1 S B
  rw [h2] at t2
  rw [Int.toNat_natCast] at t2 t3
  exact ⟨t2,by unfold trainV;omega,by unfold trainV;omega⟩
theorem info_V:∃ i0,Tryz.prog.info? 26=some i0/\i0.zero=some (.slice none 0 0)/\i0.size=1/\i0.bytes=24:=by
 obtain ⟨i,hi,hzz⟩:=Option.map_eq_some_iff.1 Tryz.infoV
 simp only [Prod.mk.injEq] at hzz
 exact ⟨i,hi,hzz.1,hzz.2.1,hzz.2.2⟩
def OwnU (W:World) (B:Nat) (v:Value) (us:List Value):Prop:=v ≠ .slice none 0 0/\W.ownsRow B 26 1 v us.length us
theorem OwnU.form {W:World} {B:Nat} {v:Value} {us:List Value} (h:OwnU W B v us):∃ g cap,v=.slice (some ⟨g,0,none⟩) us.length cap:=by
 rcases h.2.2 with ⟨e,_⟩ | ⟨g,cap,cur,e,_⟩
 ·exact absurd e h.1
 ·exact ⟨g,cap,e⟩
theorem OwnU.next {w W:World} {pv:Option Addr} {nv cv:Nat} {us:List Value} {u:Value} (h:OwnU W w.heap.size (.slice pv nv cv) us) (hu:u.oneCell'=true) (hn:us.length<=4000) (g:Gb w W) (c:Nat) (_hc:∀ t,W.cell? ⟨c,0,none⟩=some t->t=u) (hc2:W.cell? ⟨c,0,none⟩=some u) :
  ∃ g' c' W',(Builtin.append_ #[36,36] 36 #[.slice pv nv cv,.slice (some ⟨c,0,none⟩) 1 1]).run Tryz.prog W=.ok (.slice (some ⟨g',0,none⟩) (us.length + 1) c') W'/\OwnU W' w.heap.size (.slice (some ⟨g',0,none⟩) (us.length + 1) c') (us ++ [u])/\Gb w W':=by
 obtain ⟨i0,hi,hz0,hz1,hz2⟩:=info_V
 obtain ⟨v',W',hr,hown,hgrow,hnn,_⟩:=run_append_own_at (P:=Tryz.prog) W w.heap.size 36 36 26 i0 (.slice none 0 0) 1 24 Tryz.underlying36 hi hz0 hz1 hz2 rfl (by decide)
  (.slice pv nv cv) us.length us h.2 ⟨c,0,none⟩ 1 1 [u] rfl (fun j x hj=>by
   rcases j with _ | j
   ·simp at hj;subst hj;rw [Addr.add_lit];exact hc2
   ·simp at hj) (by simpa using hu) (by simp only [maxLen];omega) (by omega) g.size
 have hown':=hown
 rcases hown.2 with ⟨e,_⟩ | ⟨g',c',cur,e,_⟩
 ·exact absurd (hnn.1 e).1 h.1
 ·subst e
  refine ⟨g',c',W',hr,⟨by simp,by rw [List.length_append];exact hown'⟩,?_⟩
  refine below_grown g hgrow (fun k e=>?_) g.size
  exact (h.2.lt k e).1
theorem OwnU.rdv {w W:World} {B:Nat} {v:Value} {us:List Value} {vs:Vs} (h:OwnU W B v us) (g:Gb w W) (hl:us.length=vs.length) (hr:∀ i (hi:i < us.length),RdI w us[i] vs[i]!):RdV W v vs:=by
 obtain ⟨gb,cap,e⟩:=h.form
 subst e
 refine ⟨_,cap,by rw [hl],fun i hi=>?_⟩
 refine ⟨gb,0,us[i],rfl,?_,(hr i (by omega)).gb g⟩
 have:=h.2.cells (g:=gb) rfl i us[i] (List.getElem?_eq_getElem (by omega))
 rw [Addr.add_lit] at this
 exact this
theorem cen_cenq {Iq:Nat->Prop} {B:Nat} {W w:World} {cb:Nat} {gs cp:Nat->Nat} {k d:Nat} {cs:Vs} (up:Up Iq w) (hB:w.heap.size<=B) (h:Cen B W cb gs cp k d (cenF cs)) (hk:cs.length=k) (hd:∀ i,i < k->cs[i]!.length=d):CenQ Iq W cb cs:=by
 obtain ⟨cur,e,hc⟩:∃ cur:Array Value,W.heap[cb]? = some (.cells cur 26 (0,0))/\k<=cur.size/\∀ i,i < k->cur[i]? = some (.slice (some ⟨gs i,0,none⟩) d (cp i)):=by
  obtain ⟨cur,h1,h2,h3⟩:=h.row
  exact ⟨cur,h1,by omega,h3⟩
 refine ⟨cur,e,by omega,fun i hi=>⟨_,hc.2 i (by omega),gs i,cp i,by rw [hd i (by omega)],up _ (Nat.le_trans hB (h.base i (by omega))),?_⟩⟩
 have:=h.arr i (by omega)
 rw [hd i (by omega)]
 exact this
def CenOut (Iq:Nat->Prop) (w:World) (C:Vs) (e:Ending) (w':World):Prop:=∃ gc cc,e=.returned (.slice (some ⟨gc,0,none⟩) C.length cc)/\CenQ Iq w' gc C/\Gb w w'/\w.heap.size<=gc
theorem centresOf_no {Iq:Nat->Prop} {w:World} {a:Option Addr} {cap m:Nat} {A B S:Int} (up:Up Iq w) (hm:1<=m/\m<=64):Calls Tryz.prog 48 #[.slice a 0 cap,.int .i64 (m:Int),.int .i64 A,.int .i64 B,.int .u64 S] w fun e w'=>CenOut Iq w [List.replicate m 0] e w':=by
 have hmk:=run_make_row' (P:=Tryz.prog) 26 3 (.int .i64 0) 8 Tryz.underlying26 Tryz.infoI rfl .i64 .i64 m (by omega) (by omega) w
 have X:Hid (CenOut Iq w [List.replicate m 0] (.returned (.slice (some ⟨w.heap.size + 1,0,none⟩) 1 1)) ((w.alloc (.cells (madeCells #[Value.int .i64 0] m) 3)).alloc (.cells #[.slice (some ⟨w.heap.size,0,none⟩) m m] 26))):=by
  have g1:Gb w (w.alloc (.cells (madeCells #[Value.int .i64 0] m) 3)):=gb_alloc (Below.refl _ _) _
  have e1:((w.alloc (.cells (madeCells #[Value.int .i64 0] m) 3)).alloc (.cells #[.slice (some ⟨w.heap.size,0,none⟩) m m] 26)).heap[w.heap.size + 1]? = some (.cells #[.slice (some ⟨w.heap.size,0,none⟩) m m] 26 (0,0)):=by
   have:=Array.getElem?_push_size (xs:=(w.alloc (.cells (madeCells #[Value.int .i64 0] m) 3)).heap) (x:=.cells #[.slice (some ⟨w.heap.size,0,none⟩) m m] 26 (0,0))
   have e:(w.alloc (.cells (madeCells #[Value.int .i64 0] m) 3)).heap.size=w.heap.size + 1:=by rw [World.size_alloc]
   rw [e] at this
   exact this
  obtain ⟨c,hc1,hc2,hc3⟩:=World.rowIs_made w (.int .i64 0) m 3
  refine ⟨w.heap.size + 1,1,by simp,⟨_,e1,by simp,fun i hi=>?_⟩,gb_alloc g1 _,by omega⟩
  have:i=0:=by simp at hi;omega
  subst this
  refine ⟨_,rfl,w.heap.size,m,by simp,up _ (Nat.le_refl _),c,?_,by omega,by simp,fun t ht=>?_⟩
  ·have hl:w.heap.size < (w.alloc (.cells (madeCells #[Value.int .i64 0] m) 3)).heap.size:=by rw [World.size_alloc];omega
   exact ((gb_alloc (Below.refl _ _) _:Gb (w.alloc (.cells (madeCells #[Value.int .i64 0] m) 3)) _).block _ hl).trans hc1
  ·have ht':t < m:=by simpa using ht
   rw [hc3 t ht']
   simp [ht']
 clear up hm
 go_enter Tryz.func48,Tryz.ntmps48
 go_wp2
 go_ret
 exact X.out
theorem centresOf_yes {Iq:Nat->Prop} {w:World} {v:Value} {rs:List Rw} {m A B:Nat} {S:Int} (up:Up Iq w) (h:RdW w v rs) (hok:RowsOk rs (m:Int)) (hA:1<=A/\A<=64) (hB:B<=20) (us:Rn.U S) (hne:rs ≠ []):Calls Tryz.prog 48 #[v,.int .i64 (m:Int),.int .i64 (A:Int),.int .i64 (B:Int),.int .u64 S] w fun e w'=>CenOut Iq w (cenOf rs m A B S) e w':=by
 have h0:=List.length_pos_iff.2 hne
 have hfew:=hok.few
 obtain ⟨hT,hL⟩:=cen_train (B:=B) hok hA hB hne
 have hcen:cenOf rs m A B S=trainV (rs.map Prod.snd) (min A rs.length) B S:=if_neg hne
 obtain ⟨a,cap,rfl,hv⟩:=h
 obtain ⟨U,hU⟩:=pick_lt (p:=fun i u=>∃ b o,a=some ⟨b,o,none⟩/\w.cell? ⟨b,o + i * 2,none⟩=some (.int .i64 rs[i]!.1)/\w.cell? ⟨b,o + i * 2 + 1,none⟩=some u/\RdI w u rs[i]!.2) (.slice none 0 0) (fun i hi=>by
  obtain ⟨b,o,u,e,c1,c2,c3⟩:=hv i hi
  exact ⟨u,b,o,e,c1,c2,c3⟩)
 obtain ⟨b,o,ea,_⟩:=hU 0 h0
 obtain ⟨L,eL⟩:∃ L,L=(List.range rs.length).map U:=⟨_,rfl⟩
 have hLl:L.length=rs.length:=by rw [eL];simp
 have hLg:∀ i (hi:i < L.length),L[i]=U i:=fun i hi=>by subst eL;simp
 subst ea
 obtain ⟨i0,hi,hz0,hz1,hz2⟩:=info_V
 obtain ⟨w1,hmk,ho,hg⟩:=run_make_own (P:=Tryz.prog) w w.heap.size 36 26 i0 (.slice none 0 0) 1 Tryz.underlying36 hi hz0 hz1 .i64 .i64 rs.length (by rw [hz2];omega) (by simp only [maxLen];omega) (Nat.le_refl _)
 have O:Hid (OwnU w1 w.heap.size (.slice (some ⟨w.heap.size,0,none⟩) 0 rs.length) (L.take 0)/\Gb w w1):=⟨⟨by simp,ho⟩,below_grown (Below.refl _ _) hg (fun k e=>by cases e) (Nat.le_refl _)⟩
 have RD:Hid (∀ i,i < rs.length->∃ (x:Int) (au:Option Addr) (nu cu:Nat),U i=.slice au nu cu/\w.cell? ⟨b,o + i * 2,none⟩=some (.int .i64 x)/\w.cell? ⟨b,o + i * 2 + 1,none⟩=some (.slice au nu cu)):=fun i hi=>by
  obtain ⟨b',o',e,c1,c2,c3⟩:=hU i hi
  injection e with e
  injection e with e1 e2 _
  subst e1 e2
  obtain ⟨au,cu,eu,_⟩:=c3
  exact ⟨_,au,_,cu,eu,c1,by rw [<- eu];exact c2⟩
 have FT:Hid (∀ W ov,OwnU W w.heap.size ov (L.take rs.length)->Gb w W->Calls Tryz.prog 77 #[ov,.int .i64 ((min A rs.length:Nat):Int),.int .i64 (B:Int),.int .u64 S] W fun e w'=>∃ gc cc,e=.returned (.tuple #[.slice (some ⟨gc,0,none⟩) (cenOf rs m A B S).length cc,.int .i64 0])/\CenQ Iq w' gc (cenOf rs m A B S)/\Gb w w'/\w.heap.size<=gc):=fun W ov oW gW=>by
  rw [List.take_of_length_le (by omega)] at oW
  have rv:RdV W ov (rs.map Prod.snd):=oW.rdv gW (by rw [hLl,List.length_map]) (fun i hi=>by
   rw [hLg i hi,vec_get (by omega)]
   obtain ⟨_,_,_,_,_,c3⟩:=hU i (by omega)
   exact c3)
  refine (train_ok_c rv S us hT).mono ?_
  rintro e w' ⟨v',rfl,⟨cb,gs,cp,rfl,hc⟩,g'⟩
  obtain ⟨tw,t2,t3⟩:=train_ok hT S B
  rw [Int.toNat_natCast,Int.toNat_natCast] at hc
  rw [Int.toNat_natCast] at t3 tw t2
  have hcl:(cenOf rs m A B S).length=min A rs.length:=by rw [hcen];exact t3
  refine ⟨cb,min A rs.length,by rw [hcl,Int.toNat_natCast],?_,gb_trans gW g',Nat.le_trans gW.size hc.hB⟩
  rw [hcen]
  refine cen_cenq up gW.size hc t3 (fun i hi=>?_)
  rw [<- t3] at hi
  exact (tw i hi).1
 have hAi:(1:Int)<=(A:Int):=by omega
 obtain ⟨n,hN⟩:∃ n,n=rs.length:=⟨_,rfl⟩
 have N:Hid (n=rs.length/\L.length=n/\n<=512):=⟨hN,by omega,by omega⟩
 have hmin:(if (A:Int)<=(n:Int) then (A:Int) else (n:Int))=((min A n:Nat):Int):=by
  by_cases e:A<=n
  ·rw [if_pos (by omega),Nat.min_eq_left e]
  ·rw [if_neg (by omega),Nat.min_eq_right (by omega)]
 have hmin2:min (A:Int) (n:Int)=((min A n:Nat):Int):=by omega
 rw [<- hN] at hmk O RD FT ⊢
 have LG:Hid (∀ i (hi:i < L.length),L[i]=U i):=hLg
 have hn0:((n:Int) == 0)=false:=by rw [beq_eq_false_iff_ne];omega
 clear hN hv hU hLl hLg eL hi hz0 hz1 hz2 ho hg hcen hT hL up hok hA hB us hne h0 hfew
 go_enter Tryz.func48,Tryz.ntmps48
 go_wp2
 clear hmk
 go_loopw [11,27] (fun ov iv W=>∃ q:Nat,iv=.int .i64 (q:Int)/\q<=n/\Hid (OwnU W w.heap.size ov (L.take q)/\Gb w W)) (fun _ iv _=>n - (intOf iv).toNat)
 case atStart=>exact ⟨0,rfl,Nat.zero_le _,O.out⟩
 case round =>
  clear O
  obtain ⟨q,rfl,hq,X⟩:=hrel
  by_cases hqn:q < n
  ·have hqi:(q:Int) < (n:Int):=by omega
   obtain ⟨x,au,nu,cu,eu,k1,k2⟩:=RD.out q hqn
   have x0:=gb_keeps X.out.2 k1
   have x1:=gb_keeps X.out.2 k2
   obtain ⟨gv,cv,ev⟩:=X.out.1.form
   have htl:(L.take q).length=q:=by have:=N.out;rw [List.length_take];omega
   rw [htl] at ev
   have AP:Hid (∃ g' c' W',(Builtin.append_ #[36,36] 36 #[.slice (some ⟨gv,0,none⟩) q cv,.slice (some ⟨wr.heap.size + 1,0,none⟩) 1 1]).run Tryz.prog ((wr.alloc (.cells #[.int .i64 x,.slice au nu cu] 45)).alloc (.cells #[.slice au nu cu] 26))=.ok (.slice (some ⟨g',0,none⟩) (q + 1) c') W'/\Hid (OwnU W' w.heap.size (.slice (some ⟨g',0,none⟩) (q + 1) c') (L.take (q + 1))/\Gb w W')):=by
    have gA:Gb wr ((wr.alloc (.cells #[.int .i64 x,.slice au nu cu] 45)).alloc (.cells #[.slice au nu cu] 26)):=gb_alloc (gb_alloc (Below.refl _ _) _) _
    have oA:OwnU ((wr.alloc (.cells #[.int .i64 x,.slice au nu cu] 45)).alloc (.cells #[.slice au nu cu] 26)) w.heap.size (.slice (some ⟨gv,0,none⟩) q cv) (L.take q):=by
     rw [<- ev]
     exact ⟨X.out.1.1,X.out.1.2.kept (row:=none) ⟨gA.os,gA.tape,gA.output,gA.size,fun k hk _=>gA.block k hk⟩ (by cases u11.ownBlock <;> simp)⟩
    have hcell:((wr.alloc (.cells #[.int .i64 x,.slice au nu cu] 45)).alloc (.cells #[.slice au nu cu] 26)).cell? ⟨wr.heap.size + 1,0,none⟩=some (.slice au nu cu):=by simp [go_sem]
    obtain ⟨g',c',W',r1,r2,r3⟩:=OwnU.next (u:=.slice au nu cu) oA rfl (by have:=N.out;omega) (gb_trans X.out.2 gA) (wr.heap.size + 1) (fun t ht=>by rw [hcell] at ht;injection ht with ht;exact ht.symm) hcell
    rw [htl] at r1 r2
    refine ⟨g',c',W',r1,?_,r3⟩
    have hqL:q < L.length:=by have:=N.out;omega
    rw [List.take_succ_eq_append_getElem hqL,LG.out q hqL,eu]
    exact r2
   obtain ⟨g',c',W',happ,XX⟩:=AP.out
   have X2:Hid _:=XX
   have hq5:q < 512:=by have:=N.out;omega
   subst ev
   clear X k1 k2 AP XX htl eu
   go_wp2_with (at_builtin;refine Lib.wpList_append_run _ rfl _ _ _ _ rfl _ _ rfl rfl _ _ happ ?_)
   clear happ
   go_roundw
   case rel=>exact ⟨q + 1,by simp,by omega,X2.out⟩
   case measure=>simp [intOf];try omega
  ·have hqe:q=n:=by omega
   subst hqe
   have hqi:¬ (q:Int) < (q:Int):=by omega
   obtain ⟨gv,cv,ev⟩:=X.out.1.form
   have htl:(L.take q).length=q:=by have:=N.out;rw [List.length_take];omega
   rw [htl] at ev
   have cT:=FT.out wr _ X.out.1 X.out.2
   subst ev
   clear X htl
   go_wp2_with fail
   go_fit cT
   rintro e w2 ⟨gc,cc,rfl,hC⟩
   have CC:Hid _:=hC
   clear hC cT
   go_wp2
   go_ret
   exact ⟨gc,cc,rfl,CC.out⟩
theorem centresOf_c {Iq:Nat->Prop} {w:World} {v:Value} {rs:List Rw} {m A B:Nat} {S:Int} (up:Up Iq w) (h:RdW w v rs) (hm:1<=m/\m<=64) (hok:RowsOk rs (m:Int)) (hA:1<=A/\A<=64) (hB:B<=20) (us:Rn.U S):Calls Tryz.prog 48 #[v,.int .i64 (m:Int),.int .i64 (A:Int),.int .i64 (B:Int),.int .u64 S] w fun e w'=>CenOut Iq w (cenOf rs m A B S) e w':=by
 by_cases hne:rs=[]
 ·subst hne
  rw [cen_nil]
  obtain ⟨a,cap,rfl,_⟩:=h
  exact centresOf_no up hm
 ·exact centresOf_yes up h hok hA hB us hne
end Go.Proofs.YtcipdampcmfmaabGreat
