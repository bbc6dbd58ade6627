import Derived.Test.YtcipdampcmfmaaaGreatIa25
import Derived.Test.YtcipdampcmfmaaaGreatIa31
import Derived.Test.YtcipdampcmfmaaaGreatIa28
import Derived.Test.YtcipdampcmfmaaaGreatIa6
namespace Go.Proofs.YtcipdampcmfmaaaGreat
open Go.RowKit Go.Sort Go.Maps
set_option maxRecDepth 100000
set_option maxHeartbeats 4000000
theorem oneCell_own {Iq:Nat->Prop} {w:World} {v:Value} {l:List Int} (h:OwnQ Iq w v l):v.oneCell'=true:=by
 obtain ⟨a,c,rfl,_⟩:=h.rd
 rfl
theorem wf_ok {rs:List Rw} {d:Int} (h:RowsOk rs d):∀ i,i < rs.length->(Lit.int .i64 rs[i]!.1).wf=true:=fun i hi=>by
 have h1:=(okId_iff _).1 (h.row rs[i]! (by rw [getElem!_pos rs i hi];exact List.getElem_mem hi)).1
 exact KWf.wf ⟨by omega,by omega⟩
theorem zeroInt (w:World):(zeroValue 3).run Tryz.prog w=.ok (.int .i64 0) w:=by go_simp
abbrev zL:Value:=.agg #[.int .i64 0,.slice none 0 0,.slice none 0 0,.int .u64 0,.int .u64 0,.slice none 0 0,.slice none 0 0]
theorem zeroList (w:World):(zeroValue 101).run Tryz.prog w=.ok zL w:=by kernel_rfl
theorem fld_rows (a b c d e f g:Value) (w:World):(Instr.field 101 (.agg #[a,b,c,d,e,f,g]) 1).run Tryz.prog w=.ok g w:=by
 simp [Instr.field,run_underlying Tryz.underlying101,asAgg,part]
theorem Tn.kp {w w':World} {g o l:Nat} (h:Tn w w' g o l):Tk.Kp (fun b=>b=g) w w':=h.1
theorem nE {cs:Vs} {d:Int} (h:VsOk cs d) (h0:1<=cs.length) (h64:cs.length<=64) {x:List Int} (hx:chk x d=0):nearE cs x=0:=by
 have h1:=h.get (i:=0) (by omega)
 unfold nearE
 rw [if_pos (cenE_zero.2 ⟨⟨h0,h64⟩,by rw [<- h1.2.2.1];exact h⟩),<- h1.2.2.1]
 exact hx
theorem remove_no {Iq:Nat->Prop} {w:World} {tb m:Nat} {C:Vs} {rs:List Rw} {F:List Nat} (h:TreeAt Iq w tb m C rs F) (id:Int) (hid:KWf id) (hh:hasId rs id=false) :
  Calls Tryz.prog 55 #[.pointer (some ⟨tb,0,none⟩),.int .i64 id] w fun e w'=>e=.returned (.bool false)/\w'=w:=by
 obtain ⟨gc,cc,lb,pb,ks,pk,f,pf,G,o,rfl⟩:=h.opn
 obtain ⟨_,_,_,c3⟩:=o.cells
 have hnp:id ∉ pk:=fun e=>by
  obtain ⟨r,hr,e⟩:=List.mem_map.1 ((o.pkk id).1 e)
  have:hasId rs id=true:=by unfold hasId;rw [List.any_eq_true];exact ⟨r,hr,by simp [e]⟩
  rw [hh] at this;cases this
 have lk:=o.plc.look_ok (t:=88) Tryz.underlying3 Tryz.underlying88 (zeroInt w) hid
 rw [if_neg hnp,decide_eq_false hnp] at lk
 clear o hh h hnp hid
 go_enter Tryz.func55,Tryz.ntmps55
 go_wp2
 go_ret
 exact ⟨rfl,rfl⟩
theorem remove_yes {Iq:Nat->Prop} {w:World} {tb m:Nat} {C:Vs} {rs:List Rw} {F:List Nat} (h:TreeAt Iq w tb m C rs F) (id:Int) (hid:KWf id) (hh:hasId rs id=true) :
  Calls Tryz.prog 55 #[.pointer (some ⟨tb,0,none⟩),.int .i64 id] w fun e w'=>e=.returned (.bool true)/\TOut Iq w tb m C F (delRw rs id) w':=by
 obtain ⟨gc,cc,lb,pb,ks,pk,f,pf,G,o,rfl⟩:=h.opn
 obtain ⟨c0,c1,c2,c3⟩:=o.cells
 obtain ⟨r,hr,hri⟩:∃ r ∈ rs,r.1=id:=by
  unfold hasId at hh
  rw [List.any_eq_true] at hh
  obtain ⟨r,hr,e⟩:=hh
  exact ⟨r,hr,by simpa using e⟩
 obtain ⟨p,hp⟩:∃ p,p=(nearP C r.2).1:=⟨_,rfl⟩
 have hpk:id ∈ pk:=(o.pkk id).2 (List.mem_map.2 ⟨r,hr,hri⟩)
 have hpf:pf id=(p:Int):=by rw [<- hri,o.pfv r hr,hp]
 have hrl:r ∈ listR C rs p:=mem_listR.2 ⟨hr,hp.symm⟩
 have hks:(p:Int) ∈ ks:=(o.ls.keys _).2 ⟨by omega,by simp only [Int.toNat_natCast];exact List.ne_nil_of_mem hrl⟩
 have hpl:p < C.length:=by rw [hp];exact nearP_lt o.cok.2.1 _
 obtain ⟨d,vl,vh,vi,a⟩:=o.ls.at_ _ hks
 simp only [Int.toNat_natCast] at a
 obtain ⟨R,eR⟩:∃ R,R=listR C rs p:=⟨_,rfl⟩
 rw [<- eR] at a hrl
 have hris:Ris R:=by rw [eR];exact listR_ris p o.ris
 have hRok:RowsOk R (m:Int):=by rw [eR];exact o.rok.sub (listR_sub C rs p)
 have hdl:d.length=R.length:=by rw [<- a.rows,List.length_map]
 have hfew:=hRok.few
 have hone:∀ x ∈ d,x.2.1.oneCell'=true:=fun x hx=>oneCell_own (a.vec x hx)
 have h1c:∀ v ∈ d.flatMap encR,v.oneCell'=true:=fun v hv=>by
  obtain ⟨x,hx,hv⟩:=List.mem_flatMap.1 hv
  simp only [encR,List.mem_cons,List.not_mem_nil,or_false] at hv
  rcases hv with rfl | rfl
  ·rfl
  ·exact hone x hx
 obtain ⟨hi,hie⟩:=plc_has (id:=id) hris (by unfold hasId;rw [List.any_eq_true];exact ⟨r,hrl,by simp [hri]⟩)
 have lk:=o.plc.look_ok (t:=88) Tryz.underlying3 Tryz.underlying88 (zeroInt w) hid
 rw [if_pos hpk,decide_eq_true hpk,hpf] at lk
 have ll:=o.lst.look (t:=87) Tryz.underlying3 Tryz.underlying87 (zeroList w) (x:=(p:Int)) ⟨by omega,by have:=o.cok.2.2;omega⟩
 rw [if_pos hks,a.val] at ll
 have cA:=among_c (cap:=(G p).2.2) a.pc.rd hone (by omega) id (by rw [a.rows];exact hris)
 rw [a.rows] at cA
 obtain ⟨i,ei⟩:∃ i,i=plc R id:=⟨_,rfl⟩
 rw [<- ei] at cA
 have hi':i < d.length:=by omega
 have hie':∃ hq:i < R.length,R[i].1=id:=⟨by omega,by simp only [ei];exact hie⟩
 obtain ⟨hq,hiq⟩:=hie'
 have DP:Hid (∀ w1,Gb w w1->Calls Tryz.prog 89 #[.slice (some ⟨(G p).1,(G p).2.1,none⟩) d.length (G p).2.2,.int .i64 (i:Int),.int .i64 ((i:Int) + 1)] w1 fun e w'=>e=.returned (.slice (some ⟨(G p).1,(G p).2.1,none⟩) (d.length - 1) (G p).2.2)/\PcR w' (G p).1 (G p).2.1 (d.length - 1) (G p).2.2 ((d.take i ++ d.drop (i + 1)).flatMap encR)/\Tn w1 w' (G p).1 (G p).2.1 ((G p).2.2 * 2)):=fun w1 g=>by
  have:=delP_c (i:=i) (a.pc.blk (g.block _ a.pc.lt)) hi' (by omega) h1c
  rw [flat_takeR,flat_dropR,<- List.flatMap_append,show ((i + 1:Nat):Int)=(i:Int) + 1 by omega] at this
  exact this
 have hdd:(d.take i ++ d.drop (i + 1)).map rwR=delRw R id:=by
  rw [List.map_append,List.map_take,List.map_drop,a.rows]
  exact del_at hris hq hiq
 have hdl2:(d.take i ++ d.drop (i + 1)).length=d.length - 1:=by rw [List.length_append,List.length_take,List.length_drop];omega
 have hdel:listR C (delRw rs id) p=delRw R id:=by rw [listR_del,<- eR]
 have hvd:∀ x ∈ d.take i ++ d.drop (i + 1),x ∈ d:=fun x hx=>by
  rcases List.mem_append.1 hx with hx | hx
  ·exact List.mem_of_mem_take hx
  ·exact List.mem_of_mem_drop hx
 have KP:Hid (∀ w1 w2,Gb w w1->PcR w2 (G p).1 (G p).2.1 (d.length - 1) (G p).2.2 ((d.take i ++ d.drop (i + 1)).flatMap encR)->Tn w1 w2 (G p).1 (G p).2.1 ((G p).2.2 * 2) ->
   Calls Tryz.prog 88 #[.pointer (some ⟨tb,0,none⟩),.int .i64 (p:Int),.slice (some ⟨(G p).1,(G p).2.1,none⟩) (d.length - 1) (G p).2.2] w2 fun e w3=>e=.returned (.tuple #[])/\KeepO w2 w3 lb p ks f C[p]! (delRw R id) (.slice (some ⟨(G p).1,(G p).2.1,none⟩) (d.length - 1) (G p).2.2) /\
    w3.cell? ⟨tb,3,none⟩=some (.map (some pb))/\∃ w5,(Builtin.delete_ #[88,3] 0 #[.map (some pb),.int .i64 id]).run Tryz.prog w3=.ok (.tuple #[]) w5/\TOut Iq w tb m C (blks tb gc lb pb ks G) (delRw rs id) w5):=fun w1 w2 g1 pc t=>by
  have k2:Tk.Kp (fun b=>b=(G p).1) w w2:=(kpF g1 |>.mono (fun _ _ h=>h.elim)).trans t.1
  have noG:NoInt w (fun b=>b=(G p).1):=by
   rintro k rfl cur s e
   obtain ⟨cur',e',_⟩:=a.pc
   rw [e] at e';simp at e'
  have tbn:tb ≠ (G p).1:=fun e=>by
   obtain ⟨cur',e',_⟩:=a.pc
   rw [<- e,o.blk] at e';simp at e'
  have eT:w2.heap[tb]? = w.heap[tb]? := k2.block _ (Array.getElem?_eq_some_iff.1 o.blk).1 tbn
  have cc1:w2.cell? ⟨tb,1,none⟩=some (.slice (some ⟨gc,0,none⟩) C.length cc):=cell_cur (eT.trans o.blk) rfl
  have cc2:w2.cell? ⟨tb,2,none⟩=some (.map (some lb)):=cell_cur (eT.trans o.blk) rfl
  have gcn:gc ≠ (G p).1:=fun e=>by
   obtain ⟨cur',e',_⟩:=a.pc
   obtain ⟨cur,e2,_⟩:=o.cen.blk
   rw [<- e,e2] at e';simp at e'
  have cq:=o.cen.kq k2 (NoI.of noG) gcn
  have mL:=o.lst.same (k2.block _ o.lst.lt (fun e=>a.pc.ne_map o.lst e.symm))
  have mP:=o.plc.same (k2.block _ o.plc.lt (fun e=>a.pc.ne_map o.plc e.symm))
  have hv2:∀ x ∈ d.take i ++ d.drop (i + 1),OwnQ Iq w2 x.2.1 x.2.2:=fun x hx=>ownq_noint (a.vec x (hvd x hx)) k2 noG
  have rd:RdW w2 (.slice (some ⟨(G p).1,(G p).2.1,none⟩) (d.length - 1) (G p).2.2) (delRw R id):=by
   rw [<- hdd,<- hdl2]
   rw [<- hdl2] at pc
   exact RwRd.rdw' pc.rd (fun x hx=>(hv2 x hx).rd)
  refine (keep_any cc1 (cq.rd cc) cc2 mL (by have:=o.ksl;omega) hpl (by have:=o.cok.2.2;omega) rd (by omega) (wf_ok (hRok.sub List.filter_sublist))).mono ?_
  rintro e w3 ⟨rfl,ko⟩
  have k3:=ko.kp
  have tbl:tb ≠ lb:=fun e=>by
   obtain ⟨es,cl,e'⟩:=o.lst.isMap
   rw [<- e,o.blk] at e';simp at e'
  have eT3:w3.heap[tb]? = w.heap[tb]? := (k3.block _ (Nat.lt_of_lt_of_le (Array.getElem?_eq_some_iff.1 o.blk).1 k2.size) tbl).trans eT
  have mP3:=mP.same (k3.block _ mP.lt (fun e=>o.ne e.symm))
  obtain ⟨w5,hrun,m5,t5⟩:=mP3.del (t:=88) Tryz.underlying3 Tryz.underlying88 hid 0
  refine ⟨rfl,ko,cell_cur (eT3.trans o.blk) rfl,w5,hrun,?_⟩
  refine one_fin (p:=p) (G1:=G p) (d':=d.take i ++ d.drop (i + 1)) o g1 (.inl ⟨hks,rfl,t⟩) (by rw [hdl2];exact pc) (by rw [hdel];exact hdd) hv2 (by rw [hdel,hdl2];exact ko) (Below.refl _ _) m5 t5 (fun x hx=>?_) (fun x=>?_) (fun y hy=>?_) (del_ris id o.ris) (o.rok.sub List.filter_sublist)
  ·rw [listR_del]
   refine del_self fun y hy e=>?_
   have hy':=mem_listR.1 hy
   have:y=r:=by
    have hnd:=ris_nodup o.ris
    have h1:=o.rok.ids
    unfold idsOf at h1
    rw [List.pairwise_map] at h1
    exact Decidable.byContradiction fun hne=>by
     obtain ⟨i1,hi1,e1⟩:=List.getElem_of_mem hy'.1
     obtain ⟨i2,hi2,e2⟩:=List.getElem_of_mem hr
     have hp2:=List.pairwise_iff_getElem.1 h1
     rcases Nat.lt_trichotomy i1 i2 with hlt | heq | hgt
     ·exact hp2 i1 i2 hi1 hi2 hlt (by rw [e1,e2,e,hri])
     ·subst heq;exact hne (e1.symm.trans e2)
     ·exact hp2 i2 i1 hi2 hi1 hgt (by rw [e1,e2,e,hri])
   rw [this] at hy'
   exact hx (by rw [<- hy'.2,hp])
  ·obtain ⟨_,_,hnd,_⟩:=o.plc
   rw [hnd.mem_erase_iff,o.pkk x]
   unfold idsOf delRw
   constructor
   ·rintro ⟨h1,h2⟩
    obtain ⟨y,hy,rfl⟩:=List.mem_map.1 h2
    exact List.mem_map.2 ⟨y,List.mem_filter.2 ⟨hy,by simp [h1]⟩,rfl⟩
   ·intro h2
    obtain ⟨y,hy,rfl⟩:=List.mem_map.1 h2
    obtain ⟨h3,h4⟩:=List.mem_filter.1 hy
    exact ⟨by simpa using h4,List.mem_map.2 ⟨y,h3,rfl⟩⟩
  ·exact o.pfv y (List.mem_filter.1 hy).1
 have hw1:IntKind.i64.wrap ((i:Int) + 1)=(i:Int) + 1:=by rw [IntKind.wrap_i64];omega
 generalize (G p).1=g at *
 generalize (G p).2.1=off at *
 generalize (G p).2.2=cap at *
 generalize d.length=n at *
 obtain ⟨al,nl,cl,el⟩:∃ al nl cl,vl=.slice al nl cl:=by obtain ⟨x,y,e,_⟩:=a.low.rd;exact ⟨_,_,_,e⟩
 obtain ⟨ah,nh,ch,eh⟩:∃ al nl cl,vh=.slice al nl cl:=by obtain ⟨x,y,e,_⟩:=a.high.rd;exact ⟨_,_,_,e⟩
 obtain ⟨ai,ni,ci,ei'⟩:∃ al nl cl,vi=.slice al nl cl:=by obtain ⟨x,y,e,_⟩:=a.ids.rd;exact ⟨_,_,_,e⟩
 subst el eh ei'
 unfold lv at ll
 generalize ballR C[p]! R=B at *
 clear a h1c hone hdl hfew hris hRok hdd hdl2 hdel hvd hrl hks hpk hpf hie hiq hq hi hp hr hri eR ei hi' o h hh hpl
 generalize B.S=bS at *
 generalize hi B.R=bh at *
 generalize lo B.R=bl at *
 have FL:=fld_rows (.int .i64 bS) (.slice al nl cl) (.slice ah nh ch) (.int .u64 bh) (.int .u64 bl) (.slice ai ni ci) (.slice (some ⟨g,off,none⟩) n cap)
 go_enter Tryz.func55,Tryz.ntmps55
 go_wp2_with fail
 refine cA.mono ?_
 rintro e w1 ⟨rfl,g1⟩
 have G1:Hid (Gb w w1):=gw_gb g1
 have D:=DP.out w1 G1.out
 clear DP cA g1
 go_wp2_with fail
 refine D.mono ?_
 rintro e w2 ⟨rfl,pc2,t2⟩
 have K:=KP.out w1 w2 G1.out pc2 t2
 clear KP D pc2 t2
 go_wp2_with fail
 refine K.mono ?_
 rintro e w3 ⟨rfl,_,c33,w5,hrun,hT⟩
 have T5:Hid (TOut Iq w tb m C (blks tb gc lb pb ks G) (delRw rs id) w5):=hT
 clear K hT
 go_wp2
 go_ret
 exact ⟨rfl,T5.out⟩
end Go.Proofs.YtcipdampcmfmaaaGreat

namespace Go.Proofs.YtcipdampcmfmaaaGreat
open Go.RowKit Go.Sort Go.Maps
set_option maxRecDepth 100000
set_option maxHeartbeats 4000000
theorem bs_nil {fv:Value} (w:World) (id:Int):Calls Tryz.prog 127 #[.slice none 0 0,.int .i64 id,fv] w fun e w'=>e=.returned (.tuple #[.int .i64 0,.bool false])/\Gb w w':=by
 go_enter Tryz.func127,Tryz.ntmps127
 go_wp2
 go_rounds 1
 all_goals
  go_wp2
  refine bodyPost_ret (v:=.tuple #[.int .i64 0,.bool false]) (by simp [results,Tryz.results127,go_sem]) rfl ⟨rfl,?_⟩
  first | exact Below.refl _ _ | exact (Below.refl _ _).drew
theorem among_nil (w:World) (id:Int):Calls Tryz.prog 87 #[.slice none 0 0,.int .i64 id] w fun e w'=>e=.returned (.int .i64 ((0:Nat):Int))/\Gb w w':=by
 have cB:=fun fv w=>bs_nil (fv:=fv) w id
 go_enter Tryz.func87,Tryz.ntmps87
 go_wp2_with fail
 go_fit (cB _ _)
 rintro e w1 ⟨rfl,g1⟩
 have G:Hid (Gb w w1):=g1
 clear g1 cB
 go_wp2
 go_ret
 exact ⟨rfl,G.out⟩
theorem add_c {Iq:Nat->Prop} {w:World} {tb m:Nat} {C:Vs} {rs:List Rw} {F:List Nat} {v:Value} {xi:Int} {xl:List Int} (h:TreeAt Iq w tb m C rs F) (hv:OwnQ Iq w v xl) (h1:okId xi=true) (h2:chk xl (m:Int)=0) (hh:hasId rs xi=false) (h512:rs.length < 512) :
  Calls Tryz.prog 56 #[.pointer (some ⟨tb,0,none⟩),.agg #[.int .i64 xi,v]] w fun e w'=>e=.returned (.tuple #[])/\TOut Iq w tb m C F (insRw rs (xi,xl)) w':=by
 obtain ⟨gc,cc,lb,pb,ks,pk,f,pf,G,o,rfl⟩:=h.opn
 obtain ⟨c0,c1,c2,c3⟩:=o.cells
 have hxi:=(okId_iff xi).1 h1
 have hid:KWf xi:=⟨by omega,by omega⟩
 have hnid:∀ r ∈ rs,r.1 ≠ xi:=fun r hr e=>by
  have:hasId rs xi=true:=by unfold hasId;rw [List.any_eq_true];exact ⟨r,hr,by simp [e]⟩
  rw [hh] at this;cases this
 obtain ⟨p,hp⟩:∃ p,p=(nearP C xl).1:=⟨_,rfl⟩
 have hpl:p < C.length:=by rw [hp];exact nearP_lt o.cok.2.1 _
 obtain ⟨R,eR⟩:∃ R,R=listR C rs p:=⟨_,rfl⟩
 have hris:Ris R:=by rw [eR];exact listR_ris p o.ris
 have hRok:RowsOk R (m:Int):=by rw [eR];exact o.rok.sub (listR_sub C rs p)
 have hfew:=hRok.few
 have hnR:∀ r ∈ R,r.1 ≠ xi:=fun r hr=>hnid r (by rw [eR] at hr;exact (mem_listR.1 hr).1)
 have hins:listR C (insRw rs (xi,xl)) p=insRw R (xi,xl):=by rw [listR_ins o.ris,if_pos hp.symm,<- eR]
 have hrok:RowsOk (insRw rs (xi,xl)) (m:Int):=by
  have hpm:=ins_perm rs (xi,xl)
  refine RowsOk.perm ?_ hpm.symm
  refine ⟨by rw [List.length_append];simp;omega,?_,fun r hr=>?_⟩
  ·unfold idsOf
   rw [List.map_append,List.pairwise_append]
   refine ⟨o.rok.ids,by simp,fun a ha b hb e=>?_⟩
   obtain ⟨y,hy,rfl⟩:=List.mem_map.1 ha
   simp at hb
   exact hnid y hy (e.trans hb)
  ·rcases List.mem_append.1 hr with hr | hr
   ·exact o.rok.row r hr
   ·simp at hr
    subst hr
    exact ⟨h1,h2⟩
 have hiris:Ris (insRw rs (xi,xl)):=ins_ris o.ris hnid
 obtain ⟨d,sl,LV,hsl,hLV,_,hdR,hvd,AM,IN⟩:∃ (d:List Rt) (sl LV:Value),(∃ a n c,sl=.slice a n c)/\((Instr.lookup 87 (.map (some lb)) (.int .i64 (p:Int)) false).run Tryz.prog w=.ok LV w/\(∀ w',w'.heap[lb]? = w.heap[lb]? -> (Instr.lookup 87 (.map (some lb)) (.int .i64 (p:Int)) false).run Tryz.prog w'=.ok LV w')/\∃ a1 a2 a3 a4 a5 b1 b2 b3 b4 b5 b6 b7 b8 b9,LV=.agg #[.int .i64 a1,.slice b1 b2 b3,.slice b4 b5 b6,.int .u64 a2,.int .u64 a3,.slice b7 b8 b9,sl]/\a4=0/\a5=0)/\True/\d.map rwR=R/\(∀ x ∈ d,OwnQ Iq w x.2.1 x.2.2) /\
   (∀ W,Gb w W->Calls Tryz.prog 87 #[sl,.int .i64 xi] W fun e w'=>e=.returned (.int .i64 (plc R xi:Nat))/\Gb W w') /\
   (∀ W vb tv,Gb w W->w.heap.size<=vb->W.heap[vb]? = some (.cells #[.int .i64 xi,v] tv (0,0))->Calls Tryz.prog 91 #[sl,.int .i64 (plc R xi:Nat),.slice (some ⟨vb,0,none⟩) 1 1] W fun e W'=>∃ G1:Loc,e=.returned (.slice (some ⟨G1.1,G1.2.1,none⟩) (R.length + 1) G1.2.2)/\PcR W' G1.1 G1.2.1 (R.length + 1) G1.2.2 ((d.take (plc R xi) ++ (xi,v,xl) :: d.drop (plc R xi)).flatMap encR)/\PcO W W' ((p:Int) ∈ ks) (G p) G1):=by
  have hv1:v.oneCell'=true:=oneCell_own hv
  have h1v:∀ u ∈ [Value.int .i64 xi,v],u.oneCell'=true:=fun u hu=>by
   simp only [List.mem_cons,List.not_mem_nil,or_false] at hu
   rcases hu with rfl | rfl
   ·rfl
   ·exact hv1
  have flm:∀ (d:List Rt) (i:Nat),(d.flatMap encR).take (i * 2) ++ [.int .i64 xi,v] ++ (d.flatMap encR).drop (i * 2)=(d.take i ++ (xi,v,xl) :: d.drop i).flatMap encR:=fun d i=>by
   rw [flat_takeR,flat_dropR,List.flatMap_append,List.flatMap_cons,List.append_assoc]
  have lk:=fun w' (e:w'.heap[lb]? = w.heap[lb]?)=>(o.lst.same e).look (t:=87) Tryz.underlying3 Tryz.underlying87 (zeroList w') (x:=(p:Int)) ⟨by omega,by have:=o.cok.2.2;omega⟩
  by_cases hks:(p:Int) ∈ ks
  ·obtain ⟨d,vl,vh,vi,a⟩:=o.ls.at_ _ hks
   simp only [Int.toNat_natCast] at a
   rw [<- eR] at a
   have hdl:d.length=R.length:=by rw [<- a.rows,List.length_map]
   have hone:∀ x ∈ d,x.2.1.oneCell'=true:=fun x hx=>oneCell_own (a.vec x hx)
   have h1c:∀ v ∈ d.flatMap encR,v.oneCell'=true:=fun v hv=>by
    obtain ⟨x,hx,hv⟩:=List.mem_flatMap.1 hv
    simp only [encR,List.mem_cons,List.not_mem_nil,or_false] at hv
    rcases hv with rfl | rfl
    ·rfl
    ·exact hone x hx
   obtain ⟨al,nl,cl,el⟩:∃ al nl cl,vl=.slice al nl cl:=by obtain ⟨x,y,e,_⟩:=a.low.rd;exact ⟨_,_,_,e⟩
   obtain ⟨ah,nh,ch,eh⟩:∃ al nl cl,vh=.slice al nl cl:=by obtain ⟨x,y,e,_⟩:=a.high.rd;exact ⟨_,_,_,e⟩
   obtain ⟨ai,ni,ci,ei'⟩:∃ al nl cl,vi=.slice al nl cl:=by obtain ⟨x,y,e,_⟩:=a.ids.rd;exact ⟨_,_,_,e⟩
   have lk2:=fun w' e=>by
    have:=lk w' e
    rw [if_pos hks,a.val,el,eh,ei'] at this
    exact this
   refine ⟨d,.slice (some ⟨(G p).1,(G p).2.1,none⟩) d.length (G p).2.2,_,⟨_,_,_,rfl⟩,⟨lk2 w rfl,lk2,_,_,_,0,0,_,_,_,_,_,_,_,_,_,rfl,rfl,rfl⟩,trivial,a.rows,a.vec,fun W g=>?_,fun W vb tv g hvb hb=>?_⟩
   ·refine (among_c (cap:=(G p).2.2) (a.pc.blk (g.block _ a.pc.lt)).rd hone (by omega) xi (by rw [a.rows];exact hris)).mono ?_
    rintro e w' ⟨rfl,g'⟩
    rw [a.rows]
    exact ⟨rfl,gw_gb g'⟩
   ·have pcW:=a.pc.blk (g.block _ a.pc.lt)
    refine (insP_c (i:=plc R xi) (vs:=[.int .i64 xi,v]) pcW (by omega) (by have:=plc_le R xi;omega) hb rfl (by have:=a.pc.lt;omega) h1c h1v).mono ?_
    intro e W' hO
    rw [flm] at hO
    rw [<- hdl]
    rcases hO with ⟨rfl,q1,q2⟩ | ⟨g',cap',rfl,q1,q2,q3⟩
    ·exact ⟨G p,rfl,q1,.inl ⟨hks,rfl,q2⟩⟩
    ·exact ⟨(g',0,cap'),rfl,q2,.inr ⟨q1,q3⟩⟩
  ·have hR0:R=[]:=by
    rw [eR]
    refine Decidable.byContradiction fun hne=>hks ((o.ls.keys _).2 ⟨by omega,by simpa using hne⟩)
   have lk2:=fun w' e=>by
    have:=lk w' e
    rw [if_neg hks] at this
    exact this
   refine ⟨[],.slice none 0 0,_,⟨_,_,_,rfl⟩,⟨lk2 w rfl,lk2,_,_,_,0,0,_,_,_,_,_,_,_,_,_,rfl,rfl,rfl⟩,trivial,by rw [hR0];rfl,(fun x hx=>by cases hx),fun W g=>?_,fun W vb tv g hvb hb=>?_⟩
   ·rw [hR0]
    exact among_nil W xi
   ·rw [hR0]
    refine (insR_c (v:=.slice none 0 0) (n:=0) (i:=0) (xs:=[]) (vs:=[.int .i64 xi,v]) (World.ownsRow_nil W 0 _ _) (by omega) (by omega) hb rfl (by simp [Value.ownBlock]) (fun v hv=>by cases hv) h1v).mono ?_
    rintro e W' ⟨g',cap',rfl,q1,q2,q3⟩
    refine ⟨(g',0,cap'),rfl,PcR.own q1,.inr ⟨?_,⟨q2.os,q2.tape,q2.output,q2.size,fun k hk=>q2.block k hk (by simp [Value.ownBlock])⟩⟩⟩
    rcases q3 with q3 | q3
    ·simp [Value.ownBlock] at q3
    ·exact q3
 obtain ⟨sa,sn,sc,rfl⟩:=hsl
 obtain ⟨lk0,lkA,a1,a2,a3,_,_,b1,b2,b3,b4,b5,b6,b7,b8,b9,rfl,_,_⟩:=hLV
 obtain ⟨va,vn,vc,rfl⟩:∃ a n c,v=.slice a n c:=by obtain ⟨x,y,e,_⟩:=hv.rd;exact ⟨_,_,_,e⟩
 have g0:Gb w (w.alloc (.cells #[.int .i64 xi,.slice va vn vc] 43)):=gb_alloc (Below.refl _ _) _
 have PO:=placeOf_c (id:=xi) ((o.cen.rd cc).gb g0) (hv.rd.gb g0) (gb_keeps g0 c1) (nE o.cok.1 o.cok.2.1 o.cok.2.2 h2)
 rw [<- hp] at PO
 have hdR2:(d.take (plc R xi) ++ (xi,.slice va vn vc,xl) :: d.drop (plc R xi)).map rwR=insRw R (xi,xl):=by
  rw [List.map_append,List.map_cons,List.map_take,List.map_drop,hdR]
  rfl
 have hdl2:(d.take (plc R xi) ++ (xi,.slice va vn vc,xl) :: d.drop (plc R xi)).length=R.length + 1:=by
  have:=congrArg List.length hdR2
  rw [List.length_map] at this
  rw [this]
  have:=(ins_perm R (xi,xl)).length_eq
  simpa using this
 have hvd2:∀ x ∈ d.take (plc R xi) ++ (xi,.slice va vn vc,xl) :: d.drop (plc R xi),OwnQ Iq w x.2.1 x.2.2:=fun x hx=>by
  rcases List.mem_append.1 hx with hx | hx
  ·exact hvd x (List.mem_of_mem_take hx)
  ·rcases List.mem_cons.1 hx with rfl | hx
   ·exact hv
   ·exact hvd x (List.mem_of_mem_drop hx)
 have hiok:RowsOk (insRw R (xi,xl)) (m:Int):=by rw [<- hins];exact hrok.sub (listR_sub _ _ _)
 have KP:Hid (∀ W1 W2 (G1:Loc),Gb (w.alloc (.cells #[.int .i64 xi,.slice va vn vc] 43)) W1->PcR W2 G1.1 G1.2.1 (R.length + 1) G1.2.2 ((d.take (plc R xi) ++ (xi,.slice va vn vc,xl) :: d.drop (plc R xi)).flatMap encR)->PcO W1 W2 ((p:Int) ∈ ks) (G p) G1 ->
   Calls Tryz.prog 88 #[.pointer (some ⟨tb,0,none⟩),.int .i64 (p:Int),.slice (some ⟨G1.1,G1.2.1,none⟩) (R.length + 1) G1.2.2] W2 fun e w3=>e=.returned (.tuple #[]) /\
    w3.cell? ⟨tb,3,none⟩=some (.map (some pb))/\w3.cell? ⟨w.heap.size,0,none⟩=some (.int .i64 xi)/\∃ w5,(Instr.mapUpdate 88 (.map (some pb)) (.int .i64 xi) (.int .i64 (p:Int))).run Tryz.prog w3.drew=.ok () w5/\TOut Iq w tb m C (blks tb gc lb pb ks G) (insRw rs (xi,xl)) w5):=fun W1 W2 G1 g1 pc pco=>by
  have gw1:=gb_trans g0 g1
  have k2:Tk.Kp (fun b=>(p:Int) ∈ ks/\b=(G p).1) W1 W2:=by
   rcases pco with ⟨hp,_,t,_⟩ | ⟨_,g⟩
   ·exact t.mono (fun k _ e=>⟨hp,e⟩)
   ·exact (kpF g).mono (fun _ _ h=>h.elim)
  have hpc:(p:Int) ∈ ks->∃ n xs,PcR w (G p).1 (G p).2.1 n (G p).2.2 xs:=fun hp=>by
   obtain ⟨d,vl,vh,vi,a⟩:=o.ls.at_ _ hp
   exact ⟨_,_,a.pc⟩
  have keep:∀ b,b < w.heap.size->(∀ cur,w.heap[b]? ≠ some (.cells cur 43 (0,0)))->W2.heap[b]? = w.heap[b]? := fun b hb hne=>by
   rw [k2.block _ (Nat.lt_of_lt_of_le hb gw1.size) (fun ⟨hp,e⟩=>?_),gw1.block _ hb]
   obtain ⟨n,xs,cur,c,_⟩:=hpc hp
   exact hne cur (by rw [e];exact c)
  have noS:NoInt W1 (fun b=>(p:Int) ∈ ks/\b=(G p).1):=by
   rintro k ⟨hp,rfl⟩ cur s e
   obtain ⟨n,xs,c⟩:=hpc hp
   obtain ⟨cur',e',_⟩:=c.blk (gw1.block _ c.lt)
   rw [e] at e';simp at e'
  obtain ⟨ccur,hcc,_⟩:=o.cen.blk
  have tlt:=(Array.getElem?_eq_some_iff.1 o.blk).1
  have eT:W2.heap[tb]? = w.heap[tb]? := keep tb tlt (fun cur e=>by rw [o.blk] at e;simp at e)
  have eL:W2.heap[lb]? = w.heap[lb]? := keep lb o.lst.lt (fun cur e=>by obtain ⟨es,cl,e'⟩:=o.lst.isMap;rw [e] at e';simp at e')
  have eP:W2.heap[pb]? = w.heap[pb]? := keep pb o.plc.lt (fun cur e=>by obtain ⟨es,cl,e'⟩:=o.plc.isMap;rw [e] at e';simp at e')
  have cqk:Tk.Kp (fun b=>(p:Int) ∈ ks/\b=(G p).1) w W2:=(kpF gw1 |>.mono (fun _ _ h=>h.elim)).trans k2
  have no0:NoInt w (fun b=>(p:Int) ∈ ks/\b=(G p).1):=by
   rintro k ⟨hp,rfl⟩ cur s e
   obtain ⟨n,xs,cur',e',_⟩:=hpc hp
   rw [e] at e';simp at e'
  have cq:=o.cen.kq cqk (NoI.of no0) (fun ⟨hp,e⟩=>by
   obtain ⟨n,xs,cur',e',_⟩:=hpc hp
   rw [<- e,hcc] at e';simp at e')
  have hv2:∀ x ∈ d.take (plc R xi) ++ (xi,.slice va vn vc,xl) :: d.drop (plc R xi),OwnQ Iq W2 x.2.1 x.2.2:=fun x hx=>ownq_noint (hvd2 x hx) cqk no0
  have rd:RdW W2 (.slice (some ⟨G1.1,G1.2.1,none⟩) (R.length + 1) G1.2.2) (insRw R (xi,xl)):=by
   rw [<- hdR2,<- hdl2]
   rw [<- hdl2] at pc
   exact RwRd.rdw' pc.rd (fun x hx=>(hv2 x hx).rd)
  refine (keep_any (cell_cur (eT.trans o.blk) rfl) (cq.rd cc) (cell_cur (eT.trans o.blk) rfl) (o.lst.same eL) (by have:=o.ksl;omega) hpl (by have:=o.cok.2.2;omega) rd (by omega) (wf_ok hiok)).mono ?_
  rintro e w3 ⟨rfl,ko⟩
  have k3:=ko.kp
  have tbl:tb ≠ lb:=fun e=>by
   obtain ⟨es,cl,e'⟩:=o.lst.isMap
   rw [<- e,o.blk] at e';simp at e'
  have eT3:w3.heap[tb]? = w.heap[tb]? := (k3.block _ (Nat.lt_of_lt_of_le tlt cqk.size) tbl).trans eT
  have mP:=o.plc.same eP
  have mP3:=mP.same (k3.block _ mP.lt (fun e=>o.ne e.symm))
  have b0:(w.alloc (.cells #[.int .i64 xi,.slice va vn vc] 43)).heap[w.heap.size]? = some (.cells #[.int .i64 xi,.slice va vn vc] 43 (0,0)):=Array.getElem?_push_size
  have b1:W1.heap[w.heap.size]? = _:=(g1.block _ (by simp)).trans b0
  have b2:W2.heap[w.heap.size]? = _:=(k2.block _ (Array.getElem?_eq_some_iff.1 b1).1 (fun ⟨hp,e⟩=>by
   obtain ⟨n,xs,c⟩:=hpc hp
   have:=c.lt
   omega)).trans b1
  have b3:w3.heap[w.heap.size]? = _:=(k3.block _ (Array.getElem?_eq_some_iff.1 b2).1 (fun e=>by have:=o.lst.lt;omega)).trans b2
  obtain ⟨w5,hrun,m5,t5⟩:=(mP3.same (w':=w3.drew) rfl).put (t:=88) Tryz.underlying3 Tryz.underlying88 (by have:=o.pkl;omega) hid (.int .i64 (p:Int))
  refine ⟨rfl,cell_cur (eT3.trans o.blk) rfl,cell_cur b3 rfl,w5,hrun,?_⟩
  have m5':MapA Tryz.prog 3 w5 pb (putK pk xi) (fun x=>.int .i64 (if x=xi then (p:Int) else pf x)):=m5.ext (fun x _=>by unfold putF;split <;> rfl)
  refine one_fin (p:=p) (G1:=G1) (d':=d.take (plc R xi) ++ (xi,.slice va vn vc,xl) :: d.drop (plc R xi)) o gw1 pco (by rw [hdl2];exact pc) (by rw [hins];exact hdR2) hv2 (by rw [hins,hdl2];exact ko) (w4:=w3.drew) (Below.refl _ _).drew m5' t5 (fun x hx=>?_) (fun x=>?_) (fun y hy=>?_) hiris hrok
  ·rw [listR_ins o.ris,if_neg (fun e=>hx (by rw [<- e,hp]))]
  ·rw [mem_putK,o.pkk x]
   unfold idsOf
   rw [((ins_perm rs (xi,xl)).map Prod.fst).mem_iff,List.map_append,List.mem_append]
   simp
   exact or_comm
  ·have hy':=(ins_perm rs (xi,xl)).mem_iff.1 hy
   rcases List.mem_append.1 hy' with hy' | hy'
   ·rw [if_neg (hnid y hy')]
    exact o.pfv y hy'
   ·simp at hy'
    subst hy'
    rw [if_pos rfl,hp]
 have FL:=fld_rows (.int .i64 a1) (.slice b1 b2 b3) (.slice b4 b5 b6) (.int .u64 a2) (.int .u64 a3) (.slice b7 b8 b9) (.slice sa sn sc)
 have LB:Hid (∀ W,Gb w W->(Instr.lookup 87 (.map (some lb)) (.int .i64 (p:Int)) false).run Tryz.prog W=.ok (.agg #[.int .i64 a1,.slice b1 b2 b3,.slice b4 b5 b6,.int .u64 a2,.int .u64 a3,.slice b7 b8 b9,.slice sa sn sc]) W):=fun W g=>lkA W (g.block _ o.lst.lt)
 have AH:Hid _:=AM
 have IH:Hid _:=IN
 have G0:Hid _:=g0
 have CX:Hid (w.cell? ⟨tb,2,none⟩=some (.map (some lb))):=c2
 have tlt:tb < w.heap.size:=cell_lt c1
 obtain ⟨at0,eat⟩:∃ a,a=plc R xi:=⟨_,rfl⟩
 rw [<- eat] at *
 clear AM IN lk0 lkA hdR hdR2 hdl2 hvd hvd2 hiok hiris hrok hins hnR hfew hRok hris hnid hid hxi g0 c0 c1 c2 c3 hv eat hp eR o h hh h512 h1 h2 hpl
 go_enter Tryz.func56,Tryz.ntmps56
 go_wp2_with fail
 refine PO.mono ?_
 rintro e w1 ⟨rfl,g1⟩
 have G1:Hid (Gb (w.alloc (.cells #[.int .i64 xi,.slice va vn vc] 43)) w1):=g1.gb
 clear PO g1
 have GW:Hid (Gb w w1):=gb_trans G0.out G1.out
 have e0:(w.alloc (.cells #[.int .i64 xi,.slice va vn vc] 43)).cell? ⟨w.heap.size,0,none⟩=some (.int .i64 xi):=by simp [go_sem]
 have e1:(w.alloc (.cells #[.int .i64 xi,.slice va vn vc] 43)).cell? ⟨w.heap.size,1,none⟩=some (.slice va vn vc):=by simp [go_sem]
 have E:Hid (∀ W,Gb (w.alloc (.cells #[.int .i64 xi,.slice va vn vc] 43)) W->W.cell? ⟨w.heap.size,0,none⟩=some (.int .i64 xi)/\W.cell? ⟨w.heap.size,1,none⟩=some (.slice va vn vc)):=fun W g=>⟨gb_keeps g e0,gb_keeps g e1⟩
 clear e0 e1
 obtain ⟨x0,x1⟩:=E.out w1 G1.out
 have x2:=gb_keeps GW.out CX.out
 have lk:=LB.out w1 GW.out
 have A:=AH.out w1 GW.out
 have tl1:tb < w1.heap.size:=cell_lt x2
 go_wp2_with fail
 refine A.mono ?_
 rintro e w2 ⟨rfl,g2⟩
 have G2:Hid (Gb (w.alloc (.cells #[.int .i64 xi,.slice va vn vc] 43)) w2):=gb_trans G1.out g2
 have GW2:Hid (Gb w w2):=gb_trans G0.out G2.out
 clear A g2 x0 x1 x2 lk tl1
 obtain ⟨x0,x1⟩:=E.out w2 G2.out
 have I:=IH.out (w2.alloc (.cells #[.int .i64 xi,.slice va vn vc] 43)) w2.heap.size 43 (gb_alloc GW2.out _) GW2.out.size Array.getElem?_push_size
 go_wp2_with fail
 refine I.mono ?_
 rintro e w3 ⟨Gn,rfl,pc,pco⟩
 have K:=KP.out _ w3 Gn (gb_alloc G2.out _) pc pco
 clear I pc pco x0 x1
 go_wp2_with fail
 refine K.mono ?_
 rintro e w4 ⟨rfl,x3,x4,w5,hrun,hT⟩
 have T5:Hid (TOut Iq w tb m C (blks tb gc lb pb ks G) (insRw rs (xi,xl)) w5):=hT
 clear K hT
 have tl4:tb < w4.heap.size:=cell_lt x3
 have bl4:w.heap.size < w4.heap.size:=cell_lt x4
 go_wp2_with fail
 go_region
 all_goals
  go_wp2
  go_end0
  exact ⟨rfl,T5.out⟩
end Go.Proofs.YtcipdampcmfmaaaGreat

namespace Go.Proofs.YtcipdampcmfmaaaGreat
open Go.RowKit Go.Sort Go.Maps
def PLn (C:Vs) (x:Rt):Nat:=(nearP C x.2.2).1
def Srt2 (C:Vs) (d:List Rt):Prop:=d.Pairwise fun x y=>PLn C x < PLn C y ∨ (PLn C x=PLn C y/\x.1 < y.1)
theorem listR_map (C:Vs) (d:List Rt) (p:Nat):listR C (d.map rwR) p=(d.filter fun x=>decide (PLn C x=p)).map rwR:=by
 unfold listR
 rw [List.filter_map]
 rfl
theorem lay_ris {C:Vs} {d:List Rt} (h:Srt2 C d) (p:Nat):Ris (listR C (d.map rwR) p):=by
 rw [listR_map]
 unfold Ris
 rw [List.pairwise_map]
 refine List.Pairwise.imp_of_mem ?_ (h.sublist List.filter_sublist)
 intro a b ha hb hab
 have e1:=(List.mem_filter.1 ha).2
 have e2:=(List.mem_filter.1 hb).2
 simp only [decide_eq_true_eq] at e1 e2
 rcases hab with hab | hab
 ·omega
 ·exact hab.2
theorem lay_same {C:Vs} {d:List Rt} {rs:List Rw} (h:Srt2 C d) (pm:(d.map rwR).Perm rs) (hr:Ris rs) (p:Nat):listR C (d.map rwR) p=listR C rs p :=
 ris_eq (lay_ris h p) (listR_ris p hr) (pm.filter _)
theorem lay_next {C:Vs} {d:List Rt} {off cnt p:Nat} (h1:∀ i (hi:i < d.length),i < off->PLn C d[i] < p) (h2:∀ i (hi:i < d.length),off<=i->i < off + cnt->PLn C d[i]=p) (x:Nat) :
  listR C ((d.take (off + cnt)).map rwR) x=if x=p then ((d.drop off).take cnt).map rwR else listR C ((d.take off).map rwR) x:=by
 rw [List.take_add,listR_map,List.filter_append,List.map_append,<- listR_map]
 by_cases e:x=p
 ·subst e
  rw [if_pos rfl]
  have a1:listR C ((d.take off).map rwR) x=[]:=by
   rw [listR_map,List.map_eq_nil_iff,List.filter_eq_nil_iff]
   intro y hy
   obtain ⟨i,hi,rfl⟩:=List.getElem_of_mem hy
   rw [List.length_take] at hi
   have:=h1 i (by omega) (by omega)
   rw [List.getElem_take]
   simp
   omega
  have a2:(((d.drop off).take cnt).filter fun y=>decide (PLn C y=x))=(d.drop off).take cnt:=by
   rw [List.filter_eq_self]
   intro y hy
   obtain ⟨i,hi,rfl⟩:=List.getElem_of_mem hy
   rw [List.length_take,List.length_drop] at hi
   have:=h2 (off + i) (by omega) (by omega) (by omega)
   rw [List.getElem_take,List.getElem_drop]
   simp [this]
  rw [a1,a2,List.nil_append]
 ·rw [if_neg e]
  have a2:(((d.drop off).take cnt).filter fun y=>decide (PLn C y=x))=[]:=by
   rw [List.filter_eq_nil_iff]
   intro y hy
   obtain ⟨i,hi,rfl⟩:=List.getElem_of_mem hy
   rw [List.length_take,List.length_drop] at hi
   have:=h2 (off + i) (by omega) (by omega) (by omega)
   rw [List.getElem_take,List.getElem_drop]
   simp [this]
   omega
  rw [a2,List.map_nil,List.append_nil]
theorem lay_step {Iq:Nat->Prop} {w w':World} {C:Vs} {d:List Rt} {ks:List Int} {f:Int->Value} {G:Int->Loc} {lb p off cnt g:Nat} (L:LstM Iq w C ((d.take off).map rwR) ks f G) (hm:MapA Tryz.prog 3 w lb ks f) (hc:1<=cnt) (hl:off + cnt<=d.length)
  (pc:PcR w g (off * 2) cnt cnt (((d.drop off).take cnt).flatMap encR)) (hv:∀ x ∈ d,OwnQ Iq w x.2.1 x.2.2) (ko:KeepO w w' lb p ks f C[p]! (((d.drop off).take cnt).map rwR) (.slice (some ⟨g,off * 2,none⟩) cnt cnt))
  (h1:∀ i (hi:i < d.length),i < off->PLn C d[i] < p) (h2:∀ i (hi:i < d.length),off<=i->i < off + cnt->PLn C d[i]=p) (hG:∀ x ∈ ks,(G x).1=g/\(G x).2.1 + (G x).2.2 * 2<=off * 2) (up:Up Iq w) :
  ∃ ks' f' G',LstM Iq w' C ((d.take (off + cnt)).map rwR) ks' f' G'/\MapA Tryz.prog 3 w' lb ks' f'/\∀ x ∈ ks',(G' x).1=g/\(G' x).2.1 + (G' x).2.2 * 2<=(off + cnt) * 2:=by
 have hln:((d.drop off).take cnt).length=cnt:=by rw [List.length_take,List.length_drop];omega
 have k:=ko.kp
 have no:NoInt w (fun k=>k=lb):=by
  rintro k rfl cur s e
  obtain ⟨es,cl,e'⟩:=hm.isMap
  rw [e] at e';simp at e'
 have nx:=lay_next h1 h2
 rcases ko with ⟨hR,_⟩ | ⟨hR,v1,V,vl,vh,vi,o,gV,mk,t3⟩
 ·have:=congrArg List.length hR
  rw [List.length_map,hln] at this
  simp at this
  omega
 ·have pk:∀ {g o n cap:Nat} {xs:List Value},PcR w g o n cap xs->PcR w' g o n cap xs:=fun c=>c.blk (k.block _ c.lt (fun e=>c.ne_map hm e))
  have kv:Tk.Kp (fun k=>k=lb) v1 w':=((kpF gV).mono (fun _ _ h=>h.elim)).trans (turned_of t3).2.2
  have nov:NoInt v1 (fun k=>k=lb):=by
   have m':=hm.same (o.1.block _ hm.lt)
   rintro k rfl cur s e
   obtain ⟨es,cl,e'⟩:=m'.isMap
   rw [e] at e';simp at e'
  have hnp:(p:Int) ∉ ks:=fun hp=>by
   have:=((L.keys _).1 hp).2
   rw [Int.toNat_natCast,listR_map] at this
   refine this ?_
   rw [List.map_eq_nil_iff,List.filter_eq_nil_iff]
   intro y hy
   obtain ⟨i,hi,rfl⟩:=List.getElem_of_mem hy
   rw [List.length_take] at hi
   have:=h1 i (by omega) (by omega)
   rw [List.getElem_take]
   simp
   omega
  refine ⟨putK ks p,_,fun x=>if x=(p:Int) then (g,off * 2,cnt) else G x,⟨fun x=>?_,fun x hx=>?_,fun x hx y hy hne=>?_⟩,mk,fun x hx=>?_⟩
  ·rw [mem_putK,L.keys x,nx]
   by_cases e:x=(p:Int)
   ·subst e
    rw [Int.toNat_natCast,if_pos rfl]
    exact ⟨fun _=>⟨by omega,hR⟩,fun _=>.inl rfl⟩
   ·constructor
    ·rintro (e' | ⟨h3,h4⟩)
     ·exact absurd e' e
     ·exact ⟨h3,by rw [if_neg (by omega)];exact h4⟩
    ·rintro ⟨h3,h4⟩
     rw [if_neg (by omega)] at h4
     exact .inr ⟨h3,h4⟩
  ·by_cases e:x=(p:Int)
   ·subst e
    refine ⟨(d.drop off).take cnt,vl,vh,vi,?_⟩
    rw [Int.toNat_natCast,nx,if_pos rfl,if_pos rfl]
    refine ⟨by simp [putF,hln],rfl,by rw [hln];exact pk pc,fun y hy=>ownq_noint (hv y (List.mem_of_mem_drop (List.mem_of_mem_take hy))) k no,?_,?_,?_⟩
    ·exact ownq_noint (OwnQ.new o.2.1 up (Nat.le_refl _)) kv nov
    ·exact ownq_noint (OwnQ.new o.2.2.1 up (Nat.le_refl _)) kv nov
    ·exact ownq_noint (OwnQ.new o.2.2.2.1 up (Nat.le_refl _)) kv nov
   ·have hx':x ∈ ks:=by
     rcases mem_putK.1 hx with h | h
     ·exact absurd h e
     ·exact h
    have hx0:=((L.keys x).1 hx').1
    obtain ⟨d',vl',vh',vi',a⟩:=L.at_ x hx'
    refine ⟨d',vl',vh',vi',?_⟩
    rw [nx,if_neg (by omega),if_neg e]
    refine ⟨(if_neg e:putF f p _ x=f x).trans a.val,a.rows,pk a.pc,fun y hy=>ownq_noint (a.vec y hy) k no,ownq_noint a.low k no,ownq_noint a.high k no,ownq_noint a.ids k no⟩
  ·have old:∀ z,z ∈ putK ks (p:Int)->z ≠ (p:Int)->z ∈ ks:=fun z hz e=>by
    rcases mem_putK.1 hz with h | h
    ·exact absurd h e
    ·exact h
   by_cases e:x=(p:Int)
   ·subst e
    rw [if_pos rfl,if_neg (fun e=>hne e.symm)]
    exact .inr (.inr (hG y (old y hy (fun e=>hne e.symm))).2)
   ·rw [if_neg e]
    by_cases e':y=(p:Int)
    ·subst e'
     rw [if_pos rfl]
     exact .inr (.inl (hG x (old x hx e)).2)
    ·rw [if_neg e']
     exact L.apart x (old x hx e) y (old y hy e') hne
  ·by_cases e:x=(p:Int)
   ·subst e
    dsimp only
    rw [if_pos rfl]
    exact ⟨rfl,by dsimp only;omega⟩
   ·dsimp only
    rw [if_neg e]
    have hx':x ∈ ks:=by
     rcases mem_putK.1 hx with h | h
     ·exact absurd h e
     ·exact h
    have:=hG x hx'
    exact ⟨this.1,by omega⟩
end Go.Proofs.YtcipdampcmfmaaaGreat

namespace Go.Proofs.YtcipdampcmfmaaaGreat
open Go.RowKit Go.Sort Go.Maps
set_option maxRecDepth 100000
set_option maxHeartbeats 1000000
theorem backrows_c {w0 w:World} {B T G:Nat} {v:Value} {rs:List Rw} {f:Nat->Value × Value} {gs:Nat->Nat} (hL:LT B T w G rs f gs) (g0:Gb w0 w) (hB:w0.heap.size<=B) (hv:RdW w0 v rs) (hn:rs.length<=65536) (hr:∀ i,i < rs.length->rs[i]!.2.length<=65536) :
  Calls Tryz.prog 13 #[.slice (some ⟨G,0,none⟩) rs.length (rs.length + 1),v] w fun e w'=>e=.returned (.bool true)/\Mid B T w w':=by
 have V:Hid (RdW w0 v rs):=hv
 have HR:Hid (∀ i,i < rs.length->rs[i]!.2.length<=65536):=hr
 have LL:Hid (LT B T w G rs f gs):=hL
 obtain ⟨av,cv,rfl,_⟩:=hv
 obtain ⟨n,hN⟩:∃ n,n=rs.length:=⟨_,rfl⟩
 have N:Hid (n=rs.length):=hN
 obtain ⟨m,hM⟩:∃ m,m=n + 1:=⟨_,rfl⟩
 have M:Hid (m=n + 1):=hM
 have hm:(n:Int) + 1=(m:Int):=by omega
 have hnm:(n:Int) < (m:Int):=by omega
 have hnm2:n<=m:=by omega
 have hmk0:=(hL.arr.cell (i:=rs.length) (by omega)).1
 rw [hL.mark] at hmk0
 have GG:Hid (Gb w0 w/\w0.heap.size<=B):=⟨g0,hB⟩
 have S0:Hid (Bk B T w w G rs f gs 0):=hL.bk
 rw [<- hN] at V hn hmk0 ⊢
 rw [<- hM]
 have hmb:m<=65537:=by omega
 clear hN hM hr hL g0 hB
 go_enter Tryz.func13,Tryz.ntmps13
 go_wp2
 go_loopw [5,6] (fun ok iv W=>ok=.bool true/\∃ p:Nat,iv=.int .i64 (p:Int)/\p<=n/\Hid (Bk B T w W G rs f gs p)) (fun _ iv _=>n - (intOf iv).toNat)
 case atStart=>exact ⟨rfl,0,rfl,Nat.zero_le _,S0.out⟩
 case round =>
  obtain ⟨rfl,p,rfl,hp,X⟩:=hrel
  by_cases hpn:p < n
  ·have hpi:decide ((p:Int) < (n:Int))=true:=by rw [decide_eq_true_eq];omega
   have hpp:(p:Int) < (n:Int):=by omega
   have hpm:(p:Int) < (m:Int):=by omega
   have hpl:p < rs.length:=by have:=N.out;omega
   obtain ⟨_,_,ev,hA⟩:=V.out
   obtain ⟨b,o,ur,ea,k1,k2,k3⟩:=hA p hpl
   injection ev with ev1 ev2 ev3
   subst ev1
   subst ea
   clear hA ev2 ev3
   have gX:Gb w0 wr:=X.out.mid.gb GG.out.1 GG.out.2
   obtain ⟨r1,r2,r3,_⟩:=LL.out.row p hpl
   obtain ⟨f',a1,a2⟩:=X.out.arr
   have c1:=a1.cell (i:=p) (by omega)
   rw [a2 p (Nat.le_refl _),r1] at c1
   have bw:=World.block_lt_of_cell? w0 _ k1
   have hlo:=LL.out.lo
   have hB2:=GG.out.2
   have hgp:=r2.1
   have hne:b ≠ gs p:=by simp only [] at bw;omega
   have hnG:G ≠ gs p:=by omega
   have cl:=back_c (X.out.drew.lent p (Nat.le_refl _) hpl) (k3.gb gX.drew) (HR.out p hpl)
   have FS0:Qs wr.drew ⟨G,p * 2,none⟩ ⟨G,p * 2 + 1,none⟩ ⟨b,o + p * 2,none⟩ ⟨b,o + p * 2 + 1,none⟩ (.int .i64 rs[p]!.1) (.slice (some ⟨gs p,0,none⟩) rs[p]!.2.length (rs[p]!.2.length + 1)) (.int .i64 rs[p]!.1) ur:=⟨c1.1,c1.2,gb_keeps gX k1,gb_keeps gX k2⟩
   obtain ⟨pr,cr,rfl,_⟩:=k3
   have XD:Hid (Bk B T w wr.drew G rs f gs p):=X.out.drew
   clear k1 k2 c1 a1 a2 r1 r2 r3 gX bw hlo hB2 hgp
   generalize rs[p]!.2.length=nr at *
   generalize rs[p]!.1=x1 at *
   go_wp2
   refine wp_region_held_drew (S:=fun w'=>Qs w' ⟨G,p * 2,none⟩ ⟨G,p * 2 + 1,none⟩ ⟨b,o + p * 2,none⟩ ⟨b,o + p * 2 + 1,none⟩ (.int .i64 x1) (.slice (some ⟨gs p,0,none⟩) nr (nr + 1)) (.int .i64 x1) (.slice pr nr cr)) (by kernel_rfl) (FS0) (fun hHeld=>?_)
   refine tkn 0 ?_ rfl ?_ ?_;rotate_left;·(rintro w ⟨s1,s2,s3,s4⟩;go_simp;try rfl)
   try simp only [pt]
   refine tkn 1 ?_ rfl ?_ ?_;rotate_left;·(rintro w ⟨s1,s2,s3,s4⟩;go_simp;try rfl)
   try simp only [pt]
   refine tkn 2 ?_ rfl ?_ ?_;rotate_left;·(rintro w ⟨s1,s2,s3,s4⟩;go_simp;try rfl)
   try simp only [pt]
   refine tkn 3 ?_ rfl ?_ ?_;rotate_left;·(rintro w ⟨s1,s2,s3,s4⟩;go_simp;try rfl)
   try simp only [pt]
   refine tkn 4 ?_ rfl ?_ ?_;rotate_left;·(rintro w ⟨s1,s2,s3,s4⟩;go_simp;try rfl)
   try simp only [pt]
   refine tkn 5 ?_ rfl ?_ ?_;rotate_left;·(rintro w ⟨s1,s2,s3,s4⟩;go_simp;try rfl)
   try simp only [pt]
   refine tkn 6 ?_ rfl ?_ ?_;rotate_left;·(rintro w ⟨s1,s2,s3,s4⟩;go_simp;try rfl)
   try simp only [pt]
   refine tkn 7 ?_ rfl ?_ ?_;rotate_left;·(rintro w ⟨s1,s2,s3,s4⟩;go_simp;try rfl)
   try simp only [pt]
   refine tkn 8 ?_ rfl ?_ ?_;rotate_left;·(rintro w ⟨s1,s2,s3,s4⟩;go_simp;try rfl)
   try simp only [pt]
   refine tkn 9 ?_ rfl ?_ ?_;rotate_left;·(rintro w ⟨s1,s2,s3,s4⟩;go_simp;try rfl)
   try simp only [pt]
   refine tkn 10 ?_ rfl ?_ ?_;rotate_left;·(rintro w ⟨s1,s2,s3,s4⟩;go_simp;try rfl)
   try simp only [pt]
   refine tkn 11 ?_ rfl ?_ ?_;rotate_left;·(rintro w ⟨s1,s2,s3,s4⟩;go_simp;try rfl)
   try simp only [pt]
   refine tkn 12 ?_ rfl ?_ ?_;rotate_left;·(rintro w ⟨s1,s2,s3,s4⟩;go_simp;try rfl)
   try simp only [pt]
   refine tkn 13 ?_ rfl ?_ ?_;rotate_left;·(rintro w ⟨s1,s2,s3,s4⟩;go_simp;try rfl)
   try simp only [pt]
   refine tkn 14 ?_ rfl ?_ ?_;rotate_left;·(rintro w ⟨s1,s2,s3,s4⟩;go_simp;try rfl)
   try simp only [pt]
   refine tkn 15 ?_ rfl ?_ ?_;rotate_left;·(rintro w ⟨s1,s2,s3,s4⟩;go_simp;try rfl)
   try simp only [pt]
   refine tkn 16 ?_ rfl ?_ ?_;rotate_left;·(rintro w ⟨s1,s2,s3,s4⟩;go_simp;try rfl)
   try simp only [pt]
   refine tkn 17 ?_ rfl ?_ ?_;rotate_left;·(rintro w ⟨s1,s2,s3,s4⟩;go_simp;try rfl)
   try simp only [pt]
   refine tkn 18 ?_ rfl ?_ ?_;rotate_left;·(rintro w ⟨s1,s2,s3,s4⟩;go_simp;try rfl)
   try simp only [pt]
   refine tkn 19 ?_ rfl ?_ ?_;rotate_left;·(rintro w ⟨s1,s2,s3,s4⟩;go_simp;try rfl)
   try simp only [pt]
   refine tkn 20 ?_ rfl ?_ ?_;rotate_left;·(rintro w ⟨s1,s2,s3,s4⟩;go_simp;try rfl)
   try simp only [pt]
   refine tkn 21 ?_ rfl ?_ ?_;rotate_left;·(rintro w ⟨s1,s2,s3,s4⟩;go_simp;try rfl)
   try simp only [pt]
   refine tkn 22 ?_ rfl ?_ ?_;rotate_left;·(rintro w ⟨s1,s2,s3,s4⟩;go_simp;try rfl)
   try simp only [pt]
   refine tkn 23 ?_ rfl ?_ ?_;rotate_left;·(rintro w ⟨s1,s2,s3,s4⟩;go_simp;try rfl)
   try simp only [pt]
   refine tkn 24 ?_ rfl ?_ ?_;rotate_left;·(rintro w ⟨s1,s2,s3,s4⟩;go_simp;try rfl)
   try simp only [pt]
   refine rdn 25 rfl (fun K hK=>?_)
   go_simp
   refine cl.mono ?_
   rintro e w4 ⟨rfl,g4⟩
   refine hK.out _ _ (hHeld.grown g4 hnG hnG hne hne) (fun hHeld=>?_)
   clear hK K
   try simp only [pt]
   refine tkn 26 ?_ rfl ?_ ?_;rotate_left;·(rintro w ⟨s1,s2,s3,s4⟩;go_simp;try rfl)
   try simp only [pt]
   refine tkn 27 ?_ rfl ?_ ?_;rotate_left;·(rintro w ⟨s1,s2,s3,s4⟩;go_simp;try rfl)
   try simp only [pt]
   refine wpAnyH_done (by kernel_rfl) ?_ _
   obtain ⟨f4,a4,_⟩:=XD.out.arr
   have a5:=a4.block (g4.block G a4.lt (by simp;omega))
   have q0:=hHeld.ca
   have q1:=hHeld.cb
   have f0:=a5.frozen (p * 2)
   have f1:=a5.frozen (p * 2 + 1)
   have XN:Hid _:=XD.out.step LL.out hpl g4 (.int .i64 5) (.slice none 0 0)
   clear a4 a5 hHeld cl FS0
   go_wp2
   exact ⟨⟨rfl,p + 1,by go_num,hpn,XN.out⟩,by simp [intOf];omega⟩
  ·have hpi:¬ (p:Int) < (n:Int):=by omega
   go_wp2
   go_ret
   exact ⟨rfl,X.out.mid⟩
end Go.Proofs.YtcipdampcmfmaaaGreat
