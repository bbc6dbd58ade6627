import Derived.Test.YtgbgejflmbhigaaGreatKwKqRw
import Derived.Test.YtgbgejflmbhigaaGreatKw28
import Derived.Test.YtgbgejflmbhigaaGreatKw12
namespace Go.Proofs.YtgbgejflmbhigaaGreat
open Go.RowKit Go.Sort
set_option maxRecDepth 100000
set_option maxHeartbeats 1000000
theorem own_one {w:World} {B:Nat} {u:Value} {l:List Int} (h:Own w B u l):u.oneCell'=true:=by
 obtain ⟨a,c,rfl,_⟩:=h.rd;rfl
theorem chg_add {Iq:Nat->Prop} (m cb:Nat) (x:Rt):ChgC Iq m true 81 cb x:=by
 intro W v d hc hcb hd h1 _ _
 have hn:=h1.few
 rw [List.length_map] at hn
 refine (add1_c hd.row (by omega) (own_one hc.vec.own) hc.id (hc.row rfl)).mono ?_
 rintro e W' ⟨g,cap,rfl,ho,hk⟩
 have el:(d ++ [x]).length=d.length + 1:=by simp
 refine ⟨g,cap,d ++ [x],by rw [el],?_,?_,?_,hk⟩
 ·unfold aft;rw [if_pos rfl,List.map_append];rfl
 ·have hq:=ho
  rw [<- el] at hq
  exact (rwAt_own hq).1.rd
 ·intro y hy
  rcases List.mem_append.1 hy with hy | hy
  ·exact ownq_noint (hd.vec y hy) hk hd.noint
  ·rw [List.mem_singleton.1 hy]
   exact ownq_noint hc.vec hk hd.noint
theorem erase_filter {d:List Rt} {i:Nat} (hi:i < d.length) (hnd:(d.map (·.1)).Pairwise (· ≠ ·)):(d.eraseIdx i).map rwR=(d.map rwR).filter fun y=>!decide (y.1=d[i].1):=by
 have hne:∀ (l:List Rt),(∀ y ∈ l,y.1 ≠ d[i].1)->(l.map rwR).filter (fun y=>!decide (y.1=d[i].1))=l.map rwR:=fun l h=>by
  rw [List.filter_eq_self]
  intro r hr
  obtain ⟨y,hy,rfl⟩:=List.mem_map.1 hr
  simp [h y hy]
 have e:d=d.take i ++ d[i] :: d.drop (i + 1):=by
  rw [List.getElem_cons_drop,List.take_append_drop]
 rw [List.pairwise_iff_getElem] at hnd
 have hh:∀ t (h:t < d.length),t ≠ i->d[t].1 ≠ d[i].1:=fun t h hti=>by
  rcases Nat.lt_or_gt_of_ne hti with c | c
  ·have:=hnd t i (by simpa using h) (by simpa using hi) c;simpa using this
  ·have:=hnd i t (by simpa using hi) (by simpa using h) c;simp only [List.getElem_map] at this;exact fun e=>this e.symm
 have h1:(d.map rwR).filter (fun y=>!decide (y.1=d[i].1))=((d.take i ++ d[i] :: d.drop (i + 1)).map rwR).filter (fun y=>!decide (y.1=d[i].1)):=by rw [<- e]
 rw [h1,List.map_append,List.filter_append,List.map_cons,List.filter_cons_of_neg (by simp),hne _ (fun y hy=>?_),hne _ (fun y hy=>?_),<- List.map_append,List.eraseIdx_eq_take_drop_succ]
 ·obtain ⟨t,ht,rfl⟩:=List.getElem_of_mem hy
  rw [List.length_drop] at ht
  rw [List.getElem_drop]
  exact hh _ (by omega) (by omega)
 ·obtain ⟨t,ht,rfl⟩:=List.getElem_of_mem hy
  rw [List.length_take] at ht
  rw [List.getElem_take]
  exact hh t (by omega) (by omega)
theorem chg_rem {Iq:Nat->Prop} (m cb:Nat) (x:Rt):ChgC Iq m false 77 cb x:=by
 intro W v d hc hcb hd h1 _ hb
 have hn:=h1.few
 rw [List.length_map] at hn
 have hb2:=hb.2
 rw [if_neg (by decide)] at hb2
 obtain ⟨y,hy,ey⟩:=List.mem_map.1 hb2
 obtain ⟨i,hi,rfl⟩:=List.getElem_of_mem hy
 have eid:d[i].1=x.1:=(Prod.mk.inj ey).1
 have hnd:(d.map (·.1)).Pairwise (· ≠ ·):=by
  have:=hb.1
  unfold idsOf at this
  rw [List.map_map] at this
  exact this
 obtain ⟨g,cap,cur,ev,_,hh,hle,hr⟩:∃ g cap cur,v=.slice (some ⟨g,0,none⟩) d.length cap/\0<=g/\W.heap[g]? = some (.cells cur 39 (0,0))/\d.length<=cap/\cap<=maxLen/\cur.size=cap * 2/\cur.toList.take (d.length * 2)=d.flatMap encR:=by
  rcases hd.row.2 with ⟨_,h0⟩ | h
  ·omega
  ·exact h
 subst ev
 have hx:=rwAt_own hd.row
 refine (rem1_c hx.1 (fun y hy=>own_one (hd.vec y hy).own) (by omega) hle (fun e=>hcb (by rw [e];rfl)) x.1 hc.id hi eid hnd).mono ?_
 rintro e W' ⟨rfl,ha,hk⟩
 have el:(d.eraseIdx i).length=d.length - 1:=List.length_eraseIdx_of_lt hi
 have hk2:Tk.Kp (fun b=>(Value.slice (some ⟨g,0,none⟩) d.length cap).ownBlock=some b) W W':=hk.mono fun k _ e=>by rw [e];rfl
 refine ⟨g,cap,d.eraseIdx i,by rw [el],?_,ha.rd,fun z hz=>ownq_noint (hd.vec z (List.mem_of_mem_eraseIdx hz)) hk2 hd.noint,hk2⟩
 unfold aft
 rw [if_neg (by decide),erase_filter hi hnd,eid]
theorem rem_nil {Iq:Nat->Prop} {m leaf:Nat} (hm:1<=m/\m<=64) (hlf:1<=leaf/\leaf<=64) {fn cb:Nat} {x:Rt} (hC:ChgC Iq m true fn cb x) {w:World} (hc:Cap Iq true w cb x) (h2:RowsOk [rwR x] (m:Int)) (eg:∀ args w,(callFunc fn args).run Tryz.prog w=.ok (.enter fn args) w) :
  Calls Tryz.prog 76 #[.pointer none,.agg #[.int .i64 x.1,x.2.1],.int .i64 (leaf:Int),.func (.func fn) #[] #[.pointer (some ⟨cb,0,none⟩)]] w fun e w'=>RmOut Iq w m [] [rwR x] e w':=by
 obtain ⟨xi,u,xl⟩:=x
 obtain ⟨ua,uc,eu,_⟩:=hc.vec.rd
 dsimp only at eu
 subst eu
 have gA:Gb w (w.alloc (.cells #[.int .i64 xi,.slice ua xl.length uc] 39)):=gb_alloc (Below.refl _ _) _
 have hr0:RowsOk (([]:List Rt).map rwR) (m:Int):=h2.sub (List.nil_sublist _)
 have cX:=hC _ (.slice none 0 0) [] (hc.gb gA) (by simp [Value.ownBlock]) ⟨⟨rfl,.inl ⟨rfl,rfl⟩⟩,(fun _ h=>by cases h),hc.up.gb gA⟩ hr0 h2 ⟨List.Pairwise.nil,by rw [if_pos rfl];intro y hy;cases hy⟩
 have PX:Hid (∀ e W',ChgO Iq (w.alloc (.cells #[.int .i64 xi,.slice ua xl.length uc] 39)) (.slice none 0 0) (aft true (xi,xl) (([]:List Rt).map rwR)) e W'->∃ g' n' cap',e=.returned (.slice (some ⟨g',0,none⟩) n' cap')/\Calls Tryz.prog 33 #[.slice (some ⟨g',0,none⟩) n' cap',.int .i64 (leaf:Int)] W' fun e w'=>RmOut Iq w m [] [(xi,xl)] e w'/\∃ pv,e=.returned (.pointer pv)):=by
  rintro e W' ⟨g',cap',d',rfl,hr,hR,hv,hK⟩
  refine ⟨g',d'.length,cap',rfl,?_⟩
  have er:d'.map rwR=[(xi,xl)]:=by rw [hr];rfl
  rw [<- er]
  refine (partsOf_c hm ⟨hlf.1,by omega⟩ d' hR ⟨hv,by rw [er];exact h2,(hc.up.gb gA).le hK.size⟩).mono ?_
  intro e w' h
  refine rm_parts ((Tk.Kp.of_gr gA).trans (hK.mono ?_)) h
  intro k _ e
  cases e
 try dsimp only at cX
 generalize aft true (xi,xl) (([]:List Rt).map rwR)=R at *
 generalize xl.length=nx at *
 clear hC h2 hr0 hc gA
 go_enter Tryz.func76,Tryz.ntmps76
 go_wp2_with fail
 go_fit cX
 intro e w2 hO
 obtain ⟨g',n',cap',rfl,cP⟩:=PX.out _ _ hO
 clear hO cX PX
 go_wp2_with fail
 go_fit cP
 rintro e w3 ⟨hO,pv,rfl⟩
 have H:Hid _:=hO
 clear hO cP
 go_wp2
 go_ret
 exact H.out
def RtAt (Iq:Nat->Prop) (w:World) (m:Nat) (R:List Rw) (rt:Value) (F:List Nat):Prop:=(R=[]/\rt=.pointer none/\F=[]) ∨ ∃ b T n,rt=.pointer (some ⟨b,0,none⟩)/\TrO Iq w T (n + 1) b F/\OkP T m n (T b)/\(rowsP T n (T b)).Perm R
def RtOut (Iq:Nat->Prop) (w:World) (m:Nat) (F:List Nat) (R:List Rw) (e:Ending) (w':World):Prop:=∃ pv F',e=.returned (.pointer pv)/\RtAt Iq w' m R (.pointer pv) F'/\F'.Nodup/\(∀ y ∈ F',y ∈ F ∨ w.heap.size<=y)/\Tk.Kp (fun k=>k ∈ F) w w'
theorem rt_out {Iq:Nat->Prop} {w w':World} {m:Nat} {F:List Nat} {R R':List Rw} {e:Ending} (h:RmOut Iq w m F R e w') (p:R.Perm R'):RtOut Iq w m F R' e w':=by
 obtain ⟨k,h1,h2⟩:=h
 by_cases hR:R=[]
 ·refine ⟨none,[],h1 hR,.inl ⟨?_,rfl,rfl⟩,List.nodup_nil,fun y hy=>(by cases hy),k⟩
  rw [hR] at p
  exact p.symm.eq_nil
 ·obtain ⟨b,T,F',n,e1,t,ok,pm,nd,l⟩:=h2 hR
  exact ⟨some ⟨b,0,none⟩,F',e1,.inr ⟨b,T,n,rfl,t,ok,pm.trans p⟩,nd,l,k⟩
theorem root_c {Iq:Nat->Prop} {m leaf:Nat} (hm:1<=m/\m<=64) (hlf:1<=leaf/\leaf<=64) {fn cb:Nat} {ad:Bool} {x:Rt} (hC:ChgC Iq m ad fn cb x) (hxm:x.2.2.length=m) (eg:∀ args w,(callFunc fn args).run Tryz.prog w=.ok (.enter fn args) w) {w:World} {rt:Value} {F:List Nat} {R:List Rw}
  (h:RtAt Iq w m R rt F) (hnd:F.Nodup) (hcb:cb ∉ F) (hc:Cap Iq ad w cb x) (hb:bef ad (rwR x) R) (h1:RowsOk R (m:Int)) (h2:RowsOk (aft ad (rwR x) R) (m:Int)) :
  Calls Tryz.prog 76 #[rt,.agg #[.int .i64 x.1,x.2.1],.int .i64 (leaf:Int),.func (.func fn) #[] #[.pointer (some ⟨cb,0,none⟩)]] w fun e w'=>RtOut Iq w m F (aft ad (rwR x) R) e w':=by
 rcases h with ⟨rfl,rfl,rfl⟩ | ⟨b,T,n,rfl,t,ok,pm⟩
 ·cases ad with
  | true=>exact (rem_nil hm hlf hC hc h2 eg).mono fun e w' h=>rt_out h (List.Perm.refl _)
  | false =>
   have:=hb.2
   rw [if_neg (by decide)] at this
   cases this
 ·exact (remade_c hm hlf hC hxm eg n w b F T t ok hnd hcb hc (bef_nodup hb pm.symm) (h1.perm pm.symm) (h2.perm (aft_perm pm.symm))).mono fun e w' h=>rt_out h (aft_perm pm)
end Go.Proofs.YtgbgejflmbhigaaGreat

namespace Go.Proofs.YtgbgejflmbhigaaGreat
open Go.RowKit Go.Sort
def Ris (rs:List Rw):Prop:=rs.Pairwise fun x y=>x.1 < y.1
def insRw (rs:List Rw) (r:Rw):List Rw:=rs.take (plc rs r.1) ++ r :: rs.drop (plc rs r.1)
def delRw (rs:List Rw) (id:Int):List Rw:=rs.filter fun y=>!decide (y.1=id)
theorem split_lt (id:Int):∀ {rs:List Rw},Ris rs->rs.take (plc rs id)=rs.filter (fun r=>decide (r.1 < id))/\rs.drop (plc rs id)=rs.filter (fun r=>!decide (r.1 < id))
 | [],_=>⟨rfl,rfl⟩
 | r :: rest,h=>by
  have h1:=List.pairwise_cons.1 h
  obtain ⟨a,b⟩:=split_lt id h1.2
  by_cases hr:r.1 < id
  ·have e:plc (r :: rest) id=plc rest id + 1:=by unfold plc;rw [List.filter_cons_of_pos (by simpa using hr)];rfl
   rw [e,List.take_succ_cons,List.drop_succ_cons,List.filter_cons_of_pos (by simpa using hr),List.filter_cons_of_neg (by simpa using hr),a,b]
   exact ⟨rfl,rfl⟩
  ·have e0:rest.filter (fun r=>decide (r.1 < id))=[]:=by
    rw [List.filter_eq_nil_iff]
    intro y hy
    have:=h1.1 y hy
    simp
    omega
   have e1:rest.filter (fun r=>!decide (r.1 < id))=rest:=by
    rw [List.filter_eq_self]
    intro y hy
    have:=h1.1 y hy
    simp
    omega
   have e:plc (r :: rest) id=0:=by unfold plc;rw [List.filter_cons_of_neg (by simpa using hr),e0];rfl
   rw [e,List.take_zero,List.drop_zero,List.filter_cons_of_neg (by simpa using hr),List.filter_cons_of_pos (by simpa using hr),e0,e1]
   exact ⟨rfl,rfl⟩
theorem plc_le (rs:List Rw) (id:Int):plc rs id<=rs.length:=List.length_filter_le _ _
theorem ins_perm (rs:List Rw) (r:Rw):(insRw rs r).Perm (rs ++ [r]):=by
 unfold insRw
 refine List.perm_middle.trans ?_
 rw [List.take_append_drop]
 exact (List.perm_append_singleton r rs).symm
theorem ins_ris {rs:List Rw} {r:Rw} (h:Ris rs) (hn:∀ y ∈ rs,y.1 ≠ r.1):Ris (insRw rs r):=by
 unfold insRw Ris
 obtain ⟨a,b⟩:=split_lt r.1 h
 rw [a,b,List.pairwise_append]
 refine ⟨h.sublist List.filter_sublist,List.pairwise_cons.2 ⟨fun y hy=>?_,h.sublist List.filter_sublist⟩,fun x hx y hy=>?_⟩
 ·have h1:=List.mem_filter.1 hy
  have h2:=hn y h1.1
  simp at h1
  omega
 ·have h1:=List.mem_filter.1 hx
  simp at h1
  rcases List.mem_cons.1 hy with rfl | hy
  ·exact h1.2
  ·have h2:=List.mem_filter.1 hy
   simp at h2
   omega
theorem plc_has {rs:List Rw} {id:Int} (h:Ris rs) (hh:hasId rs id=true):∃ hp:plc rs id < rs.length,rs[plc rs id].1=id:=by
 unfold hasId at hh
 rw [List.any_eq_true] at hh
 obtain ⟨r,hr,he⟩:=hh
 obtain ⟨j,hj,rfl⟩:=List.getElem_of_mem hr
 rw [decide_eq_true_eq] at he
 have hp:=List.pairwise_iff_getElem.1 h
 have e:plc rs id=j:=plc_of (by omega) (fun t ht htj=>by have:=hp t j ht hj htj;omega) (fun t ht hjt=>by
  by_cases e:j=t
  ·subst e;omega
  ·have:=hp j t hj ht (by omega);omega)
 exact ⟨by omega,by simp only [e];exact he⟩
theorem del_ris {rs:List Rw} (id:Int) (h:Ris rs):Ris (delRw rs id):=h.sublist List.filter_sublist
theorem flat_takeR:∀ (d:List Rt) (p:Nat),(d.flatMap encR).take (p * 2)=(d.take p).flatMap encR
 | [],p=>by simp
 | x :: r,0=>by simp
 | x :: r,p + 1=>by
  rw [List.take_succ_cons,List.flatMap_cons,List.flatMap_cons,<- flat_takeR r p,show (p + 1) * 2=(p * 2) + 1 + 1 by omega]
  rfl
theorem flat_dropR:∀ (d:List Rt) (p:Nat),(d.flatMap encR).drop (p * 2)=(d.drop p).flatMap encR
 | [],p=>by simp
 | x :: r,0=>by simp
 | x :: r,p + 1=>by
  rw [List.drop_succ_cons,List.flatMap_cons,<- flat_dropR r p,show (p + 1) * 2=(p * 2) + 1 + 1 by omega]
  rfl
def TOut (Iq:Nat->Prop) (w:World) (tb m leaf:Nat) (F:List Nat) (rs:List Rw) (w':World):Prop:=∃ F',TreeAt Iq w' tb m leaf rs F'/\(∀ y ∈ F',y ∈ F ∨ w.heap.size<=y)/\Tk.Kp (fun k=>k ∈ F) w w'
theorem tree_fin {Iq:Nat->Prop} {w w3 w4:World} {tb m leaf g' cap' n:Nat} {d':List Rt} {rs' R:List Rw} {F F1 F1':List Nat} {pv:Option Addr} {q:Value}
  (hb3:w3.heap[tb]? = some (.cells #[.int .i64 (m:Int),.int .i64 (leaf:Int),.slice (some ⟨g',0,none⟩) n cap',q] 77 (0,0))) (hn:n=d'.length)
  (own3:OwnRs Iq w3 (.slice (some ⟨g',0,none⟩) n cap') d') (hd:d'.map rwR=rs') (hs:Ris rs') (hok:RowsOk rs' (m:Int)) (hrt:RtAt Iq w4 m R (.pointer pv) F1') (hpm:R.Perm rs')
  (hnd:F1'.Nodup) (hl:∀ y ∈ F1',y ∈ F1 ∨ w3.heap.size<=y) (hK4:Tk.Kp (fun k=>k ∈ F1) w3 w4) (nF1:NoInt w3 (fun k=>k ∈ F1)) (hgF:g' ∉ F1) (htF:tb ∉ F1) (htg:tb ≠ g')
  (hK3:Tk.Kp (fun k=>k ∈ F) w w3) (hF1:∀ y ∈ F1,y ∈ F) (hgF':g' ∈ F ∨ w.heap.size<=g') (htbF:tb ∈ F) (hm:1<=m/\m<=64) (hlf:1<=leaf/\leaf<=64) :
  TOut Iq w tb m leaf F rs' (w4.setCell ⟨tb,3,none⟩ (.pointer pv)):=by
 subst hn
 have s3:=hK3.size
 have tl:=(Array.getElem?_eq_some_iff.1 hb3).1
 have gl:=(own3.row.lt g' rfl).2
 have hb4:w4.heap[tb]? = some (.cells #[.int .i64 (m:Int),.int .i64 (leaf:Int),.slice (some ⟨g',0,none⟩) d'.length cap',q] 77 (0,0)):=by
  rw [hK4.block tb tl htF];exact hb3
 have own4:=own3.kp hK4 nF1 (fun g e hg=>by cases e;exact hgF hg)
 have nb:NoInt w4 (fun k=>k=tb):=fun k e cur s hc=>by subst e;rw [hb4] at hc;simp at hc
 have kb:Tk.Kp (fun k=>k=tb) w4 (w4.setCell ⟨tb,3,none⟩ (.pointer pv)):=(Tk.Kp.refl (fun k=>k=tb) w4).setCell (.inl rfl) _
 have own5:=own4.kp kb nb (fun g e hg=>by cases e;exact htg hg.symm)
 have hb5:(w4.setCell ⟨tb,3,none⟩ (.pointer pv)).heap[tb]? = some (.cells #[.int .i64 (m:Int),.int .i64 (leaf:Int),.slice (some ⟨g',0,none⟩) d'.length cap',.pointer pv] 77 (0,0)):=by
  simp [World.setCell,Array.getElem?_modify,hb4]
 have tF':tb ∉ F1':=fun e=>by
  rcases hl tb e with h | h
  ·exact htF h
  ·omega
 have gF':g' ∉ F1':=fun e=>by
  rcases hl g' e with h | h
  ·exact hgF h
  ·omega
 have kF:Tk.Kp (fun k=>k ∈ F) w (w4.setCell ⟨tb,3,none⟩ (.pointer pv)):=by
  have k0:Tk.Kp (fun k=>k ∈ F) w w4:=hK3.trans (hK4.mono (fun k _ h=>hF1 k h))
  exact k0.setCell (.inl htbF) _
 have hdl:d'.length=rs'.length:=by rw [<- hd,List.length_map]
 refine ⟨tb :: g' :: F1',⟨g',cap',d',.pointer pv,F1',hb5,own5,hd,hs,hok,?_,rfl,?_,hm,hlf⟩,fun y hy=>?_,kF⟩
 ·rcases hrt with ⟨e1,e2,e3⟩ | ⟨b,T,k,e1,t,ok,pm⟩
  ·refine .inl ⟨?_,e2,e3⟩
   rw [e1] at hpm
   rw [hpm.symm.eq_nil] at hd
   exact List.map_eq_nil_iff.1 hd
  ·have p2:=pm.trans hpm
   have hl2:(rowsP T k (T b)).length=rs'.length:=p2.length_eq
   refine .inr ⟨b,T,e1,fun e=>?_,fun N hN=>?_⟩
   ·rw [e] at hdl
    have:=List.length_pos_iff.2 (okP_ne _ _ ok)
    simp at hdl
    omega
   ·obtain ⟨a1,a2,a3⟩:=TrO.any _ _ _ (TrO.kp kb nb _ _ _ t (fun x hx e=>tF' (by rw [<- e];exact hx))) ok N (by omega)
    exact ⟨a1,a2,by rw [a3];exact p2⟩
 ·rw [List.nodup_cons,List.nodup_cons]
  refine ⟨fun e=>?_,gF',hnd⟩
  rcases List.mem_cons.1 e with e | e
  ·exact htg e
  ·exact tF' e
 ·rcases List.mem_cons.1 hy with rfl | hy
  ·exact .inl htbF
  ·rcases List.mem_cons.1 hy with rfl | hy
   ·exact hgF'
   ·rcases hl y hy with h | h
    ·exact .inl (hF1 y h)
    ·exact .inr (by omega)
theorem TreeAt.open' {Iq:Nat->Prop} {w:World} {tb m leaf:Nat} {rs:List Rw} {F:List Nat} (h:TreeAt Iq w tb m leaf rs F):∃ g cap d rt F1,w.heap[tb]? = some (.cells #[.int .i64 (m:Int),.int .i64 (leaf:Int),.slice (some ⟨g,0,none⟩) d.length cap,rt] 77 (0,0)) /\
  OwnRs Iq w (.slice (some ⟨g,0,none⟩) d.length cap) d/\d.map rwR=rs/\Ris rs/\RowsOk rs (m:Int)/\RtAt Iq w m rs rt F1/\F=tb :: g :: F1/\F.Nodup/\(1<=m/\m<=64)/\1<=leaf/\leaf<=64/\NoInt w (fun k=>k ∈ F1)/\(∃ pv,rt=.pointer pv)/\(∀ x ∈ F1,x < w.heap.size)/\tb ∉ F1/\g ∉ F1/\tb ≠ g:=by
 obtain ⟨g,cap,d,rt,F1,h1,h2,h3,h4,h5,h6,rfl,h8,h9,h10⟩:=h
 have hnd:=h8
 rw [List.nodup_cons,List.nodup_cons,List.mem_cons] at hnd
 refine ⟨g,cap,d,rt,F1,h1,h2,h3,h4,h5,?_,rfl,h8,h9,h10.1,h10.2,?_,?_,?_,fun e=>hnd.1 (.inr e),hnd.2.1,fun e=>hnd.1 (.inl e)⟩
 ·rcases h6 with ⟨rfl,e2,e3⟩ | ⟨b,T,e1,_,t⟩
  ·exact .inl ⟨h3.symm,e2,e3⟩
  ·obtain ⟨a,b',c⟩:=t d.length (Nat.le_refl _)
   exact .inr ⟨b,T,d.length,e1,a,b',c⟩
 ·rcases h6 with ⟨_,_,rfl⟩ | ⟨b,T,_,_,t⟩
  ·intro k hk;cases hk
  ·exact (t d.length (Nat.le_refl _)).1.noint
 ·rcases h6 with ⟨_,e,_⟩ | ⟨b,T,e,_,t⟩
  ·exact ⟨none,e⟩
  ·exact ⟨_,e⟩
 ·rcases h6 with ⟨_,_,rfl⟩ | ⟨b,T,_,_,t⟩
  ·intro k hk;cases hk
  ·exact (t d.length (Nat.le_refl _)).1.mem.2
theorem RtAt.kp {Iq:Nat->Prop} {S:Nat->Prop} {w w':World} {m:Nat} {R:List Rw} {rt:Value} {F:List Nat} (h:RtAt Iq w m R rt F) (k:Tk.Kp S w w') (hS:NoInt w S) (hF:∀ x ∈ F,¬ S x):RtAt Iq w' m R rt F:=by
 rcases h with h | ⟨b,T,n,e,t,ok,pm⟩
 ·exact .inl h
 ·exact .inr ⟨b,T,n,e,TrO.kp k hS _ _ _ t hF,ok,pm⟩
theorem RtAt.noint {Iq:Nat->Prop} {w:World} {m:Nat} {R:List Rw} {rt:Value} {F:List Nat} (h:RtAt Iq w m R rt F):NoInt w (fun k=>k ∈ F):=by
 rcases h with ⟨_,_,rfl⟩ | ⟨b,T,n,e,t,ok,pm⟩
 ·intro k hk;cases hk
 ·exact t.noint
theorem TreeAt.kp {Iq:Nat->Prop} {S:Nat->Prop} {w w':World} {tb m leaf:Nat} {rs:List Rw} {F:List Nat} (h:TreeAt Iq w tb m leaf rs F) (k:Tk.Kp S w w') (hS:NoInt w S) (hF:∀ x ∈ F,¬ S x):TreeAt Iq w' tb m leaf rs F:=by
 obtain ⟨g,cap,d,rt,F1,h1,h2,h3,h4,h5,h6,rfl,h8⟩:=h
 refine ⟨g,cap,d,rt,F1,?_,h2.kp k hS (fun g' e=>by cases e;exact hF g (by simp)),h3,h4,h5,?_,rfl,h8⟩
 ·rw [k.block tb (Array.getElem?_eq_some_iff.1 h1).1 (hF tb (by simp))];exact h1
 ·rcases h6 with h | ⟨b,T,e1,e2,t⟩
  ·exact .inl h
  ·exact .inr ⟨b,T,e1,e2,fun N hN=>⟨TrO.kp k hS _ _ _ (t N hN).1 (fun x hx=>hF x (by simp [hx])),(t N hN).2⟩⟩
theorem TreeAt.gb {Iq:Nat->Prop} {w w':World} {tb m leaf:Nat} {rs:List Rw} {F:List Nat} (h:TreeAt Iq w tb m leaf rs F) (g:Gb w w'):TreeAt Iq w' tb m leaf rs F:=h.kp (kpF g) (noF _) (fun _ _ h=>h)
end Go.Proofs.YtgbgejflmbhigaaGreat

namespace Go.Proofs.YtgbgejflmbhigaaGreat
open Go.RowKit Go.Sort
set_option maxRecDepth 100000
set_option maxHeartbeats 2000000
theorem del_none {rs:List Rw} {id:Int} (h:hasId rs id=false):delRw rs id=rs:=by
 unfold hasId at h
 rw [List.any_eq_false] at h
 unfold delRw
 rw [List.filter_eq_self]
 intro y hy
 have:=h y hy
 simpa using this
theorem remove_no {Iq:Nat->Prop} {w:World} {tb m leaf:Nat} {rs:List Rw} {F:List Nat} (h:TreeAt Iq w tb m leaf rs F) (id:Int) (hh:hasId rs id=false) :
  Calls Tryz.prog 40 #[.pointer (some ⟨tb,0,none⟩),.int .i64 id] w fun e w'=>e=.returned (.bool false)/\Gb w w':=by
 have gA:Gb w (w.alloc (.cells #[.int .i64 id] 3)):=gb_alloc (Below.refl _ _) _
 have cF:=find_c (h.gb gA) id
 rw [hh] at cF
 have G:Hid (Gb w (w.alloc (.cells #[.int .i64 id] 3))):=gA
 generalize plc rs id=p at *
 clear h gA hh
 go_enter Tryz.func40,Tryz.ntmps40
 go_wp2_with fail
 go_fit cF
 rintro e w1 ⟨rfl,g1⟩
 have G2:Hid (Gb w w1):=gb_trans G.out g1.gr
 clear cF g1 G
 go_wp2
 go_ret
 exact ⟨rfl,G2.out⟩
theorem remove_yes {Iq:Nat->Prop} {w:World} {tb m leaf:Nat} {rs:List Rw} {F:List Nat} (h:TreeAt Iq w tb m leaf rs F) (id:Int) (hh:hasId rs id=true) :
  Calls Tryz.prog 40 #[.pointer (some ⟨tb,0,none⟩),.int .i64 id] w fun e w'=>e=.returned (.bool true)/\TOut Iq w tb m leaf F (delRw rs id) w':=by
 have gA:Gb w (w.alloc (.cells #[.int .i64 id] 3)):=gb_alloc (Below.refl _ _) _
 have cF:=find_c (h.gb gA) id
 rw [hh] at cF
 obtain ⟨g,cap,d,rt,F1,hb,hd,hdm,hri,hok0,hrt,eF,hnd,hm,hl1,hl2,nF1,⟨rv0,er⟩,ltF,tF,gF,tg⟩:=h.open'
 obtain ⟨hp0,hp1⟩:=plc_has hri hh
 have hdl:d.length=rs.length:=by rw [<- hdm,List.length_map]
 obtain ⟨p,hp⟩:∃ p,p=plc rs id:=⟨_,rfl⟩
 simp only [<- hp] at cF hp0 hp1
 have hpd:p < d.length:=by omega
 have hpi:d[p].1=id:=by
  have:rs[p]=rwR d[p]:=by simp only [<- hdm,List.getElem_map]
  rw [this] at hp1
  exact hp1
 have xm:=List.getElem_mem hpd
 obtain ⟨q1,q2⟩:=(rwAt_own hd.row).1.rd p hpd
 rw [Nat.zero_add] at q1 q2
 have hvx:=hd.vec _ xm
 have efl:=erase_filter hpd (by
  have:=hok0.ids
  unfold idsOf at this
  rw [<- hdm,List.map_map] at this
  exact this)
 have hmem:rwR d[p] ∈ rs:=by rw [<- hdm];exact List.mem_map.2 ⟨_,xm,rfl⟩
 obtain ⟨x,hx⟩:∃ x,x=d[p]:=⟨_,rfl⟩
 rw [<- hx] at q1 q2 hvx efl hmem hpi
 obtain ⟨xi,u,xl⟩:=x
 dsimp only at hpi q1 q2 hvx efl hmem
 have hpi2:=hpi.symm
 clear hpi
 subst hpi2
 obtain ⟨ua,uc,eu,_⟩:=hvx.rd
 subst eu
 have hxl:xl.length=m:=by
  have:=chk_ok (hok0.row _ hmem).2
  simp only [] at this
  omega
 have tl:=(Array.getElem?_eq_some_iff.1 hb).1
 have gl:=(hd.row.lt g rfl).2
 have hfew:=hok0.few
 have hone:∀ v ∈ d.flatMap encR,v.oneCell'=true:=fun v hv=>by
  obtain ⟨y,hy,hv⟩:=List.mem_flatMap.1 hv
  simp only [List.mem_cons,List.not_mem_nil,or_false] at hv
  rcases hv with rfl | rfl
  ·rfl
  ·exact own_one (hd.vec y hy).own
 have NDF:F1.Nodup:=by rw [eF,List.nodup_cons,List.nodup_cons] at hnd;exact hnd.2.2
 generalize hnx:xl.length=nx at *
 obtain ⟨d',hd'⟩:∃ d':List Rt,d'=d.eraseIdx p:=⟨_,rfl⟩
 have ld':d'.length=d.length - 1:=by rw [hd'];exact List.length_eraseIdx_of_lt hpd
 have ed':(d.flatMap encR).take (p * 2) ++ (d.flatMap encR).drop ((p + 1) * 2)=d'.flatMap encR:=by
  rw [flat_takeR,flat_dropR,hd',List.eraseIdx_eq_take_drop_succ,List.flatMap_append]
 have md':d'.map rwR=delRw rs id:=by
  rw [hd',efl,hdm];rfl
 have eaft:aft false (id,xl) rs=delRw rs id:=by unfold aft delRw;rw [if_neg (by decide)]
 have hokD:RowsOk (delRw rs id) (m:Int):=hok0.sub List.filter_sublist
 have eg:∀ args w,(callFunc 77 args).run Tryz.prog w=.ok (.enter 77 args) w:=fun args w=>by first | rfl | kernel_rfl | simp [go_sem]
 obtain ⟨nd,hnd'⟩:∃ nd,nd=d.length:=⟨_,rfl⟩
 have CD:Hid (∀ w1,Tk.Gw (w.alloc (.cells #[.int .i64 id] 3)) w1->Calls Tryz.prog 75 #[.slice (some ⟨g,0,none⟩) nd cap,.int .i64 (p:Int),.int .i64 ((p:Int) + 1)] (w1.alloc (.cells #[.int .i64 id,.slice ua nx uc] 39)) fun e w'=>e=.returned (.slice (some ⟨g,0,none⟩) (nd - 1) cap)/\w'.ownsRow 0 39 2 (.slice (some ⟨g,0,none⟩) (nd - 1) cap) (nd - 1) (d'.flatMap encR)/\Tk.Kp (fun b=>b=g) (w1.alloc (.cells #[.int .i64 id,.slice ua nx uc] 39)) w'):=fun w1 g1=>by
  have gg:Gb w (w1.alloc (.cells #[.int .i64 id,.slice ua nx uc] 39)):=gb_alloc (gb_trans gA g1.gr) _
  have:=delX_c (i:=p) (ownR_kp hd.row (kpF gg) (fun _ _ h=>h)) hpd (by omega) hone
  rw [ed',<- hnd'] at this
  exact this
 have C2:Hid (∀ w1,Tk.Gw (w.alloc (.cells #[.int .i64 id] 3)) w1->w1.cell? ⟨tb,2,none⟩=some (.slice (some ⟨g,0,none⟩) nd cap)/\w1.cell? ⟨g,p * 2,none⟩=some (.int .i64 id)/\w1.cell? ⟨g,p * 2 + 1,none⟩=some (.slice ua nx uc)/\(w1.alloc (.cells #[.int .i64 id,.slice ua nx uc] 39)).cell? ⟨tb,2,none⟩=some (.slice (some ⟨g,0,none⟩) nd cap)):=fun w1 g1=>by
  have gg:=gb_trans gA g1.gr
  have c:=gb_keeps gg (cell_cur (i:=2) hb rfl)
  rw [<- hnd'] at c
  exact ⟨c,gb_keeps gg q1,gb_keeps gg q2,gb_keeps (gb_alloc (Below.refl _ _) _) c⟩
 have DX:Hid (∀ w1,Tk.Gw (w.alloc (.cells #[.int .i64 id] 3)) w1->∀ w2,w2.ownsRow 0 39 2 (.slice (some ⟨g,0,none⟩) (nd - 1) cap) (nd - 1) (d'.flatMap encR)->Tk.Kp (fun b=>b=g) (w1.alloc (.cells #[.int .i64 id,.slice ua nx uc] 39)) w2->(∃ y,w2.cell? ⟨tb,2,none⟩=some y)/\w2.frozen? ⟨tb,2,none⟩=false /\
   ((fun W=>W.cell? ⟨w1.heap.size,0,none⟩=some (.int .i64 id)/\W.cell? ⟨w1.heap.size,1,none⟩=some (.slice ua nx uc)/\W.cell? ⟨tb,1,none⟩=some (.int .i64 (leaf:Int))) (w2.setCell ⟨tb,2,none⟩ (.slice (some ⟨g,0,none⟩) (nd - 1) cap)).drew)/\(w2.setCell ⟨tb,2,none⟩ (.slice (some ⟨g,0,none⟩) (nd - 1) cap)).drew.cell? ⟨tb,3,none⟩=some (.pointer rv0) /\
   (Calls Tryz.prog 76 #[.pointer rv0,.agg #[.int .i64 id,.slice ua nx uc],.int .i64 (leaf:Int),.func (.func 77) #[] #[.pointer (some ⟨w.heap.size,0,none⟩)]] (w2.setCell ⟨tb,2,none⟩ (.slice (some ⟨g,0,none⟩) (nd - 1) cap)).drew fun e w'=>RtOut Iq (w2.setCell ⟨tb,2,none⟩ (.slice (some ⟨g,0,none⟩) (nd - 1) cap)).drew m F1 (delRw rs id) e w') /\
   Hid (∀ e w4,RtOut Iq (w2.setCell ⟨tb,2,none⟩ (.slice (some ⟨g,0,none⟩) (nd - 1) cap)).drew m F1 (delRw rs id) e w4->∃ pv,e=.returned (.pointer pv)/\Hid (TOut Iq w tb m leaf F (delRw rs id) (w4.setCell ⟨tb,3,none⟩ (.pointer pv))) /\
    (((w2.setCell ⟨tb,2,none⟩ (.slice (some ⟨g,0,none⟩) (nd - 1) cap)).drew.cell? ⟨w1.heap.size,0,none⟩=some (.int .i64 id)->(w2.setCell ⟨tb,2,none⟩ (.slice (some ⟨g,0,none⟩) (nd - 1) cap)).drew.cell? ⟨w1.heap.size,1,none⟩=some (.slice ua nx uc)->(w2.setCell ⟨tb,2,none⟩ (.slice (some ⟨g,0,none⟩) (nd - 1) cap)).drew.cell? ⟨tb,1,none⟩=some (.int .i64 (leaf:Int))->(fun W=>W.cell? ⟨w1.heap.size,0,none⟩=some (.int .i64 id)/\W.cell? ⟨w1.heap.size,1,none⟩=some (.slice ua nx uc)/\W.cell? ⟨tb,1,none⟩=some (.int .i64 (leaf:Int))) w4)/\(w4.cell? ⟨w1.heap.size,0,none⟩=some (.int .i64 id)->w4.cell? ⟨w1.heap.size,1,none⟩=some (.slice ua nx uc)->w4.cell? ⟨tb,1,none⟩=some (.int .i64 (leaf:Int))->(fun W=>W.cell? ⟨w1.heap.size,0,none⟩=some (.int .i64 id)/\W.cell? ⟨w1.heap.size,1,none⟩=some (.slice ua nx uc)/\W.cell? ⟨tb,1,none⟩=some (.int .i64 (leaf:Int))) (w4.setCell ⟨tb,3,none⟩ (.pointer pv)))) /\
    (∃ y,w4.cell? ⟨tb,3,none⟩=some y)/\w4.frozen? ⟨tb,3,none⟩=false)):=by
  intro w1 g1 w2 ho hk
  subst hnd'
  have gw1:=gb_trans gA g1.gr
  have sw1:=gw1.size
  have sw0:=g1.gr.size
  rw [World.size_alloc] at sw0
  have gg:Gb w (w1.alloc (.cells #[.int .i64 id,.slice ua nx uc] 39)):=gb_alloc gw1 _
  have k0:Tk.Kp (fun k=>k=g) w w2:=(Tk.Kp.of_gr gg).trans hk
  have ni0:NoInt w (fun k=>k=g):=fun k e cur s hc=>hd.noint k (by rw [e];rfl) cur s hc
  have s2:=k0.size
  have sk:=hk.size
  rw [World.size_alloc] at sk
  have hb2:w2.heap[tb]? = some (.cells #[.int .i64 (m:Int),.int .i64 (leaf:Int),.slice (some ⟨g,0,none⟩) d.length cap,rt] 77 (0,0)):=by rw [k0.block tb tl tg];exact hb
  have own2:OwnRs Iq w2 (.slice (some ⟨g,0,none⟩) (d.length - 1) cap) d':=⟨by rw [ld'];exact ho,fun y hy=>ownq_noint (hd.vec y (by rw [hd'] at hy;exact List.mem_of_mem_eraseIdx hy)) k0 ni0,hd.up.le k0.size⟩
  have hb3:(w2.setCell ⟨tb,2,none⟩ (.slice (some ⟨g,0,none⟩) (d.length - 1) cap)).drew.heap[tb]? = some (.cells #[.int .i64 (m:Int),.int .i64 (leaf:Int),.slice (some ⟨g,0,none⟩) (d.length - 1) cap,rt] 77 (0,0)):=by
   show (w2.setCell ⟨tb,2,none⟩ (.slice (some ⟨g,0,none⟩) (d.length - 1) cap)).heap[tb]? = _
   simp [World.setCell,Array.getElem?_modify,hb2]
  have nb2:NoInt w2 (fun k=>k=tb):=fun k e cur s hc=>by subst e;rw [hb2] at hc;simp at hc
  have k3:Tk.Kp (fun k=>k=tb) w2 (w2.setCell ⟨tb,2,none⟩ (.slice (some ⟨g,0,none⟩) (d.length - 1) cap)).drew:=by
   have:=(Tk.Kp.refl (fun k=>k=tb) w2).setCell (.inl rfl) (p:=⟨tb,2,none⟩) (.slice (some ⟨g,0,none⟩) (d.length - 1) cap)
   exact ⟨this.os,this.tape,this.output,this.size,this.block⟩
  have k03:Tk.Kp (fun k=>k=g ∨ k=tb) w (w2.setCell ⟨tb,2,none⟩ (.slice (some ⟨g,0,none⟩) (d.length - 1) cap)).drew:=(k0.mono (fun k _ h=>.inl h)).trans (k3.mono (fun k _ h=>.inr h))
  have ni:NoInt w (fun k=>k=g ∨ k=tb):=fun k e cur s hc=>by
   rcases e with e | e
   ·exact hd.noint k (by rw [e];rfl) cur s hc
   ·subst e;rw [hb] at hc;simp at hc
  have hrt3:=hrt.kp k03 ni (fun x hx e=>by rcases e with e | e;exact gF (e ▸ hx);exact tF (e ▸ hx))
  have own3:=own2.kp k3 nb2 (fun g e hg=>by cases e;exact tg hg.symm)
  have c3:∀ b i y,w.heap.size<=b->(w1.alloc (.cells #[.int .i64 id,.slice ua nx uc] 39)).cell? ⟨b,i,none⟩=some y->(w2.setCell ⟨tb,2,none⟩ (.slice (some ⟨g,0,none⟩) (d.length - 1) cap)).drew.cell? ⟨b,i,none⟩=some y:=fun b i y hb hc=>k3.cell (hk.cell hc (by intro e;dsimp only at e;omega)) (by intro e;dsimp only at e;omega)
  have r0:=c3 w1.heap.size 0 (.int .i64 id) (by omega) (by simp [go_sem])
  have r1:=c3 w1.heap.size 1 (.slice ua nx uc) (by omega) (by simp [go_sem])
  have ri:=c3 w.heap.size 0 (.int .i64 id) (by omega) (gb_keeps (gb_alloc g1.gr _) (by simp [go_sem]))
  have hcap:Cap Iq false (w2.setCell ⟨tb,2,none⟩ (.slice (some ⟨g,0,none⟩) (d.length - 1) cap)).drew w.heap.size (id,.slice ua nx uc,xl):=⟨ri,fun e=>(by cases e),ownq_noint hvx k03 ni,hd.up.le k03.size⟩
  rw [er] at hrt3
  have cM:=root_c hm ⟨hl1,hl2⟩ (chg_rem m w.heap.size (id,.slice ua nx uc,xl)) (hnx.trans hxl) eg hrt3 NDF (fun e=>by have:=ltF _ e;omega) hcap ⟨hok0.ids,by rw [if_neg (by decide)];exact hmem⟩ hok0 (by rw [eaft];exact hokD)
  rw [eaft] at cM
  refine ⟨⟨_,cell_cur hb2 rfl⟩,by simp [World.frozen?,hb2],⟨r0,r1,cell_cur hb3 rfl⟩,by rw [<- er];exact cell_cur hb3 rfl,cM,?_⟩
  rintro e w4 ⟨pv,F1',rfl,hrt4,nd4,l4,k4⟩
  have tl3:=(Array.getElem?_eq_some_iff.1 hb3).1
  have hb4:w4.heap[tb]? = some (.cells #[.int .i64 (m:Int),.int .i64 (leaf:Int),.slice (some ⟨g,0,none⟩) (d.length - 1) cap,rt] 77 (0,0)):=by rw [k4.block tb tl3 tF];exact hb3
  have s3:=k03.size
  refine ⟨pv,rfl,?_,⟨fun a b c=>⟨?_,?_,?_⟩,fun a b c=>⟨?_,?_,?_⟩⟩,⟨_,cell_cur hb4 rfl⟩,by simp [World.frozen?,hb4]⟩
  ·exact tree_fin hb3 ld'.symm own3 md' (del_ris id hri) hokD hrt4 (List.Perm.refl _) nd4 l4 k4 hrt3.noint gF tF tg (k03.mono (fun k _ h=>by rcases h with h | h <;> rw [h,eF] <;> simp)) (fun y hy=>by rw [eF];simp [hy]) (by rw [eF];exact .inl (by simp)) (by rw [eF];simp) hm ⟨hl1,hl2⟩
  ·exact k4.cell a (fun e=>by have:=ltF _ e;dsimp only at this;omega)
  ·exact k4.cell b (fun e=>by have:=ltF _ e;dsimp only at this;omega)
  ·exact k4.cell c tF
  ·exact ((Tk.Kp.refl (fun k=>k=tb) w4).setCell (.inl rfl) (.pointer pv)).cell a (by intro e;dsimp only at e;omega)
  ·exact ((Tk.Kp.refl (fun k=>k=tb) w4).setCell (.inl rfl) (.pointer pv)).cell b (by intro e;dsimp only at e;omega)
  ·have hb5:(w4.setCell ⟨tb,3,none⟩ (.pointer pv)).heap[tb]? = some (.cells #[.int .i64 (m:Int),.int .i64 (leaf:Int),.slice (some ⟨g,0,none⟩) (d.length - 1) cap,.pointer pv] 77 (0,0)):=by simp [World.setCell,Array.getElem?_modify,hb4]
   exact cell_cur hb5 rfl
 have hpn:(p:Int) < (nd:Int):=by omega
 have hp63:(p:Int) + 1<=9223372036854775807:=by omega
 have hn5:nd<=512:=by omega
 clear h hb hd hdm hri hok0 hrt hnd nF1 ltF tF gF tg hdl hone NDF hxl hfew eg hokD ed' ld' md' hd' hp gA hvx efl hmem hpd hx xm q1 q2 hp0 hp1 tl gl eaft hh hnx hnd'
 go_enter Tryz.func40,Tryz.ntmps40
 go_wp2_with fail
 go_fit cF
 rintro e w1 ⟨rfl,g1⟩
 obtain ⟨l2,q1,q2,l2a⟩:=C2.out _ g1
 have cD:=CD.out _ g1
 have DD:Hid _:=DX.out _ g1
 clear cF g1 C2 CD DX
 go_wp2_with fail
 go_fit cD
 rintro e w2 ⟨rfl,ho,hk⟩
 obtain ⟨⟨y2,k2⟩,f2,FS3,root3,cM,FIN⟩:=DD.out _ ho hk
 clear cD ho hk DD
 go_wp2_with fail
 refine wp_region_held_drew (S:=fun W=>W.cell? ⟨w1.heap.size,0,none⟩=some (.int .i64 id)/\W.cell? ⟨w1.heap.size,1,none⟩=some (.slice ua nx uc)/\W.cell? ⟨tb,1,none⟩=some (.int .i64 (leaf:Int))) (by kernel_rfl) (FS3) (fun hHeld=>?_)
 refine tkn 0 ?_ rfl ?_ ?_;rotate_left;·(rintro w ⟨s0,s1,s2⟩;go_simp;try rfl)
 try simp only [Act.put,List.getElem_toArray,List.getElem_cons_zero,List.setIfInBounds_toArray,List.set_cons_zero,List.set_cons_succ]
 refine tkn 1 ?_ rfl ?_ ?_;rotate_left;·(rintro w ⟨s0,s1,s2⟩;go_simp;try rfl)
 try simp only [Act.put,List.getElem_toArray,List.getElem_cons_zero,List.getElem_cons_succ,List.setIfInBounds_toArray,List.set_cons_zero,List.set_cons_succ]
 refine tkn 2 ?_ rfl ?_ ?_;rotate_left;·(rintro w ⟨s0,s1,s2⟩;go_simp;try rfl)
 try simp only [Act.put,List.getElem_toArray,List.getElem_cons_zero,List.getElem_cons_succ,List.setIfInBounds_toArray,List.set_cons_zero,List.set_cons_succ]
 refine tkn 3 ?_ rfl ?_ ?_;rotate_left;·(rintro w ⟨s0,s1,s2⟩;go_simp;try rfl)
 try simp only [Act.put,List.getElem_toArray,List.getElem_cons_zero,List.getElem_cons_succ,List.setIfInBounds_toArray,List.set_cons_zero,List.set_cons_succ]
 refine tkn 5 ?_ rfl ?_ ?_;rotate_left;·(rintro w ⟨s0,s1,s2⟩;go_simp;try rfl)
 try simp only [Act.put,List.getElem_toArray,List.getElem_cons_zero,List.getElem_cons_succ,List.setIfInBounds_toArray,List.set_cons_zero,List.set_cons_succ]
 refine tkn 6 ?_ rfl ?_ ?_;rotate_left;·(rintro w ⟨s0,s1,s2⟩;go_simp;try rfl)
 try simp only [Act.put,List.getElem_toArray,List.getElem_cons_zero,List.getElem_cons_succ,List.setIfInBounds_toArray,List.set_cons_zero,List.set_cons_succ]
 refine tkn 7 ?_ rfl ?_ ?_;rotate_left;·(rintro w ⟨s0,s1,s2⟩;go_simp;try rfl)
 try simp only [Act.put,List.getElem_toArray,List.getElem_cons_zero,List.getElem_cons_succ,List.setIfInBounds_toArray,List.set_cons_zero,List.set_cons_succ]
 refine tkn 8 ?_ rfl ?_ ?_;rotate_left;·(rintro w ⟨s0,s1,s2⟩;go_simp;try rfl)
 try simp only [Act.put,List.getElem_toArray,List.getElem_cons_zero,List.getElem_cons_succ,List.setIfInBounds_toArray,List.set_cons_zero,List.set_cons_succ]
 refine tkn 9 ?_ rfl ?_ ?_;rotate_left;·(rintro w ⟨s0,s1,s2⟩;go_simp;try rfl)
 try simp only [Act.put,List.getElem_toArray,List.getElem_cons_zero,List.getElem_cons_succ,List.setIfInBounds_toArray,List.set_cons_zero,List.set_cons_succ]
 refine tkn 10 ?_ rfl ?_ ?_;rotate_left;·(rintro w ⟨s0,s1,s2⟩;go_simp;try rfl)
 try simp only [Act.put,List.getElem_toArray,List.getElem_cons_zero,List.getElem_cons_succ,List.setIfInBounds_toArray,List.set_cons_zero,List.set_cons_succ]
 refine rdn 4 rfl (fun K hK=>?_)
 go_simp
 refine hK.out _ _ (⟨hHeld.1,hHeld.2.1,hHeld.2.2⟩) (fun hHeld=>?_)
 clear hK K
 try simp only [Act.put,List.getElem_toArray,List.getElem_cons_zero,List.getElem_cons_succ,List.setIfInBounds_toArray,List.set_cons_zero,List.set_cons_succ]
 refine rdn 11 rfl (fun K hK=>?_)
 go_simp
 go_fit cM
 rintro e w4 hO
 obtain ⟨pv',rfl,FF,KS,⟨y3,k3⟩,f3⟩:=FIN.out _ _ hO
 clear hO cM FIN
 refine hK.out _ _ (KS.1 hHeld.1 hHeld.2.1 hHeld.2.2) (fun hHeld=>?_)
 clear hK K
 try simp only [Act.put,List.getElem_toArray,List.getElem_cons_zero,List.getElem_cons_succ,List.setIfInBounds_toArray,List.set_cons_zero,List.set_cons_succ]
 refine tkn 12 ?_ rfl ?_ ?_;rotate_left;·(rintro w ⟨s0,s1,s2⟩;go_simp;try rfl)
 try simp only [Act.put,List.getElem_toArray,List.getElem_cons_zero,List.getElem_cons_succ,List.setIfInBounds_toArray,List.set_cons_zero,List.set_cons_succ]
 refine tkn 13 ?_ rfl ?_ ?_;rotate_left;·(rintro w ⟨s0,s1,s2⟩;go_simp;try rfl)
 try simp only [Act.put,List.getElem_toArray,List.getElem_cons_zero,List.getElem_cons_succ,List.setIfInBounds_toArray,List.set_cons_zero,List.set_cons_succ]
 refine rdn 14 rfl (fun K hK=>?_)
 go_simp
 refine hK.out _ _ (KS.2 hHeld.1 hHeld.2.1 hHeld.2.2) (fun hHeld=>?_)
 clear hK K
 try simp only [Act.put,List.getElem_toArray,List.getElem_cons_zero,List.getElem_cons_succ,List.setIfInBounds_toArray,List.set_cons_zero,List.set_cons_succ]
 refine wpAnyH_done (by kernel_rfl) ?_ _
 clear hHeld KS FS3
 go_wp2
 go_ret
 exact ⟨rfl,FF.out⟩
theorem remove_c {Iq:Nat->Prop} {w:World} {tb m leaf:Nat} {rs:List Rw} {F:List Nat} (h:TreeAt Iq w tb m leaf rs F) (id:Int) :
  Calls Tryz.prog 40 #[.pointer (some ⟨tb,0,none⟩),.int .i64 id] w fun e w'=>e=.returned (.bool (hasId rs id))/\TOut Iq w tb m leaf F (delRw rs id) w':=by
 cases hh:hasId rs id with
 | true=>exact remove_yes h id hh
 | false =>
  refine (remove_no h id hh).mono ?_
  rintro e w' ⟨rfl,g⟩
  rw [del_none hh]
  exact ⟨rfl,F,h.gb g,fun y hy=>.inl hy,Tk.Kp.of_gr g⟩
theorem delete_c {Iq:Nat->Prop} {w:World} {tb m leaf:Nat} {rs:List Rw} {F:List Nat} (h:TreeAt Iq w tb m leaf rs F) (id:Int) :
  Calls Tryz.prog 17 #[.pointer (some ⟨tb,0,none⟩),.int .i64 id] w fun e w'=>e=.returned (.tuple #[.bool (hasId rs id),.int .i64 0])/\TOut Iq w tb m leaf F (delRw rs id) w':=by
 have cR:=remove_c h id
 clear h
 generalize hasId rs id=hb at *
 go_enter Tryz.func17,Tryz.ntmps17
 go_wp2_with fail
 go_fit cR
 rintro e w1 ⟨rfl,hO⟩
 have H:Hid _:=hO
 clear hO cR
 go_wp2
 refine bodyPost_ret (v:=.tuple #[.bool hb,.int .i64 0]) (by simp [results,Tryz.results17,go_sem]) rfl ?_
 exact ⟨rfl,H.out⟩
end Go.Proofs.YtgbgejflmbhigaaGreat
