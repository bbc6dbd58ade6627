import Derived.Test.YtepjbdklljlecaaGreatVrVpLd
import Derived.Test.YtepjbdklljlecaaGreatVr9
import Derived.Test.YtepjbdklljlecaaGreatVr26
import Derived.Test.YtepjbdklljlecaaGreatVr5
namespace Go.Proofs.YtepjbdklljlecaaGreat
open Go.RowKit Go.Sort
def Ris (rs:List Rw):Prop:=rs.Pairwise fun x y=>x.1 < y.1
def insRw (rs:List Rw) (r:Rw):List Rw:=rs.take (plc rs r.1) ++ r :: rs.drop (plc rs r.1)
def delRw (rs:List Rw) (id:Int):List Rw:=rs.filter fun y=>!decide (y.1=id)
theorem split_lt (id:Int):∀ {rs:List Rw},Ris rs->rs.take (plc rs id)=rs.filter (fun r=>decide (r.1 < id))/\rs.drop (plc rs id)=rs.filter (fun r=>!decide (r.1 < id))
 | [],_=>⟨rfl,rfl⟩
 | r :: rest,h=>by
  have h1:=List.pairwise_cons.1 h
  obtain ⟨a,b⟩:=split_lt id h1.2
  by_cases hr:r.1 < id
  ·have e:plc (r :: rest) id=plc rest id + 1:=by unfold plc;rw [List.filter_cons_of_pos (by simpa using hr)];rfl
   rw [e,List.take_succ_cons,List.drop_succ_cons,List.filter_cons_of_pos (by simpa using hr),List.filter_cons_of_neg (by simpa using hr),a,b]
   exact ⟨rfl,rfl⟩
  ·have e0:rest.filter (fun r=>decide (r.1 < id))=[]:=by
    rw [List.filter_eq_nil_iff]
    intro y hy
    have:=h1.1 y hy
    simp
    omega
   have e1:rest.filter (fun r=>!decide (r.1 < id))=rest:=by
    rw [List.filter_eq_self]
    intro y hy
    have:=h1.1 y hy
    simp
    omega
   have e:plc (r :: rest) id=0:=by unfold plc;rw [List.filter_cons_of_neg (by simpa using hr),e0];rfl
   rw [e,List.take_zero,List.drop_zero,List.filter_cons_of_neg (by simpa using hr),List.filter_cons_of_pos (by simpa using hr),e0,e1]
   exact ⟨rfl,rfl⟩
theorem plc_le (rs:List Rw) (id:Int):plc rs id<=rs.length:=List.length_filter_le _ _
theorem ins_perm (rs:List Rw) (r:Rw):(insRw rs r).Perm (rs ++ [r]):=by
 unfold insRw
 refine List.perm_middle.trans ?_
 rw [List.take_append_drop]
 exact (List.perm_append_singleton r rs).symm
theorem ins_ris {rs:List Rw} {r:Rw} (h:Ris rs) (hn:∀ y ∈ rs,y.1 ≠ r.1):Ris (insRw rs r):=by
 unfold insRw Ris
 obtain ⟨a,b⟩:=split_lt r.1 h
 rw [a,b,List.pairwise_append]
 refine ⟨h.sublist List.filter_sublist,List.pairwise_cons.2 ⟨fun y hy=>?_,h.sublist List.filter_sublist⟩,fun x hx y hy=>?_⟩
 ·have h1:=List.mem_filter.1 hy
  have h2:=hn y h1.1
  simp at h1
  omega
 ·have h1:=List.mem_filter.1 hx
  simp at h1
  rcases List.mem_cons.1 hy with rfl | hy
  ·exact h1.2
  ·have h2:=List.mem_filter.1 hy
   simp at h2
   omega
theorem plc_has {rs:List Rw} {id:Int} (h:Ris rs) (hh:hasId rs id=true):∃ hp:plc rs id < rs.length,rs[plc rs id].1=id:=by
 unfold hasId at hh
 rw [List.any_eq_true] at hh
 obtain ⟨r,hr,he⟩:=hh
 obtain ⟨j,hj,rfl⟩:=List.getElem_of_mem hr
 rw [decide_eq_true_eq] at he
 have hp:=List.pairwise_iff_getElem.1 h
 have e:plc rs id=j:=plc_of (by omega) (fun t ht htj=>by have:=hp t j ht hj htj;omega) (fun t ht hjt=>by
  by_cases e:j=t
  ·subst e;omega
  ·have:=hp j t hj ht (by omega);omega)
 exact ⟨by omega,by simp only [e];exact he⟩
theorem del_ris {rs:List Rw} (id:Int) (h:Ris rs):Ris (delRw rs id):=h.sublist List.filter_sublist
theorem flat_takeR:∀ (d:List Rt) (p:Nat),(d.flatMap encR).take (p * 2)=(d.take p).flatMap encR
 | [],p=>by simp
 | x :: r,0=>by simp
 | x :: r,p + 1=>by
  rw [List.take_succ_cons,List.flatMap_cons,List.flatMap_cons,<- flat_takeR r p,show (p + 1) * 2=(p * 2) + 1 + 1 by omega]
  rfl
theorem flat_dropR:∀ (d:List Rt) (p:Nat),(d.flatMap encR).drop (p * 2)=(d.drop p).flatMap encR
 | [],p=>by simp
 | x :: r,0=>by simp
 | x :: r,p + 1=>by
  rw [List.drop_succ_cons,List.flatMap_cons,<- flat_dropR r p,show (p + 1) * 2=(p * 2) + 1 + 1 by omega]
  rfl
def RtAt (Iq:Nat->Prop) (w:World) (m:Nat) (R:List Rw) (rt:Value) (F:List Nat):Prop:=(R=[]/\rt=.pointer none/\F=[]) ∨ ∃ b T n,rt=.pointer (some ⟨b,0,none⟩)/\TrO Iq w T (n + 1) b F/\OkP T m n (T b)/\(rowsP T n (T b)).Perm R
theorem rt_out {Iq:Nat->Prop} {w w':World} {sb m:Nat} {F:List Nat} {R R':List Rw} {e:Ending} (h:RmOut Iq w sb m F R e w') (p:R.Perm R'):∃ pv F',e=.returned (.pointer pv)/\RtAt Iq w' m R' (.pointer pv) F'/\F'.Nodup/\(∀ y ∈ F',y ∈ F ∨ w.heap.size<=y):=by
 obtain ⟨_,_,h1,h2⟩:=h
 by_cases hR:R=[]
 ·refine ⟨none,[],h1 hR,.inl ⟨?_,rfl,rfl⟩,List.nodup_nil,fun y hy=>(by cases hy)⟩
  rw [hR] at p
  exact p.symm.eq_nil
 ·obtain ⟨b,T,F',n,e1,t,ok,pm,nd,l⟩:=h2 hR
  exact ⟨some ⟨b,0,none⟩,F',e1,.inr ⟨b,T,n,rfl,t,ok,pm.trans p⟩,nd,l⟩
def TOut (Iq:Nat->Prop) (w:World) (tb m leaf:Nat) (F:List Nat) (rs:List Rw) (w':World):Prop:=∃ F',TreeAt Iq w' tb m leaf rs F'/\(∀ y ∈ F',y ∈ F ∨ w.heap.size<=y)/\Tk.Kp (fun k=>k ∈ F) w w'
theorem tree_lay {Iq:Nat->Prop} {w W:World} {tb m leaf sb g cap:Nat} {d:List Rt} {rs' R:List Rw} {F F1':List Nat} {pv:Option Addr}
  (hb:W.heap[tb]? = some (.cells #[.int .i64 (m:Int),.int .i64 (leaf:Int),.pointer (some ⟨sb,0,none⟩),.slice (some ⟨g,0,none⟩) d.length cap,.pointer pv] 84 (0,0)))
  (own:OwnRs Iq W (.slice (some ⟨g,0,none⟩) d.length cap) d) (hd:d.map rwR=rs') (hs:Ris rs') (hok:RowsOk rs' (m:Int)) (hrt:RtAt Iq W m R (.pointer pv) F1') (hpm:R.Perm rs')
  (hnd:(tb :: g :: sb :: F1').Nodup) (hS:SrcAt W sb) (hF:∀ y ∈ tb :: g :: sb :: F1',y ∈ F ∨ w.heap.size<=y) (hK:Tk.Kp (fun k=>k ∈ F) w W) (hm:1<=m/\m<=64) (hlf:1<=leaf/\leaf<=64) :
  TOut Iq w tb m leaf F rs' W:=by
 have hdl:d.length=rs'.length:=by rw [<- hd,List.length_map]
 refine ⟨tb :: g :: sb :: F1',⟨g,cap,sb,d,.pointer pv,F1',hb,own,hd,hs,hok,?_,rfl,hnd,hm,hlf,hS⟩,hF,hK⟩
 rcases hrt with ⟨e1,e2,e3⟩ | ⟨b,T,k,e1,t,ok,pm⟩
 ·refine .inl ⟨?_,e2,e3⟩
  rw [e1] at hpm
  rw [hpm.symm.eq_nil] at hd
  exact List.map_eq_nil_iff.1 hd
 ·have p2:=pm.trans hpm
  have hl2:(rowsP T k (T b)).length=rs'.length:=p2.length_eq
  refine .inr ⟨b,T,e1,fun e=>?_,fun N hN=>?_⟩
  ·rw [e] at hdl
   have:=List.length_pos_iff.2 (okP_ne _ _ ok)
   simp at hdl
   omega
  ·obtain ⟨a1,a2,a3⟩:=TrO.any _ _ _ t ok N (by omega)
   exact ⟨a1,a2,by rw [a3];exact p2⟩
theorem TreeAt.open' {Iq:Nat->Prop} {w:World} {tb m leaf:Nat} {rs:List Rw} {F:List Nat} (h:TreeAt Iq w tb m leaf rs F):∃ g cap sb d rt F1,w.heap[tb]? = some (.cells #[.int .i64 (m:Int),.int .i64 (leaf:Int),.pointer (some ⟨sb,0,none⟩),.slice (some ⟨g,0,none⟩) d.length cap,rt] 84 (0,0)) /\
  OwnRs Iq w (.slice (some ⟨g,0,none⟩) d.length cap) d/\d.map rwR=rs/\Ris rs/\RowsOk rs (m:Int)/\RtAt Iq w m rs rt F1/\F=tb :: g :: sb :: F1/\F.Nodup/\(1<=m/\m<=64)/\(1<=leaf/\leaf<=64)/\NoInt w (fun k=>k ∈ F1)/\(∃ pv,rt=.pointer pv)/\(∀ x ∈ F1,x < w.heap.size)/\(tb ∉ F1/\g ∉ F1/\sb ∉ F1/\tb ≠ g/\tb ≠ sb/\g ≠ sb)/\SrcAt w sb:=by
 obtain ⟨g,cap,sb,d,rt,F1,h1,h2,h3,h4,h5,h6,rfl,h8,h9,h10,h11⟩:=h
 have hnd:=h8
 rw [List.nodup_cons,List.nodup_cons,List.nodup_cons,List.mem_cons,List.mem_cons,List.mem_cons] at hnd
 refine ⟨g,cap,sb,d,rt,F1,h1,h2,h3,h4,h5,?_,rfl,h8,h9,h10,?_,?_,?_,⟨fun e=>hnd.1 (.inr (.inr e)),fun e=>hnd.2.1 (.inr e),hnd.2.2.1,fun e=>hnd.1 (.inl e),fun e=>hnd.1 (.inr (.inl e)),fun e=>hnd.2.1 (.inl e)⟩,h11⟩
 ·rcases h6 with ⟨rfl,e2,e3⟩ | ⟨b,T,e1,_,t⟩
  ·exact .inl ⟨h3.symm,e2,e3⟩
  ·obtain ⟨a,b',c⟩:=t d.length (Nat.le_refl _)
   exact .inr ⟨b,T,d.length,e1,a,b',c⟩
 ·rcases h6 with ⟨_,_,rfl⟩ | ⟨b,T,_,_,t⟩
  ·intro k hk;cases hk
  ·exact (t d.length (Nat.le_refl _)).1.noint
 ·rcases h6 with ⟨_,e,_⟩ | ⟨b,T,e,_,t⟩
  ·exact ⟨none,e⟩
  ·exact ⟨_,e⟩
 ·rcases h6 with ⟨_,_,rfl⟩ | ⟨b,T,_,_,t⟩
  ·intro k hk;cases hk
  ·exact (t d.length (Nat.le_refl _)).1.mem.2
theorem RtAt.kp {Iq:Nat->Prop} {S:Nat->Prop} {w w':World} {m:Nat} {R:List Rw} {rt:Value} {F:List Nat} (h:RtAt Iq w m R rt F) (k:Tk.Kp S w w') (hS:NoInt w S) (hF:∀ x ∈ F,¬ S x):RtAt Iq w' m R rt F:=by
 rcases h with h | ⟨b,T,n,e,t,ok,pm⟩
 ·exact .inl h
 ·exact .inr ⟨b,T,n,e,TrO.kp k hS _ _ _ t hF,ok,pm⟩
theorem RtAt.noint {Iq:Nat->Prop} {w:World} {m:Nat} {R:List Rw} {rt:Value} {F:List Nat} (h:RtAt Iq w m R rt F):NoInt w (fun k=>k ∈ F):=by
 rcases h with ⟨_,_,rfl⟩ | ⟨b,T,n,e,t,ok,pm⟩
 ·intro k hk;cases hk
 ·exact t.noint
theorem TreeAt.kp {Iq:Nat->Prop} {S:Nat->Prop} {w w':World} {tb m leaf:Nat} {rs:List Rw} {F:List Nat} (h:TreeAt Iq w tb m leaf rs F) (k:Tk.Kp S w w') (hS:NoInt w S) (hF:∀ x ∈ F,¬ S x):TreeAt Iq w' tb m leaf rs F:=by
 obtain ⟨g,cap,sb,d,rt,F1,h1,h2,h3,h4,h5,h6,rfl,h8,h9,h10,h11⟩:=h
 refine ⟨g,cap,sb,d,rt,F1,?_,h2.kp k hS (fun g' e=>by cases e;exact hF g (by simp)),h3,h4,h5,?_,rfl,h8,h9,h10,kp_src h11 k (hF sb (by simp))⟩
 ·rw [k.block tb (Array.getElem?_eq_some_iff.1 h1).1 (hF tb (by simp))];exact h1
 ·rcases h6 with h | ⟨b,T,e1,e2,t⟩
  ·exact .inl h
  ·exact .inr ⟨b,T,e1,e2,fun N hN=>⟨TrO.kp k hS _ _ _ (t N hN).1 (fun x hx=>hF x (by simp [hx])),(t N hN).2⟩⟩
theorem TreeAt.gb {Iq:Nat->Prop} {w w':World} {tb m leaf:Nat} {rs:List Rw} {F:List Nat} (h:TreeAt Iq w tb m leaf rs F) (g:Gb w w'):TreeAt Iq w' tb m leaf rs F:=h.kp (kpF g) (noF _) (fun _ _ h=>h)
end Go.Proofs.YtepjbdklljlecaaGreat

namespace Go.Proofs.YtepjbdklljlecaaGreat
open Go.RowKit Go.Sort
structure AddW (Iq:Nat->Prop) (w w3:World) (tb m leaf sb g cap:Nat) (d:List Rt) (rs:List Rw) (x:Rt) (F F1:List Nat) (rt:Value):Prop where
 blk:w3.heap[tb]? = some (.cells #[.int .i64 (m:Int),.int .i64 (leaf:Int),.pointer (some ⟨sb,0,none⟩),.slice (some ⟨g,0,none⟩) d.length cap,rt] 84 (0,0))
 own:OwnRs Iq w3 (.slice (some ⟨g,0,none⟩) d.length cap) d
 dm:d.map rwR=insRw rs (rwR x)
 ris:Ris (insRw rs (rwR x))
 ok:RowsOk (insRw rs (rwR x)) (m:Int)
 root:RtAt Iq w3 m rs rt F1
 ndF:F1.Nodup
 src:SrcAt w3 sb
 vec:OwnQ Iq w3 x.2.1 x.2.2
 kp:Tk.Kp (fun k=>k ∈ F) w w3
 nF:tb ∉ F1/\g ∉ F1/\sb ∉ F1/\tb ≠ g/\tb ≠ sb/\g ≠ sb
 inF:∀ y ∈ tb :: g :: sb :: F1,y ∈ F ∨ w.heap.size<=y
 lt:∀ y ∈ F1,y < w3.heap.size
 hm:1<=m/\m<=64
 hlf:1<=leaf/\leaf<=64
section
variable {Iq:Nat->Prop} {w w3:World} {tb m leaf sb g cap:Nat} {d:List Rt} {rs:List Rw} {x:Rt} {F F1:List Nat} {rt:Value}
theorem AddW.gb (h:AddW Iq w w3 tb m leaf sb g cap d rs x F F1 rt) {W:World} (k:Gb w3 W):AddW Iq w W tb m leaf sb g cap d rs x F F1 rt where
 blk:=by rw [k.block tb (Array.getElem?_eq_some_iff.1 h.blk).1];exact h.blk
 own:=h.own.gb k
 dm:=h.dm
 ris:=h.ris
 ok:=h.ok
 root:=h.root.kp (kpF k) (noF _) (fun _ _ h=>h)
 ndF:=h.ndF
 src:=h.src.gb k
 vec:=h.vec.gb k
 kp:=h.kp.trans (Tk.Kp.of_gr k)
 nF:=h.nF
 inF:=h.inF
 lt:=fun y hy=>Nat.lt_of_lt_of_le (h.lt y hy) k.size
 hm:=h.hm
 hlf:=h.hlf
theorem AddW.nodup (h:AddW Iq w w3 tb m leaf sb g cap d rs x F F1 rt) {F2:List Nat} (nd:F2.Nodup) (hl:∀ y ∈ F2,y ∈ F1 ∨ w3.heap.size<=y):(tb :: g :: sb :: F2).Nodup/\(∀ y ∈ tb :: g :: sb :: F2,y ∈ F ∨ w.heap.size<=y)/\∀ y ∈ F2,y ≠ tb/\y ≠ g/\y ≠ sb:=by
 obtain ⟨a1,a2,a3,a4,a5,a6⟩:=h.nF
 have t1:=(Array.getElem?_eq_some_iff.1 h.blk).1
 have t2:=(h.own.row.lt g rfl).2
 have t3:=h.src.lt
 have hn:∀ y ∈ F2,y ≠ tb/\y ≠ g/\y ≠ sb:=fun y hy=>by
  rcases hl y hy with e | e
  ·exact ⟨fun q=>a1 (q ▸ e),fun q=>a2 (q ▸ e),fun q=>a3 (q ▸ e)⟩
  ·exact ⟨by omega,by omega,by omega⟩
 refine ⟨?_,fun y hy=>?_,hn⟩
 ·rw [List.nodup_cons,List.nodup_cons,List.nodup_cons]
  refine ⟨fun e=>?_,fun e=>?_,fun e=>(hn sb e).2.2 rfl,nd⟩
  ·simp only [List.mem_cons] at e
   rcases e with e | e | e
   ·exact a4 e
   ·exact a5 e
   ·exact (hn tb e).1 rfl
  ·simp only [List.mem_cons] at e
   rcases e with e | e
   ·exact a6 e
   ·exact (hn g e).2.1 rfl
 ·simp only [List.mem_cons] at hy
  rcases hy with e | e | e | e
  ·exact h.inF y (by simp [e])
  ·exact h.inF y (by simp [e])
  ·exact h.inF y (by simp [e])
  ·rcases hl y e with q | q
   ·exact h.inF y (by simp [q])
   ·exact .inr (Nat.le_trans h.kp.size q)
theorem AddW.nil (h:AddW Iq w w3 tb m leaf sb g cap d rs x F F1 (.pointer none)) :
  Calls Tryz.prog 59 #[.pointer (some ⟨tb,0,none⟩),.slice (some ⟨g,0,none⟩) d.length cap] w3 fun e w4=>∃ pv,e=.returned (.pointer pv)/\Hid (TOut Iq w tb m leaf F (insRw rs (rwR x)) (w4.setCell ⟨tb,4,none⟩ (.pointer pv)))/\(∃ y,w4.cell? ⟨tb,4,none⟩=some y)/\w4.frozen? ⟨tb,4,none⟩=false:=by
 obtain ⟨a1,a2,a3,a4,a5,a6⟩:=h.nF
 have e1:F1=[]:=by
  rcases h.root with ⟨_,_,e⟩ | ⟨b,T,n,e,_⟩
  ·exact e
  ·cases e
 subst e1
 have cap':=own_cap h.own.row
 refine (partsOf_c h.hm ⟨h.hlf.1,by have:=h.hlf.2;omega⟩ d (rwAt_own h.own.row).1 ⟨h.own.vec,by rw [h.dm];exact h.ok,h.own.up⟩ cap' (cell_cur h.blk rfl) (cell_cur h.blk rfl) h.src).mono ?_
 intro e w4 hO
 have hd:d ≠ []:=fun e=>by
  have h1:=h.dm
  rw [e] at h1
  have h2:=congrArg List.length h1
  have h3:=(ins_perm rs (rwR x)).length_eq
  simp at h2 h3
  omega
 obtain ⟨⟨b,T,F',rfl,t,nd,l⟩,hS4,k4⟩:=hO.2 hd
 have tl:=(Array.getElem?_eq_some_iff.1 h.blk).1
 have hb4:w4.heap[tb]? = some (.cells #[.int .i64 (m:Int),.int .i64 (leaf:Int),.pointer (some ⟨sb,0,none⟩),.slice (some ⟨g,0,none⟩) d.length cap,.pointer none] 84 (0,0)):=by rw [k4.block tb tl a5];exact h.blk
 have kb:Tk.Kp (fun k=>k=tb) w4 (w4.setCell ⟨tb,4,none⟩ (.pointer (some ⟨b,0,none⟩))):=(Tk.Kp.refl (fun k=>k=tb) w4).setCell (.inl rfl) _
 have nb4:NoInt w4 (fun k=>k=tb):=fun k e cur s hc=>by subst e;rw [hb4] at hc;simp at hc
 obtain ⟨n1,n2,n3⟩:=h.nodup nd (fun y hy=>.inr (l y hy))
 obtain ⟨t1,t2,t3⟩:=t d.length (Nat.le_refl _)
 refine ⟨_,rfl,?_,⟨_,cell_cur hb4 rfl⟩,by simp [World.frozen?,hb4]⟩
 refine tree_lay (g:=g) (sb:=sb) (cap:=cap) (F1':=F') (R:=d.map rwR) (by simp [World.setCell,Array.getElem?_modify,hb4]) ((h.own.kp k4 h.src.noint (fun g' e e2=>by cases e;exact a6 e2)).kp kb nb4 (fun g' e e2=>by cases e;exact a4 e2.symm)) h.dm h.ris h.ok (.inr ⟨b,T,d.length,rfl,TrO.kp kb nb4 _ _ _ t1 (fun y hy=>(n3 y hy).1),t2,t3⟩) (by rw [h.dm]) n1 (kp_src hS4 kb (fun e=>a5 e.symm)) n2 ?_ h.hm h.hlf
 have i1:sb ∈ F ∨ w.heap.size<=sb:=h.inF sb (by simp)
 have i2:tb ∈ F ∨ w.heap.size<=tb:=h.inF tb (by simp)
 exact ⟨kb.os.trans (k4.os.trans h.kp.os),kb.tape.trans (k4.tape.trans h.kp.tape),kb.output.trans (k4.output.trans h.kp.output),Nat.le_trans h.kp.size (Nat.le_trans k4.size kb.size),fun k hk hn=>by
  have q1:k ≠ sb:=fun e=>by rcases i1 with i | i;exact hn (e ▸ i);omega
  have q2:k ≠ tb:=fun e=>by rcases i2 with i | i;exact hn (e ▸ i);omega
  exact (kb.block k (Nat.lt_of_lt_of_le hk (Nat.le_trans h.kp.size k4.size)) q2).trans ((k4.block k (Nat.lt_of_lt_of_le hk h.kp.size) q1).trans (h.kp.block k hk hn))⟩
end
end Go.Proofs.YtepjbdklljlecaaGreat

namespace Go.Proofs.YtepjbdklljlecaaGreat
open Go.RowKit Go.Sort
set_option maxRecDepth 100000
section
variable {Iq:Nat->Prop} {w w3:World} {tb m leaf sb g cap:Nat} {d:List Rt} {rs:List Rw} {F F1:List Nat} {rb:Nat}
theorem AddW.lead {x:Rt} (h:AddW Iq w w3 tb m leaf sb g cap d rs x F F1 (.pointer (some ⟨rb,0,none⟩))):∃ RT,RT.Perm rs/\Calls Tryz.prog 87 #[.pointer (some ⟨rb,0,none⟩),.agg #[.int .i64 x.1,x.2.1]] w3 fun e w4=>LdO Iq m x sb w3 rb F1 RT e w4:=by
 rcases h.root with ⟨_,e,_⟩ | ⟨b,T,n,e,t,ok,pm⟩
 ·cases e
 ·cases e
  refine ⟨_,pm,lead_c t ok h.ndF h.nF.2.2.1 h.src h.vec (h.ok.perm ?_)⟩
  exact (ins_perm rs (rwR x)).trans (pm.symm.append_right _)
theorem rb_form {Iq:Nat->Prop} {W:World} {T:Nat->Pt} {n b:Nat} {F:List Nat} (h:TrO Iq W T (n + 1) b F):∃ al nl cl ah nh ch q3 q4 ar nr cr q7 q8 q9 k1 k2,W.heap[b]? = some (.cells #[.int .i64 3,.slice al nl cl,.slice ah nh ch,.int .u64 q3,.int .u64 q4,.slice none 0 0,.slice ar nr cr,.int .i64 q7,.int .u64 q8,.int .u64 q9,.pointer k1,.pointer k2] 117 (0,0)):=by
 obtain ⟨vl,vh,vr,hp,h⟩:=h
 obtain ⟨al,cl,e1,_⟩:=hp.low.rd
 obtain ⟨ah,ch,e2,_⟩:=hp.high.rd
 obtain ⟨ar,nr,cr,e3⟩:∃ ar nr cr,vr=.slice ar nr cr:=by
  cases hk:(T b).kids with
  | none =>
   rw [hk] at h
   obtain ⟨d,g,h1,_,h3,_⟩:=h
   rcases h1.row.2 with ⟨rfl,_⟩ | ⟨g',cap',cur,rfl,_⟩
   ·cases h3
   ·exact ⟨_,_,_,rfl⟩
  | some lh =>
   obtain ⟨l,hh⟩:=lh
   rw [hk] at h
   exact ⟨_,_,_,h.1⟩
 have kid:∀ o:Option Nat,∃ k,kidV o=.pointer k:=fun o=>by cases o <;> exact ⟨_,rfl⟩
 obtain ⟨k1,e4⟩:=kid ((T b).kids.map Prod.fst)
 obtain ⟨k2,e5⟩:=kid ((T b).kids.map Prod.snd)
 have hb:=hp.blk
 subst e1 e2 e3
 rw [e4,e5] at hb
 exact ⟨_,_,_,_,_,_,_,_,_,_,_,_,_,_,_,_,hb⟩
theorem AddW.last {xi:Int} {ua:Option Addr} {nx uc:Nat} {xl:List Int} (h:AddW Iq w w3 tb m leaf sb g cap d rs (xi,Value.slice ua nx uc,xl) F F1 (.pointer (some ⟨rb,0,none⟩))) {RT:List Rw} (hR:RT.Perm rs) {e:Ending} {w4:World} (hO:LdO Iq m (xi,Value.slice ua nx uc,xl) sb w3 rb F1 RT e w4) {rx:Nat} (hrx:rx ∉ F1) (hrs:rx ≠ sb) :
  ∃ p gq nq cq,e=.returned (.pointer (some ⟨p,0,none⟩))/\w4.drew.cell? ⟨p,6,none⟩=some (.slice (some ⟨gq,0,none⟩) nq cq)/\(w4.alloc (.cells #[.int .i64 xi,.slice ua nx uc] 43)).cell? ⟨p,6,none⟩=some (.slice (some ⟨gq,0,none⟩) nq cq)/\(∀ i y,w3.cell? ⟨rx,i,none⟩=some y->w4.cell? ⟨rx,i,none⟩=some y)/\(∀ i y,w3.cell? ⟨tb,i,none⟩=some y->w4.cell? ⟨tb,i,none⟩=some y) /\
   ∃ v7 W7 a7 n7 c7,v7=.slice a7 n7 c7/\(Builtin.append_ #[22,22] 22 #[.slice (some ⟨gq,0,none⟩) nq cq,.slice (some ⟨w4.heap.size,0,none⟩) 1 1]).run Tryz.prog (w4.drew.alloc (.cells #[.int .i64 xi,.slice ua nx uc] 43))=.ok v7 W7/\(∀ i y,(w4.drew.alloc (.cells #[.int .i64 xi,.slice ua nx uc] 43)).cell? ⟨rx,i,none⟩=some y->W7.cell? ⟨rx,i,none⟩=some y) /\
    Calls Tryz.prog 59 #[.pointer (some ⟨tb,0,none⟩),v7] W7 fun e W8=>∃ bn al nl cl ah nh ch q3 q4 ar nr cr q7 q8 q9 k1 k2,e=.returned (.pointer (some ⟨bn,0,none⟩))/\(W8.cell? ⟨bn,0,none⟩=some (.int .i64 3)/\W8.cell? ⟨bn,1,none⟩=some (.slice al nl cl)/\W8.cell? ⟨bn,2,none⟩=some (.slice ah nh ch)/\W8.cell? ⟨bn,3,none⟩=some (.int .u64 q3)/\W8.cell? ⟨bn,4,none⟩=some (.int .u64 q4)/\W8.cell? ⟨bn,5,none⟩=some (.slice none 0 0)/\W8.cell? ⟨bn,6,none⟩=some (.slice ar nr cr)/\W8.cell? ⟨bn,7,none⟩=some (.int .i64 q7)/\W8.cell? ⟨bn,8,none⟩=some (.int .u64 q8)/\W8.cell? ⟨bn,9,none⟩=some (.int .u64 q9)/\W8.cell? ⟨bn,10,none⟩=some (.pointer k1)/\W8.cell? ⟨bn,11,none⟩=some (.pointer k2))/\((∃ y,W8.cell? ⟨p,0,none⟩=some y)/\(∃ y,W8.cell? ⟨p,1,none⟩=some y)/\(∃ y,W8.cell? ⟨p,2,none⟩=some y)/\(∃ y,W8.cell? ⟨p,3,none⟩=some y)/\(∃ y,W8.cell? ⟨p,4,none⟩=some y)/\(∃ y,W8.cell? ⟨p,5,none⟩=some y)/\(∃ y,W8.cell? ⟨p,6,none⟩=some y)/\(∃ y,W8.cell? ⟨p,7,none⟩=some y)/\(∃ y,W8.cell? ⟨p,8,none⟩=some y)/\(∃ y,W8.cell? ⟨p,9,none⟩=some y)/\(∃ y,W8.cell? ⟨p,10,none⟩=some y)/\(∃ y,W8.cell? ⟨p,11,none⟩=some y))/\(W8.frozen? ⟨p,0,none⟩=false/\W8.frozen? ⟨p,1,none⟩=false/\W8.frozen? ⟨p,2,none⟩=false/\W8.frozen? ⟨p,3,none⟩=false/\W8.frozen? ⟨p,4,none⟩=false/\W8.frozen? ⟨p,5,none⟩=false/\W8.frozen? ⟨p,6,none⟩=false/\W8.frozen? ⟨p,7,none⟩=false/\W8.frozen? ⟨p,8,none⟩=false/\W8.frozen? ⟨p,9,none⟩=false/\W8.frozen? ⟨p,10,none⟩=false/\W8.frozen? ⟨p,11,none⟩=false)/\(∀ i y,W7.cell? ⟨rx,i,none⟩=some y->W8.cell? ⟨rx,i,none⟩=some y) /\
     (∀ i y,W8.cell? ⟨rx,i,none⟩=some y->((((((((((((W8.setCell ⟨p,0,none⟩ (.int .i64 3)).setCell ⟨p,1,none⟩ (.slice al nl cl)).setCell ⟨p,2,none⟩ (.slice ah nh ch)).setCell ⟨p,3,none⟩ (.int .u64 q3)).setCell ⟨p,4,none⟩ (.int .u64 q4)).setCell ⟨p,5,none⟩ (.slice none 0 0)).setCell ⟨p,6,none⟩ (.slice ar nr cr)).setCell ⟨p,7,none⟩ (.int .i64 q7)).setCell ⟨p,8,none⟩ (.int .u64 q8)).setCell ⟨p,9,none⟩ (.int .u64 q9)).setCell ⟨p,10,none⟩ (.pointer k1)).setCell ⟨p,11,none⟩ (.pointer k2)).cell? ⟨rx,i,none⟩=some y)/\Hid (TOut Iq w tb m leaf F (insRw rs (xi,xl)) ((((((((((((W8.setCell ⟨p,0,none⟩ (.int .i64 3)).setCell ⟨p,1,none⟩ (.slice al nl cl)).setCell ⟨p,2,none⟩ (.slice ah nh ch)).setCell ⟨p,3,none⟩ (.int .u64 q3)).setCell ⟨p,4,none⟩ (.int .u64 q4)).setCell ⟨p,5,none⟩ (.slice none 0 0)).setCell ⟨p,6,none⟩ (.slice ar nr cr)).setCell ⟨p,7,none⟩ (.int .i64 q7)).setCell ⟨p,8,none⟩ (.int .u64 q8)).setCell ⟨p,9,none⟩ (.int .u64 q9)).setCell ⟨p,10,none⟩ (.pointer k1)).setCell ⟨p,11,none⟩ (.pointer k2))):=by
 obtain ⟨p,q,vl,vh,vr,dq,gq,rfl,hp,hk,ho,hvr,hpg,hps,hgs,hf,k4,⟨hpF,hgF⟩,hok,hS4⟩:=hO
 obtain ⟨cq,evr,hle⟩:∃ cq,vr=.slice (some ⟨gq,0,none⟩) dq.length cq/\dq.length<=cq:=by
  rcases ho.row.2 with ⟨rfl,_⟩ | ⟨g',cap',cur,rfl,_,_,hle,_⟩
  ·cases hvr
  ·cases hvr
   exact ⟨_,rfl,hle⟩
 subst evr
 obtain ⟨a1,a2,a3,a4,a5,a6⟩:=h.nF
 have c6:w4.cell? ⟨p,6,none⟩=some (.slice (some ⟨gq,0,none⟩) dq.length cq):=cell_cur hp.blk rfl
 have gA:Gb w4 (w4.drew.alloc (.cells #[.int .i64 xi,.slice ua nx uc] 43)):=gb_alloc (Below.refl _ _).drew _
 have hfew:=hok.few
 rw [List.length_append,List.length_map] at hfew
 have hfew':dq.length + 1<=512:=hfew
 have rxp:rx ≠ p:=fun e=>hrx (e ▸ hpF)
 have rxg:rx ≠ gq:=fun e=>hrx (e ▸ hgF)
 have k4rx:∀ i y,w3.cell? ⟨rx,i,none⟩=some y->w4.cell? ⟨rx,i,none⟩=some y:=fun i y hc=>k4.cell hc hrx
 obtain ⟨i0,hi,hz0,hz1,hz2⟩:=info_partsW
 obtain ⟨v7,W7,hr,hown,hgrow,hnn,hloc⟩:=run_append_own_at (P:=Tryz.prog) (w4.drew.alloc (.cells #[.int .i64 xi,.slice ua nx uc] 43)) 0 22 22 43 i0 (.agg #[.int .i64 0,.slice none 0 0]) 2 32 Tryz.underlying22 hi hz0 hz1 hz2 rfl (by decide)
  (.slice (some ⟨gq,0,none⟩) dq.length cq) dq.length (dq.flatMap encR) (ho.gb gA).row ⟨w4.drew.heap.size,0,none⟩ 1 1 [.int .i64 xi,.slice ua nx uc] rfl (two_cells _ _ _ _) (by simp [Value.oneCell']) (by simp only [maxLen];omega) (by omega) (Nat.zero_le _)
 have k7:Tk.Kp (fun b=>b=gq) (w4.drew.alloc (.cells #[.int .i64 xi,.slice ua nx uc] 43)) W7:=⟨hgrow.os,hgrow.tape,hgrow.output,hgrow.size,fun k hk hn=>hgrow.block k hk (fun e=>hn (Option.some.inj e))⟩
 have k47:Tk.Kp (fun b=>b=gq) w4 W7:=(Tk.Kp.of_gr gA).trans k7
 have niq:NoInt w4 (fun b=>b=gq):=fun k e cur s hc=>ho.noint k (by rw [e];rfl) cur s hc
 obtain ⟨g7,c7,e7⟩:∃ g7 c7,v7=.slice (some ⟨g7,0,none⟩) (dq.length + 1) c7:=by
  rcases hown.2 with ⟨e,_⟩ | ⟨g',cap',cur,e,_⟩
  ·exact absurd (hnn.1 e).2 (by decide)
  ·exact ⟨_,_,e⟩
 subst e7
 have eL:(dq ++ [(xi,Value.slice ua nx uc,xl)]).length=dq.length + 1:=by simp
 have eX:(dq ++ [(xi,Value.slice ua nx uc,xl)]).flatMap encR=dq.flatMap encR ++ [.int .i64 xi,.slice ua nx uc]:=by simp
 have own7:W7.ownsRow 0 43 2 (.slice (some ⟨g7,0,none⟩) (dq ++ [(xi,Value.slice ua nx uc,xl)]).length c7) (dq ++ [(xi,Value.slice ua nx uc,xl)]).length ((dq ++ [(xi,Value.slice ua nx uc,xl)]).flatMap encR):=by rw [eL,eX];exact hown
 have F4:∀ y ∈ F1,y < w4.heap.size:=fun y hy=>Nat.lt_of_lt_of_le (h.lt y hy) k4.size
 have ht3:NoInt w3 (fun k=>k ∈ F1):=h.root.noint
 have hS7:SrcAt W7 sb:=kp_src hS4 k47 (fun e=>hgs e.symm)
 have t4:tb < w3.heap.size:=(Array.getElem?_eq_some_iff.1 h.blk).1
 have tgq:tb ≠ gq:=fun e=>a1 (e ▸ hgF)
 have tp:tb ≠ p:=fun e=>a1 (e ▸ hpF)
 have b4:=(k4.block tb t4 a1).trans h.blk
 have b7:=(k47.block tb (Nat.lt_of_lt_of_le t4 k4.size) tgq).trans b4
 have vx4:OwnQ Iq w4 (.slice ua nx uc) xl:=ownq_noint h.vec k4 ht3
 have hI:CutIn Iq W7 m (dq ++ [(xi,Value.slice ua nx uc,xl)]):=⟨fun y hy=>by
  rcases List.mem_append.1 hy with hy | hy
  ·exact ownq_noint (ho.vec y hy) k47 niq
  ·rw [List.mem_singleton.1 hy];exact ownq_noint vx4 k47 niq,by rw [List.map_append];exact hok,ho.up.le k47.size⟩
 have cP:=partsOf_c h.hm ⟨h.hlf.1,by have:=h.hlf.2;omega⟩ (dq ++ [(xi,Value.slice ua nx uc,xl)]) (rwAt_own own7).1 hI (own_cap own7) (cell_cur b7 rfl) (cell_cur b7 rfl) hS7
 rw [eL] at cP
 refine ⟨p,gq,dq.length,cq,rfl,c6,gb_keeps (gb_alloc (Below.refl _ _) _) c6,k4rx,fun i y hc=>k4.cell hc a1,_,W7,_,_,_,rfl,hr,fun i y hc=>k7.cell hc rxg,cP.mono ?_⟩
 intro e W8 hO
 obtain ⟨⟨bn,T,Fn,rfl,tt,nd,l8⟩,hS8,k8⟩:=hO.2 (by simp)
 obtain ⟨t1,t2,t3⟩:=tt (dq ++ [(xi,Value.slice ua nx uc,xl)]).length (Nat.le_refl _)
 obtain ⟨al,nl,cl,ah,nh,ch,q3,q4,ar,nr,cr,q7,q8,q9,k1,k2,hbn⟩:=rb_form t1
 have pl4:=(Array.getElem?_eq_some_iff.1 hp.blk).1
 have s47:=k47.size
 have s78:=k8.size
 have bp7:=(k47.block p pl4 hpg).trans hp.blk
 have bp8:=(k8.block p (Nat.lt_of_lt_of_le pl4 s47) hps).trans bp7
 have bnl:=l8 bn t1.mem.1
 have bnp:bn ≠ p:=by omega
 have frp:∀ i,W8.frozen? ⟨p,i,none⟩=false:=fun i=>by simp [World.frozen?,bp8]
 have kb:Tk.Kp (fun k=>k=p) W8 ((((((((((((W8.setCell ⟨p,0,none⟩ (.int .i64 3)).setCell ⟨p,1,none⟩ (.slice al nl cl)).setCell ⟨p,2,none⟩ (.slice ah nh ch)).setCell ⟨p,3,none⟩ (.int .u64 q3)).setCell ⟨p,4,none⟩ (.int .u64 q4)).setCell ⟨p,5,none⟩ (.slice none 0 0)).setCell ⟨p,6,none⟩ (.slice ar nr cr)).setCell ⟨p,7,none⟩ (.int .i64 q7)).setCell ⟨p,8,none⟩ (.int .u64 q8)).setCell ⟨p,9,none⟩ (.int .u64 q9)).setCell ⟨p,10,none⟩ (.pointer k1)).setCell ⟨p,11,none⟩ (.pointer k2)):=(((((((((((((Tk.Kp.refl (fun k=>k=p) W8).setCell (.inl rfl) _).setCell (.inl rfl) _).setCell (.inl rfl) _).setCell (.inl rfl) _).setCell (.inl rfl) _).setCell (.inl rfl) _).setCell (.inl rfl) _).setCell (.inl rfl) _).setCell (.inl rfl) _).setCell (.inl rfl) _).setCell (.inl rfl) _).setCell (.inl rfl) _)
 have hb9:((((((((((((W8.setCell ⟨p,0,none⟩ (.int .i64 3)).setCell ⟨p,1,none⟩ (.slice al nl cl)).setCell ⟨p,2,none⟩ (.slice ah nh ch)).setCell ⟨p,3,none⟩ (.int .u64 q3)).setCell ⟨p,4,none⟩ (.int .u64 q4)).setCell ⟨p,5,none⟩ (.slice none 0 0)).setCell ⟨p,6,none⟩ (.slice ar nr cr)).setCell ⟨p,7,none⟩ (.int .i64 q7)).setCell ⟨p,8,none⟩ (.int .u64 q8)).setCell ⟨p,9,none⟩ (.int .u64 q9)).setCell ⟨p,10,none⟩ (.pointer k1)).setCell ⟨p,11,none⟩ (.pointer k2)).heap[p]? = some (.cells #[.int .i64 3,.slice al nl cl,.slice ah nh ch,.int .u64 q3,.int .u64 q4,.slice none 0 0,.slice ar nr cr,.int .i64 q7,.int .u64 q8,.int .u64 q9,.pointer k1,.pointer k2] 117 (0,0)):=by
  simp [World.setCell,Array.getElem?_modify,bp8]
 have nb8:NoInt W8 (fun k=>k=p):=fun k e cur s hc=>by subst e;rw [bp8] at hc;simp at hc
 refine ⟨bn,al,nl,cl,ah,nh,ch,q3,q4,ar,nr,cr,q7,q8,q9,k1,k2,rfl,⟨cell_cur hbn rfl,cell_cur hbn rfl,cell_cur hbn rfl,cell_cur hbn rfl,cell_cur hbn rfl,cell_cur hbn rfl,cell_cur hbn rfl,cell_cur hbn rfl,cell_cur hbn rfl,cell_cur hbn rfl,cell_cur hbn rfl,cell_cur hbn rfl⟩,⟨⟨_,cell_cur bp8 rfl⟩,⟨_,cell_cur bp8 rfl⟩,⟨_,cell_cur bp8 rfl⟩,⟨_,cell_cur bp8 rfl⟩,⟨_,cell_cur bp8 rfl⟩,⟨_,cell_cur bp8 rfl⟩,⟨_,cell_cur bp8 rfl⟩,⟨_,cell_cur bp8 rfl⟩,⟨_,cell_cur bp8 rfl⟩,⟨_,cell_cur bp8 rfl⟩,⟨_,cell_cur bp8 rfl⟩,⟨_,cell_cur bp8 rfl⟩⟩,⟨frp 0,frp 1,frp 2,frp 3,frp 4,frp 5,frp 6,frp 7,frp 8,frp 9,frp 10,frp 11⟩,fun i y hc=>k8.cell hc hrs,fun i y hc=>kb.cell hc rxp,?_⟩
 have hbn9:=kb.block bn (Array.getElem?_eq_some_iff.1 hbn).1 bnp
 generalize ((((((((((((W8.setCell ⟨p,0,none⟩ (.int .i64 3)).setCell ⟨p,1,none⟩ (.slice al nl cl)).setCell ⟨p,2,none⟩ (.slice ah nh ch)).setCell ⟨p,3,none⟩ (.int .u64 q3)).setCell ⟨p,4,none⟩ (.int .u64 q4)).setCell ⟨p,5,none⟩ (.slice none 0 0)).setCell ⟨p,6,none⟩ (.slice ar nr cr)).setCell ⟨p,7,none⟩ (.int .i64 q7)).setCell ⟨p,8,none⟩ (.int .u64 q8)).setCell ⟨p,9,none⟩ (.int .u64 q9)).setCell ⟨p,10,none⟩ (.pointer k1)).setCell ⟨p,11,none⟩ (.pointer k2))=W9 at *
 have pF:p ∉ Fn:=fun e=>by have:=l8 p e;omega
 have t9:=TrO.kp kb nb8 _ _ _ t1 (fun y hy e=>pF (e ▸ hy))
 obtain ⟨T2,F2,u1,u2,u3,u4,u5⟩:=TrO.move t9 t2 (by rw [hb9,hbn9,hbn]) pF nd
 have k49:Tk.Kp (fun k=>k ∈ [p,gq] ∨ k=sb) w4 W9:=((k47.mono (fun k _ e=>.inl (by rw [e];simp))).trans (k8.mono (fun k _ e=>.inr e))).trans (kb.mono (fun k _ e=>.inl (by rw [e];simp)))
 obtain ⟨T3,F3,n3,z1,z2,z3,z4,z5⟩:=hf W9 T2 F2 _ k49 u1 u2 (by
  rw [u3]
  refine t3.trans ?_
  rw [List.map_append]
  exact (List.perm_append_comm (l₁:=dq.map rwR) (l₂:=[rwR (xi,Value.slice ua nx uc,xl)]))) u4 (fun y hy=>by
  rcases u5 y hy with e | e
  ·exact .inl (by rw [e];simp)
  ·exact .inr (by have:=l8 y e;omega))
 obtain ⟨n1,n2,n3'⟩:=h.nodup z4 z5
 have k39:Tk.Kp (fun k=>k ∈ F1 ∨ k=sb) w3 W9:=(k4.mono (fun k _ e=>.inl e)).trans (k49.mono (fun k _ e=>by
  rcases e with e | e
  ·simp only [List.mem_cons,List.not_mem_nil,or_false] at e
   rcases e with e | e
   ·exact .inl (e ▸ hpF)
   ·exact .inl (e ▸ hgF)
  ·exact .inr e))
 have ni39:NoInt w3 (fun k=>k ∈ F1 ∨ k=sb):=fun y hy cur s=>hy.elim (fun e=>ht3 y e cur s) (fun e=>h.src.noint y e cur s)
 have hS9:SrcAt W9 sb:=kp_src hS8 kb (fun e=>hps e.symm)
 refine tree_lay (g:=g) (sb:=sb) (cap:=cap) (F1':=F3) (R:=(xi,xl) :: RT) ((k39.block tb t4 (fun e=>e.elim a1 a5)).trans h.blk) (h.own.kp k39 ni39 (fun g' e e2=>by cases e;exact e2.elim a2 a6)) h.dm h.ris h.ok (.inr ⟨rb,T3,n3,rfl,z1,z2,z3⟩) ?_ n1 hS9 n2 ?_ h.hm h.hlf
 ·exact ((hR.cons _).trans (List.perm_append_singleton _ _).symm).trans (ins_perm rs (xi,xl)).symm
 ·have i1:sb ∈ F ∨ w.heap.size<=sb:=h.inF sb (by simp)
  exact ⟨k39.os.trans h.kp.os,k39.tape.trans h.kp.tape,k39.output.trans h.kp.output,Nat.le_trans h.kp.size k39.size,fun k hk hn=>by
   have q1:¬ (k ∈ F1 ∨ k=sb):=fun e=>by
    rcases e with e | e
    ·rcases h.inF k (by simp [e]) with i | i
     ·exact hn i
     ·omega
    ·rcases i1 with i | i
     ·exact hn (e ▸ i)
     ·omega
   exact (k39.block k (Nat.lt_of_lt_of_le hk h.kp.size) q1).trans (h.kp.block k hk hn)⟩
end
end Go.Proofs.YtepjbdklljlecaaGreat

namespace Go.Proofs.YtepjbdklljlecaaGreat
open Go.RowKit Go.Sort
set_option maxRecDepth 100000
set_option maxHeartbeats 2000000
theorem del_none {rs:List Rw} {id:Int} (h:hasId rs id=false):delRw rs id=rs:=by
 unfold hasId at h
 rw [List.any_eq_false] at h
 unfold delRw
 rw [List.filter_eq_self]
 intro y hy
 have:=h y hy
 simpa using this
theorem remove_no {Iq:Nat->Prop} {w:World} {tb m leaf:Nat} {rs:List Rw} {F:List Nat} (h:TreeAt Iq w tb m leaf rs F) (id:Int) (hh:hasId rs id=false) :
  Calls Tryz.prog 48 #[.pointer (some ⟨tb,0,none⟩),.int .i64 id] w fun e w'=>e=.returned (.bool false)/\Gb w w':=by
 have cF:=find_c h id
 rw [hh] at cF
 generalize plc rs id=p at *
 clear h hh
 go_enter Tryz.func48,Tryz.ntmps48
 go_wp2_with fail
 go_fit cF
 rintro e w1 ⟨rfl,g1⟩
 have G2:Hid (Gb w w1):=g1.gr
 clear cF g1
 go_wp2
 go_ret
 exact ⟨rfl,G2.out⟩
theorem remove_yes {Iq:Nat->Prop} {w:World} {tb m leaf:Nat} {rs:List Rw} {F:List Nat} (h:TreeAt Iq w tb m leaf rs F) (id:Int) (hh:hasId rs id=true) :
  Calls Tryz.prog 48 #[.pointer (some ⟨tb,0,none⟩),.int .i64 id] w fun e w'=>e=.returned (.bool true)/\TOut Iq w tb m leaf F (delRw rs id) w':=by
 have cF:=find_c h id
 rw [hh] at cF
 obtain ⟨g,cap,sb,d,rt,F1,hb,hd,hdm,hri,hok0,hrt,eF,hnd,hm,hlf,nF1,_,ltF,⟨tF,gF,sF,tg,ts,gs⟩,hS⟩:=h.open'
 obtain ⟨hp0,hp1⟩:=plc_has hri hh
 have hdl:d.length=rs.length:=by rw [<- hdm,List.length_map]
 obtain ⟨p,hp⟩:∃ p,p=plc rs id:=⟨_,rfl⟩
 simp only [<- hp] at cF hp0 hp1
 have hpd:p < d.length:=by omega
 have hpi:d[p].1=id:=by
  have:rs[p]=rwR d[p]:=by simp only [<- hdm,List.getElem_map]
  rw [this] at hp1
  exact hp1
 have xm:=List.getElem_mem hpd
 obtain ⟨q1,q2⟩:=(rwAt_own hd.row).1.rd p hpd
 rw [Nat.zero_add] at q1 q2
 have hvx:=hd.vec _ xm
 have efl:=erase_filter hpd (by
  have:=hok0.ids
  unfold idsOf at this
  rw [<- hdm,List.map_map] at this
  exact this)
 have hmem:rwR d[p] ∈ rs:=by rw [<- hdm];exact List.mem_map.2 ⟨_,xm,rfl⟩
 obtain ⟨rb,T,n,ert,ht,ok,pmr⟩:∃ rb T n,rt=.pointer (some ⟨rb,0,none⟩)/\TrO Iq w T (n + 1) rb F1/\OkP T m n (T rb)/\(rowsP T n (T rb)).Perm rs:=by
  rcases hrt with ⟨e,_⟩ | h
  ·rw [e] at hmem;cases hmem
  ·exact h
 obtain ⟨RT,hRT⟩:∃ RT,RT=rowsP T n (T rb):=⟨_,rfl⟩
 subst ert
 obtain ⟨x,hx⟩:∃ x,x=d[p]:=⟨_,rfl⟩
 rw [<- hx] at q1 q2 hvx efl hmem hpi
 obtain ⟨xi,u,xl⟩:=x
 dsimp only at hpi q1 q2 hvx efl hmem
 have hpi2:=hpi.symm
 clear hpi
 subst hpi2
 obtain ⟨ua,uc,eu,_⟩:=hvx.rd
 subst eu
 have hcx:chk xl (m:Int)=0:=(hok0.row _ hmem).2
 have tl:=(Array.getElem?_eq_some_iff.1 hb).1
 have gl:=(hd.row.lt g rfl).2
 have sl:=hS.lt
 have hfew:=hok0.few
 have hone:∀ v ∈ d.flatMap encR,v.oneCell'=true:=fun v hv=>by
  obtain ⟨y,hy,hv⟩:=List.mem_flatMap.1 hv
  simp only [List.mem_cons,List.not_mem_nil,or_false] at hv
  rcases hv with rfl | rfl
  ·rfl
  ·exact own_one (hd.vec y hy).own
 have NDF:F1.Nodup:=by rw [eF,List.nodup_cons,List.nodup_cons,List.nodup_cons] at hnd;exact hnd.2.2.2
 generalize hnx:xl.length=nx at *
 obtain ⟨d',hd'⟩:∃ d':List Rt,d'=d.eraseIdx p:=⟨_,rfl⟩
 have ld':d'.length=d.length - 1:=by rw [hd'];exact List.length_eraseIdx_of_lt hpd
 have ed':(d.flatMap encR).take (p * 2) ++ (d.flatMap encR).drop ((p + 1) * 2)=d'.flatMap encR:=by
  rw [flat_takeR,flat_dropR,hd',List.eraseIdx_eq_take_drop_succ,List.flatMap_append]
 have md':d'.map rwR=delRw rs id:=by
  rw [hd',efl,hdm];rfl
 have eaft:aft false (id,xl) rs=delRw rs id:=by unfold aft delRw;rw [if_neg (by decide)]
 have hokD:RowsOk (delRw rs id) (m:Int):=hok0.sub List.filter_sublist
 obtain ⟨nd,hnd'⟩:∃ nd,nd=d.length:=⟨_,rfl⟩
 have CD:Hid (∀ w1,Tk.Gw w w1->Calls Tryz.prog 84 #[.slice (some ⟨g,0,none⟩) nd cap,.int .i64 (p:Int),.int .i64 ((p:Int) + 1)] (w1.alloc (.cells #[.int .i64 id,.slice ua nx uc] 43)) fun e w'=>e=.returned (.slice (some ⟨g,0,none⟩) (nd - 1) cap)/\w'.ownsRow 0 43 2 (.slice (some ⟨g,0,none⟩) (nd - 1) cap) (nd - 1) (d'.flatMap encR)/\Tk.Kp (fun b=>b=g) (w1.alloc (.cells #[.int .i64 id,.slice ua nx uc] 43)) w'):=fun w1 g1=>by
  have gg:Gb w (w1.alloc (.cells #[.int .i64 id,.slice ua nx uc] 43)):=gb_alloc g1.gr _
  have:=delX_c (i:=p) (ownR_kp hd.row (kpF gg) (fun _ _ h=>h)) hpd (by omega) hone
  rw [ed',<- hnd'] at this
  exact this
 have C2:Hid (∀ w1,Tk.Gw w w1->w1.cell? ⟨tb,3,none⟩=some (.slice (some ⟨g,0,none⟩) nd cap)/\w1.cell? ⟨g,p * 2,none⟩=some (.int .i64 id)/\w1.cell? ⟨g,p * 2 + 1,none⟩=some (.slice ua nx uc)/\(w1.alloc (.cells #[.int .i64 id,.slice ua nx uc] 43)).cell? ⟨tb,3,none⟩=some (.slice (some ⟨g,0,none⟩) nd cap)):=fun w1 g1=>by
  have gg:=g1.gr
  have c:=gb_keeps gg (cell_cur (i:=3) hb rfl)
  rw [<- hnd'] at c
  exact ⟨c,gb_keeps gg q1,gb_keeps gg q2,gb_keeps (gb_alloc (Below.refl _ _) _) c⟩
 have DX:Hid (∀ w1,Tk.Gw w w1->∀ w2,w2.ownsRow 0 43 2 (.slice (some ⟨g,0,none⟩) (nd - 1) cap) (nd - 1) (d'.flatMap encR)->Tk.Kp (fun b=>b=g) (w1.alloc (.cells #[.int .i64 id,.slice ua nx uc] 43)) w2->(∃ y,w2.cell? ⟨tb,3,none⟩=some y)/\w2.frozen? ⟨tb,3,none⟩=false /\
   ((fun W=>W.cell? ⟨w1.heap.size,0,none⟩=some (.int .i64 id)/\W.cell? ⟨w1.heap.size,1,none⟩=some (.slice ua nx uc)) (w2.setCell ⟨tb,3,none⟩ (.slice (some ⟨g,0,none⟩) (nd - 1) cap)).drew)/\(w2.setCell ⟨tb,3,none⟩ (.slice (some ⟨g,0,none⟩) (nd - 1) cap)).drew.cell? ⟨tb,4,none⟩=some (.pointer (some ⟨rb,0,none⟩))/\(Calls Tryz.prog 85 #[.pointer (some ⟨tb,0,none⟩),.pointer (some ⟨rb,0,none⟩),.agg #[.int .i64 id,.slice ua nx uc]] (w2.setCell ⟨tb,3,none⟩ (.slice (some ⟨g,0,none⟩) (nd - 1) cap)).drew fun e w'=>RmOut Iq (w2.setCell ⟨tb,3,none⟩ (.slice (some ⟨g,0,none⟩) (nd - 1) cap)).drew sb m F1 (aft false (id,xl) RT) e w') /\
   Hid (∀ e w4,RmOut Iq (w2.setCell ⟨tb,3,none⟩ (.slice (some ⟨g,0,none⟩) (nd - 1) cap)).drew sb m F1 (aft false (id,xl) RT) e w4->∃ pv,e=.returned (.pointer pv)/\Hid (TOut Iq w tb m leaf F (delRw rs id) (w4.setCell ⟨tb,4,none⟩ (.pointer pv))) /\
    (((fun W=>W.cell? ⟨w1.heap.size,0,none⟩=some (.int .i64 id)/\W.cell? ⟨w1.heap.size,1,none⟩=some (.slice ua nx uc)) (w2.setCell ⟨tb,3,none⟩ (.slice (some ⟨g,0,none⟩) (nd - 1) cap)).drew->(fun W=>W.cell? ⟨w1.heap.size,0,none⟩=some (.int .i64 id)/\W.cell? ⟨w1.heap.size,1,none⟩=some (.slice ua nx uc)) w4)/\((fun W=>W.cell? ⟨w1.heap.size,0,none⟩=some (.int .i64 id)/\W.cell? ⟨w1.heap.size,1,none⟩=some (.slice ua nx uc)) w4->(fun W=>W.cell? ⟨w1.heap.size,0,none⟩=some (.int .i64 id)/\W.cell? ⟨w1.heap.size,1,none⟩=some (.slice ua nx uc)) (w4.setCell ⟨tb,4,none⟩ (.pointer pv)))) /\
    (∃ y,w4.cell? ⟨tb,4,none⟩=some y)/\w4.frozen? ⟨tb,4,none⟩=false)):=by
  intro w1 g1 w2 ho hk
  subst hnd'
  have sw1:=g1.gr.size
  have gg:Gb w (w1.alloc (.cells #[.int .i64 id,.slice ua nx uc] 43)):=gb_alloc g1.gr _
  have k0:Tk.Kp (fun k=>k=g) w w2:=(Tk.Kp.of_gr gg).trans hk
  have ni0:NoInt w (fun k=>k=g):=fun k e cur s hc=>hd.noint k (by rw [e];rfl) cur s hc
  have s2:=k0.size
  have sk:=hk.size
  rw [World.size_alloc] at sk
  have hb2:w2.heap[tb]? = some (.cells #[.int .i64 (m:Int),.int .i64 (leaf:Int),.pointer (some ⟨sb,0,none⟩),.slice (some ⟨g,0,none⟩) d.length cap,.pointer (some ⟨rb,0,none⟩)] 84 (0,0)):=by rw [k0.block tb tl tg];exact hb
  have own2:OwnRs Iq w2 (.slice (some ⟨g,0,none⟩) (d.length - 1) cap) d':=⟨by rw [ld'];exact ho,fun y hy=>ownq_noint (hd.vec y (by rw [hd'] at hy;exact List.mem_of_mem_eraseIdx hy)) k0 ni0,hd.up.le k0.size⟩
  have hb3:(w2.setCell ⟨tb,3,none⟩ (.slice (some ⟨g,0,none⟩) (d.length - 1) cap)).drew.heap[tb]? = some (.cells #[.int .i64 (m:Int),.int .i64 (leaf:Int),.pointer (some ⟨sb,0,none⟩),.slice (some ⟨g,0,none⟩) (d.length - 1) cap,.pointer (some ⟨rb,0,none⟩)] 84 (0,0)):=by
   show (w2.setCell ⟨tb,3,none⟩ (.slice (some ⟨g,0,none⟩) (d.length - 1) cap)).heap[tb]? = _
   simp [World.setCell,Array.getElem?_modify,hb2]
  have nb2:NoInt w2 (fun k=>k=tb):=fun k e cur s hc=>by subst e;rw [hb2] at hc;simp at hc
  have k3:Tk.Kp (fun k=>k=tb) w2 (w2.setCell ⟨tb,3,none⟩ (.slice (some ⟨g,0,none⟩) (d.length - 1) cap)).drew:=by
   have:=(Tk.Kp.refl (fun k=>k=tb) w2).setCell (.inl rfl) (p:=⟨tb,3,none⟩) (.slice (some ⟨g,0,none⟩) (d.length - 1) cap)
   exact ⟨this.os,this.tape,this.output,this.size,this.block⟩
  have k03:Tk.Kp (fun k=>k=g ∨ k=tb) w (w2.setCell ⟨tb,3,none⟩ (.slice (some ⟨g,0,none⟩) (d.length - 1) cap)).drew:=(k0.mono (fun k _ h=>.inl h)).trans (k3.mono (fun k _ h=>.inr h))
  have ni:NoInt w (fun k=>k=g ∨ k=tb):=fun k e cur s hc=>by
   rcases e with e | e
   ·exact hd.noint k (by rw [e];rfl) cur s hc
   ·subst e;rw [hb] at hc;simp at hc
  have ht3:=TrO.kp k03 ni _ _ _ ht (fun x hx e=>by rcases e with e | e;exact gF (e ▸ hx);exact tF (e ▸ hx))
  have own3:=own2.kp k3 nb2 (fun g e hg=>by cases e;exact tg hg.symm)
  have hS3:SrcAt (w2.setCell ⟨tb,3,none⟩ (.slice (some ⟨g,0,none⟩) (d.length - 1) cap)).drew sb:=kp_src hS k03 (fun e=>e.elim (fun e=>gs e.symm) (fun e=>ts e.symm))
  have c3:∀ b i y,w.heap.size<=b->(w1.alloc (.cells #[.int .i64 id,.slice ua nx uc] 43)).cell? ⟨b,i,none⟩=some y->(w2.setCell ⟨tb,3,none⟩ (.slice (some ⟨g,0,none⟩) (d.length - 1) cap)).drew.cell? ⟨b,i,none⟩=some y:=fun b i y hb hc=>k3.cell (hk.cell hc (by intro e;dsimp only at e;omega)) (by intro e;dsimp only at e;omega)
  have r0:=c3 w1.heap.size 0 (.int .i64 id) (by omega) (by simp [go_sem])
  have r1:=c3 w1.heap.size 1 (.slice ua nx uc) (by omega) (by simp [go_sem])
  have cM:=without_c (x:=(id,.slice ua nx uc,xl)) hm hlf hcx n _ rb F1 T ht3 ok NDF tF sF (cell_cur hb3 rfl) (cell_cur hb3 rfl) hS3 (ownq_noint hvx k03 ni) (pmr.mem_iff.2 hmem) (hok0.perm pmr.symm)
  rw [<- hRT] at cM
  refine ⟨⟨_,cell_cur hb2 rfl⟩,by simp [World.frozen?,hb2],⟨r0,r1⟩,cell_cur hb3 rfl,cM,?_⟩
  intro e w4 hO
  have k4:=hO.1
  have hS4:=hO.2.1
  obtain ⟨pv,F1',rfl,hrt4,nd4,l4⟩:=rt_out hO (R':=delRw rs id) (by rw [<- eaft,hRT];exact aft_perm pmr)
  have tl3:=(Array.getElem?_eq_some_iff.1 hb3).1
  have tn:¬ (tb ∈ F1 ∨ tb=sb):=fun e=>e.elim tF ts
  have hb4:w4.heap[tb]? = some (.cells #[.int .i64 (m:Int),.int .i64 (leaf:Int),.pointer (some ⟨sb,0,none⟩),.slice (some ⟨g,0,none⟩) (d.length - 1) cap,.pointer (some ⟨rb,0,none⟩)] 84 (0,0)):=by rw [k4.block tb tl3 tn];exact hb3
  have s3:=k03.size
  have s4:=k4.size
  have kb:Tk.Kp (fun k=>k=tb) w4 (w4.setCell ⟨tb,4,none⟩ (.pointer pv)):=(Tk.Kp.refl (fun k=>k=tb) w4).setCell (.inl rfl) _
  have nb4:NoInt w4 (fun k=>k=tb):=fun k e cur s hc=>by subst e;rw [hb4] at hc;simp at hc
  have hb5:(w4.setCell ⟨tb,4,none⟩ (.pointer pv)).heap[tb]? = some (.cells #[.int .i64 (m:Int),.int .i64 (leaf:Int),.pointer (some ⟨sb,0,none⟩),.slice (some ⟨g,0,none⟩) d'.length cap,.pointer pv] 84 (0,0)):=by simp [World.setCell,Array.getElem?_modify,hb4,ld']
  have ni3:NoInt (w2.setCell ⟨tb,3,none⟩ (.slice (some ⟨g,0,none⟩) (d.length - 1) cap)).drew (fun k=>k ∈ F1 ∨ k=sb):=fun y hy cur s=>hy.elim (fun e=>ht3.noint y e cur s) (fun e=>hS3.noint y e cur s)
  have own5:=(own3.kp k4 ni3 (fun g' e hg=>by cases e;exact hg.elim gF gs)).kp kb nb4 (fun g' e hg=>by cases e;exact tg hg.symm)
  rw [<- ld'] at own5
  have hn4:∀ y,y ∈ F1'->y ≠ tb/\y ≠ g/\y ≠ sb:=fun y hy=>by
   rcases l4 y hy with h | h
   ·exact ⟨fun e=>tF (e ▸ h),fun e=>gF (e ▸ h),fun e=>sF (e ▸ h)⟩
   ·have:w.heap.size<=y:=by omega
    exact ⟨by omega,by omega,by omega⟩
  refine ⟨pv,rfl,?_,⟨fun a=>⟨?_,?_⟩,fun a=>⟨?_,?_⟩⟩,⟨_,cell_cur hb4 rfl⟩,by simp [World.frozen?,hb4]⟩
  ·refine tree_lay (F1':=F1') hb5 own5 md' (del_ris id hri) hokD (hrt4.kp kb nb4 (fun y hy=>(hn4 y hy).1)) (List.Perm.refl _) ?_ (kp_src hS4 kb (fun e=>ts e.symm)) ?_ ?_ hm hlf
   ·rw [List.nodup_cons,List.nodup_cons,List.nodup_cons]
    refine ⟨fun e=>?_,fun e=>?_,fun e=>(hn4 sb e).2.2 rfl,nd4⟩
    ·simp only [List.mem_cons] at e
     rcases e with e | e | e
     ·exact tg e
     ·exact ts e
     ·exact (hn4 tb e).1 rfl
    ·simp only [List.mem_cons] at e
     rcases e with e | e
     ·exact gs e
     ·exact (hn4 g e).2.1 rfl
   ·intro y hy
    simp only [List.mem_cons] at hy
    rw [eF]
    rcases hy with e | e | e | e
    ·exact .inl (by simp [e])
    ·exact .inl (by simp [e])
    ·exact .inl (by simp [e])
    ·rcases l4 y e with h | h
     ·exact .inl (by simp [h])
     ·exact .inr (by omega)
   ·rw [eF]
    exact ((k03.mono (fun k _ h=>by rcases h with h | h <;> rw [h] <;> simp)).trans (k4.mono (fun k _ h=>by rcases h with h | h;exact (by simp [h]);rw [h];simp))).trans (kb.mono (fun k _ h=>by rw [h];simp))
  ·exact k4.cell a.1 (fun e=>e.elim (fun e=>by have:=ltF _ e;dsimp only at this;omega) (fun e=>by dsimp only at e;omega))
  ·exact k4.cell a.2 (fun e=>e.elim (fun e=>by have:=ltF _ e;dsimp only at this;omega) (fun e=>by dsimp only at e;omega))
  ·exact kb.cell a.1 (by intro e;dsimp only at e;omega)
  ·exact kb.cell a.2 (by intro e;dsimp only at e;omega)
 have hpn:(p:Int) < (nd:Int):=by omega
 have hp63:(p:Int) + 1<=9223372036854775807:=by omega
 have hn5:nd<=512:=by omega
 clear h hb hd hdm hri hok0 hrt hnd nF1 ltF tF gF sF tg ts gs hdl hone NDF hfew hokD ed' ld' md' hd' hp hvx efl hmem hpd hx xm q1 q2 hp0 hp1 tl gl sl eaft hh hnx hnd' hS ht ok pmr hcx hRT hm hlf
 go_enter Tryz.func48,Tryz.ntmps48
 go_wp2_with fail
 go_fit cF
 rintro e w1 ⟨rfl,g1⟩
 obtain ⟨l2,q1,q2,l2a⟩:=C2.out _ g1
 have cD:=CD.out _ g1
 have DD:Hid _:=DX.out _ g1
 clear cF g1 C2 CD DX
 go_wp2_with fail
 go_fit cD
 rintro e w2 ⟨rfl,ho,hk⟩
 obtain ⟨⟨y2,k2⟩,f2,FS6,root3,cM,FIN⟩:=DD.out _ ho hk
 clear cD ho hk DD
 go_wp2_with fail
 refine wp_region_held_drew (S:=fun W=>W.cell? ⟨w1.heap.size,0,none⟩=some (.int .i64 id)/\W.cell? ⟨w1.heap.size,1,none⟩=some (.slice ua nx uc)) (by kernel_rfl) (FS6) (fun hHeld=>?_)
 refine tkn 0 ?_ rfl ?_ ?_;rotate_left;·(rintro w ⟨s0,s1⟩;go_simp;try rfl)
 refine tkn 1 ?_ rfl ?_ ?_;rotate_left;·(rintro w ⟨s0,s1⟩;go_simp;try rfl)
 refine tkn 2 ?_ rfl ?_ ?_;rotate_left;·(rintro w ⟨s0,s1⟩;go_simp;try rfl)
 refine tkn 3 ?_ rfl ?_ ?_;rotate_left;·(rintro w ⟨s0,s1⟩;go_simp;try rfl)
 refine tkn 4 ?_ rfl ?_ ?_;rotate_left;·(rintro w ⟨s0,s1⟩;go_simp;try rfl)
 refine tkn 6 ?_ rfl ?_ ?_;rotate_left;·(rintro w ⟨s0,s1⟩;go_simp;try rfl)
 refine rdn 5 rfl (fun K hK=>?_)
 go_simp
 refine hK.out _ _ (⟨hHeld.1,hHeld.2⟩) (fun hHeld=>?_)
 clear hK K
 refine rdn 7 rfl (fun K hK=>?_)
 go_simp
 go_fit cM
 rintro e w4 hO
 obtain ⟨pv',rfl,FF,KS,⟨y3,k3⟩,f3⟩:=FIN.out _ _ hO
 clear hO cM FIN
 refine hK.out _ _ (KS.1 hHeld) (fun hHeld=>?_)
 clear hK K
 refine tkn 8 ?_ rfl ?_ ?_;rotate_left;·(rintro w ⟨s0,s1⟩;go_simp;try rfl)
 refine tkn 9 ?_ rfl ?_ ?_;rotate_left;·(rintro w ⟨s0,s1⟩;go_simp;try rfl)
 refine rdn 10 rfl (fun K hK=>?_)
 go_simp
 refine hK.out _ _ (KS.2 hHeld) (fun hHeld=>?_)
 clear hK K
 refine wpAnyH_done (by kernel_rfl) ?_ _
 clear hHeld KS FS6
 go_wp2
 go_ret
 exact ⟨rfl,FF.out⟩
theorem remove_c {Iq:Nat->Prop} {w:World} {tb m leaf:Nat} {rs:List Rw} {F:List Nat} (h:TreeAt Iq w tb m leaf rs F) (id:Int) :
  Calls Tryz.prog 48 #[.pointer (some ⟨tb,0,none⟩),.int .i64 id] w fun e w'=>e=.returned (.bool (hasId rs id))/\TOut Iq w tb m leaf F (delRw rs id) w':=by
 cases hh:hasId rs id with
 | true=>exact remove_yes h id hh
 | false =>
  refine (remove_no h id hh).mono ?_
  rintro e w' ⟨rfl,g⟩
  rw [del_none hh]
  exact ⟨rfl,F,h.gb g,fun y hy=>.inl hy,Tk.Kp.of_gr g⟩
theorem delete_c {Iq:Nat->Prop} {w:World} {tb m leaf:Nat} {rs:List Rw} {F:List Nat} (h:TreeAt Iq w tb m leaf rs F) (id:Int) :
  Calls Tryz.prog 26 #[.pointer (some ⟨tb,0,none⟩),.int .i64 id] w fun e w'=>e=.returned (.tuple #[.bool (hasId rs id),.int .i64 0])/\TOut Iq w tb m leaf F (delRw rs id) w':=by
 have cR:=remove_c h id
 clear h
 generalize hasId rs id=hb at *
 go_enter Tryz.func26,Tryz.ntmps26
 go_wp2_with fail
 go_fit cR
 rintro e w1 ⟨rfl,hO⟩
 have H:Hid _:=hO
 clear hO cR
 go_wp2
 refine bodyPost_ret (v:=.tuple #[.bool hb,.int .i64 0]) (by simp [results,Tryz.results26,go_sem]) rfl ?_
 exact ⟨rfl,H.out⟩
end Go.Proofs.YtepjbdklljlecaaGreat
