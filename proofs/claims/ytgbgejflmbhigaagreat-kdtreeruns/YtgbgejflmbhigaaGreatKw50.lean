import Derived.Test.YtgbgejflmbhigaaGreatKw16
import Derived.Test.YtgbgejflmbhigaaGreatKw49
import Derived.Test.YtgbgejflmbhigaaGreatKw33
import Derived.Test.YtgbgejflmbhigaaGreatKw44
namespace Go.Proofs.YtgbgejflmbhigaaGreat
open Go.ChangeShapes Go.WideShapes Go.ChangeAt Go.RowKit Go.Joins Go.Deep
set_option maxRecDepth 100000
theorem Tryz.cellsHow:Tryz.prog.cellsOf 25=3:=by kernel_rfl
theorem open_how {H:Type} {enc:TypeId × Value->H} {W:World} {b0:Nat} {r:Reach} {v:Value} {d:DataW H} {p:List MemPlace}
  (hv':Value.okWide Tryz.prog W r b0 25 v) (h:DataW.Trod enc Tryz.prog W 0 (fun _=>true) true 25 v d p) :
  ∃ A B S:Int,v=.agg #[.int .i64 A,.int .i64 B,.int .u64 S]:=by
 obtain ⟨cs,rfl,hsz⟩:=okWide_struct Tryz.underlying25 hv'
 obtain ⟨fuel,hf⟩:=h
 obtain ⟨l⟩:=cs
 simp only [Value.cells] at hf
 obtain ⟨xs,n,_,_,hl,hlen,hf⟩:=DataW.trod_struct Tryz.underlying25 hf
 rw [Tryz.cellsHow] at hl
 match xs,hlen,l,hl with
 | [y0,y1,y2],_,[c0,c1,c2],_ =>
  obtain ⟨a0,e0,_⟩:=DataW.trod_int Tryz.underlying3 (by simpa using hf 0 _ rfl)
  obtain ⟨a1,e1,_⟩:=DataW.trod_int Tryz.underlying3 (by simpa using hf 1 _ rfl)
  obtain ⟨a2,e2,_⟩:=DataW.trod_int Tryz.underlying23 (by simpa using hf 2 _ rfl)
  simp [Tryz.cells3,Tryz.cells23] at e0 e1 e2
  subst e0 e1 e2
  exact ⟨a0,a1,a2,rfl⟩
theorem Tryz.cellsOp:Tryz.prog.cellsOf 41=7:=by kernel_rfl
end Go.Proofs.YtgbgejflmbhigaaGreat

namespace Go.Proofs.YtgbgejflmbhigaaGreat
open Go.ChangeShapes Go.WideShapes Go.ChangeAt Go.RowKit Go.Joins Go.Deep
set_option maxRecDepth 100000
theorem trod_struct6z {H:Type} {enc:TypeId × Value->H} {w:World} {base:Nat} {spare:Nat->Bool} {held:Bool} {t:TypeId} {f0 f1 f2 f3 f4 f5:Field} {fuel:Nat} {cs:List Value} {x:DataW H × List MemPlace} (ht:Tryz.prog.underlying t=some (.struct #[f0,f1,f2,f3,f4,f5])) (h:DataW.trod enc Tryz.prog w base spare held fuel t cs=some x) :
  ∃ y0 y1 y2 y3 y4 y5 n,cs.length=Tryz.prog.cellsOf t/\x.1=.agg [y0.1,y1.1,y2.1,y3.1,y4.1,y5.1]/\DataW.trod enc Tryz.prog w base spare held n f0.type ((cs.drop f0.offset).take (Tryz.prog.cellsOf f0.type))=some y0 /\
   DataW.trod enc Tryz.prog w base spare held n f1.type ((cs.drop f1.offset).take (Tryz.prog.cellsOf f1.type))=some y1/\DataW.trod enc Tryz.prog w base spare held n f2.type ((cs.drop f2.offset).take (Tryz.prog.cellsOf f2.type))=some y2 /\
   DataW.trod enc Tryz.prog w base spare held n f3.type ((cs.drop f3.offset).take (Tryz.prog.cellsOf f3.type))=some y3/\DataW.trod enc Tryz.prog w base spare held n f4.type ((cs.drop f4.offset).take (Tryz.prog.cellsOf f4.type))=some y4 /\
   DataW.trod enc Tryz.prog w base spare held n f5.type ((cs.drop f5.offset).take (Tryz.prog.cellsOf f5.type))=some y5:=by
 obtain ⟨xs,n,_,e,hl,hlen,hf⟩:=DataW.trod_struct ht h
 match xs,hlen,e with
 | [y0,y1,y2,y3,y4,y5],_,e=>exact ⟨y0,y1,y2,y3,y4,y5,n,hl,by rw [e];simp,by simpa using hf 0 f0 rfl,by simpa using hf 1 f1 rfl,by simpa using hf 2 f2 rfl,by simpa using hf 3 f3 rfl,by simpa using hf 4 f4 rfl,by simpa using hf 5 f5 rfl⟩
theorem open_ops_sz {H:Type} {enc:TypeId × Value->H} {W:World} {b0:Nat} {r:Reach} {v:Value} {d:DataW H} {p:List MemPlace}
  (hv':Value.okWide Tryz.prog W r b0 26 v) (h:DataW.Trod enc Tryz.prog W 0 (fun _=>true) true 26 v d p) (hw:∀ n ∈ d.weights Tryz.prog 26,n<=reachBytes) :
  ∃ ops:List Opv,RdO W v ops/\ops.length<=maxLen/\∀ i,i < ops.length->ops[i]!.2.1.2.length<=reachBytes/\ops[i]!.2.2.length<=reachBytes:=by
 obtain ⟨a0,len,cap,rfl⟩:=okWide_slice Tryz.underlying26 hv'
 obtain ⟨fuel,hf⟩:=h
 rcases open_slice Tryz.underlying26 (by simpa [Value.cells] using hf) with ⟨e,_⟩ | ⟨a,len,cap,m,n,D,Pl,e,_,hlc,hcm,hm,hD,hx⟩
 ·cases e
  exact ⟨[],rdo_nil W,Nat.zero_le _,fun i hi=>absurd hi (Nat.not_lt_zero _)⟩
 ·cases e
  rw [if_pos rfl] at hm
  subst hm
  have hd:d=.slice ((List.range len).map D) ((List.range (m - len)).map fun j=>D (len + j)):=congrArg Prod.fst hD
  subst hd
  have hy:∀ i,i < len->∃ y:Opv,(∃ rv qv,(W.cell? (a.add (i * 7))=some (.int .i64 y.1.1)/\W.cell? ((a.add (i * 7)).add 1)=some (.int .i64 y.1.2.1)/\W.cell? ((a.add (i * 7)).add 2)=some (.int .i64 y.1.2.2.1)/\W.cell? ((a.add (i * 7)).add 3)=some (.int .i64 y.1.2.2.2)/\W.cell? ((a.add (i * 7)).add 4)=some (.int .i64 y.2.1.1)/\W.cell? ((a.add (i * 7)).add 5)=some rv/\W.cell? ((a.add (i * 7)).add 6)=some qv)/\RdI W rv y.2.1.2/\RdI W qv y.2.2)/\y.2.1.2.length<=reachBytes/\y.2.2.length<=reachBytes:=by
   intro i hi
   obtain ⟨cs,hc,ht⟩:=hx i (by omega)
   obtain ⟨y0,y1,y2,y3,y4,y5,k,hl,hagg,k0,k1,k2,k3,k4,k5⟩:=trod_struct6z Tryz.underlying41 ht
   rw [Tryz.cellsOp] at hl hc
   match cs,hl with
   | [c0,c1,c2,c3,c4,c5,c6],_ =>
    obtain ⟨z0,z1,m',hz,hl1,j0,j1⟩:=trod_struct2 Tryz.underlying39 k4
    obtain ⟨a0,e0,_⟩:=DataW.trod_int Tryz.underlying3 k0
    obtain ⟨a1,e1,_⟩:=DataW.trod_int Tryz.underlying3 k1
    obtain ⟨a2,e2,_⟩:=DataW.trod_int Tryz.underlying3 k2
    obtain ⟨a3,e3,_⟩:=DataW.trod_int Tryz.underlying3 k3
    obtain ⟨a4,e4,_⟩:=DataW.trod_int Tryz.underlying3 j0
    obtain ⟨rv,rl,e5,hr,_⟩:=trod22 j1
    obtain ⟨qv,ql,e6,hq,_⟩:=trod22 k5
    have j2:=j1
    rw [e5] at j2
    have k6:=k5
    rw [e6] at k6
    simp [Tryz.cells3,Tryz.cells37,Tryz.cells39] at e0 e1 e2 e3 e4 e5 e6
    subst e0 e1 e2 e3 e4 e5 e6
    obtain ⟨_,_,hcc⟩:=World.cells?_some hc
    have q0:=hcc 0 (by omega)
    have q1:=hcc 1 (by omega)
    have q2:=hcc 2 (by omega)
    have q3:=hcc 3 (by omega)
    have q4:=hcc 4 (by omega)
    have q5:=hcc 5 (by omega)
    have q6:=hcc 6 (by omega)
    have hD':D i=.agg [y0.1,y1.1,y2.1,y3.1,y4.1,y5.1]:=hagg
    have up:∀ n,n ∈ (D i).weights Tryz.prog 41->n<=reachBytes:=fun n hn=>hw n (by
     simp only [DataW.weights,Tryz.underlying26,List.mem_cons,List.mem_append]
     exact .inr (.inl (weights_in (d:=D i) (List.mem_map.2 ⟨i,List.mem_range.2 hi,rfl⟩) n hn)))
    have hz':y4.1=.agg [z0.1,z1.1]:=congrArg Prod.fst hz
    refine ⟨((a0,a1,a2,a3),(a4,rl),ql),⟨_,_,⟨by simpa [Addr.add] using q0,by simpa using q1,by simpa using q2,by simpa using q3,by simpa using q4,by simpa using q5,by simpa using q6⟩,hr,hq⟩,trodI_sz j2 hr (fun n hn=>up n ?_),trodI_sz k6 hq (fun n hn=>up n ?_)⟩
    ·rw [hD',hz']
     simp only [DataW.weights,Tryz.underlying41,Tryz.underlying39,List.map_cons,List.map_nil,DataW.weightsEach,List.mem_append]
     exact .inr (.inr (.inr (.inr (.inl (.inr (.inl hn))))))
    ·rw [hD']
     simp only [DataW.weights,Tryz.underlying41,List.map_cons,List.map_nil,DataW.weightsEach,List.mem_append]
     exact .inr (.inr (.inr (.inr (.inr (.inl hn)))))
  obtain ⟨Y,hY⟩:=choose_lt (α:=Opv) (p:=fun i y=>(∃ rv qv,(W.cell? (a.add (i * 7))=some (.int .i64 y.1.1)/\W.cell? ((a.add (i * 7)).add 1)=some (.int .i64 y.1.2.1)/\W.cell? ((a.add (i * 7)).add 2)=some (.int .i64 y.1.2.2.1)/\W.cell? ((a.add (i * 7)).add 3)=some (.int .i64 y.1.2.2.2)/\W.cell? ((a.add (i * 7)).add 4)=some (.int .i64 y.2.1.1)/\W.cell? ((a.add (i * 7)).add 5)=some rv/\W.cell? ((a.add (i * 7)).add 6)=some qv)/\RdI W rv y.2.1.2/\RdI W qv y.2.2)/\y.2.1.2.length<=reachBytes/\y.2.2.length<=reachBytes) hy
  have hg:∀ i,i < len->((List.range len).map Y)[i]! = Y i:=by
   intro i hi
   rw [getElem!_pos _ i (by simpa using hi)];simp
  refine ⟨(List.range len).map Y,⟨some a,m,by simp,fun i hi=>?_⟩,by simp;omega,fun i hi=>?_⟩
  ·have hi':i < len:=by simpa using hi
   obtain ⟨⟨_,_,⟨q0,_⟩,_⟩,_⟩:=hY 0 (by omega)
   have ha:a=⟨a.block,a.off,none⟩:=spot_none (by simpa [Addr.add] using q0)
   obtain ⟨⟨rv,qv,⟨c0,c1,c2,c3,c4,c5,c6⟩,h1,h2⟩,_⟩:=hY i hi'
   rw [hg i hi']
   rw [ha,Addr.add_lit] at c0
   rw [ha,Addr.add_lit,Addr.add_lit] at c1 c2 c3 c4 c5 c6
   exact ⟨a.block,a.off,rv,qv,by rw [<- ha],⟨c0,c1,c2,c3,c4,c5,c6⟩,h1,h2⟩
  ·have hi':i < len:=by simpa using hi
   rw [hg i hi']
   exact (hY i hi').2
end Go.Proofs.YtgbgejflmbhigaaGreat

namespace Go.Proofs.YtgbgejflmbhigaaGreat
open Go.RowKit Go.Sort
def TrW (Iq:Nat->Prop) (w0:World) (tb m leaf:Nat) (rs:List Rw) (W:World):Prop:=∃ F,TreeAt Iq W tb m leaf rs F/\(∀ x ∈ F,w0.heap.size<=x)/\Gb w0 W
theorem TrW.gb {Iq:Nat->Prop} {w0 W W':World} {tb m leaf:Nat} {rs:List Rw} (h:TrW Iq w0 tb m leaf rs W) (g:Gb W W'):TrW Iq w0 tb m leaf rs W':=by
 obtain ⟨F,t,hF,g0⟩:=h
 exact ⟨F,t.gb g,hF,gb_trans g0 g⟩
theorem TrW.old {Iq:Nat->Prop} {w0 W:World} {tb m leaf:Nat} {rs:List Rw} (h:TrW Iq w0 tb m leaf rs W):Gb w0 W:=by
 obtain ⟨_,_,_,g⟩:=h
 exact g
theorem TrW.out {Iq:Nat->Prop} {w0 W W':World} {tb m leaf:Nat} {rs':List Rw} {F:List Nat} (hF:∀ x ∈ F,w0.heap.size<=x) (g:Gb w0 W) (h:TOut Iq W tb m leaf F rs' W'):TrW Iq w0 tb m leaf rs' W':=by
 obtain ⟨F',t,l,k⟩:=h
 have s:=g.size
 refine ⟨F',t,fun x hx=>?_,g.trans (k.gr s hF)⟩
 rcases l x hx with h | h
 ·exact hF x h
 ·omega
theorem trw_of {Iq:Nat->Prop} {w W:World} {m leaf:Nat} {rs:List Rw} {e:Ending} (h:TreeOut Iq w m leaf rs e W):∃ tb rs',e=.returned (.tuple #[.pointer (some ⟨tb,0,none⟩),.int .i64 0])/\TrW Iq w tb m leaf rs' W/\rs'.Perm rs/\Ris rs':=by
 obtain ⟨tb,rs',F,e1,t,p,g,hF⟩:=h
 exact ⟨tb,rs',e1,⟨F,t,hF,g⟩,p,t.ris⟩
end Go.Proofs.YtgbgejflmbhigaaGreat

namespace Go.Proofs.YtgbgejflmbhigaaGreat
open Go.RowKit Go.Sort
theorem TreeAt.kq {Iq S:Nat->Prop} {w w':World} {tb m leaf:Nat} {rs:List Rw} {F:List Nat} (h:TreeAt Iq w tb m leaf rs F) (k:Tk.Kp S w w') (hS:NoI Iq w S) (hF:∀ x ∈ F,¬ S x):TreeAt Iq w' tb m leaf rs F:=by
 obtain ⟨g,cap,d,rt,F1,h1,h2,h3,h4,h5,h6,rfl,h8⟩:=h
 refine ⟨g,cap,d,rt,F1,?_,h2.kq k hS (fun g' e=>by cases e;exact hF g (by simp)),h3,h4,h5,?_,rfl,h8⟩
 ·rw [k.block tb (Array.getElem?_eq_some_iff.1 h1).1 (hF tb (by simp))];exact h1
 ·rcases h6 with h | ⟨b,T,e1,e2,t⟩
  ·exact .inl h
  ·exact .inr ⟨b,T,e1,e2,fun N hN=>⟨TrO.kq k hS _ _ _ (t N hN).1 (fun x hx=>hF x (by simp [hx])),(t N hN).2⟩⟩
theorem OwnQ.wk {Iq Iq':Nat->Prop} {w:World} {v:Value} {l:List Int} (h:OwnQ Iq w v l) (hi:∀ k,k < w.heap.size->Iq k->Iq' k):OwnQ Iq' w v l:=⟨h.own,fun g e=>hi g (World.ownsRow.lt h.own g e).2 (h.inn g e)⟩
theorem OwnRs.wk {Iq Iq':Nat->Prop} {w:World} {v:Value} {d:List Rt} (h:OwnRs Iq w v d) (hi:∀ k,k < w.heap.size->Iq k->Iq' k) (up:Up Iq' w):OwnRs Iq' w v d:=⟨h.row,fun x hx=>(h.vec x hx).wk hi,up⟩
theorem PcAt.wk {Iq Iq':Nat->Prop} {w:World} {b:Nat} {p:Pt} {vl vh vr:Value} (h:PcAt Iq w b p vl vh vr) (hi:∀ k,k < w.heap.size->Iq k->Iq' k) (up:Up Iq' w):PcAt Iq' w b p vl vh vr:=⟨h.blk,h.low.wk hi,h.high.wk hi,up⟩
theorem TrO.wk {Iq Iq':Nat->Prop} {w:World} {T:Nat->Pt} (hi:∀ k,k < w.heap.size->Iq k->Iq' k) (up:Up Iq' w):∀ n b F,TrO Iq w T n b F->TrO Iq' w T n b F
 | 0,_,_,h=>h
 | n + 1,b,F,h=>by
  obtain ⟨vl,vh,vr,hp,h⟩:=h
  refine ⟨vl,vh,vr,hp.wk hi up,?_⟩
  cases hk:(T b).kids with
  | none =>
   rw [hk] at h
   obtain ⟨d,g,h1,h2,h3,rfl⟩:=h
   exact ⟨d,g,h1.wk hi up,h2,h3,rfl⟩
  | some lh =>
   obtain ⟨l,hh⟩:=lh
   rw [hk] at h
   obtain ⟨h0,F1,F2,h1,h2,rfl⟩:=h
   exact ⟨h0,F1,F2,TrO.wk hi up n l F1 h1,TrO.wk hi up n hh F2 h2,rfl⟩
theorem TreeAt.wk {Iq Iq':Nat->Prop} {w:World} {tb m leaf:Nat} {rs:List Rw} {F:List Nat} (h:TreeAt Iq w tb m leaf rs F) (hi:∀ k,k < w.heap.size->Iq k->Iq' k) (up:Up Iq' w):TreeAt Iq' w tb m leaf rs F:=by
 obtain ⟨g,cap,d,rt,F1,h1,h2,h3,h4,h5,h6,rfl,h8⟩:=h
 refine ⟨g,cap,d,rt,F1,h1,h2.wk hi up,h3,h4,h5,?_,rfl,h8⟩
 rcases h6 with h | ⟨b,T,e1,e2,t⟩
 ·exact .inl h
 ·exact .inr ⟨b,T,e1,e2,fun N hN=>⟨TrO.wk hi up _ _ _ (t N hN).1,(t N hN).2⟩⟩
theorem TreeAt.mid {B T:Nat} {w w':World} {tb m leaf:Nat} {rs:List Rw} {F:List Nat} (h:TreeAt (fun k=>T<=k) w tb m leaf rs F) (k:Mid B T w w') (hF:∀ x ∈ F,T<=x):TreeAt (fun k=>T<=k) w' tb m leaf rs F:=by
 refine h.kq (S:=fun k=>B<=k/\k < T) ⟨k.os,k.tape,k.output,k.size,fun j hj hn=>k.block j hj (by omega)⟩ (NoI.off fun j hj=>by omega) (fun x hx hs=>?_)
 have:=hF x hx
 omega
theorem TreeAt.one {L:Nat} {w w':World} {tb m leaf:Nat} {rs:List Rw} {F:List Nat} (h:TreeAt (fun k=>k ≠ L) w tb m leaf rs F) (k:w.grownBy w' (some L)) (hF:L ∉ F):TreeAt (fun k=>k ≠ L) w' tb m leaf rs F :=
 h.kq (S:=fun k=>k=L) ⟨k.os,k.tape,k.output,k.size,fun j hj hn=>k.block j hj (by simpa using hn)⟩ (NoI.off fun j hj=>by simpa using hj) (fun x hx hs=>hF (hs ▸ hx))
end Go.Proofs.YtgbgejflmbhigaaGreat

namespace Go.Proofs.YtgbgejflmbhigaaGreat
open Go.RowKit Go.Sort
def playRw (m:Nat) (rs:List Rw) (o:Opv):List Rw:=if o.1.1=1 then (if putE m rs o.2.1=0 then putRw rs o.2.1 else rs) else if o.1.1=2 then delRw rs o.1.2.1 else rs
end Go.Proofs.YtgbgejflmbhigaaGreat

namespace Go.Proofs.YtgbgejflmbhigaaGreat
open Go.RowKit Go.Sort
theorem OwnQ.lift {Iq Iq':Nat->Prop} {w w':World} {v:Value} {l:List Int} (h:OwnQ Iq w v l) (g:Gb w w') (hi:∀ k,k < w.heap.size->Iq k->Iq' k):OwnQ Iq' w' v l:=⟨h.own.gb g,fun b e=>hi b (World.ownsRow.lt h.own b e).2 (h.inn b e)⟩
theorem OwnRs.lift {Iq Iq':Nat->Prop} {w w':World} {v:Value} {d:List Rt} (h:OwnRs Iq w v d) (g:Gb w w') (hi:∀ k,k < w.heap.size->Iq k->Iq' k) (up:Up Iq' w'):OwnRs Iq' w' v d:=⟨(h.gb g).row,fun x hx=>(h.vec x hx).lift g hi,up⟩
theorem PcAt.lift {Iq Iq':Nat->Prop} {w w':World} {b:Nat} {p:Pt} {vl vh vr:Value} (h:PcAt Iq w b p vl vh vr) (g:Gb w w') (hi:∀ k,k < w.heap.size->Iq k->Iq' k) (up:Up Iq' w'):PcAt Iq' w' b p vl vh vr:=⟨(h.gb g).blk,h.low.lift g hi,h.high.lift g hi,up⟩
theorem TrO.lift {Iq Iq':Nat->Prop} {w w':World} {T:Nat->Pt} (g:Gb w w') (hi:∀ k,k < w.heap.size->Iq k->Iq' k) (up:Up Iq' w'):∀ n b F,TrO Iq w T n b F->TrO Iq' w' T n b F
 | 0,_,_,h=>h
 | n + 1,b,F,h=>by
  obtain ⟨vl,vh,vr,hp,h⟩:=h
  refine ⟨vl,vh,vr,hp.lift g hi up,?_⟩
  cases hk:(T b).kids with
  | none =>
   rw [hk] at h
   obtain ⟨d,x,h1,h2,h3,rfl⟩:=h
   exact ⟨d,x,h1.lift g hi up,h2,h3,rfl⟩
  | some lh =>
   obtain ⟨l,hh⟩:=lh
   rw [hk] at h
   obtain ⟨h0,F1,F2,h1,h2,rfl⟩:=h
   exact ⟨h0,F1,F2,TrO.lift g hi up n l F1 h1,TrO.lift g hi up n hh F2 h2,rfl⟩
theorem TreeAt.lift {Iq Iq':Nat->Prop} {w w':World} {tb m leaf:Nat} {rs:List Rw} {F:List Nat} (h:TreeAt Iq w tb m leaf rs F) (g:Gb w w') (hi:∀ k,k < w.heap.size->Iq k->Iq' k) (up:Up Iq' w'):TreeAt Iq' w' tb m leaf rs F:=by
 obtain ⟨x,cap,d,rt,F1,h1,h2,h3,h4,h5,h6,rfl,h8⟩:=h
 refine ⟨x,cap,d,rt,F1,(g.block tb (Array.getElem?_eq_some_iff.1 h1).1).trans h1,h2.lift g hi up,h3,h4,h5,?_,rfl,h8⟩
 rcases h6 with h | ⟨b,T,e1,e2,t⟩
 ·exact .inl h
 ·exact .inr ⟨b,T,e1,e2,fun N hN=>⟨TrO.lift g hi up _ _ _ (t N hN).1,(t N hN).2⟩⟩
def RunW (w0:World) (tb ub m leaf:Nat) (rs:List Rw) (W:World):Prop:=∃ F G,TreeAt IqT W tb m leaf rs F/\TbAt W ub m rs G/\(∀ x ∈ F,w0.heap.size<=x)/\(∀ x ∈ G,w0.heap.size<=x)/\(∀ x ∈ F,x ∉ G)/\Gb w0 W
theorem RunW.gb {w0 W W':World} {tb ub m leaf:Nat} {rs:List Rw} (h:RunW w0 tb ub m leaf rs W) (g:Gb W W'):RunW w0 tb ub m leaf rs W':=by
 obtain ⟨F,G,a,b,c,d,e,f⟩:=h
 exact ⟨F,G,a.gb g,b.gb g,c,d,e,gb_trans f g⟩
theorem RunW.old {w0 W:World} {tb ub m leaf:Nat} {rs:List Rw} (h:RunW w0 tb ub m leaf rs W):Gb w0 W:=by
 obtain ⟨F,G,a,b,c,d,e,f⟩:=h
 exact f
theorem RunW.both {w0 W W1 W2:World} {tb ub m leaf:Nat} {rs':List Rw} {F F' G:List Nat} (c:∀ x ∈ F,w0.heap.size<=x) (d:∀ x ∈ G,w0.heap.size<=x) (e:∀ x ∈ F,x ∉ G) (f:Gb w0 W) (hg:∀ x ∈ G,x < W.heap.size)
  (t:TreeAt IqT W1 tb m leaf rs' F') (l:∀ y ∈ F',y ∈ F ∨ W.heap.size<=y) (g1:Gb w0 W1) (s1:W.heap.size<=W1.heap.size) {rs:List Rw} (tm:TbAt W1 ub m rs G) (h:TbOut W1 ub m rs' G W2):RunW w0 tb ub m leaf rs' W2:=by
 obtain ⟨G',t2,l2,k2⟩:=h
 have hu:=tm.mem.1
 have s:=f.size
 have hn:∀ x ∈ F',x ∉ G:=fun x hx hy=>by
  rcases l x hx with h | h
  ·exact e x h hy
  ·have:=hg x hy;omega
 refine ⟨F',G',t.kp k2 tm.noint (fun x hx hs=>hn x hx (by rw [hs];exact hu)),t2,fun x hx=>?_,fun x hx=>?_,fun x hx hy=>?_,g1.trans (k2.gr g1.size (fun k hk=>by rw [hk];exact d ub hu))⟩
 ·rcases l x hx with h | h
  ·exact c x h
  ·omega
 ·rcases l2 x hx with h | h
  ·exact d x h
  ·omega
 ·rcases l2 x hy with h | h
  ·exact hn x hx h
  ·have:=t.mem.2 x hx;omega
end Go.Proofs.YtgbgejflmbhigaaGreat
