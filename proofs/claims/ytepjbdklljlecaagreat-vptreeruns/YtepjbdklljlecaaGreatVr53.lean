import Derived.Test.YtepjbdklljlecaaGreatVr48
import Derived.Test.YtepjbdklljlecaaGreatVr50
import Derived.Test.YtepjbdklljlecaaGreatVr19
import Derived.Test.YtepjbdklljlecaaGreatVr47
import Derived.Test.YtepjbdklljlecaaGreatVr5
import Derived.Test.YtepjbdklljlecaaGreatVr4
namespace Go.Proofs.YtepjbdklljlecaaGreat
open Go.ChangeShapes Go.WideShapes Go.ChangeAt Go.RowKit Go.Joins Go.Deep
set_option maxRecDepth 100000
theorem Tryz.cellsHow:Tryz.prog.cellsOf 25=3:=by kernel_rfl
theorem open_how {H:Type} {enc:TypeId × Value->H} {W:World} {b0:Nat} {r:Reach} {v:Value} {d:DataW H} {p:List MemPlace}
  (hv':Value.okWide Tryz.prog W r b0 25 v) (h:DataW.Trod enc Tryz.prog W 0 (fun _=>true) true 25 v d p) :
  ∃ A B S:Int,v=.agg #[.int .i64 A,.int .i64 B,.int .u64 S]/\Rn.U S:=by
 obtain ⟨cs,rfl,hsz⟩:=okWide_struct Tryz.underlying25 hv'
 obtain ⟨fuel,hf⟩:=h
 obtain ⟨l⟩:=cs
 simp only [Value.cells] at hf
 obtain ⟨xs,n,_,_,hl,hlen,hf⟩:=DataW.trod_struct Tryz.underlying25 hf
 rw [Tryz.cellsHow] at hl
 match xs,hlen,l,hl with
 | [y0,y1,y2],_,[c0,c1,c2],_ =>
  obtain ⟨a0,e0,_⟩:=DataW.trod_int Tryz.underlying3 (by simpa using hf 0 _ rfl)
  obtain ⟨a1,e1,_⟩:=DataW.trod_int Tryz.underlying3 (by simpa using hf 1 _ rfl)
  obtain ⟨a2,e2,_,w2⟩:=DataW.trod_int Tryz.underlying23 (by simpa using hf 2 _ rfl)
  simp [Tryz.cells3,Tryz.cells23] at e0 e1 e2
  subst e0 e1 e2
  exact ⟨a0,a1,a2,rfl,word_of_wf w2⟩
theorem Tryz.cellsOp:Tryz.prog.cellsOf 45=7:=by kernel_rfl
end Go.Proofs.YtepjbdklljlecaaGreat

namespace Go.Proofs.YtepjbdklljlecaaGreat
open Go.ChangeShapes Go.WideShapes Go.ChangeAt Go.RowKit Go.Joins Go.Deep
set_option maxRecDepth 100000
theorem trod_struct6z {H:Type} {enc:TypeId × Value->H} {w:World} {base:Nat} {spare:Nat->Bool} {held:Bool} {t:TypeId} {f0 f1 f2 f3 f4 f5:Field} {fuel:Nat} {cs:List Value} {x:DataW H × List MemPlace} (ht:Tryz.prog.underlying t=some (.struct #[f0,f1,f2,f3,f4,f5])) (h:DataW.trod enc Tryz.prog w base spare held fuel t cs=some x) :
  ∃ y0 y1 y2 y3 y4 y5 n,cs.length=Tryz.prog.cellsOf t/\x.1=.agg [y0.1,y1.1,y2.1,y3.1,y4.1,y5.1]/\DataW.trod enc Tryz.prog w base spare held n f0.type ((cs.drop f0.offset).take (Tryz.prog.cellsOf f0.type))=some y0 /\
   DataW.trod enc Tryz.prog w base spare held n f1.type ((cs.drop f1.offset).take (Tryz.prog.cellsOf f1.type))=some y1/\DataW.trod enc Tryz.prog w base spare held n f2.type ((cs.drop f2.offset).take (Tryz.prog.cellsOf f2.type))=some y2 /\
   DataW.trod enc Tryz.prog w base spare held n f3.type ((cs.drop f3.offset).take (Tryz.prog.cellsOf f3.type))=some y3/\DataW.trod enc Tryz.prog w base spare held n f4.type ((cs.drop f4.offset).take (Tryz.prog.cellsOf f4.type))=some y4 /\
   DataW.trod enc Tryz.prog w base spare held n f5.type ((cs.drop f5.offset).take (Tryz.prog.cellsOf f5.type))=some y5:=by
 obtain ⟨xs,n,_,e,hl,hlen,hf⟩:=DataW.trod_struct ht h
 match xs,hlen,e with
 | [y0,y1,y2,y3,y4,y5],_,e=>exact ⟨y0,y1,y2,y3,y4,y5,n,hl,by rw [e];simp,by simpa using hf 0 f0 rfl,by simpa using hf 1 f1 rfl,by simpa using hf 2 f2 rfl,by simpa using hf 3 f3 rfl,by simpa using hf 4 f4 rfl,by simpa using hf 5 f5 rfl⟩
theorem open_ops_sz {H:Type} {enc:TypeId × Value->H} {W:World} {b0:Nat} {r:Reach} {v:Value} {d:DataW H} {p:List MemPlace}
  (hv':Value.okWide Tryz.prog W r b0 39 v) (h:DataW.Trod enc Tryz.prog W 0 (fun _=>true) true 39 v d p) (hw:∀ n ∈ d.weights Tryz.prog 39,n<=reachBytes) :
  ∃ ops:List Opv,RdO W v ops/\ops.length<=maxLen/\∀ i,i < ops.length->ops[i]!.2.1.2.length<=reachBytes/\ops[i]!.2.2.length<=reachBytes:=by
 obtain ⟨a0,len,cap,rfl⟩:=okWide_slice Tryz.underlying39 hv'
 obtain ⟨fuel,hf⟩:=h
 rcases open_slice Tryz.underlying39 (by simpa [Value.cells] using hf) with ⟨e,_⟩ | ⟨a,len,cap,m,n,D,Pl,e,_,hlc,hcm,hm,hD,hx⟩
 ·cases e
  exact ⟨[],rdo_nil W,Nat.zero_le _,fun i hi=>absurd hi (Nat.not_lt_zero _)⟩
 ·cases e
  rw [if_pos rfl] at hm
  subst hm
  have hd:d=.slice ((List.range len).map D) ((List.range (m - len)).map fun j=>D (len + j)):=congrArg Prod.fst hD
  subst hd
  have hy:∀ i,i < len->∃ y:Opv,(∃ rv qv,(W.cell? (a.add (i * 7))=some (.int .i64 y.1.1)/\W.cell? ((a.add (i * 7)).add 1)=some (.int .i64 y.1.2.1)/\W.cell? ((a.add (i * 7)).add 2)=some (.int .i64 y.1.2.2.1)/\W.cell? ((a.add (i * 7)).add 3)=some (.int .i64 y.1.2.2.2)/\W.cell? ((a.add (i * 7)).add 4)=some (.int .i64 y.2.1.1)/\W.cell? ((a.add (i * 7)).add 5)=some rv/\W.cell? ((a.add (i * 7)).add 6)=some qv)/\RdI W rv y.2.1.2/\RdI W qv y.2.2)/\y.2.1.2.length<=reachBytes/\y.2.2.length<=reachBytes:=by
   intro i hi
   obtain ⟨cs,hc,ht⟩:=hx i (by omega)
   obtain ⟨y0,y1,y2,y3,y4,y5,k,hl,hagg,k0,k1,k2,k3,k4,k5⟩:=trod_struct6z Tryz.underlying45 ht
   rw [Tryz.cellsOp] at hl hc
   match cs,hl with
   | [c0,c1,c2,c3,c4,c5,c6],_ =>
    obtain ⟨z0,z1,m',hz,hl1,j0,j1⟩:=trod_struct2 Tryz.underlying43 k4
    obtain ⟨a0,e0,_⟩:=DataW.trod_int Tryz.underlying3 k0
    obtain ⟨a1,e1,_⟩:=DataW.trod_int Tryz.underlying3 k1
    obtain ⟨a2,e2,_⟩:=DataW.trod_int Tryz.underlying3 k2
    obtain ⟨a3,e3,_⟩:=DataW.trod_int Tryz.underlying3 k3
    obtain ⟨a4,e4,_⟩:=DataW.trod_int Tryz.underlying3 j0
    obtain ⟨rv,rl,e5,hr,_⟩:=trod22 j1
    obtain ⟨qv,ql,e6,hq,_⟩:=trod22 k5
    have j2:=j1
    rw [e5] at j2
    have k6:=k5
    rw [e6] at k6
    simp [Tryz.cells3,Tryz.cells41,Tryz.cells43] at e0 e1 e2 e3 e4 e5 e6
    subst e0 e1 e2 e3 e4 e5 e6
    obtain ⟨_,_,hcc⟩:=World.cells?_some hc
    have q0:=hcc 0 (by omega)
    have q1:=hcc 1 (by omega)
    have q2:=hcc 2 (by omega)
    have q3:=hcc 3 (by omega)
    have q4:=hcc 4 (by omega)
    have q5:=hcc 5 (by omega)
    have q6:=hcc 6 (by omega)
    have hD':D i=.agg [y0.1,y1.1,y2.1,y3.1,y4.1,y5.1]:=hagg
    have up:∀ n,n ∈ (D i).weights Tryz.prog 45->n<=reachBytes:=fun n hn=>hw n (by
     simp only [DataW.weights,Tryz.underlying39,List.mem_cons,List.mem_append]
     exact .inr (.inl (weights_in (d:=D i) (List.mem_map.2 ⟨i,List.mem_range.2 hi,rfl⟩) n hn)))
    have hz':y4.1=.agg [z0.1,z1.1]:=congrArg Prod.fst hz
    refine ⟨((a0,a1,a2,a3),(a4,rl),ql),⟨_,_,⟨by simpa [Addr.add] using q0,by simpa using q1,by simpa using q2,by simpa using q3,by simpa using q4,by simpa using q5,by simpa using q6⟩,hr,hq⟩,trodI_sz j2 hr (fun n hn=>up n ?_),trodI_sz k6 hq (fun n hn=>up n ?_)⟩
    ·rw [hD',hz']
     simp only [DataW.weights,Tryz.underlying45,Tryz.underlying43,List.map_cons,List.map_nil,DataW.weightsEach,List.mem_append]
     exact .inr (.inr (.inr (.inr (.inl (.inr (.inl hn))))))
    ·rw [hD']
     simp only [DataW.weights,Tryz.underlying45,List.map_cons,List.map_nil,DataW.weightsEach,List.mem_append]
     exact .inr (.inr (.inr (.inr (.inr (.inl hn)))))
  obtain ⟨Y,hY⟩:=choose_lt (α:=Opv) (p:=fun i y=>(∃ rv qv,(W.cell? (a.add (i * 7))=some (.int .i64 y.1.1)/\W.cell? ((a.add (i * 7)).add 1)=some (.int .i64 y.1.2.1)/\W.cell? ((a.add (i * 7)).add 2)=some (.int .i64 y.1.2.2.1)/\W.cell? ((a.add (i * 7)).add 3)=some (.int .i64 y.1.2.2.2)/\W.cell? ((a.add (i * 7)).add 4)=some (.int .i64 y.2.1.1)/\W.cell? ((a.add (i * 7)).add 5)=some rv/\W.cell? ((a.add (i * 7)).add 6)=some qv)/\RdI W rv y.2.1.2/\RdI W qv y.2.2)/\y.2.1.2.length<=reachBytes/\y.2.2.length<=reachBytes) hy
  have hg:∀ i,i < len->((List.range len).map Y)[i]! = Y i:=by
   intro i hi
   rw [getElem!_pos _ i (by simpa using hi)];simp
  refine ⟨(List.range len).map Y,⟨some a,m,by simp,fun i hi=>?_⟩,by simp;omega,fun i hi=>?_⟩
  ·have hi':i < len:=by simpa using hi
   obtain ⟨⟨_,_,⟨q0,_⟩,_⟩,_⟩:=hY 0 (by omega)
   have ha:a=⟨a.block,a.off,none⟩:=spot_none (by simpa [Addr.add] using q0)
   obtain ⟨⟨rv,qv,⟨c0,c1,c2,c3,c4,c5,c6⟩,h1,h2⟩,_⟩:=hY i hi'
   rw [hg i hi']
   rw [ha,Addr.add_lit] at c0
   rw [ha,Addr.add_lit,Addr.add_lit] at c1 c2 c3 c4 c5 c6
   exact ⟨a.block,a.off,rv,qv,by rw [<- ha],⟨c0,c1,c2,c3,c4,c5,c6⟩,h1,h2⟩
  ·have hi':i < len:=by simpa using hi
   rw [hg i hi']
   exact (hY i hi').2
end Go.Proofs.YtepjbdklljlecaaGreat

namespace Go.Proofs.YtepjbdklljlecaaGreat
open Go.RowKit Go.Sort
def TrW (Iq:Nat->Prop) (w0:World) (tb m leaf:Nat) (rs:List Rw) (W:World):Prop:=∃ F,TreeAt Iq W tb m leaf rs F/\(∀ x ∈ F,w0.heap.size<=x)/\Gb w0 W
theorem TrW.gb {Iq:Nat->Prop} {w0 W W':World} {tb m leaf:Nat} {rs:List Rw} (h:TrW Iq w0 tb m leaf rs W) (g:Gb W W'):TrW Iq w0 tb m leaf rs W':=by
 obtain ⟨F,t,hF,g0⟩:=h
 exact ⟨F,t.gb g,hF,gb_trans g0 g⟩
theorem TrW.old {Iq:Nat->Prop} {w0 W:World} {tb m leaf:Nat} {rs:List Rw} (h:TrW Iq w0 tb m leaf rs W):Gb w0 W:=by
 obtain ⟨_,_,_,g⟩:=h
 exact g
theorem TrW.out {Iq:Nat->Prop} {w0 W W':World} {tb m leaf:Nat} {rs':List Rw} {F:List Nat} (hF:∀ x ∈ F,w0.heap.size<=x) (g:Gb w0 W) (h:TOut Iq W tb m leaf F rs' W'):TrW Iq w0 tb m leaf rs' W':=by
 obtain ⟨F',t,l,k⟩:=h
 have s:=g.size
 refine ⟨F',t,fun x hx=>?_,g.trans (k.gr s hF)⟩
 rcases l x hx with h | h
 ·exact hF x h
 ·omega
theorem trw_of {Iq:Nat->Prop} {w W:World} {m leaf:Nat} {rs:List Rw} {e:Ending} (h:TreeOut Iq w m leaf rs e W):∃ tb rs',e=.returned (.tuple #[.pointer (some ⟨tb,0,none⟩),.int .i64 0])/\TrW Iq w tb m leaf rs' W/\rs'.Perm rs/\Ris rs':=by
 obtain ⟨tb,rs',F,e1,t,p,g,hF⟩:=h
 exact ⟨tb,rs',e1,⟨F,t,hF,g⟩,p,t.ris⟩
end Go.Proofs.YtepjbdklljlecaaGreat

namespace Go.Proofs.YtepjbdklljlecaaGreat
open Go.RowKit Go.Sort
theorem TreeAt.kq {Iq S:Nat->Prop} {w w':World} {tb m leaf:Nat} {rs:List Rw} {F:List Nat} (h:TreeAt Iq w tb m leaf rs F) (k:Tk.Kp S w w') (hS:NoI Iq w S) (hF:∀ x ∈ F,¬ S x):TreeAt Iq w' tb m leaf rs F:=by
 obtain ⟨g,cap,sb,d,rt,F1,h1,h2,h3,h4,h5,h6,rfl,h8,h9,h10,h11⟩:=h
 refine ⟨g,cap,sb,d,rt,F1,?_,h2.kq k hS (fun g' e=>by cases e;exact hF g (by simp)),h3,h4,h5,?_,rfl,h8,h9,h10,kp_src h11 k (hF sb (by simp))⟩
 ·rw [k.block tb (Array.getElem?_eq_some_iff.1 h1).1 (hF tb (by simp))];exact h1
 ·rcases h6 with h | ⟨b,T,e1,e2,t⟩
  ·exact .inl h
  ·exact .inr ⟨b,T,e1,e2,fun N hN=>⟨TrO.kq k hS _ _ _ (t N hN).1 (fun x hx=>hF x (by simp [hx])),(t N hN).2⟩⟩
theorem OwnQ.wk {Iq Iq':Nat->Prop} {w:World} {v:Value} {l:List Int} (h:OwnQ Iq w v l) (hi:∀ k,k < w.heap.size->Iq k->Iq' k):OwnQ Iq' w v l:=⟨h.own,fun g e=>hi g (World.ownsRow.lt h.own g e).2 (h.inn g e)⟩
theorem OwnRs.wk {Iq Iq':Nat->Prop} {w:World} {v:Value} {d:List Rt} (h:OwnRs Iq w v d) (hi:∀ k,k < w.heap.size->Iq k->Iq' k) (up:Up Iq' w):OwnRs Iq' w v d:=⟨h.row,fun x hx=>(h.vec x hx).wk hi,up⟩
theorem PcAt.wk {Iq Iq':Nat->Prop} {w:World} {b:Nat} {p:Pt} {vl vh vr:Value} (h:PcAt Iq w b p vl vh vr) (hi:∀ k,k < w.heap.size->Iq k->Iq' k) (up:Up Iq' w):PcAt Iq' w b p vl vh vr:=⟨h.blk,h.low.wk hi,h.high.wk hi,h.ball,up⟩
theorem TrO.wk {Iq Iq':Nat->Prop} {w:World} {T:Nat->Pt} (hi:∀ k,k < w.heap.size->Iq k->Iq' k) (up:Up Iq' w):∀ n b F,TrO Iq w T n b F->TrO Iq' w T n b F
 | 0,_,_,h=>h
 | n + 1,b,F,h=>by
  obtain ⟨vl,vh,vr,hp,h⟩:=h
  refine ⟨vl,vh,vr,hp.wk hi up,?_⟩
  cases hk:(T b).kids with
  | none =>
   rw [hk] at h
   obtain ⟨d,g,h1,h2,h3,rfl⟩:=h
   exact ⟨d,g,h1.wk hi up,h2,h3,rfl⟩
  | some lh =>
   obtain ⟨l,hh⟩:=lh
   rw [hk] at h
   obtain ⟨h0,F1,F2,h1,h2,rfl⟩:=h
   exact ⟨h0,F1,F2,TrO.wk hi up n l F1 h1,TrO.wk hi up n hh F2 h2,rfl⟩
theorem TreeAt.wk {Iq Iq':Nat->Prop} {w:World} {tb m leaf:Nat} {rs:List Rw} {F:List Nat} (h:TreeAt Iq w tb m leaf rs F) (hi:∀ k,k < w.heap.size->Iq k->Iq' k) (up:Up Iq' w):TreeAt Iq' w tb m leaf rs F:=by
 obtain ⟨g,cap,sb,d,rt,F1,h1,h2,h3,h4,h5,h6,rfl,h8⟩:=h
 refine ⟨g,cap,sb,d,rt,F1,h1,h2.wk hi up,h3,h4,h5,?_,rfl,h8⟩
 rcases h6 with h | ⟨b,T,e1,e2,t⟩
 ·exact .inl h
 ·exact .inr ⟨b,T,e1,e2,fun N hN=>⟨TrO.wk hi up _ _ _ (t N hN).1,(t N hN).2⟩⟩
theorem TreeAt.mid {B T:Nat} {w w':World} {tb m leaf:Nat} {rs:List Rw} {F:List Nat} (h:TreeAt (fun k=>T<=k) w tb m leaf rs F) (k:Mid B T w w') (hF:∀ x ∈ F,T<=x):TreeAt (fun k=>T<=k) w' tb m leaf rs F:=by
 refine h.kq (S:=fun k=>B<=k/\k < T) ⟨k.os,k.tape,k.output,k.size,fun j hj hn=>k.block j hj (by omega)⟩ (NoI.off fun j hj=>by omega) (fun x hx hs=>?_)
 have:=hF x hx
 omega
theorem TreeAt.one {L:Nat} {w w':World} {tb m leaf:Nat} {rs:List Rw} {F:List Nat} (h:TreeAt (fun k=>k ≠ L) w tb m leaf rs F) (k:w.grownBy w' (some L)) (hF:L ∉ F):TreeAt (fun k=>k ≠ L) w' tb m leaf rs F :=
 h.kq (S:=fun k=>k=L) ⟨k.os,k.tape,k.output,k.size,fun j hj hn=>k.block j hj (by simpa using hn)⟩ (NoI.off fun j hj=>by simpa using hj) (fun x hx hs=>hF (hs ▸ hx))
end Go.Proofs.YtepjbdklljlecaaGreat

namespace Go.Proofs.YtepjbdklljlecaaGreat
open Go.RowKit Go.Sort
def playRw (m:Nat) (rs:List Rw) (o:Opv):List Rw:=if o.1.1=1 then (if putE m rs o.2.1=0 then putRw rs o.2.1 else rs) else if o.1.1=2 then delRw rs o.1.2.1 else rs
end Go.Proofs.YtepjbdklljlecaaGreat

namespace Go.Proofs.YtepjbdklljlecaaGreat
open Go.RowKit Go.Sort
theorem OwnQ.lift {Iq Iq':Nat->Prop} {w w':World} {v:Value} {l:List Int} (h:OwnQ Iq w v l) (g:Gb w w') (hi:∀ k,k < w.heap.size->Iq k->Iq' k):OwnQ Iq' w' v l:=⟨h.own.gb g,fun b e=>hi b (World.ownsRow.lt h.own b e).2 (h.inn b e)⟩
theorem OwnRs.lift {Iq Iq':Nat->Prop} {w w':World} {v:Value} {d:List Rt} (h:OwnRs Iq w v d) (g:Gb w w') (hi:∀ k,k < w.heap.size->Iq k->Iq' k) (up:Up Iq' w'):OwnRs Iq' w' v d:=⟨(h.gb g).row,fun x hx=>(h.vec x hx).lift g hi,up⟩
theorem PcAt.lift {Iq Iq':Nat->Prop} {w w':World} {b:Nat} {p:Pt} {vl vh vr:Value} (h:PcAt Iq w b p vl vh vr) (g:Gb w w') (hi:∀ k,k < w.heap.size->Iq k->Iq' k) (up:Up Iq' w'):PcAt Iq' w' b p vl vh vr:=⟨(h.gb g).blk,h.low.lift g hi,h.high.lift g hi,h.ball,up⟩
theorem TrO.lift {Iq Iq':Nat->Prop} {w w':World} {T:Nat->Pt} (g:Gb w w') (hi:∀ k,k < w.heap.size->Iq k->Iq' k) (up:Up Iq' w'):∀ n b F,TrO Iq w T n b F->TrO Iq' w' T n b F
 | 0,_,_,h=>h
 | n + 1,b,F,h=>by
  obtain ⟨vl,vh,vr,hp,h⟩:=h
  refine ⟨vl,vh,vr,hp.lift g hi up,?_⟩
  cases hk:(T b).kids with
  | none =>
   rw [hk] at h
   obtain ⟨d,x,h1,h2,h3,rfl⟩:=h
   exact ⟨d,x,h1.lift g hi up,h2,h3,rfl⟩
  | some lh =>
   obtain ⟨l,hh⟩:=lh
   rw [hk] at h
   obtain ⟨h0,F1,F2,h1,h2,rfl⟩:=h
   exact ⟨h0,F1,F2,TrO.lift g hi up n l F1 h1,TrO.lift g hi up n hh F2 h2,rfl⟩
theorem TreeAt.lift {Iq Iq':Nat->Prop} {w w':World} {tb m leaf:Nat} {rs:List Rw} {F:List Nat} (h:TreeAt Iq w tb m leaf rs F) (g:Gb w w') (hi:∀ k,k < w.heap.size->Iq k->Iq' k) (up:Up Iq' w'):TreeAt Iq' w' tb m leaf rs F:=by
 obtain ⟨x,cap,sb,d,rt,F1,h1,h2,h3,h4,h5,h6,rfl,h8,h9,h10,h11⟩:=h
 refine ⟨x,cap,sb,d,rt,F1,(g.block tb (Array.getElem?_eq_some_iff.1 h1).1).trans h1,h2.lift g hi up,h3,h4,h5,?_,rfl,h8,h9,h10,h11.gb g⟩
 rcases h6 with h | ⟨b,T,e1,e2,t⟩
 ·exact .inl h
 ·exact .inr ⟨b,T,e1,e2,fun N hN=>⟨TrO.lift g hi up _ _ _ (t N hN).1,(t N hN).2⟩⟩
def RunW (w0:World) (tb ub m leaf:Nat) (rs:List Rw) (W:World):Prop:=∃ F G,TreeAt IqT W tb m leaf rs F/\TbAt W ub m rs G/\(∀ x ∈ F,w0.heap.size<=x)/\(∀ x ∈ G,w0.heap.size<=x)/\(∀ x ∈ F,x ∉ G)/\Gb w0 W
theorem RunW.gb {w0 W W':World} {tb ub m leaf:Nat} {rs:List Rw} (h:RunW w0 tb ub m leaf rs W) (g:Gb W W'):RunW w0 tb ub m leaf rs W':=by
 obtain ⟨F,G,a,b,c,d,e,f⟩:=h
 exact ⟨F,G,a.gb g,b.gb g,c,d,e,gb_trans f g⟩
theorem RunW.old {w0 W:World} {tb ub m leaf:Nat} {rs:List Rw} (h:RunW w0 tb ub m leaf rs W):Gb w0 W:=by
 obtain ⟨F,G,a,b,c,d,e,f⟩:=h
 exact f
theorem RunW.both {w0 W W1 W2:World} {tb ub m leaf:Nat} {rs':List Rw} {F F' G:List Nat} (c:∀ x ∈ F,w0.heap.size<=x) (d:∀ x ∈ G,w0.heap.size<=x) (e:∀ x ∈ F,x ∉ G) (f:Gb w0 W) (hg:∀ x ∈ G,x < W.heap.size)
  (t:TreeAt IqT W1 tb m leaf rs' F') (l:∀ y ∈ F',y ∈ F ∨ W.heap.size<=y) (g1:Gb w0 W1) (s1:W.heap.size<=W1.heap.size) {rs:List Rw} (tm:TbAt W1 ub m rs G) (h:TbOut W1 ub m rs' G W2):RunW w0 tb ub m leaf rs' W2:=by
 obtain ⟨G',t2,l2,k2⟩:=h
 have hu:=tm.mem.1
 have s:=f.size
 have hn:∀ x ∈ F',x ∉ G:=fun x hx hy=>by
  rcases l x hx with h | h
  ·exact e x h hy
  ·have:=hg x hy;omega
 refine ⟨F',G',t.kp k2 tm.noint (fun x hx hs=>hn x hx (by rw [hs];exact hu)),t2,fun x hx=>?_,fun x hx=>?_,fun x hx hy=>?_,g1.trans (k2.gr g1.size (fun k hk=>by rw [hk];exact d ub hu))⟩
 ·rcases l x hx with h | h
  ·exact c x h
  ·omega
 ·rcases l2 x hx with h | h
  ·exact d x h
  ·omega
 ·rcases l2 x hy with h | h
  ·exact hn x hx h
  ·have:=t.mem.2 x hx;omega
end Go.Proofs.YtepjbdklljlecaaGreat

namespace Go.Proofs.YtepjbdklljlecaaGreat
open Go.RowKit Go.Sort
set_option maxRecDepth 100000
set_option maxHeartbeats 2000000
theorem klens {rs:List Rw} {d:Int} (hok:RowsOk rs d):rs.length<=4611686018427387904/\∀ r ∈ rs,r.2.length<=4611686018427387904:=⟨by have:=hok.few;omega,fun r hr=>by
 have:=(chk_ok (hok.row r hr).2)
 have h1:=this.2.1
 omega⟩
theorem kspoil_c {w0 w1 w2:World} {v:Value} {rs:List Rw} (o:OwnC w1 w0.heap.size v rs) (g1:Gb w0 w1) (g2:Gb w1 w2) (hl:rs.length<=512/\∀ r ∈ rs,r.2.length<=4611686018427387904) :
  Calls Tryz.prog 35 #[v] w2 fun e w'=>e=.returned (.tuple #[])/\Gb w0 w':=by
 have o2:=o.gb g2
 obtain ⟨g,cap,e⟩:=o2.form
 obtain ⟨_,xs,ow,hx⟩:=o2
 obtain ⟨cur,b1,b2,b3,b4,b5⟩:=own_cur ow e
 subst e
 refine (spoilrows_c (Nat.le_refl _) (by omega) b1 b2 b3 (fun i hi=>?_)).mono ?_
 ·obtain ⟨h1,u,h2,h3⟩:=hx i hi
  exact ⟨_,u,b5 _ _ h1,b5 _ _ h2,wi_own h3 (hl.2 _ (by rw [getElem!_pos rs i hi];exact List.getElem_mem hi)) (fun g e=>(World.ownsRow.lt h3 g e).2)⟩
 ·rintro e w' ⟨rfl,m⟩
  exact ⟨rfl,m.gb (gb_trans g1 g2) (Nat.le_refl _)⟩
theorem klooks_c {Iq:Nat->Prop} {W:World} {tb ub m leaf:Nat} {rs:List Rw} {F G:List Nat} (ht:TreeAt Iq W tb m leaf rs F) (hm:TbAt W ub m rs G) :
  Calls Tryz.prog 15 #[.pointer (some ⟨tb,0,none⟩),.pointer (some ⟨ub,0,none⟩)] W fun e w'=>e=.returned (.bool true)/\Gb W w':=by
 have HT:Hid (TreeAt Iq W tb m leaf rs F):=ht
 have HM:Hid (TbAt W ub m rs G):=hm
 have KL:Hid (rs.length<=4611686018427387904/\∀ r ∈ rs,r.2.length<=4611686018427387904):=klens ht.rok.1
 have K5:Hid (rs.length<=512):=ht.rok.1.few
 have cR:=rows_c ht
 obtain ⟨a,cap,_,c1,rdm,_⟩:=hm.rd
 have RM:Hid (RdW W (.slice a rs.length cap) rs):=rdm
 clear ht hm rdm
 obtain ⟨n,hn⟩:∃ n,n=rs.length:=⟨_,rfl⟩
 have N:Hid (n=rs.length):=hn
 rw [<- hn] at RM c1
 clear hn
 go_enter Tryz.func15,Tryz.ntmps15
 go_wp2_with fail
 refine cR.mono ?_
 rintro e w1 ⟨v1,rfl,o1,g1⟩
 have c1:=gb_keeps g1 c1
 have cK:=fun W' (g:Gb w1 W')=>krsame_c ((o1.gb g).rdw) ((RM.out.gb g1).gb g) KL.out.1 KL.out.2
 have cL:∀ W',Gb w1 W'->Calls Tryz.prog 23 #[.pointer (some ⟨tb,0,none⟩)] W' fun e w'=>e=.returned (.int .i64 (n:Nat))/\w'=W':=fun W' g=>by
  rw [N.out]
  exact len_c (HT.out.gb (gb_trans g1 g))
 have OO:Hid (OwnC w1 W.heap.size v1 rs):=o1
 have G1:Hid (Gb W w1):=g1
 obtain ⟨g,cp,e1⟩:=o1.form
 subst e1
 rw [<- N.out] at OO cK ⊢
 have GD:Gb w1 w1.drew:=⟨rfl,rfl,rfl,Nat.le_refl _,fun _ _=>rfl⟩
 clear cR o1 g1
 go_wp2_with fail
 refine wp_region_held_drew (S:=fun W=>Gb w1 W) (by kernel_rfl) (GD) (fun hHeld=>?_)
 refine tkn 0 ?_ rfl ?_ ?_;rotate_left;·(intro w hSw;(have s1:=gb_keeps hSw c1);go_simp;try rfl)
 refine tkn 1 ?_ rfl ?_ ?_;rotate_left;·(intro w hSw;(have s1:=gb_keeps hSw c1);go_simp;try rfl)
 refine tkn 2 ?_ rfl ?_ ?_;rotate_left;·(intro w hSw;(have s1:=gb_keeps hSw c1);go_simp;try rfl)
 refine tkn 3 ?_ rfl ?_ ?_;rotate_left;·(intro w hSw;(have s1:=gb_keeps hSw c1);go_simp;try rfl)
 refine tkn 4 ?_ rfl ?_ ?_;rotate_left;·(intro w hSw;(have s1:=gb_keeps hSw c1);go_simp;try rfl)
 refine rdn 5 rfl (fun K hK=>?_)
 go_simp
 refine (cK _ hHeld).mono ?_
 rintro e w2 ⟨rfl,g2⟩
 refine hK.out _ _ (gb_trans hHeld g2) (fun hHeld=>?_)
 clear hK K
 refine tkn 6 ?_ rfl ?_ ?_;rotate_left;·(intro w hSw;(have s1:=gb_keeps hSw c1);go_simp;try rfl)
 refine tkn 7 ?_ rfl ?_ ?_;rotate_left;·(intro w hSw;(have s1:=gb_keeps hSw c1);go_simp;try rfl)
 refine tkn 9 ?_ rfl ?_ ?_;rotate_left;·(intro w hSw;(have s1:=gb_keeps hSw c1);go_simp;try rfl)
 refine tkn 10 ?_ rfl ?_ ?_;rotate_left;·(intro w hSw;(have s1:=gb_keeps hSw c1);go_simp;try rfl)
 refine tkn 11 ?_ rfl ?_ ?_;rotate_left;·(intro w hSw;(have s1:=gb_keeps hSw c1);go_simp;try rfl)
 refine tkn 12 ?_ rfl ?_ ?_;rotate_left;·(intro w hSw;(have s1:=gb_keeps hSw c1);go_simp;try rfl)
 refine tkn 13 ?_ rfl ?_ ?_;rotate_left;·(intro w hSw;(have s1:=gb_keeps hSw c1);go_simp;try rfl)
 refine rdn 8 rfl (fun K hK=>?_)
 go_simp
 refine (cL _ hHeld).mono ?_
 rintro e w3 ⟨rfl,e3⟩
 subst e3
 refine hK.out _ _ (hHeld) (fun hHeld=>?_)
 clear hK K
 refine tkn 14 ?_ rfl ?_ ?_;rotate_left;·(intro w hSw;(have s1:=gb_keeps hSw c1);go_simp;try rfl)
 refine tkn 15 ?_ rfl ?_ ?_;rotate_left;·(intro w hSw;(have s1:=gb_keeps hSw c1);go_simp;try rfl)
 refine tkn 16 ?_ rfl ?_ ?_;rotate_left;·(intro w hSw;(have s1:=gb_keeps hSw c1);go_simp;try rfl)
 refine wpAnyH_done (by kernel_rfl) ?_ _
 have G2:Hid (Gb w1 w3):=hHeld
 have cS:=kspoil_c OO.out G1.out G2.out ⟨K5.out,KL.out.2⟩
 clear hHeld cK cL c1 GD
 go_wp2_with fail
 refine cS.mono ?_
 rintro e w4 ⟨rfl,g4⟩
 clear cS
 go_wp2
 go_ret
 exact ⟨rfl,g4⟩
end Go.Proofs.YtepjbdklljlecaaGreat

namespace Go.Proofs.YtepjbdklljlecaaGreat
open Go.RowKit Go.Sort
set_option maxRecDepth 100000
set_option maxHeartbeats 1000000
def coords (rs:List Rw):Nat:=(rs.map fun r=>r.2.length).sum
theorem coords_snoc {rs:List Rw} {q:Nat} (hq:q < rs.length):coords (rs.take (q + 1))=coords (rs.take q) + rs[q]!.2.length:=by
 unfold coords
 rw [List.take_succ_eq_append_getElem hq,List.map_append,List.sum_append,getElem!_pos rs q hq]
 simp
theorem coords_le {rs:List Rw} (q:Nat):coords (rs.take q)<=coords rs:=by
 have h:coords rs=coords (rs.take q) + coords (rs.drop q):=by
  unfold coords
  rw [<- List.sum_append,<- List.map_append,List.take_append_drop]
 omega
theorem coords_row {rs:List Rw} {i:Nat} (hi:i < rs.length):rs[i]!.2.length<=coords rs:=by
 have h1:=coords_snoc hi
 have h2:=coords_le (rs:=rs) (i + 1)
 omega
theorem vects_b {w:World} {v:Value} {rs:List Rw} (h:RdW w v rs) (most:Nat) (hlen:rs.length<=4611686018427387904) (hmost:most<=4611686018427387903) (hrow:∀ i,i < rs.length->rs[i]!.2.length<=4611686018427387904) :
  Calls Tryz.prog 28 #[v,.int .i64 (most:Int)] w fun e w'=>(∃ z:Int,e=.returned (.int .i64 z)/\(z<=(most:Int)->rs.length + coords rs<=most))/\w=w':=by
 obtain ⟨a,cap,rfl,ha⟩:=h
 have A:Hid (∀ i,i < rs.length->∃ b o u,a=some ⟨b,o,none⟩/\w.cell? ⟨b,o + i * 2,none⟩=some (.int .i64 rs[i]!.1)/\w.cell? ⟨b,o + i * 2 + 1,none⟩=some u/\RdI w u rs[i]!.2):=ha
 obtain ⟨n,hN⟩:∃ n,n=rs.length:=⟨_,rfl⟩
 have N:Hid (n=rs.length):=hN
 have HS:Hid (∀ i,i < rs.length->rs[i]!.2.length<=4611686018427387904):=hrow
 rw [<- hN] at hlen ⊢
 clear ha hN hrow
 go_enter Tryz.func28,Tryz.ntmps28
 go_wp2
 go_loopw [5,6] (fun zv iv w'=>∃ (q z:Nat),zv=.int .i64 (z:Int)/\iv=.int .i64 (q:Int)/\q<=n/\Hid (z=n + coords (rs.take q))/\w=w') (fun _ iv _=>n - (intOf iv).toNat)
 case atStart=>exact ⟨0,n,rfl,rfl,Nat.zero_le _,by unfold Hid;simp [coords],rfl⟩
 case round =>
  obtain ⟨q,z,rfl,rfl,hq,Z,rfl⟩:=hrel
  by_cases hqn:q < n
  ·have hqi:(q:Int) < (n:Int):=by omega
   by_cases hz:(z:Int)<=(most:Int)
   ·have hql:q < rs.length:=by have:=N.out;omega
    obtain ⟨b,o,u,ea,hc,hd,hr⟩:=A.out q hql
    obtain ⟨pu,cu,eu,_⟩:=hr
    subst ea;subst eu
    have hs:=coords_snoc hql
    have hZ:=Z.out
    have hS:=HS.out q hql
    generalize rs[q]!.2.length=k at *
    generalize rs[q]!.1=x at *
    obtain ⟨y,hy⟩:∃ y:Nat,y=z + k:=⟨_,rfl⟩
    have Y:Hid (y=n + coords (rs.take (q + 1))):=by unfold Hid;omega
    have hyb:y<=9223372036854775807:=by omega
    have hyi:(z:Int) + (k:Int)=(y:Int):=by omega
    clear hql hs hZ hS hy Z
    go_wp2
    go_roundw
    case rel=>exact ⟨q + 1,y,by first | rfl | go_num,by simp,hqn,Y,by first | rfl | trivial⟩
    case measure=>simp [intOf];omega
   ·go_wp2
    go_ret
    exact ⟨⟨_,rfl,fun h=>by omega⟩,by first | rfl | trivial⟩
  ·have hqi:¬ (q:Int) < (n:Int):=by omega
   have hZ:=Z.out
   rw [List.take_of_length_le (by have:=N.out;omega)] at hZ
   have F:Hid ((z:Int)<=(most:Int)->n + coords rs<=most):=fun h=>by omega
   clear Z hZ
   go_wp2
   go_ret
   exact ⟨⟨_,rfl,F.out⟩,by first | rfl | trivial⟩
end Go.Proofs.YtepjbdklljlecaaGreat

namespace Go.Proofs.YtepjbdklljlecaaGreat
open Go.RowKit Go.Sort
set_option maxRecDepth 100000
set_option maxHeartbeats 2000000
structure Fit (rs:List Rw) (ops:List Opv):Prop where
 rows:rs.length<=2000
 row:∀ i,i < rs.length->rs[i]!.2.length<=32768
 few:ops.length<=2000
 op:∀ i,i < ops.length->ops[i]!.2.1.2.length<=32768/\ops[i]!.2.2.length<=32768
def BigF (w:World) (rs:List Rw) (ops:List Opv) (e:Ending) (w':World):Prop:=∃ b,e=.returned (.bool b)/\Gb w w'/\(b=false->Fit rs ops)
theorem bsum64 {z x1 x2:Nat} (h:z + x1 + x2 < 9223372036854775808):wrap64 (wrap64 ((z:Int) + (x1:Int)) + (x2:Int))=((z + x1 + x2:Nat):Int):=by
 unfold wrap64
 omega
theorem kbig_f {w:World} {v u:Value} {rs:List Rw} {ops:List Opv} (hv:RdW w v rs) (hlen:rs.length<=4611686018427387904) (hrow:∀ i,i < rs.length->rs[i]!.2.length<=4611686018427387904) (hu:RdO w u ops) (hop:∀ i,i < ops.length->ops[i]!.2.1.2.length<=1152921504606846976/\ops[i]!.2.2.length<=1152921504606846976) :
  Calls Tryz.prog 9 #[v,u] w fun e w'=>BigF w rs ops e w':=by
 have c:=vects_b hv 32768 hlen (by omega) hrow
 obtain ⟨av,cv,rfl,_⟩:=hv
 have O:Hid (RdO w u ops):=hu
 have OP:Hid (∀ i,i < ops.length->ops[i]!.2.1.2.length<=1152921504606846976/\ops[i]!.2.2.length<=1152921504606846976):=hop
 obtain ⟨au,cu,rfl,_⟩:=hu
 obtain ⟨n,hN⟩:∃ n,n=ops.length:=⟨_,rfl⟩
 have N:Hid (n=ops.length):=hN
 obtain ⟨m,hM⟩:∃ m,m=rs.length:=⟨_,rfl⟩
 have M:Hid (m=rs.length):=hM
 rw [<- hN] at O ⊢
 rw [<- hM]
 simp only [<- hM] at c
 clear hN hM hlen hrow hop
 go_enter Tryz.func9,Tryz.ntmps9
 by_cases h1:2000 < (n:Int)
 ·go_wp2
  go_ret
  exact ⟨true,rfl,Below.refl _ _,fun e=>by cases e⟩
 by_cases h2:2000 < (m:Int)
 ·go_wp2
  go_ret
  exact ⟨true,rfl,Below.refl _ _,fun e=>by cases e⟩
 go_wp2_with fail
 refine c.mono ?_
 rintro e w' ⟨⟨z,rfl,hz0⟩,e2⟩
 subst e2
 clear c
 by_cases h3:32768 < z
 ·go_wp2
  go_ret
  exact ⟨true,rfl,Below.refl _ _,fun e=>by cases e⟩
 have VB:Hid (m + coords rs<=32768):=hz0 (by omega)
 clear hz0
 go_wp2
 go_loopw [5,6] (fun zv iv w'=>∃ (q z:Nat),zv=.int .i64 (z:Int)/\iv=.int .i64 (q:Int)/\q<=n/\z<=2305843009213726720/\Hid (Gb w w'/\∀ i,i < q->ops[i]!.2.1.2.length + ops[i]!.2.2.length<=z)) (fun _ iv _=>n - (intOf iv).toNat)
 case atStart=>exact ⟨0,0,rfl,rfl,Nat.zero_le _,Nat.zero_le _,Below.refl _ _,fun i hi=>absurd hi (Nat.not_lt_zero _)⟩
 case round =>
  obtain ⟨q,z,rfl,rfl,hq,hzz,G⟩:=hrel
  by_cases hqn:q < n
  ·have hqi:(q:Int) < (n:Int):=by omega
   by_cases hz:z<=32768
   ·rename_i w'
    have hzi:(z:Int)<=32768:=by omega
    obtain ⟨a,cap,ea,hO⟩:=(RdO.gb O.out G.out.1)
    obtain ⟨hp1,hp2⟩:ops[q]!.2.1.2.length<=1152921504606846976/\ops[q]!.2.2.length<=1152921504606846976:=OP.out q (by have:=N.out;omega)
    have KP:Hid (∀ i,i < q + 1->ops[i]!.2.1.2.length + ops[i]!.2.2.length<=z + ops[q]!.2.1.2.length + ops[q]!.2.2.length):=by
     intro i hi
     by_cases e:i=q
     ·subst e;omega
     ·have:=G.out.2 i (by omega);omega
    obtain ⟨b,o,rv,qv,e0,⟨c0,c1,c2,c3,c4,c5,c6⟩,⟨a1,k1,e1,_⟩,⟨a2,k2,e2,_⟩⟩:=hO q (by have:=N.out;omega)
    injection ea with ea1 ea2 ea3
    subst ea1 ea3 e0 e1 e2
    generalize ops[q]!.2.1.2.length=x1 at *
    generalize ops[q]!.2.2.length=x2 at *
    have HB:Hid (z + x1 + x2 < 9223372036854775808):=by unfold Hid;omega
    have HC:Hid (z + x1 + x2<=2305843009213726720):=by unfold Hid;omega
    clear ea2 hO c0 c1 c2 c3 c4 hp1 hp2
    go_wp2
    go_quiet (fail)
    go_wp2
    go_roundw
    case rel=>exact ⟨q + 1,z + x1 + x2,by rw [bsum64 HB.out],by first | rfl | go_num | simp,hqn,HC.out,gb_trans G.out.1 (gw_drewN (Tk.Gw.refl _) _).gr,KP.out⟩
    case measure=>simp [intOf];omega
   ·have hzi:¬ (z:Int)<=32768:=by omega
    have hzj:(32768:Int) < (z:Int):=by omega
    go_wp2
    go_ret
    exact ⟨true,rfl,G.out.1,fun e=>by cases e⟩
  ·have hqi:¬ (q:Int) < (n:Int):=by omega
   by_cases hz:32768 < z
   ·have hzj:(32768:Int) < (z:Int):=by omega
    go_wp2
    go_ret
    exact ⟨true,rfl,G.out.1,fun e=>by cases e⟩
   ·have hzj:¬ (32768:Int) < (z:Int):=by omega
    have FT:Hid (Fit rs ops):=by
     have hm:=M.out
     have hn:=N.out
     have hv:=VB.out
     refine ⟨by omega,fun i hi=>?_,by omega,fun i hi=>?_⟩
     ·have:=coords_row hi;omega
     ·have:=G.out.2 i (by omega);omega
    go_wp2
    go_ret
    exact ⟨false,rfl,G.out.1,fun _=>FT.out⟩
theorem kright_c (A B S:Int) (w:World):Calls Tryz.prog 30 #[.agg #[.int .i64 A,.int .i64 B,.int .u64 S]] w fun e w'=>e=.returned (.bool (decide (1<=A/\A<=64)))/\Gb w w':=by
 have g:Gb w (w.alloc (.cells #[.int .i64 A,.int .i64 B,.int .u64 S] 25)):=gb_alloc (Below.refl _ _) _
 by_cases h1:1<=A
 ·by_cases h2:A<=64
  ·rw [decide_eq_true ⟨h1,h2⟩]
   go_enter Tryz.func30,Tryz.ntmps30
   go_wp2
   go_ret
   exact ⟨rfl,g⟩
  ·rw [decide_eq_false (fun h=>h2 h.2)]
   have h2':64 < A:=by omega
   go_enter Tryz.func30,Tryz.ntmps30
   go_wp2
   go_ret
   exact ⟨rfl,g⟩
 ·rw [decide_eq_false (fun h=>h1 h.1)]
  have h1':A < 1:=by omega
  go_enter Tryz.func30,Tryz.ntmps30
  go_wp2
  go_ret
  exact ⟨rfl,g⟩
theorem kwrong_c {w:World} {v:Value} {rs:List Rw} (hv:RdW w v rs) (hlen:rs.length<=4611686018427387904) (d A B S:Int) :
  Calls Tryz.prog 10 #[v,.int .i64 d,.agg #[.int .i64 A,.int .i64 B,.int .u64 S]] w fun e w'=>e=.returned (.int .i64 (bldE rs d A))/\Gb w w':=by
 have gA:Gb w (w.alloc (.cells #[.int .i64 A,.int .i64 B,.int .u64 S] 25)):=gb_alloc (Below.refl _ _) _
 obtain ⟨w1,hw1⟩:∃ w1,w1=w.alloc (.cells #[.int .i64 A,.int .i64 B,.int .u64 S] 25):=⟨_,rfl⟩
 rw [<- hw1] at gA
 have d0:w1.cell? ⟨w.heap.size,0,none⟩=some (.int .i64 A):=by rw [hw1];simp [go_sem]
 have d1:w1.cell? ⟨w.heap.size,1,none⟩=some (.int .i64 B):=by rw [hw1];simp [go_sem]
 have d2:w1.cell? ⟨w.heap.size,2,none⟩=some (.int .u64 S):=by rw [hw1];simp [go_sem]
 have cF:=rflat_c (hv.gb gA) hlen d
 have cR:=fun W=>kright_c A B S W
 have E1:Hid (flatE rs d ≠ 0->bldE rs d A=flatE rs d):=fun h=>by unfold bldE;rw [if_neg h]
 have E2:Hid (flatE rs d=0->(1<=A/\A<=64)->bldE rs d A=0):=fun h h2=>by unfold bldE;rw [if_pos h,if_pos h2]
 have E3:Hid (flatE rs d=0->¬ (1<=A/\A<=64)->bldE rs d A=1):=fun h h2=>by unfold bldE;rw [if_pos h,if_neg h2]
 obtain ⟨av,cv,ev,_⟩:=hv
 subst ev
 generalize bldE rs d A=be at *
 generalize flatE rs d=z at *
 generalize rs.length=n at *
 clear hlen
 go_enter Tryz.func10,Tryz.ntmps10
 go_wp2_with fail
 rw [<- hw1]
 clear hw1
 refine cF.mono ?_
 rintro e w2 ⟨rfl,g2'⟩
 have g2:=g2'.gb
 have d0:=gb_keeps g2 d0
 have d1:=gb_keeps g2 d1
 have d2:=gb_keeps g2 d2
 have G2:=gb_trans gA g2
 clear cF
 by_cases hz:z=0
 ·subst hz
  have cR:=cR w2
  go_wp2_with fail
  refine cR.mono ?_
  rintro e w3 ⟨rfl,g3⟩
  have G3:=gb_trans G2 g3
  clear cR d0 d1 d2
  by_cases h2:1<=A/\A<=64
  ·have R:Hid (be=0):=E2.out (by first | rfl | trivial) h2
   rw [decide_eq_true h2]
   clear h2
   go_wp2
   go_ret
   exact ⟨by rw [R.out];rfl,G3⟩
  ·have R:Hid (be=1):=E3.out (by first | rfl | trivial) h2
   rw [decide_eq_false h2]
   clear h2
   go_wp2
   go_ret
   exact ⟨by rw [R.out];rfl,G3⟩
 ·have hzb:(z == 0)=false:=by rw [beq_eq_false_iff_ne];exact hz
  have R:Hid (be=z):=E1.out hz
  clear cR d0 d1 d2
  go_wp2
  go_ret
  exact ⟨by rw [R.out];rfl,G2⟩
end Go.Proofs.YtepjbdklljlecaaGreat
