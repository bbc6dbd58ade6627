import Derived.Test.YtcipdampcmfmaabGreatJa32
import Derived.Test.YtcipdampcmfmaabGreatJa29
import Derived.Test.YtcipdampcmfmaabGreatJa30
namespace Go.Proofs.YtcipdampcmfmaabGreat
open Go.RowKit Go.Sort Go.Maps
theorem info_wd:∃ i0,Tryz.prog.info? 40=some i0/\i0.zero=some (.agg #[.int .u64 0,.int .u64 0])/\i0.size=2/\i0.bytes=16:=by
 have h:(Tryz.prog.info? 40).map (fun i=>(i.zero,i.size,i.bytes))=some (some (.agg #[.int .u64 0,.int .u64 0]),2,16):=by kernel_rfl
 obtain ⟨i,hi,hzz⟩:=Option.map_eq_some_iff.1 h
 simp only [Prod.mk.injEq] at hzz
 exact ⟨i,hi,hzz.1,hzz.2.1,hzz.2.2⟩
theorem info_i3:∃ i0,Tryz.prog.info? 3=some i0/\i0.zero=some (.int .i64 0)/\i0.size=1/\i0.bytes=8:=by
 have h:(Tryz.prog.info? 3).map (fun i=>(i.zero,i.size,i.bytes))=some (some (.int .i64 0),1,8):=by kernel_rfl
 obtain ⟨i,hi,hzz⟩:=Option.map_eq_some_iff.1 h
 simp only [Prod.mk.injEq] at hzz
 exact ⟨i,hi,hzz.1,hzz.2.1,hzz.2.2⟩
abbrev encW (d:Nat):List Value:=[.int .u64 (hi d),.int .u64 (lo d)]
def Fr3 (W W':World):Prop:=∀ b t,Ty W b t->t ≠ 3->W'.heap[b]? = W.heap[b]?
theorem Fr3.ty {W W':World} (h:Fr3 W W') {b:Nat} {t:TypeId} (ht:Ty W b t) (hn:t ≠ 3):Ty W' b t:=by
 obtain ⟨c,s,e⟩:=id ht
 exact ⟨c,s,by rw [h b t ht hn];exact e⟩
theorem Fr3.cell {W W':World} (h:Fr3 W W') {b i:Nat} {t:TypeId} {v:Value} (hc:W.cell? ⟨b,i,none⟩=some v) (ht:Ty W b t) (hn:t ≠ 3):W'.cell? ⟨b,i,none⟩=some v:=by
 rw [World.cell?_of_block (h b t ht hn)];exact hc
structure OuS (w W:World) (bf:Nat) (pv fv:Value) (pl:List Int) (fl:List Nat):Prop where
 pw:Own W w.heap.size pv pl
 fw:W.ownsRow w.heap.size 40 2 fv fl.length (fl.flatMap encW)
 var:W.cell? ⟨bf,0,none⟩=some fv
 tv:W.heap[bf]? = some (.cells #[fv] 115 (0,0))
 bfB:w.heap.size<=bf
 gb:Gb w W
 pn:pv ≠ .slice none 0 0
 fn:fv ≠ .slice none 0 0
 few:pl.length<=100/\fl.length<=100
theorem OuS.grow {w W W':World} {bf:Nat} {pv fv:Value} {pl:List Int} {fl:List Nat} (h:OuS w W bf pv fv pl fl) (g:Gb W W'):OuS w W' bf pv fv pl fl:=by
 have e:W'.heap[bf]? = _:=(g.block _ (Array.getElem?_eq_some_iff.1 h.tv).1).trans h.tv
 exact ⟨h.pw.gb g,own_kpR h.fw (kpF g) (fun _ _ h=>h),cell_cur e rfl,e,h.bfB,gb_trans h.gb g,h.pn,h.fn,h.few⟩
theorem OuS.putP {w W:World} {bf a:Nat} {pa:Option Addr} {pn pc:Nat} {fv:Value} {pl:List Int} {fl:List Nat} {x:Int} (h:OuS w W bf (.slice pa pn pc) fv pl fl) (hc:W.cell? ⟨a,0,none⟩=some (.int .i64 x)) (hl:pl.length + 1<=100) :
  ∃ g' c' W',(Builtin.append_ #[26,26] 26 #[.slice pa pn pc,.slice (some ⟨a,0,none⟩) 1 1]).run Tryz.prog W=.ok (.slice (some ⟨g',0,none⟩) (pl.length + 1) c') W'/\OuS w W' bf (.slice (some ⟨g',0,none⟩) (pl.length + 1) c') fv (pl ++ [x]) fl/\Fr3 W W':=by
 obtain ⟨i0,hi0,hz0,hz1,hz2⟩:=info_i3
 have hpw:=h.pw
 unfold Own at hpw
 obtain ⟨v',W',hr,hown,hgrow,hnn,_⟩:=run_append_own_at (P:=Tryz.prog) W w.heap.size 26 26 3 i0 (.int .i64 0) 1 8 Tryz.underlying26 hi0 hz0 hz1 hz2 rfl (by decide)
  (.slice pa pn pc) pl.length (pl.map (Value.int .i64)) hpw ⟨a,0,none⟩ 1 1 [.int .i64 x] rfl (fun j u hj=>by
   rcases j with _ | j
   ·simp at hj;subst hj;rw [Addr.add_lit];exact hc
   ·simp at hj) (by simp [Value.oneCell']) (by simp only [maxLen];omega) (by omega) h.gb.size
 have kp:Tk.Kp (fun b=>(Value.slice pa pn pc).ownBlock=some b) W W':=⟨hgrow.os,hgrow.tape,hgrow.output,hgrow.size,fun k hk hn=>hgrow.block k hk (fun e=>hn e.symm)⟩
 have fr:Fr3 W W':=fun b t ht hn=>by
  obtain ⟨c,s,e⟩:=id ht
  exact kp.block b (Array.getElem?_eq_some_iff.1 e).1 (fun e'=>ht.ne (own_ty h.pw e') hn rfl)
 have hown':=hown
 rcases hown.2 with ⟨e,_⟩ | ⟨g',c',cur,e,_⟩
 ·exact absurd (hnn.1 e).1 h.pn
 ·subst e
  have e:W'.heap[bf]? = _:=(fr bf _ ⟨_,_,h.tv⟩ (by decide)).trans h.tv
  refine ⟨g',c',W',hr,⟨?_,own_kpR h.fw kp (fun g e e'=>(own_ty h.fw e).ne (own_ty h.pw e') (by decide) rfl),cell_cur e rfl,e,h.bfB,h.gb.trans (kp.gr h.gb.size (fun b e=>(World.ownsRow.lt h.pw b e).1)),by simp,h.fn,by rw [List.length_append];exact ⟨hl,h.few.2⟩⟩,fr⟩
  unfold Own
  rw [List.map_append,List.length_append]
  exact hown'
theorem OuS.putF {w W:World} {bf b ab:Nat} {pv:Value} {fa:Option Addr} {fn fc:Nat} {pl:List Int} {fl:List Nat} {d:Nat} (h:OuS w W bf pv (.slice fa fn fc) pl fl) (hc0:W.cell? ⟨b,0,none⟩=some (.int .u64 (hi d))) (hc1:W.cell? ⟨b,1,none⟩=some (.int .u64 (lo d))) (ha0:W.cell? ⟨ab,0,none⟩=some (.int .u64 (hi d))) (ha1:W.cell? ⟨ab,1,none⟩=some (.int .u64 (lo d))) (hab:(Value.slice fa fn fc).ownBlock ≠ some ab/\ab ≠ bf) (hl:fl.length + 1<=100) :
  ∃ g' c' W',(Builtin.append_ #[115,115] 115 #[.slice fa fn fc,.slice (some ⟨b,0,none⟩) 1 1]).run Tryz.prog W=.ok (.slice (some ⟨g',0,none⟩) (fl.length + 1) c') W'/\(W'.cell? ⟨ab,0,none⟩=some (.int .u64 (hi d))/\W'.cell? ⟨ab,1,none⟩=some (.int .u64 (lo d)))/\(∃ y,W'.cell? ⟨bf,0,none⟩=some y)/\W'.frozen? ⟨bf,0,none⟩=false /\
   ((W'.setCell ⟨bf,0,none⟩ (.slice (some ⟨g',0,none⟩) (fl.length + 1) c')).cell? ⟨ab,0,none⟩=some (.int .u64 (hi d))/\(W'.setCell ⟨bf,0,none⟩ (.slice (some ⟨g',0,none⟩) (fl.length + 1) c')).cell? ⟨ab,1,none⟩=some (.int .u64 (lo d)))/\OuS w (W'.setCell ⟨bf,0,none⟩ (.slice (some ⟨g',0,none⟩) (fl.length + 1) c')) bf pv (.slice (some ⟨g',0,none⟩) (fl.length + 1) c') pl (fl ++ [d]):=by
 obtain ⟨i0,hi0,hz0,hz1,hz2⟩:=info_wd
 obtain ⟨v',W',hr,hown,hgrow,hnn,_⟩:=run_append_own_at (P:=Tryz.prog) W w.heap.size 115 115 40 i0 (.agg #[.int .u64 0,.int .u64 0]) 2 16 Tryz.underlying115 hi0 hz0 hz1 hz2 rfl (by decide)
  (.slice fa fn fc) fl.length (fl.flatMap encW) h.fw ⟨b,0,none⟩ 1 1 (encW d) rfl (fun j u hj=>by
   rcases j with _ | _ | j
   ·simp at hj;subst hj;rw [Addr.add_lit];exact hc0
   ·simp at hj;subst hj;rw [Addr.add_lit];exact hc1
   ·simp at hj) (by simp [Value.oneCell']) (by simp only [maxLen];omega) (by have:=h.few;omega) h.gb.size
 have kp:Tk.Kp (fun b=>(Value.slice fa fn fc).ownBlock=some b) W W':=⟨hgrow.os,hgrow.tape,hgrow.output,hgrow.size,fun k hk hn=>hgrow.block k hk (fun e=>hn e.symm)⟩
 have hown':=hown
 rcases hown.2 with ⟨e,_⟩ | ⟨g',c',cur,e,_⟩
 ·exact absurd (hnn.1 e).1 h.fn
 ·subst e
  have e:W'.heap[bf]? = _:=(kp.block bf (Array.getElem?_eq_some_iff.1 h.tv).1 (fun e'=>(own_ty h.fw e').ne ⟨_,_,h.tv⟩ (by decide) rfl)).trans h.tv
  have k3:Tk.Kp (fun b=>b=bf) W' (W'.setCell ⟨bf,0,none⟩ (.slice (some ⟨g',0,none⟩) (fl.length + 1) c')):=(Tk.Kp.refl (fun b=>b=bf) W').setCell (.inl rfl) _
  have a0:=kp.cell ha0 hab.1
  have a1:=kp.cell ha1 hab.1
  have e2:(W'.setCell ⟨bf,0,none⟩ (.slice (some ⟨g',0,none⟩) (fl.length + 1) c')).heap[bf]? = some (.cells #[.slice (some ⟨g',0,none⟩) (fl.length + 1) c'] 115 (0,0)):=by simp [World.setCell,Array.getElem?_modify,e]
  refine ⟨g',c',W',hr,⟨a0,a1⟩,⟨_,cell_cur e rfl⟩,by simp [World.frozen?,e],⟨k3.cell a0 hab.2,k3.cell a1 hab.2⟩,⟨?_,?_,cell_cur e2 rfl,e2,h.bfB,?_,h.pn,by simp,by rw [List.length_append];exact ⟨h.few.1,hl⟩⟩⟩
  ·refine own_kpI (own_kpI h.pw kp (fun g e1 e'=>(own_ty h.pw e1).ne (own_ty h.fw e') (by decide) rfl)) k3 (fun g e1 e'=>(own_ty h.pw e1).ne ⟨_,_,h.tv⟩ (by decide) e')
  ·rw [List.flatMap_append,List.length_append]
   simp only [List.flatMap_cons,List.flatMap_nil,List.append_nil]
   exact own_kpR hown' k3 (fun g e1 e'=>(own_ty hown' e1).ne ⟨_,_,e⟩ (by decide) e')
  ·have b1:Below w.heap.size w W':=h.gb.trans (kp.gr h.gb.size (fun b e=>(h.fw.lt b e).1))
   exact b1.trans (k3.gr (by have:=kp.size;have:=h.gb.size;omega) (fun b e=>by rw [e];exact h.bfB))
end Go.Proofs.YtcipdampcmfmaabGreat
