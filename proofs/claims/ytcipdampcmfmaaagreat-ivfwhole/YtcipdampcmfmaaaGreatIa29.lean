import Derived.Test.YtcipdampcmfmaaaGreatIa25
import Derived.Test.YtcipdampcmfmaaaGreatIa24
import Derived.Test.YtcipdampcmfmaaaGreatIa28
import Derived.Test.YtcipdampcmfmaaaGreatIa6
import Derived.Test.YtcipdampcmfmaaaGreatIa15
import Derived.Test.YtcipdampcmfmaaaGreatIa1
namespace Go.Proofs.YtcipdampcmfmaaaGreat
open Go.RowKit Go.Sort Go.Maps
theorem info_wd:∃ i0,Tryz.prog.info? 79=some i0/\i0.zero=some (.agg #[.int .u64 0,.int .u64 0])/\i0.size=2/\i0.bytes=16:=by
 have h:(Tryz.prog.info? 79).map (fun i=>(i.zero,i.size,i.bytes))=some (some (.agg #[.int .u64 0,.int .u64 0]),2,16):=by kernel_rfl
 obtain ⟨i,hi,hzz⟩:=Option.map_eq_some_iff.1 h
 simp only [Prod.mk.injEq] at hzz
 exact ⟨i,hi,hzz.1,hzz.2.1,hzz.2.2⟩
theorem info_i3:∃ i0,Tryz.prog.info? 3=some i0/\i0.zero=some (.int .i64 0)/\i0.size=1/\i0.bytes=8:=by
 have h:(Tryz.prog.info? 3).map (fun i=>(i.zero,i.size,i.bytes))=some (some (.int .i64 0),1,8):=by kernel_rfl
 obtain ⟨i,hi,hzz⟩:=Option.map_eq_some_iff.1 h
 simp only [Prod.mk.injEq] at hzz
 exact ⟨i,hi,hzz.1,hzz.2.1,hzz.2.2⟩
abbrev encW (d:Nat):List Value:=[.int .u64 (hi d),.int .u64 (lo d)]
def Fr3 (W W':World):Prop:=∀ b t,Ty W b t->t ≠ 3->W'.heap[b]? = W.heap[b]?
theorem Fr3.ty {W W':World} (h:Fr3 W W') {b:Nat} {t:TypeId} (ht:Ty W b t) (hn:t ≠ 3):Ty W' b t:=by
 obtain ⟨c,s,e⟩:=id ht
 exact ⟨c,s,by rw [h b t ht hn];exact e⟩
theorem Fr3.cell {W W':World} (h:Fr3 W W') {b i:Nat} {t:TypeId} {v:Value} (hc:W.cell? ⟨b,i,none⟩=some v) (ht:Ty W b t) (hn:t ≠ 3):W'.cell? ⟨b,i,none⟩=some v:=by
 rw [World.cell?_of_block (h b t ht hn)];exact hc
structure OuS (w W:World) (bf:Nat) (pv fv:Value) (pl:List Int) (fl:List Nat):Prop where
 pw:Own W w.heap.size pv pl
 fw:W.ownsRow w.heap.size 79 2 fv fl.length (fl.flatMap encW)
 var:W.cell? ⟨bf,0,none⟩=some fv
 tv:W.heap[bf]? = some (.cells #[fv] 123 (0,0))
 bfB:w.heap.size<=bf
 gb:Gb w W
 pn:pv ≠ .slice none 0 0
 fn:fv ≠ .slice none 0 0
 few:pl.length<=100/\fl.length<=100
theorem OuS.grow {w W W':World} {bf:Nat} {pv fv:Value} {pl:List Int} {fl:List Nat} (h:OuS w W bf pv fv pl fl) (g:Gb W W'):OuS w W' bf pv fv pl fl:=by
 have e:W'.heap[bf]? = _:=(g.block _ (Array.getElem?_eq_some_iff.1 h.tv).1).trans h.tv
 exact ⟨h.pw.gb g,own_kpR h.fw (kpF g) (fun _ _ h=>h),cell_cur e rfl,e,h.bfB,gb_trans h.gb g,h.pn,h.fn,h.few⟩
theorem OuS.putP {w W:World} {bf a:Nat} {pa:Option Addr} {pn pc:Nat} {fv:Value} {pl:List Int} {fl:List Nat} {x:Int} (h:OuS w W bf (.slice pa pn pc) fv pl fl) (hc:W.cell? ⟨a,0,none⟩=some (.int .i64 x)) (hl:pl.length + 1<=100) :
  ∃ g' c' W',(Builtin.append_ #[41,41] 41 #[.slice pa pn pc,.slice (some ⟨a,0,none⟩) 1 1]).run Tryz.prog W=.ok (.slice (some ⟨g',0,none⟩) (pl.length + 1) c') W'/\OuS w W' bf (.slice (some ⟨g',0,none⟩) (pl.length + 1) c') fv (pl ++ [x]) fl/\Fr3 W W':=by
 obtain ⟨i0,hi0,hz0,hz1,hz2⟩:=info_i3
 have hpw:=h.pw
 unfold Own at hpw
 obtain ⟨v',W',hr,hown,hgrow,hnn,_⟩:=run_append_own_at (P:=Tryz.prog) W w.heap.size 41 41 3 i0 (.int .i64 0) 1 8 Tryz.underlying41 hi0 hz0 hz1 hz2 rfl (by decide)
  (.slice pa pn pc) pl.length (pl.map (Value.int .i64)) hpw ⟨a,0,none⟩ 1 1 [.int .i64 x] rfl (fun j u hj=>by
   rcases j with _ | j
   ·simp at hj;subst hj;rw [Addr.add_lit];exact hc
   ·simp at hj) (by simp [Value.oneCell']) (by simp only [maxLen];omega) (by omega) h.gb.size
 have kp:Tk.Kp (fun b=>(Value.slice pa pn pc).ownBlock=some b) W W':=⟨hgrow.os,hgrow.tape,hgrow.output,hgrow.size,fun k hk hn=>hgrow.block k hk (fun e=>hn e.symm)⟩
 have fr:Fr3 W W':=fun b t ht hn=>by
  obtain ⟨c,s,e⟩:=id ht
  exact kp.block b (Array.getElem?_eq_some_iff.1 e).1 (fun e'=>ht.ne (own_ty h.pw e') hn rfl)
 have hown':=hown
 rcases hown.2 with ⟨e,_⟩ | ⟨g',c',cur,e,_⟩
 ·exact absurd (hnn.1 e).1 h.pn
 ·subst e
  have e:W'.heap[bf]? = _:=(fr bf _ ⟨_,_,h.tv⟩ (by decide)).trans h.tv
  refine ⟨g',c',W',hr,⟨?_,own_kpR h.fw kp (fun g e e'=>(own_ty h.fw e).ne (own_ty h.pw e') (by decide) rfl),cell_cur e rfl,e,h.bfB,h.gb.trans (kp.gr h.gb.size (fun b e=>(World.ownsRow.lt h.pw b e).1)),by simp,h.fn,by rw [List.length_append];exact ⟨hl,h.few.2⟩⟩,fr⟩
  unfold Own
  rw [List.map_append,List.length_append]
  exact hown'
theorem OuS.putF {w W:World} {bf b ab:Nat} {pv:Value} {fa:Option Addr} {fn fc:Nat} {pl:List Int} {fl:List Nat} {d:Nat} (h:OuS w W bf pv (.slice fa fn fc) pl fl) (hc0:W.cell? ⟨b,0,none⟩=some (.int .u64 (hi d))) (hc1:W.cell? ⟨b,1,none⟩=some (.int .u64 (lo d))) (ha0:W.cell? ⟨ab,0,none⟩=some (.int .u64 (hi d))) (ha1:W.cell? ⟨ab,1,none⟩=some (.int .u64 (lo d))) (hab:(Value.slice fa fn fc).ownBlock ≠ some ab/\ab ≠ bf) (hl:fl.length + 1<=100) :
  ∃ g' c' W',(Builtin.append_ #[123,123] 123 #[.slice fa fn fc,.slice (some ⟨b,0,none⟩) 1 1]).run Tryz.prog W=.ok (.slice (some ⟨g',0,none⟩) (fl.length + 1) c') W'/\(W'.cell? ⟨ab,0,none⟩=some (.int .u64 (hi d))/\W'.cell? ⟨ab,1,none⟩=some (.int .u64 (lo d)))/\(∃ y,W'.cell? ⟨bf,0,none⟩=some y)/\W'.frozen? ⟨bf,0,none⟩=false /\
   ((W'.setCell ⟨bf,0,none⟩ (.slice (some ⟨g',0,none⟩) (fl.length + 1) c')).cell? ⟨ab,0,none⟩=some (.int .u64 (hi d))/\(W'.setCell ⟨bf,0,none⟩ (.slice (some ⟨g',0,none⟩) (fl.length + 1) c')).cell? ⟨ab,1,none⟩=some (.int .u64 (lo d)))/\OuS w (W'.setCell ⟨bf,0,none⟩ (.slice (some ⟨g',0,none⟩) (fl.length + 1) c')) bf pv (.slice (some ⟨g',0,none⟩) (fl.length + 1) c') pl (fl ++ [d]):=by
 obtain ⟨i0,hi0,hz0,hz1,hz2⟩:=info_wd
 obtain ⟨v',W',hr,hown,hgrow,hnn,_⟩:=run_append_own_at (P:=Tryz.prog) W w.heap.size 123 123 79 i0 (.agg #[.int .u64 0,.int .u64 0]) 2 16 Tryz.underlying123 hi0 hz0 hz1 hz2 rfl (by decide)
  (.slice fa fn fc) fl.length (fl.flatMap encW) h.fw ⟨b,0,none⟩ 1 1 (encW d) rfl (fun j u hj=>by
   rcases j with _ | _ | j
   ·simp at hj;subst hj;rw [Addr.add_lit];exact hc0
   ·simp at hj;subst hj;rw [Addr.add_lit];exact hc1
   ·simp at hj) (by simp [Value.oneCell']) (by simp only [maxLen];omega) (by have:=h.few;omega) h.gb.size
 have kp:Tk.Kp (fun b=>(Value.slice fa fn fc).ownBlock=some b) W W':=⟨hgrow.os,hgrow.tape,hgrow.output,hgrow.size,fun k hk hn=>hgrow.block k hk (fun e=>hn e.symm)⟩
 have hown':=hown
 rcases hown.2 with ⟨e,_⟩ | ⟨g',c',cur,e,_⟩
 ·exact absurd (hnn.1 e).1 h.fn
 ·subst e
  have e:W'.heap[bf]? = _:=(kp.block bf (Array.getElem?_eq_some_iff.1 h.tv).1 (fun e'=>(own_ty h.fw e').ne ⟨_,_,h.tv⟩ (by decide) rfl)).trans h.tv
  have k3:Tk.Kp (fun b=>b=bf) W' (W'.setCell ⟨bf,0,none⟩ (.slice (some ⟨g',0,none⟩) (fl.length + 1) c')):=(Tk.Kp.refl (fun b=>b=bf) W').setCell (.inl rfl) _
  have a0:=kp.cell ha0 hab.1
  have a1:=kp.cell ha1 hab.1
  have e2:(W'.setCell ⟨bf,0,none⟩ (.slice (some ⟨g',0,none⟩) (fl.length + 1) c')).heap[bf]? = some (.cells #[.slice (some ⟨g',0,none⟩) (fl.length + 1) c'] 123 (0,0)):=by simp [World.setCell,Array.getElem?_modify,e]
  refine ⟨g',c',W',hr,⟨a0,a1⟩,⟨_,cell_cur e rfl⟩,by simp [World.frozen?,e],⟨k3.cell a0 hab.2,k3.cell a1 hab.2⟩,⟨?_,?_,cell_cur e2 rfl,e2,h.bfB,?_,h.pn,by simp,by rw [List.length_append];exact ⟨h.few.1,hl⟩⟩⟩
  ·refine own_kpI (own_kpI h.pw kp (fun g e1 e'=>(own_ty h.pw e1).ne (own_ty h.fw e') (by decide) rfl)) k3 (fun g e1 e'=>(own_ty h.pw e1).ne ⟨_,_,h.tv⟩ (by decide) e')
  ·rw [List.flatMap_append,List.length_append]
   simp only [List.flatMap_cons,List.flatMap_nil,List.append_nil]
   exact own_kpR hown' k3 (fun g e1 e'=>(own_ty hown' e1).ne ⟨_,_,e⟩ (by decide) e')
  ·have b1:Below w.heap.size w W':=h.gb.trans (kp.gr h.gb.size (fun b e=>(h.fw.lt b e).1))
   exact b1.trans (k3.gr (by have:=kp.size;have:=h.gb.size;omega) (fun b e=>by rw [e];exact h.bfB))
end Go.Proofs.YtcipdampcmfmaaaGreat

namespace Go.Proofs.YtcipdampcmfmaaaGreat
open Go.RowKit Go.Sort
set_option maxRecDepth 100000
set_option maxHeartbeats 8000000
theorem tag_nextR {c lt:El->El->Prop} {l l1:List El} {a b i:Nat} (h:TagR c lt l a b) (hs:Seg l l1 a i) (hr:Ri lt l1 a i) (hai:a<=i) (hib:i < b) (hb:b<=l.length):InsR c lt l1 l1 a i i:=by
 refine ⟨Seg.refl _ _ _,hr,fun x y h1 h2 h3=>by omega,fun x y h1 h2 h3 h4=>by omega,fun x h1 h2=>?_⟩
 obtain ⟨y,hy,e⟩:=hs.mem hai (by omega) (i:=x) ⟨h1,h2⟩
 rw [e,hs.out i (Or.inr (Nat.le_refl _))]
 exact h y i hy.1 hy.2 hib
theorem insR {w:World} {g o cap bf a b:Nat} {l:List El} {c lt:El->El->Prop} (ht:∀ x y z,lt x y->lt y z->lt x z) (h:SRA w g o l) (hl:l.length<=4000) (hab:a<=b) (hb:b<=l.length) (hT:TagR c lt l a b) (hc:CmpR w g bf l c) :
  Calls Tryz.prog 116 #[.slice (some ⟨g,o,none⟩) l.length cap,.int .i64 (a:Int),.int .i64 (b:Int),.func (.func 100) #[] #[.pointer (some ⟨bf,0,none⟩)]] w fun e w'=>e=.returned (.tuple #[])/\∃ l',Seg l l' a b/\Ri lt l' a b/\SRA w' g o l'/\Tk.Kp (fun k=>k=g) w w':=by
 have H0:Hid (SRA w g o l):=h
 have CC:Hid (CmpR w g bf l c):=hc
 have PM:Hid (TagR c lt l a b/\∀ x y z,lt x y->lt y z->lt x z):=⟨hT,ht⟩
 clear h hc hT ht
 go_enter Tryz.func116,Tryz.ntmps116
 go_wp2
 go_loopw [8] (fun iv W0=>∃ (W:World) (_:W=W0) (i:Nat) (l1:List El),iv=.int .i64 (i:Int)/\a + 1<=i/\(i<=b ∨ (i=a + 1/\l1=l))/\Hid (Seg l l1 a i/\Ri lt l1 a i/\SRA W g o l1/\Tk.Kp (fun k=>k=g) w W)) (fun iv _=>b - (intOf iv).toNat)
 case atStart=>exact ⟨_,rfl,a + 1,l,by go_num,Nat.le_refl _,Or.inr ⟨rfl,rfl⟩,Seg.refl _ _ _,fun x y h1 h2 h3=>by omega,H0.out,Tk.Kp.refl _ _⟩
 case round =>
  obtain ⟨W0,hW0,i,l1,rfl,hai,hib,X⟩:=hrel
  subst hW0
  by_cases hi:i < b
  ·have hii:(i:Int) < (b:Int):=by omega
   have hl1:Hid (l1.length=l.length):=X.out.1.len
   have I0:Hid (InsR c lt l1 l1 a i i):=tag_nextR PM.out.1 X.out.1 X.out.2.1 (by omega) hi hb
   go_wp2
   go_loopw [9] (fun jv W1=>∃ (W:World) (_:W=W1) (j:Nat) (l2:List El),jv=.int .i64 (j:Int)/\a<=j/\j<=i/\Hid (InsR c lt l1 l2 a i j/\SRA W g o l2/\Tk.Kp (fun k=>k=g) w W)) (fun jv _=>(intOf jv).toNat)
   case atStart=>exact ⟨_,rfl,i,l1,rfl,by omega,Nat.le_refl _,I0.out,X.out.2.2.1,X.out.2.2.2⟩
   case round =>
    obtain ⟨W,hW,j,l2,rfl,haj,hji,Y⟩:=hrel
    subst hW
    have DN:Hid (∀ (W2:World),Tk.Gw W W2->(j=a ∨ ¬ c l2[j]! l2[j - 1]!)->Seg l l2 a (i + 1)/\Ri lt l2 a (i + 1)/\SRA W2 g o l2/\Tk.Kp (fun k=>k=g) w W2):=fun W2 hg hd =>
     ⟨(X.out.1.mono (Nat.le_refl _) (Nat.le_succ _)).trans Y.out.1.seg,Y.out.1.fin PM.out.2 haj hji hd,Y.out.2.1.same (hg.gr.block _ Y.out.2.1.lt),Y.out.2.2.trans (Tk.Kp.of_gr hg.gr)⟩
    by_cases hja:a < j
    ·obtain ⟨k,hjk⟩:∃ k,k + 1=j:=⟨j - 1,by omega⟩
     have ek:(j:Int) - 1=(k:Int):=by omega
     have haji:(a:Int) < (j:Int):=by omega
     have hl2:l2.length=l.length:=Y.out.1.seg.len.trans hl1.out
     have k1:(j:Int) < (l.length:Int):=by omega
     have k2:(k:Int) < (l.length:Int):=by omega
     have wk:IntKind.i64.wrap (k:Int)=(k:Int):=wrap_small (by omega)
     obtain ⟨x,y,⟨c1,c1b⟩,⟨c2,c2b⟩,E1,E2,XL⟩:∃ x y:El,(W.cell? ⟨g,o + j * 2,none⟩=some (.int .i64 x.1)/\W.cell? ⟨g,o + j * 2 + 1,none⟩=some (sl x))/\(W.cell? ⟨g,o + k * 2,none⟩=some (.int .i64 y.1)/\W.cell? ⟨g,o + k * 2 + 1,none⟩=some (sl y))/\Hid (x ∈ l)/\Hid (y ∈ l)/\Hid (∀ z:Int,(z < 0 ↔ c x y)->(z < 0->InsR c lt l1 (sws l2 j k) a i k/\∀ W2,Tk.Gw W W2->SRA ((((W2.setCell ⟨g,o + j * 2,none⟩ (.int .i64 y.1)).setCell ⟨g,o + j * 2 + 1,none⟩ (sl y)).setCell ⟨g,o + k * 2,none⟩ (.int .i64 x.1)).setCell ⟨g,o + k * 2 + 1,none⟩ (sl x)) g o (sws l2 j k))/\(¬ z < 0->¬ c l2[j]! l2[j - 1]!)):=by
      have hm:∀ t,t < l2.length->l2[t]! ∈ l:=fun t ht=>X.out.1.perm.mem_iff.1 (Y.out.1.seg.perm.mem_iff.1 (get_memR ht))
      refine ⟨l2[j]!,l2[k]!,Y.out.2.1.cell (by omega),Y.out.2.1.cell (by omega),hm j (by omega),hm k (by omega),fun z hz=>⟨fun h=>⟨?_,fun W2 hg=>(Y.out.2.1.same (hg.gr.block _ Y.out.2.1.lt)).sws (by omega) (by omega)⟩,fun h h'=>h (hz.2 (by rw [show j - 1=k by omega] at h';exact h'))⟩⟩
      have hlt:lt l2[j]! l2[j - 1]! := (Y.out.1.tag (j - 1) (by omega) (by omega)).1.1 (by rw [show j - 1=k by omega];exact hz.1 h)
      have q:=Y.out.1.down hja hji (by have:=hl1.out;omega) hlt
      rw [show j - 1=k by omega] at q
      exact q
     have KW:Hid (Tk.Kp (fun k=>k=g) w W):=Y.out.2.2
     obtain ⟨x1,x2,x3,x4⟩:=x
     obtain ⟨y1,y2,y3,y4⟩:=y
     simp only [sl] at c1 c1b c2 c2b
     have F1:Hid (∀ W2,Tk.Gw W W2->W2.frozen? ⟨g,o + j * 2,none⟩=false/\W2.frozen? ⟨g,o + j * 2 + 1,none⟩=false/\W2.frozen? ⟨g,o + k * 2,none⟩=false/\W2.frozen? ⟨g,o + k * 2 + 1,none⟩=false/\W2.cell? ⟨g,o + j * 2,none⟩=some (.int .i64 x1)/\W2.cell? ⟨g,o + j * 2 + 1,none⟩=some (.slice x2 x3 x4)/\W2.cell? ⟨g,o + k * 2,none⟩=some (.int .i64 y1)/\W2.cell? ⟨g,o + k * 2 + 1,none⟩=some (.slice y2 y3 y4)/\g < W2.heap.size):=fun W2 hg=>by
      have q:=Y.out.2.1.same (hg.gr.block _ Y.out.2.1.lt)
      exact ⟨q.froz _,q.froz _,q.froz _,q.froz _,gwk hg c1,gwk hg c1b,gwk hg c2,gwk hg c2b,q.lt⟩
     have hne:j ≠ k:=by omega
     have JK:Hid (k + 1=j):=hjk
     clear hl2 hjk
     go_wp2
     refine wp_region_held_drew (S:=fun W2=>Tk.Gw W W2) (by kernel_rfl) ((Tk.Gw.refl W).drew) (fun hHeld=>?_)
     refine tkn 0 ?_ rfl ?_ ?_;rotate_left;·(intro w hSw;(have s1:=gwk hSw c1;have s2:=gwk hSw c2;have s3:=gwk hSw c1b;have s4:=gwk hSw c2b);go_simp;try rfl)
     try simp only [pt]
     refine tkn 1 ?_ rfl ?_ ?_;rotate_left;·(intro w hSw;(have s1:=gwk hSw c1;have s2:=gwk hSw c2;have s3:=gwk hSw c1b;have s4:=gwk hSw c2b);go_simp;try rfl)
     try simp only [pt]
     refine tkn 2 ?_ rfl ?_ ?_;rotate_left;·(intro w hSw;(have s1:=gwk hSw c1;have s2:=gwk hSw c2;have s3:=gwk hSw c1b;have s4:=gwk hSw c2b);go_simp;try rfl)
     try simp only [pt]
     refine tkn 3 ?_ rfl ?_ ?_;rotate_left;·(intro w hSw;(have s1:=gwk hSw c1;have s2:=gwk hSw c2;have s3:=gwk hSw c1b;have s4:=gwk hSw c2b);go_simp;try rfl)
     try simp only [pt]
     refine tkn 4 ?_ rfl ?_ ?_;rotate_left;·(intro w hSw;(have s1:=gwk hSw c1;have s2:=gwk hSw c2;have s3:=gwk hSw c1b;have s4:=gwk hSw c2b);go_simp;try rfl)
     try simp only [pt]
     refine tkn 5 ?_ rfl ?_ ?_;rotate_left;·(intro w hSw;(have s1:=gwk hSw c1;have s2:=gwk hSw c2;have s3:=gwk hSw c1b;have s4:=gwk hSw c2b);go_simp;try rfl)
     try simp only [pt]
     refine tkn 6 ?_ rfl ?_ ?_;rotate_left;·(intro w hSw;(have s1:=gwk hSw c1;have s2:=gwk hSw c2;have s3:=gwk hSw c1b;have s4:=gwk hSw c2b);go_simp;try rfl)
     try simp only [pt]
     refine tkn 7 ?_ rfl ?_ ?_;rotate_left;·(intro w hSw;(have s1:=gwk hSw c1;have s2:=gwk hSw c2;have s3:=gwk hSw c1b;have s4:=gwk hSw c2b);go_simp;try rfl)
     try simp only [pt]
     refine tkn 8 ?_ rfl ?_ ?_;rotate_left;·(intro w hSw;(have s1:=gwk hSw c1;have s2:=gwk hSw c2;have s3:=gwk hSw c1b;have s4:=gwk hSw c2b);go_simp;try rfl)
     try simp only [pt]
     refine tkn 9 ?_ rfl ?_ ?_;rotate_left;·(intro w hSw;(have s1:=gwk hSw c1;have s2:=gwk hSw c2;have s3:=gwk hSw c1b;have s4:=gwk hSw c2b);go_simp;try rfl)
     try simp only [pt]
     refine tkn 10 ?_ rfl ?_ ?_;rotate_left;·(intro w hSw;(have s1:=gwk hSw c1;have s2:=gwk hSw c2;have s3:=gwk hSw c1b;have s4:=gwk hSw c2b);go_simp;try rfl)
     try simp only [pt]
     refine tkn 11 ?_ rfl ?_ ?_;rotate_left;·(intro w hSw;(have s1:=gwk hSw c1;have s2:=gwk hSw c2;have s3:=gwk hSw c1b;have s4:=gwk hSw c2b);go_simp;try rfl)
     try simp only [pt]
     refine tkn 12 ?_ rfl ?_ ?_;rotate_left;·(intro w hSw;(have s1:=gwk hSw c1;have s2:=gwk hSw c2;have s3:=gwk hSw c1b;have s4:=gwk hSw c2b);go_simp;try rfl)
     try simp only [pt]
     refine tkn 13 ?_ rfl ?_ ?_;rotate_left;·(intro w hSw;(have s1:=gwk hSw c1;have s2:=gwk hSw c2;have s3:=gwk hSw c1b;have s4:=gwk hSw c2b);go_simp;try rfl)
     try simp only [pt]
     refine rdn 14 rfl (fun K hK=>?_)
     go_simp
     refine (CC.out _ (KW.out.trans (Tk.Kp.of_gr hHeld.gr)) _ _ E1.out E2.out).mono ?_
     rintro e wa ⟨z,rfl,hz,ga⟩
     refine hK.out _ _ (hHeld.trans ga) (fun hHeld=>?_)
     clear hK K
     try simp only [pt]
     refine tkn 15 ?_ rfl ?_ ?_;rotate_left;·(intro w hSw;(have s1:=gwk hSw c1;have s2:=gwk hSw c2;have s3:=gwk hSw c1b;have s4:=gwk hSw c2b);go_simp;try rfl)
     try simp only [pt]
     refine tkn 16 ?_ rfl ?_ ?_;rotate_left;·(intro w hSw;(have s1:=gwk hSw c1;have s2:=gwk hSw c2;have s3:=gwk hSw c1b;have s4:=gwk hSw c2b);go_simp;try rfl)
     try simp only [pt]
     refine wpAnyH_done (by kernel_rfl) ?_ _
     have XZ:Hid _:=XL.out z hz
     obtain ⟨f1,f1b,f2,f2b,c3,c3b,c4,c4b,lt4⟩:=F1.out _ hHeld
     clear hz XL F1
     by_cases hz0:z < 0
     ·have N:=(XZ.out.1 hz0).1
      have N':Hid (InsR c lt l1 (sws l2 j k) a i k):=N
      have M:Hid (SRA ((((wa.setCell ⟨g,o + j * 2,none⟩ (.int .i64 y1)).setCell ⟨g,o + j * 2 + 1,none⟩ (.slice y2 y3 y4)).setCell ⟨g,o + k * 2,none⟩ (.int .i64 x1)).setCell ⟨g,o + k * 2 + 1,none⟩ (.slice x2 x3 x4)) g o (sws l2 j k)):=(XZ.out.1 hz0).2 _ hHeld
      clear N XZ
      go_wp2
      go_region
      go_wp2
      go_roundw
      case rel=>exact ⟨_,rfl,k,sws l2 j k,rfl,by have:=JK.out;omega,by have:=JK.out;omega,N'.out,M.out.same rfl,KW.out.trans ((Tk.Kp.of_gr hHeld.gr).trans (kp_swr _ g _ _ _ _ _ _ _ _))⟩
      case measure=>have:=JK.out;simp [intOf];omega
     ·have D:=DN.out _ hHeld (Or.inr (XZ.out.2 (by omega)))
      have D':Hid _:=D
      clear D XZ
      go_wp2
      go_roundw
      case rel=>exact ⟨_,rfl,i + 1,l2,by go_num,by omega,Or.inl hi,D'.out⟩
      case measure=>simp [intOf];omega
    ·obtain rfl:j=a:=by omega
     have haji:¬ (j:Int) < (j:Int):=by omega
     have JA:Hid (∀ W2,Tk.Gw W W2->Seg l l2 j (i + 1)/\Ri lt l2 j (i + 1)/\SRA W2 g o l2/\Tk.Kp (fun k=>k=g) w W2):=fun W2 hg=>DN.out W2 hg (Or.inl rfl)
     clear DN Y I0 X
     go_wp2
     refine wp_region_held_drew (S:=fun W2=>Tk.Gw W W2) (by kernel_rfl) ((Tk.Gw.refl W).drew) (fun hHeld=>?_)
     refine tkn 0 ?_ rfl ?_ ?_;rotate_left;·(intro w hSw;(try dsimp only at hSw);go_simp;try rfl)
     try simp only [pt]
     refine tkn 1 ?_ rfl ?_ ?_;rotate_left;·(intro w hSw;(try dsimp only at hSw);go_simp;try rfl)
     try simp only [pt]
     refine tkn 2 ?_ rfl ?_ ?_;rotate_left;·(intro w hSw;(try dsimp only at hSw);go_simp;try rfl)
     try simp only [pt]
     refine tkn 3 ?_ rfl ?_ ?_;rotate_left;·(intro w hSw;(try dsimp only at hSw);go_simp;try rfl)
     try simp only [pt]
     refine wpAnyH_take (i:=4) (v:=undef) rfl (by kernel_rfl) (by kernel_rfl) (by kernel_rfl) (fun _ _ _ h=>h) (Or.inr ⟨by rfl,rfl⟩) (by assumption) ?_
     try simp only [pt]
     refine wpAnyH_take (i:=5) (v:=undef) rfl (by kernel_rfl) (by kernel_rfl) (by kernel_rfl) (fun _ _ _ h=>h) (Or.inr ⟨by rfl,rfl⟩) (by assumption) ?_
     try simp only [pt]
     refine wpAnyH_take (i:=6) (v:=undef) rfl (by kernel_rfl) (by kernel_rfl) (by kernel_rfl) (fun _ _ _ h=>h) (Or.inr ⟨by rfl,rfl⟩) (by assumption) ?_
     try simp only [pt]
     refine wpAnyH_take (i:=7) (v:=undef) rfl (by kernel_rfl) (by kernel_rfl) (by kernel_rfl) (fun _ _ _ h=>h) (Or.inr ⟨by rfl,rfl⟩) (by assumption) ?_
     try simp only [pt]
     refine wpAnyH_take (i:=8) (v:=undef) rfl (by kernel_rfl) (by kernel_rfl) (by kernel_rfl) (fun _ _ _ h=>h) (Or.inr ⟨by rfl,rfl⟩) (by assumption) ?_
     try simp only [pt]
     refine wpAnyH_take (i:=9) (v:=undef) rfl (by kernel_rfl) (by kernel_rfl) (by kernel_rfl) (fun _ _ _ h=>h) (Or.inr ⟨by rfl,rfl⟩) (by assumption) ?_
     try simp only [pt]
     refine wpAnyH_take (i:=10) (v:=undef) rfl (by kernel_rfl) (by kernel_rfl) (by kernel_rfl) (fun _ _ _ h=>h) (Or.inr ⟨by rfl,rfl⟩) (by assumption) ?_
     try simp only [pt]
     refine wpAnyH_take (i:=11) (v:=undef) rfl (by kernel_rfl) (by kernel_rfl) (by kernel_rfl) (fun _ _ _ h=>h) (Or.inr ⟨by rfl,rfl⟩) (by assumption) ?_
     try simp only [pt]
     refine wpAnyH_take (i:=12) (v:=undef) rfl (by kernel_rfl) (by kernel_rfl) (by kernel_rfl) (fun _ _ _ h=>h) (Or.inr ⟨by rfl,rfl⟩) (by assumption) ?_
     try simp only [pt]
     refine wpAnyH_take (i:=13) (v:=undef) rfl (by kernel_rfl) (by kernel_rfl) (by kernel_rfl) (fun _ _ _ h=>h) (Or.inr ⟨by rfl,rfl⟩) (by assumption) ?_
     try simp only [pt]
     refine wpAnyH_take (i:=14) (v:=undef) rfl (by kernel_rfl) (by kernel_rfl) (by kernel_rfl) (fun _ _ _ h=>h) (Or.inr ⟨by rfl,rfl⟩) (by assumption) ?_
     try simp only [pt]
     refine wpAnyH_take (i:=15) (v:=undef) rfl (by kernel_rfl) (by kernel_rfl) (by kernel_rfl) (fun _ _ _ h=>h) (Or.inr ⟨by rfl,rfl⟩) (by assumption) ?_
     try simp only [pt]
     refine tkn 16 ?_ rfl ?_ ?_;rotate_left;·(intro w hSw;(try dsimp only at hSw);go_simp;try rfl)
     try simp only [pt]
     refine wpAnyH_done (by kernel_rfl) ?_ _
     have D':Hid _:=JA.out _ hHeld
     clear JA
     go_wp2
     go_roundw
     case rel=>exact ⟨_,rfl,i + 1,l2,by go_num,by omega,Or.inl hi,D'.out⟩
     case measure=>simp [intOf];omega
  ·have hii:¬ (i:Int) < (b:Int):=by omega
   go_wp2
   go_end0
   refine ⟨rfl,l1,?_,?_,X.out.2.2⟩
   ·rcases hib with h1 | ⟨h1,h2⟩
    ·have e:i=b:=by omega
     have q:=X.out.1;rw [e] at q;exact q
    ·rw [h2];exact Seg.refl _ _ _
   ·intro p q h1 h2 h3
    exact X.out.2.1 p q h1 h2 (by omega)
end Go.Proofs.YtcipdampcmfmaaaGreat

namespace Go.Proofs.YtcipdampcmfmaaaGreat
open Go.RowKit Go.Sort
set_option maxRecDepth 100000
set_option maxHeartbeats 8000000
theorem TagR.part {c lt:El->El->Prop} {l l1:List El} {a b n:Nat} (h:TagR c lt l 0 n) (he:∀ i,a<=i->l1[i]! = l[i]!) (hb:b<=n):TagR c lt l1 a b:=fun i j h1 h2 h3=>by
 rw [he i h1,he j (by omega)]
 exact h i j (Nat.zero_le _) h2 (by omega)
theorem stableR {w:World} {g o cap bf:Nat} {l:List El} {c lt:El->El->Prop} (ht:∀ x y z,lt x y->lt y z->lt x z) (h:SRA w g o l) (hl:l.length<=4000) (hT:TagR c lt l 0 l.length) (hc:CmpR w g bf l c) :
  Calls Tryz.prog 144 #[.slice (some ⟨g,o,none⟩) l.length cap,.int .i64 (l.length:Int),.func (.func 100) #[] #[.pointer (some ⟨bf,0,none⟩)]] w fun e w'=>e=.returned (.tuple #[])/\∃ l',l'.Perm l/\Ri lt l' 0 l.length/\SRA w' g o l'/\Tk.Kp (fun k=>k=g) w w':=by
 obtain ⟨n,hn⟩:∃ n,n=l.length:=⟨_,rfl⟩
 have N:Hid (n=l.length):=hn
 have INS:Hid (∀ (W:World) (l1:List El) (a b:Nat),l1.Perm l->a<=b->b<=n->SRA W g o l1->Tk.Kp (fun k=>k=g) w W->TagR c lt l1 a b->Calls Tryz.prog 116 #[.slice (some ⟨g,o,none⟩) n cap,.int .i64 (a:Int),.int .i64 (b:Int),.func (.func 100) #[] #[.pointer (some ⟨bf,0,none⟩)]] W fun e w'=>e=.returned (.tuple #[])/\∃ l',Seg l1 l' a b/\Ri lt l' a b/\SRA w' g o l'/\Tk.Kp (fun k=>k=g) W w'):=fun W l1 a b hp h1 h2 h3 h4 h5=>by
  have q:=insR (cap:=cap) ht h3 (by rw [hp.length_eq];exact hl) h1 (by rw [hp.length_eq];omega) h5 (hc.later h4 hp)
  rw [hp.length_eq,<- hn] at q
  exact q
 have SYM:Hid (∀ (W:World) (l1:List El) (a m b:Nat),l1.Perm l->a < m->m < b->b<=n->SRA W g o l1->Tk.Kp (fun k=>k=g) w W->PreM c lt l1 a m b->Calls Tryz.prog 188 #[.slice (some ⟨g,o,none⟩) n cap,.int .i64 (a:Int),.int .i64 (m:Int),.int .i64 (b:Int),.func (.func 100) #[] #[.pointer (some ⟨bf,0,none⟩)]] W fun e w'=>e=.returned (.tuple #[])/\∃ l',Seg l1 l' a b/\Ri lt l' a b/\SRA w' g o l'/\Tk.Kp (fun k=>k=g) W w'):=fun W l1 a m b hp h1 h2 h3 h4 h5 h6=>by
  have q:=symR (cap:=cap) ht (b - a) a m b l1 W (Nat.le_refl _) h1 h2 (by rw [hp.length_eq];omega) (by rw [hp.length_eq];exact hl) h4 h6 (hc.later h5 hp)
  rw [hp.length_eq,<- hn] at q
  exact q
 have TG:Hid (TagR c lt l 0 n):=by unfold Hid;rw [hn];exact hT
 have H0:Hid (SRA w g o l):=h
 rw [<- hn] at hl ⊢
 have hnl:Hid (n<=l.length):=Nat.le_of_eq hn
 clear h hc hT ht hn
 go_enter Tryz.func144,Tryz.ntmps144
 go_wp2
 go_loopw [7,8] (fun av bv W0=>∃ (W:World) (_:W=W0) (a b:Nat) (l1:List El),av=.int .i64 (a:Int)/\bv=.int .i64 (b:Int)/\a<=n/\b<=n + 20/\Hid (b=a + 20/\20 ∣ a/\PaR lt l l l1 n 20 a/\SRA W g o l1/\Tk.Kp (fun k=>k=g) w W)) (fun av _ _=>n + 1 - (intOf av).toNat)
 case atStart=>exact ⟨_,rfl,0,20,l,rfl,rfl,Nat.zero_le _,by omega,rfl,⟨0,rfl⟩,PaR.start (List.Perm.refl _),H0.out,Tk.Kp.refl _ _⟩
 case round =>
  obtain ⟨W,hW,a,b,l1,rfl,rfl,han,hbn,X⟩:=hrel
  subst hW
  by_cases hb:b<=n
  ·have hbi:(b:Int)<=(n:Int):=by omega
   have S:=INS.out W l1 a b X.out.2.2.1.perm (by have:=X.out.1;omega) hb X.out.2.2.2.1 X.out.2.2.2.2 (TG.out.part X.out.2.2.1.rest hb)
   go_wp2_with fail
   refine S.mono ?_
   rintro e w1 ⟨rfl,l2,s2,i2,a2,k2⟩
   have Y:Hid (20 ∣ b/\PaR lt l l l2 n 20 b/\SRA w1 g o l2/\Tk.Kp (fun k=>k=g) w w1):=by
    have e1:=X.out.1
    have e2:min (a + 20) n=b:=by omega
    have q:=X.out.2.2.1.step (by decide) X.out.2.1 han hnl.out (by rw [e2];exact s2) (by rw [e2];exact i2) (fun i h1 h2=>⟨i,⟨h1,h2⟩,rfl⟩)
    rw [<- e1] at q
    exact ⟨by rw [e1];exact Nat.dvd_add X.out.2.1 (Nat.dvd_refl _),q,a2,X.out.2.2.2.2.trans k2⟩
   have hab:Hid (a < b):=by have:=X.out.1;unfold Hid;omega
   clear S s2 i2 a2 k2 X
   go_wp2
   go_roundw
   case rel=>exact ⟨_,rfl,b,b + 20,l2,rfl,by go_num,hb,by omega,rfl,Y.out⟩
   case measure=>have:=hab.out;simp [intOf];omega
  ·have hbi:¬ (b:Int)<=(n:Int):=by omega
   have S:=INS.out W l1 a n X.out.2.2.1.perm han (Nat.le_refl _) X.out.2.2.2.1 X.out.2.2.2.2 (TG.out.part X.out.2.2.1.rest (Nat.le_refl _))
   go_wp2_with fail
   refine S.mono ?_
   rintro e w1 ⟨rfl,l2,s2,i2,a2,k2⟩
   have Y:Hid (BkR lt l l2 n 20/\SRA w1 g o l2/\Tk.Kp (fun k=>k=g) w w1):=by
    have e1:=X.out.1
    have e2:min (a + 20) n=n:=by omega
    have q:=X.out.2.2.1.step (by decide) X.out.2.1 han hnl.out (by rw [e2];exact s2) (by rw [e2];exact i2) (fun i h1 h2=>⟨i,⟨h1,h2⟩,rfl⟩)
    exact ⟨q.fin (by omega),a2,X.out.2.2.2.2.trans k2⟩
   clear S s2 i2 a2 k2 X
   go_wp2
   go_loopw [6] (fun sv W0=>∃ (W:World) (_:W=W0) (s:Nat) (l3:List El),sv=.int .i64 (s:Int)/\0 < s/\s<=2 * n + 20/\Hid (BkR lt l l3 n s/\SRA W g o l3/\Tk.Kp (fun k=>k=g) w W)) (fun sv _=>n - (intOf sv).toNat)
   case atStart=>exact ⟨_,rfl,20,l2,rfl,by decide,by omega,Y.out⟩
   case round =>
    obtain ⟨W2,hW2,s,l3,rfl,hs0,hsn,Z⟩:=hrel
    subst hW2
    by_cases hsl:s < n
    ·have hsi:(s:Int) < (n:Int):=by omega
     obtain ⟨t,hte⟩:∃ t,t=2 * s:=⟨_,rfl⟩
     have et:2 * (s:Int)=(t:Int):=by omega
     have TT:Hid (t=2 * s):=hte
     have htn:t < 2 * n:=by omega
     have hst:s < t:=by omega
     clear hte
     go_wp2
     go_loopw [7,8] (fun av bv W0=>∃ (W:World) (_:W=W0) (a b:Nat) (l4:List El),av=.int .i64 (a:Int)/\bv=.int .i64 (b:Int)/\a<=n/\b<=n + t/\Hid (b=a + t/\t ∣ a/\PaR lt l l3 l4 n t a/\SRA W g o l4/\Tk.Kp (fun k=>k=g) w W)) (fun av _ _=>n + 1 - (intOf av).toNat)
     case atStart=>exact ⟨_,rfl,0,t,l3,rfl,rfl,Nat.zero_le _,by omega,by omega,Nat.dvd_zero _,PaR.start Z.out.1.perm,Z.out.2.1,Z.out.2.2⟩
     case round =>
      obtain ⟨W3,hW3,a,b,l4,rfl,rfl,han,hbn,V⟩:=hrel
      subst hW3
      have sa:Hid (s ∣ a):=by have q:=V.out.2.1;have e:=TT.out;rw [e] at q;exact Nat.dvd_trans ⟨2,by omega⟩ q
      obtain ⟨m,hme⟩:∃ m,m=a + s:=⟨_,rfl⟩
      have em:(a:Int) + (s:Int)=(m:Int):=by omega
      have MM:Hid (m=a + s):=hme
      have ham:a < m:=by omega
      clear hme
      by_cases hb:b<=n
      ·have hbi:(b:Int)<=(n:Int):=by omega
       have hmb:m < b:=by have:=V.out.1;have:=MM.out;omega
       have S:=SYM.out W3 l4 a m b V.out.2.2.1.perm ham hmb hb V.out.2.2.2.1 V.out.2.2.2.2 (by have e:=MM.out;rw [e];exact Z.out.1.pre TG.out hs0 sa.out (by have:=V.out.1;have:=TT.out;omega) (by omega) V.out.2.2.1.rest)
       go_wp2_with fail
       refine S.mono ?_
       rintro e w1 ⟨rfl,l5,s5,i5,a5,k5⟩
       have Y2:Hid (t ∣ b/\PaR lt l l3 l5 n t b/\SRA w1 g o l5/\Tk.Kp (fun k=>k=g) w w1):=by
        have e1:=V.out.1
        have e2:min (a + t) n=b:=by omega
        have q:=V.out.2.2.1.step (by omega) V.out.2.1 han hnl.out (by rw [e2];exact s5) (by rw [e2];exact i5) (fun i h1 h2=>by have e:=TT.out;rw [e] at h2 ⊢;exact Z.out.1.two sa.out i h1 h2)
        rw [<- e1] at q
        exact ⟨by rw [e1];exact Nat.dvd_add V.out.2.1 (Nat.dvd_refl _),q,a5,V.out.2.2.2.2.trans k5⟩
       have hab:Hid (a < b):=by unfold Hid;omega
       clear S s5 i5 a5 k5 V
       go_wp2
       go_roundw
       case rel=>exact ⟨_,rfl,b,b + t,l5,rfl,by first | rfl | go_num,hb,by omega,rfl,Y2.out⟩
       case measure=>have:=hab.out;simp [intOf];omega
      ·have hbi:¬ (b:Int)<=(n:Int):=by omega
       have es:(s:Int) * 2=(t:Int):=by omega
       by_cases hm:m < n
       ·have hmi:(m:Int) < (n:Int):=by omega
        have S:=SYM.out W3 l4 a m n V.out.2.2.1.perm ham hm (Nat.le_refl _) V.out.2.2.2.1 V.out.2.2.2.2 (by have e:=MM.out;rw [e];exact Z.out.1.pre TG.out hs0 sa.out (by have:=V.out.1;have:=TT.out;omega) (by omega) V.out.2.2.1.rest)
        go_wp2_with fail
        refine S.mono ?_
        rintro e w1 ⟨rfl,l5,s5,i5,a5,k5⟩
        have Y2:Hid (BkR lt l l5 n t/\SRA w1 g o l5/\Tk.Kp (fun k=>k=g) w w1):=by
         have e1:=V.out.1
         have e2:min (a + t) n=n:=by omega
         have q:=V.out.2.2.1.step (by omega) V.out.2.1 han hnl.out (by rw [e2];exact s5) (by rw [e2];exact i5) (fun i h1 h2=>by have e:=TT.out;rw [e] at h2 ⊢;exact Z.out.1.two sa.out i h1 h2)
         exact ⟨q.fin (by omega),a5,V.out.2.2.2.2.trans k5⟩
        clear S s5 i5 a5 k5 V
        go_wp2
        go_roundw
        case rel=>exact ⟨_,rfl,t,l5,by first | rfl | go_num,by omega,by omega,Y2.out⟩
        case measure=>simp [intOf];omega
       ·have hmi:¬ (m:Int) < (n:Int):=by omega
        have Y2:Hid (BkR lt l l4 n t/\SRA W3 g o l4/\Tk.Kp (fun k=>k=g) w W3):=by
         have e1:=V.out.1
         have e0:=MM.out
         have e2:min (a + t) n=n:=by omega
         have rr:=Z.out.1.alone (l1:=l4) sa.out (by omega) V.out.2.2.1.rest
         rw [<- TT.out] at rr
         have q:=V.out.2.2.1.step (by omega) V.out.2.1 han hnl.out (Seg.refl _ _ _) rr (fun i h1 h2=>by have e:=TT.out;rw [e] at h2 ⊢;exact Z.out.1.two sa.out i h1 h2)
         exact ⟨q.fin (by omega),V.out.2.2.2.1,V.out.2.2.2.2⟩
        clear V
        go_wp2
        go_roundw
        case rel=>exact ⟨_,rfl,t,l4,by first | rfl | go_num,by omega,by omega,Y2.out⟩
        case measure=>simp [intOf];omega
    ·have hsi:¬ (s:Int) < (n:Int):=by omega
     go_wp2
     go_end0
     exact ⟨rfl,l3,Z.out.1.perm,Z.out.1.done (by omega),Z.out.2.1,Z.out.2.2⟩
theorem sortStableR {w:World} {g o cap bf:Nat} {l:List El} {c lt:El->El->Prop} (ht:∀ x y z,lt x y->lt y z->lt x z) (h:SRA w g o l) (hl:l.length<=4000) (hT:TagR c lt l 0 l.length) (hc:CmpR w g bf l c) :
  Calls Tryz.prog 99 #[.slice (some ⟨g,o,none⟩) l.length cap,.func (.func 100) #[] #[.pointer (some ⟨bf,0,none⟩)]] w fun e w'=>e=.returned (.tuple #[])/\∃ l',l'.Perm l/\Ri lt l' 0 l.length/\SRA w' g o l'/\Tk.Kp (fun k=>k=g) w w':=by
 have S:=stableR (cap:=cap) ht h hl hT hc
 go_enter Tryz.func99,Tryz.ntmps99
 go_wp2_with fail
 refine S.mono ?_
 rintro e w1 ⟨rfl,q⟩
 go_wp2
 go_end0
 exact ⟨rfl,q⟩
end Go.Proofs.YtcipdampcmfmaaaGreat

namespace Go.Proofs.YtcipdampcmfmaaaGreat
open Go.RowKit Go.Sort Go.Maps
set_option maxRecDepth 100000
set_option maxHeartbeats 4000000
theorem layOut1_c {W:World} {bf tb mb:Nat} {ks:List Int} {pf:Int->Int} {x y:Int} {u v:Value} (hu:u.oneCell'=true) (hv:v.oneCell'=true) (hb:W.cell? ⟨bf,0,none⟩=some (.pointer (some ⟨tb,0,none⟩))) (hp:W.cell? ⟨tb,3,none⟩=some (.map (some mb)))
  (hm:MapA Tryz.prog 3 W mb ks fun k=>.int .i64 (pf k)) (hx:x ∈ ks) (hy:y ∈ ks) (kx:KWf x) (kyy:KWf y) :
  Calls Tryz.prog 100 #[.agg #[.int .i64 x,u],.agg #[.int .i64 y,v],.pointer (some ⟨bf,0,none⟩)] W fun e w'=>∃ z:Int,e=.returned (.int .i64 z)/\(z < 0 ↔ pf x < pf y)/\Tk.Gw W w':=by
 have hcu:u.cells=#[u]:=by first | exact Value.cells_of_oneCell' hu | (cases u <;> simp_all [Value.oneCell',Value.cells])
 have hcv:v.cells=#[v]:=by first | exact Value.cells_of_oneCell' hv | (cases v <;> simp_all [Value.oneCell',Value.cells])
 have lb:mb < W.heap.size:=hm.lt
 obtain ⟨W1,hW1⟩:∃ W1,W1=((W.alloc (.cells #[.int .i64 x,u] 43)).alloc (.cells #[.int .i64 y,v] 43)).drew:=⟨_,rfl⟩
 have G1:Tk.Gw W W1:=by rw [hW1];exact (((Tk.Gw.refl _).alloc _).alloc _).drew
 have C1:Hid (W1.cell? ⟨W.heap.size,0,none⟩=some (.int .i64 x)/\W1.cell? ⟨W.heap.size + 1,0,none⟩=some (.int .i64 y)):=by rw [hW1];exact ⟨by simp [go_sem],by simp [go_sem]⟩
 have C2:Hid (W1.cell? ⟨bf,0,none⟩=some (.pointer (some ⟨tb,0,none⟩))/\W1.cell? ⟨tb,3,none⟩=some (.map (some mb))):=⟨Tk.gr_keeps G1.gr hb,Tk.gr_keeps G1.gr hp⟩
 have M1:Hid (MapA Tryz.prog 3 W1 mb ks fun k=>.int .i64 (pf k)):=hm.same (G1.gr.block _ lb)
 have hz:Hid (∀ w,(zeroValue 3).run Tryz.prog w=.ok (.int .i64 0) w):=fun w=>by go_simp
 have LK:∀ {w:World},Tk.Gw W1 w->w.cell? ⟨bf,0,none⟩=some (.pointer (some ⟨tb,0,none⟩))/\w.cell? ⟨tb,3,none⟩=some (.map (some mb))/\w.cell? ⟨W.heap.size,0,none⟩=some (.int .i64 x)/\w.cell? ⟨W.heap.size + 1,0,none⟩=some (.int .i64 y) /\
   (Instr.lookup 88 (.map (some mb)) (.int .i64 x) false).run Tryz.prog w=.ok (.int .i64 (pf x)) w/\(Instr.lookup 88 (.map (some mb)) (.int .i64 y) false).run Tryz.prog w=.ok (.int .i64 (pf y)) w:=fun {w} g=>by
  have m:=M1.out.same (g.gr.block _ M1.out.lt)
  refine ⟨Tk.gr_keeps g.gr C2.out.1,Tk.gr_keeps g.gr C2.out.2,Tk.gr_keeps g.gr C1.out.1,Tk.gr_keeps g.gr C1.out.2,?_,?_⟩
  ·rw [m.look Tryz.underlying3 Tryz.underlying88 (hz.out w) kx,if_pos hx]
  ·rw [m.look Tryz.underlying3 Tryz.underlying88 (hz.out w) kyy,if_pos hy]
 have LH:Hid (∀ {w:World},Tk.Gw W1 w->w.cell? ⟨bf,0,none⟩=some (.pointer (some ⟨tb,0,none⟩))/\w.cell? ⟨tb,3,none⟩=some (.map (some mb))/\w.cell? ⟨W.heap.size,0,none⟩=some (.int .i64 x)/\w.cell? ⟨W.heap.size + 1,0,none⟩=some (.int .i64 y) /\
   (Instr.lookup 88 (.map (some mb)) (.int .i64 x) false).run Tryz.prog w=.ok (.int .i64 (pf x)) w/\(Instr.lookup 88 (.map (some mb)) (.int .i64 y) false).run Tryz.prog w=.ok (.int .i64 (pf y)) w):=LK
 have G1H:Hid (Tk.Gw W W1):=G1
 clear LK G1
 go_enter Tryz.func100,Tryz.ntmps100
 go_wp2_with fail
 refine wp_region_held_drew (S:=fun W2=>Tk.Gw W1 W2) (by kernel_rfl) (by rw [hW1];exact Tk.Gw.refl _) (fun hHeld=>?_)
 clear hW1
 refine tkn 0 ?_ rfl ?_ ?_;rotate_left;·(intro w hSw;obtain ⟨s1,s2,s3,s4,s5,s6⟩:=LH.out hSw;go_simp;try rfl)
 try simp only [pt]
 refine tkn 1 ?_ rfl ?_ ?_;rotate_left;·(intro w hSw;obtain ⟨s1,s2,s3,s4,s5,s6⟩:=LH.out hSw;go_simp;try rfl)
 try simp only [pt]
 refine tkn 2 ?_ rfl ?_ ?_;rotate_left;·(intro w hSw;obtain ⟨s1,s2,s3,s4,s5,s6⟩:=LH.out hSw;go_simp;try rfl)
 try simp only [pt]
 refine tkn 3 ?_ rfl ?_ ?_;rotate_left;·(intro w hSw;obtain ⟨s1,s2,s3,s4,s5,s6⟩:=LH.out hSw;go_simp;try rfl)
 try simp only [pt]
 refine tkn 4 ?_ rfl ?_ ?_;rotate_left;·(intro w hSw;obtain ⟨s1,s2,s3,s4,s5,s6⟩:=LH.out hSw;go_simp;try rfl)
 try simp only [pt]
 refine tkn 5 ?_ rfl ?_ ?_;rotate_left;·(intro w hSw;obtain ⟨s1,s2,s3,s4,s5,s6⟩:=LH.out hSw;go_simp;try rfl)
 try simp only [pt]
 refine tkn 6 ?_ rfl ?_ ?_;rotate_left;·(intro w hSw;obtain ⟨s1,s2,s3,s4,s5,s6⟩:=LH.out hSw;go_simp;try rfl)
 try simp only [pt]
 refine tkn 7 ?_ rfl ?_ ?_;rotate_left;·(intro w hSw;obtain ⟨s1,s2,s3,s4,s5,s6⟩:=LH.out hSw;go_simp;try rfl)
 try simp only [pt]
 refine tkn 8 ?_ rfl ?_ ?_;rotate_left;·(intro w hSw;obtain ⟨s1,s2,s3,s4,s5,s6⟩:=LH.out hSw;go_simp;try rfl)
 try simp only [pt]
 refine tkn 9 ?_ rfl ?_ ?_;rotate_left;·(intro w hSw;obtain ⟨s1,s2,s3,s4,s5,s6⟩:=LH.out hSw;go_simp;try rfl)
 try simp only [pt]
 refine tkn 10 ?_ rfl ?_ ?_;rotate_left;·(intro w hSw;obtain ⟨s1,s2,s3,s4,s5,s6⟩:=LH.out hSw;go_simp;try rfl)
 try simp only [pt]
 refine tkn 11 ?_ rfl ?_ ?_;rotate_left;·(intro w hSw;obtain ⟨s1,s2,s3,s4,s5,s6⟩:=LH.out hSw;go_simp;try rfl)
 try simp only [pt]
 refine tkn 12 ?_ rfl ?_ ?_;rotate_left;·(intro w hSw;obtain ⟨s1,s2,s3,s4,s5,s6⟩:=LH.out hSw;go_simp;try rfl)
 try simp only [pt]
 refine tkn 13 ?_ rfl ?_ ?_;rotate_left;·(intro w hSw;obtain ⟨s1,s2,s3,s4,s5,s6⟩:=LH.out hSw;go_simp;try rfl)
 try simp only [pt]
 refine rdn 14 rfl (fun K hK=>?_)
 go_simp
 refine (compare_g _ _ _).mono ?_
 rintro e w' ⟨rfl,hg⟩
 refine hK.out _ _ (hHeld.trans hg) (fun hHeld=>?_)
 clear hK K
 try simp only [pt]
 refine tkn 15 ?_ rfl ?_ ?_;rotate_left;·(intro w hSw;(skip);go_simp;try rfl)
 try simp only [pt]
 refine wpAnyH_done (by kernel_rfl) ?_ _
 go_wp2
 go_ret
 exact ⟨_,rfl,by have:=ci_neg (pf x) (pf y);omega,G1H.out.trans hHeld⟩
end Go.Proofs.YtcipdampcmfmaaaGreat

namespace Go.Proofs.YtcipdampcmfmaaaGreat
open Go.RowKit Go.Sort Go.Maps
set_option maxRecDepth 100000
set_option maxHeartbeats 1000000
theorem lendrows_c {w:World} {v:Value} {rs:List Rw} (hv:RdW w v rs) (hn:rs.length<=65536) (hr:∀ i,i < rs.length->rs[i]!.2.length<=65536) :
  Calls Tryz.prog 11 #[v] w fun e w'=>∃ G,e=.returned (.slice (some ⟨G,0,none⟩) rs.length (rs.length + 1))/\LentR w w' G rs:=by
 have V:Hid (RdW w v rs):=hv
 have HR:Hid (∀ i,i < rs.length->rs[i]!.2.length<=65536):=hr
 obtain ⟨av,cv,rfl,_⟩:=hv
 obtain ⟨n,hN⟩:∃ n,n=rs.length:=⟨_,rfl⟩
 have N:Hid (n=rs.length):=hN
 rw [<- hN] at V hn ⊢
 obtain ⟨m,hM⟩:∃ m,m=n + 1:=⟨_,rfl⟩
 have M:Hid (m=n + 1):=hM
 have hm:(n:Int) + 1=(m:Int):=by omega
 have hnm:(n:Int) < (m:Int):=by omega
 have hnm2:n<=m:=by omega
 have hmb:m<=65537:=by omega
 have hmk:=run_make_two m (by omega) w
 have S0:Hid (Lr w (w.alloc (.cells (madeCells #[.int .i64 0,.slice none 0 0] (m * 2)) 43)) w.heap.size m rs 0 True (fun _=>(.int .i64 0,.slice none 0 0))) :=
  ⟨gb_alloc (Below.refl _ _) _,Nat.le_refl _,ra_made w m,⟨fun _=>0,fun i hi=>by omega⟩,trivial⟩
 rw [<- hM]
 clear hN hM hr
 generalize w.alloc (.cells (madeCells #[.int .i64 0,.slice none 0 0] (m * 2)) 43)=V0 at *
 go_enter Tryz.func11,Tryz.ntmps11
 go_wp2
 go_loopw [4] (fun iv W=>∃ p:Nat,iv=.int .i64 (p:Int)/\p<=n/\Hid (∃ f,Lr w W w.heap.size m rs p True f)) (fun iv _=>n - (intOf iv).toNat)
 case atStart=>exact ⟨0,rfl,Nat.zero_le _,⟨_,S0.out⟩⟩
 case round =>
  obtain ⟨p,rfl,hp,X⟩:=hrel
  by_cases hpn:p < n
  ·have hpi:decide ((p:Int) < (n:Int))=true:=by rw [decide_eq_true_eq];omega
   have hpp:(p:Int) < (n:Int):=by omega
   have hpm:(p:Int) < (m:Int):=by omega
   have hpl:p < rs.length:=by have:=N.out;omega
   obtain ⟨_,_,ev,hA⟩:=V.out
   obtain ⟨b,o,ur,ea,k1,k2,k3⟩:=hA p hpl
   injection ev with ev1 ev2 ev3
   subst ev1
   subst ea
   clear hA ev2 ev3
   obtain ⟨f,hX⟩:=X.out
   have cl:=fun W (g:Gb w W)=>lend_c (k3.gb g) (HR.out p hpl)
   have FS0:Rs w wr.drew ⟨b,o + p * 2,none⟩ ⟨b,o + p * 2 + 1,none⟩ (.int .i64 rs[p]!.1) ur:=⟨hX.gb.drew,gb_keeps hX.gb k1,gb_keeps hX.gb k2,World.block_lt_of_cell? w _ k1,World.block_lt_of_cell? w _ k2⟩
   obtain ⟨pr,cr,rfl,_⟩:=k3
   have X1:Hid (Lr w wr.drew w.heap.size m rs p True f):=hX.gr (Below.refl _ _).drew
   have GX:Hid (Gb w wr.drew):=hX.gb.drew
   obtain ⟨nr,hnr⟩:∃ nr,nr=rs[p]!.2.length:=⟨_,rfl⟩
   have NR:Hid (nr=rs[p]!.2.length):=hnr
   obtain ⟨x1,hx1⟩:∃ x1,x1=rs[p]!.1:=⟨_,rfl⟩
   have NX:Hid (x1=rs[p]!.1):=hx1
   rw [<- hnr] at FS0
   rw [<- hx1] at FS0
   simp only [<- hnr] at cl
   clear k1 k2 hX hnr hx1
   go_wp2
   refine wp_region_held_drew (S:=fun w'=>Rs w w' ⟨b,o + p * 2,none⟩ ⟨b,o + p * 2 + 1,none⟩ (.int .i64 x1) (.slice pr nr cr)) (by kernel_rfl) (FS0) (fun hHeld=>?_)
   refine tkn 0 ?_ rfl ?_ ?_;rotate_left;·(rintro w ⟨s1,s2,s3,s4,s5⟩;go_simp;try rfl)
   try simp only [pt]
   refine tkn 1 ?_ rfl ?_ ?_;rotate_left;·(rintro w ⟨s1,s2,s3,s4,s5⟩;go_simp;try rfl)
   try simp only [pt]
   refine tkn 2 ?_ rfl ?_ ?_;rotate_left;·(rintro w ⟨s1,s2,s3,s4,s5⟩;go_simp;try rfl)
   try simp only [pt]
   refine tkn 3 ?_ rfl ?_ ?_;rotate_left;·(rintro w ⟨s1,s2,s3,s4,s5⟩;go_simp;try rfl)
   try simp only [pt]
   refine tkn 4 ?_ rfl ?_ ?_;rotate_left;·(rintro w ⟨s1,s2,s3,s4,s5⟩;go_simp;try rfl)
   try simp only [pt]
   refine tkn 5 ?_ rfl ?_ ?_;rotate_left;·(rintro w ⟨s1,s2,s3,s4,s5⟩;go_simp;try rfl)
   try simp only [pt]
   refine tkn 6 ?_ rfl ?_ ?_;rotate_left;·(rintro w ⟨s1,s2,s3,s4,s5⟩;go_simp;try rfl)
   try simp only [pt]
   refine tkn 7 ?_ rfl ?_ ?_;rotate_left;·(rintro w ⟨s1,s2,s3,s4,s5⟩;go_simp;try rfl)
   try simp only [pt]
   refine tkn 8 ?_ rfl ?_ ?_;rotate_left;·(rintro w ⟨s1,s2,s3,s4,s5⟩;go_simp;try rfl)
   try simp only [pt]
   refine tkn 9 ?_ rfl ?_ ?_;rotate_left;·(rintro w ⟨s1,s2,s3,s4,s5⟩;go_simp;try rfl)
   try simp only [pt]
   refine tkn 10 ?_ rfl ?_ ?_;rotate_left;·(rintro w ⟨s1,s2,s3,s4,s5⟩;go_simp;try rfl)
   try simp only [pt]
   refine tkn 11 ?_ rfl ?_ ?_;rotate_left;·(rintro w ⟨s1,s2,s3,s4,s5⟩;go_simp;try rfl)
   try simp only [pt]
   refine rdn 12 rfl (fun K hK=>?_)
   go_simp
   refine (cl _ GX.out).mono ?_
   rintro e w4 ⟨g,rfl,L4,g4⟩
   refine hK.out _ _ (hHeld.gr g4) (fun hHeld=>?_)
   clear hK K
   try simp only [pt]
   refine tkn 13 ?_ rfl ?_ ?_;rotate_left;·(rintro w ⟨s1,s2,s3,s4,s5⟩;go_simp;try rfl)
   try simp only [pt]
   refine tkn 14 ?_ rfl ?_ ?_;rotate_left;·(rintro w ⟨s1,s2,s3,s4,s5⟩;go_simp;try rfl)
   try simp only [pt]
   have X4:=(X1.out.gr g4).arr
   have q0:=(X4.cell (i:=p) (by omega)).1
   have q1:=(X4.cell (i:=p) (by omega)).2
   have f0:=X4.frozen (p * 2)
   have f1:=X4.frozen (p * 2 + 1)
   have XN:=X1.out.step (by have:=M.out;omega) g4 L4
   rw [<- NR.out,<- NX.out] at XN
   have XN:Hid _:=XN
   clear X4 L4
   refine rdn 15 rfl (fun K hK=>?_)
   go_simp
   refine hK.out _ _ (hHeld.set (Nat.le_refl _) _ _ _ _) (fun hHeld=>?_)
   clear hK K
   try simp only [pt]
   refine wpAnyH_done (by kernel_rfl) ?_ _
   go_wp2
   exact ⟨⟨p + 1,by go_num,hpn,XN.out⟩,by simp [intOf];omega⟩
  ·have hpi:¬ (p:Int) < (n:Int):=by omega
   have epn:p=n:=by omega
   subst epn
   obtain ⟨f,hX⟩:=X.out
   rw [M.out] at hX
   have q0:=(hX.arr.cell (i:=p) (by omega)).1
   have q1:=(hX.arr.cell (i:=p) (by omega)).2
   have f0:=hX.arr.frozen (p * 2)
   have f1:=hX.arr.frozen (p * 2 + 1)
   have XN:Hid _:=hX.mark N.out
   clear hX
   go_wp2
   go_ret
   exact ⟨_,rfl,XN.out⟩
end Go.Proofs.YtcipdampcmfmaaaGreat
