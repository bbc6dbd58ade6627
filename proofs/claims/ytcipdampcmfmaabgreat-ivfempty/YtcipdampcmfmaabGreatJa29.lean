import Derived.Test.YtcipdampcmfmaabGreatJa28
import Derived.Test.YtcipdampcmfmaabGreatJa27
import Derived.Test.YtcipdampcmfmaabGreatJa20
namespace Go.Proofs.YtcipdampcmfmaabGreat
open Go.RowKit Go.Sort Go.Maps
theorem own_kpI {S:Nat->Prop} {w w':World} {B:Nat} {v:Value} {l:List Int} (h:Own w B v l) (k:Tk.Kp S w w') (hn:∀ g,v.ownBlock=some g->¬ S g):Own w' B v l:=by
 refine ⟨h.1,?_⟩
 rcases h.2 with h1 | ⟨g,cap,cur,e,hB,hh,r⟩
 ·exact .inl h1
 ·subst e
  exact .inr ⟨g,cap,cur,rfl,hB,by rw [k.block g (Array.getElem?_eq_some_iff.1 hh).1 (hn g rfl)];exact hh,r⟩
theorem ownR_kp {S:Nat->Prop} {w w':World} {B n:Nat} {v:Value} {xs:List Value} (h:w.ownsRow B 45 2 v n xs) (k:Tk.Kp S w w') (hn:∀ g,v.ownBlock=some g->¬ S g):w'.ownsRow B 45 2 v n xs:=by
 refine ⟨h.1,?_⟩
 rcases h.2 with h1 | ⟨g,cap,cur,e,hB,hh,r⟩
 ·exact .inl h1
 ·subst e
  exact .inr ⟨g,cap,cur,rfl,hB,by rw [k.block g (Array.getElem?_eq_some_iff.1 hh).1 (hn g rfl)];exact hh,r⟩
def NoInt (w:World) (S:Nat->Prop):Prop:=∀ k,S k->∀ cur s,w.heap[k]? ≠ some (.cells cur 3 s)
theorem own_noint {S:Nat->Prop} {w w':World} {B:Nat} {v:Value} {l:List Int} (h:Own w B v l) (k:Tk.Kp S w w') (hS:NoInt w S):Own w' B v l:=by
 refine own_kpI h k (fun g hg hs=>?_)
 rcases h.2 with ⟨rfl,_⟩ | ⟨g',cap,cur,e,hB,hh,_⟩
 ·cases hg
 ·subst e
  cases hg
  exact hS _ hs _ _ hh
abbrev IqT:Nat->Prop:=fun _=>True
def Up (Iq:Nat->Prop) (w:World):Prop:=∀ k,w.heap.size<=k->Iq k
theorem upT (w:World):Up IqT w:=fun _ _=>trivial
theorem Up.le {Iq:Nat->Prop} {w w':World} (h:Up Iq w) (s:w.heap.size<=w'.heap.size):Up Iq w':=fun k hk=>h k (Nat.le_trans s hk)
theorem Up.gb {Iq:Nat->Prop} {w w':World} (h:Up Iq w) (g:Gb w w'):Up Iq w':=h.le g.size
structure OwnQ (Iq:Nat->Prop) (w:World) (v:Value) (l:List Int):Prop where
 own:Own w 0 v l
 inn:∀ g,v.ownBlock=some g->Iq g
theorem OwnQ.rd {Iq:Nat->Prop} {w:World} {v:Value} {l:List Int} (h:OwnQ Iq w v l):RdI w v l:=h.own.rd
theorem OwnQ.gb {Iq:Nat->Prop} {w w':World} {v:Value} {l:List Int} (h:OwnQ Iq w v l) (g:Gb w w'):OwnQ Iq w' v l:=⟨h.own.gb g,h.inn⟩
theorem OwnQ.new {Iq:Nat->Prop} {w w':World} {B:Nat} {v:Value} {l:List Int} (h:Own w' B v l) (up:Up Iq w) (hB:w.heap.size<=B):OwnQ Iq w' v l:=⟨h.mono (Nat.zero_le _),fun g e=>up g (Nat.le_trans hB (World.ownsRow.lt h g e).1)⟩
def NoI (Iq:Nat->Prop) (w:World) (S:Nat->Prop):Prop:=∀ k,S k->Iq k->∀ cur s,w.heap[k]? ≠ some (.cells cur 3 s)
theorem NoI.of {Iq:Nat->Prop} {w:World} {S:Nat->Prop} (h:NoInt w S):NoI Iq w S:=fun k hk _=>h k hk
theorem NoI.off {Iq:Nat->Prop} {w:World} {S:Nat->Prop} (h:∀ k,S k->¬ Iq k):NoI Iq w S:=fun k hk hi=>absurd hi (h k hk)
theorem ownq_noi {Iq S:Nat->Prop} {w w':World} {v:Value} {l:List Int} (h:OwnQ Iq w v l) (k:Tk.Kp S w w') (hS:NoI Iq w S):OwnQ Iq w' v l:=by
 refine ⟨own_kpI h.own k (fun g hg hs=>?_),h.inn⟩
 rcases h.own.2 with ⟨rfl,_⟩ | ⟨g',cap,cur,e,hB,hh,_⟩
 ·cases hg
 ·have hi:=h.inn g hg
  subst e
  cases hg
  exact hS _ hs hi _ _ hh
theorem ownq_noint {Iq S:Nat->Prop} {w w':World} {v:Value} {l:List Int} (h:OwnQ Iq w v l) (k:Tk.Kp S w w') (hS:NoInt w S):OwnQ Iq w' v l:=ownq_noi h k (NoI.of hS)
structure OwnRs (Iq:Nat->Prop) (w:World) (v:Value) (d:List Rt):Prop where
 row:w.ownsRow 0 45 2 v d.length (d.flatMap encR)
 vec:∀ x ∈ d,OwnQ Iq w x.2.1 x.2.2
 up:Up Iq w
theorem OwnRs.kq {Iq S:Nat->Prop} {w w':World} {v:Value} {d:List Rt} (h:OwnRs Iq w v d) (k:Tk.Kp S w w') (hS:NoI Iq w S) (hn:∀ g,v.ownBlock=some g->¬ S g):OwnRs Iq w' v d :=
 ⟨ownR_kp h.row k hn,fun x hx=>ownq_noi (h.vec x hx) k hS,h.up.le k.size⟩
theorem OwnRs.kp {Iq:Nat->Prop} {S:Nat->Prop} {w w':World} {v:Value} {d:List Rt} (h:OwnRs Iq w v d) (k:Tk.Kp S w w') (hS:NoInt w S) (hn:∀ g,v.ownBlock=some g->¬ S g):OwnRs Iq w' v d :=
 h.kq k (NoI.of hS) hn
theorem OwnQ.wk {Iq Iq':Nat->Prop} {w:World} {v:Value} {l:List Int} (h:OwnQ Iq w v l) (hi:∀ k,k < w.heap.size->Iq k->Iq' k):OwnQ Iq' w v l:=⟨h.own,fun g e=>hi g (World.ownsRow.lt h.own g e).2 (h.inn g e)⟩
theorem OwnQ.lift {Iq Iq':Nat->Prop} {w w':World} {v:Value} {l:List Int} (h:OwnQ Iq w v l) (g:Gb w w') (hi:∀ k,k < w.heap.size->Iq k->Iq' k):OwnQ Iq' w' v l:=⟨h.own.gb g,fun b e=>hi b (World.ownsRow.lt h.own b e).2 (h.inn b e)⟩
theorem kpF {w w':World} (g:Gb w w'):Tk.Kp (fun _=>False) w w':=⟨g.os,g.tape,g.output,g.size,fun k hk _=>g.block k hk⟩
theorem noF (w:World):NoInt w (fun _=>False):=fun _ h=>h.elim
abbrev Loc:=Nat × Nat × Nat
def Apart (a b:Loc):Prop:=a.1 ≠ b.1 ∨ a.2.1 + a.2.2 * 2<=b.2.1 ∨ b.2.1 + b.2.2 * 2<=a.2.1
structure LsAt (Iq:Nat->Prop) (w:World) (c:List Int) (R:List Rw) (v:Value) (G:Loc) (d:List Rt) (vl vh vi:Value):Prop where
 val:v=lv (ballR c R) vl vh vi (.slice (some ⟨G.1,G.2.1,none⟩) d.length G.2.2)
 rows:d.map rwR=R
 pc:PcR w G.1 G.2.1 d.length G.2.2 (d.flatMap encR)
 vec:∀ x ∈ d,OwnQ Iq w x.2.1 x.2.2
 low:OwnQ Iq w vl (ballR c R).L
 high:OwnQ Iq w vh (ballR c R).H
 ids:OwnQ Iq w vi (ballR c R).I
def ArQ (Iq:Nat->Prop) (w:World) (u:Value) (l:List Int):Prop:=∃ g cap,u=.slice (some ⟨g,0,none⟩) l.length cap/\Iq g/\Rn.Arr w g l.length cap (fun t=>l[t]!)
theorem ArQ.rd {Iq:Nat->Prop} {w:World} {u:Value} {l:List Int} (h:ArQ Iq w u l):RdI w u l:=by
 obtain ⟨g,cap,rfl,_,a⟩:=h
 exact arr_rd a rfl (fun _ _=>rfl)
theorem ArQ.blk {Iq Iq':Nat->Prop} {w w':World} {u:Value} {l:List Int} (h:ArQ Iq w u l) (e:∀ g,g < w.heap.size->Iq g->(∃ cur,w.heap[g]? = some (.cells cur 3 (0,0)))->Iq' g/\w'.heap[g]? = w.heap[g]?):ArQ Iq' w' u l:=by
 obtain ⟨g,cap,e1,hi,a⟩:=h
 have hl:=a.lt
 obtain ⟨cur,hc,r⟩:=a
 obtain ⟨i',e'⟩:=e g hl hi ⟨cur,hc⟩
 exact ⟨g,cap,e1,i',cur,e'.trans hc,r⟩
theorem arq_noi {Iq S:Nat->Prop} {w w':World} {v:Value} {l:List Int} (h:ArQ Iq w v l) (k:Tk.Kp S w w') (hS:NoI Iq w S):ArQ Iq w' v l :=
 h.blk (fun g hg hi ⟨_,hc⟩=>⟨hi,k.block g hg (fun hs=>hS g hs hi _ _ hc)⟩)
theorem ArQ.wk {Iq Iq':Nat->Prop} {w:World} {v:Value} {l:List Int} (h:ArQ Iq w v l) (hi:∀ k,k < w.heap.size->Iq k->Iq' k):ArQ Iq' w v l:=h.blk (fun g hg hi' _=>⟨hi g hg hi',rfl⟩)
theorem ArQ.lift {Iq Iq':Nat->Prop} {w w':World} {v:Value} {l:List Int} (h:ArQ Iq w v l) (g:Gb w w') (hi:∀ k,k < w.heap.size->Iq k->Iq' k):ArQ Iq' w' v l:=h.blk (fun b hg hi' _=>⟨hi b hg hi',g.block b hg⟩)
structure CenQ (Iq:Nat->Prop) (w:World) (gc:Nat) (C:Vs):Prop where
 blk:∃ cur:Array Value,w.heap[gc]? = some (.cells cur 26 (0,0))/\C.length<=cur.size/\∀ i,i < C.length->∃ u,cur[i]? = some u/\ArQ Iq w u C[i]!
structure LstM (Iq:Nat->Prop) (w:World) (C:Vs) (rs:List Rw) (ks:List Int) (f:Int->Value) (G:Int->Loc):Prop where
 keys:∀ x:Int,x ∈ ks ↔ 0<=x/\listR C rs x.toNat ≠ []
 at_:∀ x ∈ ks,∃ d vl vh vi,LsAt Iq w C[x.toNat]! (listR C rs x.toNat) (f x) (G x) d vl vh vi
 apart:∀ x ∈ ks,∀ y ∈ ks,x ≠ y->Apart (G x) (G y)
def TreeAt (Iq:Nat->Prop) (w:World) (tb m:Nat) (C:Vs) (rs:List Rw) (F:List Nat):Prop:=∃ (gc cc lb pb:Nat) (ks pk:List Int) (f:Int->Value) (pf:Int->Int) (G:Int->Loc),
 w.heap[tb]? = some (.cells #[.int .i64 (m:Int),.slice (some ⟨gc,0,none⟩) C.length cc,.map (some lb),.map (some pb)] 74 (0,0)) /\
 CenQ Iq w gc C/\MapA Tryz.prog 3 w lb ks f/\MapA Tryz.prog 3 w pb pk (fun x=>.int .i64 (pf x))/\LstM Iq w C rs ks f G/\(∀ x,x ∈ pk ↔ x ∈ idsOf rs)/\(∀ r ∈ rs,pf r.1=((nearP C r.2).1:Int)) /\
 Ris rs/\RowsOk rs (m:Int)/\(VsOk C (m:Int)/\1<=C.length/\C.length<=64)/\F=tb :: gc :: lb :: pb :: ks.map (fun x=>(G x).1)/\((1<=m/\m<=64)/\lb ≠ pb)/\Up Iq w
theorem LsAt.kq {Iq S:Nat->Prop} {w w':World} {c:List Int} {R:List Rw} {v:Value} {G:Loc} {d:List Rt} {vl vh vi:Value} (h:LsAt Iq w c R v G d vl vh vi) (k:Tk.Kp S w w') (hS:NoI Iq w S) (hn:¬ S G.1):LsAt Iq w' c R v G d vl vh vi :=
 ⟨h.val,h.rows,h.pc.blk (k.block _ h.pc.lt hn),fun x hx=>ownq_noi (h.vec x hx) k hS,ownq_noi h.low k hS,ownq_noi h.high k hS,ownq_noi h.ids k hS⟩
theorem CenQ.kq {Iq S:Nat->Prop} {w w':World} {gc:Nat} {C:Vs} (h:CenQ Iq w gc C) (k:Tk.Kp S w w') (hS:NoI Iq w S) (hn:¬ S gc):CenQ Iq w' gc C:=by
 obtain ⟨cur,e,hl,hu⟩:=h.blk
 refine ⟨cur,by rw [k.block _ (Array.getElem?_eq_some_iff.1 e).1 hn];exact e,hl,fun i hi=>?_⟩
 obtain ⟨u,e1,e2⟩:=hu i hi
 exact ⟨u,e1,arq_noi e2 k hS⟩
theorem CenQ.rd {Iq:Nat->Prop} {w:World} {gc:Nat} {C:Vs} (h:CenQ Iq w gc C) (cc:Nat):RdV w (.slice (some ⟨gc,0,none⟩) C.length cc) C:=by
 obtain ⟨cur,e,hl,hu⟩:=h.blk
 refine ⟨_,cc,rfl,fun i hi=>?_⟩
 obtain ⟨u,e1,e2⟩:=hu i hi
 exact ⟨gc,0,u,rfl,by rw [Nat.zero_add];exact cell_cur e e1,e2.rd⟩
theorem LstM.kq {Iq S:Nat->Prop} {w w':World} {C:Vs} {rs:List Rw} {ks:List Int} {f:Int->Value} {G:Int->Loc} (h:LstM Iq w C rs ks f G) (k:Tk.Kp S w w') (hS:NoI Iq w S) (hn:∀ x ∈ ks,¬ S (G x).1):LstM Iq w' C rs ks f G :=
 ⟨h.keys,fun x hx=>by
  obtain ⟨d,vl,vh,vi,a⟩:=h.at_ x hx
  exact ⟨d,vl,vh,vi,a.kq k hS (hn x hx)⟩,h.apart⟩
theorem TreeAt.kq {Iq S:Nat->Prop} {w w':World} {tb m:Nat} {C:Vs} {rs:List Rw} {F:List Nat} (h:TreeAt Iq w tb m C rs F) (k:Tk.Kp S w w') (hS:NoI Iq w S) (hF:∀ x ∈ F,¬ S x):TreeAt Iq w' tb m C rs F:=by
 obtain ⟨gc,cc,lb,pb,ks,pk,f,pf,G,h1,h2,h3,h4,h5,h6,h7,h8,h9,h10,rfl,h12,h13⟩:=h
 refine ⟨gc,cc,lb,pb,ks,pk,f,pf,G,?_,h2.kq k hS (hF gc (by simp)),h3.same (k.block _ h3.lt (hF lb (by simp))),h4.same (k.block _ h4.lt (hF pb (by simp))),h5.kq k hS (fun x hx=>hF _ (by simp only [List.mem_cons,List.mem_map];exact .inr (.inr (.inr (.inr ⟨x,hx,rfl⟩))))),h6,h7,h8,h9,h10,rfl,h12,h13.le k.size⟩
 rw [k.block tb (Array.getElem?_eq_some_iff.1 h1).1 (hF tb (by simp))];exact h1
theorem TreeAt.kp {Iq:Nat->Prop} {S:Nat->Prop} {w w':World} {tb m:Nat} {C:Vs} {rs:List Rw} {F:List Nat} (h:TreeAt Iq w tb m C rs F) (k:Tk.Kp S w w') (hS:NoInt w S) (hF:∀ x ∈ F,¬ S x):TreeAt Iq w' tb m C rs F:=h.kq k (NoI.of hS) hF
theorem TreeAt.gb {Iq:Nat->Prop} {w w':World} {tb m:Nat} {C:Vs} {rs:List Rw} {F:List Nat} (h:TreeAt Iq w tb m C rs F) (g:Gb w w'):TreeAt Iq w' tb m C rs F:=h.kp (kpF g) (noF _) (fun _ _ h=>h)
theorem TreeAt.wk {Iq Iq':Nat->Prop} {w:World} {tb m:Nat} {C:Vs} {rs:List Rw} {F:List Nat} (h:TreeAt Iq w tb m C rs F) (hi:∀ k,k < w.heap.size->Iq k->Iq' k) (up:Up Iq' w):TreeAt Iq' w tb m C rs F:=by
 obtain ⟨gc,cc,lb,pb,ks,pk,f,pf,G,h1,h2,h3,h4,h5,h6,h7,h8,h9,h10,rfl,h12,h13⟩:=h
 refine ⟨gc,cc,lb,pb,ks,pk,f,pf,G,h1,⟨?_⟩,h3,h4,⟨h5.keys,fun x hx=>?_,h5.apart⟩,h6,h7,h8,h9,h10,rfl,h12,up⟩
 ·obtain ⟨cur,e,hl,hu⟩:=h2.blk
  refine ⟨cur,e,hl,fun i hi'=>?_⟩
  obtain ⟨u,e1,e2⟩:=hu i hi'
  exact ⟨u,e1,e2.wk hi⟩
 ·obtain ⟨d,vl,vh,vi,a⟩:=h5.at_ x hx
  exact ⟨d,vl,vh,vi,a.val,a.rows,a.pc,fun y hy=>(a.vec y hy).wk hi,a.low.wk hi,a.high.wk hi,a.ids.wk hi⟩
theorem TreeAt.lift {Iq Iq':Nat->Prop} {w w':World} {tb m:Nat} {C:Vs} {rs:List Rw} {F:List Nat} (h:TreeAt Iq w tb m C rs F) (g:Gb w w') (hi:∀ k,k < w.heap.size->Iq k->Iq' k) (up:Up Iq' w'):TreeAt Iq' w' tb m C rs F:=by
 have h':=h.wk (Iq':=fun k=>Iq k ∨ w.heap.size<=k) (fun k _ hk=>.inl hk) (fun k hk=>.inr hk)
 obtain ⟨gc,cc,lb,pb,ks,pk,f,pf,G,h1,h2,h3,h4,h5,h6,h7,h8,h9,h10,rfl,h12,h13⟩:=h
 have h3':=h3.same (g.block _ h3.lt)
 have h4':=h4.same (g.block _ h4.lt)
 refine ⟨gc,cc,lb,pb,ks,pk,f,pf,G,?_,⟨?_⟩,h3',h4',⟨h5.keys,fun x hx=>?_,h5.apart⟩,h6,h7,h8,h9,h10,rfl,h12,up⟩
 ·rw [g.block tb (Array.getElem?_eq_some_iff.1 h1).1];exact h1
 ·obtain ⟨cur,e,hl,hu⟩:=h2.blk
  refine ⟨cur,by rw [g.block _ (Array.getElem?_eq_some_iff.1 e).1];exact e,hl,fun i hi'=>?_⟩
  obtain ⟨u,e1,e2⟩:=hu i hi'
  exact ⟨u,e1,e2.lift g hi⟩
 ·obtain ⟨d,vl,vh,vi,a⟩:=h5.at_ x hx
  exact ⟨d,vl,vh,vi,a.val,a.rows,a.pc.blk (g.block _ a.pc.lt),fun y hy=>(a.vec y hy).lift g hi,a.low.lift g hi,a.high.lift g hi,a.ids.lift g hi⟩
theorem TreeAt.ris {Iq:Nat->Prop} {w:World} {tb m:Nat} {C:Vs} {rs:List Rw} {F:List Nat} (h:TreeAt Iq w tb m C rs F):Ris rs:=by
 obtain ⟨gc,cc,lb,pb,ks,pk,f,pf,G,h1,h2,h3,h4,h5,h6,h7,h8,h9⟩:=h
 exact h8
theorem TreeAt.up {Iq:Nat->Prop} {w:World} {tb m:Nat} {C:Vs} {rs:List Rw} {F:List Nat} (h:TreeAt Iq w tb m C rs F):Up Iq w:=by
 obtain ⟨gc,cc,lb,pb,ks,pk,f,pf,G,h1,h2,h3,h4,h5,h6,h7,h8,h9,h10,h11,h12,h13⟩:=h
 exact h13
theorem TreeAt.rok {Iq:Nat->Prop} {w:World} {tb m:Nat} {C:Vs} {rs:List Rw} {F:List Nat} (h:TreeAt Iq w tb m C rs F):RowsOk rs (m:Int)/\1<=m/\m<=64:=by
 obtain ⟨gc,cc,lb,pb,ks,pk,f,pf,G,h1,h2,h3,h4,h5,h6,h7,h8,h9,h10,h11,h12,h13⟩:=h
 exact ⟨h9,h12.1⟩
theorem TreeAt.mem {Iq:Nat->Prop} {w:World} {tb m:Nat} {C:Vs} {rs:List Rw} {F:List Nat} (h:TreeAt Iq w tb m C rs F):tb ∈ F/\∀ y ∈ F,y < w.heap.size:=by
 obtain ⟨gc,cc,lb,pb,ks,pk,f,pf,G,h1,h2,h3,h4,h5,h6,h7,h8,h9,h10,rfl,h12,h13⟩:=h
 refine ⟨by simp,fun y hy=>?_⟩
 simp only [List.mem_cons,List.mem_map] at hy
 rcases hy with rfl | rfl | rfl | rfl | ⟨x,hx,rfl⟩
 ·exact (Array.getElem?_eq_some_iff.1 h1).1
 ·obtain ⟨cur,e,_⟩:=h2.blk
  exact (Array.getElem?_eq_some_iff.1 e).1
 ·exact h3.lt
 ·exact h4.lt
 ·obtain ⟨d,vl,vh,vi,a⟩:=h5.at_ x hx
  exact a.pc.lt
theorem TreeAt.noint {Iq:Nat->Prop} {w:World} {tb m:Nat} {C:Vs} {rs:List Rw} {F:List Nat} (h:TreeAt Iq w tb m C rs F):NoInt w (fun k=>k ∈ F):=by
 obtain ⟨gc,cc,lb,pb,ks,pk,f,pf,G,h1,h2,h3,h4,h5,h6,h7,h8,h9,h10,rfl,h12,h13⟩:=h
 intro y hy cur s e
 simp only [List.mem_cons,List.mem_map] at hy
 rcases hy with rfl | rfl | rfl | rfl | ⟨x,hx,rfl⟩
 ·rw [h1] at e;simp at e
 ·obtain ⟨cur',e',_⟩:=h2.blk
  rw [e'] at e;simp at e
 ·obtain ⟨es,cl,e'⟩:=h3.isMap
  rw [e'] at e;simp at e
 ·obtain ⟨es,cl,e'⟩:=h4.isMap
  rw [e'] at e;simp at e
 ·obtain ⟨d,vl,vh,vi,a⟩:=h5.at_ x hx
  obtain ⟨cur',e',_⟩:=a.pc
  rw [e'] at e;simp at e
def TOut (Iq:Nat->Prop) (w:World) (tb m:Nat) (C:Vs) (F:List Nat) (rs:List Rw) (w':World):Prop:=∃ F',TreeAt Iq w' tb m C rs F'/\(∀ y ∈ F',y ∈ F ∨ w.heap.size<=y)/\Tk.Kp (fun k=>k ∈ F) w w'
end Go.Proofs.YtcipdampcmfmaabGreat

namespace Go.Proofs.YtcipdampcmfmaabGreat
open Go.RowKit Go.Sort Go.Maps
structure TreeO (Iq:Nat->Prop) (w:World) (tb m:Nat) (C:Vs) (rs:List Rw) (gc cc lb pb:Nat) (ks pk:List Int) (f:Int->Value) (pf:Int->Int) (G:Int->Loc):Prop where
 blk:w.heap[tb]? = some (.cells #[.int .i64 (m:Int),.slice (some ⟨gc,0,none⟩) C.length cc,.map (some lb),.map (some pb)] 74 (0,0))
 cen:CenQ Iq w gc C
 lst:MapA Tryz.prog 3 w lb ks f
 plc:MapA Tryz.prog 3 w pb pk (fun x=>.int .i64 (pf x))
 ls:LstM Iq w C rs ks f G
 pkk:∀ x,x ∈ pk ↔ x ∈ idsOf rs
 pfv:∀ r ∈ rs,pf r.1=((nearP C r.2).1:Int)
 ris:Ris rs
 rok:RowsOk rs (m:Int)
 cok:VsOk C (m:Int)/\1<=C.length/\C.length<=64
 dim:1<=m/\m<=64
 ne:lb ≠ pb
 up:Up Iq w
abbrev blks (tb gc lb pb:Nat) (ks:List Int) (G:Int->Loc):List Nat:=tb :: gc :: lb :: pb :: ks.map (fun x=>(G x).1)
theorem TreeAt.opn {Iq:Nat->Prop} {w:World} {tb m:Nat} {C:Vs} {rs:List Rw} {F:List Nat} (h:TreeAt Iq w tb m C rs F):∃ gc cc lb pb ks pk f pf G,TreeO Iq w tb m C rs gc cc lb pb ks pk f pf G/\F=blks tb gc lb pb ks G:=by
 obtain ⟨gc,cc,lb,pb,ks,pk,f,pf,G,h1,h2,h3,h4,h5,h6,h7,h8,h9,h10,h11,h12,h13⟩:=h
 exact ⟨gc,cc,lb,pb,ks,pk,f,pf,G,⟨h1,h2,h3,h4,h5,h6,h7,h8,h9,h10,h12.1,h12.2,h13⟩,h11⟩
theorem TreeO.shut {Iq:Nat->Prop} {w:World} {tb m:Nat} {C:Vs} {rs:List Rw} {gc cc lb pb:Nat} {ks pk:List Int} {f:Int->Value} {pf:Int->Int} {G:Int->Loc} (h:TreeO Iq w tb m C rs gc cc lb pb ks pk f pf G):TreeAt Iq w tb m C rs (blks tb gc lb pb ks G) :=
 ⟨gc,cc,lb,pb,ks,pk,f,pf,G,h.blk,h.cen,h.lst,h.plc,h.ls,h.pkk,h.pfv,h.ris,h.rok,h.cok,rfl,⟨h.dim,h.ne⟩,h.up⟩
theorem turned_of {w w':World} {b:Nat} (t:w.mapTurned w' b):w'.heap.size=w.heap.size/\(∀ k,k ≠ b->w'.heap[k]? = w.heap[k]?)/\Tk.Kp (fun k=>k=b) w w':=by
 obtain ⟨es,cl,es',cl',h1,rfl⟩:=t
 have e1:∀ k,k ≠ b->(ChangeMaps.setBlock w b (.map es' cl')).heap[k]? = w.heap[k]? := fun k hk=>by
  show (w.heap.setIfInBounds b _)[k]? = _
  rw [Array.getElem?_setIfInBounds_ne (fun e=>hk e.symm)]
 have e2:(ChangeMaps.setBlock w b (.map es' cl')).heap.size=w.heap.size:=by
  show (w.heap.setIfInBounds b _).size=_
  rw [Array.size_setIfInBounds]
 exact ⟨e2,e1,⟨rfl,rfl,rfl,by omega,fun k _ hk=>e1 k hk⟩⟩
theorem TreeO.cells {Iq:Nat->Prop} {w:World} {tb m:Nat} {C:Vs} {rs:List Rw} {gc cc lb pb:Nat} {ks pk:List Int} {f:Int->Value} {pf:Int->Int} {G:Int->Loc} (h:TreeO Iq w tb m C rs gc cc lb pb ks pk f pf G) :
  w.cell? ⟨tb,0,none⟩=some (.int .i64 (m:Int))/\w.cell? ⟨tb,1,none⟩=some (.slice (some ⟨gc,0,none⟩) C.length cc)/\w.cell? ⟨tb,2,none⟩=some (.map (some lb))/\w.cell? ⟨tb,3,none⟩=some (.map (some pb)) :=
 ⟨cell_cur h.blk rfl,cell_cur h.blk rfl,cell_cur h.blk rfl,cell_cur h.blk rfl⟩
theorem TreeO.ksl {Iq:Nat->Prop} {w:World} {tb m:Nat} {C:Vs} {rs:List Rw} {gc cc lb pb:Nat} {ks pk:List Int} {f:Int->Value} {pf:Int->Int} {G:Int->Loc} (h:TreeO Iq w tb m C rs gc cc lb pb ks pk f pf G):ks.length<=512:=by
 obtain ⟨_,_,hnd,_⟩:=h.lst
 have p:=lists_perm h.ris hnd h.ls.keys
 have h1:=p.length_eq
 have h2:=h.rok.few
 rw [List.length_flatMap] at h1
 have:∀ l:List Int,(∀ x ∈ l,listR C rs x.toNat ≠ [])->l.length<=(l.map fun x=>(listR C rs x.toNat).length).sum:=by
  intro l
  induction l with
  | nil=>intro _;simp
  | cons x r ih =>
   intro hl
   have a1:=ih (fun y hy=>hl y (List.mem_cons_of_mem _ hy))
   have a2:=List.length_pos_iff.2 (hl x List.mem_cons_self)
   simp only [List.map_cons,List.sum_cons,List.length_cons]
   omega
 have:=this ks (fun x hx=>((h.ls.keys x).1 hx).2)
 omega
theorem TreeO.pkl {Iq:Nat->Prop} {w:World} {tb m:Nat} {C:Vs} {rs:List Rw} {gc cc lb pb:Nat} {ks pk:List Int} {f:Int->Value} {pf:Int->Int} {G:Int->Loc} (h:TreeO Iq w tb m C rs gc cc lb pb ks pk f pf G):pk.length=rs.length:=by
 obtain ⟨_,_,hnd,_⟩:=h.plc
 have hi:(idsOf rs).Nodup:=h.rok.ids
 have:=(nd_perm hnd hi h.pkk).length_eq
 rw [this]
 simp [idsOf]
theorem PcR.rd {w:World} {g o cap:Nat} {d:List Rt} (h:PcR w g o d.length cap (d.flatMap encR)):RwRd w g o d:=fun i hi=>by
 have h1:=h.cells (i * 2) (.int .i64 d[i].1) (by rw [flR_get,dif_pos (by omega)];simp [show i * 2 / 2=i by omega])
 have h2:=h.cells (i * 2 + 1) d[i].2.1 (by rw [flR_get,dif_pos (by omega)];simp [show (i * 2 + 1) / 2=i by omega,show (i * 2 + 1) % 2=1 by omega])
 exact ⟨h1,by rw [Nat.add_assoc];exact h2⟩
theorem RwRd.rdw' {w:World} {g o cap:Nat} {d:List Rt} (h:RwRd w g o d) (hv:∀ x ∈ d,RdI w x.2.1 x.2.2):RdW w (.slice (some ⟨g,o,none⟩) d.length cap) (d.map rwR):=by
 refine ⟨_,cap,by rw [List.length_map],fun i hi=>?_⟩
 rw [List.length_map] at hi
 rw [getElem!_pos (d.map rwR) i (by rw [List.length_map];exact hi),List.getElem_map]
 obtain ⟨h1,h2⟩:=h i hi
 exact ⟨g,o,d[i].2.1,rfl,h1,h2,hv _ (List.getElem_mem hi)⟩
theorem TreeO.chg {Iq:Nat->Prop} {w W:World} {tb m:Nat} {C:Vs} {rs rs':List Rw} {gc cc lb pb:Nat} {ks pk ks' pk':List Int} {f f':Int->Value} {pf pf':Int->Int} {G G':Int->Loc} (h:TreeO Iq w tb m C rs gc cc lb pb ks pk f pf G) {p:Nat}
  (k:Tk.Kp (fun b=>b ∈ blks tb gc lb pb ks G) w W) (tbk:W.heap[tb]? = w.heap[tb]?) (gck:W.heap[gc]? = w.heap[gc]?) (ml:MapA Tryz.prog 3 W lb ks' f') (mp:MapA Tryz.prog 3 W pb pk' (fun x=>.int .i64 (pf' x)))
  (oth:∀ x ∈ ks,x ≠ (p:Int)->f' x=f x/\G' x=G x/\∀ n xs,PcR w (G x).1 (G x).2.1 n (G x).2.2 xs->PcR W (G x).1 (G x).2.1 n (G x).2.2 xs)
  (keys:∀ x:Int,x ∈ ks' ↔ 0<=x/\listR C rs' x.toNat ≠ []) (same:∀ x:Nat,x ≠ p->listR C rs' x=listR C rs x)
  (new:(p:Int) ∈ ks'->∃ d vl vh vi,LsAt Iq W C[p]! (listR C rs' p) (f' p) (G' p) d vl vh vi) (apt:(p:Int) ∈ ks'->∀ x ∈ ks,x ≠ (p:Int)->Apart (G' p) (G x))
  (gnew:(p:Int) ∈ ks'->((p:Int) ∈ ks/\(G' p).1=(G p).1) ∨ w.heap.size<=(G' p).1) (pkk:∀ x,x ∈ pk' ↔ x ∈ idsOf rs') (pfv:∀ r ∈ rs',pf' r.1=((nearP C r.2).1:Int)) (ris:Ris rs') (rok:RowsOk rs' (m:Int)) :
  TOut Iq w tb m C (blks tb gc lb pb ks G) rs' W:=by
 have hno:=h.shut.noint
 have old:∀ x:Int,x ∈ ks'->x ≠ (p:Int)->x ∈ ks:=fun x hx hne=>by
  have h1:=(keys x).1 hx
  rw [same x.toNat (by omega)] at h1
  exact (h.ls.keys x).2 h1
 have cq:CenQ Iq W gc C:=by
  obtain ⟨cur,e,hl,hu⟩:=h.cen.blk
  refine ⟨cur,gck.trans e,hl,fun i hi=>?_⟩
  obtain ⟨u,e1,e2⟩:=hu i hi
  exact ⟨u,e1,arq_noi e2 k (NoI.of hno)⟩
 have lm:LstM Iq W C rs' ks' f' G':=by
  refine ⟨keys,fun x hx=>?_,fun x hx y hy hne=>?_⟩
  ·by_cases e:x=(p:Int)
   ·subst e
    simpa using new hx
   ·have hxo:=old x hx e
    obtain ⟨d,vl,vh,vi,a⟩:=h.ls.at_ x hxo
    obtain ⟨o1,o2,o3⟩:=oth x hxo e
    have hx0:=((keys x).1 hx).1
    refine ⟨d,vl,vh,vi,?_⟩
    rw [same x.toNat (by omega),o1,o2]
    exact ⟨a.val,a.rows,o3 _ _ a.pc,fun y hy=>ownq_noint (a.vec y hy) k hno,ownq_noint a.low k hno,ownq_noint a.high k hno,ownq_noint a.ids k hno⟩
  ·by_cases e:x=(p:Int)
   ·subst e
    have hyo:=old y hy (fun e=>hne e.symm)
    rw [(oth y hyo (fun e=>hne e.symm)).2.1]
    exact apt hx y hyo (fun e=>hne e.symm)
   ·have hxo:=old x hx e
    rw [(oth x hxo e).2.1]
    by_cases e':y=(p:Int)
    ·subst e'
     rcases apt hy x hxo e with a | a | a
     ·exact .inl (fun e=>a e.symm)
     ·exact .inr (.inr a)
     ·exact .inr (.inl a)
    ·have hyo:=old y hy e'
     rw [(oth y hyo e').2.1]
     exact h.ls.apart x hxo y hyo hne
 refine ⟨blks tb gc lb pb ks' G',TreeO.shut (pk:=pk') (pf:=pf') (cc:=cc) (f:=f') ⟨by rw [tbk];exact h.blk,cq,ml,mp,lm,pkk,pfv,ris,rok,h.cok,h.dim,h.ne,h.up.le k.size⟩,fun y hy=>?_,k⟩
 simp only [blks,List.mem_cons,List.mem_map] at hy ⊢
 rcases hy with hy | hy | hy | hy | ⟨x,hx,rfl⟩
 ·exact .inl (.inl hy)
 ·exact .inl (.inr (.inl hy))
 ·exact .inl (.inr (.inr (.inl hy)))
 ·exact .inl (.inr (.inr (.inr (.inl hy))))
 ·by_cases e:x=(p:Int)
  ·subst e
   rcases gnew hx with ⟨g1,g2⟩ | g
   ·exact .inl (.inr (.inr (.inr (.inr ⟨p,g1,g2.symm⟩))))
   ·exact .inr g
  ·have hxo:=old x hx e
   exact .inl (.inr (.inr (.inr (.inr ⟨x,hxo,by rw [(oth x hxo e).2.1]⟩))))
theorem del_at {R:List Rw} {id:Int} (h:Ris R) {i:Nat} (hi:i < R.length) (e:R[i].1=id):R.take i ++ R.drop (i + 1)=delRw R id:=by
 have hp:=List.pairwise_iff_getElem.1 h
 have e2:R=R.take i ++ R[i] :: R.drop (i + 1):=by rw [List.getElem_cons_drop,List.take_append_drop]
 unfold delRw
 conv=>rhs;rw [e2]
 rw [List.filter_append,List.filter_cons_of_neg (by simp [e])]
 congr 1
 ·symm
  rw [List.filter_eq_self]
  intro x hx
  obtain ⟨j,hj,rfl⟩:=List.getElem_of_mem hx
  rw [List.length_take] at hj
  rw [List.getElem_take]
  have:=hp j i (by omega) hi (by omega)
  simp
  omega
 ·symm
  rw [List.filter_eq_self]
  intro x hx
  obtain ⟨j,hj,rfl⟩:=List.getElem_of_mem hx
  rw [List.length_drop] at hj
  rw [List.getElem_drop]
  have:=hp i (i + 1 + j) hi (by omega) (by omega)
  simp
  omega
end Go.Proofs.YtcipdampcmfmaabGreat

namespace Go.Proofs.YtcipdampcmfmaabGreat
open Go.RowKit Go.Sort Go.Maps
theorem pick_lt {α:Type} {p:Nat->α->Prop} (a0:α) {n:Nat} (h:∀ i,i < n->∃ a,p i a):∃ f:Nat->α,∀ i,i < n->p i (f i):=by
 classical
 refine ⟨fun i=>if hi:i < n then (h i hi).choose else a0,fun i hi=>?_⟩
 simp only [dif_pos hi]
 exact (h i hi).choose_spec
theorem OwnC.rt {W:World} {B:Nat} {v:Value} {rs:List Rw} (h:OwnC W B v rs):∃ d:List Rt,d.map rwR=rs/\W.ownsRow B 45 2 v d.length (d.flatMap encR)/\∀ x ∈ d,Own W B x.2.1 x.2.2:=by
 obtain ⟨_,xs,h1,h2⟩:=h
 have hl:=h1.1
 have hc:∀ i,i < rs.length->∃ u,xs[i * 2]? = some (.int .i64 rs[i]!.1)/\xs[i * 2 + 1]? = some u/\Own W B u rs[i]!.2:=fun i hi=>by
  obtain ⟨a,u,b,c⟩:=h2 i hi
  exact ⟨u,a,b,c⟩
 obtain ⟨U,hU⟩:=pick_lt (p:=fun i u=>xs[i * 2]? = some (.int .i64 rs[i]!.1)/\xs[i * 2 + 1]? = some u/\Own W B u rs[i]!.2) (.slice none 0 0) hc
 have hdl:((List.range rs.length).map fun i=>((rs[i]!.1,U i,rs[i]!.2):Rt)).length=rs.length:=by simp
 refine ⟨(List.range rs.length).map fun i=>(rs[i]!.1,U i,rs[i]!.2),?_,?_,?_⟩
 ·apply List.ext_getElem (by simp)
  intro i h1 h2
  simp [h2]
 ·rw [hdl]
  have e:((List.range rs.length).map fun i=>((rs[i]!.1,U i,rs[i]!.2):Rt)).flatMap encR=xs:=by
   apply List.ext_getElem?
   intro t
   rw [flR_get]
   by_cases ht:t / 2 < rs.length
   ·rw [dif_pos (by rw [hdl];exact ht)]
    obtain ⟨a,b,_⟩:=hU (t / 2) ht
    simp only [List.getElem_map,List.getElem_range,encR]
    rcases Nat.mod_two_eq_zero_or_one t with h0 | h0
    ·rw [h0,show t=t / 2 * 2 by omega,a];simp
    ·rw [h0]
     have e2:t=t / 2 * 2 + 1:=by omega
     rw [show xs[t]? = xs[t / 2 * 2 + 1]? from by rw [<- e2],b];rfl
   ·rw [dif_neg (by rw [hdl];exact ht),List.getElem?_eq_none (by omega)]
  rw [e];exact h1
 ·intro x hx
  obtain ⟨i,hi,rfl⟩:=List.mem_map.1 hx
  exact (hU i (List.mem_range.1 hi)).2.2
theorem own_sorted {w w':World} {B g cap:Nat} {d d':List Rt} (h:w.ownsRow B 45 2 (.slice (some ⟨g,0,none⟩) d.length cap) d.length (d.flatMap encR)) (hr:RwAt w' g 0 d') (hs:Srt w w' g 0 d.length) (hl:d'.length=d.length) :
  w'.ownsRow B 45 2 (.slice (some ⟨g,0,none⟩) d'.length cap) d'.length (d'.flatMap encR):=by
 refine ⟨flR_len d',?_⟩
 rcases h.2 with ⟨e,_⟩ | ⟨g',cap',cur,e,hB,hh,hle,hmx,hsz,_⟩
 ·cases e
 ·cases e
  obtain ⟨c2,e2,s2,_⟩:=hs.blk cur hh
  obtain ⟨c3,e3,_,f3⟩:=hr
  rw [e2] at e3
  injection e3 with e3
  injection e3 with e3 _ _
  subst e3
  refine .inr ⟨g,cap,c2,rfl,hB,e2,by omega,hmx,by omega,?_⟩
  apply List.ext_getElem?
  intro t
  rw [flR_get]
  by_cases ht:t / 2 < d'.length
  ·rw [dif_pos ht,List.getElem?_take_of_lt (by omega),Array.getElem?_toList]
   obtain ⟨a,b⟩:=f3 (t / 2) ht
   rw [Nat.zero_add] at a b
   rcases Nat.mod_two_eq_zero_or_one t with h0 | h0
   ·rw [h0]
    rw [show c2[t]? = c2[t / 2 * 2]? from by rw [show t / 2 * 2=t by omega],a];rfl
   ·rw [h0]
    rw [show c2[t]? = c2[t / 2 * 2 + 1]? from by rw [show t / 2 * 2 + 1=t by omega],b];rfl
  ·rw [dif_neg ht,List.getElem?_eq_none (by rw [List.length_take];omega)]
theorem rise_ids {d:List Rt} (h:d.Pairwise fun x y=>¬ Tk.ci y.1 x.1 < 0) (hid:(idsOf (d.map rwR)).Pairwise (· ≠ ·)):(d.map rwR).Pairwise fun x y=>x.1 < y.1:=by
 unfold idsOf at hid
 rw [List.pairwise_map] at hid ⊢
 rw [List.pairwise_map] at hid
 refine (h.and hid).imp ?_
 intro a b hab
 have h1:=(ci_neg _ _).1 hab.1
 have h2:=hab.2
 simp only [] at h2 ⊢
 omega
theorem RwAt.noint {w:World} {g o:Nat} {d:List Rt} (h:RwAt w g o d):NoInt w (fun b=>b=g):=by
 intro k e cur s hc
 subst e
 obtain ⟨c,h1,_⟩:=h
 rw [h1] at hc
 simp at hc
theorem sortId_any {w:World} {g o cap n:Nat} {d:List Rt} (hd:RwAt w g o d) (hlen:d.length<=4000) (hok:∀ x ∈ d,RtOk w g n x) :
  Calls Tryz.prog 40 #[.slice (some ⟨g,o,none⟩) d.length cap,.func (.func 41) #[] #[]] w fun e w'=>e=.returned (.tuple #[])/\∃ d',d'.Perm d/\(d'.Pairwise fun x y=>¬ Tk.ci y.1 x.1 < 0)/\RwAt w' g o d'/\Srt w w' g o d.length:=by
 by_cases hne:d=[]
 ·subst hne
  refine (sort_none _ _ _ w).mono ?_
  rintro e w' ⟨rfl,rfl⟩
  exact ⟨rfl,[],List.Perm.refl _,List.Pairwise.nil,hd,Tk.Kp.refl _ _,fun cur hc=>⟨cur,hc,rfl,fun _ _=>rfl⟩⟩
 ·exact sortId_c hd hne hlen hok
theorem ris_eq:∀ {a b:List Rw},Ris a->Ris b->a.Perm b->a=b
 | [],b,_,_,p=>(p.symm.eq_nil).symm
 | x :: r,[],_,_,p=>absurd p.eq_nil (by simp)
 | x :: r,y :: s,ha,hb,p=>by
  have h1:=List.pairwise_cons.1 ha
  have h2:=List.pairwise_cons.1 hb
  have e:x=y:=by
   rcases List.mem_cons.1 (p.mem_iff.1 List.mem_cons_self) with e | hx
   ·exact e
   ·rcases List.mem_cons.1 (p.mem_iff.2 (List.mem_cons_self (a:=y) (l:=s))) with e | hy
    ·exact e.symm
    ·have:=h1.1 y hy
     have:=h2.1 x hx
     omega
  subst e
  rw [ris_eq h1.2 h2.2 (List.Perm.cons_inv p)]
theorem OwnC.of_rt {W:World} {B g cap:Nat} {d:List Rt} (h:W.ownsRow B 45 2 (.slice (some ⟨g,0,none⟩) d.length cap) d.length (d.flatMap encR)) (hv:∀ x ∈ d,Own W B x.2.1 x.2.2):OwnC W B (.slice (some ⟨g,0,none⟩) d.length cap) (d.map rwR):=by
 refine ⟨by simp,d.flatMap encR,by rw [List.length_map];exact h,fun i hi=>?_⟩
 rw [List.length_map] at hi
 rw [getElem!_pos (d.map rwR) i (by rw [List.length_map];exact hi),List.getElem_map]
 refine ⟨?_,d[i].2.1,?_,hv _ (List.getElem_mem hi)⟩
 ·rw [flR_get,dif_pos (by omega)]
  simp [show i * 2 / 2=i by omega]
 ·rw [flR_get,dif_pos (by omega)]
  simp [show (i * 2 + 1) / 2=i by omega,show (i * 2 + 1) % 2=1 by omega]
theorem OwnC.mono {W:World} {B B':Nat} {v:Value} {rs:List Rw} (h:OwnC W B v rs) (hB:B'<=B):OwnC W B' v rs:=by
 obtain ⟨h0,xs,h1,h2⟩:=h
 refine ⟨h0,xs,⟨h1.1,?_⟩,fun i hi=>?_⟩
 ·rcases h1.2 with h | ⟨a,b,c,e,hb,r⟩
  ·exact .inl h
  ·exact .inr ⟨a,b,c,e,Nat.le_trans hB hb,r⟩
 ·obtain ⟨a,u,b,c⟩:=h2 i hi
  exact ⟨a,u,b,c.mono hB⟩
theorem sorted_c {w:World} {B m:Nat} {v:Value} {rs:List Rw} (o:OwnC w B v rs) (hok:RowsOk rs (m:Int)) :
  Calls Tryz.prog 40 #[v,.func (.func 41) #[] #[]] w fun e w'=>e=.returned (.tuple #[])/\∃ rs',rs'.Perm rs/\Ris rs'/\OwnC w' B v rs'/\Tk.Kp (fun b=>v.ownBlock=some b) w w':=by
 obtain ⟨g,cap,ev⟩:=o.form
 obtain ⟨d,hd,hown,hvec⟩:=o.rt
 have hdl:d.length=rs.length:=by rw [<- hd,List.length_map]
 rw [<- hdl] at ev
 subst ev
 obtain ⟨r3,hB,hlt⟩:=rwAt_own hown
 have h512:=hok.few
 have hrt:∀ x ∈ d,RtOk w g m x:=fun x hx=>by
  have hl:x.2.2.length=m:=by
   have:=chk_ok (hok.row (rwR x) (by rw [<- hd];exact List.mem_map.2 ⟨x,hx,rfl⟩)).2
   have e:(rwR x).2=x.2.2:=rfl
   rw [e] at this
   omega
  refine ⟨(hvec x hx).rd,hl,fun b o' n c e hb=>?_⟩
  subst hb
  rcases (hvec x hx).2 with ⟨e2,_⟩ | ⟨g',cap',cur,e2,_,hh,_⟩
  ·rw [e2] at e;cases e
  ·rw [e2] at e
   cases e
   exact r3.noint _ rfl _ _ hh
 refine (sortId_any (cap:=cap) (n:=m) r3 (by omega) hrt).mono ?_
 rintro e w' ⟨rfl,d',pm,hs,r5,s5⟩
 have hs:d'.Pairwise fun x y=>¬ Tk.ci y.1 x.1 < 0:=by first | exact hs | exact hs.imp (fun h=>Int.not_lt.2 h)
 have hl':d'.length=d.length:=pm.length_eq
 have k5:Tk.Kp (fun b=>(Value.slice (some ⟨g,0,none⟩) d.length cap).ownBlock=some b) w w':=s5.kp.mono (fun k _ e=>by rw [e];rfl)
 have hpm:(d'.map rwR).Perm rs:=by rw [<- hd];exact pm.map _
 refine ⟨rfl,d'.map rwR,hpm,rise_ids hs (RowsOk.perm hok hpm.symm).ids,?_,k5⟩
 have:=own_sorted hown r5 s5 hl'
 rw [<- hl']
 refine OwnC.of_rt this (fun x hx=>own_noint (hvec x (pm.mem_iff.1 hx)) s5.kp r3.noint)
end Go.Proofs.YtcipdampcmfmaabGreat
