import Derived.Test.YtcipdampcmfmaabGreatJa30
import Derived.Test.YtcipdampcmfmaabGreatJa4
import Derived.Test.YtcipdampcmfmaabGreatJa32
import Derived.Test.YtcipdampcmfmaabGreatJa29
import Derived.Test.YtcipdampcmfmaabGreatJa18
import Derived.Test.YtcipdampcmfmaabGreatJa13
namespace Go.Proofs.YtcipdampcmfmaabGreat
open Go.RowKit Go.Shelf Go.Sort Go.Maps
set_option maxRecDepth 100000
set_option maxHeartbeats 2000000
def RgAt (W:World) (B:Nat) (v:Value) (l:List Reg):Prop:=∃ xs,W.ownsRow B 98 6 v l.length xs/\∀ i (_:i < l.length),∃ v1 v3,l[i].S=3/\l[i].H=[]/\xs[i * 6]? = some (.int .i64 3)/\xs[i * 6 + 1]? = some v1/\xs[i * 6 + 2]? = some (.slice none 0 0)/\xs[i * 6 + 3]? = some (.int .u64 (hi l[i].R))/\xs[i * 6 + 4]? = some (.int .u64 (lo l[i].R))/\xs[i * 6 + 5]? = some v3/\Own W B v1 l[i].L/\Own W B v3 l[i].I
theorem RgAt.kp {S:Nat->Prop} {W W':World} {B:Nat} {v:Value} {l:List Reg} (h:RgAt W B v l) (k:Tk.Kp S W W') (hS:NoInt W S) (hn:∀ g,v.ownBlock=some g->¬ S g):RgAt W' B v l:=by
 obtain ⟨xs,h1,h2⟩:=h
 refine ⟨xs,own_kpR h1 k hn,fun i hi'=>?_⟩
 obtain ⟨v1,v3,s,r,a,b,c,d,e,f,o1,o3⟩:=h2 i hi'
 exact ⟨v1,v3,s,r,a,b,c,d,e,f,own_noint o1 k hS,own_noint o3 k hS⟩
theorem RgAt.gb {W W':World} {B:Nat} {v:Value} {l:List Reg} (h:RgAt W B v l) (g:Gb W W'):RgAt W' B v l:=h.kp (kpF g) (noF _) (fun _ _ h=>h)
theorem RgAt.ty {W:World} {B:Nat} {v:Value} {l:List Reg} (h:RgAt W B v l) {g:Nat} (hg:v.ownBlock=some g):Ty W g 98:=by
 obtain ⟨xs,h1,_⟩:=h
 exact own_ty h1 hg
theorem RgAt.form {W:World} {B:Nat} {v:Value} {l:List Reg} (h:RgAt W B v l):∃ a c,v=.slice a l.length c:=by
 obtain ⟨xs,h1,_⟩:=h
 rcases h1.2 with ⟨e,h0⟩ | ⟨g,cap,cur,e,_⟩
 ·exact ⟨none,0,by rw [e,h0]⟩
 ·exact ⟨_,cap,e⟩
theorem RgQ.at_ {Jq:Nat->Prop} {W:World} {B:Nat} {v:Value} {l:List Reg} (h:RgQ Jq W B v l):RgAt W B v l:=by
 obtain ⟨xs,h1,h2⟩:=h
 refine ⟨xs,h1,fun i hi'=>?_⟩
 obtain ⟨v1,v3,s,r,a,b,c,d,e,f,o1,o3,j1,j3⟩:=h2 i hi'
 exact ⟨v1,v3,s,r,a,b,c,d,e,f,o1,o3⟩
structure AnsK (w0 W':World) (vh vs vr:Value) (hits:List Tk.Ht) (ids:List Int) (regs:List Reg):Prop where
 gb:Gb w0 W'
 hits:Tk.Own W' vh hits.toArray
 hB:∀ g,vh.ownBlock=some g->w0.heap.size<=g
 seen:Own W' w0.heap.size vs ids
 rest:RgAt W' w0.heap.size vr regs
theorem tkown_ty {W:World} {v:Value} {l:List Tk.Ht} (h:Tk.Own W v l.toArray) {g:Nat} (hg:v.ownBlock=some g):Ty W g 58:=by
 rcases h.2 with ⟨rfl,_⟩ | ⟨g',cap,cur,rfl,_,hh,_⟩
 ·cases hg
 ·cases hg;exact ⟨cur,(0,0),hh⟩
theorem AnsK.kp {S:Nat->Prop} {w0 W W':World} {vh vs vr:Value} {hits:List Tk.Ht} {ids:List Int} {regs:List Reg} (h:AnsK w0 W vh vs vr hits ids regs) (k:Tk.Kp S W W') (hS:∀ b,S b->w0.heap.size<=b) (hn:∀ b,S b->∀ t,Ty W b t->t ≠ 3/\t ≠ 58/\t ≠ 98):AnsK w0 W' vh vs vr hits ids regs:=by
 refine ⟨h.gb.trans (k.gr h.gb.size hS),?_,h.hB,own_kpI h.seen k (fun g e e'=>(hn g e' _ (own_ty h.seen e)).1 rfl),h.rest.kp k (fun b e cur s hc=>(hn b e _ ⟨cur,s,hc⟩).1 rfl) (fun g e e'=>(hn g e' _ (h.rest.ty e)).2.2 rfl)⟩
 exact own_kpR h.hits k (fun g e e'=>(hn g e' _ (tkown_ty h.hits e)).2.1 rfl)
theorem answer_c {Z w0 W:World} {sb hb k:Nat} {vq:Value} {q:List Int} {s:SV} {vs vr vh:Value} (h:SA Z w0 W sb hb k vq q s vs vr vh) :
  Calls Tryz.prog 38 #[.pointer (some ⟨sb,0,none⟩)] W fun e W'=>∃ v1 v2 v3,e=.returned (.agg #[v1,v2,v3])/\AnsK w0 W' v1 v2 v3 (Tk.firsts k (hitsOf q s.seen)) (srt (idsOf s.seen)) s.rest/\(∃ a n c,v1=.slice a n c)/\(∃ a n c,v2=.slice a n c)/\∃ a n c,v3=.slice a n c:=by
 obtain ⟨W0,hW0⟩:∃ W0,W0=W.alloc (.cells #[.slice none 0 0,.slice none 0 0,.slice none 0 0] 51):=⟨_,rfl⟩
 have g0:Gb W W0:=by rw [hW0];exact gb_alloc (Below.refl _ _) _
 have b0:W0.heap[W.heap.size]? = some (.cells #[.slice none 0 0,.slice none 0 0,.slice none 0 0] 51 (0,0)):=by rw [hW0];exact heap_new _ _
 have hA:=h.grow g0
 have cS:=sortK_c hA.sn (by have:=h.few;unfold idsOf;rw [List.length_map];omega)
 obtain ⟨sa,sc,es,_⟩:=h.sn.rd
 obtain ⟨ra,rc,er⟩:=h.rg.form
 have LX0:Hid (∀ W1,Own W1 w0.heap.size vs (srt (idsOf s.seen))->Tk.Kp (fun b=>vs.ownBlock=some b) W0 W1->(W1.cell? ⟨sb,1,none⟩=some (.pointer (some ⟨hb,0,none⟩))/\W1.cell? ⟨sb,3,none⟩=some vs/\W1.cell? ⟨sb,4,none⟩=some vr)/\(Calls Tryz.prog 65 #[.pointer (some ⟨hb,0,none⟩)] W1.drew fun e w'=>∃ v',e=.returned v'/\Tk.Out W1.drew w' v' (Tk.firsts k (hitsOf q s.seen))) /\
   Hid (∀ w6 v6,Tk.Out W1.drew w6 v6 (Tk.firsts k (hitsOf q s.seen))->∃ ha hn hc,v6=.slice ha hn hc/\(w6.cell? ⟨sb,1,none⟩=some (.pointer (some ⟨hb,0,none⟩))/\w6.cell? ⟨sb,3,none⟩=some vs/\w6.cell? ⟨sb,4,none⟩=some vr)/\(∃ y,w6.cell? ⟨W.heap.size,0,none⟩=some y)/\(∃ y,w6.cell? ⟨W.heap.size,1,none⟩=some y)/\(∃ y,w6.cell? ⟨W.heap.size,2,none⟩=some y)/\w6.frozen? ⟨W.heap.size,0,none⟩=false/\w6.frozen? ⟨W.heap.size,1,none⟩=false/\w6.frozen? ⟨W.heap.size,2,none⟩=false /\
    (let F:=((w6.setCell ⟨W.heap.size,0,none⟩ (.slice ha hn hc)).setCell ⟨W.heap.size,1,none⟩ vs).setCell ⟨W.heap.size,2,none⟩ vr
     (F.cell? ⟨sb,1,none⟩=some (.pointer (some ⟨hb,0,none⟩))/\F.cell? ⟨sb,3,none⟩=some vs/\F.cell? ⟨sb,4,none⟩=some vr)/\Hid ((F.cell? ⟨W.heap.size,0,none⟩=some (.slice ha hn hc)/\F.cell? ⟨W.heap.size,1,none⟩=some vs/\F.cell? ⟨W.heap.size,2,none⟩=some vr)/\AnsK w0 F (.slice ha hn hc) vs vr (Tk.firsts k (hitsOf q s.seen)) (srt (idsOf s.seen)) s.rest)))):=fun W1 ho kp=>by
  have nn:∀ {b:Nat} {t:TypeId},Ty W0 b t->t ≠ 3->¬ vs.ownBlock=some b:=fun ht hne e=>ht.ne (hA.tvs e) hne rfl
  have blk1:W1.heap[sb]? = _:=(kp.block sb (Array.getElem?_eq_some_iff.1 hA.blk).1 (nn hA.tsb (by decide))).trans hA.blk
  have b1:W1.heap[W.heap.size]? = _:=(kp.block _ (Array.getElem?_eq_some_iff.1 b0).1 (nn ⟨_,_,b0⟩ (by decide))).trans b0
  have has1:Tk.Has W1 hb k vh (Tk.firsts k (hitsOf q s.seen)):=hA.has.kp kp (nn hA.thb (by decide)) (fun g e=>nn (hA.tvh e) (by decide))
  have rg1:RgQ (fun g=>vs.ownBlock ≠ some g) W1 w0.heap.size vr s.rest:=hA.rg.kp kp (fun b e hj=>absurd e hj) (fun g e=>nn (hA.tvr e) (by decide))
  have gb1:Gb w0 W1:=hA.gb.trans (kp.gr hA.gb.size (fun b e=>(h.sn.lt b e).1))
  have gD:Gb W1 W1.drew:=(Below.refl _ _).drew
  refine ⟨⟨cell_cur blk1 rfl,cell_cur blk1 rfl,cell_cur blk1 rfl⟩,Tk.list_has (has1.gr gD),fun w6 v6 o6=>?_⟩
  obtain ⟨oh,g6,hB6⟩:=o6
  have g16:Gb W1 w6:=gb_trans gD g6
  obtain ⟨ha,hn,hc,e6⟩:∃ a n c,v6=.slice a n c:=by
   rcases oh.2 with ⟨e,_⟩ | ⟨g,cap,cur,e,_⟩
   ·exact ⟨_,_,_,e⟩
   ·exact ⟨_,_,_,e⟩
  subst e6
  have blk6:w6.heap[sb]? = _:=(g16.block sb (Array.getElem?_eq_some_iff.1 blk1).1).trans blk1
  have b6:w6.heap[W.heap.size]? = _:=(g16.block _ (Array.getElem?_eq_some_iff.1 b1).1).trans b1
  have kF:Tk.Kp (fun b=>b=W.heap.size) w6 (((w6.setCell ⟨W.heap.size,0,none⟩ (.slice ha hn hc)).setCell ⟨W.heap.size,1,none⟩ vs).setCell ⟨W.heap.size,2,none⟩ vr):=(((Tk.Kp.refl (fun b=>b=W.heap.size) w6).setCell (.inl rfl) _).setCell (.inl rfl) _).setCell (.inl rfl) _
  have slt:sb < W.heap.size:=(Array.getElem?_eq_some_iff.1 h.blk).1
  have A6:AnsK w0 w6 (.slice ha hn hc) vs vr (Tk.firsts k (hitsOf q s.seen)) (srt (idsOf s.seen)) s.rest:=⟨gb_trans gb1 g16,oh,fun g e=>by have:=hB6 g e;have:=gb1.size;have e':W1.drew.heap.size=W1.heap.size:=rfl;omega,ho.gb g16,(rg1.gb g16).at_⟩
  refine ⟨ha,hn,hc,rfl,⟨cell_cur blk6 rfl,cell_cur blk6 rfl,cell_cur blk6 rfl⟩,⟨_,cell_cur b6 rfl⟩,⟨_,cell_cur b6 rfl⟩,⟨_,cell_cur b6 rfl⟩,by simp [World.frozen?,b6],by simp [World.frozen?,b6],by simp [World.frozen?,b6],⟨kF.cell (cell_cur blk6 rfl) (by dsimp only;omega),kF.cell (cell_cur blk6 rfl) (by dsimp only;omega),kF.cell (cell_cur blk6 rfl) (by dsimp only;omega)⟩,⟨?_,?_,?_⟩,A6.kp kF (fun b e=>by subst e;exact h.gb.size) (fun b e t ht=>?_)⟩
  ·simp [World.cell?,World.setCell,Array.getElem?_modify,b6]
  ·simp [World.cell?,World.setCell,Array.getElem?_modify,b6]
  ·simp [World.cell?,World.setCell,Array.getElem?_modify,b6]
  ·subst e
   obtain ⟨c,s',e⟩:=ht
   rw [b6] at e
   injection e with e
   injection e with _ e _
   subst e
   decide
 have x3:=hA.cells.2.2.2.1
 subst es er
 generalize (idsOf s.seen).length=sn at *
 generalize s.rest.length=rn at *
 have slt:sb < W.heap.size:=(Array.getElem?_eq_some_iff.1 h.blk).1
 clear h hA g0 b0
 subst hW0
 go_enter Tryz.func38,Tryz.ntmps38
 go_wp2_with fail
 go_fit cS
 rintro e W1 ⟨rfl,ho,kp⟩
 obtain ⟨FS,cL,LX⟩:=LX0.out W1 ho kp
 clear LX0 cS ho kp x3
 go_wp2_with fail
 refine wp_region_held_drew (S:=fun W2=>W2.cell? ⟨sb,1,none⟩=some (.pointer (some ⟨hb,0,none⟩))/\W2.cell? ⟨sb,3,none⟩=some (.slice sa sn sc)/\W2.cell? ⟨sb,4,none⟩=some (.slice ra rn rc)) (by kernel_rfl) (FS) (fun hHeld=>?_)
 refine tkn 0 ?_ rfl ?_ ?_;rotate_left;·(rintro w ⟨s0,s1,s2⟩;go_simp;try rfl)
 refine tkn 1 ?_ rfl ?_ ?_;rotate_left;·(rintro w ⟨s0,s1,s2⟩;go_simp;try rfl)
 refine tkn 2 ?_ rfl ?_ ?_;rotate_left;·(rintro w ⟨s0,s1,s2⟩;go_simp;try rfl)
 refine tkn 3 ?_ rfl ?_ ?_;rotate_left;·(rintro w ⟨s0,s1,s2⟩;go_simp;try rfl)
 refine tkn 5 ?_ rfl ?_ ?_;rotate_left;·(rintro w ⟨s0,s1,s2⟩;go_simp;try rfl)
 refine tkn 6 ?_ rfl ?_ ?_;rotate_left;·(rintro w ⟨s0,s1,s2⟩;go_simp;try rfl)
 refine tkn 7 ?_ rfl ?_ ?_;rotate_left;·(rintro w ⟨s0,s1,s2⟩;go_simp;try rfl)
 refine tkn 8 ?_ rfl ?_ ?_;rotate_left;·(rintro w ⟨s0,s1,s2⟩;go_simp;try rfl)
 refine tkn 9 ?_ rfl ?_ ?_;rotate_left;·(rintro w ⟨s0,s1,s2⟩;go_simp;try rfl)
 refine tkn 10 ?_ rfl ?_ ?_;rotate_left;·(rintro w ⟨s0,s1,s2⟩;go_simp;try rfl)
 refine tkn 11 ?_ rfl ?_ ?_;rotate_left;·(rintro w ⟨s0,s1,s2⟩;go_simp;try rfl)
 refine tkn 12 ?_ rfl ?_ ?_;rotate_left;·(rintro w ⟨s0,s1,s2⟩;go_simp;try rfl)
 refine rdn 4 rfl (fun K hK=>?_)
 go_simp
 go_fit cL
 rintro e w6 ⟨v6,rfl,o6⟩
 obtain ⟨ha,hn,hc,rfl,K6,⟨y0,z0⟩,⟨y1,z1⟩,⟨y2,z2⟩,f0,f1,f2,K7,FIN⟩:=LX.out w6 v6 o6
 clear o6 cL LX
 refine hK.out _ _ (K6) (fun hHeld=>?_)
 clear hK K
 refine tkn 13 ?_ rfl ?_ ?_;rotate_left;·(rintro w ⟨s0,s1,s2⟩;go_simp;try rfl)
 refine rdn 14 rfl (fun K hK=>?_)
 go_simp
 refine hK.out _ _ (K7) (fun hHeld=>?_)
 clear hK K
 refine wpAnyH_done (by kernel_rfl) ?_ _
 clear hHeld FS K6 K7 z0 z1 z2 f0 f1 f2
 obtain ⟨⟨p0,p1,p2⟩,hAns⟩:=FIN.out
 have AA:Hid _:=hAns
 clear FIN hAns
 go_wp2
 exact bodyPost_ret (v:=.agg #[.slice ha hn hc,.slice sa sn sc,.slice ra rn rc]) (by simp [results,Tryz.results38,go_sem,p0,p1,p2]) rfl ⟨_,_,_,rfl,AA.out,⟨_,_,_,rfl⟩,⟨_,_,_,rfl⟩,⟨_,_,_,rfl⟩⟩
end Go.Proofs.YtcipdampcmfmaabGreat

namespace Go.Proofs.YtcipdampcmfmaabGreat
open Go.RowKit Go.Sort Go.Maps
def PLn (C:Vs) (x:Rt):Nat:=(nearP C x.2.2).1
def Srt2 (C:Vs) (d:List Rt):Prop:=d.Pairwise fun x y=>PLn C x < PLn C y ∨ (PLn C x=PLn C y/\x.1 < y.1)
theorem listR_map (C:Vs) (d:List Rt) (p:Nat):listR C (d.map rwR) p=(d.filter fun x=>decide (PLn C x=p)).map rwR:=by
 unfold listR
 rw [List.filter_map]
 rfl
theorem lay_ris {C:Vs} {d:List Rt} (h:Srt2 C d) (p:Nat):Ris (listR C (d.map rwR) p):=by
 rw [listR_map]
 unfold Ris
 rw [List.pairwise_map]
 refine List.Pairwise.imp_of_mem ?_ (h.sublist List.filter_sublist)
 intro a b ha hb hab
 have e1:=(List.mem_filter.1 ha).2
 have e2:=(List.mem_filter.1 hb).2
 simp only [decide_eq_true_eq] at e1 e2
 rcases hab with hab | hab
 ·omega
 ·exact hab.2
theorem lay_same {C:Vs} {d:List Rt} {rs:List Rw} (h:Srt2 C d) (pm:(d.map rwR).Perm rs) (hr:Ris rs) (p:Nat):listR C (d.map rwR) p=listR C rs p :=
 ris_eq (lay_ris h p) (listR_ris p hr) (pm.filter _)
theorem lay_next {C:Vs} {d:List Rt} {off cnt p:Nat} (h1:∀ i (hi:i < d.length),i < off->PLn C d[i] < p) (h2:∀ i (hi:i < d.length),off<=i->i < off + cnt->PLn C d[i]=p) (x:Nat) :
  listR C ((d.take (off + cnt)).map rwR) x=if x=p then ((d.drop off).take cnt).map rwR else listR C ((d.take off).map rwR) x:=by
 rw [List.take_add,listR_map,List.filter_append,List.map_append,<- listR_map]
 by_cases e:x=p
 ·subst e
  rw [if_pos rfl]
  have a1:listR C ((d.take off).map rwR) x=[]:=by
   rw [listR_map,List.map_eq_nil_iff,List.filter_eq_nil_iff]
   intro y hy
   obtain ⟨i,hi,rfl⟩:=List.getElem_of_mem hy
   rw [List.length_take] at hi
   have:=h1 i (by omega) (by omega)
   rw [List.getElem_take]
   simp
   omega
  have a2:(((d.drop off).take cnt).filter fun y=>decide (PLn C y=x))=(d.drop off).take cnt:=by
   rw [List.filter_eq_self]
   intro y hy
   obtain ⟨i,hi,rfl⟩:=List.getElem_of_mem hy
   rw [List.length_take,List.length_drop] at hi
   have:=h2 (off + i) (by omega) (by omega) (by omega)
   rw [List.getElem_take,List.getElem_drop]
   simp [this]
  rw [a1,a2,List.nil_append]
 ·rw [if_neg e]
  have a2:(((d.drop off).take cnt).filter fun y=>decide (PLn C y=x))=[]:=by
   rw [List.filter_eq_nil_iff]
   intro y hy
   obtain ⟨i,hi,rfl⟩:=List.getElem_of_mem hy
   rw [List.length_take,List.length_drop] at hi
   have:=h2 (off + i) (by omega) (by omega) (by omega)
   rw [List.getElem_take,List.getElem_drop]
   simp [this]
   omega
  rw [a2,List.map_nil,List.append_nil]
theorem lay_step {Iq:Nat->Prop} {w w':World} {C:Vs} {d:List Rt} {ks:List Int} {f:Int->Value} {G:Int->Loc} {lb p off cnt g:Nat} (L:LstM Iq w C ((d.take off).map rwR) ks f G) (hm:MapA Tryz.prog 3 w lb ks f) (hc:1<=cnt) (hl:off + cnt<=d.length)
  (pc:PcR w g (off * 2) cnt cnt (((d.drop off).take cnt).flatMap encR)) (hv:∀ x ∈ d,OwnQ Iq w x.2.1 x.2.2) (ko:KeepO w w' lb p ks f C[p]! (((d.drop off).take cnt).map rwR) (.slice (some ⟨g,off * 2,none⟩) cnt cnt))
  (h1:∀ i (hi:i < d.length),i < off->PLn C d[i] < p) (h2:∀ i (hi:i < d.length),off<=i->i < off + cnt->PLn C d[i]=p) (hG:∀ x ∈ ks,(G x).1=g/\(G x).2.1 + (G x).2.2 * 2<=off * 2) (up:Up Iq w) :
  ∃ ks' f' G',LstM Iq w' C ((d.take (off + cnt)).map rwR) ks' f' G'/\MapA Tryz.prog 3 w' lb ks' f'/\∀ x ∈ ks',(G' x).1=g/\(G' x).2.1 + (G' x).2.2 * 2<=(off + cnt) * 2:=by
 have hln:((d.drop off).take cnt).length=cnt:=by rw [List.length_take,List.length_drop];omega
 have k:=ko.kp
 have no:NoInt w (fun k=>k=lb):=by
  rintro k rfl cur s e
  obtain ⟨es,cl,e'⟩:=hm.isMap
  rw [e] at e';simp at e'
 have nx:=lay_next h1 h2
 rcases ko with ⟨hR,_⟩ | ⟨hR,v1,V,vl,vh,vi,o,gV,mk,t3⟩
 ·have:=congrArg List.length hR
  rw [List.length_map,hln] at this
  simp at this
  omega
 ·have pk:∀ {g o n cap:Nat} {xs:List Value},PcR w g o n cap xs->PcR w' g o n cap xs:=fun c=>c.blk (k.block _ c.lt (fun e=>c.ne_map hm e))
  have kv:Tk.Kp (fun k=>k=lb) v1 w':=((kpF gV).mono (fun _ _ h=>h.elim)).trans (turned_of t3).2.2
  have nov:NoInt v1 (fun k=>k=lb):=by
   have m':=hm.same (o.1.block _ hm.lt)
   rintro k rfl cur s e
   obtain ⟨es,cl,e'⟩:=m'.isMap
   rw [e] at e';simp at e'
  have hnp:(p:Int) ∉ ks:=fun hp=>by
   have:=((L.keys _).1 hp).2
   rw [Int.toNat_natCast,listR_map] at this
   refine this ?_
   rw [List.map_eq_nil_iff,List.filter_eq_nil_iff]
   intro y hy
   obtain ⟨i,hi,rfl⟩:=List.getElem_of_mem hy
   rw [List.length_take] at hi
   have:=h1 i (by omega) (by omega)
   rw [List.getElem_take]
   simp
   omega
  refine ⟨putK ks p,_,fun x=>if x=(p:Int) then (g,off * 2,cnt) else G x,⟨fun x=>?_,fun x hx=>?_,fun x hx y hy hne=>?_⟩,mk,fun x hx=>?_⟩
  ·rw [mem_putK,L.keys x,nx]
   by_cases e:x=(p:Int)
   ·subst e
    rw [Int.toNat_natCast,if_pos rfl]
    exact ⟨fun _=>⟨by omega,hR⟩,fun _=>.inl rfl⟩
   ·constructor
    ·rintro (e' | ⟨h3,h4⟩)
     ·exact absurd e' e
     ·exact ⟨h3,by rw [if_neg (by omega)];exact h4⟩
    ·rintro ⟨h3,h4⟩
     rw [if_neg (by omega)] at h4
     exact .inr ⟨h3,h4⟩
  ·by_cases e:x=(p:Int)
   ·subst e
    refine ⟨(d.drop off).take cnt,vl,vh,vi,?_⟩
    rw [Int.toNat_natCast,nx,if_pos rfl,if_pos rfl]
    refine ⟨by simp [putF,hln],rfl,by rw [hln];exact pk pc,fun y hy=>ownq_noint (hv y (List.mem_of_mem_drop (List.mem_of_mem_take hy))) k no,?_,?_,?_⟩
    ·exact ownq_noint (OwnQ.new o.2.1 up (Nat.le_refl _)) kv nov
    ·exact ownq_noint (OwnQ.new o.2.2.1 up (Nat.le_refl _)) kv nov
    ·exact ownq_noint (OwnQ.new o.2.2.2.1 up (Nat.le_refl _)) kv nov
   ·have hx':x ∈ ks:=by
     rcases mem_putK.1 hx with h | h
     ·exact absurd h e
     ·exact h
    have hx0:=((L.keys x).1 hx').1
    obtain ⟨d',vl',vh',vi',a⟩:=L.at_ x hx'
    refine ⟨d',vl',vh',vi',?_⟩
    rw [nx,if_neg (by omega),if_neg e]
    refine ⟨(if_neg e:putF f p _ x=f x).trans a.val,a.rows,pk a.pc,fun y hy=>ownq_noint (a.vec y hy) k no,ownq_noint a.low k no,ownq_noint a.high k no,ownq_noint a.ids k no⟩
  ·have old:∀ z,z ∈ putK ks (p:Int)->z ≠ (p:Int)->z ∈ ks:=fun z hz e=>by
    rcases mem_putK.1 hz with h | h
    ·exact absurd h e
    ·exact h
   by_cases e:x=(p:Int)
   ·subst e
    rw [if_pos rfl,if_neg (fun e=>hne e.symm)]
    exact .inr (.inr (hG y (old y hy (fun e=>hne e.symm))).2)
   ·rw [if_neg e]
    by_cases e':y=(p:Int)
    ·subst e'
     rw [if_pos rfl]
     exact .inr (.inl (hG x (old x hx e)).2)
    ·rw [if_neg e']
     exact L.apart x (old x hx e) y (old y hy e') hne
  ·by_cases e:x=(p:Int)
   ·subst e
    dsimp only
    rw [if_pos rfl]
    exact ⟨rfl,by dsimp only;omega⟩
   ·dsimp only
    rw [if_neg e]
    have hx':x ∈ ks:=by
     rcases mem_putK.1 hx with h | h
     ·exact absurd h e
     ·exact h
    have:=hG x hx'
    exact ⟨this.1,by omega⟩
end Go.Proofs.YtcipdampcmfmaabGreat

namespace Go.Proofs.YtcipdampcmfmaabGreat
open Go.RowKit Go.Sort Go.Maps
set_option maxRecDepth 100000
set_option maxHeartbeats 4000000
theorem layOut1_c {W:World} {bf tb mb:Nat} {ks:List Int} {pf:Int->Int} {x y:Int} {u v:Value} (hu:u.oneCell'=true) (hv:v.oneCell'=true) (hb:W.cell? ⟨bf,0,none⟩=some (.pointer (some ⟨tb,0,none⟩))) (hp:W.cell? ⟨tb,3,none⟩=some (.map (some mb)))
  (hm:MapA Tryz.prog 3 W mb ks fun k=>.int .i64 (pf k)) (hx:x ∈ ks) (hy:y ∈ ks) (kx:KWf x) (kyy:KWf y) :
  Calls Tryz.prog 79 #[.agg #[.int .i64 x,u],.agg #[.int .i64 y,v],.pointer (some ⟨bf,0,none⟩)] W fun e w'=>∃ z:Int,e=.returned (.int .i64 z)/\(z < 0 ↔ pf x < pf y)/\Tk.Gw W w':=by
 have hcu:u.cells=#[u]:=by first | exact Value.cells_of_oneCell' hu | (cases u <;> simp_all [Value.oneCell',Value.cells])
 have hcv:v.cells=#[v]:=by first | exact Value.cells_of_oneCell' hv | (cases v <;> simp_all [Value.oneCell',Value.cells])
 have lb:mb < W.heap.size:=hm.lt
 obtain ⟨W1,hW1⟩:∃ W1,W1=((W.alloc (.cells #[.int .i64 x,u] 45)).alloc (.cells #[.int .i64 y,v] 45)).drew:=⟨_,rfl⟩
 have G1:Tk.Gw W W1:=by rw [hW1];exact (((Tk.Gw.refl _).alloc _).alloc _).drew
 have C1:Hid (W1.cell? ⟨W.heap.size,0,none⟩=some (.int .i64 x)/\W1.cell? ⟨W.heap.size + 1,0,none⟩=some (.int .i64 y)):=by rw [hW1];exact ⟨by simp [go_sem],by simp [go_sem]⟩
 have C2:Hid (W1.cell? ⟨bf,0,none⟩=some (.pointer (some ⟨tb,0,none⟩))/\W1.cell? ⟨tb,3,none⟩=some (.map (some mb))):=⟨Tk.gr_keeps G1.gr hb,Tk.gr_keeps G1.gr hp⟩
 have M1:Hid (MapA Tryz.prog 3 W1 mb ks fun k=>.int .i64 (pf k)):=hm.same (G1.gr.block _ lb)
 have hz:Hid (∀ w,(zeroValue 3).run Tryz.prog w=.ok (.int .i64 0) w):=fun w=>by go_simp
 have LK:∀ {w:World},Tk.Gw W1 w->w.cell? ⟨bf,0,none⟩=some (.pointer (some ⟨tb,0,none⟩))/\w.cell? ⟨tb,3,none⟩=some (.map (some mb))/\w.cell? ⟨W.heap.size,0,none⟩=some (.int .i64 x)/\w.cell? ⟨W.heap.size + 1,0,none⟩=some (.int .i64 y) /\
   (Instr.lookup 72 (.map (some mb)) (.int .i64 x) false).run Tryz.prog w=.ok (.int .i64 (pf x)) w/\(Instr.lookup 72 (.map (some mb)) (.int .i64 y) false).run Tryz.prog w=.ok (.int .i64 (pf y)) w:=fun {w} g=>by
  have m:=M1.out.same (g.gr.block _ M1.out.lt)
  refine ⟨Tk.gr_keeps g.gr C2.out.1,Tk.gr_keeps g.gr C2.out.2,Tk.gr_keeps g.gr C1.out.1,Tk.gr_keeps g.gr C1.out.2,?_,?_⟩
  ·rw [m.look Tryz.underlying3 Tryz.underlying72 (hz.out w) kx,if_pos hx]
  ·rw [m.look Tryz.underlying3 Tryz.underlying72 (hz.out w) kyy,if_pos hy]
 have LH:Hid (∀ {w:World},Tk.Gw W1 w->w.cell? ⟨bf,0,none⟩=some (.pointer (some ⟨tb,0,none⟩))/\w.cell? ⟨tb,3,none⟩=some (.map (some mb))/\w.cell? ⟨W.heap.size,0,none⟩=some (.int .i64 x)/\w.cell? ⟨W.heap.size + 1,0,none⟩=some (.int .i64 y) /\
   (Instr.lookup 72 (.map (some mb)) (.int .i64 x) false).run Tryz.prog w=.ok (.int .i64 (pf x)) w/\(Instr.lookup 72 (.map (some mb)) (.int .i64 y) false).run Tryz.prog w=.ok (.int .i64 (pf y)) w):=LK
 have G1H:Hid (Tk.Gw W W1):=G1
 clear LK G1
 go_enter Tryz.func79,Tryz.ntmps79
 go_wp2_with fail
 refine wp_region_held_drew (S:=fun W2=>Tk.Gw W1 W2) (by kernel_rfl) (by rw [hW1];exact Tk.Gw.refl _) (fun hHeld=>?_)
 clear hW1
 refine tkn 0 ?_ rfl ?_ ?_;rotate_left;·(intro w hSw;obtain ⟨s1,s2,s3,s4,s5,s6⟩:=LH.out hSw;go_simp;try rfl)
 try simp only [pt]
 refine tkn 1 ?_ rfl ?_ ?_;rotate_left;·(intro w hSw;obtain ⟨s1,s2,s3,s4,s5,s6⟩:=LH.out hSw;go_simp;try rfl)
 try simp only [pt]
 refine tkn 2 ?_ rfl ?_ ?_;rotate_left;·(intro w hSw;obtain ⟨s1,s2,s3,s4,s5,s6⟩:=LH.out hSw;go_simp;try rfl)
 try simp only [pt]
 refine tkn 3 ?_ rfl ?_ ?_;rotate_left;·(intro w hSw;obtain ⟨s1,s2,s3,s4,s5,s6⟩:=LH.out hSw;go_simp;try rfl)
 try simp only [pt]
 refine tkn 4 ?_ rfl ?_ ?_;rotate_left;·(intro w hSw;obtain ⟨s1,s2,s3,s4,s5,s6⟩:=LH.out hSw;go_simp;try rfl)
 try simp only [pt]
 refine tkn 5 ?_ rfl ?_ ?_;rotate_left;·(intro w hSw;obtain ⟨s1,s2,s3,s4,s5,s6⟩:=LH.out hSw;go_simp;try rfl)
 try simp only [pt]
 refine tkn 6 ?_ rfl ?_ ?_;rotate_left;·(intro w hSw;obtain ⟨s1,s2,s3,s4,s5,s6⟩:=LH.out hSw;go_simp;try rfl)
 try simp only [pt]
 refine tkn 7 ?_ rfl ?_ ?_;rotate_left;·(intro w hSw;obtain ⟨s1,s2,s3,s4,s5,s6⟩:=LH.out hSw;go_simp;try rfl)
 try simp only [pt]
 refine tkn 8 ?_ rfl ?_ ?_;rotate_left;·(intro w hSw;obtain ⟨s1,s2,s3,s4,s5,s6⟩:=LH.out hSw;go_simp;try rfl)
 try simp only [pt]
 refine tkn 9 ?_ rfl ?_ ?_;rotate_left;·(intro w hSw;obtain ⟨s1,s2,s3,s4,s5,s6⟩:=LH.out hSw;go_simp;try rfl)
 try simp only [pt]
 refine tkn 10 ?_ rfl ?_ ?_;rotate_left;·(intro w hSw;obtain ⟨s1,s2,s3,s4,s5,s6⟩:=LH.out hSw;go_simp;try rfl)
 try simp only [pt]
 refine tkn 11 ?_ rfl ?_ ?_;rotate_left;·(intro w hSw;obtain ⟨s1,s2,s3,s4,s5,s6⟩:=LH.out hSw;go_simp;try rfl)
 try simp only [pt]
 refine tkn 12 ?_ rfl ?_ ?_;rotate_left;·(intro w hSw;obtain ⟨s1,s2,s3,s4,s5,s6⟩:=LH.out hSw;go_simp;try rfl)
 try simp only [pt]
 refine tkn 13 ?_ rfl ?_ ?_;rotate_left;·(intro w hSw;obtain ⟨s1,s2,s3,s4,s5,s6⟩:=LH.out hSw;go_simp;try rfl)
 try simp only [pt]
 refine rdn 14 rfl (fun K hK=>?_)
 go_simp
 refine (compare_g _ _ _).mono ?_
 rintro e w' ⟨rfl,hg⟩
 refine hK.out _ _ (hHeld.trans hg) (fun hHeld=>?_)
 clear hK K
 try simp only [pt]
 refine tkn 15 ?_ rfl ?_ ?_;rotate_left;·(intro w hSw;(skip);go_simp;try rfl)
 try simp only [pt]
 refine wpAnyH_done (by kernel_rfl) ?_ _
 go_wp2
 go_ret
 exact ⟨_,rfl,by have:=ci_neg (pf x) (pf y);omega,G1H.out.trans hHeld⟩
end Go.Proofs.YtcipdampcmfmaabGreat

namespace Go.Proofs.YtcipdampcmfmaabGreat
open Go.RowKit Go.Sort Go.Maps
def PcW (w:World) (g:Nat) (d:List Rt):Prop:=∃ cur:Array Value,w.heap[g]? = some (.cells cur 45 (0,0))/\d.length * 2<=cur.size/\∀ i,i < d.length * 2->cur[i]? = (d.flatMap encR)[i]?
theorem PcW.of {w:World} {g cap:Nat} {d:List Rt} (h:PcR w g 0 d.length cap (d.flatMap encR)):PcW w g d:=by
 obtain ⟨cur,h1,h2,h3,h4,h5,h6⟩:=h
 refine ⟨cur,h1,by omega,fun i hi=>?_⟩
 rw [<- h6,List.getElem?_take_of_lt hi,List.drop_zero,Array.getElem?_toList]
theorem PcW.piece {w:World} {g:Nat} {d:List Rt} (h:PcW w g d) (hl:d.length<=4000) {off cnt:Nat} (ho:off + cnt<=d.length):PcR w g (off * 2) cnt cnt (((d.drop off).take cnt).flatMap encR):=by
 obtain ⟨cur,h1,h2,h3⟩:=h
 have hln:((d.drop off).take cnt).length=cnt:=by rw [List.length_take,List.length_drop];omega
 refine ⟨cur,h1,by omega,Nat.le_refl _,by omega,by rw [flR_len,hln],?_⟩
 rw [<- flat_takeR,<- flat_dropR]
 apply List.ext_getElem?
 intro t
 by_cases ht:t < cnt * 2
 ·rw [List.getElem?_take_of_lt ht,List.getElem?_take_of_lt ht,List.getElem?_drop,List.getElem?_drop,Array.getElem?_toList]
  exact h3 _ (by omega)
 ·rw [List.getElem?_take,if_neg ht,List.getElem?_take,if_neg ht]
theorem PcW.rd {w:World} {g:Nat} {d:List Rt} (h:PcW w g d) {i:Nat} (hi:i < d.length):w.cell? ⟨g,i * 2,none⟩=some (.int .i64 d[i].1)/\w.cell? ⟨g,i * 2 + 1,none⟩=some d[i].2.1:=by
 obtain ⟨cur,h1,h2,h3⟩:=h
 refine ⟨cell_cur h1 ?_,cell_cur h1 ?_⟩
 ·rw [h3 _ (by omega),flR_get,dif_pos (by omega)]
  simp [show i * 2 / 2=i by omega]
 ·rw [h3 _ (by omega),flR_get,dif_pos (by omega)]
  simp [show (i * 2 + 1) / 2=i by omega,show (i * 2 + 1) % 2=1 by omega]
theorem PcW.same {w w':World} {g:Nat} {d:List Rt} (h:PcW w g d) (e:w'.heap[g]? = w.heap[g]?):PcW w' g d:=by
 obtain ⟨cur,h1,r⟩:=h
 exact ⟨cur,e.trans h1,r⟩
theorem PcW.lt {w:World} {g:Nat} {d:List Rt} (h:PcW w g d):g < w.heap.size:=by
 obtain ⟨cur,h1,_⟩:=h
 exact (Array.getElem?_eq_some_iff.1 h1).1
def elOf (x:Rt):El:=match x.2.1 with
 | .slice a n c=>(x.1,a,n,c)
 | _=>(x.1,none,0,0)
theorem el_sl {x:Rt} (h:∃ a n c,x.2.1=.slice a n c):sl (elOf x)=x.2.1/\(elOf x).1=x.1:=by
 obtain ⟨a,n,c,e⟩:=h
 unfold elOf sl
 rw [e]
 exact ⟨rfl,rfl⟩
theorem row_id {d:List Rt} (h:Ris (d.map rwR)) {x y:Rt} (hx:x ∈ d) (hy:y ∈ d) (e:x.1=y.1):x=y:=by
 obtain ⟨i,hi,rfl⟩:=List.getElem_of_mem hx
 obtain ⟨j,hj,rfl⟩:=List.getElem_of_mem hy
 unfold Ris at h
 rw [List.pairwise_map] at h
 have hp:=List.pairwise_iff_getElem.1 h
 rcases Nat.lt_trichotomy i j with hlt | rfl | hgt
 ·have:d[i].1 < d[j].1:=hp i j hi hj hlt
  omega
 ·rfl
 ·have:d[j].1 < d[i].1:=hp j i hj hi hgt
  omega
theorem sortLay_c {w:World} {g cap bf tb mb:Nat} {d:List Rt} {C:Vs} {pk:List Int} {pf:Int->Int} (hd:PcW w g d) (hn:d.length<=4000) (hs:∀ x ∈ d,∃ a n c,x.2.1=.slice a n c) (hr:Ris (d.map rwR)) (hk:∀ x ∈ d,KWf x.1) (hp:∀ x ∈ d,x.1 ∈ pk/\pf x.1=(PLn C x:Int))
  (hm:MapA Tryz.prog 3 w mb pk (fun x=>.int .i64 (pf x))) (hb:w.cell? ⟨bf,0,none⟩=some (.pointer (some ⟨tb,0,none⟩))) (hc:w.cell? ⟨tb,3,none⟩=some (.map (some mb))) (n1:bf ≠ g) (n2:tb ≠ g) (n3:mb ≠ g) :
  Calls Tryz.prog 78 #[.slice (some ⟨g,0,none⟩) d.length cap,.func (.func 79) #[] #[.pointer (some ⟨bf,0,none⟩)]] w fun e w'=>e=.returned (.tuple #[])/\∃ d',d'.Perm d/\Srt2 C d'/\PcW w' g d'/\Tk.Kp (fun k=>k=g) w w':=by
 obtain ⟨l,hl⟩:∃ l,l=d.map elOf:=⟨_,rfl⟩
 have hll:l.length=d.length:=by rw [hl,List.length_map]
 have hlg:∀ i (hi:i < d.length),l[i]! = elOf d[i]:=fun i hi=>by rw [getElem!_pos l i (by omega)];subst hl;rw [List.getElem_map]
 have sra:SRA w g 0 l:=by
  obtain ⟨cur,h1,h2,h3⟩:=id hd
  refine ⟨cur,_,h1,fun i hi=>?_,rfl⟩
  have hi':i < d.length:=by omega
  rw [hlg i hi']
  obtain ⟨e1,e2⟩:=el_sl (hs _ (List.getElem_mem hi'))
  rw [e1,e2,Nat.zero_add]
  obtain ⟨c1,c2⟩:=hd.rd hi'
  exact ⟨cur_cell h1 c1,cur_cell h1 c2⟩
 have mem:∀ e ∈ l,∃ x ∈ d,e=elOf x:=fun e he=>by
  rw [hl] at he
  obtain ⟨x,hx,e'⟩:=List.mem_map.1 he
  exact ⟨x,hx,e'.symm⟩
 have cR:CmpR w g bf l (fun x y=>pf x.1 < pf y.1):=fun W k x y hx hy=>by
  obtain ⟨x',hx',rfl⟩:=mem x hx
  obtain ⟨y',hy',rfl⟩:=mem y hy
  have e1:=(el_sl (hs x' hx')).2
  have e2:=(el_sl (hs y' hy')).2
  exact layOut1_c (u:=sl (elOf x')) (v:=sl (elOf y')) rfl rfl (k.cell hb n1) (k.cell hc n2) (hm.same (k.block _ hm.lt n3)) (by rw [e1];exact (hp x' hx').1) (by rw [e2];exact (hp y' hy').1) (by rw [e1];exact hk x' hx') (by rw [e2];exact hk y' hy')
 have rp:=hr
 unfold Ris at rp
 rw [List.pairwise_map] at rp
 have rp:=List.pairwise_iff_getElem.1 rp
 have tg:TagR (fun x y:El=>pf x.1 < pf y.1) (fun x y:El=>pf x.1 < pf y.1 ∨ (pf x.1=pf y.1/\x.1 < y.1)) l 0 l.length:=fun i j _ hij hj=>by
  have hj':j < d.length:=by omega
  have hi':i < d.length:=by omega
  rw [hlg i hi',hlg j hj']
  dsimp only
  rw [(el_sl (hs _ (List.getElem_mem hi'))).2,(el_sl (hs _ (List.getElem_mem hj'))).2]
  have:d[i].1 < d[j].1:=rp i j hi' hj' hij
  constructor
  ·constructor
   ·exact .inl
   ·rintro (h | h)
    ·exact h
    ·omega
  ·rcases Int.lt_trichotomy (pf d[i].1) (pf d[j].1) with h | h | h
   ·exact .inl (.inl h)
   ·exact .inl (.inr ⟨h,this⟩)
   ·exact .inr (.inl h)
 rw [<- hll]
 refine (sortStableR (cap:=cap) (fun x y z h1 h2=>by omega) sra (by omega) tg cR).mono ?_
 rintro e w' ⟨rfl,l',pm,ri,sr',k⟩
 refine ⟨rfl,?_⟩
 classical
 let back:El->Rt:=fun e=>if h:∃ x ∈ d,elOf x=e then h.choose else (0,.slice none 0 0,[])
 have bk:∀ x ∈ d,back (elOf x)=x:=fun x hx=>by
  have hex:∃ y ∈ d,elOf y=elOf x:=⟨x,hx,rfl⟩
  show (if h:∃ y ∈ d,elOf y=elOf x then h.choose else (0,.slice none 0 0,[]))=x
  rw [dif_pos hex]
  have hch:=hex.choose_spec
  refine row_id hr hch.1 hx ?_
  have e1:=(el_sl (hs _ hch.1)).2
  have e2:=(el_sl (hs x hx)).2
  rw [hch.2] at e1
  rw [<- e1,<- e2]
 have hpm:(l'.map back).Perm d:=by
  refine (pm.map back).trans ?_
  rw [hl,List.map_map]
  have:d.map (back ∘ elOf)=d.map id:=List.map_congr_left (fun x hx=>bk x hx)
  rw [this,List.map_id]
 have hl':l'.length=l.length:=pm.length_eq
 have el':∀ e ∈ l',∃ x ∈ d,e=elOf x:=fun e he=>mem e (pm.mem_iff.1 he)
 have fb:∀ e ∈ l',elOf (back e)=e/\back e ∈ d:=fun e he=>by
  obtain ⟨x,hx,rfl⟩:=el' e he
  rw [bk x hx]
  exact ⟨rfl,hx⟩
 refine ⟨l'.map back,hpm,?_,?_,k⟩
 ·unfold Srt2
  rw [List.pairwise_map,List.pairwise_iff_getElem]
  intro i j hi hj hij
  have:=ri i j (Nat.zero_le _) hij (by omega)
  rw [getElem!_pos l' i hi,getElem!_pos l' j hj] at this
  obtain ⟨a1,a2⟩:=fb _ (List.getElem_mem hi)
  obtain ⟨b1,b2⟩:=fb _ (List.getElem_mem hj)
  have ea:=(el_sl (hs _ a2)).2
  have eb:=(el_sl (hs _ b2)).2
  rw [a1] at ea
  rw [b1] at eb
  rw [ea,eb] at this
  have pa:=(hp _ a2).2
  have pb:=(hp _ b2).2
  rw [pa,pb] at this
  omega
 ·obtain ⟨cs,t,h1,h2,rfl⟩:=sr'
  have hsz:∀ i,i < l'.length->i * 2 + 1 < cs.size:=fun i hi=>by
   have:=(h2 i hi).2
   rw [Nat.zero_add] at this
   exact (Array.getElem?_eq_some_iff.1 this).1
  refine ⟨cs,h1,?_,fun i hi=>?_⟩
  ·rw [List.length_map]
   rcases Nat.eq_zero_or_pos l'.length with h | h
   ·omega
   ·have:=hsz (l'.length - 1) (by omega)
    omega
  ·rw [List.length_map] at hi
   have hi2:i / 2 < l'.length:=by omega
   rw [flR_get,dif_pos (by rw [List.length_map];exact hi2),List.getElem_map]
   obtain ⟨a1,a2⟩:=fb _ (List.getElem_mem hi2)
   obtain ⟨e1,e2⟩:=el_sl (hs _ a2)
   rw [a1] at e1 e2
   obtain ⟨c1,c2⟩:=h2 (i / 2) hi2
   rw [getElem!_pos l' (i / 2) hi2,Nat.zero_add] at c1 c2
   rcases Nat.mod_two_eq_zero_or_one i with h0 | h0
   ·rw [h0,show cs[i]? = cs[i / 2 * 2]? from by rw [show i / 2 * 2=i by omega],c1,e2];rfl
   ·rw [h0,show cs[i]? = cs[i / 2 * 2 + 1]? from by rw [show i / 2 * 2 + 1=i by omega],c2,e1];rfl
end Go.Proofs.YtcipdampcmfmaabGreat
