import Derived.Test.YtcipdampcmfmaabGreatJa38
import Derived.Test.YtcipdampcmfmaabGreatJa32
import Derived.Deep.LoopGhost
import Derived.Test.YtcipdampcmfmaabGreatJa4
namespace Go.Proofs.YtcipdampcmfmaabGreat
open Go.RowKit Go.Sort Go.Maps
set_option maxRecDepth 100000
set_option maxHeartbeats 1500000
structure LayIn (Iq:Nat->Prop) (w:World) (tb m:Nat) (C:Vs) (gc cc lb pb g cap:Nat) (d:List Rt):Prop where
 blk:w.heap[tb]? = some (.cells #[.int .i64 (m:Int),.slice (some ⟨gc,0,none⟩) C.length cc,.map (some lb),.map (some pb)] 74 (0,0))
 cen:CenQ Iq w gc C
 lst:∀ f,MapA Tryz.prog 3 w lb [] f
 plc:∀ f,MapA Tryz.prog 3 w pb [] f
 ne:lb ≠ pb
 rows:PcR w g 0 d.length cap (d.flatMap encR)
 vec:∀ x ∈ d,OwnQ Iq w x.2.1 x.2.2
 ris:Ris (d.map rwR)
 rok:RowsOk (d.map rwR) (m:Int)
 cok:VsOk C (m:Int)/\1<=C.length/\C.length<=64
 dim:1<=m/\m<=64
 up:Up Iq w
def L1 (C:Vs) (d:List Rt) (pb:Nat) (w0:World) (q:Nat) (W:World):Prop:=∃ (pk:List Int) (pf:Int->Int),MapA Tryz.prog 3 W pb pk (fun x=>.int .i64 (pf x))/\(∀ x,x ∈ pk ↔ x ∈ (d.take q).map Prod.fst)/\(∀ x ∈ d.take q,pf x.1=(PLn C x:Int))/\Tk.Kp (fun k=>k=pb) w0 W
theorem L1.next {C:Vs} {d:List Rt} {pb q:Nat} {w0 W W2:World} (h:L1 C d pb w0 q W) (g:Gb W W2) (hq:q < d.length) (hd:d.length<=4000) (hr:Ris (d.map rwR)) (hk:KWf d[q].1) :
  ∃ w5,(Instr.mapUpdate 72 (.map (some pb)) (.int .i64 d[q].1) (.int .i64 (PLn C d[q]:Int))).run Tryz.prog W2=.ok () w5/\L1 C d pb w0 (q + 1) w5/\Tk.Kp (fun k=>k=pb) W2 w5:=by
 obtain ⟨pk,pf,m,hpk,hpf,k⟩:=h
 have m2:=m.same (g.block _ m.lt)
 have hl:pk.length<=4000:=by
  obtain ⟨_,_,hnd,_⟩:=m
  have hn2:((d.take q).map Prod.fst).Nodup:=by
   unfold Ris at hr
   rw [List.pairwise_map] at hr
   unfold List.Nodup
   rw [List.pairwise_map]
   refine (hr.sublist (List.take_sublist q d)).imp ?_
   intro a b hab e
   have:a.1 < b.1:=hab
   omega
  have:=(nd_perm hnd hn2 hpk).length_eq
  rw [this,List.length_map,List.length_take]
  omega
 obtain ⟨w5,hrun,m5,t5⟩:=m2.put (t:=72) Tryz.underlying3 Tryz.underlying72 (by omega) hk (.int .i64 (PLn C d[q]:Int))
 refine ⟨w5,hrun,⟨putK pk d[q].1,fun y=>if y=d[q].1 then (PLn C d[q]:Int) else pf y,m5.ext (fun x _=>by unfold putF;dsimp only;split <;> rfl),fun x=>?_,fun x hx=>?_,?_⟩,(turned_of t5).2.2⟩
 ·rw [mem_putK,hpk,List.take_succ_eq_append_getElem hq,List.map_append,List.mem_append]
  simp
  exact or_comm
 ·rw [List.take_succ_eq_append_getElem hq] at hx
  dsimp only
  rcases List.mem_append.1 hx with hx | hx
  ·by_cases e:x.1=d[q].1
   ·rw [if_pos e,row_id hr (List.mem_of_mem_take hx) (List.getElem_mem hq) e]
   ·rw [if_neg e]
    exact hpf x hx
  ·rw [List.mem_singleton] at hx
   subst hx
   rw [if_pos rfl]
 ·exact (k.trans ((kpF g).mono (fun _ _ h=>h.elim))).trans (turned_of t5).2.2
structure L2 (Iq:Nat->Prop) (W1:World) (C:Vs) (d:List Rt) (g lb k:Nat) (rv:Value) (W:World) (off:Nat) (ks:List Int) (f:Int->Value) (G:Int->Loc) (a:Option Addr) (c:Nat):Prop where
 k:k=d.length - off
 le:off<=d.length
 rv:rv=.slice a (d.length - off) c
 ad:off < d.length->a=some ⟨g,off * 2,none⟩
 cp:d.length - off<=c
 ls:LstM Iq W C ((d.take off).map rwR) ks f G
 mp:MapA Tryz.prog 3 W lb ks f
 gs:∀ x ∈ ks,(G x).1=g/\(G x).2.1 + (G x).2.2 * 2<=off * 2
 bd:∀ i j (hi:i < d.length) (hj:j < d.length),i < off->off<=j->PLn C d[i] < PLn C d[j]
 kp:Tk.Kp (fun k=>k=lb) W1 W
structure LyC (Iq:Nat->Prop) (W1:World) (tb m:Nat) (C:Vs) (gc cc lb pb g:Nat) (d:List Rt):Prop where
 blk:W1.heap[tb]? = some (.cells #[.int .i64 (m:Int),.slice (some ⟨gc,0,none⟩) C.length cc,.map (some lb),.map (some pb)] 74 (0,0))
 cen:CenQ Iq W1 gc C
 pcw:PcW W1 g d
 vec:∀ x ∈ d,OwnQ Iq W1 x.2.1 x.2.2
 srt:Srt2 C d
 rok:RowsOk (d.map rwR) (m:Int)
 cok:VsOk C (m:Int)/\1<=C.length/\C.length<=64
 lbm:∃ es cl,W1.heap[lb]? = some (.map es cl)
 up:Up Iq W1
theorem LyC.kp {Iq:Nat->Prop} {W1 W:World} {tb m:Nat} {C:Vs} {gc cc lb pb g:Nat} {d:List Rt} (h:LyC Iq W1 tb m C gc cc lb pb g d) (k:Tk.Kp (fun k=>k=lb) W1 W):W.heap[tb]? = W1.heap[tb]? /\ CenQ Iq W gc C/\PcW W g d/\(∀ x ∈ d,OwnQ Iq W x.2.1 x.2.2)/\Up Iq W:=by
 obtain ⟨es,cl,hl⟩:=h.lbm
 have no:NoInt W1 (fun k=>k=lb):=by
  rintro k rfl cur s e
  rw [hl] at e;simp at e
 obtain ⟨ccur,hcc,_⟩:=h.cen.blk
 obtain ⟨pcur,hpp,_⟩:=h.pcw
 refine ⟨k.block _ (Array.getElem?_eq_some_iff.1 h.blk).1 (fun e=>?_),h.cen.kq k (NoI.of no) (fun e=>?_),h.pcw.same (k.block _ h.pcw.lt (fun e=>?_)),fun x hx=>ownq_noint (h.vec x hx) k no,h.up.le k.size⟩
 ·rw [<- e,h.blk] at hl;simp at hl
 ·rw [<- e,hcc] at hl;simp at hl
 ·rw [<- e,hpp] at hl;simp at hl
theorem ks_len {ks:List Int} (hnd:ks.Nodup) (h:∀ x ∈ ks,0<=x/\x < 64):ks.length<=64:=by
 have p:ks.Perm (((List.range 64).map Int.ofNat).filter fun x=>decide (x ∈ ks)):=by
  refine nd_perm hnd ?_ (fun x=>?_)
  ·refine List.Pairwise.filter _ ?_
   rw [List.pairwise_map]
   refine (List.nodup_range (n:=64)).imp ?_
   intro a b hab e
   exact hab (Int.ofNat.inj e)
  ·rw [List.mem_filter,decide_eq_true_eq]
   constructor
   ·intro hx
    have:=h x hx
    exact ⟨List.mem_map.2 ⟨x.toNat,List.mem_range.2 (by omega),by show ((x.toNat:Nat):Int)=x;omega⟩,hx⟩
   ·exact fun h=>h.2
 rw [p.length_eq]
 refine Nat.le_trans (List.length_filter_le _ _) (by simp)
theorem L2.keep {Iq:Nat->Prop} {W1 W W3:World} {tb m:Nat} {C:Vs} {gc cc lb pb g k:Nat} {d:List Rt} {rv:Value} {off:Nat} {ks:List Int} {f:Int->Value} {G:Int->Loc} {a:Option Addr} {c:Nat} (h:L2 Iq W1 C d g lb k rv W off ks f G a c) (X:LyC Iq W1 tb m C gc cc lb pb g d) (g3:Gb W W3) {q p:Nat} (hq:1<=q) (hoq:off + q<=d.length)
  (hp:∀ i (hi:i < d.length),off<=i->i < off + q->PLn C d[i]=p) (hs:∀ hi:off + q < d.length,PLn C d[off + q] ≠ p) :
  Calls Tryz.prog 60 #[.pointer (some ⟨tb,0,none⟩),.int .i64 (p:Int),.slice (some ⟨g,off * 2,none⟩) q q] W3 fun e w'=>e=.returned (.tuple #[])/\∃ ks' f' G',∀ a' c',(off + q < d.length->a'=some ⟨g,(off + q) * 2,none⟩)->d.length - (off + q)<=c'->L2 Iq W1 C d g lb (d.length - (off + q)) (.slice a' (d.length - (off + q)) c') w' (off + q) ks' f' G' a' c':=by
 have hks:ks.length<=64:=by
  obtain ⟨_,_,hnd,_⟩:=h.mp
  refine ks_len hnd (fun x hx=>?_)
  obtain ⟨h1,h2⟩:=(h.ls.keys x).1 hx
  obtain ⟨r,hr⟩:=List.exists_mem_of_ne_nil _ h2
  have:=(mem_listR.1 hr).2
  have:=nearP_lt X.cok.2.1 r.2
  have:=X.cok.2.2
  omega
 have k3:Tk.Kp (fun k=>k=lb) W1 W3:=h.kp.trans ((kpF g3).mono (fun _ _ h=>h.elim))
 obtain ⟨eT,cq,pcw,vec,up⟩:=X.kp k3
 have hfew:d.length<=512:=by have:=X.rok.few;rwa [List.length_map] at this
 have pc:=pcw.piece (by omega) hoq
 have hln:((d.drop off).take q).length=q:=by rw [List.length_take,List.length_drop];omega
 have hsub:((d.drop off).take q).Sublist d:=(List.take_sublist _ _).trans (List.drop_sublist _ _)
 have hrok:RowsOk (((d.drop off).take q).map rwR) (m:Int):=X.rok.sub (hsub.map _)
 have hb1:∀ i (hi:i < d.length),i < off->PLn C d[i] < p:=fun i hi hio=>by
  have:=h.bd i off hi (by omega) hio (Nat.le_refl _)
  rw [hp off (by omega) (Nat.le_refl _) (by omega)] at this
  exact this
 have hpl:p < C.length:=by
  rw [<- hp off (by omega) (Nat.le_refl _) (by omega)]
  exact nearP_lt X.cok.2.1 _
 have rd:RdW W3 (.slice (some ⟨g,off * 2,none⟩) q q) (((d.drop off).take q).map rwR):=by
  have pc':PcR W3 g (off * 2) ((d.drop off).take q).length q (((d.drop off).take q).flatMap encR):=by rw [hln];exact pc
  have:=RwRd.rdw' (cap:=q) pc'.rd (fun x hx=>(vec x (hsub.subset hx)).rd)
  rw [hln] at this
  exact this
 have mp:=h.mp.same (g3.block _ h.mp.lt)
 have ls3:LstM Iq W3 C ((d.take off).map rwR) ks f G:=h.ls.kq (kpF g3) (NoI.of (noF _)) (fun _ _ h=>h)
 refine (keep_any (cell_cur (eT.trans X.blk) rfl) (cq.rd cc) (cell_cur (eT.trans X.blk) rfl) mp (by omega) hpl (by have:=X.cok.2.2;omega) rd (by omega) (wf_ok hrok)).mono ?_
 rintro e w' ⟨rfl,ko⟩
 obtain ⟨ks',f',G',l1,l2,l3⟩:=lay_step ls3 mp hq hoq pc vec ko hb1 hp h.gs up
 refine ⟨rfl,ks',f',G',fun a' c' ha hc=>⟨rfl,hoq,rfl,ha,hc,l1,l2,l3,fun i j hi hj hio hoj=>?_,k3.trans ko.kp⟩⟩
 have sp:=List.pairwise_iff_getElem.1 X.srt
 have hjp:p < PLn C d[j]:=by
  have h1:=hs (by omega)
  have h2:p<=PLn C d[off + q]:=by
   have:=sp off (off + q) (by omega) (by omega) (by omega)
   rw [hp off (by omega) (Nat.le_refl _) (by omega)] at this
   omega
  rcases Nat.lt_or_eq_of_le hoj with hlt | heq
  ·have:=sp (off + q) j (by omega) hj hlt
   omega
  ·subst heq;omega
 by_cases hio2:i < off
 ·exact Nat.lt_trans (hb1 i hi hio2) hjp
 ·rw [hp i hi (by omega) hio]
  exact hjp
def LayOut (Iq:Nat->Prop) (w:World) (tb m:Nat) (C:Vs) (gc lb pb g:Nat) (rs:List Rw) (e:Ending) (w':World):Prop:=e=.returned (.tuple #[])/\∃ F,TreeAt Iq w' tb m C rs F/\(∀ x ∈ F,x=tb ∨ x=gc ∨ x=lb ∨ x=pb ∨ x=g)/\Tk.Kp (fun k=>k=lb ∨ k=pb ∨ k=g) w w'
theorem L2.fin {Iq:Nat->Prop} {w W1 W:World} {tb m:Nat} {C:Vs} {gc cc lb pb g k:Nat} {d:List Rt} {rs:List Rw} {rv:Value} {ks pk:List Int} {f:Int->Value} {pf:Int->Int} {G:Int->Loc} {a:Option Addr} {c:Nat} (h:L2 Iq W1 C d g lb k rv W d.length ks f G a c) (X:LyC Iq W1 tb m C gc cc lb pb g d) (hr:Ris rs) (pm:(d.map rwR).Perm rs) (ne:lb ≠ pb)
  (mp:MapA Tryz.prog 3 W1 pb pk (fun x=>.int .i64 (pf x))) (hpk:∀ x,x ∈ pk ↔ x ∈ idsOf rs) (hpf:∀ r ∈ rs,pf r.1=((nearP C r.2).1:Int)) (dim:1<=m/\m<=64) (k1:Tk.Kp (fun k=>k=lb ∨ k=pb ∨ k=g) w W1) :
  LayOut Iq w tb m C gc lb pb g rs (.returned (.tuple #[])) W:=by
 obtain ⟨eT,cq,pcw,vec,up⟩:=X.kp h.kp
 have ls:=h.ls
 rw [List.take_length] at ls
 have same:=lay_same X.srt pm hr
 have ls':LstM Iq W C rs ks f G:=⟨fun x=>by rw [<- same];exact ls.keys x,fun x hx=>by rw [<- same];exact ls.at_ x hx,ls.apart⟩
 refine ⟨rfl,blks tb gc lb pb ks G,TreeO.shut (pk:=pk) (pf:=pf) (cc:=cc) (f:=f) ⟨eT.trans X.blk,cq,h.mp,mp.same (h.kp.block _ mp.lt (fun e=>ne e.symm)),ls',hpk,hpf,hr,RowsOk.perm X.rok pm,X.cok,dim,ne,up⟩,fun x hx=>?_,k1.trans (h.kp.mono (fun k _ e=>.inl e))⟩
 simp only [blks,List.mem_cons,List.mem_map] at hx
 rcases hx with h1 | h1 | h1 | h1 | ⟨y,hy,rfl⟩
 ·exact .inl h1
 ·exact .inr (.inl h1)
 ·exact .inr (.inr (.inl h1))
 ·exact .inr (.inr (.inr (.inl h1)))
 ·exact .inr (.inr (.inr (.inr (h.gs y hy).1)))
theorem layOut_c {Iq:Nat->Prop} {w:World} {tb m:Nat} {C:Vs} {gc cc lb pb g cap:Nat} {d:List Rt} (h:LayIn Iq w tb m C gc cc lb pb g cap d) :
  Calls Tryz.prog 49 #[.pointer (some ⟨tb,0,none⟩),.slice (some ⟨g,0,none⟩) d.length cap] w fun e w'=>LayOut Iq w tb m C gc lb pb g (d.map rwR) e w':=by
 obtain ⟨W0,hW0⟩:∃ W0,W0=w.alloc (.cells #[.pointer (some ⟨tb,0,none⟩)] 28):=⟨_,rfl⟩
 have g0:Gb w W0:=by rw [hW0];exact gb_alloc (Below.refl _ _) _
 have tlt:=(Array.getElem?_eq_some_iff.1 h.blk).1
 have b0:W0.heap[w.heap.size]? = some (.cells #[.pointer (some ⟨tb,0,none⟩)] 28 (0,0)):=by rw [hW0];exact Array.getElem?_push_size
 have zlt:w.heap.size < W0.heap.size:=(Array.getElem?_eq_some_iff.1 b0).1
 have tne:tb ≠ pb:=fun e=>by
  obtain ⟨es,cl,e'⟩:=(h.plc (fun _=>.int .i64 0)).isMap
  rw [<- e,h.blk] at e';simp at e'
 have plt:=(h.plc (fun _=>.int .i64 0)).lt
 have gne:g ≠ pb:=h.rows.ne_map (h.plc (fun _=>.int .i64 0))
 have hfew:d.length<=512:=by have:=h.rok.few;rwa [List.length_map] at this
 have noP:NoInt w (fun k=>k=pb):=by
  rintro k rfl cur s e
  obtain ⟨es,cl,e'⟩:=(h.plc (fun _=>.int .i64 0)).isMap
  rw [e] at e';simp at e'
 obtain ⟨ccur,hcc,_⟩:=h.cen.blk
 have cne:gc ≠ pb:=fun e=>by
  obtain ⟨es,cl,e'⟩:=(h.plc (fun _=>.int .i64 0)).isMap
  rw [<- e,hcc] at e';simp at e'
 have hrow:∀ q (hq:q < d.length),okId d[q].1=true/\chk d[q].2.2 (m:Int)=0:=fun q hq=>h.rok.row (rwR d[q]) (List.mem_map.2 ⟨d[q],List.getElem_mem hq,rfl⟩)
 have hkw:∀ q (hq:q < d.length),KWf d[q].1:=fun q hq=>by
  have:=(okId_iff _).1 (hrow q hq).1
  exact ⟨by omega,by omega⟩
 have hsl:∀ x ∈ d,∃ a n c,x.2.1=.slice a n c:=fun x hx=>by
  obtain ⟨a,c,e,_⟩:=(h.vec x hx).rd
  exact ⟨_,_,_,e⟩
 have F1:Hid (∀ W,Tk.Kp (fun k=>k=pb) W0 W->W.cell? ⟨w.heap.size,0,none⟩=some (.pointer (some ⟨tb,0,none⟩))/\W.cell? ⟨tb,3,none⟩=some (.map (some pb))/\∀ q,q < d.length->∃ (x:Int) (au:Option Addr) (nu cu:Nat),W.cell? ⟨g,q * 2,none⟩=some (.int .i64 x)/\W.cell? ⟨g,q * 2 + 1,none⟩=some (.slice au nu cu) /\
   (∀ W2 i,Gb W W2->Calls Tryz.prog 69 #[.pointer (some ⟨tb,0,none⟩),.agg #[.int .i64 i,.slice au nu cu]] W2 fun e w'=>e=.returned (.int .i64 (PLn C d[q]! : Int))/\Gr W2 w') /\
   (L1 C d pb W0 q W->∀ W2,Gb W W2->∃ w5,(Instr.mapUpdate 72 (.map (some pb)) (.int .i64 x) (.int .i64 (PLn C d[q]! : Int))).run Tryz.prog W2=.ok () w5/\L1 C d pb W0 (q + 1) w5/\Tk.Kp (fun k=>k=pb) W2 w5)):=fun W k=>by
  have kw:Tk.Kp (fun k=>k=pb) w W:=((kpF g0).mono (fun _ _ h=>h.elim)).trans k
  refine ⟨k.cell (cell_cur b0 rfl) (by dsimp only;omega),kw.cell (cell_cur h.blk rfl) tne,fun q hq=>?_⟩
  have pcw:=(PcW.of h.rows).same (kw.block _ h.rows.lt gne)
  obtain ⟨c1,c2⟩:=pcw.rd hq
  have ov:=ownq_noint (h.vec _ (List.getElem_mem hq)) kw noP
  have cq:=h.cen.kq kw (NoI.of noP) cne
  obtain ⟨au,cu,eu,_⟩:=ov.rd
  have e1:d[q]! = d[q]:=getElem!_pos d q hq
  rw [eu] at c2
  rw [e1]
  refine ⟨_,au,_,cu,c1,c2,fun W2 i g2=>?_,fun hL W2 g2=>hL.next g2 hq (by omega) h.ris (hkw q hq)⟩
  have rdv:=ov.rd.gb g2
  rw [eu] at rdv
  exact placeOf_c (id:=i) ((cq.rd cc).gb g2) rdv (gb_keeps g2 (kw.cell (cell_cur h.blk rfl) tne)) (nE h.cok.1 h.cok.2.1 h.cok.2.2 (hrow q hq).2)
 have ST1:Hid (L1 C d pb W0 0 W0):=⟨[],fun _=>0,(h.plc _).same (g0.block _ plt),fun x=>by simp,fun x hx=>by simp at hx,Tk.Kp.refl _ _⟩
 have SS:Hid (∀ W,L1 C d pb W0 d.length W->Calls Tryz.prog 78 #[.slice (some ⟨g,0,none⟩) d.length cap,.func (.func 79) #[] #[.pointer (some ⟨w.heap.size,0,none⟩)]] W fun e w'=>e=.returned (.tuple #[])/\Hid (∃ d',d'.Perm d/\Srt2 C d'/\PcW w' g d'/\Tk.Kp (fun k=>k=g) W w'/\L1 C d pb W0 d.length W)):=fun W hL=>by
  obtain ⟨pk,pf,mp,hpk,hpf,k⟩:=id hL
  rw [List.take_length] at hpk hpf
  have kw:Tk.Kp (fun k=>k=pb) w W:=((kpF g0).mono (fun _ _ h=>h.elim)).trans k
  have f1:=F1.out W k
  have hg:=h.rows.lt
  have tg:tb ≠ g:=fun e=>by
   obtain ⟨cur,e',_⟩:=h.rows
   rw [<- e,h.blk] at e';simp at e'
  refine (sortLay_c (cap:=cap) (C:=C) ((PcW.of h.rows).same (kw.block _ h.rows.lt gne)) (by omega) hsl h.ris (fun x hx=>by obtain ⟨q,hq,rfl⟩:=List.getElem_of_mem hx;exact hkw q hq) (fun x hx=>⟨(hpk x.1).2 (List.mem_map.2 ⟨x,hx,rfl⟩),hpf x hx⟩) mp f1.1 f1.2.1 (by omega) tg (fun e=>gne e.symm)).mono ?_
  rintro e w' ⟨rfl,d',a1,a2,a3,a4⟩
  exact ⟨rfl,d',a1,a2,a3,a4,hL⟩
 have HH:Hid (LayIn Iq w tb m C gc cc lb pb g cap d):=h
 have G0:Hid (Gb w W0/\W0.heap[w.heap.size]? = some (.cells #[.pointer (some ⟨tb,0,none⟩)] 28 (0,0))):=⟨g0,b0⟩
 clear h g0 tlt b0 zlt tne plt gne noP hcc cne hrow hkw hsl
 generalize hn:d.length=n at *
 have N:Hid (d.length=n/\n<=512):=⟨hn,hfew⟩
 have hn5:n<=512:=hfew
 clear hn hfew
 go_enter Tryz.func49,Tryz.ntmps49
 go_wp2
 rw [<- hW0]
 clear hW0
 go_loopw [10] (fun iv W=>∃ q:Nat,iv=.int .i64 (q:Int)/\q<=n/\Hid (L1 C d pb W0 q W)) (fun iv _=>n - (intOf iv).toNat)
 case atStart=>exact ⟨0,rfl,Nat.zero_le _,ST1⟩
 case round =>
  clear ST1
  obtain ⟨q,rfl,hq,X⟩:=hrel
  by_cases hqn:q < n
  ·have hqi:(q:Int) < (n:Int):=by omega
   obtain ⟨pk,pf,m0,_,_,kX⟩:=id X.out
   obtain ⟨y0,y1,y2⟩:=F1.out wr kX
   obtain ⟨x,au,nu,cu,z0,z1,cP,cN⟩:=y2 q hqn
   have gA:Gb wr (wr.alloc (.cells #[.int .i64 x,.slice au nu cu] 45)).drew:=(gb_alloc (Below.refl _ _) _).drew
   have PO:=cP _ x gA
   have FS4:(fun W=>W.cell? ⟨w.heap.size,0,none⟩=some (.pointer (some ⟨tb,0,none⟩))/\W.cell? ⟨tb,3,none⟩=some (.map (some pb))/\W.cell? ⟨wr.heap.size,0,none⟩=some (.int .i64 x)/\W.cell? ⟨wr.heap.size,1,none⟩=some (.slice au nu cu)) (wr.alloc (.cells #[.int .i64 x,.slice au nu cu] 45)).drew:=⟨gb_keeps gA y0,gb_keeps gA y1,by simp [go_sem],by simp [go_sem]⟩
   have bl:=cell_lt y0
   have tl:=cell_lt y1
   have plt:pb < wr.heap.size:=m0.lt
   have PT:Hid (∀ w2,Gb (wr.alloc (.cells #[.int .i64 x,.slice au nu cu] 45)).drew w2->∃ w5,(Instr.mapUpdate 72 (.map (some pb)) (.int .i64 x) (.int .i64 (PLn C d[q]! : Int))).run Tryz.prog w2=.ok () w5/\Hid (L1 C d pb W0 (q + 1) w5)/\(fun W=>W.cell? ⟨w.heap.size,0,none⟩=some (.pointer (some ⟨tb,0,none⟩))/\W.cell? ⟨tb,3,none⟩=some (.map (some pb))/\W.cell? ⟨wr.heap.size,0,none⟩=some (.int .i64 x)/\W.cell? ⟨wr.heap.size,1,none⟩=some (.slice au nu cu)) w5):=fun w2 g2=>by
    obtain ⟨w5,r1,r2,r3⟩:=cN X.out w2 (gb_trans gA g2)
    refine ⟨w5,r1,r2,?_⟩
    obtain ⟨f0,f1,f2,f3⟩:=FS4
    dsimp only at bl tl
    obtain ⟨_,_,mm,_,_,kk⟩:=r2
    have tp:tb ≠ pb:=fun e=>by
     obtain ⟨es,cl,e'⟩:=m0.isMap
     rw [World.cell?] at y1
     simp [e,e'] at y1
    have bp:w.heap.size ≠ pb:=fun e=>by
     obtain ⟨es,cl,e'⟩:=m0.isMap
     rw [World.cell?] at y0
     simp [e,e'] at y0
    exact ⟨r3.cell (gb_keeps g2 f0) bp,r3.cell (gb_keeps g2 f1) tp,r3.cell (gb_keeps g2 f2) (by dsimp only;omega),r3.cell (gb_keeps g2 f3) (by dsimp only;omega)⟩
   generalize (PLn C d[q]! : Int)=P at *
   clear cP cN y2 kX m0 X gA
   go_wp2_with fail
   refine wp_region_held_drew (S:=fun W=>W.cell? ⟨w.heap.size,0,none⟩=some (.pointer (some ⟨tb,0,none⟩))/\W.cell? ⟨tb,3,none⟩=some (.map (some pb))/\W.cell? ⟨wr.heap.size,0,none⟩=some (.int .i64 x)/\W.cell? ⟨wr.heap.size,1,none⟩=some (.slice au nu cu)) (by kernel_rfl) (FS4) (fun hHeld=>?_)
   refine tkn 0 ?_ rfl ?_ ?_;rotate_left;·(rintro w ⟨s0,s1,s2,s3⟩;go_simp;try rfl)
   refine tkn 1 ?_ rfl ?_ ?_;rotate_left;·(rintro w ⟨s0,s1,s2,s3⟩;go_simp;try rfl)
   refine tkn 2 ?_ rfl ?_ ?_;rotate_left;·(rintro w ⟨s0,s1,s2,s3⟩;go_simp;try rfl)
   refine tkn 3 ?_ rfl ?_ ?_;rotate_left;·(rintro w ⟨s0,s1,s2,s3⟩;go_simp;try rfl)
   refine tkn 4 ?_ rfl ?_ ?_;rotate_left;·(rintro w ⟨s0,s1,s2,s3⟩;go_simp;try rfl)
   refine tkn 5 ?_ rfl ?_ ?_;rotate_left;·(rintro w ⟨s0,s1,s2,s3⟩;go_simp;try rfl)
   refine tkn 6 ?_ rfl ?_ ?_;rotate_left;·(rintro w ⟨s0,s1,s2,s3⟩;go_simp;try rfl)
   refine tkn 7 ?_ rfl ?_ ?_;rotate_left;·(rintro w ⟨s0,s1,s2,s3⟩;go_simp;try rfl)
   refine rdn 8 rfl (fun K hK=>?_)
   go_simp
   go_fit PO
   rintro e w2 ⟨rfl,g2⟩
   obtain ⟨w5,hput,X5,F5⟩:=PT.out w2 g2.gb
   refine hK.out _ _ (⟨g2.keeps hHeld.1,g2.keeps hHeld.2.1,g2.keeps hHeld.2.2.1,g2.keeps hHeld.2.2.2⟩) (fun hHeld=>?_)
   clear hK K
   refine rdn 9 rfl (fun K hK=>?_)
   go_simp
   refine hK.out _ _ (F5) (fun hHeld=>?_)
   clear hK K
   refine wpAnyH_done (by kernel_rfl) ?_ _
   clear hHeld FS4 PT PO hput F5
   go_wp2
   go_roundw
   case rel=>exact ⟨q + 1,by first | rfl | go_num,by omega,X5⟩
   case measure=>simp [intOf];omega
  ·have hqe:q=n:=by omega
   subst hqe
   have hqi:¬ (q:Int) < (q:Int):=by omega
   have cS:=SS.out wr X.out
   clear SS F1 X
   go_wp2_with fail
   go_fit cS
   rintro e w1 ⟨rfl,hS⟩
   obtain ⟨d',pm,st,pcw,k1,hL⟩:=hS.out
   obtain ⟨pk,pf,mp0,hpk,hpf,k0⟩:=hL
   have h:=HH.out
   obtain ⟨g0,b0⟩:=G0.out
   have hdn:d'.length=q:=by rw [pm.length_eq];exact N.out.1
   have KW:Tk.Kp (fun k=>k=pb) w wr:=((kpF g0).mono (fun _ _ h=>h.elim)).trans k0
   have K1:Tk.Kp (fun k=>k=pb ∨ k=g) w w1:=(KW.mono (fun k _ e=>.inl e)).trans (k1.mono (fun k _ e=>.inr e))
   have p0:=h.plc (fun _=>.int .i64 0)
   have l0:=h.lst (fun _=>.int .i64 0)
   have hg:=h.rows.lt
   have gpb:g ≠ pb:=h.rows.ne_map p0
   have glb:g ≠ lb:=h.rows.ne_map l0
   have tne:tb ≠ pb/\tb ≠ g:=by
    refine ⟨fun e=>?_,fun e=>?_⟩
    ·obtain ⟨es,cl,e'⟩:=p0.isMap
     rw [<- e,h.blk] at e';simp at e'
    ·obtain ⟨cur,e',_⟩:=h.rows
     rw [<- e,h.blk] at e';simp at e'
   obtain ⟨ccur,hcc,_⟩:=h.cen.blk
   have cne:gc ≠ pb/\gc ≠ g:=by
    refine ⟨fun e=>?_,fun e=>?_⟩
    ·obtain ⟨es,cl,e'⟩:=p0.isMap
     rw [<- e,hcc] at e';simp at e'
    ·obtain ⟨cur,e',_⟩:=h.rows
     rw [<- e,hcc] at e';simp at e'
   have noK:NoInt w (fun k=>k=pb ∨ k=g):=by
    rintro k (rfl | rfl) cur s e
    ·obtain ⟨es,cl,e'⟩:=p0.isMap
     rw [e] at e';simp at e'
    ·obtain ⟨cur',e',_⟩:=h.rows
     rw [e] at e';simp at e'
   have mp:=mp0.same (k1.block _ mp0.lt (fun e=>gpb e.symm))
   have hlb1:w1.heap[lb]? = w.heap[lb]? := K1.block _ l0.lt (fun e=>by rcases e with e | e;exact h.ne e;exact glb e.symm)
   have X:LyC Iq w1 tb m C gc cc lb pb g d':=by
    refine ⟨by rw [K1.block _ (Array.getElem?_eq_some_iff.1 h.blk).1 (fun e=>by rcases e with e | e;exact tne.1 e;exact tne.2 e)];exact h.blk,h.cen.kq K1 (NoI.of noK) (fun e=>by rcases e with e | e;exact cne.1 e;exact cne.2 e),pcw,fun x hx=>ownq_noint (h.vec x (pm.mem_iff.1 hx)) K1 noK,st,RowsOk.perm h.rok (pm.map rwR).symm,h.cok,?_,h.up.le K1.size⟩
    obtain ⟨es,cl,e⟩:=l0.isMap
    exact ⟨es,cl,hlb1.trans e⟩
   rw [show q=d.length from N.out.1.symm,List.take_length] at hpk hpf
   have FIN:Hid (∀ k rv W ks f G a c,L2 Iq w1 C d' g lb k rv W d'.length ks f G a c->LayOut Iq w tb m C gc lb pb g (d.map rwR) (.returned (.tuple #[])) W):=fun k rv W ks f G a c hL=>by
    refine L2.fin hL X h.ris (pm.map rwR) h.ne mp (fun x=>?_) (fun r hr=>?_) h.dim (K1.mono (fun k _ e=>.inr e))
    ·rw [hpk x]
     unfold idsOf
     rw [List.map_map]
     rfl
    ·obtain ⟨y,hy,rfl⟩:=List.mem_map.1 hr
     exact hpf y hy
   have bx1:w1.cell? ⟨w.heap.size,0,none⟩=some (.pointer (some ⟨tb,0,none⟩)):=k1.cell (k0.cell (cell_cur b0 rfl) (by have:=p0.lt;dsimp only;omega)) (by dsimp only;omega)
   have FA:Hid (∀ W,Tk.Kp (fun k=>k=lb) w1 W->W.cell? ⟨w.heap.size,0,none⟩=some (.pointer (some ⟨tb,0,none⟩))/\W.cell? ⟨tb,3,none⟩=some (.map (some pb))/\∀ i (hi:i < d'.length),W.cell? ⟨g,i * 2,none⟩=some (.int .i64 d'[i].1)/\(Instr.lookup 72 (.map (some pb)) (.int .i64 d'[i].1) false).run Tryz.prog W=.ok (.int .i64 (PLn C d'[i]:Int)) W):=fun W k=>by
    obtain ⟨eT,_,pc,_,_⟩:=X.kp k
    refine ⟨k.cell bx1 (by have:=l0.lt;dsimp only;omega),cell_cur (eT.trans X.blk) rfl,fun i hi=>⟨(pc.rd hi).1,?_⟩⟩
    have m2:=mp.same (k.block _ mp.lt (fun e=>h.ne e.symm))
    have hmem:d'[i] ∈ d:=pm.mem_iff.1 (List.getElem_mem hi)
    have hid:=(okId_iff _).1 (h.rok.row (rwR d'[i]) (List.mem_map.2 ⟨_,hmem,rfl⟩)).1
    have hx:d'[i].1 ∈ pk:=(hpk _).2 (List.mem_map.2 ⟨_,hmem,rfl⟩)
    have:=m2.look (t:=72) Tryz.underlying3 Tryz.underlying72 (zeroInt W) (x:=d'[i].1) ⟨by have e:(rwR d'[i]).1=d'[i].1:=rfl;omega,by have e:(rwR d'[i]).1=d'[i].1:=rfl;omega⟩
    rw [if_pos hx,hpf _ hmem] at this
    exact this
   have ST2:Hid (∃ off ks f G a c,L2 Iq w1 C d' g lb q (.slice (some ⟨g,0,none⟩) q cap) w1 off ks f G a c):=by
    refine ⟨0,[],fun _=>.int .i64 0,fun _=>(0,0,0),some ⟨g,0,none⟩,cap,by omega,Nat.zero_le _,by rw [hdn];rfl,fun _=>by simp,?_,⟨fun x=>by simp [listR],fun x hx=>by simp at hx,fun x hx=>by simp at hx⟩,(h.lst _).same hlb1,fun x hx=>by simp at hx,fun i j _ _ hi _=>absurd hi (Nat.not_lt_zero _),Tk.Kp.refl _ _⟩
    obtain ⟨cur,_,_,h3,_⟩:=h.rows
    have:=N.out.1
    omega
   have XX:Hid _:=X
   have DN:Hid (d'.length=q):=hdn
   clear cS hS pm st pcw k1 hpk hpf k0 h g0 b0 hdn KW K1 p0 l0 hg gpb glb tne hcc cne noK mp0 mp hlb1 X bx1 hqi hq HH G0
   go_wp2
   go_loopg [1] q (fun k rv W=>Hid (∃ off ks f G a c,L2 Iq w1 C d' g lb k rv W off ks f G a c))
   case atStart=>exact ST2
   case round =>
    clear ST2
    obtain ⟨off,ks,f,G,a,c,hL⟩:=hrel.out
    clear hrel
    generalize wr=wO at *
    have hrv:=hL.rv
    by_cases hof:off < d'.length
    ·have hlen:(0:Int) < ((d'.length - off:Nat):Int):=by omega
     have ha:=hL.ad hof
     subst ha
     have gW:=hL.kp
     have hcp:=hL.cp
     have KK:Hid (∀ (W3:World) (t:Nat),Gb wO W3->1<=t->t<=d'.length - off->(∀ i (hi:i < d'.length),off<=i->i < off + t->PLn C d'[i]=PLn C d'[off])->(∀ hi:off + t < d'.length,PLn C d'[off + t] ≠ PLn C d'[off])->Calls Tryz.prog 60 #[.pointer (some ⟨tb,0,none⟩),.int .i64 (PLn C d'[off]:Int),.slice (some ⟨g,off * 2,none⟩) t t] W3 fun e w'=>e=.returned (.tuple #[])/\w'.cell? ⟨w.heap.size,0,none⟩=some (.pointer (some ⟨tb,0,none⟩))/\Hid (∀ a' c',(t < d'.length - off->a'=some ⟨g,off * 2 + t * 2,none⟩)->d'.length - off - t<=c'->∃ o2 ks f G a c,L2 Iq w1 C d' g lb (d'.length - off - t) (.slice a' (d'.length - off - t) c') w' o2 ks f G a c)):=fun W3 t g3 h1 h2 h3 h4=>by
      refine (hL.keep XX.out g3 h1 (by omega) h3 h4).mono ?_
      rintro e w' ⟨rfl,ks',f',G',hN⟩
      have h0:=hN (some ⟨g,(off + t) * 2,none⟩) (d'.length - (off + t)) (fun _=>rfl) (Nat.le_refl _)
      refine ⟨rfl,(FA.out w' h0.kp).1,fun a' c' ha hc=>⟨off + t,ks',f',G',a',c',?_⟩⟩
      have:=hN a' c' (fun hlt=>by rw [ha (by omega),show (off + t) * 2=off * 2 + t * 2 by omega]) (by omega)
      rw [show d'.length - (off + t)=d'.length - off - t by omega] at this
      exact this
     have R0:Hid (∀ W,Gb wO W->W.cell? ⟨w.heap.size,0,none⟩=some (.pointer (some ⟨tb,0,none⟩))/\W.cell? ⟨tb,3,none⟩=some (.map (some pb))/\W.cell? ⟨g,off * 2,none⟩=some (.int .i64 d'[off].1)/\(Instr.lookup 72 (.map (some pb)) (.int .i64 d'[off].1) false).run Tryz.prog W=.ok (.int .i64 (PLn C d'[off]:Int)) W):=fun W gg=>by
      obtain ⟨y0,y1,y2⟩:=FA.out W (gW.trans ((kpF gg).mono (fun _ _ h=>h.elim)))
      exact ⟨y0,y1,y2 off hof⟩
     have R1:Hid (∀ t,off + t < d'.length->∃ (x1:Int) (P1:Nat),(P1=PLn C d'[off] ↔ ∀ hi:off + t < d'.length,PLn C d'[off + t]=PLn C d'[off])/\∀ W,Gb wO W->W.cell? ⟨w.heap.size,0,none⟩=some (.pointer (some ⟨tb,0,none⟩))/\W.cell? ⟨tb,3,none⟩=some (.map (some pb))/\W.cell? ⟨g,off * 2 + t * 2,none⟩=some (.int .i64 x1)/\(Instr.lookup 72 (.map (some pb)) (.int .i64 x1) false).run Tryz.prog W=.ok (.int .i64 (P1:Int)) W):=fun t ht=>by
      refine ⟨d'[off + t].1,PLn C d'[off + t],⟨fun h _=>h,fun h=>h ht⟩,fun W gg=>?_⟩
      obtain ⟨y0,y1,y2⟩:=FA.out W (gW.trans ((kpF gg).mono (fun _ _ h=>h.elim)))
      refine ⟨y0,y1,?_,(y2 (off + t) ht).2⟩
      have:=(y2 (off + t) ht).1
      rw [show (off + t) * 2=off * 2 + t * 2 by omega] at this
      exact this
     have P0:Hid (∀ i (hi:i < d'.length),off<=i->i < off + 1->PLn C d'[i]=PLn C d'[off]):=fun i hi h1 h2=>by
      have:i=off:=by omega
      subst this
      rfl
     have OD:Hid (off < d'.length/\d'.length<=512):=⟨hof,by have:=DN.out;omega⟩
     have hgk:=hL.k
     generalize d'[off].1=x0 at *
     generalize PLn C d'[off]=p at *
     clear hL hof gW FA FIN
     generalize hR:d'.length - off=R at *
     have HR:Hid (d'.length - off=R):=hR
     have hc5:R<=512:=by have:=OD.out;omega
     subst hrv
     have GK:Hid (gk=R):=hgk
     clear hR hgk
     go_wp2_with fail
     refine wp_region_held_drew (S:=fun W=>Gb wO W) (by kernel_rfl) ((Below.refl _ _).drew) (fun hHeld=>?_)
     refine tkn 0 ?_ rfl ?_ ?_;rotate_left;·(intro w hSw;obtain ⟨y0,y1,y2,y3⟩:=R0.out w hSw;go_simp;try rfl)
     refine tkn 1 ?_ rfl ?_ ?_;rotate_left;·(intro w hSw;obtain ⟨y0,y1,y2,y3⟩:=R0.out w hSw;go_simp;try rfl)
     refine tkn 2 ?_ rfl ?_ ?_;rotate_left;·(intro w hSw;obtain ⟨y0,y1,y2,y3⟩:=R0.out w hSw;go_simp;try rfl)
     refine tkn 3 ?_ rfl ?_ ?_;rotate_left;·(intro w hSw;obtain ⟨y0,y1,y2,y3⟩:=R0.out w hSw;go_simp;try rfl)
     refine tkn 4 ?_ rfl ?_ ?_;rotate_left;·(intro w hSw;obtain ⟨y0,y1,y2,y3⟩:=R0.out w hSw;go_simp;try rfl)
     refine tkn 5 ?_ rfl ?_ ?_;rotate_left;·(intro w hSw;obtain ⟨y0,y1,y2,y3⟩:=R0.out w hSw;go_simp;try rfl)
     refine tkn 6 ?_ rfl ?_ ?_;rotate_left;·(intro w hSw;obtain ⟨y0,y1,y2,y3⟩:=R0.out w hSw;go_simp;try rfl)
     refine tkn 7 ?_ rfl ?_ ?_;rotate_left;·(intro w hSw;obtain ⟨y0,y1,y2,y3⟩:=R0.out w hSw;go_simp;try rfl)
     refine tkn 8 ?_ rfl ?_ ?_;rotate_left;·(intro w hSw;obtain ⟨y0,y1,y2,y3⟩:=R0.out w hSw;go_simp;try rfl)
     refine tkn 9 ?_ rfl ?_ ?_;rotate_left;·(intro w hSw;obtain ⟨y0,y1,y2,y3⟩:=R0.out w hSw;go_simp;try rfl)
     refine tkn 10 ?_ rfl ?_ ?_;rotate_left;·(intro w hSw;obtain ⟨y0,y1,y2,y3⟩:=R0.out w hSw;go_simp;try rfl)
     refine wpAnyH_done (by kernel_rfl) ?_ _
     clear hHeld
     try simp only [pt]
     try go_frame
     go_wp2_with fail
     go_loopw [7] (fun cv W=>∃ t:Nat,cv=.int .i64 (t:Int)/\1<=t/\t<=R/\Hid ((∀ i (hi:i < d'.length),off<=i->i < off + t->PLn C d'[i]=p)/\Gb wO W)) (fun cv _=>R - (intOf cv).toNat)
     case atStart=>exact ⟨1,rfl,Nat.le_refl _,by omega,P0.out,(Below.refl _ _).drew⟩
     case round =>
      obtain ⟨t,rfl,ht1,ht2,X⟩:=hrel
      by_cases htr:t < R
      ·have hti:(t:Int) < (R:Int):=by omega
       have htd:decide ((t:Int) < (R:Int))=true:=decide_eq_true hti
       obtain ⟨x1,P1,hPe,hR1⟩:=R1.out t (by have:=HR.out;omega)
       by_cases hP:P1=p
       ·subst hP
        have hPx:=hPe.1 rfl
        have X2:Hid ((∀ i (hi:i < d'.length),off<=i->i < off + (t + 1)->PLn C d'[i]=P1)/\Gb wO wr.drew):=by
         refine ⟨fun i hi h1 h2=>?_,gb_trans X.out.2 (Below.refl _ _).drew⟩
         by_cases e:i < off + t
         ·exact X.out.1 i hi h1 e
         ·have:i=off + t:=by omega
          subst this
          exact hPx hi
        clear hPe hPx KK R0 P0 R1
        go_wp2_with fail
        refine wp_region_held_drew (S:=fun W=>Gb wr W) (by kernel_rfl) ((Below.refl _ _).drew) (fun hHeld=>?_)
        refine tkn 0 ?_ rfl ?_ ?_;rotate_left;·(intro w hSw;(obtain ⟨y0,y1,y2,y3⟩:=hR1 w (gb_trans X.out.2 hSw));go_simp;try rfl)
        try simp only [pt]
        refine tkn 1 ?_ rfl ?_ ?_;rotate_left;·(intro w hSw;(obtain ⟨y0,y1,y2,y3⟩:=hR1 w (gb_trans X.out.2 hSw));go_simp;try rfl)
        try simp only [pt]
        refine tkn 2 ?_ rfl ?_ ?_;rotate_left;·(intro w hSw;(obtain ⟨y0,y1,y2,y3⟩:=hR1 w (gb_trans X.out.2 hSw));go_simp;try rfl)
        try simp only [pt]
        refine tkn 3 ?_ rfl ?_ ?_;rotate_left;·(intro w hSw;(obtain ⟨y0,y1,y2,y3⟩:=hR1 w (gb_trans X.out.2 hSw));go_simp;try rfl)
        try simp only [pt]
        refine tkn 4 ?_ rfl ?_ ?_;rotate_left;·(intro w hSw;(obtain ⟨y0,y1,y2,y3⟩:=hR1 w (gb_trans X.out.2 hSw));go_simp;try rfl)
        try simp only [pt]
        refine tkn 5 ?_ rfl ?_ ?_;rotate_left;·(intro w hSw;(obtain ⟨y0,y1,y2,y3⟩:=hR1 w (gb_trans X.out.2 hSw));go_simp;try rfl)
        try simp only [pt]
        refine tkn 6 ?_ rfl ?_ ?_;rotate_left;·(intro w hSw;(obtain ⟨y0,y1,y2,y3⟩:=hR1 w (gb_trans X.out.2 hSw));go_simp;try rfl)
        try simp only [pt]
        refine tkn 7 ?_ rfl ?_ ?_;rotate_left;·(intro w hSw;(obtain ⟨y0,y1,y2,y3⟩:=hR1 w (gb_trans X.out.2 hSw));go_simp;try rfl)
        try simp only [pt]
        refine tkn 8 ?_ rfl ?_ ?_;rotate_left;·(intro w hSw;(obtain ⟨y0,y1,y2,y3⟩:=hR1 w (gb_trans X.out.2 hSw));go_simp;try rfl)
        try simp only [pt]
        refine tkn 9 ?_ rfl ?_ ?_;rotate_left;·(intro w hSw;(obtain ⟨y0,y1,y2,y3⟩:=hR1 w (gb_trans X.out.2 hSw));go_simp;try rfl)
        try simp only [pt]
        refine tkn 10 ?_ rfl ?_ ?_;rotate_left;·(intro w hSw;(obtain ⟨y0,y1,y2,y3⟩:=hR1 w (gb_trans X.out.2 hSw));go_simp;try rfl)
        try simp only [pt]
        refine tkn 11 ?_ rfl ?_ ?_;rotate_left;·(intro w hSw;(obtain ⟨y0,y1,y2,y3⟩:=hR1 w (gb_trans X.out.2 hSw));go_simp;try rfl)
        try simp only [pt]
        refine tkn 12 ?_ rfl ?_ ?_;rotate_left;·(intro w hSw;(obtain ⟨y0,y1,y2,y3⟩:=hR1 w (gb_trans X.out.2 hSw));go_simp;try rfl)
        try simp only [pt]
        refine tkn 13 ?_ rfl ?_ ?_;rotate_left;·(intro w hSw;(obtain ⟨y0,y1,y2,y3⟩:=hR1 w (gb_trans X.out.2 hSw));go_simp;try rfl)
        try simp only [pt]
        refine tkn 14 ?_ rfl ?_ ?_;rotate_left;·(intro w hSw;(obtain ⟨y0,y1,y2,y3⟩:=hR1 w (gb_trans X.out.2 hSw));go_simp;try rfl)
        try simp only [pt]
        refine tkn 15 ?_ rfl ?_ ?_;rotate_left;·(intro w hSw;(obtain ⟨y0,y1,y2,y3⟩:=hR1 w (gb_trans X.out.2 hSw));go_simp;try rfl)
        try simp only [pt]
        refine tkn 16 ?_ rfl ?_ ?_;rotate_left;·(intro w hSw;(obtain ⟨y0,y1,y2,y3⟩:=hR1 w (gb_trans X.out.2 hSw));go_simp;try rfl)
        try simp only [pt]
        refine tkn 17 ?_ rfl ?_ ?_;rotate_left;·(intro w hSw;(obtain ⟨y0,y1,y2,y3⟩:=hR1 w (gb_trans X.out.2 hSw));go_simp;try rfl)
        try simp only [pt]
        refine wpAnyH_done (by kernel_rfl) ?_ _
        clear hHeld hR1 X
        go_wp2
        go_roundw
        case rel=>exact ⟨t + 1,by first | rfl | go_num,by omega,by omega,X2.out⟩
        case measure=>simp [intOf];omega
       ·have hPi:((P1:Int) == (p:Int))=false:=by rw [beq_eq_false_iff_ne];omega
        have hPx:∀ hi:off + t < d'.length,PLn C d'[off + t] ≠ p:=fun hi e=>hP (hPe.2 (fun _=>e))
        have KX:=KK.out wr.drew.drew t (gb_trans X.out.2 (Below.refl _ _).drew.drew) ht1 ht2 X.out.1 hPx
        obtain ⟨z0,_⟩:=R0.out wr.drew.drew (gb_trans X.out.2 (Below.refl _ _).drew.drew)
        clear hPe hPx hP KK R0 P0 R1
        go_wp2_with fail
        refine wp_region_held_drew (S:=fun W=>Gb wr W) (by kernel_rfl) ((Below.refl _ _).drew) (fun hHeld=>?_)
        refine tkn 0 ?_ rfl ?_ ?_;rotate_left;·(intro w hSw;(obtain ⟨y0,y1,y2,y3⟩:=hR1 w (gb_trans X.out.2 hSw));go_simp;try rfl)
        try simp only [pt]
        refine tkn 1 ?_ rfl ?_ ?_;rotate_left;·(intro w hSw;(obtain ⟨y0,y1,y2,y3⟩:=hR1 w (gb_trans X.out.2 hSw));go_simp;try rfl)
        try simp only [pt]
        refine tkn 2 ?_ rfl ?_ ?_;rotate_left;·(intro w hSw;(obtain ⟨y0,y1,y2,y3⟩:=hR1 w (gb_trans X.out.2 hSw));go_simp;try rfl)
        try simp only [pt]
        refine tkn 3 ?_ rfl ?_ ?_;rotate_left;·(intro w hSw;(obtain ⟨y0,y1,y2,y3⟩:=hR1 w (gb_trans X.out.2 hSw));go_simp;try rfl)
        try simp only [pt]
        refine tkn 4 ?_ rfl ?_ ?_;rotate_left;·(intro w hSw;(obtain ⟨y0,y1,y2,y3⟩:=hR1 w (gb_trans X.out.2 hSw));go_simp;try rfl)
        try simp only [pt]
        refine tkn 5 ?_ rfl ?_ ?_;rotate_left;·(intro w hSw;(obtain ⟨y0,y1,y2,y3⟩:=hR1 w (gb_trans X.out.2 hSw));go_simp;try rfl)
        try simp only [pt]
        refine tkn 6 ?_ rfl ?_ ?_;rotate_left;·(intro w hSw;(obtain ⟨y0,y1,y2,y3⟩:=hR1 w (gb_trans X.out.2 hSw));go_simp;try rfl)
        try simp only [pt]
        refine tkn 7 ?_ rfl ?_ ?_;rotate_left;·(intro w hSw;(obtain ⟨y0,y1,y2,y3⟩:=hR1 w (gb_trans X.out.2 hSw));go_simp;try rfl)
        try simp only [pt]
        refine tkn 8 ?_ rfl ?_ ?_;rotate_left;·(intro w hSw;(obtain ⟨y0,y1,y2,y3⟩:=hR1 w (gb_trans X.out.2 hSw));go_simp;try rfl)
        try simp only [pt]
        refine tkn 9 ?_ rfl ?_ ?_;rotate_left;·(intro w hSw;(obtain ⟨y0,y1,y2,y3⟩:=hR1 w (gb_trans X.out.2 hSw));go_simp;try rfl)
        try simp only [pt]
        refine tkn 10 ?_ rfl ?_ ?_;rotate_left;·(intro w hSw;(obtain ⟨y0,y1,y2,y3⟩:=hR1 w (gb_trans X.out.2 hSw));go_simp;try rfl)
        try simp only [pt]
        refine tkn 11 ?_ rfl ?_ ?_;rotate_left;·(intro w hSw;(obtain ⟨y0,y1,y2,y3⟩:=hR1 w (gb_trans X.out.2 hSw));go_simp;try rfl)
        try simp only [pt]
        refine tkn 12 ?_ rfl ?_ ?_;rotate_left;·(intro w hSw;(obtain ⟨y0,y1,y2,y3⟩:=hR1 w (gb_trans X.out.2 hSw));go_simp;try rfl)
        try simp only [pt]
        refine tkn 13 ?_ rfl ?_ ?_;rotate_left;·(intro w hSw;(obtain ⟨y0,y1,y2,y3⟩:=hR1 w (gb_trans X.out.2 hSw));go_simp;try rfl)
        try simp only [pt]
        refine tkn 14 ?_ rfl ?_ ?_;rotate_left;·(intro w hSw;(obtain ⟨y0,y1,y2,y3⟩:=hR1 w (gb_trans X.out.2 hSw));go_simp;try rfl)
        try simp only [pt]
        refine tkn 15 ?_ rfl ?_ ?_;rotate_left;·(intro w hSw;(obtain ⟨y0,y1,y2,y3⟩:=hR1 w (gb_trans X.out.2 hSw));go_simp;try rfl)
        try simp only [pt]
        refine tkn 16 ?_ rfl ?_ ?_;rotate_left;·(intro w hSw;(obtain ⟨y0,y1,y2,y3⟩:=hR1 w (gb_trans X.out.2 hSw));go_simp;try rfl)
        try simp only [pt]
        refine tkn 17 ?_ rfl ?_ ?_;rotate_left;·(intro w hSw;(obtain ⟨y0,y1,y2,y3⟩:=hR1 w (gb_trans X.out.2 hSw));go_simp;try rfl)
        try simp only [pt]
        refine wpAnyH_done (by kernel_rfl) ?_ _
        clear hHeld hR1 X
        have htc:(t:Int)<=(c:Int):=by omega
        have htc2:t<=c:=by omega
        go_wp2_with fail
        refine wp_region_held_drew (S:=fun W=>W.cell? ⟨w.heap.size,0,none⟩=some (.pointer (some ⟨tb,0,none⟩))) (by kernel_rfl) (z0) (fun hHeld=>?_)
        refine tkn 0 ?_ rfl ?_ ?_;rotate_left;·(intro w hSw;(skip);go_simp;try rfl)
        refine tkn 1 ?_ rfl ?_ ?_;rotate_left;·(intro w hSw;(skip);go_simp;try rfl)
        refine tkn 2 ?_ rfl ?_ ?_;rotate_left;·(intro w hSw;(skip);go_simp;try rfl)
        refine tkn 3 ?_ rfl ?_ ?_;rotate_left;·(intro w hSw;(skip);go_simp;try rfl)
        refine tkn 4 ?_ rfl ?_ ?_;rotate_left;·(intro w hSw;(skip);go_simp;try rfl)
        refine tkn 5 ?_ rfl ?_ ?_;rotate_left;·(intro w hSw;(skip);go_simp;try rfl)
        refine rdn 6 rfl (fun K hK=>?_)
        go_simp
        go_fit KX
        rintro e w4 ⟨rfl,z4,NX⟩
        clear KX
        refine hK.out _ _ (z4) (fun hHeld=>?_)
        clear hK K
        refine wpAnyH_done (by kernel_rfl) ?_ _
        clear hHeld z0 z4
        have hct:¬ c=t:=by omega
        have hti2:(t:Int)<=(R:Int):=by omega
        have hti3:t<=R:=by omega
        go_wp2
        go_roundg (R - t)
        case measure=>have:=GK.out;omega
        case rel=>exact NX.out _ _ (fun h=>by first | rfl | omega) (by omega)
      ·have hte:t=R:=by omega
       subst hte
       have hti:¬ (t:Int) < (t:Int):=by omega
       have htd:decide ((t:Int) < (t:Int))=false:=decide_eq_false hti
       have KX:=KK.out wr.drew.drew t (gb_trans X.out.2 (Below.refl _ _).drew.drew) ht1 ht2 X.out.1 (fun hi=>by have:=HR.out;omega)
       obtain ⟨z0,_⟩:=R0.out wr.drew.drew (gb_trans X.out.2 (Below.refl _ _).drew.drew)
       clear KK R0 P0 R1 htr
       go_wp2_with fail
       refine wp_region_held_drew (S:=fun W=>Gb wr W) (by kernel_rfl) ((Below.refl _ _).drew) (fun hHeld=>?_)
       refine tkn 0 ?_ rfl ?_ ?_;rotate_left;·(intro w hSw;(skip);go_simp;try rfl)
       try simp only [pt]
       refine tkn 1 ?_ rfl ?_ ?_;rotate_left;·(intro w hSw;(skip);go_simp;try rfl)
       try simp only [pt]
       refine tkn 2 ?_ rfl ?_ ?_;rotate_left;·(intro w hSw;(skip);go_simp;try rfl)
       try simp only [pt]
       refine tkn 3 ?_ rfl ?_ ?_;rotate_left;·(intro w hSw;(skip);go_simp;try rfl)
       try simp only [pt]
       refine tkn 4 ?_ rfl ?_ ?_;rotate_left;·(intro w hSw;(skip);go_simp;try rfl)
       try simp only [pt]
       refine wpAnyH_take (i:=5) (v:=undef) rfl (by kernel_rfl) (by kernel_rfl) (by kernel_rfl) (fun _ _ _ h=>h) (Or.inr ⟨by rfl,rfl⟩) (by assumption) ?_
       try simp only [pt]
       refine wpAnyH_take (i:=6) (v:=undef) rfl (by kernel_rfl) (by kernel_rfl) (by kernel_rfl) (fun _ _ _ h=>h) (Or.inr ⟨by rfl,rfl⟩) (by assumption) ?_
       try simp only [pt]
       refine wpAnyH_take (i:=7) (v:=undef) rfl (by kernel_rfl) (by kernel_rfl) (by kernel_rfl) (fun _ _ _ h=>h) (Or.inr ⟨by rfl,rfl⟩) (by assumption) ?_
       try simp only [pt]
       refine wpAnyH_take (i:=8) (v:=undef) rfl (by kernel_rfl) (by kernel_rfl) (by kernel_rfl) (fun _ _ _ h=>h) (Or.inr ⟨by rfl,rfl⟩) (by assumption) ?_
       try simp only [pt]
       refine wpAnyH_take (i:=9) (v:=undef) rfl (by kernel_rfl) (by kernel_rfl) (by kernel_rfl) (fun _ _ _ h=>h) (Or.inr ⟨by rfl,rfl⟩) (by assumption) ?_
       try simp only [pt]
       refine wpAnyH_take (i:=10) (v:=undef) rfl (by kernel_rfl) (by kernel_rfl) (by kernel_rfl) (fun _ _ _ h=>h) (Or.inr ⟨by rfl,rfl⟩) (by assumption) ?_
       try simp only [pt]
       refine wpAnyH_take (i:=11) (v:=undef) rfl (by kernel_rfl) (by kernel_rfl) (by kernel_rfl) (fun _ _ _ h=>h) (Or.inr ⟨by rfl,rfl⟩) (by assumption) ?_
       try simp only [pt]
       refine wpAnyH_take (i:=12) (v:=undef) rfl (by kernel_rfl) (by kernel_rfl) (by kernel_rfl) (fun _ _ _ h=>h) (Or.inr ⟨by rfl,rfl⟩) (by assumption) ?_
       try simp only [pt]
       refine wpAnyH_take (i:=13) (v:=undef) rfl (by kernel_rfl) (by kernel_rfl) (by kernel_rfl) (fun _ _ _ h=>h) (Or.inr ⟨by rfl,rfl⟩) (by assumption) ?_
       try simp only [pt]
       refine wpAnyH_take (i:=14) (v:=undef) rfl (by kernel_rfl) (by kernel_rfl) (by kernel_rfl) (fun _ _ _ h=>h) (Or.inr ⟨by rfl,rfl⟩) (by assumption) ?_
       try simp only [pt]
       refine wpAnyH_take (i:=15) (v:=undef) rfl (by kernel_rfl) (by kernel_rfl) (by kernel_rfl) (fun _ _ _ h=>h) (Or.inr ⟨by rfl,rfl⟩) (by assumption) ?_
       try simp only [pt]
       refine wpAnyH_take (i:=16) (v:=undef) rfl (by kernel_rfl) (by kernel_rfl) (by kernel_rfl) (fun _ _ _ h=>h) (Or.inr ⟨by rfl,rfl⟩) (by assumption) ?_
       try simp only [pt]
       refine tkn 17 ?_ rfl ?_ ?_;rotate_left;·(intro w hSw;(skip);go_simp;try rfl)
       refine wpAnyH_done (by kernel_rfl) ?_ _
       clear hHeld X
       have htc:(t:Int)<=(c:Int):=by omega
       have htc2:t<=c:=by omega
       go_wp2_with fail
       refine wp_region_held_drew (S:=fun W=>W.cell? ⟨w.heap.size,0,none⟩=some (.pointer (some ⟨tb,0,none⟩))) (by kernel_rfl) (z0) (fun hHeld=>?_)
       refine tkn 0 ?_ rfl ?_ ?_;rotate_left;·(intro w hSw;(skip);go_simp;try rfl)
       refine tkn 1 ?_ rfl ?_ ?_;rotate_left;·(intro w hSw;(skip);go_simp;try rfl)
       refine tkn 2 ?_ rfl ?_ ?_;rotate_left;·(intro w hSw;(skip);go_simp;try rfl)
       refine tkn 3 ?_ rfl ?_ ?_;rotate_left;·(intro w hSw;(skip);go_simp;try rfl)
       refine tkn 4 ?_ rfl ?_ ?_;rotate_left;·(intro w hSw;(skip);go_simp;try rfl)
       refine tkn 5 ?_ rfl ?_ ?_;rotate_left;·(intro w hSw;(skip);go_simp;try rfl)
       refine rdn 6 rfl (fun K hK=>?_)
       go_simp
       go_fit KX
       rintro e w4 ⟨rfl,z4,NX⟩
       clear KX
       refine hK.out _ _ (z4) (fun hHeld=>?_)
       clear hK K
       refine wpAnyH_done (by kernel_rfl) ?_ _
       clear hHeld z0 z4
       by_cases hct:c=t
       ·subst hct
        have NX2:=NX.out (some ⟨g,off * 2,none⟩) (0) (fun h=>absurd h (Nat.lt_irrefl _)) (by omega)
        rw [Nat.sub_self] at NX2
        have N2:Hid _:=NX2
        clear NX NX2
        go_wp2
        go_roundg 0
        case measure=>have:=GK.out;omega
        case rel=>exact N2.out
       ·skip
        have NX2:=NX.out (some ⟨g,off * 2 + t * 2,none⟩) (c - t) (fun h=>absurd h (Nat.lt_irrefl _)) (by omega)
        rw [Nat.sub_self] at NX2
        have N2:Hid _:=NX2
        clear NX NX2
        go_wp2
        go_roundg 0
        case measure=>have:=GK.out;omega
        case rel=>exact N2.out
    ·have hoe:off=d'.length:=by have:=hL.le;omega
     subst hoe
     have hF:=FIN.out _ _ _ _ _ _ _ _ hL
     have FF:Hid (LayOut Iq w tb m C gc lb pb g (d.map rwR) (.returned (.tuple #[])) wO):=hF
     rw [Nat.sub_self] at hrv
     subst hrv
     clear hL FA FIN hF
     go_wp2
     go_end0
     exact FF.out
end Go.Proofs.YtcipdampcmfmaabGreat
