import Derived.Test.YtcipdampcmfmaabGreatJaKqPu
import Derived.Test.YtcipdampcmfmaabGreatJa29
import Derived.Test.YtcipdampcmfmaabGreatJa24
import Derived.Deep.LoopGhost
import Derived.Test.YtcipdampcmfmaabGreatJaIvLy
import Derived.Test.YtcipdampcmfmaabGreatJa39
import Derived.Test.YtcipdampcmfmaabGreatJa10
namespace Go.Proofs.YtcipdampcmfmaabGreat
open Go.RowKit Go.Sort Go.Maps
set_option maxRecDepth 100000
set_option maxHeartbeats 2000000
theorem len_c {Iq:Nat->Prop} {w:World} {tb m:Nat} {C:Vs} {rs:List Rw} {F:List Nat} (h:TreeAt Iq w tb m C rs F) :
  Calls Tryz.prog 17 #[.pointer (some ⟨tb,0,none⟩)] w fun e w'=>e=.returned (.int .i64 (rs.length:Int))/\w'=w:=by
 obtain ⟨gc,cc,lb,pb,ks,pk,f,pf,G,o,rfl⟩:=h.opn
 have:=ilen_c o.cells.2.2.2 o.plc
 rw [o.pkl] at this
 exact this
theorem OwnC.cat {w W:World} {pv:Option Addr} {nv cv:Nat} {rs ls:List Rw} {g c:Nat} (h:OwnC W w.heap.size (.slice pv nv cv) rs) (hl:OwnC W w.heap.size (.slice (some ⟨g,0,none⟩) ls.length c) ls) (hn:rs.length<=4000) (hm:ls.length<=4000) (gw:Gb w W) :
  ∃ g' c' W',(Builtin.append_ #[22,22] 22 #[.slice pv nv cv,.slice (some ⟨g,0,none⟩) ls.length c]).run Tryz.prog W=.ok (.slice (some ⟨g',0,none⟩) (rs ++ ls).length c') W'/\OwnC W' w.heap.size (.slice (some ⟨g',0,none⟩) (rs ++ ls).length c') (rs ++ ls)/\W.grownBy W' (Value.slice pv nv cv).ownBlock:=by
 obtain ⟨d1,e1,o1,v1⟩:=h.rt
 obtain ⟨d2,e2,o2,v2⟩:=hl.rt
 have l1:d1.length=rs.length:=by rw [<- e1,List.length_map]
 have l2:d2.length=ls.length:=by rw [<- e2,List.length_map]
 obtain ⟨i0,hi,hz0,hz1,hz2⟩:=info_partsW
 have hy1:∀ u ∈ d2.flatMap encR,u.oneCell'=true:=fun u hu=>by
  obtain ⟨x,hx,hu⟩:=List.mem_flatMap.1 hu
  simp only [encR,List.mem_cons,List.not_mem_nil,or_false] at hu
  rcases hu with rfl | rfl
  ·rfl
  ·obtain ⟨_,_,e,_⟩:=(v2 x hx).rd
   rw [e];rfl
 have hyc:∀ j u,(d2.flatMap encR)[j]? = some u->W.cell? ((⟨g,0,none⟩:Addr).add j)=some u:=fun j u hj=>o2.cells (g:=g) rfl j u hj
 rw [<- l2]
 obtain ⟨v',W',hr,hown,hgrow,hnn,_⟩:=run_append_own_at (P:=Tryz.prog) W w.heap.size 22 22 45 i0 (.agg #[.int .i64 0,.slice none 0 0]) 2 32 Tryz.underlying22 hi hz0 hz1 hz2 rfl (by decide)
  (.slice pv nv cv) d1.length (d1.flatMap encR) o1 ⟨g,0,none⟩ d2.length c (d2.flatMap encR) o2.1 hyc hy1 (by simp only [maxLen];omega) (by omega) gw.size
 have kp:∀ {u':Value} {y:List Int},Own W w.heap.size u' y->Own W' w.heap.size u' y:=fun {u' y} ho'=>ho'.kept hgrow (own_neR ho' o1)
 rw [<- List.flatMap_append,<- List.length_append] at hown
 have hle:(d1 ++ d2).length=(rs ++ ls).length:=by rw [List.length_append,List.length_append,l1,l2]
 have hown':=hown
 rcases hown.2 with ⟨e,_⟩ | ⟨g',c',cur,e,_⟩
 ·exact absurd (hnn.1 e).1 h.1
 ·subst e
  refine ⟨g',c',W',by rw [<- hle];exact hr,?_,hgrow⟩
  have:=OwnC.of_rt hown' (fun x hx=>by
   rcases List.mem_append.1 hx with hx | hx
   ·exact kp (v1 x hx)
   ·exact kp (v2 x hx))
  rw [List.map_append,e1,e2,hle] at this
  exact this
theorem OwnC.keptN {W W':World} {B:Nat} {v:Value} {rs:List Rw} {row:Option Nat} (h:OwnC W B v rs) (hg:W.grownBy W' row) (hr:∀ k,row=some k->∀ cur t s,W.heap[k]? ≠ some (.cells cur t s)):OwnC W' B v rs:=by
 obtain ⟨h0,xs,h1,h2⟩:=h
 have key:∀ {u:Value} {t:TypeId} {k n:Nat} {ys:List Value},W.ownsRow B t k u n ys->u.ownBlock=none ∨ u.ownBlock ≠ row:=fun {u t k n ys} o=>by
  rcases o.2 with ⟨rfl,_⟩ | ⟨g,cap,cur,rfl,_,hh,_⟩
  ·exact .inl rfl
  ·refine .inr fun e=>?_
   exact hr g e.symm _ _ _ hh
 refine ⟨h0,xs,h1.kept hg (key h1),fun i hi=>?_⟩
 obtain ⟨a,u,b,c⟩:=h2 i hi
 exact ⟨a,u,b,c.kept hg (key c)⟩
def RowI (w:World) (lb r:Nat) (ks:List Int) (f:Int->Value) (C:Vs) (rs:List Rw) (g:Nat) (ov:Value) (W:World):Prop :=
 ∃ lf dn,g=lf.length/\RngA Tryz.prog 3 W lb r ks lf f/\OwnC W w.heap.size ov dn/\Gb w W/\(dn ++ lf.flatMap fun x=>listR C rs x.toNat).Perm rs
theorem RngA.sub {P:Program} {kt:TypeId} {w:World} {b r:Nat} {ks lf:List Int} {f:Int->Value} (h:RngA P kt w b r ks lf f):∀ x ∈ lf,x ∈ ks:=by
 obtain ⟨D,left,cnt,h1,h2,h3,h4,h5⟩:=h
 exact h4
theorem RngA.iter {P:Program} {kt:TypeId} {w:World} {b r:Nat} {ks lf:List Int} {f:Int->Value} (h:RngA P kt w b r ks lf f):∀ cur t s,w.heap[r]? ≠ some (.cells cur t s):=by
 obtain ⟨D,left,cnt,⟨es,clock,since,seen,c0,h1,F,h2,h3,h4,h5⟩,_⟩:=h
 intro cur t s e
 rw [h4] at e
 simp at e
theorem rows_c {Iq:Nat->Prop} {w:World} {tb m:Nat} {C:Vs} {rs:List Rw} {F:List Nat} (h:TreeAt Iq w tb m C rs F) :
  Calls Tryz.prog 18 #[.pointer (some ⟨tb,0,none⟩)] w fun e w'=>∃ v',e=.returned v'/\OwnC w' w.heap.size v' rs/\Gb w w':=by
 obtain ⟨gc,cc,lb,pb,ks,pk,f,pf,G,o,rfl⟩:=h.opn
 obtain ⟨c0,c1,c2,c3⟩:=o.cells
 have hl:=o.plc.len (t:=72) Tryz.underlying72 3
 rw [o.pkl] at hl
 have hfew:=o.rok.few
 obtain ⟨i0,hi,hz0,hz1,hz2⟩:=info_partsW
 obtain ⟨w1,hmk,ho,hg⟩:=run_make_own (P:=Tryz.prog) w w.heap.size 22 45 i0 (.agg #[.int .i64 0,.slice none 0 0]) 2 Tryz.underlying22 hi hz0 hz1 .i64 .i64 rs.length (by rw [hz2];omega) (by simp only [maxLen];omega) (Nat.le_refl _)
 have g1:Gb w w1:=below_grown (Below.refl _ _) hg (fun k e=>by cases e) (Nat.le_refl _)
 obtain ⟨w2,hrg,hR,hgr,hsz⟩:=(o.lst.same (g1.block _ o.lst.lt)).range (t:=71) Tryz.underlying3 Tryz.underlying71
 have g2:Gb w w2:=below_grown g1 hgr (fun k e=>by cases e) g1.size
 have x2:=gb_keeps g1 c2
 have rB:w.heap.size<=w1.heap.size:=g1.size
 obtain ⟨_,_,hnd,_⟩:=o.lst
 have ST:Hid (RowI w lb w1.heap.size ks f C rs ks.length (.slice (some ⟨w.heap.size,0,none⟩) 0 rs.length) w2):=by
  refine ⟨ks,[],rfl,hR,⟨by simp,[],ho.kept hgr (.inr (by simp [Value.ownBlock])),fun i hi=>absurd hi (Nat.not_lt_zero _)⟩,g2,?_⟩
  rw [List.nil_append]
  exact lists_perm o.ris hnd o.ls.keys
 have LS:Hid (∀ x ∈ ks,∃ (d:List Rt) (S:Int) (bh bl:Int) (al ah ai ar:Option Addr) (nl cl nh ch ni ci cr:Nat),f x=.agg #[.int .i64 S,.slice al nl cl,.slice ah nh ch,.int .u64 bh,.int .u64 bl,.slice ai ni ci,.slice ar (listR C rs x.toNat).length cr]/\RdW w (.slice ar (listR C rs x.toNat).length cr) (listR C rs x.toNat)):=fun x hx=>by
  obtain ⟨d,vl,vh,vi,a⟩:=o.ls.at_ x hx
  have hdl:d.length=(listR C rs x.toNat).length:=by rw [<- a.rows,List.length_map]
  obtain ⟨al,cl,el,_⟩:=a.low.rd
  obtain ⟨ah,ch,eh,_⟩:=a.high.rd
  obtain ⟨ai,ci,ei,_⟩:=a.ids.rd
  have rd:RdW w (.slice (some ⟨(G x).1,(G x).2.1,none⟩) d.length (G x).2.2) (d.map rwR):=RwRd.rdw' a.pc.rd (fun y hy=>(a.vec y hy).rd)
  rw [a.rows,hdl] at rd
  exact ⟨d,_,_,_,_,_,_,_,_,_,_,_,_,_,_,by rw [a.val,el,eh,ei,hdl],rd⟩
 have KX:Hid (RowsOk rs (m:Int)/\Ris rs):=⟨o.rok,o.ris⟩
 have LX:Hid (∀ x ∈ ks,x ∈ ks):=fun _ h=>h
 have FL:=fun a b c d e f g=>fld_rows a b c d e f g
 generalize hn:rs.length=n at *
 have N:Hid (rs.length=n):=hn
 have hlt1:tb < w1.heap.size:=cell_lt x2
 clear hn ho hg g1 hR hgr g2 hi hz0 hz1 hz2 o h hnd c0 c1 FL
 go_enter Tryz.func18,Tryz.ntmps18
 go_wp2
 clear hmk hl hrg
 go_loopg [3] ks.length (fun g ov wx=>Hid (RowI w lb w1.heap.size ks f C rs g ov wx))
 case atStart=>exact ST
 case round =>
  clear ST
  obtain ⟨lf,dn,hgk,hr,ho,gb,pm⟩:=hrel.out
  clear hrel
  have itr:=hr.iter
  rcases hr.next Tryz.underlying3 0 with ⟨rfl,hnx⟩ | ⟨x,w',hx,hnx,hr',hgr,hsz',hen⟩
  ·have PM:Hid (dn.Perm rs/\Gb w wr):=by
    refine ⟨?_,gb⟩
    simpa using pm
   obtain ⟨gv,cv,ev⟩:=ho.form
   have cS:=sorted_c (m:=m) ho (RowsOk.perm KX.out.1 PM.out.1.symm)
   have OB:Hid (∀ k,u3.ownBlock=some k->w.heap.size<=k):=fun k e=>by
    obtain ⟨_,xs,h1,_⟩:=ho
    exact (h1.lt k e).1
   subst ev
   clear ho hr hgk pm gb itr
   go_wp2_with fail
   go_fit cS
   rintro e w3 ⟨rfl,rs',p',ris',o3,k3⟩
   have X:Hid (OwnC w3 w.heap.size (.slice (some ⟨gv,0,none⟩) dn.length cv) rs/\Gb w w3):=by
    refine ⟨?_,?_⟩
    ·rw [<- ris_eq ris' KX.out.2 (p'.trans PM.out.1)]
     exact o3
    ·have gb:=PM.out.2
     refine ⟨k3.os.trans gb.os,k3.tape.trans gb.tape,k3.output.trans gb.output,Nat.le_trans gb.size k3.size,fun k hk=>(k3.block k (Nat.lt_of_lt_of_le hk gb.size) (fun e=>?_)).trans (gb.block k hk)⟩
     have:=OB.out k e
     omega
   clear cS k3 o3 p' ris' PM OB
   go_wp2
   go_ret
   exact ⟨_,rfl,X.out⟩
  ·obtain ⟨d,S,bh,bl,al,ah,ai,ar,nl,cl,nh,ch,ni,ci,cr,ev,rd⟩:=LS.out x (hr.sub x hx)
   rw [ev] at hnx hen
   obtain ⟨R,eR⟩:∃ R,R=listR C rs x.toNat:=⟨_,rfl⟩
   rw [<- eR] at rd hnx hen
   have g':Gb w w':=below_grown gb hgr (fun k e=>by cases e;exact rB) gb.size
   have gA:Gb w (w'.alloc (.cells #[.int .i64 S,.slice al nl cl,.slice ah nh ch,.int .u64 bh,.int .u64 bl,.slice ai ni ci,.slice ar R.length cr] 100)):=gb_alloc g' _
   have hRok:RowsOk R (m:Int):=by rw [eR];exact KX.out.1.sub (listR_sub _ _ _)
   have cC:=copies_c (rd.gb gA) (by have:=hRok.few;omega) (fun i hi=>by
    have h1:=chk_ok (hRok.row R[i]! (by rw [getElem!_pos R i hi];exact List.getElem_mem hi)).2
    omega)
   have ho':OwnC w' w.heap.size u3 dn:=ho.keptN hgr (fun k e=>by cases e;exact itr)
   obtain ⟨gv,cv,eu⟩:=ho.form
   have hdn:dn.length<=512:=by
    have:=pm.length_eq
    rw [List.length_append] at this
    have:=KX.out.1.few
    omega
   have CT:Hid (∀ w3 v3,OwnC w3 (w'.alloc (.cells #[.int .i64 S,.slice al nl cl,.slice ah nh ch,.int .u64 bh,.int .u64 bl,.slice ai ni ci,.slice ar R.length cr] 100)).heap.size v3 R->Gb (w'.alloc (.cells #[.int .i64 S,.slice al nl cl,.slice ah nh ch,.int .u64 bh,.int .u64 bl,.slice ai ni ci,.slice ar R.length cr] 100)) w3 ->
     ∃ g3 c3 g4 c4 w4,v3=.slice (some ⟨g3,0,none⟩) R.length c3/\(Builtin.append_ #[22,22] 22 #[.slice (some ⟨gv,0,none⟩) dn.length cv,.slice (some ⟨g3,0,none⟩) R.length c3]).run Tryz.prog w3=.ok (.slice (some ⟨g4,0,none⟩) (dn ++ R).length c4) w4/\Hid (RowI w lb w1.heap.size ks f C rs (lf.erase x).length (.slice (some ⟨g4,0,none⟩) (dn ++ R).length c4) w4)):=fun w3 v3 o3 g3=>by
    obtain ⟨ga,ca,e3⟩:=o3.form
    subst e3
    have o1:OwnC w3 w.heap.size (.slice (some ⟨gv,0,none⟩) dn.length cv) dn:=by
     rw [<- eu]
     exact (ho'.gb (gb_alloc (Below.refl _ _) _)).gb g3
    obtain ⟨g4,c4,w4,hr4,o4,gr4⟩:=OwnC.cat o1 (o3.mono gA.size) (by omega) (by have:=hRok.few;omega) (gb_trans gA g3)
    refine ⟨ga,ca,g4,c4,w4,rfl,hr4,lf.erase x,dn ++ R,rfl,?_,o4,?_,?_⟩
    ·have r3:RngA Tryz.prog 3 w3 lb w1.heap.size ks (lf.erase x) f:=by
      have gx:=gb_trans (gb_alloc (Below.refl _ _) _) g3
      exact hr'.same (gx.block _ hr'.map.lt) (gx.block _ hr'.lt)
     have nb:∀ k,(Value.slice (some ⟨gv,0,none⟩) dn.length cv).ownBlock=some k->∃ cur t s,w3.heap[k]? = some (.cells cur t s):=fun k e=>by
      obtain ⟨_,xs,h1,_⟩:=o1
      rcases h1.2 with ⟨e',_⟩ | ⟨g5,cap5,cur5,e5,_,hh5,_⟩
      ·cases e'
      ·cases e5;cases e;exact ⟨_,_,_,hh5⟩
     refine r3.same (gr4.block _ r3.map.lt (fun e=>?_)) (gr4.block _ r3.lt (fun e=>?_))
     ·obtain ⟨cur,t,s,hc⟩:=nb _ e.symm
      obtain ⟨es,cl,e'⟩:=r3.map.isMap
      rw [hc] at e';simp at e'
     ·obtain ⟨cur,t,s,hc⟩:=nb _ e.symm
      exact r3.iter _ _ _ hc
    ·refine below_grown (gb_trans gA g3) gr4 (fun k e=>?_) (gb_trans gA g3).size
     obtain ⟨_,xs,h1,_⟩:=o1
     exact (h1.lt k e).1
    ·rw [List.append_assoc]
     refine (List.Perm.append_left dn ?_).trans pm
     have:=(List.perm_cons_erase hx).flatMap_right (fun x=>listR C rs x.toNat)
     rw [List.flatMap_cons,<- eR] at this
     exact this.symm
   have hle:(lf.erase x).length < gk:=by
    rw [hgk,List.length_erase_of_mem hx]
    have:=List.length_pos_of_mem hx
    omega
   have hlw:w1.heap.size < w'.heap.size:=hr'.lt
   subst eu
   clear ho ho' hr hr' pm gb itr hgr g' gA hRok rd ev hgk hx hdn
   generalize hq:R.length=nR at *
   generalize hq2:(lf.erase x).length=gl at *
   generalize hq3:(dn ++ R).length=nd2 at *
   generalize hq4:dn.length=nd at *
   clear hq hq2 hq3 hq4 eR
   go_wp2_with fail
   go_fit cC
   rintro e w3 ⟨v3,rfl,o3,g3⟩
   obtain ⟨g3',c3',g4,c4,w4,rfl,happ,RI⟩:=CT.out w3 v3 o3 g3
   have RI2:Hid _:=RI
   clear CT cC o3 g3 RI
   go_wp2_with (at_builtin;refine Lib.wpList_append_run _ rfl _ _ _ _ rfl _ _ rfl rfl _ _ happ ?_)
   go_roundg gl
   case measure=>exact hle
   case rel=>exact RI2.out
end Go.Proofs.YtcipdampcmfmaabGreat

namespace Go.Proofs.YtcipdampcmfmaabGreat
open Go.RowKit Go.Sort Go.Maps
set_option maxRecDepth 100000
set_option maxHeartbeats 2000000
theorem build_no {w:World} {v:Value} {rs:List Rw} (h:RdW w v rs) (hwf:Wf rs) (d A B seed:Int) (hz:flatE rs d ≠ 0) :
  Calls Tryz.prog 25 #[v,.int .i64 d,.int .i64 A,.int .i64 B,.int .u64 seed] w fun e w'=>e=.returned (.tuple #[.pointer none,.int .i64 (flatE rs d)])/\Gb w w':=by
 have cK:=fcheck_c h hwf d
 obtain ⟨a,cap,rfl,_⟩:=h
 have hz':(flatE rs d == 0)=false:=by rw [beq_eq_false_iff_ne];exact hz
 generalize flatE rs d=z at *
 generalize rs.length=n at *
 go_enter Tryz.func25,Tryz.ntmps25
 go_wp2_with fail
 go_fit cK
 rintro e w1 ⟨rfl,g1⟩
 have G:Hid (Gb w w1):=g1
 clear cK g1
 go_wp2
 refine bodyPost_ret (v:=.tuple #[.pointer none,.int .i64 z]) (by simp [results,Tryz.results25,go_sem]) rfl ?_
 exact ⟨rfl,G.out⟩
theorem build_arg {w:World} {v:Value} {rs:List Rw} (h:RdW w v rs) (hwf:Wf rs) (d A B seed:Int) (hz:flatE rs d=0) (hl:¬ (1<=A/\A<=64/\0<=B/\B<=20)) :
  Calls Tryz.prog 25 #[v,.int .i64 d,.int .i64 A,.int .i64 B,.int .u64 seed] w fun e w'=>e=.returned (.tuple #[.pointer none,.int .i64 1])/\Gb w w':=by
 have cK:=fcheck_c h hwf d
 rw [hz] at cK
 obtain ⟨a,cap,rfl,_⟩:=h
 generalize rs.length=n at *
 have hc:A < 1 ∨ (¬ A < 1/\64 < A) ∨ (¬ A < 1/\¬ 64 < A/\B < 0) ∨ (¬ A < 1/\¬ 64 < A/\¬ B < 0/\20 < B):=by omega
 clear hl hz hwf
 rcases hc with h1 | ⟨h1,h2⟩ | ⟨h1,h2,h3⟩ | ⟨h1,h2,h3,h4⟩
 all_goals
  go_enter Tryz.func25,Tryz.ntmps25
  go_wp2_with fail
  go_fit cK
  rintro e w1 ⟨rfl,g1⟩
  have G:Hid (Gb w w1):=g1
  clear cK g1
  go_wp2
  refine bodyPost_ret (v:=.tuple #[.pointer none,.int .i64 1]) (by simp [results,Tryz.results25,go_sem]) rfl ?_
  exact ⟨rfl,G.out⟩
theorem mkL (w:World):(Instr.makeMap 71 none).run Tryz.prog w=.ok (.map (some w.heap.size)) (w.alloc (.map #[] 0)):=by
 first | kernel_rfl | (simp [Instr.makeMap,run_underlying Tryz.underlying71,World.alloc];done) | rfl
theorem mkP (w:World):(Instr.makeMap 72 none).run Tryz.prog w=.ok (.map (some w.heap.size)) (w.alloc (.map #[] 0)):=by
 first | kernel_rfl | (simp [Instr.makeMap,run_underlying Tryz.underlying72,World.alloc];done) | rfl
def TreeOut (Iq:Nat->Prop) (w:World) (m A B:Nat) (S:Int) (rs:List Rw) (e:Ending) (w':World):Prop:=∃ tb rs' F,e=.returned (.tuple #[.pointer (some ⟨tb,0,none⟩),.int .i64 0])/\TreeAt Iq w' tb m (cenOf rs' m A B S) rs' F/\rs'.Perm rs/\Gb w w'/\∀ x ∈ F,w.heap.size<=x
theorem build_ok {Iq:Nat->Prop} {w:World} {v:Value} {rs:List Rw} (up:Up Iq w) (h:RdW w v rs) (hwf:Wf rs) {m A B:Nat} {S:Int} (us:Rn.U S) (hz:flatE rs (m:Int)=0) (hA:1<=A/\A<=64) (hB:B<=20) :
  Calls Tryz.prog 25 #[v,.int .i64 (m:Int),.int .i64 (A:Int),.int .i64 (B:Int),.int .u64 S] w fun e w'=>TreeOut Iq w m A B S rs e w':=by
 obtain ⟨hm0,hok⟩:=flatE_zero.1 hz
 have hm:1<=m/\m<=64:=by omega
 have cK:=fcheck_c h hwf (m:Int)
 rw [hz] at cK
 have CP:Hid (∀ W,Gb w W->Calls Tryz.prog 39 #[v] W fun e w'=>∃ v',e=.returned v'/\OwnC w' W.heap.size v' rs/\Gb W w'):=fun W g=>copies_c (h.gb g) (by have:=hok.few;omega) (fun i hi=>by
  have h1:=chk_ok (hok.row rs[i]! (by rw [getElem!_pos rs i hi];exact List.getElem_mem hi)).2
  omega)
 have HO:Hid (RowsOk rs (m:Int)):=hok
 obtain ⟨a,cap0,rfl,_⟩:=h
 generalize rs.length=n0 at cK CP ⊢
 have hl1:¬ (A:Int) < 1:=by omega
 have hl2:¬ (64:Int) < (A:Int):=by omega
 have hl3:¬ (B:Int) < 0:=by omega
 have hl4:¬ (20:Int) < (B:Int):=by omega
 have UP:Hid (Up Iq w):=up
 clear hwf hz hm0 hok up
 go_enter Tryz.func25,Tryz.ntmps25
 go_wp2_with fail
 go_fit cK
 rintro e w1 ⟨rfl,g1⟩
 have cP1:=CP.out w1 g1
 clear cK CP
 go_wp2_with fail
 go_fit cP1
 rintro e w2 ⟨v2,rfl,o2,g2⟩
 obtain ⟨g,cap,ev⟩:=o2.form
 have cS:=sorted_c o2 HO.out
 subst ev
 have H1:Hid (Gb w w1/\Gb w1 w2/\w1.heap.size<=g):=⟨g1,g2,by obtain ⟨_,xs,hx,_⟩:=o2;exact (hx.lt g rfl).1⟩
 clear cP1 o2 g1 g2
 go_wp2_with fail
 go_fit cS
 rintro e w3 ⟨rfl,rs',pm,ris,o3,k3⟩
 obtain ⟨g1,g2,hgB⟩:=H1.out
 have G3:Gb w w3:=by
  have gb:=gb_trans g1 g2
  have s1:=g1.size
  refine ⟨k3.os.trans gb.os,k3.tape.trans gb.tape,k3.output.trans gb.output,Nat.le_trans gb.size k3.size,fun k hk=>(k3.block k (Nat.lt_of_lt_of_le hk gb.size) (fun e=>?_)).trans (gb.block k hk)⟩
  have e':g=k:=by simpa [Value.ownBlock] using e
  omega
 have hok':RowsOk rs' (m:Int):=RowsOk.perm HO.out pm.symm
 have hl':rs'.length=rs.length:=pm.length_eq
 have cC:=centresOf_c (S:=S) (UP.out.gb G3) o3.rdw hm hok' hA hB us
 have H3:Hid (Gb w w3/\OwnC w3 w1.heap.size (.slice (some ⟨g,0,none⟩) rs.length cap) rs'/\rs'.Perm rs/\Ris rs'/\RowsOk rs' (m:Int)/\rs'.length=rs.length/\w.heap.size<=w1.heap.size):=⟨G3,o3,pm,ris,hok',hl',g1.size⟩
 obtain ⟨C,hC⟩:∃ C,C=cenOf rs' m A B S:=⟨_,rfl⟩
 rw [<- hC] at cC
 have HC:Hid (C=cenOf rs' m A B S):=hC
 have HM:Hid ((1<=m/\m<=64)/\(1<=A/\A<=64)/\B<=20):=⟨hm,hA,hB⟩
 generalize rs.length=n at *
 clear cS k3 o3 pm ris G3 hok' hl' hC g1 g2 hgB H1 HO us
 go_wp2_with fail
 go_fit cC
 rintro e w4 ⟨gc,cc,rfl,cq,g4,hgc⟩
 have H4:Hid (CenQ Iq w4 gc C/\Gb w3 w4/\w3.heap.size<=gc):=⟨cq,g4,hgc⟩
 have LO:Hid (Calls Tryz.prog 49 #[.pointer (some ⟨w4.heap.size + 1 + 1,0,none⟩),.slice (some ⟨g,0,none⟩) n cap] (((w4.alloc (.map #[] 0)).alloc (.map #[] 0)).alloc (.cells #[.int .i64 (m:Int),.slice (some ⟨gc,0,none⟩) C.length cc,.map (some w4.heap.size),.map (some (w4.heap.size + 1))] 74)) fun e w'=>e=.returned (.tuple #[])/\Hid (TreeOut Iq w m A B S rs (.returned (.tuple #[.pointer (some ⟨w4.heap.size + 1 + 1,0,none⟩),.int .i64 0])) w')):=by
  obtain ⟨G3,o3,pm,ris,hok',hl',s1⟩:=H3.out
  obtain ⟨hm,hA,hB⟩:=HM.out
  obtain ⟨d,hd,hown,hvec⟩:=o3.rt
  have hdl:d.length=n:=by rw [<- hl',<- hd,List.length_map]
  have ga:Gb w4 (((w4.alloc (.map #[] 0)).alloc (.map #[] 0)).alloc (.cells #[.int .i64 (m:Int),.slice (some ⟨gc,0,none⟩) C.length cc,.map (some w4.heap.size),.map (some (w4.heap.size + 1))] 74)):=gb_alloc (gb_alloc (gb_alloc (Below.refl _ _) _) _) _
  have G4:Gb w w4:=gb_trans G3 g4
  have g36:=gb_trans g4 ga
  have e1:(w4.alloc (.map #[] 0)).heap.size=w4.heap.size + 1:=by rw [World.size_alloc]
  have e2:((w4.alloc (.map #[] 0)).alloc (.map #[] 0)).heap.size=w4.heap.size + 1 + 1:=by rw [World.size_alloc,e1]
  have b6:(((w4.alloc (.map #[] 0)).alloc (.map #[] 0)).alloc (.cells #[.int .i64 (m:Int),.slice (some ⟨gc,0,none⟩) C.length cc,.map (some w4.heap.size),.map (some (w4.heap.size + 1))] 74)).heap[w4.heap.size + 1 + 1]? = some (.cells #[.int .i64 (m:Int),.slice (some ⟨gc,0,none⟩) C.length cc,.map (some w4.heap.size),.map (some (w4.heap.size + 1))] 74 (0,0)):=by
   have:=heap_alloc_new ((w4.alloc (.map #[] 0)).alloc (.map #[] 0)) (.cells #[.int .i64 (m:Int),.slice (some ⟨gc,0,none⟩) C.length cc,.map (some w4.heap.size),.map (some (w4.heap.size + 1))] 74)
   rw [e2] at this
   exact this
  have m1:∀ f,MapA Tryz.prog 3 (w4.alloc (.map #[] 0)) w4.heap.size [] f:=fun f=>MapA.new w4 f
  have m2:∀ f,MapA Tryz.prog 3 ((w4.alloc (.map #[] 0)).alloc (.map #[] 0)) (w4.heap.size + 1) [] f:=fun f=>by
   have:=MapA.new (P:=Tryz.prog) (kt:=3) (w4.alloc (.map #[] 0)) f
   rw [e1] at this
   exact this
  have g46:Gb (w4.alloc (.map #[] 0)) (((w4.alloc (.map #[] 0)).alloc (.map #[] 0)).alloc (.cells #[.int .i64 (m:Int),.slice (some ⟨gc,0,none⟩) C.length cc,.map (some w4.heap.size),.map (some (w4.heap.size + 1))] 74)):=gb_alloc (gb_alloc (Below.refl _ _) _) _
  have g56:Gb ((w4.alloc (.map #[] 0)).alloc (.map #[] 0)) (((w4.alloc (.map #[] 0)).alloc (.map #[] 0)).alloc (.cells #[.int .i64 (m:Int),.slice (some ⟨gc,0,none⟩) C.length cc,.map (some w4.heap.size),.map (some (w4.heap.size + 1))] 74)):=gb_alloc (Below.refl _ _) _
  have co:=cen_ok (S:=S) hm hok' hA hB
  rw [<- HC.out] at co
  rw [<- hdl] at hown ⊢
  have LI:LayIn Iq (((w4.alloc (.map #[] 0)).alloc (.map #[] 0)).alloc (.cells #[.int .i64 (m:Int),.slice (some ⟨gc,0,none⟩) C.length cc,.map (some w4.heap.size),.map (some (w4.heap.size + 1))] 74)) (w4.heap.size + 1 + 1) m C gc cc w4.heap.size (w4.heap.size + 1) g cap d:=by
   refine ⟨b6,cq.kq (kpF ga) (NoI.of (noF _)) (fun h=>h),fun f=>(m1 f).same (g46.block _ (m1 f).lt),fun f=>(m2 f).same (g56.block _ (m2 f).lt),by omega,?_,fun x hx=>?_,by rw [hd];exact ris,by rw [hd];exact hok',co,hm,(UP.out.gb G4).gb ga⟩
   ·exact (PcR.own hown).blk (g36.block _ (PcR.own hown).lt)
   ·exact (OwnQ.new (hvec x hx) UP.out s1).gb g36
  refine (layOut_c LI).mono ?_
  rintro e w' ⟨rfl,F,t,hF,k⟩
  rw [hd] at t
  have sz3:=G3.size
  have sz4:=g4.size
  have hgB:w1.heap.size<=g:=(hown.lt g rfl).1
  refine ⟨rfl,w4.heap.size + 1 + 1,rs',F,rfl,by rw [<- HC.out];exact t,pm,?_,fun x hx=>?_⟩
  ·have gw6:=gb_trans G4 ga
   refine ⟨k.os.trans gw6.os,k.tape.trans gw6.tape,k.output.trans gw6.output,Nat.le_trans gw6.size k.size,fun b hb=>(k.block b (Nat.lt_of_lt_of_le hb gw6.size) (fun e=>?_)).trans (gw6.block b hb)⟩
   omega
  ·rcases hF x hx with h | h | h | h | h <;> omega
 have L:=LO.out
 clear cC cq g4 hgc LO H3 H4
 generalize hW6:((w4.alloc (.map #[] 0)).alloc (.map #[] 0)).alloc (.cells #[.int .i64 (m:Int),.slice (some ⟨gc,0,none⟩) C.length cc,.map (some w4.heap.size),.map (some (w4.heap.size + 1))] 74)=W6 at L
 have q1:=mkL w4
 have q2:=mkP (w4.alloc (.map #[] 0))
 rw [World.size_alloc] at q2
 go_wp2_with fail
 try rw [hW6]
 clear hW6
 go_fit L
 rintro e w7 ⟨rfl,hT⟩
 have TT:Hid (TreeOut Iq w m A B S rs (.returned (.tuple #[.pointer (some ⟨w4.heap.size + 1 + 1,0,none⟩),.int .i64 0])) w7):=hT
 clear L hT
 go_wp2
 refine bodyPost_ret (v:=.tuple #[.pointer (some ⟨w4.heap.size + 1 + 1,0,none⟩),.int .i64 0]) (by simp [results,Tryz.results25,go_sem]) rfl ?_
 exact TT.out
end Go.Proofs.YtcipdampcmfmaabGreat
