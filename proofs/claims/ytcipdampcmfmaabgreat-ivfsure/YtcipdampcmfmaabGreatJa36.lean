import Derived.Test.YtcipdampcmfmaabGreatJaIvLk
import Derived.Test.YtcipdampcmfmaabGreatJa4
namespace Go.Proofs.YtcipdampcmfmaabGreat
open Go.RowKit Go.Sort Go.Maps
set_option maxRecDepth 100000
set_option maxHeartbeats 2000000
theorem full_has {w:World} {hb k:Nat} {v:Value} {m:List Tk.Ht} (h:Tk.Has w hb k v m):Calls Tryz.prog 92 #[.pointer (some ⟨hb,0,none⟩)] w fun e w'=>e=.returned (.bool (decide (m.length=k)))/\Tk.Gw w w':=by
 obtain ⟨d,hp,_,pm,_⟩:=h
 have hd:d.size=m.length:=by have:=pm.length_eq;simpa using this
 have c0:=hp.cell0
 have c1:=hp.cell1
 obtain ⟨a,cap,e⟩:=hp.form
 rw [hd] at e
 subst e
 have G:Hid (Tk.Gw w w.drew):=(Tk.Gw.refl w).drew
 have hb2:((m.length:Int) == (k:Int))=decide (m.length=k):=by
  by_cases e:m.length=k
  ·rw [decide_eq_true e,e];simp
  ·rw [decide_eq_false e,beq_eq_false_iff_ne];omega
 generalize m.length=n at *
 generalize decide (n=k)=r at *
 clear hp pm hd
 go_enter Tryz.func92,Tryz.ntmps92
 go_wp2
 go_region
 all_goals
  go_wp2
  go_ret
  exact ⟨by simp [],G.out⟩
theorem cw_hl (a b:Nat):Tk.cw (hi a) (lo a) (hi b) (lo b)=if a=b then 0 else if a < b then -1 else 1:=by
 by_cases e:a=b
 ·subst e;unfold Tk.cw;rw [if_pos ⟨rfl,rfl⟩,if_pos rfl]
 ·have hne:¬ (hi a=hi b/\lo a=lo b):=by unfold hi lo;omega
  rw [if_neg e];unfold Tk.cw;rw [if_neg hne]
  by_cases l:a < b
  ·rw [if_pos l,if_pos (by unfold hi lo;omega)]
  ·rw [if_neg l,if_neg (by unfold hi lo;omega)]
theorem isBeyond_c {Z w0 W:World} {sb hb k:Nat} {vq:Value} {q:List Int} {s:SV} {vs vr vh:Value} (h:SA Z w0 W sb hb k vq q s vs vr vh) {r:Reg} {vl vx vi vw:Value} (hL:RdI w0 vl r.L) (hH:RdI w0 vx r.H) (hI:RdI w0 vi r.I) (hw:∃ a n c,vw=.slice a n c) (hR:r.R < 340282366920938463463374607431768211456) (hlen:r.I.length<=512) (hck:ckB r q=0) :
  Calls Tryz.prog 62 #[.pointer (some ⟨sb,0,none⟩),lv r vl vx vi vw] W fun e W'=>e=.returned (.bool (beyB q k s.seen r))/\Gb W W':=by
 obtain ⟨ar,nr,cr,rfl⟩:=hw
 obtain ⟨m,hm⟩:∃ m,m=Tk.firsts k (hitsOf q s.seen):=⟨_,rfl⟩
 have hform:∀ x ∈ m,x.2.1=hi (dnH x)/\x.2.2=lo (dnH x):=fun x hx=>by
  rw [hm] at hx
  obtain ⟨r,_,rfl⟩:=chit_form hx
  rw [cdn_hit]
  exact ⟨rfl,rfl⟩
 have hk1:1<=k:=by obtain ⟨d,_,_,_,_,_,hk,_⟩:=h.has;exact hk
 have hbe:beyB q k s.seen r=(decide (m.length=k) && decide (dnH m[k - 1]! < bdV r q)):=by unfold beyB;rw [<- hm]
 rw [hbe]
 have hbd:bndV r q=bdV r q:=by unfold bndV;rw [if_pos hck]
 have hqr:=h.q
 obtain ⟨qa,qc,eq,_⟩:=h.q
 have CB0:∀ W2,Gb w0 W2->Calls Tryz.prog 91 #[rv r vl vx vi,vq] W2 fun e w'=>e=.returned (.tuple #[.agg #[.int .u64 (hi (bdV r q)),.int .u64 (lo (bdV r q))],.int .i64 0])/\Gb W2 w':=fun W2 g=>by
  have:=bound_c (v:=rv r vl vx vi) ⟨vl,vx,vi,rfl,hL.gb g,hH.gb g,hI.gb g⟩ (hqr.gb g) (by omega) hR
  rw [hck,hbd] at this
  exact this.mono fun e w' hh=>⟨hh.1,hh.2.gb⟩
 obtain ⟨al,cl,el,_⟩:=hL
 obtain ⟨ah,ch,eh,_⟩:=hH
 obtain ⟨ai,ci,ei,_⟩:=hI
 have HA:=fun V (g:Gb W V)=>(h.grow g)
 have c01:=h.cells
 have hG0:=h.gb
 subst el eh ei eq
 unfold lv
 unfold rv at CB0
 generalize r.L.length=nl at *
 generalize r.H.length=nh at *
 generalize r.I.length=ni at *
 generalize hi r.R=rh at *
 generalize lo r.R=ro at *
 generalize r.S=S at *
 generalize q.length=nq at *
 have gA:Gb W (W.alloc (.cells #[.int .i64 S,.slice al nl cl,.slice ah nh ch,.int .u64 rh,.int .u64 ro,.slice ai ni ci,.slice ar nr cr] 100)):=gb_alloc (Below.refl _ _) _
 have WR:Hid (∃ x:Tk.Ht,(Calls Tryz.prog 90 #[.pointer (some ⟨hb,0,none⟩)] (W.alloc (.cells #[.int .i64 S,.slice al nl cl,.slice ah nh ch,.int .u64 rh,.int .u64 ro,.slice ai ni ci,.slice ar nr cr] 100)) fun e w'=>(∃ b,e=.returned (.tuple #[.agg #[.int .i64 x.1,.int .u64 x.2.1,.int .u64 x.2.2],.bool b]))/\Gb (W.alloc (.cells #[.int .i64 S,.slice al nl cl,.slice ah nh ch,.int .u64 rh,.int .u64 ro,.slice ai ni ci,.slice ar nr cr] 100)) w') /\
   (m.length=k->x.2.1=hi (dnH m[k - 1]!)/\x.2.2=lo (dnH m[k - 1]!))):=by
  have hh:=(HA _ gA).has
  rw [<- hm] at hh
  by_cases h0:0 < m.length
  ·refine ⟨m[m.length - 1]!,(Tk.worst_has hh h0).mono fun e w' he=>⟨⟨true,he.1⟩,he.2⟩,fun e=>?_⟩
   rw [e]
   exact hform _ (by rw [getElem!_pos m (k - 1) (by omega)];exact List.getElem_mem _)
  ·exact ⟨⟨0,0,0⟩,(Tk.worst_has_none hh (by omega)).mono fun e w' he=>⟨⟨false,he.1⟩,he.2⟩,fun e=>by omega⟩
 obtain ⟨x,cW,hx⟩:=WR.out
 obtain ⟨xi,xh,xl⟩:=x
 dsimp only at cW hx
 obtain ⟨B,hB⟩:∃ B,B=bdV r q:=⟨_,rfl⟩
 rw [<- hB] at CB0
 rw [<- hB]
 have CW:m.length=k->∀ w,Calls Tryz.prog 54 #[.agg #[.int .u64 (hi B),.int .u64 (lo B)],.agg #[.int .u64 xh,.int .u64 xl]] w fun e w'=>(∃ z:Int,e=.returned (.int .i64 z)/\decide (0 < z)=decide (dnH m[k - 1]! < B))/\Tk.Gw w w':=fun e w=>by
  refine (Tk.cmpw _ _ _ _ w).mono ?_
  rintro e' w' ⟨rfl,g⟩
  refine ⟨⟨_,rfl,?_⟩,g⟩
  rw [(hx e).1,(hx e).2,cw_hl]
  by_cases a:B=dnH m[k - 1]!
  ·rw [if_pos a,decide_eq_false (by decide),decide_eq_false (by omega)]
  ·rw [if_neg a]
   by_cases b:B < dnH m[k - 1]!
   ·rw [if_pos b,decide_eq_false (by decide),decide_eq_false (by omega)]
   ·rw [if_neg b,decide_eq_true (by decide),decide_eq_true (by omega)]
 generalize decide (dnH m[k - 1]! < B)=r9 at *
 generalize hi B=bh at *
 generalize lo B=bl at *
 have PX:∀ w1,Gb (W.alloc (.cells #[.int .i64 S,.slice al nl cl,.slice ah nh ch,.int .u64 rh,.int .u64 ro,.slice ai ni ci,.slice ar nr cr] 100)) w1->∀ bb wx,Gb (w1.alloc (.cells #[.int .i64 xi,.int .u64 xh,.int .u64 xl] 58)) wx->wx.cell? ⟨bb,0,none⟩=some (.int .u64 bh)->wx.cell? ⟨bb,1,none⟩=some (.int .u64 bl) ->
   (Calls Tryz.prog 92 #[.pointer (some ⟨hb,0,none⟩)] wx fun e w'=>e=.returned (.bool (decide (m.length=k)))/\Tk.Gw wx w')/\wx.cell? ⟨sb,1,none⟩=some (.pointer (some ⟨hb,0,none⟩)) /\
   Hid (∀ w3,Tk.Gw wx w3->Gb W w3/\w3.cell? ⟨bb,0,none⟩=some (.int .u64 bh)/\w3.cell? ⟨bb,1,none⟩=some (.int .u64 bl)/\w3.cell? ⟨w1.heap.size,1,none⟩=some (.int .u64 xh)/\w3.cell? ⟨w1.heap.size,2,none⟩=some (.int .u64 xl) /\
    (m.length=k->Calls Tryz.prog 54 #[.agg #[.int .u64 bh,.int .u64 bl],.agg #[.int .u64 xh,.int .u64 xl]] w3 fun e w'=>(∃ z:Int,e=.returned (.int .i64 z)/\decide (0 < z)=r9)/\Tk.Gw w3 w')):=fun w1 g1 bb wx gx a0 a1=>by
  have gW:Gb W wx:=gb_trans gA (gb_trans (gb_alloc g1 _) gx)
  have hS:=HA wx gW
  have hF:=full_has hS.has
  rw [<- hm] at hF
  refine ⟨hF,hS.cells.2.1,fun w3 g3=>⟨gb_trans gW g3.gr,gb_keeps g3.gr a0,gb_keeps g3.gr a1,gb_keeps g3.gr (gb_keeps gx (by simp [go_sem])),gb_keeps g3.gr (gb_keeps gx (by simp [go_sem])),fun hk=>CW hk w3⟩⟩
 have PY:Hid (∀ w1 V,Gb (W.alloc (.cells #[.int .i64 S,.slice al nl cl,.slice ah nh ch,.int .u64 rh,.int .u64 ro,.slice ai ni ci,.slice ar nr cr] 100)) w1->V=w1.alloc (.cells #[.int .i64 xi,.int .u64 xh,.int .u64 xl] 58) ->
   Hid (∀ W2,Gb V W2->Calls Tryz.prog 91 #[.agg #[.int .i64 S,.slice al nl cl,.slice ah nh ch,.int .u64 rh,.int .u64 ro,.slice ai ni ci],.slice qa nq qc] W2 fun e w'=>e=.returned (.tuple #[.agg #[.int .u64 bh,.int .u64 bl],.int .i64 0])/\Gb W2 w') /\
   Hid (∀ W2,Gb V W2->W2.cell? ⟨sb,0,none⟩=some (.slice qa nq qc)/\W2.cell? ⟨W.heap.size,0,none⟩=some (.int .i64 S)/\W2.cell? ⟨W.heap.size,1,none⟩=some (.slice al nl cl)/\W2.cell? ⟨W.heap.size,2,none⟩=some (.slice ah nh ch)/\W2.cell? ⟨W.heap.size,3,none⟩=some (.int .u64 rh)/\W2.cell? ⟨W.heap.size,4,none⟩=some (.int .u64 ro)/\W2.cell? ⟨W.heap.size,5,none⟩=some (.slice ai ni ci)) /\
   Hid (∀ w2,Gb V w2->(Calls Tryz.prog 92 #[.pointer (some ⟨hb,0,none⟩)] (w2.alloc (.cells #[.int .u64 bh,.int .u64 bl] 40)) fun e w'=>e=.returned (.bool (decide (m.length=k)))/\Tk.Gw (w2.alloc (.cells #[.int .u64 bh,.int .u64 bl] 40)) w')/\(w2.alloc (.cells #[.int .u64 bh,.int .u64 bl] 40)).cell? ⟨sb,1,none⟩=some (.pointer (some ⟨hb,0,none⟩)) /\
    Hid (∀ w3,Tk.Gw (w2.alloc (.cells #[.int .u64 bh,.int .u64 bl] 40)) w3->Gb W w3/\w3.cell? ⟨w2.heap.size,0,none⟩=some (.int .u64 bh)/\w3.cell? ⟨w2.heap.size,1,none⟩=some (.int .u64 bl)/\w3.cell? ⟨w1.heap.size,1,none⟩=some (.int .u64 xh)/\w3.cell? ⟨w1.heap.size,2,none⟩=some (.int .u64 xl) /\
    (m.length=k->Calls Tryz.prog 54 #[.agg #[.int .u64 bh,.int .u64 bl],.agg #[.int .u64 xh,.int .u64 xl]] w3 fun e w'=>(∃ z:Int,e=.returned (.int .i64 z)/\decide (0 < z)=r9)/\Tk.Gw w3 w'))) /\
   Hid (∀ w2,Gb (V.drew.alloc (.cells #[.int .u64 0,.int .u64 0] 40)) w2->(∃ y,w2.cell? ⟨V.heap.size,0,none⟩=some y)/\(∃ y,w2.cell? ⟨V.heap.size,1,none⟩=some y)/\w2.frozen? ⟨V.heap.size,0,none⟩=false/\w2.frozen? ⟨V.heap.size,1,none⟩=false /\
    Hid ((Calls Tryz.prog 92 #[.pointer (some ⟨hb,0,none⟩)] ((w2.setCell ⟨V.heap.size,0,none⟩ (.int .u64 bh)).setCell ⟨V.heap.size,1,none⟩ (.int .u64 bl)) fun e w'=>e=.returned (.bool (decide (m.length=k)))/\Tk.Gw ((w2.setCell ⟨V.heap.size,0,none⟩ (.int .u64 bh)).setCell ⟨V.heap.size,1,none⟩ (.int .u64 bl)) w')/\((w2.setCell ⟨V.heap.size,0,none⟩ (.int .u64 bh)).setCell ⟨V.heap.size,1,none⟩ (.int .u64 bl)).cell? ⟨sb,1,none⟩=some (.pointer (some ⟨hb,0,none⟩)) /\
    Hid (∀ w3,Tk.Gw ((w2.setCell ⟨V.heap.size,0,none⟩ (.int .u64 bh)).setCell ⟨V.heap.size,1,none⟩ (.int .u64 bl)) w3->Gb W w3/\w3.cell? ⟨V.heap.size,0,none⟩=some (.int .u64 bh)/\w3.cell? ⟨V.heap.size,1,none⟩=some (.int .u64 bl)/\w3.cell? ⟨w1.heap.size,1,none⟩=some (.int .u64 xh)/\w3.cell? ⟨w1.heap.size,2,none⟩=some (.int .u64 xl) /\
    (m.length=k->Calls Tryz.prog 54 #[.agg #[.int .u64 bh,.int .u64 bl],.agg #[.int .u64 xh,.int .u64 xl]] w3 fun e w'=>(∃ z:Int,e=.returned (.int .i64 z)/\decide (0 < z)=r9)/\Tk.Gw w3 w'))))):=fun w1 V g1 eV=>by
  subst eV
  have gV:Gb W (w1.alloc (.cells #[.int .i64 xi,.int .u64 xh,.int .u64 xl] 58)):=gb_trans gA (gb_alloc g1 _)
  have gX:Gb (W.alloc (.cells #[.int .i64 S,.slice al nl cl,.slice ah nh ch,.int .u64 rh,.int .u64 ro,.slice ai ni ci,.slice ar nr cr] 100)) (w1.alloc (.cells #[.int .i64 xi,.int .u64 xh,.int .u64 xl] 58)):=gb_alloc g1 _
  refine ⟨fun W2 g=>CB0 W2 (gb_trans hG0 (gb_trans gV g)),fun W2 g=>?_,fun w2 g=>?_,fun w2 g=>?_⟩
  ·have gg:=gb_trans gX g
   exact ⟨gb_keeps (gb_trans gV g) c01.1,gb_keeps gg (by simp [go_sem]),gb_keeps gg (by simp [go_sem]),gb_keeps gg (by simp [go_sem]),gb_keeps gg (by simp [go_sem]),gb_keeps gg (by simp [go_sem]),gb_keeps gg (by simp [go_sem])⟩
  ·exact PX w1 g1 w2.heap.size _ (gb_alloc g _) (by simp [go_sem]) (by simp [go_sem])
  ·generalize hV:w1.alloc (.cells #[.int .i64 xi,.int .u64 xh,.int .u64 xl] 58)=V at *
   have hb0:w2.heap[V.heap.size]? = some (.cells #[.int .u64 0,.int .u64 0] 40 (0,0)):=by
    rw [g.block V.heap.size (by simp [World.size_alloc])]
    have:=heap_new V.drew (.cells #[.int .u64 0,.int .u64 0] 40)
    simpa [World.size_alloc] using this
   have gVw:Gb V w2:=gb_trans (gb_alloc (Below.refl _ _).drew _) g
   refine ⟨⟨_,cell_cur hb0 rfl⟩,⟨_,cell_cur hb0 rfl⟩,by simp [World.frozen?,hb0],by simp [World.frozen?,hb0],?_⟩
   have:=PX w1 g1 V.heap.size ((w2.setCell ⟨V.heap.size,0,none⟩ (.int .u64 bh)).setCell ⟨V.heap.size,1,none⟩ (.int .u64 bl)) (by rw [hV];exact gb_set (gb_set gVw (Nat.le_refl _) _) (Nat.le_refl _) _) (by simp [World.cell?,World.setCell,Array.getElem?_modify,hb0]) (by simp [World.cell?,World.setCell,Array.getElem?_modify,hb0])
   exact this
 clear PX CW CB0 HA hx WR hform hbe hm hk1 hbd hqr hck hR hlen hG0 hB h
 obtain ⟨_,x1,_⟩:=c01
 have y1:=gb_keeps gA x1
 have slt:sb < W.heap.size:=cell_lt x1
 clear gA x1
 go_enter Tryz.func62,Tryz.ntmps62
 go_wp2_with fail
 go_fit cW
 rintro e w1 ⟨⟨b,rfl⟩,g1⟩
 obtain ⟨V,eV⟩:∃ V,V=w1.alloc (.cells #[.int .i64 xi,.int .u64 xh,.int .u64 xl] 58):=⟨_,rfl⟩
 obtain ⟨CB,FA,PA,PB⟩:=PY.out w1 V g1 eV
 clear cW PY y1 g1
 go_wp2_with fail
 rw [<- eV]
 clear eV
 refine wp_region_held_drew (S:=fun W2=>Gb V W2) (by kernel_rfl) ((Below.refl _ _).drew) (fun hHeld=>?_)
 refine tkn 0 ?_ rfl ?_ ?_;rotate_left;·(intro w hSw;obtain ⟨y0,y1,y2,y3,y4,y5,y6⟩:=FA.out w hSw;go_simp;try rfl)
 refine tkn 1 ?_ rfl ?_ ?_;rotate_left;·(intro w hSw;obtain ⟨y0,y1,y2,y3,y4,y5,y6⟩:=FA.out w hSw;go_simp;try rfl)
 refine tkn 2 ?_ rfl ?_ ?_;rotate_left;·(intro w hSw;obtain ⟨y0,y1,y2,y3,y4,y5,y6⟩:=FA.out w hSw;go_simp;try rfl)
 refine tkn 3 ?_ rfl ?_ ?_;rotate_left;·(intro w hSw;obtain ⟨y0,y1,y2,y3,y4,y5,y6⟩:=FA.out w hSw;go_simp;try rfl)
 refine tkn 4 ?_ rfl ?_ ?_;rotate_left;·(intro w hSw;obtain ⟨y0,y1,y2,y3,y4,y5,y6⟩:=FA.out w hSw;go_simp;try rfl)
 refine tkn 5 ?_ rfl ?_ ?_;rotate_left;·(intro w hSw;obtain ⟨y0,y1,y2,y3,y4,y5,y6⟩:=FA.out w hSw;go_simp;try rfl)
 refine wpAnyH_ready (rs:=[6,10]) (by kernel_rfl) (by simp) ?_
 refine AllReadyH.cons rfl (fun K hK=>?_) (AllReadyH.cons rfl (fun K hK=>?_) AllReadyH.nil)
 ·go_simp
  go_fit (CB.out _ (Below.refl _ _).drew)
  rintro e w2 ⟨rfl,g2⟩
  have g2V:Gb V w2:=gb_trans (Below.refl _ _).drew g2
  refine hK.out _ _ g2V (fun hHeld=>?_)
  clear hK K
  refine tkn 7 ?_ rfl ?_ ?_;rotate_left;·(intro w hSw;(skip);go_simp;try rfl)
  refine tkn 8 ?_ rfl ?_ ?_;rotate_left;·(intro w hSw;(skip);go_simp;try rfl)
  refine tkn 9 ?_ rfl ?_ ?_;rotate_left;·(intro w hSw;(skip);go_simp;try rfl)
  refine rdn 10 rfl (fun K hK=>?_)
  go_simp
  refine hK.out _ _ (gb_alloc hHeld _) (fun hHeld=>?_)
  clear hK K
  refine rdn 11 rfl (fun K hK=>?_)
  go_simp
  refine hK.out _ _ (gb_alloc g2V _) (fun hHeld=>?_)
  clear hK K
  refine tkn 12 ?_ rfl ?_ ?_;rotate_left;·(intro w hSw;(skip);go_simp;try rfl)
  refine wpAnyH_done (by kernel_rfl) ?_ _
  have PF:=PA.out w2 g2V
  clear hHeld g2 g2V CB FA PA PB
  obtain ⟨cF,d1,C3⟩:=PF
  go_wp2_with fail
  go_fit cF
  rintro e w3 ⟨rfl,g3⟩
  obtain ⟨G3,e0,e1,e2,e3,cC⟩:=C3.out w3 g3
  have GG:Hid (Gb W w3):=G3
  clear cF C3 g3 d1 G3
  by_cases hk:m.length=k
  ·rw [decide_eq_true hk]
   have cC2:=cC hk
   have HK:Hid (decide (m.length=k)=true):=decide_eq_true hk
   clear cC hk
   go_wp2_with fail
   go_fit cC2
   rintro e w4 ⟨⟨z,rfl,hz⟩,g4⟩
   have G4:Hid (Gb W w4):=gb_trans GG.out g4.gr
   have HZ:Hid (decide (0 < z)=r9):=hz
   clear cC2 g4 GG hz
   go_wp2
   go_ret
   exact ⟨by rw [<- HZ.out];simp [HK.out],G4.out⟩
  ·have HK:Hid (decide (m.length=k)=false):=decide_eq_false hk
   rw [decide_eq_false hk]
   clear hk cC
   go_wp2
   go_ret
   exact ⟨by simp [HK.out],GG.out⟩
 ·go_simp
  refine hK.out _ _ (gb_alloc hHeld _) (fun hHeld=>?_)
  clear hK K
  refine rdn 6 rfl (fun K hK=>?_)
  go_simp
  go_fit (CB.out _ (gb_alloc (Below.refl _ _).drew _))
  rintro e w2 ⟨rfl,g2⟩
  obtain ⟨⟨z0,k0⟩,⟨z1,k1⟩,f0,f1,PF0⟩:=PB.out w2 g2
  have g2V:Gb V w2:=gb_trans (gb_alloc (Below.refl _ _).drew _) g2
  refine hK.out _ _ g2V (fun hHeld=>?_)
  clear hK K
  refine tkn 7 ?_ rfl ?_ ?_;rotate_left;·(intro w hSw;(skip);go_simp;try rfl)
  refine tkn 8 ?_ rfl ?_ ?_;rotate_left;·(intro w hSw;(skip);go_simp;try rfl)
  refine tkn 9 ?_ rfl ?_ ?_;rotate_left;·(intro w hSw;(skip);go_simp;try rfl)
  refine rdn 11 rfl (fun K hK=>?_)
  go_simp
  refine hK.out _ _ (gb_set (gb_set g2V (Nat.le_refl _) _) (Nat.le_refl _) _) (fun hHeld=>?_)
  clear hK K
  refine tkn 12 ?_ rfl ?_ ?_;rotate_left;·(intro w hSw;(skip);go_simp;try rfl)
  refine wpAnyH_done (by kernel_rfl) ?_ _
  have PF:=PF0.out
  clear hHeld g2 g2V CB FA PA PB k0 k1 f0 f1 PF0
  obtain ⟨cF,d1,C3⟩:=PF
  go_wp2_with fail
  go_fit cF
  rintro e w3 ⟨rfl,g3⟩
  obtain ⟨G3,e0,e1,e2,e3,cC⟩:=C3.out w3 g3
  have GG:Hid (Gb W w3):=G3
  clear cF C3 g3 d1 G3
  by_cases hk:m.length=k
  ·rw [decide_eq_true hk]
   have cC2:=cC hk
   have HK:Hid (decide (m.length=k)=true):=decide_eq_true hk
   clear cC hk
   go_wp2_with fail
   go_fit cC2
   rintro e w4 ⟨⟨z,rfl,hz⟩,g4⟩
   have G4:Hid (Gb W w4):=gb_trans GG.out g4.gr
   have HZ:Hid (decide (0 < z)=r9):=hz
   clear cC2 g4 GG hz
   go_wp2
   go_ret
   exact ⟨by rw [<- HZ.out];simp [HK.out],G4.out⟩
  ·have HK:Hid (decide (m.length=k)=false):=decide_eq_false hk
   rw [decide_eq_false hk]
   clear hk cC
   go_wp2
   go_ret
   exact ⟨by simp [HK.out],GG.out⟩
end Go.Proofs.YtcipdampcmfmaabGreat

namespace Go.Proofs.YtcipdampcmfmaabGreat
open Go.RowKit Go.Sort Go.Maps
theorem rdi_from {w:World} {b o n c:Nat} {l:List Int} (h:RdI w (.slice (some ⟨b,o,none⟩) n c) l) (j:Nat) (hj:j<=l.length) (c':Nat):RdI w (.slice (some ⟨b,o + j,none⟩) (n - j) c') (l.drop j):=by
 obtain ⟨a,c0,e,hc⟩:=h
 injection e with e1 e2 e3
 subst e1 e2
 refine ⟨_,c',by rw [List.length_drop],fun i hi=>?_⟩
 rw [List.length_drop] at hi
 obtain ⟨b',o',ea,hcell⟩:=hc (j + i) (by omega)
 injection ea with ea
 injection ea with ea1 ea2 _
 subst ea1 ea2
 refine ⟨b,o + j,rfl,?_⟩
 rw [getElem!_pos (l.drop j) i (by rw [List.length_drop];omega),List.getElem_drop,<- getElem!_pos l (j + i) (by omega),Nat.add_assoc]
 exact hcell
theorem rdw_at {w:World} {b o n c:Nat} {rs:List Rw} (h:RdW w (.slice (some ⟨b,o,none⟩) n c) rs) {i:Nat} (hi:i < rs.length):∃ u,w.cell? ⟨b,o + i * 2,none⟩=some (.int .i64 rs[i]!.1)/\w.cell? ⟨b,o + i * 2 + 1,none⟩=some u/\RdI w u rs[i]!.2:=by
 obtain ⟨a,c0,e,hc⟩:=h
 injection e with e1 e2 e3
 subst e1
 obtain ⟨b',o',u,ea,h1,h2,h3⟩:=hc i hi
 injection ea with ea
 injection ea with ea1 ea2 _
 subst ea1 ea2
 exact ⟨u,h1,h2,h3⟩
theorem SA.left {Z w0 W:World} {sb hb k:Nat} {vq:Value} {q:List Int} {s:SV} {vs vr vh:Value} (h:SA Z w0 W sb hb k vq q s vs vr vh) {w2:World} {v1 v3:Value} {L I:List Int} {R:Nat} (g2:Gb W w2) (o1:Own w2 W.heap.size v1 L) (o3:Own w2 W.heap.size v3 I) (hr:s.rest.length + 1<=5000) :
  ∃ g n c W3,(Builtin.append_ #[49,49] 49 #[vr,.slice (some ⟨w2.heap.size,0,none⟩) 1 1]).run Tryz.prog (w2.alloc (.cells #[.int .i64 3,v1,.slice none 0 0,.int .u64 (hi R),.int .u64 (lo R),v3] 98))=.ok (.slice (some ⟨g,0,none⟩) n c) W3/\W3.heap[sb]? = some (.cells #[vq,.pointer (some ⟨hb,0,none⟩),.int .i64 (s.bud:Int),vs,vr] 95 (0,0)) /\
   SA Z w0 (W3.setCell ⟨sb,4,none⟩ (.slice (some ⟨g,0,none⟩) n c)) sb hb k vq q ⟨s.seen,s.bud,s.rest ++ [⟨3,L,[],R,I⟩]⟩ vs (.slice (some ⟨g,0,none⟩) n c) vh/\Frm W W3/\Frm W (W3.setCell ⟨sb,4,none⟩ (.slice (some ⟨g,0,none⟩) n c)):=by
 have h2:=h.grow g2
 have sz:=h.gb.size
 have nb:∀ {u:Value} {x:List Int},Own w2 W.heap.size u x->∀ g,u.ownBlock=some g->vs.ownBlock ≠ some g:=fun {u x} ho g hg e=>by
  have h3:=(World.ownsRow.lt ho g hg).1
  have h4:=(World.ownsRow.lt h.sn g e).2
  omega
 obtain ⟨g,n,c,W3,hrun,rg,kp,hloc⟩:=h2.rg.next (R:=R) (by have:=h.rfew;omega) (by have:=h2.gb.size;omega) (o1.mono sz) (o3.mono sz) (nb o1) (nb o3)
 have gA:Gb w2 (w2.alloc (.cells #[.int .i64 3,v1,.slice none 0 0,.int .u64 (hi R),.int .u64 (lo R),v3] 98)):=gb_alloc (Below.refl _ _) _
 have hA:=h2.grow gA
 have nn:∀ {b:Nat} {t:TypeId},Ty (w2.alloc (.cells #[.int .i64 3,v1,.slice none 0 0,.int .u64 (hi R),.int .u64 (lo R),v3] 98)) b t->t ≠ 98->¬ vr.ownBlock=some b:=fun ht hne e=>ht.ne (hA.tvr e) hne rfl
 have blk3:W3.heap[sb]? = some (.cells #[vq,.pointer (some ⟨hb,0,none⟩),.int .i64 (s.bud:Int),vs,vr] 95 (0,0)):=by rw [kp.block sb (Array.getElem?_eq_some_iff.1 hA.blk).1 (nn hA.tsb (by decide))];exact hA.blk
 have k3:Tk.Kp (fun b=>b=sb) W3 (W3.setCell ⟨sb,4,none⟩ (.slice (some ⟨g,0,none⟩) n c)):=(Tk.Kp.refl (fun b=>b=sb) W3).setCell (.inl rfl) _
 have f1:Frm W W3:=(Frm.gb (gb_trans g2 gA)).trans (Frm.kp kp (fun x hx=>.inr (.inr (.inr (.inr (hA.tvr hx))))))
 refine ⟨g,n,c,W3,hrun,blk3,⟨by simp [World.setCell,Array.getElem?_modify,blk3],h.sbB,h.hbB,?_,h.hhB,?_,?_,?_,h.q,h.few,by rw [List.length_append];exact hr,?_,?_⟩,f1,f1.trans (Frm.kp k3 (fun x hx=>by subst hx;exact .inl ⟨_,_,blk3⟩))⟩
 ·exact (hA.has.kp kp (nn hA.thb (by decide)) (fun g e=>nn (hA.tvh e) (by decide))).kp k3 (fun e=>hA.thb.ne hA.tsb (by decide) e) (fun g e e'=>(hA.tvh e).ne hA.tsb (by decide) e')
 ·exact own_kpI (own_kpI hA.sn kp (fun g e=>nn (hA.tvs e) (by decide))) k3 (fun g e e'=>(hA.tvs e).ne hA.tsb (by decide) e')
 ·refine rg.kp k3 (fun b e _ cur s' hc=>?_) (fun g' e e'=>?_)
  ·rw [e,blk3] at hc;simp at hc
  ·exact (rg.ty e).ne ⟨_,_,blk3⟩ (by decide) e'
 ·have b1:Below w0.heap.size w0 W3:=hA.gb.trans (kp.gr hA.gb.size (fun b e=>by
   obtain ⟨xs,hx,_⟩:=h.rg
   exact (hx.lt b e).1))
  exact b1.trans (k3.gr (by have:=kp.size;have:=hA.gb.size;omega) (fun b e=>by rw [e];exact h.sbB))
 ·have z1:=kz_next hA.kz kp (fun b e=>.inr (.inr (h.vB.2.2 b e)))
  exact kz_next z1 k3 (fun b e=>.inl e)
 ·refine ⟨h.vB.1,h.vB.2.1,fun g' e=>?_⟩
  rcases hloc with e' | e'
  ·exact h.vB.2.2 g' (by rw [<- e'];exact e)
  ·have:=e' g' e
   have:=h2.kz.size
   omega
end Go.Proofs.YtcipdampcmfmaabGreat
