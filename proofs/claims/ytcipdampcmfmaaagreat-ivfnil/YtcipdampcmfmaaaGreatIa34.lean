import Derived.Test.YtcipdampcmfmaaaGreatIaIvLk
import Derived.Test.YtcipdampcmfmaaaGreatIa6
import Derived.Test.YtcipdampcmfmaaaGreatIa23
import Derived.Test.YtcipdampcmfmaaaGreatIa17
namespace Go.Proofs.YtcipdampcmfmaaaGreat
open Go.RowKit Go.Sort Go.Maps
set_option maxRecDepth 100000
set_option maxHeartbeats 2000000
theorem full_has {w:World} {hb k:Nat} {v:Value} {m:List Tk.Ht} (h:Tk.Has w hb k v m):Calls Tryz.prog 107 #[.pointer (some ⟨hb,0,none⟩)] w fun e w'=>e=.returned (.bool (decide (m.length=k)))/\Tk.Gw w w':=by
 obtain ⟨d,hp,_,pm,_⟩:=h
 have hd:d.size=m.length:=by have:=pm.length_eq;simpa using this
 have c0:=hp.cell0
 have c1:=hp.cell1
 obtain ⟨a,cap,e⟩:=hp.form
 rw [hd] at e
 subst e
 have G:Hid (Tk.Gw w w.drew):=(Tk.Gw.refl w).drew
 have hb2:((m.length:Int) == (k:Int))=decide (m.length=k):=by
  by_cases e:m.length=k
  ·rw [decide_eq_true e,e];simp
  ·rw [decide_eq_false e,beq_eq_false_iff_ne];omega
 generalize m.length=n at *
 generalize decide (n=k)=r at *
 clear hp pm hd
 go_enter Tryz.func107,Tryz.ntmps107
 go_wp2
 go_region
 all_goals
  go_wp2
  go_ret
  exact ⟨by simp [],G.out⟩
theorem cw_hl (a b:Nat):Tk.cw (hi a) (lo a) (hi b) (lo b)=if a=b then 0 else if a < b then -1 else 1:=by
 by_cases e:a=b
 ·subst e;unfold Tk.cw;rw [if_pos ⟨rfl,rfl⟩,if_pos rfl]
 ·have hne:¬ (hi a=hi b/\lo a=lo b):=by unfold hi lo;omega
  rw [if_neg e];unfold Tk.cw;rw [if_neg hne]
  by_cases l:a < b
  ·rw [if_pos l,if_pos (by unfold hi lo;omega)]
  ·rw [if_neg l,if_neg (by unfold hi lo;omega)]
theorem isBeyond_c {Z w0 W:World} {sb hb k:Nat} {vq:Value} {q:List Int} {s:SV} {vs vr vh:Value} (h:SA Z w0 W sb hb k vq q s vs vr vh) {r:Reg} {vl vx vi vw:Value} (hL:RdI w0 vl r.L) (hH:RdI w0 vx r.H) (hI:RdI w0 vi r.I) (hw:∃ a n c,vw=.slice a n c) (hR:r.R < 340282366920938463463374607431768211456) (hlen:r.I.length<=512) (hck:ckB r q=0) :
  Calls Tryz.prog 77 #[.pointer (some ⟨sb,0,none⟩),lv r vl vx vi vw] W fun e W'=>e=.returned (.bool (beyB q k s.seen r))/\Gb W W':=by
 obtain ⟨ar,nr,cr,rfl⟩:=hw
 obtain ⟨m,hm⟩:∃ m,m=Tk.firsts k (hitsOf q s.seen):=⟨_,rfl⟩
 have hform:∀ x ∈ m,x.2.1=hi (dnH x)/\x.2.2=lo (dnH x):=fun x hx=>by
  rw [hm] at hx
  obtain ⟨r,_,rfl⟩:=chit_form hx
  rw [cdn_hit]
  exact ⟨rfl,rfl⟩
 have hk1:1<=k:=by obtain ⟨d,_,_,_,_,_,hk,_⟩:=h.has;exact hk
 have hbe:beyB q k s.seen r=(decide (m.length=k) && decide (dnH m[k - 1]! < bdV r q)):=by unfold beyB;rw [<- hm]
 rw [hbe]
 have hbd:bndV r q=bdV r q:=by unfold bndV;rw [if_pos hck]
 have hqr:=h.q
 obtain ⟨qa,qc,eq,_⟩:=h.q
 have CB0:∀ W2,Gb w0 W2->Calls Tryz.prog 106 #[rv r vl vx vi,vq] W2 fun e w'=>e=.returned (.tuple #[.agg #[.int .u64 (hi (bdV r q)),.int .u64 (lo (bdV r q))],.int .i64 0])/\Gb W2 w':=fun W2 g=>by
  have:=bound_c (v:=rv r vl vx vi) ⟨vl,vx,vi,rfl,hL.gb g,hH.gb g,hI.gb g⟩ (hqr.gb g) (by omega) hR
  rw [hck,hbd] at this
  exact this.mono fun e w' hh=>⟨hh.1,hh.2.gb⟩
 obtain ⟨al,cl,el,_⟩:=hL
 obtain ⟨ah,ch,eh,_⟩:=hH
 obtain ⟨ai,ci,ei,_⟩:=hI
 have HA:=fun V (g:Gb W V)=>(h.grow g)
 have c01:=h.cells
 have hG0:=h.gb
 subst el eh ei eq
 unfold lv
 unfold rv at CB0
 generalize r.L.length=nl at *
 generalize r.H.length=nh at *
 generalize r.I.length=ni at *
 generalize hi r.R=rh at *
 generalize lo r.R=ro at *
 generalize r.S=S at *
 generalize q.length=nq at *
 have gA:Gb W (W.alloc (.cells #[.int .i64 S,.slice al nl cl,.slice ah nh ch,.int .u64 rh,.int .u64 ro,.slice ai ni ci,.slice ar nr cr] 101)):=gb_alloc (Below.refl _ _) _
 have WR:Hid (∃ x:Tk.Ht,(Calls Tryz.prog 105 #[.pointer (some ⟨hb,0,none⟩)] (W.alloc (.cells #[.int .i64 S,.slice al nl cl,.slice ah nh ch,.int .u64 rh,.int .u64 ro,.slice ai ni ci,.slice ar nr cr] 101)) fun e w'=>(∃ b,e=.returned (.tuple #[.agg #[.int .i64 x.1,.int .u64 x.2.1,.int .u64 x.2.2],.bool b]))/\Gb (W.alloc (.cells #[.int .i64 S,.slice al nl cl,.slice ah nh ch,.int .u64 rh,.int .u64 ro,.slice ai ni ci,.slice ar nr cr] 101)) w') /\
   (m.length=k->x.2.1=hi (dnH m[k - 1]!)/\x.2.2=lo (dnH m[k - 1]!))):=by
  have hh:=(HA _ gA).has
  rw [<- hm] at hh
  by_cases h0:0 < m.length
  ·refine ⟨m[m.length - 1]!,(Tk.worst_has hh h0).mono fun e w' he=>⟨⟨true,he.1⟩,he.2⟩,fun e=>?_⟩
   rw [e]
   exact hform _ (by rw [getElem!_pos m (k - 1) (by omega)];exact List.getElem_mem _)
  ·exact ⟨⟨0,0,0⟩,(Tk.worst_has_none hh (by omega)).mono fun e w' he=>⟨⟨false,he.1⟩,he.2⟩,fun e=>by omega⟩
 obtain ⟨x,cW,hx⟩:=WR.out
 obtain ⟨xi,xh,xl⟩:=x
 dsimp only at cW hx
 obtain ⟨B,hB⟩:∃ B,B=bdV r q:=⟨_,rfl⟩
 rw [<- hB] at CB0
 rw [<- hB]
 have CW:m.length=k->∀ w,Calls Tryz.prog 76 #[.agg #[.int .u64 (hi B),.int .u64 (lo B)],.agg #[.int .u64 xh,.int .u64 xl]] w fun e w'=>(∃ z:Int,e=.returned (.int .i64 z)/\decide (0 < z)=decide (dnH m[k - 1]! < B))/\Tk.Gw w w':=fun e w=>by
  refine (Tk.cmpw _ _ _ _ w).mono ?_
  rintro e' w' ⟨rfl,g⟩
  refine ⟨⟨_,rfl,?_⟩,g⟩
  rw [(hx e).1,(hx e).2,cw_hl]
  by_cases a:B=dnH m[k - 1]!
  ·rw [if_pos a,decide_eq_false (by decide),decide_eq_false (by omega)]
  ·rw [if_neg a]
   by_cases b:B < dnH m[k - 1]!
   ·rw [if_pos b,decide_eq_false (by decide),decide_eq_false (by omega)]
   ·rw [if_neg b,decide_eq_true (by decide),decide_eq_true (by omega)]
 generalize decide (dnH m[k - 1]! < B)=r9 at *
 generalize hi B=bh at *
 generalize lo B=bl at *
 have PX:∀ w1,Gb (W.alloc (.cells #[.int .i64 S,.slice al nl cl,.slice ah nh ch,.int .u64 rh,.int .u64 ro,.slice ai ni ci,.slice ar nr cr] 101)) w1->∀ bb wx,Gb (w1.alloc (.cells #[.int .i64 xi,.int .u64 xh,.int .u64 xl] 81)) wx->wx.cell? ⟨bb,0,none⟩=some (.int .u64 bh)->wx.cell? ⟨bb,1,none⟩=some (.int .u64 bl) ->
   (Calls Tryz.prog 107 #[.pointer (some ⟨hb,0,none⟩)] wx fun e w'=>e=.returned (.bool (decide (m.length=k)))/\Tk.Gw wx w')/\wx.cell? ⟨sb,1,none⟩=some (.pointer (some ⟨hb,0,none⟩)) /\
   Hid (∀ w3,Tk.Gw wx w3->Gb W w3/\w3.cell? ⟨bb,0,none⟩=some (.int .u64 bh)/\w3.cell? ⟨bb,1,none⟩=some (.int .u64 bl)/\w3.cell? ⟨w1.heap.size,1,none⟩=some (.int .u64 xh)/\w3.cell? ⟨w1.heap.size,2,none⟩=some (.int .u64 xl) /\
    (m.length=k->Calls Tryz.prog 76 #[.agg #[.int .u64 bh,.int .u64 bl],.agg #[.int .u64 xh,.int .u64 xl]] w3 fun e w'=>(∃ z:Int,e=.returned (.int .i64 z)/\decide (0 < z)=r9)/\Tk.Gw w3 w')):=fun w1 g1 bb wx gx a0 a1=>by
  have gW:Gb W wx:=gb_trans gA (gb_trans (gb_alloc g1 _) gx)
  have hS:=HA wx gW
  have hF:=full_has hS.has
  rw [<- hm] at hF
  refine ⟨hF,hS.cells.2.1,fun w3 g3=>⟨gb_trans gW g3.gr,gb_keeps g3.gr a0,gb_keeps g3.gr a1,gb_keeps g3.gr (gb_keeps gx (by simp [go_sem])),gb_keeps g3.gr (gb_keeps gx (by simp [go_sem])),fun hk=>CW hk w3⟩⟩
 have PY:Hid (∀ w1 V,Gb (W.alloc (.cells #[.int .i64 S,.slice al nl cl,.slice ah nh ch,.int .u64 rh,.int .u64 ro,.slice ai ni ci,.slice ar nr cr] 101)) w1->V=w1.alloc (.cells #[.int .i64 xi,.int .u64 xh,.int .u64 xl] 81) ->
   Hid (∀ W2,Gb V W2->Calls Tryz.prog 106 #[.agg #[.int .i64 S,.slice al nl cl,.slice ah nh ch,.int .u64 rh,.int .u64 ro,.slice ai ni ci],.slice qa nq qc] W2 fun e w'=>e=.returned (.tuple #[.agg #[.int .u64 bh,.int .u64 bl],.int .i64 0])/\Gb W2 w') /\
   Hid (∀ W2,Gb V W2->W2.cell? ⟨sb,0,none⟩=some (.slice qa nq qc)/\W2.cell? ⟨W.heap.size,0,none⟩=some (.int .i64 S)/\W2.cell? ⟨W.heap.size,1,none⟩=some (.slice al nl cl)/\W2.cell? ⟨W.heap.size,2,none⟩=some (.slice ah nh ch)/\W2.cell? ⟨W.heap.size,3,none⟩=some (.int .u64 rh)/\W2.cell? ⟨W.heap.size,4,none⟩=some (.int .u64 ro)/\W2.cell? ⟨W.heap.size,5,none⟩=some (.slice ai ni ci)) /\
   Hid (∀ w2,Gb V w2->(Calls Tryz.prog 107 #[.pointer (some ⟨hb,0,none⟩)] (w2.alloc (.cells #[.int .u64 bh,.int .u64 bl] 79)) fun e w'=>e=.returned (.bool (decide (m.length=k)))/\Tk.Gw (w2.alloc (.cells #[.int .u64 bh,.int .u64 bl] 79)) w')/\(w2.alloc (.cells #[.int .u64 bh,.int .u64 bl] 79)).cell? ⟨sb,1,none⟩=some (.pointer (some ⟨hb,0,none⟩)) /\
    Hid (∀ w3,Tk.Gw (w2.alloc (.cells #[.int .u64 bh,.int .u64 bl] 79)) w3->Gb W w3/\w3.cell? ⟨w2.heap.size,0,none⟩=some (.int .u64 bh)/\w3.cell? ⟨w2.heap.size,1,none⟩=some (.int .u64 bl)/\w3.cell? ⟨w1.heap.size,1,none⟩=some (.int .u64 xh)/\w3.cell? ⟨w1.heap.size,2,none⟩=some (.int .u64 xl) /\
    (m.length=k->Calls Tryz.prog 76 #[.agg #[.int .u64 bh,.int .u64 bl],.agg #[.int .u64 xh,.int .u64 xl]] w3 fun e w'=>(∃ z:Int,e=.returned (.int .i64 z)/\decide (0 < z)=r9)/\Tk.Gw w3 w'))) /\
   Hid (∀ w2,Gb (V.drew.alloc (.cells #[.int .u64 0,.int .u64 0] 79)) w2->(∃ y,w2.cell? ⟨V.heap.size,0,none⟩=some y)/\(∃ y,w2.cell? ⟨V.heap.size,1,none⟩=some y)/\w2.frozen? ⟨V.heap.size,0,none⟩=false/\w2.frozen? ⟨V.heap.size,1,none⟩=false /\
    Hid ((Calls Tryz.prog 107 #[.pointer (some ⟨hb,0,none⟩)] ((w2.setCell ⟨V.heap.size,0,none⟩ (.int .u64 bh)).setCell ⟨V.heap.size,1,none⟩ (.int .u64 bl)) fun e w'=>e=.returned (.bool (decide (m.length=k)))/\Tk.Gw ((w2.setCell ⟨V.heap.size,0,none⟩ (.int .u64 bh)).setCell ⟨V.heap.size,1,none⟩ (.int .u64 bl)) w')/\((w2.setCell ⟨V.heap.size,0,none⟩ (.int .u64 bh)).setCell ⟨V.heap.size,1,none⟩ (.int .u64 bl)).cell? ⟨sb,1,none⟩=some (.pointer (some ⟨hb,0,none⟩)) /\
    Hid (∀ w3,Tk.Gw ((w2.setCell ⟨V.heap.size,0,none⟩ (.int .u64 bh)).setCell ⟨V.heap.size,1,none⟩ (.int .u64 bl)) w3->Gb W w3/\w3.cell? ⟨V.heap.size,0,none⟩=some (.int .u64 bh)/\w3.cell? ⟨V.heap.size,1,none⟩=some (.int .u64 bl)/\w3.cell? ⟨w1.heap.size,1,none⟩=some (.int .u64 xh)/\w3.cell? ⟨w1.heap.size,2,none⟩=some (.int .u64 xl) /\
    (m.length=k->Calls Tryz.prog 76 #[.agg #[.int .u64 bh,.int .u64 bl],.agg #[.int .u64 xh,.int .u64 xl]] w3 fun e w'=>(∃ z:Int,e=.returned (.int .i64 z)/\decide (0 < z)=r9)/\Tk.Gw w3 w'))))):=fun w1 V g1 eV=>by
  subst eV
  have gV:Gb W (w1.alloc (.cells #[.int .i64 xi,.int .u64 xh,.int .u64 xl] 81)):=gb_trans gA (gb_alloc g1 _)
  have gX:Gb (W.alloc (.cells #[.int .i64 S,.slice al nl cl,.slice ah nh ch,.int .u64 rh,.int .u64 ro,.slice ai ni ci,.slice ar nr cr] 101)) (w1.alloc (.cells #[.int .i64 xi,.int .u64 xh,.int .u64 xl] 81)):=gb_alloc g1 _
  refine ⟨fun W2 g=>CB0 W2 (gb_trans hG0 (gb_trans gV g)),fun W2 g=>?_,fun w2 g=>?_,fun w2 g=>?_⟩
  ·have gg:=gb_trans gX g
   exact ⟨gb_keeps (gb_trans gV g) c01.1,gb_keeps gg (by simp [go_sem]),gb_keeps gg (by simp [go_sem]),gb_keeps gg (by simp [go_sem]),gb_keeps gg (by simp [go_sem]),gb_keeps gg (by simp [go_sem]),gb_keeps gg (by simp [go_sem])⟩
  ·exact PX w1 g1 w2.heap.size _ (gb_alloc g _) (by simp [go_sem]) (by simp [go_sem])
  ·generalize hV:w1.alloc (.cells #[.int .i64 xi,.int .u64 xh,.int .u64 xl] 81)=V at *
   have hb0:w2.heap[V.heap.size]? = some (.cells #[.int .u64 0,.int .u64 0] 79 (0,0)):=by
    rw [g.block V.heap.size (by simp [World.size_alloc])]
    have:=heap_new V.drew (.cells #[.int .u64 0,.int .u64 0] 79)
    simpa [World.size_alloc] using this
   have gVw:Gb V w2:=gb_trans (gb_alloc (Below.refl _ _).drew _) g
   refine ⟨⟨_,cell_cur hb0 rfl⟩,⟨_,cell_cur hb0 rfl⟩,by simp [World.frozen?,hb0],by simp [World.frozen?,hb0],?_⟩
   have:=PX w1 g1 V.heap.size ((w2.setCell ⟨V.heap.size,0,none⟩ (.int .u64 bh)).setCell ⟨V.heap.size,1,none⟩ (.int .u64 bl)) (by rw [hV];exact gb_set (gb_set gVw (Nat.le_refl _) _) (Nat.le_refl _) _) (by simp [World.cell?,World.setCell,Array.getElem?_modify,hb0]) (by simp [World.cell?,World.setCell,Array.getElem?_modify,hb0])
   exact this
 clear PX CW CB0 HA hx WR hform hbe hm hk1 hbd hqr hck hR hlen hG0 hB h
 obtain ⟨_,x1,_⟩:=c01
 have y1:=gb_keeps gA x1
 have slt:sb < W.heap.size:=cell_lt x1
 clear gA x1
 go_enter Tryz.func77,Tryz.ntmps77
 go_wp2_with fail
 go_fit cW
 rintro e w1 ⟨⟨b,rfl⟩,g1⟩
 obtain ⟨V,eV⟩:∃ V,V=w1.alloc (.cells #[.int .i64 xi,.int .u64 xh,.int .u64 xl] 81):=⟨_,rfl⟩
 obtain ⟨CB,FA,PA,PB⟩:=PY.out w1 V g1 eV
 clear cW PY y1 g1
 go_wp2_with fail
 rw [<- eV]
 clear eV
 refine wp_region_held_drew (S:=fun W2=>Gb V W2) (by kernel_rfl) ((Below.refl _ _).drew) (fun hHeld=>?_)
 refine tkn 0 ?_ rfl ?_ ?_;rotate_left;·(intro w hSw;obtain ⟨y0,y1,y2,y3,y4,y5,y6⟩:=FA.out w hSw;go_simp;try rfl)
 refine tkn 1 ?_ rfl ?_ ?_;rotate_left;·(intro w hSw;obtain ⟨y0,y1,y2,y3,y4,y5,y6⟩:=FA.out w hSw;go_simp;try rfl)
 refine tkn 2 ?_ rfl ?_ ?_;rotate_left;·(intro w hSw;obtain ⟨y0,y1,y2,y3,y4,y5,y6⟩:=FA.out w hSw;go_simp;try rfl)
 refine tkn 3 ?_ rfl ?_ ?_;rotate_left;·(intro w hSw;obtain ⟨y0,y1,y2,y3,y4,y5,y6⟩:=FA.out w hSw;go_simp;try rfl)
 refine tkn 4 ?_ rfl ?_ ?_;rotate_left;·(intro w hSw;obtain ⟨y0,y1,y2,y3,y4,y5,y6⟩:=FA.out w hSw;go_simp;try rfl)
 refine tkn 5 ?_ rfl ?_ ?_;rotate_left;·(intro w hSw;obtain ⟨y0,y1,y2,y3,y4,y5,y6⟩:=FA.out w hSw;go_simp;try rfl)
 refine wpAnyH_ready (rs:=[6,10]) (by kernel_rfl) (by simp) ?_
 refine AllReadyH.cons rfl (fun K hK=>?_) (AllReadyH.cons rfl (fun K hK=>?_) AllReadyH.nil)
 ·go_simp
  go_fit (CB.out _ (Below.refl _ _).drew)
  rintro e w2 ⟨rfl,g2⟩
  have g2V:Gb V w2:=gb_trans (Below.refl _ _).drew g2
  refine hK.out _ _ g2V (fun hHeld=>?_)
  clear hK K
  refine tkn 7 ?_ rfl ?_ ?_;rotate_left;·(intro w hSw;(skip);go_simp;try rfl)
  refine tkn 8 ?_ rfl ?_ ?_;rotate_left;·(intro w hSw;(skip);go_simp;try rfl)
  refine tkn 9 ?_ rfl ?_ ?_;rotate_left;·(intro w hSw;(skip);go_simp;try rfl)
  refine rdn 10 rfl (fun K hK=>?_)
  go_simp
  refine hK.out _ _ (gb_alloc hHeld _) (fun hHeld=>?_)
  clear hK K
  refine rdn 11 rfl (fun K hK=>?_)
  go_simp
  refine hK.out _ _ (gb_alloc g2V _) (fun hHeld=>?_)
  clear hK K
  refine tkn 12 ?_ rfl ?_ ?_;rotate_left;·(intro w hSw;(skip);go_simp;try rfl)
  refine wpAnyH_done (by kernel_rfl) ?_ _
  have PF:=PA.out w2 g2V
  clear hHeld g2 g2V CB FA PA PB
  obtain ⟨cF,d1,C3⟩:=PF
  go_wp2_with fail
  go_fit cF
  rintro e w3 ⟨rfl,g3⟩
  obtain ⟨G3,e0,e1,e2,e3,cC⟩:=C3.out w3 g3
  have GG:Hid (Gb W w3):=G3
  clear cF C3 g3 d1 G3
  by_cases hk:m.length=k
  ·rw [decide_eq_true hk]
   have cC2:=cC hk
   have HK:Hid (decide (m.length=k)=true):=decide_eq_true hk
   clear cC hk
   go_wp2_with fail
   go_fit cC2
   rintro e w4 ⟨⟨z,rfl,hz⟩,g4⟩
   have G4:Hid (Gb W w4):=gb_trans GG.out g4.gr
   have HZ:Hid (decide (0 < z)=r9):=hz
   clear cC2 g4 GG hz
   go_wp2
   go_ret
   exact ⟨by rw [<- HZ.out];simp [HK.out],G4.out⟩
  ·have HK:Hid (decide (m.length=k)=false):=decide_eq_false hk
   rw [decide_eq_false hk]
   clear hk cC
   go_wp2
   go_ret
   exact ⟨by simp [HK.out],GG.out⟩
 ·go_simp
  refine hK.out _ _ (gb_alloc hHeld _) (fun hHeld=>?_)
  clear hK K
  refine rdn 6 rfl (fun K hK=>?_)
  go_simp
  go_fit (CB.out _ (gb_alloc (Below.refl _ _).drew _))
  rintro e w2 ⟨rfl,g2⟩
  obtain ⟨⟨z0,k0⟩,⟨z1,k1⟩,f0,f1,PF0⟩:=PB.out w2 g2
  have g2V:Gb V w2:=gb_trans (gb_alloc (Below.refl _ _).drew _) g2
  refine hK.out _ _ g2V (fun hHeld=>?_)
  clear hK K
  refine tkn 7 ?_ rfl ?_ ?_;rotate_left;·(intro w hSw;(skip);go_simp;try rfl)
  refine tkn 8 ?_ rfl ?_ ?_;rotate_left;·(intro w hSw;(skip);go_simp;try rfl)
  refine tkn 9 ?_ rfl ?_ ?_;rotate_left;·(intro w hSw;(skip);go_simp;try rfl)
  refine rdn 11 rfl (fun K hK=>?_)
  go_simp
  refine hK.out _ _ (gb_set (gb_set g2V (Nat.le_refl _) _) (Nat.le_refl _) _) (fun hHeld=>?_)
  clear hK K
  refine tkn 12 ?_ rfl ?_ ?_;rotate_left;·(intro w hSw;(skip);go_simp;try rfl)
  refine wpAnyH_done (by kernel_rfl) ?_ _
  have PF:=PF0.out
  clear hHeld g2 g2V CB FA PA PB k0 k1 f0 f1 PF0
  obtain ⟨cF,d1,C3⟩:=PF
  go_wp2_with fail
  go_fit cF
  rintro e w3 ⟨rfl,g3⟩
  obtain ⟨G3,e0,e1,e2,e3,cC⟩:=C3.out w3 g3
  have GG:Hid (Gb W w3):=G3
  clear cF C3 g3 d1 G3
  by_cases hk:m.length=k
  ·rw [decide_eq_true hk]
   have cC2:=cC hk
   have HK:Hid (decide (m.length=k)=true):=decide_eq_true hk
   clear cC hk
   go_wp2_with fail
   go_fit cC2
   rintro e w4 ⟨⟨z,rfl,hz⟩,g4⟩
   have G4:Hid (Gb W w4):=gb_trans GG.out g4.gr
   have HZ:Hid (decide (0 < z)=r9):=hz
   clear cC2 g4 GG hz
   go_wp2
   go_ret
   exact ⟨by rw [<- HZ.out];simp [HK.out],G4.out⟩
  ·have HK:Hid (decide (m.length=k)=false):=decide_eq_false hk
   rw [decide_eq_false hk]
   clear hk cC
   go_wp2
   go_ret
   exact ⟨by simp [HK.out],GG.out⟩
end Go.Proofs.YtcipdampcmfmaaaGreat

namespace Go.Proofs.YtcipdampcmfmaaaGreat
open Go.RowKit Go.Sort Go.Maps
theorem rdi_from {w:World} {b o n c:Nat} {l:List Int} (h:RdI w (.slice (some ⟨b,o,none⟩) n c) l) (j:Nat) (hj:j<=l.length) (c':Nat):RdI w (.slice (some ⟨b,o + j,none⟩) (n - j) c') (l.drop j):=by
 obtain ⟨a,c0,e,hc⟩:=h
 injection e with e1 e2 e3
 subst e1 e2
 refine ⟨_,c',by rw [List.length_drop],fun i hi=>?_⟩
 rw [List.length_drop] at hi
 obtain ⟨b',o',ea,hcell⟩:=hc (j + i) (by omega)
 injection ea with ea
 injection ea with ea1 ea2 _
 subst ea1 ea2
 refine ⟨b,o + j,rfl,?_⟩
 rw [getElem!_pos (l.drop j) i (by rw [List.length_drop];omega),List.getElem_drop,<- getElem!_pos l (j + i) (by omega),Nat.add_assoc]
 exact hcell
theorem rdw_at {w:World} {b o n c:Nat} {rs:List Rw} (h:RdW w (.slice (some ⟨b,o,none⟩) n c) rs) {i:Nat} (hi:i < rs.length):∃ u,w.cell? ⟨b,o + i * 2,none⟩=some (.int .i64 rs[i]!.1)/\w.cell? ⟨b,o + i * 2 + 1,none⟩=some u/\RdI w u rs[i]!.2:=by
 obtain ⟨a,c0,e,hc⟩:=h
 injection e with e1 e2 e3
 subst e1
 obtain ⟨b',o',u,ea,h1,h2,h3⟩:=hc i hi
 injection ea with ea
 injection ea with ea1 ea2 _
 subst ea1 ea2
 exact ⟨u,h1,h2,h3⟩
theorem SA.left {Z w0 W:World} {sb hb k:Nat} {vq:Value} {q:List Int} {s:SV} {vs vr vh:Value} (h:SA Z w0 W sb hb k vq q s vs vr vh) {w2:World} {v1 v3:Value} {L I:List Int} {R:Nat} (g2:Gb W w2) (o1:Own w2 W.heap.size v1 L) (o3:Own w2 W.heap.size v3 I) (hr:s.rest.length + 1<=5000) :
  ∃ g n c W3,(Builtin.append_ #[49,49] 49 #[vr,.slice (some ⟨w2.heap.size,0,none⟩) 1 1]).run Tryz.prog (w2.alloc (.cells #[.int .i64 3,v1,.slice none 0 0,.int .u64 (hi R),.int .u64 (lo R),v3] 99))=.ok (.slice (some ⟨g,0,none⟩) n c) W3/\W3.heap[sb]? = some (.cells #[vq,.pointer (some ⟨hb,0,none⟩),.int .i64 (s.bud:Int),vs,vr] 96 (0,0)) /\
   SA Z w0 (W3.setCell ⟨sb,4,none⟩ (.slice (some ⟨g,0,none⟩) n c)) sb hb k vq q ⟨s.seen,s.bud,s.rest ++ [⟨3,L,[],R,I⟩]⟩ vs (.slice (some ⟨g,0,none⟩) n c) vh/\Frm W W3/\Frm W (W3.setCell ⟨sb,4,none⟩ (.slice (some ⟨g,0,none⟩) n c)):=by
 have h2:=h.grow g2
 have sz:=h.gb.size
 have nb:∀ {u:Value} {x:List Int},Own w2 W.heap.size u x->∀ g,u.ownBlock=some g->vs.ownBlock ≠ some g:=fun {u x} ho g hg e=>by
  have h3:=(World.ownsRow.lt ho g hg).1
  have h4:=(World.ownsRow.lt h.sn g e).2
  omega
 obtain ⟨g,n,c,W3,hrun,rg,kp,hloc⟩:=h2.rg.next (R:=R) (by have:=h.rfew;omega) (by have:=h2.gb.size;omega) (o1.mono sz) (o3.mono sz) (nb o1) (nb o3)
 have gA:Gb w2 (w2.alloc (.cells #[.int .i64 3,v1,.slice none 0 0,.int .u64 (hi R),.int .u64 (lo R),v3] 99)):=gb_alloc (Below.refl _ _) _
 have hA:=h2.grow gA
 have nn:∀ {b:Nat} {t:TypeId},Ty (w2.alloc (.cells #[.int .i64 3,v1,.slice none 0 0,.int .u64 (hi R),.int .u64 (lo R),v3] 99)) b t->t ≠ 99->¬ vr.ownBlock=some b:=fun ht hne e=>ht.ne (hA.tvr e) hne rfl
 have blk3:W3.heap[sb]? = some (.cells #[vq,.pointer (some ⟨hb,0,none⟩),.int .i64 (s.bud:Int),vs,vr] 96 (0,0)):=by rw [kp.block sb (Array.getElem?_eq_some_iff.1 hA.blk).1 (nn hA.tsb (by decide))];exact hA.blk
 have k3:Tk.Kp (fun b=>b=sb) W3 (W3.setCell ⟨sb,4,none⟩ (.slice (some ⟨g,0,none⟩) n c)):=(Tk.Kp.refl (fun b=>b=sb) W3).setCell (.inl rfl) _
 have f1:Frm W W3:=(Frm.gb (gb_trans g2 gA)).trans (Frm.kp kp (fun x hx=>.inr (.inr (.inr (.inr (hA.tvr hx))))))
 refine ⟨g,n,c,W3,hrun,blk3,⟨by simp [World.setCell,Array.getElem?_modify,blk3],h.sbB,h.hbB,?_,h.hhB,?_,?_,?_,h.q,h.few,by rw [List.length_append];exact hr,?_,?_⟩,f1,f1.trans (Frm.kp k3 (fun x hx=>by subst hx;exact .inl ⟨_,_,blk3⟩))⟩
 ·exact (hA.has.kp kp (nn hA.thb (by decide)) (fun g e=>nn (hA.tvh e) (by decide))).kp k3 (fun e=>hA.thb.ne hA.tsb (by decide) e) (fun g e e'=>(hA.tvh e).ne hA.tsb (by decide) e')
 ·exact own_kpI (own_kpI hA.sn kp (fun g e=>nn (hA.tvs e) (by decide))) k3 (fun g e e'=>(hA.tvs e).ne hA.tsb (by decide) e')
 ·refine rg.kp k3 (fun b e _ cur s' hc=>?_) (fun g' e e'=>?_)
  ·rw [e,blk3] at hc;simp at hc
  ·exact (rg.ty e).ne ⟨_,_,blk3⟩ (by decide) e'
 ·have b1:Below w0.heap.size w0 W3:=hA.gb.trans (kp.gr hA.gb.size (fun b e=>by
   obtain ⟨xs,hx,_⟩:=h.rg
   exact (hx.lt b e).1))
  exact b1.trans (k3.gr (by have:=kp.size;have:=hA.gb.size;omega) (fun b e=>by rw [e];exact h.sbB))
 ·have z1:=kz_next hA.kz kp (fun b e=>.inr (.inr (h.vB.2.2 b e)))
  exact kz_next z1 k3 (fun b e=>.inl e)
 ·refine ⟨h.vB.1,h.vB.2.1,fun g' e=>?_⟩
  rcases hloc with e' | e'
  ·exact h.vB.2.2 g' (by rw [<- e'];exact e)
  ·have:=e' g' e
   have:=h2.kz.size
   omega
end Go.Proofs.YtcipdampcmfmaaaGreat

namespace Go.Proofs.YtcipdampcmfmaaaGreat
open Go.RowKit Go.Sort
set_option maxRecDepth 100000
set_option maxHeartbeats 4000000
theorem kregion_c {w:World} {u v:Value} {r:Reg} (hu:RdR w u r) (hv:RdR w v r) (hL:r.L.length<=4611686018427387904) (hH:r.H.length<=4611686018427387904) (hI:r.I.length<=4611686018427387904) :
  Calls Tryz.prog 58 #[u,v] w fun e w'=>e=.returned (.bool true)/\Gr w w':=by
 obtain ⟨l1,h1,i1,rfl,a1,b1,d1⟩:=hu
 obtain ⟨l2,h2,i2,rfl,a2,b2,d2⟩:=hv
 have cL:=fun W (g:Gr w W)=>ints_v (a1.gb g.gb) (a2.gb g.gb) hL true (by simp)
 have cH:=fun W (g:Gr w W)=>ints_v (b1.gb g.gb) (b2.gb g.gb) hH true (by simp)
 have cI:=fun W (g:Gr w W)=>ints_v (d1.gb g.gb) (d2.gb g.gb) hI true (by simp)
 have hw:=fun W=>wd_same (hi r.R) (lo r.R) W
 have G0:Gr w ((w.alloc (.cells #[.int .i64 r.S,l1,h1,.int .u64 (hi r.R),.int .u64 (lo r.R),i1] 99)).alloc (.cells #[.int .i64 r.S,l2,h2,.int .u64 (hi r.R),.int .u64 (lo r.R),i2] 99)):=((Gr.refl _).alloc _ _).alloc _ _
 obtain ⟨p1,q1,rfl,_⟩:=a1
 obtain ⟨p2,q2,rfl,_⟩:=a2
 obtain ⟨p3,q3,rfl,_⟩:=b1
 obtain ⟨p4,q4,rfl,_⟩:=b2
 obtain ⟨p5,q5,rfl,_⟩:=d1
 obtain ⟨p6,q6,rfl,_⟩:=d2
 generalize r.L.length=nl at *
 generalize r.H.length=nh at *
 generalize r.I.length=ni at *
 go_enter Tryz.func58,Tryz.ntmps58
 go_wp2_with fail
 refine (cL _ G0).mono ?_
 rintro e w1 ⟨rfl,g1⟩
 have k2:=g1.keeps (p:=⟨w.heap.size,2,none⟩) (v:=.slice p3 nh q3) (by simp [go_sem])
 have k3:=g1.keeps (p:=⟨w.heap.size + 1,2,none⟩) (v:=.slice p4 nh q4) (by simp [go_sem])
 have k4:=g1.keeps (p:=⟨w.heap.size,5,none⟩) (v:=.slice p5 ni q5) (by simp [go_sem])
 have k5:=g1.keeps (p:=⟨w.heap.size + 1,5,none⟩) (v:=.slice p6 ni q6) (by simp [go_sem])
 have G1:=G0.trans g1
 clear G0 g1
 go_wp2_with fail
 refine (cH _ G1).mono ?_
 rintro e w2 ⟨rfl,g2⟩
 replace k4:=g2.keeps k4
 replace k5:=g2.keeps k5
 have G2:=G1.trans g2
 clear G1 g2
 go_wp2_with fail
 refine (cI _ G2).mono ?_
 rintro e w3 ⟨rfl,g3⟩
 go_wp2
 go_ret
 exact ⟨rfl,G2.trans g3⟩
structure Tw (W:World) (B:Nat) (va vb:Value) (p r:Addr) (S x1 x2 x3 y1 y2 y3 R1 R2:Value):Prop where
 v0:W.cell? ⟨B,2,none⟩=some va
 v1:W.cell? ⟨B + 1,2,none⟩=some vb
 a0:W.cell? p=some S
 a1:W.cell? ⟨p.block,p.off + 1,none⟩=some x1
 a2:W.cell? ⟨p.block,p.off + 2,none⟩=some x2
 a3:W.cell? ⟨p.block,p.off + 3,none⟩=some R1
 a4:W.cell? ⟨p.block,p.off + 4,none⟩=some R2
 a5:W.cell? ⟨p.block,p.off + 5,none⟩=some x3
 b0:W.cell? r=some S
 b1:W.cell? ⟨r.block,r.off + 1,none⟩=some y1
 b2:W.cell? ⟨r.block,r.off + 2,none⟩=some y2
 b3:W.cell? ⟨r.block,r.off + 3,none⟩=some R1
 b4:W.cell? ⟨r.block,r.off + 4,none⟩=some R2
 b5:W.cell? ⟨r.block,r.off + 5,none⟩=some y3
theorem Tw.gb {W W':World} {B:Nat} {va vb:Value} {p r:Addr} {S x1 x2 x3 y1 y2 y3 R1 R2:Value} (h:Tw W B va vb p r S x1 x2 x3 y1 y2 y3 R1 R2) (g:Gb W W'):Tw W' B va vb p r S x1 x2 x3 y1 y2 y3 R1 R2 :=
 ⟨gb_keeps g h.v0,gb_keeps g h.v1,gb_keeps g h.a0,gb_keeps g h.a1,gb_keeps g h.a2,gb_keeps g h.a3,gb_keeps g h.a4,gb_keeps g h.a5,gb_keeps g h.b0,gb_keeps g h.b1,gb_keeps g h.b2,gb_keeps g h.b3,gb_keeps g h.b4,gb_keeps g h.b5⟩
structure Few (a:Ans):Prop where
 hits:a.hits.length<=4000
 seen:a.seen.length<=4611686018427387904
 rest:a.rest.length<=4611686018427387904
 reg:∀ r ∈ a.rest,r.L.length<=4611686018427387904/\r.H.length<=4611686018427387904/\r.I.length<=4611686018427387904
theorem kanswer_c {w:World} {vh vs vr uh us ur:Value} {a:Ans} (ha:RdA w vh vs vr a) (hb:RdA w uh us ur a) (few:Few a) :
  Calls Tryz.prog 27 #[.agg #[vh,vs,vr],.agg #[uh,us,ur]] w fun e w'=>e=.returned (.bool true)/\Gb w w':=by
 have A:Hid (RdA w vh vs vr a):=ha
 have B:Hid (RdA w uh us ur a):=hb
 have FW:Hid (Few a):=few
 obtain ⟨W1,hW1⟩:∃ W1,W1=(w.alloc (.cells #[vh,vs,vr] 51)).alloc (.cells #[uh,us,ur] 51):=⟨_,rfl⟩
 have G0:Hid (Gb w W1):=by unfold Hid;rw [hW1];exact gb_alloc (gb_alloc (Below.refl _ _) _) _
 have BX:Hid ((W1.cell? ⟨w.heap.size,0,none⟩=some vh/\W1.cell? ⟨w.heap.size,1,none⟩=some vs/\W1.cell? ⟨w.heap.size,2,none⟩=some vr)/\W1.cell? ⟨w.heap.size + 1,0,none⟩=some uh/\W1.cell? ⟨w.heap.size + 1,1,none⟩=some us/\W1.cell? ⟨w.heap.size + 1,2,none⟩=some ur):=by
  unfold Hid;rw [hW1];exact ⟨⟨by simp [go_sem],by simp [go_sem],by simp [go_sem]⟩,by simp [go_sem],by simp [go_sem],by simp [go_sem]⟩
 have ch:=Tk.same_c (ha.hits.gr G0.out) (hb.hits.gr G0.out) few.hits
 have ci:=fun W (g:Gb w W)=>ints_v (ha.seen.gb g) (hb.seen.gb g) few.seen true (by simp)
 simp only [decide_true] at ch
 obtain ⟨ah,c1,evh,_⟩:=ha.hits.form
 obtain ⟨sa,c2,evs,_⟩:=ha.seen
 obtain ⟨ar,cr,evr,_⟩:=ha.rest
 obtain ⟨bh,d1,euh,_⟩:=hb.hits.form
 obtain ⟨bs,d2,eus,_⟩:=hb.seen
 obtain ⟨br,er,eur,_⟩:=hb.rest
 subst evh;subst evs;subst evr;subst euh;subst eus;subst eur
 clear ha hb few
 obtain ⟨nh,hnh⟩:∃ nh,nh=a.hits.length:=⟨_,rfl⟩
 obtain ⟨ns,hns⟩:∃ ns,ns=a.seen.length:=⟨_,rfl⟩
 obtain ⟨nr,hnr⟩:∃ nr,nr=a.rest.length:=⟨_,rfl⟩
 have NR:Hid (nr=a.rest.length):=hnr
 rw [<- hnh,<- hns,<- hnr] at A B BX hW1 ⊢
 rw [<- hnh] at ch
 simp only [<- hns] at ci
 have hrl:nr<=4611686018427387904:=by rw [hnr];exact FW.out.rest
 clear hnh hns hnr
 go_enter Tryz.func27,Tryz.ntmps27
 go_wp2_with fail
 rw [<- hW1]
 clear hW1
 obtain ⟨⟨x0,x1,x2⟩,y0,y1,y2⟩:=BX.out
 go_wp2_with fail
 refine ch.mono ?_
 rintro e w2 ⟨rfl,g2⟩
 have G2:Hid (Gb W1 w2):=g2
 clear ch g2 x0 x1 x2 y0 y1 y2
 obtain ⟨⟨x0,x1,x2⟩,y0,y1,y2⟩:=BX.out
 have x1:=gb_keeps G2.out x1
 have y1:=gb_keeps G2.out y1
 clear x0 x2 y0 y2
 go_wp2_with fail
 refine (ci _ (gb_trans G0.out G2.out)).mono ?_
 rintro e w3 ⟨rfl,g3⟩
 have G3:Hid (Gb W1 w3):=gb_trans G2.out g3.gb
 clear ci g3 x1 y1 G2
 obtain ⟨⟨x0,x1,x2⟩,y0,y1,y2⟩:=BX.out
 have x2:=gb_keeps G3.out x2
 have y2:=gb_keeps G3.out y2
 clear x0 x1 y0 y1
 go_wp2
 clear x2 y2
 go_loopw [5] (fun iv W=>∃ p:Nat,iv=.int .i64 (p:Int)/\p<=nr/\Hid (Gb W1 W)) (fun iv _=>nr - (intOf iv).toNat)
 case atStart=>exact ⟨0,rfl,Nat.zero_le _,G3⟩
 case round =>
  obtain ⟨p,rfl,hp,X⟩:=hrel
  obtain ⟨⟨x0,x1,x2⟩,y0,y1,y2⟩:=BX.out
  have x2:=gb_keeps X.out x2
  have y2:=gb_keeps X.out y2
  clear x0 x1 y0 y1
  by_cases hpn:p < nr
  ·have hpi:(p:Int) < (nr:Int):=by omega
   have hpl:p < a.rest.length:=by have:=NR.out;omega
   obtain ⟨_,_,ea,hA⟩:=A.out.rest
   obtain ⟨b1,o1,x1,x2',x3,e1,a0,a1,a2,a3,a4,a5,r1,r2,r3⟩:=hA p hpl
   obtain ⟨_,_,eb,hB⟩:=B.out.rest
   obtain ⟨b2,o2,y1,y2',y3,e2,k0,k1,k2,k3,k4,k5,t1,t2,t3⟩:=hB p hpl
   injection ea with ea1 ea2 ea3
   injection eb with eb1 eb2 eb3
   subst ea1;subst eb1;subst e1;subst e2
   clear hA hB ea2 ea3 eb2 eb3
   have fw:=FW.out.reg _ (List.getElem_mem hpl)
   have GX:Hid (Gb w wr.drew):=(gb_trans G0.out X.out).drew
   have cr':=fun W (g:Gb w W)=>kregion_c (r:=a.rest[p]) ⟨x1,x2',x3,rfl,r1.gb g,r2.gb g,r3.gb g⟩ ⟨y1,y2',y3,rfl,t1.gb g,t2.gb g,t3.gb g⟩ fw.1 fw.2.1 fw.2.2
   have FS0:Tw wr.drew w.heap.size (.slice (some ⟨b1,o1,none⟩) nr cr) (.slice (some ⟨b2,o2,none⟩) nr er) ⟨b1,o1 + p * 6,none⟩ ⟨b2,o2 + p * 6,none⟩ (.int .i64 a.rest[p].S) x1 x2' x3 y1 y2' y3 (.int .u64 (hi a.rest[p].R)) (.int .u64 (lo a.rest[p].R)) :=
    ⟨x2,y2,gb_keeps GX.out a0,gb_keeps GX.out a1,gb_keeps GX.out a2,gb_keeps GX.out a3,gb_keeps GX.out a4,gb_keeps GX.out a5,gb_keeps GX.out k0,gb_keeps GX.out k1,gb_keeps GX.out k2,gb_keeps GX.out k3,gb_keeps GX.out k4,gb_keeps GX.out k5⟩
   obtain ⟨u1,u2,e,z0⟩:=r1;subst e
   obtain ⟨u3,u4,e,z1⟩:=r2;subst e
   obtain ⟨u5,u6,e,z2⟩:=r3;subst e
   obtain ⟨u7,u8,e,z3⟩:=t1;subst e
   obtain ⟨u9,u10,e,z4⟩:=t2;subst e
   obtain ⟨u11,u12,e,z5⟩:=t3;subst e
   dsimp only [rv] at cr'
   generalize Value.slice u1 _ u2=x1 at *
   generalize Value.slice u3 _ u4=x2' at *
   generalize Value.slice u5 _ u6=x3 at *
   generalize Value.slice u7 _ u8=y1 at *
   generalize Value.slice u9 _ u10=y2' at *
   generalize Value.slice u11 _ u12=y3 at *
   generalize Value.int .i64 a.rest[p].S=S at *
   generalize Value.int .u64 (hi a.rest[p].R)=R1 at *
   generalize Value.int .u64 (lo a.rest[p].R)=R2 at *
   clear z0 z1 z2 z3 z4 z5 a0 a1 a2 a3 a4 a5 k0 k1 k2 k3 k4 k5 fw hpl
   go_wp2_with fail
   refine wp_region_held_drew (S:=fun W=>Tw W w.heap.size (.slice (some ⟨b1,o1,none⟩) nr cr) (.slice (some ⟨b2,o2,none⟩) nr er) ⟨b1,o1 + p * 6,none⟩ ⟨b2,o2 + p * 6,none⟩ S x1 x2' x3 y1 y2' y3 R1 R2) (by kernel_rfl) (FS0) (fun hHeld=>?_)
   refine tkn 0 ?_ rfl ?_ ?_;rotate_left;·(rintro w ⟨s0,s1,s2,s3,s4,s5,s6,s7,s8,s9,s10,s11,s12,s13⟩;go_simp;try rfl)
   try simp only [pt]
   refine tkn 1 ?_ rfl ?_ ?_;rotate_left;·(rintro w ⟨s0,s1,s2,s3,s4,s5,s6,s7,s8,s9,s10,s11,s12,s13⟩;go_simp;try rfl)
   try simp only [pt]
   refine tkn 2 ?_ rfl ?_ ?_;rotate_left;·(rintro w ⟨s0,s1,s2,s3,s4,s5,s6,s7,s8,s9,s10,s11,s12,s13⟩;go_simp;try rfl)
   try simp only [pt]
   refine tkn 3 ?_ rfl ?_ ?_;rotate_left;·(rintro w ⟨s0,s1,s2,s3,s4,s5,s6,s7,s8,s9,s10,s11,s12,s13⟩;go_simp;try rfl)
   try simp only [pt]
   refine tkn 4 ?_ rfl ?_ ?_;rotate_left;·(rintro w ⟨s0,s1,s2,s3,s4,s5,s6,s7,s8,s9,s10,s11,s12,s13⟩;go_simp;try rfl)
   try simp only [pt]
   refine tkn 5 ?_ rfl ?_ ?_;rotate_left;·(rintro w ⟨s0,s1,s2,s3,s4,s5,s6,s7,s8,s9,s10,s11,s12,s13⟩;go_simp;try rfl)
   try simp only [pt]
   refine tkn 6 ?_ rfl ?_ ?_;rotate_left;·(rintro w ⟨s0,s1,s2,s3,s4,s5,s6,s7,s8,s9,s10,s11,s12,s13⟩;go_simp;try rfl)
   try simp only [pt]
   refine tkn 7 ?_ rfl ?_ ?_;rotate_left;·(rintro w ⟨s0,s1,s2,s3,s4,s5,s6,s7,s8,s9,s10,s11,s12,s13⟩;go_simp;try rfl)
   try simp only [pt]
   refine tkn 8 ?_ rfl ?_ ?_;rotate_left;·(rintro w ⟨s0,s1,s2,s3,s4,s5,s6,s7,s8,s9,s10,s11,s12,s13⟩;go_simp;try rfl)
   try simp only [pt]
   refine tkn 9 ?_ rfl ?_ ?_;rotate_left;·(rintro w ⟨s0,s1,s2,s3,s4,s5,s6,s7,s8,s9,s10,s11,s12,s13⟩;go_simp;try rfl)
   try simp only [pt]
   refine rdn 10 rfl (fun K hK=>?_)
   go_simp
   refine (cr' _ GX.out).mono ?_
   rintro e w4 ⟨rfl,g4⟩
   refine hK.out _ _ (hHeld.gb g4.gb) (fun hHeld=>?_)
   clear hK K
   try simp only [pt]
   refine tkn 11 ?_ rfl ?_ ?_;rotate_left;·(rintro w ⟨s0,s1,s2,s3,s4,s5,s6,s7,s8,s9,s10,s11,s12,s13⟩;go_simp;try rfl)
   try simp only [pt]
   refine wpAnyH_done (by kernel_rfl) ?_ _
   go_wp2
   go_roundw
   case rel=>exact ⟨p + 1,by first | rfl | go_num | simp,hpn,gb_trans X.out.drew g4.gb⟩
   case measure=>simp [intOf];omega
  ·have hpi:¬ (p:Int) < (nr:Int):=by omega
   have G:Hid (Gb w wr):=gb_trans G0.out X.out
   go_wp2
   go_ret
   exact ⟨rfl,G.out⟩
end Go.Proofs.YtcipdampcmfmaaaGreat
