import Derived.Test.YtcipdampcmfmaabGreatJa30
import Derived.Test.YtcipdampcmfmaabGreatJa20
import Derived.Test.YtcipdampcmfmaabGreatJa4
namespace Go.Proofs.YtcipdampcmfmaabGreat
open Go.RowKit Go.Sort Go.Maps
set_option maxRecDepth 100000
set_option maxHeartbeats 4000000
theorem one_new (w:World) (x:Value) (t:TypeId):∀ j u,[x][j]? = some u->(w.alloc (.cells #[x] t)).cell? ((⟨w.heap.size,0,none⟩:Addr).add j)=some u:=by
 intro j u hj
 rw [Addr.add_lit,Nat.zero_add]
 exact cell_cur (heap_new w _) (by simpa using hj)
theorem Tryz.info_insI:(Tryz.prog.info? 3).map (fun i=>(i.zero,i.size,i.bytes))=some (some (.int .i64 0),1,8):=by kernel_rfl
theorem info_insI:∃ i0,Tryz.prog.info? 3=some i0/\i0.zero=some (.int .i64 0)/\i0.size=1/\i0.bytes=8:=by
 have h:=Tryz.info_insI
 cases hi:Tryz.prog.info? 3 with
 | none=>rw [hi] at h;cases h
 | some i =>
  rw [hi] at h
  simp only [Option.map_some,Option.some.injEq,Prod.mk.injEq] at h
  exact ⟨i,rfl,h.1,h.2.1,h.2.2⟩
theorem lookAt_c {Z w0 wr:World} {sb hb k:Nat} {q:List Int} {s:SV} {vs vr vh vq:Value} {ri:Int} {rl:List Int} {u:Value} (h:SA Z w0 wr sb hb k vq q s vs vr vh) (hu:RdI w0 u rl) (hd:distE q rl=0) (hb1:1<=s.bud) (hFew:s.seen.length + 1<=512) (hbm:s.bud<=1000000) :
  Calls Tryz.prog 63 #[.pointer (some ⟨sb,0,none⟩),.agg #[.int .i64 ri,u]] wr fun e W'=>e=.returned (.tuple #[])/\∃ vs2 vh2,SA Z w0 W' sb hb k vq q ⟨s.seen ++ [(ri,rl)],s.bud - 1,s.rest⟩ vs2 vr vh2/\Frm wr W':=by
 have DE:distE q rl=0/\distV q rl=dst q rl:=⟨hd,by unfold distV;rw [if_pos hd]⟩
 obtain ⟨qa,qc,eq,_⟩:=h.q
 subst eq
 have k3':=hu
 obtain ⟨ra,rc,eu,_⟩:=hu
 subst eu
 have CD0:∀ W',Gb wr W'->Calls Tryz.prog 51 #[.slice qa q.length qc,.slice ra rl.length rc] W' fun e w'=>e=.returned (.tuple #[.agg #[.int .u64 (hi (dst q rl)),.int .u64 (lo (dst q rl))],.int .i64 0])/\Gb W' w':=fun W' g=>by
  have g0:=gb_trans h.gb g
  have:=dist_c (h.q.gb g0) (k3'.gb g0)
  rw [DE.1,DE.2] at this
  exact this.mono fun e w' hh=>⟨hh.1,hh.2.gb⟩
 obtain ⟨dh,hdh⟩:∃ dh,dh=hi (dst q rl):=⟨_,rfl⟩
 obtain ⟨dl,hdl⟩:∃ dl,dl=lo (dst q rl):=⟨_,rfl⟩
 rw [<- hdh,<- hdl] at CD0
 have hbw:(s.bud:Int) - 1=((s.bud - 1:Nat):Int):=by omega
 generalize hrn:rl.length=rn at *
 generalize hnq:q.length=nq at *
 have gR:Gb wr (wr.alloc (.cells #[.int .i64 ri,.slice ra rn rc] 45)):=gb_alloc (Below.refl _ _) _
 have CD:Hid (∀ W',Gb (wr.alloc (.cells #[.int .i64 ri,.slice ra rn rc] 45)).drew W'->Calls Tryz.prog 51 #[.slice qa nq qc,.slice ra rn rc] W' fun e w'=>e=.returned (.tuple #[.agg #[.int .u64 dh,.int .u64 dl],.int .i64 0])/\Gb W' w'):=fun W' g=>CD0 W' (gb_trans gR.drew g)
 have FS8:(fun W=>W.cell? ⟨sb,0,none⟩=some (.slice qa nq qc)/\W.cell? ⟨wr.heap.size,1,none⟩=some (.slice ra rn rc)) (wr.alloc (.cells #[.int .i64 ri,.slice ra rn rc] 45)).drew:=⟨gb_keeps gR.drew h.cells.1,by simp [go_sem]⟩
 have keep8:∀ w',Gb (wr.alloc (.cells #[.int .i64 ri,.slice ra rn rc] 45)).drew w'->(fun W=>W.cell? ⟨sb,0,none⟩=some (.slice qa nq qc)/\W.cell? ⟨wr.heap.size,1,none⟩=some (.slice ra rn rc)) w':=fun w' g=>⟨gb_keeps g FS8.1,gb_keeps g FS8.2⟩
 have K8A:Hid (∀ w1,Gb (wr.alloc (.cells #[.int .i64 ri,.slice ra rn rc] 45)).drew w1->(fun W=>W.cell? ⟨sb,0,none⟩=some (.slice qa nq qc)/\W.cell? ⟨wr.heap.size,1,none⟩=some (.slice ra rn rc)) (w1.alloc (.cells #[.int .u64 dh,.int .u64 dl] 40))):=fun w1 g=>keep8 _ (gb_alloc g _)
 have K8B:Hid (∀ w1,Gb ((wr.alloc (.cells #[.int .i64 ri,.slice ra rn rc] 45)).drew.alloc (.cells #[.int .u64 0,.int .u64 0] 40)) w1->(fun W=>W.cell? ⟨sb,0,none⟩=some (.slice qa nq qc)/\W.cell? ⟨wr.heap.size,1,none⟩=some (.slice ra rn rc)) ((w1.setCell ⟨wr.heap.size + 1,0,none⟩ (.int .u64 dh)).setCell ⟨wr.heap.size + 1,1,none⟩ (.int .u64 dl))):=fun w1 g=>keep8 _ (gb_set (gb_set (gb_trans (gb_alloc (Below.refl _ _) _) g) (by simp [World.size_alloc]) _) (by simp [World.size_alloc]) _)
 have HZ:∀ w1,Gb ((wr.alloc (.cells #[.int .i64 ri,.slice ra rn rc] 45)).drew.alloc (.cells #[.int .u64 0,.int .u64 0] 40)) w1->w1.heap[wr.heap.size + 1]? = some (.cells #[.int .u64 0,.int .u64 0] 40 (0,0)):=fun w1 g=>by
  rw [g.block (wr.heap.size + 1) (by simp [World.size_alloc])]
  have:=heap_new (wr.alloc (.cells #[.int .i64 ri,.slice ra rn rc] 45)).drew (.cells #[.int .u64 0,.int .u64 0] 40)
  simpa [World.size_alloc] using this
 have Z8:Hid (∀ w1,Gb ((wr.alloc (.cells #[.int .i64 ri,.slice ra rn rc] 45)).drew.alloc (.cells #[.int .u64 0,.int .u64 0] 40)) w1->(∃ y,w1.cell? ⟨wr.heap.size + 1,0,none⟩=some y)/\(∃ y,w1.cell? ⟨wr.heap.size + 1,1,none⟩=some y)/\w1.frozen? ⟨wr.heap.size + 1,0,none⟩=false/\w1.frozen? ⟨wr.heap.size + 1,1,none⟩=false):=fun w1 g=>by
  have hb:=HZ w1 g
  exact ⟨⟨_,cell_cur hb rfl⟩,⟨_,cell_cur hb rfl⟩,by simp [World.frozen?,hb],by simp [World.frozen?,hb]⟩
 have PX:∀ wb wx,Gb (wr.alloc (.cells #[.int .i64 ri,.slice ra rn rc] 45)) wx->wx.cell? ⟨wb,0,none⟩=some (.int .u64 dh)->wx.cell? ⟨wb,1,none⟩=some (.int .u64 dl)->Ty wx wb 40 ->
   ((fun W=>W.cell? ⟨sb,1,none⟩=some (.pointer (some ⟨hb,0,none⟩))/\W.cell? ⟨wr.heap.size,0,none⟩=some (.int .i64 ri)/\W.cell? ⟨wb,0,none⟩=some (.int .u64 dh)/\W.cell? ⟨wb,1,none⟩=some (.int .u64 dl)) wx.drew)/\(Calls Tryz.prog 75 #[.pointer (some ⟨hb,0,none⟩),.agg #[.int .i64 ri,.int .u64 dh,.int .u64 dl]] wx.drew fun e w'=>(∃ b,e=.returned (.bool b))/\Hid (∃ v',Tk.Has w' hb k v' (Tk.keep k (Tk.firsts k (hitsOf q s.seen)) (hitOf q (ri,rl)))/\Tk.Kp (fun b=>b=hb ∨ some b=vh.ownBlock) wx.drew w'/\(v'.ownBlock=vh.ownBlock ∨ ∀ g,v'.ownBlock=some g->wx.drew.heap.size<=g))) /\
   Hid (∀ w2,Hid (∃ v',Tk.Has w2 hb k v' (Tk.keep k (Tk.firsts k (hitsOf q s.seen)) (hitOf q (ri,rl)))/\Tk.Kp (fun b=>b=hb ∨ some b=vh.ownBlock) wx.drew w2/\(v'.ownBlock=vh.ownBlock ∨ ∀ g,v'.ownBlock=some g->wx.drew.heap.size<=g)) ->
    ((fun W=>W.cell? ⟨sb,1,none⟩=some (.pointer (some ⟨hb,0,none⟩))/\W.cell? ⟨wr.heap.size,0,none⟩=some (.int .i64 ri)/\W.cell? ⟨wb,0,none⟩=some (.int .u64 dh)/\W.cell? ⟨wb,1,none⟩=some (.int .u64 dl)) w2)/\w2.drew.cell? ⟨sb,3,none⟩=some vs/\((fun W=>W.cell? ⟨wr.heap.size,0,none⟩=some (.int .i64 ri)) w2.drew)/\(w2.alloc (.cells #[.int .i64 ri] 3)).drew.cell? ⟨sb,3,none⟩=some vs/\∃ ns sa sc vb' nv' cv' W3,vs=.slice sa ns sc/\(Builtin.append_ #[26,26] 26 #[.slice sa ns sc,.slice (some ⟨w2.heap.size,0,none⟩) 1 1]).run Tryz.prog (w2.drew.alloc (.cells #[.int .i64 ri] 3))=.ok (.slice (some ⟨vb',0,none⟩) nv' cv') W3 /\
     Hid (((w2.drew.alloc (.cells #[.int .i64 ri] 3)).cell? ⟨wr.heap.size,0,none⟩=some (.int .i64 ri)->W3.cell? ⟨wr.heap.size,0,none⟩=some (.int .i64 ri))/\(W3.cell? ⟨wr.heap.size,0,none⟩=some (.int .i64 ri)->(W3.setCell ⟨sb,3,none⟩ (.slice (some ⟨vb',0,none⟩) nv' cv')).cell? ⟨wr.heap.size,0,none⟩=some (.int .i64 ri))) /\
     (∃ y,W3.cell? ⟨sb,3,none⟩=some y)/\W3.frozen? ⟨sb,3,none⟩=false/\Hid (((W3.setCell ⟨sb,3,none⟩ (.slice (some ⟨vb',0,none⟩) nv' cv')).cell? ⟨sb,2,none⟩=some (.int .i64 (s.bud:Int))/\(∀ i,(W3.setCell ⟨sb,3,none⟩ (.slice (some ⟨vb',0,none⟩) nv' cv')).frozen? ⟨sb,i,none⟩=false))/\∃ vs2 vh2,SA Z w0 ((W3.setCell ⟨sb,3,none⟩ (.slice (some ⟨vb',0,none⟩) nv' cv')).setCell ⟨sb,2,none⟩ (.int .i64 ((s.bud - 1:Nat):Int))) sb hb k (.slice qa nq qc) q ⟨s.seen ++ [(ri,rl)],s.bud - 1,s.rest⟩ vs2 vr vh2/\Frm wr ((W3.setCell ⟨sb,3,none⟩ (.slice (some ⟨vb',0,none⟩) nv' cv')).setCell ⟨sb,2,none⟩ (.int .i64 ((s.bud - 1:Nat):Int))))):=by
  intro wb wx gx a0 a1 tw
  have gX:Gb wr wx.drew:=(gb_trans gR gx).drew
  have hX:=h.grow gX
  have tR:Ty wx.drew wr.heap.size 45:=by
   have:Ty (wr.alloc (.cells #[.int .i64 ri,.slice ra rn rc] 45)) wr.heap.size 45:=⟨_,_,heap_new _ _⟩
   exact this.gb gx.drew
  refine ⟨⟨hX.cells.2.1,gb_keeps gx.drew (by simp [go_sem]),a0,a1⟩,?_,?_⟩
  ·have:=offer_has' hX.has (hitOf q (ri,rl))
   rw [show Tk.hv (hitOf q (ri,rl))=.agg #[.int .i64 ri,.int .u64 dh,.int .u64 dl] by rw [hdh,hdl]] at this
   exact this
  ·rintro w2 ⟨v1,hh1,kp1,hv1⟩
   have nS:∀ {b:Nat} {t:TypeId},Ty wx.drew b t->t ≠ 131->t ≠ 58->¬ (b=hb ∨ some b=vh.ownBlock):=fun ht h1 h2 e=>by
    rcases e with e | e
    ·exact ht.ne hX.thb h1 e
    ·exact ht.ne (hX.tvh e.symm) h2 rfl
   have kR:∀ {i:Nat} {y:Value},wx.drew.cell? ⟨wr.heap.size,i,none⟩=some y->w2.cell? ⟨wr.heap.size,i,none⟩=some y:=fun hc=>kp1.cell hc (nS tR (by decide) (by decide))
   have kW:∀ {i:Nat} {y:Value},wx.drew.cell? ⟨wb,i,none⟩=some y->w2.cell? ⟨wb,i,none⟩=some y:=fun hc=>kp1.cell hc (nS (tw.gb (Below.refl _ _).drew) (by decide) (by decide))
   have kS:∀ {i:Nat} {y:Value},wx.drew.cell? ⟨sb,i,none⟩=some y->w2.cell? ⟨sb,i,none⟩=some y:=fun hc=>kp1.cell hc (nS hX.tsb (by decide) (by decide))
   have r0:wx.drew.cell? ⟨wr.heap.size,0,none⟩=some (.int .i64 ri):=gb_keeps gx.drew (by simp [go_sem])
   have gI:Gb w2 (w2.drew.alloc (.cells #[.int .i64 ri] 3)):=gb_alloc (Below.refl _ _).drew _
   obtain ⟨i0,hi0,hz0,hz1,hz2⟩:=info_insI
   have sn2:Own (w2.drew.alloc (.cells #[.int .i64 ri] 3)) w0.heap.size vs (idsOf s.seen):=own_kpI (own_kpI hX.sn kp1 (fun g e=>nS (hX.tvs e) (by decide) (by decide))) (kpF gI) (fun _ _ h=>h)
   have hil:(idsOf s.seen).length=s.seen.length:=by unfold idsOf;rw [List.length_map]
   obtain ⟨sa,sc,es,_⟩:=sn2.rd
   have snr:=sn2
   unfold Own at snr
   rw [hil] at es snr
   obtain ⟨v',W3,hrun,hown,hgrow,hnn,hloc⟩:=run_append_own_at (P:=Tryz.prog) (w2.drew.alloc (.cells #[.int .i64 ri] 3)) w0.heap.size 26 26 3 i0 (.int .i64 0) 1 8 Tryz.underlying26 hi0 hz0 hz1 hz2 rfl (by decide)
    vs s.seen.length ((idsOf s.seen).map (Value.int .i64)) snr ⟨w2.heap.size,0,none⟩ 1 1 [.int .i64 ri] rfl (one_new _ _ _) (by simp [Value.oneCell']) (by simp only [maxLen];omega) (by omega) (by have:=sn2.lt;have:=hX.gb.size;have:=kp1.size;have:=gI.size;omega)
   obtain ⟨vb',nv',cv',ev'⟩:∃ vb' nv' cv',v'=.slice (some ⟨vb',0,none⟩) nv' cv':=by
    rcases hown.2 with ⟨e,_⟩ | ⟨g9,cap9,cur9,e,_⟩
    ·exact absurd (hnn.1 e).2 (by decide)
    ·exact ⟨g9,_,cap9,e⟩
   subst ev'
   obtain ⟨hF,blkF,frm⟩:=h.see (r:=(ri,rl)) gX hh1 kp1 hv1 gI hown hgrow hloc hFew hb1
   have tR2:Ty (w2.drew.alloc (.cells #[.int .i64 ri] 3)) wr.heap.size 45:=by
    obtain ⟨cc,ss,e⟩:=tR
    have:Ty w2 wr.heap.size 45:=⟨cc,ss,by rw [kp1.block _ (Array.getElem?_eq_some_iff.1 e).1 (nS ⟨cc,ss,e⟩ (by decide) (by decide))];exact e⟩
    exact this.gb gI
   have tS2:Ty (w2.drew.alloc (.cells #[.int .i64 ri] 3)) sb 95:=by
    obtain ⟨cc,ss,e⟩:=hX.tsb
    have:Ty w2 sb 95:=⟨cc,ss,by rw [kp1.block _ (Array.getElem?_eq_some_iff.1 e).1 (nS ⟨cc,ss,e⟩ (by decide) (by decide))];exact e⟩
    exact this.gb gI
   refine ⟨⟨kS hX.cells.2.1,kR r0,kW a0,kW a1⟩,kS hX.cells.2.2.2.1,kR r0,gb_keeps gI (kS hX.cells.2.2.2.1),s.seen.length,sa,sc,vb',nv',cv',W3,es,by rw [<- es];exact hrun,⟨fun hc=>grown_cellC hgrow hc (fun e=>tR2.ne (own_ty sn2 e) (by decide) rfl),fun hc=>((Tk.Kp.refl (fun b=>b=sb) W3).setCell (.inl rfl) (.slice (some ⟨vb',0,none⟩) nv' cv')).cell hc (tR2.ne tS2 (by decide))⟩,⟨_,cell_cur blkF rfl⟩,by simp [World.frozen?,blkF],⟨by simp [World.cell?,World.setCell,Array.getElem?_modify,blkF],fun i=>by simp [World.frozen?,World.setCell,Array.getElem?_modify,blkF]⟩,_,_,hF,frm⟩
 have PA:Hid (∀ w1,Gb (wr.alloc (.cells #[.int .i64 ri,.slice ra rn rc] 45)).drew w1->_):=fun w1 g=>PX w1.heap.size (w1.alloc (.cells #[.int .u64 dh,.int .u64 dl] 40)) (gb_alloc (gb_trans (Below.refl _ _).drew g) _) (by simp [go_sem]) (by simp [go_sem]) ⟨_,_,heap_new _ _⟩
 have PB:Hid (∀ w1,Gb ((wr.alloc (.cells #[.int .i64 ri,.slice ra rn rc] 45)).drew.alloc (.cells #[.int .u64 0,.int .u64 0] 40)) w1->_):=fun w1 g=>PX (wr.heap.size + 1) ((w1.setCell ⟨wr.heap.size + 1,0,none⟩ (.int .u64 dh)).setCell ⟨wr.heap.size + 1,1,none⟩ (.int .u64 dl)) (gb_set (gb_set (gb_trans (gb_alloc (Below.refl _ _).drew _) g) (by simp [World.size_alloc]) _) (by simp [World.size_alloc]) _) (by simp [World.cell?,World.setCell,Array.getElem?_modify,HZ w1 g]) (by simp [World.cell?,World.setCell,Array.getElem?_modify,HZ w1 g]) ⟨#[.int .u64 dh,.int .u64 dl],(0,0),by simp [World.setCell,Array.getElem?_modify,HZ w1 g]⟩
 clear PX HZ keep8 gR CD0 h k3' DE hdh hdl hrn hFew
 go_enter Tryz.func63,Tryz.ntmps63
 go_wp2_with fail
 refine wp_region_held_drew (S:=fun W=>W.cell? ⟨sb,0,none⟩=some (.slice qa nq qc)/\W.cell? ⟨wr.heap.size,1,none⟩=some (.slice ra rn rc)) (by kernel_rfl) (FS8) (fun hHeld=>?_)
 refine wpAnyH_take (i:=0) (v:=?_) rfl (by kernel_rfl) (by kernel_rfl) (by kernel_rfl) (fun _ _ _ h=>h) (Or.inl ⟨by rfl,?_⟩) (by assumption) ?_
 rotate_left 1
 ·(intro w hw;(obtain ⟨s0,s1⟩:=hw);go_simp;try with_reducible rfl)
 refine wpAnyH_take (i:=1) (v:=?_) rfl (by kernel_rfl) (by kernel_rfl) (by kernel_rfl) (fun _ _ _ h=>h) (Or.inl ⟨by rfl,?_⟩) (by assumption) ?_
 rotate_left 1
 ·(intro w hw;(obtain ⟨s0,s1⟩:=hw);go_simp;try with_reducible rfl)
 refine wpAnyH_take (i:=2) (v:=?_) rfl (by kernel_rfl) (by kernel_rfl) (by kernel_rfl) (fun _ _ _ h=>h) (Or.inl ⟨by rfl,?_⟩) (by assumption) ?_
 rotate_left 1
 ·(intro w hw;(obtain ⟨s0,s1⟩:=hw);go_simp;try with_reducible rfl)
 refine wpAnyH_take (i:=3) (v:=?_) rfl (by kernel_rfl) (by kernel_rfl) (by kernel_rfl) (fun _ _ _ h=>h) (Or.inl ⟨by rfl,?_⟩) (by assumption) ?_
 rotate_left 1
 ·(intro w hw;(obtain ⟨s0,s1⟩:=hw);go_simp;try with_reducible rfl)
 refine wpAnyH_take (i:=4) (v:=?_) rfl (by kernel_rfl) (by kernel_rfl) (by kernel_rfl) (fun _ _ _ h=>h) (Or.inl ⟨by rfl,?_⟩) (by assumption) ?_
 rotate_left 1
 ·(intro w hw;(obtain ⟨s0,s1⟩:=hw);go_simp;try with_reducible rfl)
 refine wpAnyH_take (i:=5) (v:=?_) rfl (by kernel_rfl) (by kernel_rfl) (by kernel_rfl) (fun _ _ _ h=>h) (Or.inl ⟨by rfl,?_⟩) (by assumption) ?_
 rotate_left 1
 ·(intro w hw;(obtain ⟨s0,s1⟩:=hw);go_simp;try with_reducible rfl)
 refine wpAnyH_ready (rs:=[6,10]) (by kernel_rfl) (by simp) ?_
 refine AllReadyH.cons rfl (fun K hK=>?_) (AllReadyH.cons rfl (fun K hK=>?_) AllReadyH.nil)
 ·go_simp
  go_fit (CD.out _ (Below.refl _ _))
  rintro e w1 ⟨rfl,g1⟩
  refine hK.out _ _ (⟨gb_keeps (g1) hHeld.1,gb_keeps (g1) hHeld.2⟩) (fun hHeld=>?_)
  clear hK K
  refine wpAnyH_take (i:=7) (v:=?_) rfl (by kernel_rfl) (by kernel_rfl) (by kernel_rfl) (fun _ _ _ h=>h) (Or.inl ⟨by rfl,?_⟩) (by assumption) ?_
  rotate_left 1
  ·(intro w hw;(obtain ⟨s0,s1⟩:=hw);go_simp;try with_reducible rfl)
  refine wpAnyH_take (i:=8) (v:=?_) rfl (by kernel_rfl) (by kernel_rfl) (by kernel_rfl) (fun _ _ _ h=>h) (Or.inl ⟨by rfl,?_⟩) (by assumption) ?_
  rotate_left 1
  ·(intro w hw;(obtain ⟨s0,s1⟩:=hw);go_simp;try with_reducible rfl)
  refine wpAnyH_take (i:=9) (v:=?_) rfl (by kernel_rfl) (by kernel_rfl) (by kernel_rfl) (fun _ _ _ h=>h) (Or.inl ⟨by rfl,?_⟩) (by assumption) ?_
  rotate_left 1
  ·(intro w hw;(obtain ⟨s0,s1⟩:=hw);go_simp;try with_reducible rfl)
  refine rdn 10 rfl (fun K hK=>?_)
  go_simp
  refine hK.out _ _ (⟨gb_keeps (gb_alloc (Below.refl _ _) _) hHeld.1,gb_keeps (gb_alloc (Below.refl _ _) _) hHeld.2⟩) (fun hHeld=>?_)
  clear hK K
  refine rdn 11 rfl (fun K hK=>?_)
  go_simp
  refine hK.out _ _ (K8A.out _ g1) (fun hHeld=>?_)
  clear hK K
  refine wpAnyH_take (i:=12) (v:=?_) rfl (by kernel_rfl) (by kernel_rfl) (by kernel_rfl) (fun _ _ _ h=>h) (Or.inl ⟨by rfl,?_⟩) (by assumption) ?_
  rotate_left 1
  ·(intro w hw;(obtain ⟨s0,s1⟩:=hw);go_simp;try with_reducible rfl)
  refine wpAnyH_done (by kernel_rfl) ?_ _
  have PF:=PA.out _ g1
  clear hHeld g1 CD K8A K8B Z8 PA PB FS8
  obtain ⟨FS9,cO,NX⟩:=PF
  go_wp2_with fail
  refine wp_region_held_drew (S:=fun W=>W.cell? ⟨sb,1,none⟩=some (.pointer (some ⟨hb,0,none⟩))/\W.cell? ⟨wr.heap.size,0,none⟩=some (.int .i64 ri)/\W.cell? ⟨w1.heap.size,0,none⟩=some (.int .u64 dh)/\W.cell? ⟨w1.heap.size,1,none⟩=some (.int .u64 dl)) (by kernel_rfl) (FS9) (fun hHeld=>?_)
  refine wpAnyH_take (i:=0) (v:=?_) rfl (by kernel_rfl) (by kernel_rfl) (by kernel_rfl) (fun _ _ _ h=>h) (Or.inl ⟨by rfl,?_⟩) (by assumption) ?_
  rotate_left 1
  ·(intro w hw;(obtain ⟨s0,s1,s2,s3⟩:=hw);go_simp;try with_reducible rfl)
  refine wpAnyH_take (i:=1) (v:=?_) rfl (by kernel_rfl) (by kernel_rfl) (by kernel_rfl) (fun _ _ _ h=>h) (Or.inl ⟨by rfl,?_⟩) (by assumption) ?_
  rotate_left 1
  ·(intro w hw;(obtain ⟨s0,s1,s2,s3⟩:=hw);go_simp;try with_reducible rfl)
  refine wpAnyH_take (i:=2) (v:=?_) rfl (by kernel_rfl) (by kernel_rfl) (by kernel_rfl) (fun _ _ _ h=>h) (Or.inl ⟨by rfl,?_⟩) (by assumption) ?_
  rotate_left 1
  ·(intro w hw;(obtain ⟨s0,s1,s2,s3⟩:=hw);go_simp;try with_reducible rfl)
  refine wpAnyH_take (i:=3) (v:=?_) rfl (by kernel_rfl) (by kernel_rfl) (by kernel_rfl) (fun _ _ _ h=>h) (Or.inl ⟨by rfl,?_⟩) (by assumption) ?_
  rotate_left 1
  ·(intro w hw;(obtain ⟨s0,s1,s2,s3⟩:=hw);go_simp;try with_reducible rfl)
  refine wpAnyH_take (i:=4) (v:=?_) rfl (by kernel_rfl) (by kernel_rfl) (by kernel_rfl) (fun _ _ _ h=>h) (Or.inl ⟨by rfl,?_⟩) (by assumption) ?_
  rotate_left 1
  ·(intro w hw;(obtain ⟨s0,s1,s2,s3⟩:=hw);go_simp;try with_reducible rfl)
  refine wpAnyH_take (i:=5) (v:=?_) rfl (by kernel_rfl) (by kernel_rfl) (by kernel_rfl) (fun _ _ _ h=>h) (Or.inl ⟨by rfl,?_⟩) (by assumption) ?_
  rotate_left 1
  ·(intro w hw;(obtain ⟨s0,s1,s2,s3⟩:=hw);go_simp;try with_reducible rfl)
  refine wpAnyH_take (i:=6) (v:=?_) rfl (by kernel_rfl) (by kernel_rfl) (by kernel_rfl) (fun _ _ _ h=>h) (Or.inl ⟨by rfl,?_⟩) (by assumption) ?_
  rotate_left 1
  ·(intro w hw;(obtain ⟨s0,s1,s2,s3⟩:=hw);go_simp;try with_reducible rfl)
  refine wpAnyH_take (i:=7) (v:=?_) rfl (by kernel_rfl) (by kernel_rfl) (by kernel_rfl) (fun _ _ _ h=>h) (Or.inl ⟨by rfl,?_⟩) (by assumption) ?_
  rotate_left 1
  ·(intro w hw;(obtain ⟨s0,s1,s2,s3⟩:=hw);go_simp;try with_reducible rfl)
  refine rdn 8 rfl (fun K hK=>?_)
  go_simp
  go_fit cO
  rintro e w2 ⟨⟨bb,rfl⟩,hOf⟩
  obtain ⟨K9,l3,FS10,l3a,ns,sa,sc,vb',nv',cv',W3,rfl,hrun,K10,⟨y3,k3⟩,f3,FIN⟩:=NX.out _ hOf
  clear hOf cO NX
  refine hK.out _ _ (K9) (fun hHeld=>?_)
  clear hK K
  refine wpAnyH_done (by kernel_rfl) ?_ _
  clear hHeld K9 FS9
  go_wp2_with fail
  refine wp_region_held_drew (S:=fun W=>W.cell? ⟨wr.heap.size,0,none⟩=some (.int .i64 ri)) (by kernel_rfl) (FS10) (fun hHeld=>?_)
  refine wpAnyH_take (i:=0) (v:=?_) rfl (by kernel_rfl) (by kernel_rfl) (by kernel_rfl) (fun _ _ _ h=>h) (Or.inl ⟨by rfl,?_⟩) (by assumption) ?_
  rotate_left 1
  ·(intro w hw;(have s0:=hw);go_simp;try with_reducible rfl)
  refine wpAnyH_take (i:=1) (v:=?_) rfl (by kernel_rfl) (by kernel_rfl) (by kernel_rfl) (fun _ _ _ h=>h) (Or.inl ⟨by rfl,?_⟩) (by assumption) ?_
  rotate_left 1
  ·(intro w hw;(have s0:=hw);go_simp;try with_reducible rfl)
  refine wpAnyH_take (i:=2) (v:=?_) rfl (by kernel_rfl) (by kernel_rfl) (by kernel_rfl) (fun _ _ _ h=>h) (Or.inl ⟨by rfl,?_⟩) (by assumption) ?_
  rotate_left 1
  ·(intro w hw;(have s0:=hw);go_simp;try with_reducible rfl)
  refine wpAnyH_take (i:=3) (v:=?_) rfl (by kernel_rfl) (by kernel_rfl) (by kernel_rfl) (fun _ _ _ h=>h) (Or.inl ⟨by rfl,?_⟩) (by assumption) ?_
  rotate_left 1
  ·(intro w hw;(have s0:=hw);go_simp;try with_reducible rfl)
  refine wpAnyH_take (i:=5) (v:=?_) rfl (by kernel_rfl) (by kernel_rfl) (by kernel_rfl) (fun _ _ _ h=>h) (Or.inl ⟨by rfl,?_⟩) (by assumption) ?_
  rotate_left 1
  ·(intro w hw;(have s0:=hw);go_simp;try with_reducible rfl)
  refine wpAnyH_take (i:=6) (v:=?_) rfl (by kernel_rfl) (by kernel_rfl) (by kernel_rfl) (fun _ _ _ h=>h) (Or.inl ⟨by rfl,?_⟩) (by assumption) ?_
  rotate_left 1
  ·(intro w hw;(have s0:=hw);go_simp;try with_reducible rfl)
  refine wpAnyH_ready (rs:=[4,7]) (by kernel_rfl) (by simp) ?_
  refine AllReadyH.cons rfl (fun K hK=>?_) (AllReadyH.cons rfl (fun K hK=>?_) AllReadyH.nil)
  ·go_simp
   refine hK.out _ _ (hHeld) (fun hHeld=>?_)
   clear hK K
   refine rdn 7 rfl (fun K hK=>?_)
   go_simp
   refine hK.out _ _ (gb_keeps (gb_alloc (Below.refl _ _) _) hHeld) (fun hHeld=>?_)
   clear hK K
   refine rdn 8 rfl (fun K hK=>?_)
   refine app_run (by rfl) _ _ _ (by rfl) ⟨.slice sa ns sc,.slice (some ⟨w2.heap.size,0,none⟩) 1 1,_,_,(by go_simp),(by go_simp),hrun,?_⟩
   refine hK.out _ _ (K10.out.1 hHeld) (fun hHeld=>?_)
   clear hK K
   refine wpAnyH_take (i:=9) (v:=?_) rfl (by kernel_rfl) (by kernel_rfl) (by kernel_rfl) (fun _ _ _ h=>h) (Or.inl ⟨by rfl,?_⟩) (by assumption) ?_
   rotate_left 1
   ·(intro w hw;(have s0:=hw);go_simp;try with_reducible rfl)
   refine wpAnyH_take (i:=10) (v:=?_) rfl (by kernel_rfl) (by kernel_rfl) (by kernel_rfl) (fun _ _ _ h=>h) (Or.inl ⟨by rfl,?_⟩) (by assumption) ?_
   rotate_left 1
   ·(intro w hw;(have s0:=hw);go_simp;try with_reducible rfl)
   refine rdn 11 rfl (fun K hK=>?_)
   go_simp
   refine hK.out _ _ (K10.out.2 hHeld) (fun hHeld=>?_)
   clear hK K
   refine wpAnyH_done (by kernel_rfl) ?_ _
   clear hHeld hrun K10 FS10 l3 l3a
   obtain ⟨⟨b2,b3⟩,FIN2⟩:=FIN.out
   have FF:Hid _:=FIN2
   have b4:=b3 2
   clear FIN FIN2 b3
   go_wp2
   go_end0
   exact ⟨rfl,FF.out⟩
  ·go_simp
   refine hK.out _ _ (gb_keeps (gb_alloc (Below.refl _ _) _) hHeld) (fun hHeld=>?_)
   clear hK K
   refine rdn 4 rfl (fun K hK=>?_)
   go_simp
   refine hK.out _ _ (hHeld) (fun hHeld=>?_)
   clear hK K
   refine rdn 8 rfl (fun K hK=>?_)
   refine app_run (by rfl) _ _ _ (by rfl) ⟨.slice sa ns sc,.slice (some ⟨w2.heap.size,0,none⟩) 1 1,_,_,(by go_simp),(by go_simp),hrun,?_⟩
   refine hK.out _ _ (K10.out.1 hHeld) (fun hHeld=>?_)
   clear hK K
   refine wpAnyH_take (i:=9) (v:=?_) rfl (by kernel_rfl) (by kernel_rfl) (by kernel_rfl) (fun _ _ _ h=>h) (Or.inl ⟨by rfl,?_⟩) (by assumption) ?_
   rotate_left 1
   ·(intro w hw;(have s0:=hw);go_simp;try with_reducible rfl)
   refine wpAnyH_take (i:=10) (v:=?_) rfl (by kernel_rfl) (by kernel_rfl) (by kernel_rfl) (fun _ _ _ h=>h) (Or.inl ⟨by rfl,?_⟩) (by assumption) ?_
   rotate_left 1
   ·(intro w hw;(have s0:=hw);go_simp;try with_reducible rfl)
   refine rdn 11 rfl (fun K hK=>?_)
   go_simp
   refine hK.out _ _ (K10.out.2 hHeld) (fun hHeld=>?_)
   clear hK K
   refine wpAnyH_done (by kernel_rfl) ?_ _
   clear hHeld hrun K10 FS10 l3 l3a
   obtain ⟨⟨b2,b3⟩,FIN2⟩:=FIN.out
   have FF:Hid _:=FIN2
   have b4:=b3 2
   clear FIN FIN2 b3
   go_wp2
   go_end0
   exact ⟨rfl,FF.out⟩
 ·go_simp
  refine hK.out _ _ (⟨gb_keeps (gb_alloc (Below.refl _ _) _) hHeld.1,gb_keeps (gb_alloc (Below.refl _ _) _) hHeld.2⟩) (fun hHeld=>?_)
  clear hK K
  refine rdn 6 rfl (fun K hK=>?_)
  go_simp
  go_fit (CD.out _ (gb_alloc (Below.refl _ _) _))
  rintro e w1 ⟨rfl,g1⟩
  obtain ⟨⟨y0,z0⟩,⟨y1,z1⟩,f0,f1⟩:=Z8.out _ g1
  refine hK.out _ _ (⟨gb_keeps (g1) hHeld.1,gb_keeps (g1) hHeld.2⟩) (fun hHeld=>?_)
  clear hK K
  refine wpAnyH_take (i:=7) (v:=?_) rfl (by kernel_rfl) (by kernel_rfl) (by kernel_rfl) (fun _ _ _ h=>h) (Or.inl ⟨by rfl,?_⟩) (by assumption) ?_
  rotate_left 1
  ·(intro w hw;(obtain ⟨s0,s1⟩:=hw);go_simp;try with_reducible rfl)
  refine wpAnyH_take (i:=8) (v:=?_) rfl (by kernel_rfl) (by kernel_rfl) (by kernel_rfl) (fun _ _ _ h=>h) (Or.inl ⟨by rfl,?_⟩) (by assumption) ?_
  rotate_left 1
  ·(intro w hw;(obtain ⟨s0,s1⟩:=hw);go_simp;try with_reducible rfl)
  refine wpAnyH_take (i:=9) (v:=?_) rfl (by kernel_rfl) (by kernel_rfl) (by kernel_rfl) (fun _ _ _ h=>h) (Or.inl ⟨by rfl,?_⟩) (by assumption) ?_
  rotate_left 1
  ·(intro w hw;(obtain ⟨s0,s1⟩:=hw);go_simp;try with_reducible rfl)
  refine rdn 11 rfl (fun K hK=>?_)
  go_simp
  refine hK.out _ _ (K8B.out _ g1) (fun hHeld=>?_)
  clear hK K
  refine wpAnyH_take (i:=12) (v:=?_) rfl (by kernel_rfl) (by kernel_rfl) (by kernel_rfl) (fun _ _ _ h=>h) (Or.inl ⟨by rfl,?_⟩) (by assumption) ?_
  rotate_left 1
  ·(intro w hw;(obtain ⟨s0,s1⟩:=hw);go_simp;try with_reducible rfl)
  refine wpAnyH_done (by kernel_rfl) ?_ _
  have PF:=PB.out _ g1
  clear hHeld g1 CD K8A K8B Z8 PA PB FS8 z0 z1 f0 f1
  obtain ⟨FS9,cO,NX⟩:=PF
  go_wp2_with fail
  refine wp_region_held_drew (S:=fun W=>W.cell? ⟨sb,1,none⟩=some (.pointer (some ⟨hb,0,none⟩))/\W.cell? ⟨wr.heap.size,0,none⟩=some (.int .i64 ri)/\W.cell? ⟨(wr.heap.size + 1),0,none⟩=some (.int .u64 dh)/\W.cell? ⟨(wr.heap.size + 1),1,none⟩=some (.int .u64 dl)) (by kernel_rfl) (FS9) (fun hHeld=>?_)
  refine wpAnyH_take (i:=0) (v:=?_) rfl (by kernel_rfl) (by kernel_rfl) (by kernel_rfl) (fun _ _ _ h=>h) (Or.inl ⟨by rfl,?_⟩) (by assumption) ?_
  rotate_left 1
  ·(intro w hw;(obtain ⟨s0,s1,s2,s3⟩:=hw);go_simp;try with_reducible rfl)
  refine wpAnyH_take (i:=1) (v:=?_) rfl (by kernel_rfl) (by kernel_rfl) (by kernel_rfl) (fun _ _ _ h=>h) (Or.inl ⟨by rfl,?_⟩) (by assumption) ?_
  rotate_left 1
  ·(intro w hw;(obtain ⟨s0,s1,s2,s3⟩:=hw);go_simp;try with_reducible rfl)
  refine wpAnyH_take (i:=2) (v:=?_) rfl (by kernel_rfl) (by kernel_rfl) (by kernel_rfl) (fun _ _ _ h=>h) (Or.inl ⟨by rfl,?_⟩) (by assumption) ?_
  rotate_left 1
  ·(intro w hw;(obtain ⟨s0,s1,s2,s3⟩:=hw);go_simp;try with_reducible rfl)
  refine wpAnyH_take (i:=3) (v:=?_) rfl (by kernel_rfl) (by kernel_rfl) (by kernel_rfl) (fun _ _ _ h=>h) (Or.inl ⟨by rfl,?_⟩) (by assumption) ?_
  rotate_left 1
  ·(intro w hw;(obtain ⟨s0,s1,s2,s3⟩:=hw);go_simp;try with_reducible rfl)
  refine wpAnyH_take (i:=4) (v:=?_) rfl (by kernel_rfl) (by kernel_rfl) (by kernel_rfl) (fun _ _ _ h=>h) (Or.inl ⟨by rfl,?_⟩) (by assumption) ?_
  rotate_left 1
  ·(intro w hw;(obtain ⟨s0,s1,s2,s3⟩:=hw);go_simp;try with_reducible rfl)
  refine wpAnyH_take (i:=5) (v:=?_) rfl (by kernel_rfl) (by kernel_rfl) (by kernel_rfl) (fun _ _ _ h=>h) (Or.inl ⟨by rfl,?_⟩) (by assumption) ?_
  rotate_left 1
  ·(intro w hw;(obtain ⟨s0,s1,s2,s3⟩:=hw);go_simp;try with_reducible rfl)
  refine wpAnyH_take (i:=6) (v:=?_) rfl (by kernel_rfl) (by kernel_rfl) (by kernel_rfl) (fun _ _ _ h=>h) (Or.inl ⟨by rfl,?_⟩) (by assumption) ?_
  rotate_left 1
  ·(intro w hw;(obtain ⟨s0,s1,s2,s3⟩:=hw);go_simp;try with_reducible rfl)
  refine wpAnyH_take (i:=7) (v:=?_) rfl (by kernel_rfl) (by kernel_rfl) (by kernel_rfl) (fun _ _ _ h=>h) (Or.inl ⟨by rfl,?_⟩) (by assumption) ?_
  rotate_left 1
  ·(intro w hw;(obtain ⟨s0,s1,s2,s3⟩:=hw);go_simp;try with_reducible rfl)
  refine rdn 8 rfl (fun K hK=>?_)
  go_simp
  go_fit cO
  rintro e w2 ⟨⟨bb,rfl⟩,hOf⟩
  obtain ⟨K9,l3,FS10,l3a,ns,sa,sc,vb',nv',cv',W3,rfl,hrun,K10,⟨y3,k3⟩,f3,FIN⟩:=NX.out _ hOf
  clear hOf cO NX
  refine hK.out _ _ (K9) (fun hHeld=>?_)
  clear hK K
  refine wpAnyH_done (by kernel_rfl) ?_ _
  clear hHeld K9 FS9
  go_wp2_with fail
  refine wp_region_held_drew (S:=fun W=>W.cell? ⟨wr.heap.size,0,none⟩=some (.int .i64 ri)) (by kernel_rfl) (FS10) (fun hHeld=>?_)
  refine wpAnyH_take (i:=0) (v:=?_) rfl (by kernel_rfl) (by kernel_rfl) (by kernel_rfl) (fun _ _ _ h=>h) (Or.inl ⟨by rfl,?_⟩) (by assumption) ?_
  rotate_left 1
  ·(intro w hw;(have s0:=hw);go_simp;try with_reducible rfl)
  refine wpAnyH_take (i:=1) (v:=?_) rfl (by kernel_rfl) (by kernel_rfl) (by kernel_rfl) (fun _ _ _ h=>h) (Or.inl ⟨by rfl,?_⟩) (by assumption) ?_
  rotate_left 1
  ·(intro w hw;(have s0:=hw);go_simp;try with_reducible rfl)
  refine wpAnyH_take (i:=2) (v:=?_) rfl (by kernel_rfl) (by kernel_rfl) (by kernel_rfl) (fun _ _ _ h=>h) (Or.inl ⟨by rfl,?_⟩) (by assumption) ?_
  rotate_left 1
  ·(intro w hw;(have s0:=hw);go_simp;try with_reducible rfl)
  refine wpAnyH_take (i:=3) (v:=?_) rfl (by kernel_rfl) (by kernel_rfl) (by kernel_rfl) (fun _ _ _ h=>h) (Or.inl ⟨by rfl,?_⟩) (by assumption) ?_
  rotate_left 1
  ·(intro w hw;(have s0:=hw);go_simp;try with_reducible rfl)
  refine wpAnyH_take (i:=5) (v:=?_) rfl (by kernel_rfl) (by kernel_rfl) (by kernel_rfl) (fun _ _ _ h=>h) (Or.inl ⟨by rfl,?_⟩) (by assumption) ?_
  rotate_left 1
  ·(intro w hw;(have s0:=hw);go_simp;try with_reducible rfl)
  refine wpAnyH_take (i:=6) (v:=?_) rfl (by kernel_rfl) (by kernel_rfl) (by kernel_rfl) (fun _ _ _ h=>h) (Or.inl ⟨by rfl,?_⟩) (by assumption) ?_
  rotate_left 1
  ·(intro w hw;(have s0:=hw);go_simp;try with_reducible rfl)
  refine wpAnyH_ready (rs:=[4,7]) (by kernel_rfl) (by simp) ?_
  refine AllReadyH.cons rfl (fun K hK=>?_) (AllReadyH.cons rfl (fun K hK=>?_) AllReadyH.nil)
  ·go_simp
   refine hK.out _ _ (hHeld) (fun hHeld=>?_)
   clear hK K
   refine rdn 7 rfl (fun K hK=>?_)
   go_simp
   refine hK.out _ _ (gb_keeps (gb_alloc (Below.refl _ _) _) hHeld) (fun hHeld=>?_)
   clear hK K
   refine rdn 8 rfl (fun K hK=>?_)
   refine app_run (by rfl) _ _ _ (by rfl) ⟨.slice sa ns sc,.slice (some ⟨w2.heap.size,0,none⟩) 1 1,_,_,(by go_simp),(by go_simp),hrun,?_⟩
   refine hK.out _ _ (K10.out.1 hHeld) (fun hHeld=>?_)
   clear hK K
   refine wpAnyH_take (i:=9) (v:=?_) rfl (by kernel_rfl) (by kernel_rfl) (by kernel_rfl) (fun _ _ _ h=>h) (Or.inl ⟨by rfl,?_⟩) (by assumption) ?_
   rotate_left 1
   ·(intro w hw;(have s0:=hw);go_simp;try with_reducible rfl)
   refine wpAnyH_take (i:=10) (v:=?_) rfl (by kernel_rfl) (by kernel_rfl) (by kernel_rfl) (fun _ _ _ h=>h) (Or.inl ⟨by rfl,?_⟩) (by assumption) ?_
   rotate_left 1
   ·(intro w hw;(have s0:=hw);go_simp;try with_reducible rfl)
   refine rdn 11 rfl (fun K hK=>?_)
   go_simp
   refine hK.out _ _ (K10.out.2 hHeld) (fun hHeld=>?_)
   clear hK K
   refine wpAnyH_done (by kernel_rfl) ?_ _
   clear hHeld hrun K10 FS10 l3 l3a
   obtain ⟨⟨b2,b3⟩,FIN2⟩:=FIN.out
   have FF:Hid _:=FIN2
   have b4:=b3 2
   clear FIN FIN2 b3
   go_wp2
   go_end0
   exact ⟨rfl,FF.out⟩
  ·go_simp
   refine hK.out _ _ (gb_keeps (gb_alloc (Below.refl _ _) _) hHeld) (fun hHeld=>?_)
   clear hK K
   refine rdn 4 rfl (fun K hK=>?_)
   go_simp
   refine hK.out _ _ (hHeld) (fun hHeld=>?_)
   clear hK K
   refine rdn 8 rfl (fun K hK=>?_)
   refine app_run (by rfl) _ _ _ (by rfl) ⟨.slice sa ns sc,.slice (some ⟨w2.heap.size,0,none⟩) 1 1,_,_,(by go_simp),(by go_simp),hrun,?_⟩
   refine hK.out _ _ (K10.out.1 hHeld) (fun hHeld=>?_)
   clear hK K
   refine wpAnyH_take (i:=9) (v:=?_) rfl (by kernel_rfl) (by kernel_rfl) (by kernel_rfl) (fun _ _ _ h=>h) (Or.inl ⟨by rfl,?_⟩) (by assumption) ?_
   rotate_left 1
   ·(intro w hw;(have s0:=hw);go_simp;try with_reducible rfl)
   refine wpAnyH_take (i:=10) (v:=?_) rfl (by kernel_rfl) (by kernel_rfl) (by kernel_rfl) (fun _ _ _ h=>h) (Or.inl ⟨by rfl,?_⟩) (by assumption) ?_
   rotate_left 1
   ·(intro w hw;(have s0:=hw);go_simp;try with_reducible rfl)
   refine rdn 11 rfl (fun K hK=>?_)
   go_simp
   refine hK.out _ _ (K10.out.2 hHeld) (fun hHeld=>?_)
   clear hK K
   refine wpAnyH_done (by kernel_rfl) ?_ _
   clear hHeld hrun K10 FS10 l3 l3a
   obtain ⟨⟨b2,b3⟩,FIN2⟩:=FIN.out
   have FF:Hid _:=FIN2
   have b4:=b3 2
   clear FIN FIN2 b3
   go_wp2
   go_end0
   exact ⟨rfl,FF.out⟩
end Go.Proofs.YtcipdampcmfmaabGreat
