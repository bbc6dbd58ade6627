import Derived.Test.YtgbgejflmbhigaaGreatKw29
import Derived.Test.YtgbgejflmbhigaaGreatKw7
import Derived.Test.YtgbgejflmbhigaaGreatKw12
namespace Go.Proofs.YtgbgejflmbhigaaGreat
open Go.RowKit Go.Sort
set_option maxRecDepth 100000
set_option maxHeartbeats 2000000
theorem add_c {Iq:Nat->Prop} {w:World} {tb m leaf:Nat} {rs:List Rw} {F:List Nat} {x:Rt} (h:TreeAt Iq w tb m leaf rs F) (hv:OwnQ Iq w x.2.1 x.2.2) (hok:RowsOk (rs ++ [rwR x]) (m:Int)) :
  Calls Tryz.prog 41 #[.pointer (some ⟨tb,0,none⟩),.agg #[.int .i64 x.1,x.2.1]] w fun e w'=>e=.returned (.tuple #[])/\TOut Iq w tb m leaf F (insRw rs (rwR x)) w':=by
 obtain ⟨xi,u,xl⟩:=x
 obtain ⟨ua,uc,eu,_⟩:=hv.rd
 dsimp only at eu hv hok ⊢
 subst eu
 have hxl:xl.length=m:=by
  have:=chk_ok (hok.row (xi,xl) (by simp)).2
  simp only [] at this
  omega
 have hni:∀ y ∈ rs,y.1 ≠ xi:=fun y hy=>(ids_apart hok.ids).2.2 y hy (xi,xl) (by simp)
 have gA:∀ o,Gb w (w.alloc o):=fun o=>gb_alloc (Below.refl _ _) o
 have hT0:TreeAt Iq (w.alloc (.cells #[.int .i64 xi,.slice ua xl.length uc] 39)) tb m leaf rs F:=h.gb (gA _)
 have cF:=find_c hT0 xi
 obtain ⟨g,cap,d,rt,F1,hb,hd,hdm,hri,hok0,hrt,eF,hnd,hm,hl1,hl2,nF1,⟨rv0,er⟩,ltF,tF,gF,tg⟩:=h.open'
 have hplc:=plc_le rs xi
 have hdl:d.length=rs.length:=by rw [<- hdm,List.length_map]
 have tl:=(Array.getElem?_eq_some_iff.1 hb).1
 have gl:=(hd.row.lt g rfl).2
 have hfew:=hok0.few
 have hone:∀ v ∈ d.flatMap encR,v.oneCell'=true:=fun v hv=>by
  obtain ⟨y,hy,hv⟩:=List.mem_flatMap.1 hv
  simp only [List.mem_cons,List.not_mem_nil,or_false] at hv
  rcases hv with rfl | rfl
  ·rfl
  ·exact own_one (hd.vec y hy).own
 have NDF:F1.Nodup:=by rw [eF,List.nodup_cons,List.nodup_cons] at hnd;exact hnd.2.2
 generalize hnx:xl.length=nx at *
 obtain ⟨p,hp⟩:∃ p,p=plc rs xi:=⟨_,rfl⟩
 rw [<- hp] at cF hplc
 have HID:hasId rs xi=false:=by
  unfold hasId
  rw [List.any_eq_false]
  intro y hy
  simp [hni y hy]
 rw [HID] at cF
 have CN:Hid (∀ w1,Tk.Gw (w.alloc (.cells #[.int .i64 xi,.slice ua nx uc] 39)) w1->Calls Tryz.prog 80 #[.slice (some ⟨g,0,none⟩) d.length cap,.int .i64 (p:Int),.slice (some ⟨w1.drew.heap.size,0,none⟩) 1 1] (w1.drew.alloc (.cells #[.int .i64 xi,.slice ua nx uc] 39)) fun e w'=>InsO_insR (w1.drew.alloc (.cells #[.int .i64 xi,.slice ua nx uc] 39)) (.slice (some ⟨g,0,none⟩) d.length cap) d.length ((d.flatMap encR).take (p * 2) ++ [.int .i64 xi,.slice ua nx uc] ++ (d.flatMap encR).drop (p * 2)) e w'):=fun w1 g1=>by
  have gg:Gb w (w1.drew.alloc (.cells #[.int .i64 xi,.slice ua nx uc] 39)):=gb_alloc (gb_trans (gA _) g1.gr.drew) _
  refine insR_c (ownR_kp hd.row (kpF gg) (fun _ _ h=>h)) (by omega) (by omega) (vs:=[.int .i64 xi,.slice ua nx uc]) (heap_new _ _) rfl (fun e=>?_) hone (fun v hv=>?_)
  ·injection e with e
   have s0:=(gb_trans (gA (.cells #[.int .i64 xi,.slice ua nx uc] 39)) g1.gr.drew).size
   dsimp only at e
   omega
  ·simp only [List.mem_cons,List.not_mem_nil,or_false] at hv
   rcases hv with rfl | rfl <;> rfl
 obtain ⟨d',hd'⟩:∃ d':List Rt,d'=d.take p ++ (xi,.slice ua nx uc,xl) :: d.drop p:=⟨_,rfl⟩
 have ed':(d.flatMap encR).take (p * 2) ++ [.int .i64 xi,.slice ua nx uc] ++ (d.flatMap encR).drop (p * 2)=d'.flatMap encR:=by
  rw [flat_takeR,flat_dropR,hd',List.flatMap_append,List.flatMap_cons,List.append_assoc]
 have ld':d'.length=d.length + 1:=by rw [hd',List.length_append,List.length_cons,List.length_take,List.length_drop];omega
 have md':d'.map rwR=insRw rs (xi,xl):=by
  rw [hd',List.map_append,List.map_cons,List.map_take,List.map_drop,hdm,hp]
  rfl
 simp only [ed'] at CN
 have hpm:(aft true (xi,xl) rs).Perm (insRw rs (xi,xl)):=by
  unfold aft
  rw [if_pos rfl]
  exact (ins_perm rs (xi,xl)).symm
 have hokI:RowsOk (insRw rs (xi,xl)) (m:Int):=hok.perm (ins_perm rs (xi,xl)).symm
 have eg:∀ args w,(callFunc 81 args).run Tryz.prog w=.ok (.enter 81 args) w:=fun args w=>by first | rfl | kernel_rfl | simp [go_sem]
 have IXX:Hid (∀ w1,Tk.Gw (w.alloc (.cells #[.int .i64 xi,.slice ua nx uc] 39)) w1->∀ e w2,InsO_insR (w1.drew.alloc (.cells #[.int .i64 xi,.slice ua nx uc] 39)) (.slice (some ⟨g,0,none⟩) d.length cap) d.length (d'.flatMap encR) e w2->∃ g' cap',e=.returned (.slice (some ⟨g',0,none⟩) (d.length + 1) cap') /\
   Hid (Tk.Kp (fun k=>k=g) w w2/\OwnRs Iq w2 (.slice (some ⟨g',0,none⟩) (d.length + 1) cap') d'/\(g'=g ∨ w.heap.size<=g')/\w2.cell? ⟨w.heap.size,0,none⟩=some (.int .i64 xi)/\w2.cell? ⟨w.heap.size,1,none⟩=some (.slice ua nx uc)) /\
   (∀ i y,(w1.drew.alloc (.cells #[.int .i64 xi,.slice ua nx uc] 39)).cell? ⟨w.heap.size,i,none⟩=some y->w2.cell? ⟨w.heap.size,i,none⟩=some y)/\(∃ y,w2.cell? ⟨tb,2,none⟩=some y)/\w2.frozen? ⟨tb,2,none⟩=false/\(∀ (u:Value) i {y},w2.cell? ⟨w.heap.size,i,none⟩=some y->(w2.setCell ⟨tb,2,none⟩ u).cell? ⟨w.heap.size,i,none⟩=some y)):=fun w1 g1 e w2 hO=>by
  obtain ⟨g',cap',rfl,ho,hk,hw⟩:=hO
  have gg:Gb w (w1.drew.alloc (.cells #[.int .i64 xi,.slice ua nx uc] 39)):=gb_alloc (gb_trans (gA _) g1.gr.drew) _
  have sg:=gg.size
  have s0:=(gb_trans (gA (.cells #[.int .i64 xi,.slice ua nx uc] 39)) g1.gr.drew).size
  rw [World.size_alloc] at sg
  have hk':Tk.Kp (fun k=>k=g) (w1.drew.alloc (.cells #[.int .i64 xi,.slice ua nx uc] 39)) w2:=hk.mono fun k _ e=>by injection e with e;exact e.symm
  have k0:Tk.Kp (fun k=>k=g) w w2:=(Tk.Kp.of_gr gg).trans hk'
  have ni:NoInt w (fun k=>k=g):=fun k e cur s hc=>hd.noint k (by rw [e];rfl) cur s hc
  have cr:∀ i y,(w1.drew.alloc (.cells #[.int .i64 xi,.slice ua nx uc] 39)).cell? ⟨w.heap.size,i,none⟩=some y->w2.cell? ⟨w.heap.size,i,none⟩=some y:=fun i y hc=>hk'.cell hc (by intro e;dsimp only at e;omega)
  have c0:∀ i y,(w.alloc (.cells #[.int .i64 xi,.slice ua nx uc] 39)).cell? ⟨w.heap.size,i,none⟩=some y->(w1.drew.alloc (.cells #[.int .i64 xi,.slice ua nx uc] 39)).cell? ⟨w.heap.size,i,none⟩=some y:=fun i y hc=>gb_keeps (gb_alloc g1.gr.drew _) hc
  have hb2:w2.heap[tb]? = some (.cells #[.int .i64 (m:Int),.int .i64 (leaf:Int),.slice (some ⟨g,0,none⟩) d.length cap,rt] 77 (0,0)):=by rw [k0.block tb tl tg];exact hb
  refine ⟨g',cap',rfl,⟨k0,⟨?_,fun y hy=>?_,hd.up.le k0.size⟩,?_,cr _ _ (c0 _ _ (by simp [go_sem])),cr _ _ (c0 _ _ (by simp [go_sem]))⟩,cr,⟨_,cell_cur hb2 rfl⟩,by simp [World.frozen?,hb2],fun u i y hy=>((Tk.Kp.refl (fun k=>k=tb) w2).setCell (.inl rfl) u).cell hy (by intro e;dsimp only at e;omega)⟩
  ·rw [ld'];exact ho
  ·rw [hd'] at hy
   rcases List.mem_append.1 hy with hy | hy
   ·exact ownq_noint (hd.vec y (List.mem_of_mem_take hy)) k0 ni
   ·rcases List.mem_cons.1 hy with rfl | hy
    ·exact ownq_noint hv k0 ni
    ·exact ownq_noint (hd.vec y (List.mem_of_mem_drop hy)) k0 ni
  ·rcases hw with e | e
   ·injection e with e;exact .inl e.symm
   ·rw [World.size_alloc] at e;exact .inr (by omega)
 have NX:Hid (∀ g' cap' w2,Hid (Tk.Kp (fun k=>k=g) w w2/\OwnRs Iq w2 (.slice (some ⟨g',0,none⟩) (d.length + 1) cap') d'/\(g'=g ∨ w.heap.size<=g')/\w2.cell? ⟨w.heap.size,0,none⟩=some (.int .i64 xi)/\w2.cell? ⟨w.heap.size,1,none⟩=some (.slice ua nx uc)) ->
   ((fun W=>W.cell? ⟨w.heap.size,0,none⟩=some (.int .i64 xi)/\W.cell? ⟨w.heap.size,1,none⟩=some (.slice ua nx uc)/\W.cell? ⟨tb,1,none⟩=some (.int .i64 (leaf:Int))) (w2.setCell ⟨tb,2,none⟩ (.slice (some ⟨g',0,none⟩) (d.length + 1) cap')).drew)/\(w2.setCell ⟨tb,2,none⟩ (.slice (some ⟨g',0,none⟩) (d.length + 1) cap')).drew.cell? ⟨tb,3,none⟩=some (.pointer rv0) /\
   (Calls Tryz.prog 76 #[.pointer rv0,.agg #[.int .i64 xi,.slice ua nx uc],.int .i64 (leaf:Int),.func (.func 81) #[] #[.pointer (some ⟨w.heap.size,0,none⟩)]] (w2.setCell ⟨tb,2,none⟩ (.slice (some ⟨g',0,none⟩) (d.length + 1) cap')).drew fun e w'=>RtOut Iq (w2.setCell ⟨tb,2,none⟩ (.slice (some ⟨g',0,none⟩) (d.length + 1) cap')).drew m F1 (aft true (xi,xl) rs) e w') /\
   Hid (∀ e w4,RtOut Iq (w2.setCell ⟨tb,2,none⟩ (.slice (some ⟨g',0,none⟩) (d.length + 1) cap')).drew m F1 (aft true (xi,xl) rs) e w4->∃ pv,e=.returned (.pointer pv)/\Hid (TOut Iq w tb m leaf F (insRw rs (xi,xl)) (w4.setCell ⟨tb,3,none⟩ (.pointer pv))) /\
    (((w2.setCell ⟨tb,2,none⟩ (.slice (some ⟨g',0,none⟩) (d.length + 1) cap')).drew.cell? ⟨w.heap.size,0,none⟩=some (.int .i64 xi)->(w2.setCell ⟨tb,2,none⟩ (.slice (some ⟨g',0,none⟩) (d.length + 1) cap')).drew.cell? ⟨w.heap.size,1,none⟩=some (.slice ua nx uc)->(w2.setCell ⟨tb,2,none⟩ (.slice (some ⟨g',0,none⟩) (d.length + 1) cap')).drew.cell? ⟨tb,1,none⟩=some (.int .i64 (leaf:Int))->(fun W=>W.cell? ⟨w.heap.size,0,none⟩=some (.int .i64 xi)/\W.cell? ⟨w.heap.size,1,none⟩=some (.slice ua nx uc)/\W.cell? ⟨tb,1,none⟩=some (.int .i64 (leaf:Int))) w4)/\(w4.cell? ⟨w.heap.size,0,none⟩=some (.int .i64 xi)->w4.cell? ⟨w.heap.size,1,none⟩=some (.slice ua nx uc)->w4.cell? ⟨tb,1,none⟩=some (.int .i64 (leaf:Int))->(fun W=>W.cell? ⟨w.heap.size,0,none⟩=some (.int .i64 xi)/\W.cell? ⟨w.heap.size,1,none⟩=some (.slice ua nx uc)/\W.cell? ⟨tb,1,none⟩=some (.int .i64 (leaf:Int))) (w4.setCell ⟨tb,3,none⟩ (.pointer pv)))) /\
    (∃ y,w4.cell? ⟨tb,3,none⟩=some y)/\w4.frozen? ⟨tb,3,none⟩=false)):=by
  rintro g' cap' w2 ⟨k0,own2,hg',r0,r1⟩
  have hb2:w2.heap[tb]? = some (.cells #[.int .i64 (m:Int),.int .i64 (leaf:Int),.slice (some ⟨g,0,none⟩) d.length cap,rt] 77 (0,0)):=by rw [k0.block tb tl tg];exact hb
  have s2:=k0.size
  have tg':tb ≠ g':=by rcases hg' with e | e <;> omega
  have g'F:g' ∉ F1:=by
   rcases hg' with e | e
   ·rw [e];exact gF
   ·exact fun h=>by have:=ltF g' h;omega
  have hb3:(w2.setCell ⟨tb,2,none⟩ (.slice (some ⟨g',0,none⟩) (d.length + 1) cap')).drew.heap[tb]? = some (.cells #[.int .i64 (m:Int),.int .i64 (leaf:Int),.slice (some ⟨g',0,none⟩) (d.length + 1) cap',rt] 77 (0,0)):=by
   show (w2.setCell ⟨tb,2,none⟩ (.slice (some ⟨g',0,none⟩) (d.length + 1) cap')).heap[tb]? = _
   simp [World.setCell,Array.getElem?_modify,hb2]
  have nb2:NoInt w2 (fun k=>k=tb):=fun k e cur s hc=>by subst e;rw [hb2] at hc;simp at hc
  have k3:Tk.Kp (fun k=>k=tb) w2 (w2.setCell ⟨tb,2,none⟩ (.slice (some ⟨g',0,none⟩) (d.length + 1) cap')).drew:=by
   have:=(Tk.Kp.refl (fun k=>k=tb) w2).setCell (.inl rfl) (p:=⟨tb,2,none⟩) (.slice (some ⟨g',0,none⟩) (d.length + 1) cap')
   exact ⟨this.os,this.tape,this.output,this.size,this.block⟩
  have k03:Tk.Kp (fun k=>k=g ∨ k=tb) w (w2.setCell ⟨tb,2,none⟩ (.slice (some ⟨g',0,none⟩) (d.length + 1) cap')).drew:=(k0.mono (fun k _ h=>.inl h)).trans (k3.mono (fun k _ h=>.inr h))
  have ni:NoInt w (fun k=>k=g ∨ k=tb):=fun k e cur s hc=>by
   rcases e with e | e
   ·exact hd.noint k (by rw [e];rfl) cur s hc
   ·subst e;rw [hb] at hc;simp at hc
  have hrt3:=hrt.kp k03 ni (fun x hx e=>by rcases e with e | e;exact gF (e ▸ hx);exact tF (e ▸ hx))
  have own3:=own2.kp k3 nb2 (fun g e hg=>by cases e;exact tg' hg.symm)
  have c3:∀ i y,w2.cell? ⟨w.heap.size,i,none⟩=some y->(w2.setCell ⟨tb,2,none⟩ (.slice (some ⟨g',0,none⟩) (d.length + 1) cap')).drew.cell? ⟨w.heap.size,i,none⟩=some y:=fun i y hc=>k3.cell hc (by intro e;dsimp only at e;omega)
  have hcap:Cap Iq true (w2.setCell ⟨tb,2,none⟩ (.slice (some ⟨g',0,none⟩) (d.length + 1) cap')).drew w.heap.size (xi,.slice ua nx uc,xl):=⟨c3 _ _ r0,fun _=>c3 _ _ r1,ownq_noint hv k03 ni,hd.up.le k03.size⟩
  rw [er] at hrt3
  refine ⟨⟨c3 _ _ r0,c3 _ _ r1,cell_cur hb3 rfl⟩,by rw [<- er];exact cell_cur hb3 rfl,root_c hm ⟨hl1,hl2⟩ (chg_add m w.heap.size (xi,.slice ua nx uc,xl)) (hnx.trans hxl) eg hrt3 NDF (fun e=>by have:=ltF _ e;omega) hcap ⟨hok0.ids,by rw [if_pos rfl];exact hni⟩ hok0 (hokI.perm hpm.symm),?_⟩
  rintro e w4 ⟨pv,F1',rfl,hrt4,nd4,l4,k4⟩
  have tl3:=(Array.getElem?_eq_some_iff.1 hb3).1
  have hb4:w4.heap[tb]? = some (.cells #[.int .i64 (m:Int),.int .i64 (leaf:Int),.slice (some ⟨g',0,none⟩) (d.length + 1) cap',rt] 77 (0,0)):=by rw [k4.block tb tl3 tF];exact hb3
  have s3:=k03.size
  refine ⟨pv,rfl,?_,⟨fun a b c=>⟨?_,?_,?_⟩,fun a b c=>⟨?_,?_,?_⟩⟩,⟨_,cell_cur hb4 rfl⟩,by simp [World.frozen?,hb4]⟩
  ·exact tree_fin hb3 ld'.symm own3 md' (ins_ris hri hni) hokI hrt4 hpm nd4 l4 k4 hrt3.noint g'F tF tg' (k03.mono (fun k _ h=>by rcases h with h | h <;> rw [h,eF] <;> simp)) (fun y hy=>by rw [eF];simp [hy]) (by rw [eF];rcases hg' with e | e;exact .inl (by rw [e];simp);exact .inr e) (by rw [eF];simp) hm ⟨hl1,hl2⟩
  ·exact k4.cell a (fun e=>by have:=ltF _ e;dsimp only at this;omega)
  ·exact k4.cell b (fun e=>by have:=ltF _ e;dsimp only at this;omega)
  ·exact k4.cell c tF
  ·exact ((Tk.Kp.refl (fun k=>k=tb) w4).setCell (.inl rfl) (.pointer pv)).cell a (by intro e;dsimp only at e;omega)
  ·exact ((Tk.Kp.refl (fun k=>k=tb) w4).setCell (.inl rfl) (.pointer pv)).cell b (by intro e;dsimp only at e;omega)
  ·have hb5:(w4.setCell ⟨tb,3,none⟩ (.pointer pv)).heap[tb]? = some (.cells #[.int .i64 (m:Int),.int .i64 (leaf:Int),.slice (some ⟨g',0,none⟩) (d.length + 1) cap',.pointer pv] 77 (0,0)):=by simp [World.setCell,Array.getElem?_modify,hb4]
   exact cell_cur hb5 rfl
 have C2:Hid (∀ w1,Tk.Gw (w.alloc (.cells #[.int .i64 xi,.slice ua nx uc] 39)) w1->w1.drew.cell? ⟨tb,2,none⟩=some (.slice (some ⟨g,0,none⟩) d.length cap)/\((fun W=>W.cell? ⟨w.heap.size,0,none⟩=some (.int .i64 xi)/\W.cell? ⟨w.heap.size,1,none⟩=some (.slice ua nx uc)) w1.drew)/\(w1.alloc (.cells #[.int .i64 xi,.slice ua nx uc] 39)).drew.cell? ⟨tb,2,none⟩=some (.slice (some ⟨g,0,none⟩) d.length cap)):=fun w1 g1=>by
  have gg:=gb_trans (gA (.cells #[.int .i64 xi,.slice ua nx uc] 39)) g1.gr.drew
  have c:=gb_keeps gg (cell_cur (i:=2) hb rfl)
  refine ⟨c,⟨gb_keeps g1.gr.drew (by simp [go_sem]),gb_keeps g1.gr.drew (by simp [go_sem])⟩,gb_keeps (gb_alloc (Below.refl _ _) _) c⟩
 generalize d.length=nd at *
 clear h hv hok hT0 hb hd hdm hri hok0 hrt hnd nF1 ltF tF gF tg hdl hone NDF hni hxl hfew eg hpm hokI ed' ld' md' hd' hplc hp HID gA
 go_enter Tryz.func41,Tryz.ntmps41
 go_wp2_with fail
 go_fit cF
 rintro e w1 ⟨rfl,g1⟩
 obtain ⟨l2,FS2,l2a⟩:=C2.out _ g1
 have cN:=CN.out _ g1
 have IX:Hid _:=IXX.out _ g1
 clear cF g1 C2 CN IXX
 go_wp2_with fail
 refine wp_region_held_drew (S:=fun W=>W.cell? ⟨w.heap.size,0,none⟩=some (.int .i64 xi)/\W.cell? ⟨w.heap.size,1,none⟩=some (.slice ua nx uc)) (by kernel_rfl) (FS2) (fun hHeld=>?_)
 refine tkn 0 ?_ rfl ?_ ?_;rotate_left;·(rintro w ⟨s0,s1⟩;go_simp;try rfl)
 try simp only [Act.put,List.getElem_toArray,List.getElem_cons_zero,List.setIfInBounds_toArray,List.set_cons_zero,List.set_cons_succ]
 refine tkn 1 ?_ rfl ?_ ?_;rotate_left;·(rintro w ⟨s0,s1⟩;go_simp;try rfl)
 try simp only [Act.put,List.getElem_toArray,List.getElem_cons_zero,List.getElem_cons_succ,List.setIfInBounds_toArray,List.set_cons_zero,List.set_cons_succ]
 refine tkn 2 ?_ rfl ?_ ?_;rotate_left;·(rintro w ⟨s0,s1⟩;go_simp;try rfl)
 try simp only [Act.put,List.getElem_toArray,List.getElem_cons_zero,List.getElem_cons_succ,List.setIfInBounds_toArray,List.set_cons_zero,List.set_cons_succ]
 refine tkn 3 ?_ rfl ?_ ?_;rotate_left;·(rintro w ⟨s0,s1⟩;go_simp;try rfl)
 try simp only [Act.put,List.getElem_toArray,List.getElem_cons_zero,List.getElem_cons_succ,List.setIfInBounds_toArray,List.set_cons_zero,List.set_cons_succ]
 refine tkn 5 ?_ rfl ?_ ?_;rotate_left;·(rintro w ⟨s0,s1⟩;go_simp;try rfl)
 try simp only [Act.put,List.getElem_toArray,List.getElem_cons_zero,List.getElem_cons_succ,List.setIfInBounds_toArray,List.set_cons_zero,List.set_cons_succ]
 refine tkn 6 ?_ rfl ?_ ?_;rotate_left;·(rintro w ⟨s0,s1⟩;go_simp;try rfl)
 try simp only [Act.put,List.getElem_toArray,List.getElem_cons_zero,List.getElem_cons_succ,List.setIfInBounds_toArray,List.set_cons_zero,List.set_cons_succ]
 refine wpAnyH_ready (rs:=[4,7]) (by kernel_rfl) (by simp) ?_
 refine AllReadyH.cons rfl (fun K hK=>?_) (AllReadyH.cons rfl (fun K hK=>?_) AllReadyH.nil)
 ·go_simp
  refine hK.out _ _ (⟨hHeld.1,hHeld.2⟩) (fun hHeld=>?_)
  clear hK K
  try simp only [Act.put,List.getElem_toArray,List.getElem_cons_zero,List.getElem_cons_succ,List.setIfInBounds_toArray,List.set_cons_zero,List.set_cons_succ]
  refine rdn 7 rfl (fun K hK=>?_)
  go_simp
  refine hK.out _ _ (⟨gb_keeps (gb_alloc (Below.refl _ _) _) hHeld.1,gb_keeps (gb_alloc (Below.refl _ _) _) hHeld.2⟩) (fun hHeld=>?_)
  clear hK K
  try simp only [Act.put,List.getElem_toArray,List.getElem_cons_zero,List.getElem_cons_succ,List.setIfInBounds_toArray,List.set_cons_zero,List.set_cons_succ]
  refine rdn 8 rfl (fun K hK=>?_)
  go_simp
  go_fit cN
  rintro e w2 hO
  obtain ⟨g',cap',rfl,hO2,kk,⟨y2,k2⟩,f2,ks⟩:=IX.out _ _ hO
  clear hO cN IX
  refine hK.out _ _ (⟨kk _ _ hHeld.1,kk _ _ hHeld.2⟩) (fun hHeld=>?_)
  clear hK K
  try simp only [Act.put,List.getElem_toArray,List.getElem_cons_zero,List.getElem_cons_succ,List.setIfInBounds_toArray,List.set_cons_zero,List.set_cons_succ]
  refine tkn 9 ?_ rfl ?_ ?_;rotate_left;·(rintro w ⟨s0,s1⟩;go_simp;try rfl)
  try simp only [Act.put,List.getElem_toArray,List.getElem_cons_zero,List.getElem_cons_succ,List.setIfInBounds_toArray,List.set_cons_zero,List.set_cons_succ]
  refine tkn 10 ?_ rfl ?_ ?_;rotate_left;·(rintro w ⟨s0,s1⟩;go_simp;try rfl)
  try simp only [Act.put,List.getElem_toArray,List.getElem_cons_zero,List.getElem_cons_succ,List.setIfInBounds_toArray,List.set_cons_zero,List.set_cons_succ]
  refine rdn 11 rfl (fun K hK=>?_)
  go_simp
  refine hK.out _ _ (⟨ks _ _ hHeld.1,ks _ _ hHeld.2⟩) (fun hHeld=>?_)
  clear hK K
  try simp only [Act.put,List.getElem_toArray,List.getElem_cons_zero,List.getElem_cons_succ,List.setIfInBounds_toArray,List.set_cons_zero,List.set_cons_succ]
  refine wpAnyH_done (by kernel_rfl) ?_ _
  obtain ⟨FS3,root3,cM,FIN⟩:=NX.out _ _ _ hO2
  clear hO2 NX hHeld
  go_wp2_with fail
  refine wp_region_held_drew (S:=fun W=>W.cell? ⟨w.heap.size,0,none⟩=some (.int .i64 xi)/\W.cell? ⟨w.heap.size,1,none⟩=some (.slice ua nx uc)/\W.cell? ⟨tb,1,none⟩=some (.int .i64 (leaf:Int))) (by kernel_rfl) (FS3) (fun hHeld=>?_)
  refine tkn 0 ?_ rfl ?_ ?_;rotate_left;·(rintro w ⟨s0,s1,s2⟩;go_simp;try rfl)
  try simp only [Act.put,List.getElem_toArray,List.getElem_cons_zero,List.setIfInBounds_toArray,List.set_cons_zero,List.set_cons_succ]
  refine tkn 1 ?_ rfl ?_ ?_;rotate_left;·(rintro w ⟨s0,s1,s2⟩;go_simp;try rfl)
  try simp only [Act.put,List.getElem_toArray,List.getElem_cons_zero,List.getElem_cons_succ,List.setIfInBounds_toArray,List.set_cons_zero,List.set_cons_succ]
  refine tkn 2 ?_ rfl ?_ ?_;rotate_left;·(rintro w ⟨s0,s1,s2⟩;go_simp;try rfl)
  try simp only [Act.put,List.getElem_toArray,List.getElem_cons_zero,List.getElem_cons_succ,List.setIfInBounds_toArray,List.set_cons_zero,List.set_cons_succ]
  refine tkn 3 ?_ rfl ?_ ?_;rotate_left;·(rintro w ⟨s0,s1,s2⟩;go_simp;try rfl)
  try simp only [Act.put,List.getElem_toArray,List.getElem_cons_zero,List.getElem_cons_succ,List.setIfInBounds_toArray,List.set_cons_zero,List.set_cons_succ]
  refine tkn 5 ?_ rfl ?_ ?_;rotate_left;·(rintro w ⟨s0,s1,s2⟩;go_simp;try rfl)
  try simp only [Act.put,List.getElem_toArray,List.getElem_cons_zero,List.getElem_cons_succ,List.setIfInBounds_toArray,List.set_cons_zero,List.set_cons_succ]
  refine tkn 6 ?_ rfl ?_ ?_;rotate_left;·(rintro w ⟨s0,s1,s2⟩;go_simp;try rfl)
  try simp only [Act.put,List.getElem_toArray,List.getElem_cons_zero,List.getElem_cons_succ,List.setIfInBounds_toArray,List.set_cons_zero,List.set_cons_succ]
  refine tkn 7 ?_ rfl ?_ ?_;rotate_left;·(rintro w ⟨s0,s1,s2⟩;go_simp;try rfl)
  try simp only [Act.put,List.getElem_toArray,List.getElem_cons_zero,List.getElem_cons_succ,List.setIfInBounds_toArray,List.set_cons_zero,List.set_cons_succ]
  refine tkn 8 ?_ rfl ?_ ?_;rotate_left;·(rintro w ⟨s0,s1,s2⟩;go_simp;try rfl)
  try simp only [Act.put,List.getElem_toArray,List.getElem_cons_zero,List.getElem_cons_succ,List.setIfInBounds_toArray,List.set_cons_zero,List.set_cons_succ]
  refine tkn 9 ?_ rfl ?_ ?_;rotate_left;·(rintro w ⟨s0,s1,s2⟩;go_simp;try rfl)
  try simp only [Act.put,List.getElem_toArray,List.getElem_cons_zero,List.getElem_cons_succ,List.setIfInBounds_toArray,List.set_cons_zero,List.set_cons_succ]
  refine tkn 10 ?_ rfl ?_ ?_;rotate_left;·(rintro w ⟨s0,s1,s2⟩;go_simp;try rfl)
  try simp only [Act.put,List.getElem_toArray,List.getElem_cons_zero,List.getElem_cons_succ,List.setIfInBounds_toArray,List.set_cons_zero,List.set_cons_succ]
  refine rdn 4 rfl (fun K hK=>?_)
  go_simp
  refine hK.out _ _ (⟨hHeld.1,hHeld.2.1,hHeld.2.2⟩) (fun hHeld=>?_)
  clear hK K
  try simp only [Act.put,List.getElem_toArray,List.getElem_cons_zero,List.getElem_cons_succ,List.setIfInBounds_toArray,List.set_cons_zero,List.set_cons_succ]
  refine rdn 11 rfl (fun K hK=>?_)
  go_simp
  go_fit cM
  rintro e w4 hO
  obtain ⟨pv',rfl,FF,KS,⟨y3,k3⟩,f3⟩:=FIN.out _ _ hO
  clear hO cM FIN
  refine hK.out _ _ (KS.1 hHeld.1 hHeld.2.1 hHeld.2.2) (fun hHeld=>?_)
  clear hK K
  try simp only [Act.put,List.getElem_toArray,List.getElem_cons_zero,List.getElem_cons_succ,List.setIfInBounds_toArray,List.set_cons_zero,List.set_cons_succ]
  refine tkn 12 ?_ rfl ?_ ?_;rotate_left;·(rintro w ⟨s0,s1,s2⟩;go_simp;try rfl)
  try simp only [Act.put,List.getElem_toArray,List.getElem_cons_zero,List.getElem_cons_succ,List.setIfInBounds_toArray,List.set_cons_zero,List.set_cons_succ]
  refine tkn 13 ?_ rfl ?_ ?_;rotate_left;·(rintro w ⟨s0,s1,s2⟩;go_simp;try rfl)
  try simp only [Act.put,List.getElem_toArray,List.getElem_cons_zero,List.getElem_cons_succ,List.setIfInBounds_toArray,List.set_cons_zero,List.set_cons_succ]
  refine rdn 14 rfl (fun K hK=>?_)
  go_simp
  refine hK.out _ _ (KS.2 hHeld.1 hHeld.2.1 hHeld.2.2) (fun hHeld=>?_)
  clear hK K
  try simp only [Act.put,List.getElem_toArray,List.getElem_cons_zero,List.getElem_cons_succ,List.setIfInBounds_toArray,List.set_cons_zero,List.set_cons_succ]
  refine wpAnyH_done (by kernel_rfl) ?_ _
  clear hHeld KS FS3
  go_wp2
  go_end0
  exact ⟨rfl,FF.out⟩
 ·go_simp
  refine hK.out _ _ (⟨gb_keeps (gb_alloc (Below.refl _ _) _) hHeld.1,gb_keeps (gb_alloc (Below.refl _ _) _) hHeld.2⟩) (fun hHeld=>?_)
  clear hK K
  try simp only [Act.put,List.getElem_toArray,List.getElem_cons_zero,List.getElem_cons_succ,List.setIfInBounds_toArray,List.set_cons_zero,List.set_cons_succ]
  refine rdn 4 rfl (fun K hK=>?_)
  go_simp
  refine hK.out _ _ (⟨hHeld.1,hHeld.2⟩) (fun hHeld=>?_)
  clear hK K
  try simp only [Act.put,List.getElem_toArray,List.getElem_cons_zero,List.getElem_cons_succ,List.setIfInBounds_toArray,List.set_cons_zero,List.set_cons_succ]
  refine rdn 8 rfl (fun K hK=>?_)
  go_simp
  go_fit cN
  rintro e w2 hO
  obtain ⟨g',cap',rfl,hO2,kk,⟨y2,k2⟩,f2,ks⟩:=IX.out _ _ hO
  clear hO cN IX
  refine hK.out _ _ (⟨kk _ _ hHeld.1,kk _ _ hHeld.2⟩) (fun hHeld=>?_)
  clear hK K
  try simp only [Act.put,List.getElem_toArray,List.getElem_cons_zero,List.getElem_cons_succ,List.setIfInBounds_toArray,List.set_cons_zero,List.set_cons_succ]
  refine tkn 9 ?_ rfl ?_ ?_;rotate_left;·(rintro w ⟨s0,s1⟩;go_simp;try rfl)
  try simp only [Act.put,List.getElem_toArray,List.getElem_cons_zero,List.getElem_cons_succ,List.setIfInBounds_toArray,List.set_cons_zero,List.set_cons_succ]
  refine tkn 10 ?_ rfl ?_ ?_;rotate_left;·(rintro w ⟨s0,s1⟩;go_simp;try rfl)
  try simp only [Act.put,List.getElem_toArray,List.getElem_cons_zero,List.getElem_cons_succ,List.setIfInBounds_toArray,List.set_cons_zero,List.set_cons_succ]
  refine rdn 11 rfl (fun K hK=>?_)
  go_simp
  refine hK.out _ _ (⟨ks _ _ hHeld.1,ks _ _ hHeld.2⟩) (fun hHeld=>?_)
  clear hK K
  try simp only [Act.put,List.getElem_toArray,List.getElem_cons_zero,List.getElem_cons_succ,List.setIfInBounds_toArray,List.set_cons_zero,List.set_cons_succ]
  refine wpAnyH_done (by kernel_rfl) ?_ _
  obtain ⟨FS3,root3,cM,FIN⟩:=NX.out _ _ _ hO2
  clear hO2 NX hHeld
  go_wp2_with fail
  refine wp_region_held_drew (S:=fun W=>W.cell? ⟨w.heap.size,0,none⟩=some (.int .i64 xi)/\W.cell? ⟨w.heap.size,1,none⟩=some (.slice ua nx uc)/\W.cell? ⟨tb,1,none⟩=some (.int .i64 (leaf:Int))) (by kernel_rfl) (FS3) (fun hHeld=>?_)
  refine tkn 0 ?_ rfl ?_ ?_;rotate_left;·(rintro w ⟨s0,s1,s2⟩;go_simp;try rfl)
  try simp only [Act.put,List.getElem_toArray,List.getElem_cons_zero,List.setIfInBounds_toArray,List.set_cons_zero,List.set_cons_succ]
  refine tkn 1 ?_ rfl ?_ ?_;rotate_left;·(rintro w ⟨s0,s1,s2⟩;go_simp;try rfl)
  try simp only [Act.put,List.getElem_toArray,List.getElem_cons_zero,List.getElem_cons_succ,List.setIfInBounds_toArray,List.set_cons_zero,List.set_cons_succ]
  refine tkn 2 ?_ rfl ?_ ?_;rotate_left;·(rintro w ⟨s0,s1,s2⟩;go_simp;try rfl)
  try simp only [Act.put,List.getElem_toArray,List.getElem_cons_zero,List.getElem_cons_succ,List.setIfInBounds_toArray,List.set_cons_zero,List.set_cons_succ]
  refine tkn 3 ?_ rfl ?_ ?_;rotate_left;·(rintro w ⟨s0,s1,s2⟩;go_simp;try rfl)
  try simp only [Act.put,List.getElem_toArray,List.getElem_cons_zero,List.getElem_cons_succ,List.setIfInBounds_toArray,List.set_cons_zero,List.set_cons_succ]
  refine tkn 5 ?_ rfl ?_ ?_;rotate_left;·(rintro w ⟨s0,s1,s2⟩;go_simp;try rfl)
  try simp only [Act.put,List.getElem_toArray,List.getElem_cons_zero,List.getElem_cons_succ,List.setIfInBounds_toArray,List.set_cons_zero,List.set_cons_succ]
  refine tkn 6 ?_ rfl ?_ ?_;rotate_left;·(rintro w ⟨s0,s1,s2⟩;go_simp;try rfl)
  try simp only [Act.put,List.getElem_toArray,List.getElem_cons_zero,List.getElem_cons_succ,List.setIfInBounds_toArray,List.set_cons_zero,List.set_cons_succ]
  refine tkn 7 ?_ rfl ?_ ?_;rotate_left;·(rintro w ⟨s0,s1,s2⟩;go_simp;try rfl)
  try simp only [Act.put,List.getElem_toArray,List.getElem_cons_zero,List.getElem_cons_succ,List.setIfInBounds_toArray,List.set_cons_zero,List.set_cons_succ]
  refine tkn 8 ?_ rfl ?_ ?_;rotate_left;·(rintro w ⟨s0,s1,s2⟩;go_simp;try rfl)
  try simp only [Act.put,List.getElem_toArray,List.getElem_cons_zero,List.getElem_cons_succ,List.setIfInBounds_toArray,List.set_cons_zero,List.set_cons_succ]
  refine tkn 9 ?_ rfl ?_ ?_;rotate_left;·(rintro w ⟨s0,s1,s2⟩;go_simp;try rfl)
  try simp only [Act.put,List.getElem_toArray,List.getElem_cons_zero,List.getElem_cons_succ,List.setIfInBounds_toArray,List.set_cons_zero,List.set_cons_succ]
  refine tkn 10 ?_ rfl ?_ ?_;rotate_left;·(rintro w ⟨s0,s1,s2⟩;go_simp;try rfl)
  try simp only [Act.put,List.getElem_toArray,List.getElem_cons_zero,List.getElem_cons_succ,List.setIfInBounds_toArray,List.set_cons_zero,List.set_cons_succ]
  refine rdn 4 rfl (fun K hK=>?_)
  go_simp
  refine hK.out _ _ (⟨hHeld.1,hHeld.2.1,hHeld.2.2⟩) (fun hHeld=>?_)
  clear hK K
  try simp only [Act.put,List.getElem_toArray,List.getElem_cons_zero,List.getElem_cons_succ,List.setIfInBounds_toArray,List.set_cons_zero,List.set_cons_succ]
  refine rdn 11 rfl (fun K hK=>?_)
  go_simp
  go_fit cM
  rintro e w4 hO
  obtain ⟨pv',rfl,FF,KS,⟨y3,k3⟩,f3⟩:=FIN.out _ _ hO
  clear hO cM FIN
  refine hK.out _ _ (KS.1 hHeld.1 hHeld.2.1 hHeld.2.2) (fun hHeld=>?_)
  clear hK K
  try simp only [Act.put,List.getElem_toArray,List.getElem_cons_zero,List.getElem_cons_succ,List.setIfInBounds_toArray,List.set_cons_zero,List.set_cons_succ]
  refine tkn 12 ?_ rfl ?_ ?_;rotate_left;·(rintro w ⟨s0,s1,s2⟩;go_simp;try rfl)
  try simp only [Act.put,List.getElem_toArray,List.getElem_cons_zero,List.getElem_cons_succ,List.setIfInBounds_toArray,List.set_cons_zero,List.set_cons_succ]
  refine tkn 13 ?_ rfl ?_ ?_;rotate_left;·(rintro w ⟨s0,s1,s2⟩;go_simp;try rfl)
  try simp only [Act.put,List.getElem_toArray,List.getElem_cons_zero,List.getElem_cons_succ,List.setIfInBounds_toArray,List.set_cons_zero,List.set_cons_succ]
  refine rdn 14 rfl (fun K hK=>?_)
  go_simp
  refine hK.out _ _ (KS.2 hHeld.1 hHeld.2.1 hHeld.2.2) (fun hHeld=>?_)
  clear hK K
  try simp only [Act.put,List.getElem_toArray,List.getElem_cons_zero,List.getElem_cons_succ,List.setIfInBounds_toArray,List.set_cons_zero,List.set_cons_succ]
  refine wpAnyH_done (by kernel_rfl) ?_ _
  clear hHeld KS FS3
  go_wp2
  go_end0
  exact ⟨rfl,FF.out⟩
end Go.Proofs.YtgbgejflmbhigaaGreat
