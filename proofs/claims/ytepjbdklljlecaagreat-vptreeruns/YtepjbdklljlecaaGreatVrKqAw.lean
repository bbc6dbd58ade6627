import Derived.Test.YtepjbdklljlecaaGreatVr29
import Derived.Test.YtepjbdklljlecaaGreatVr5
namespace Go.Proofs.YtepjbdklljlecaaGreat
open Go.RowKit Go.Sort
set_option maxRecDepth 100000
set_option maxHeartbeats 4000000
theorem add_c {Iq:Nat->Prop} {w:World} {tb m leaf:Nat} {rs:List Rw} {F:List Nat} {x:Rt} (h:TreeAt Iq w tb m leaf rs F) (hv:OwnQ Iq w x.2.1 x.2.2) (hok:RowsOk (rs ++ [rwR x]) (m:Int)) :
  Calls Tryz.prog 49 #[.pointer (some ⟨tb,0,none⟩),.agg #[.int .i64 x.1,x.2.1]] w fun e w'=>e=.returned (.tuple #[])/\TOut Iq w tb m leaf F (insRw rs (rwR x)) w':=by
 obtain ⟨xi,u,xl⟩:=x
 obtain ⟨ua,uc,eu,_⟩:=hv.rd
 dsimp only at eu hv hok ⊢
 subst eu
 have hni:∀ y ∈ rs,y.1 ≠ xi:=fun y hy=>(ids_apart hok.ids).2.2 y hy (xi,xl) (by simp)
 have gA:∀ o,Gb w (w.alloc o):=fun o=>gb_alloc (Below.refl _ _) o
 have cF:=find_c (h.gb (gA (.cells #[.int .i64 xi,.slice ua xl.length uc] 43))) xi
 obtain ⟨g,cap,sb,d,rt,F1,hb,hd,hdm,hri,hok0,hrt,eF,hnd,hm,hlf,nF1,_,ltF,⟨tF,gF,sF,tg,ts,gs⟩,hS⟩:=h.open'
 have hplc:=plc_le rs xi
 have hdl:d.length=rs.length:=by rw [<- hdm,List.length_map]
 have tl:=(Array.getElem?_eq_some_iff.1 hb).1
 have gl:=(hd.row.lt g rfl).2
 have sl:=hS.lt
 have hfew:=hok0.few
 have hone:∀ v ∈ d.flatMap encR,v.oneCell'=true:=fun v hv=>by
  obtain ⟨y,hy,hv⟩:=List.mem_flatMap.1 hv
  simp only [List.mem_cons,List.not_mem_nil,or_false] at hv
  rcases hv with rfl | rfl
  ·rfl
  ·exact own_one (hd.vec y hy).own
 have NDF:F1.Nodup:=by rw [eF,List.nodup_cons,List.nodup_cons,List.nodup_cons] at hnd;exact hnd.2.2.2
 generalize hnx:xl.length=nx at *
 obtain ⟨p,hp⟩:∃ p,p=plc rs xi:=⟨_,rfl⟩
 rw [<- hp] at cF hplc
 have HID:hasId rs xi=false:=by
  unfold hasId
  rw [List.any_eq_false]
  intro y hy
  simp [hni y hy]
 rw [HID] at cF
 have RTF:Hid (rt=.pointer none ∨ ∃ rb,rt=.pointer (some ⟨rb,0,none⟩)):=by
  rcases hrt with ⟨_,e,_⟩ | ⟨b,_,_,e,_⟩
  ·exact .inl e
  ·exact .inr ⟨b,e⟩
 have CN:Hid (∀ w1,Tk.Gw (w.alloc (.cells #[.int .i64 xi,.slice ua nx uc] 43)) w1->Calls Tryz.prog 86 #[.slice (some ⟨g,0,none⟩) d.length cap,.int .i64 (p:Int),.slice (some ⟨w1.drew.heap.size,0,none⟩) 1 1] (w1.drew.alloc (.cells #[.int .i64 xi,.slice ua nx uc] 43)) fun e w'=>InsO_insR (w1.drew.alloc (.cells #[.int .i64 xi,.slice ua nx uc] 43)) (.slice (some ⟨g,0,none⟩) d.length cap) d.length ((d.flatMap encR).take (p * 2) ++ [.int .i64 xi,.slice ua nx uc] ++ (d.flatMap encR).drop (p * 2)) e w'):=fun w1 g1=>by
  have gg:Gb w (w1.drew.alloc (.cells #[.int .i64 xi,.slice ua nx uc] 43)):=gb_alloc (gb_trans (gA _) g1.gr.drew) _
  refine insR_c (ownR_kp hd.row (kpF gg) (fun _ _ h=>h)) (by omega) (by omega) (vs:=[.int .i64 xi,.slice ua nx uc]) (heap_new _ _) rfl (fun e=>?_) hone (fun v hv=>?_)
  ·injection e with e
   have s0:=(gb_trans (gA (.cells #[.int .i64 xi,.slice ua nx uc] 43)) g1.gr.drew).size
   dsimp only at e
   omega
  ·simp only [List.mem_cons,List.not_mem_nil,or_false] at hv
   rcases hv with rfl | rfl <;> rfl
 obtain ⟨d',hd'⟩:∃ d':List Rt,d'=d.take p ++ (xi,Value.slice ua nx uc,xl) :: d.drop p:=⟨_,rfl⟩
 have ed':(d.flatMap encR).take (p * 2) ++ [.int .i64 xi,.slice ua nx uc] ++ (d.flatMap encR).drop (p * 2)=d'.flatMap encR:=by
  rw [flat_takeR,flat_dropR,hd',List.flatMap_append,List.flatMap_cons,List.append_assoc]
 have ld':d'.length=d.length + 1:=by rw [hd',List.length_append,List.length_cons,List.length_take,List.length_drop];omega
 have md':d'.map rwR=insRw rs (xi,xl):=by
  rw [hd',List.map_append,List.map_cons,List.map_take,List.map_drop,hdm,hp]
  rfl
 simp only [ed'] at CN
 have hokI:RowsOk (insRw rs (xi,xl)) (m:Int):=hok.perm (ins_perm rs (xi,xl)).symm
 obtain ⟨nd,hndd⟩:∃ nd,nd=d.length + 1:=⟨_,rfl⟩
 have ND':Hid (d'.length=nd):=by unfold Hid;rw [ld',hndd]
 have IXX:Hid (∀ w1,Tk.Gw (w.alloc (.cells #[.int .i64 xi,.slice ua nx uc] 43)) w1->∀ e w2,InsO_insR (w1.drew.alloc (.cells #[.int .i64 xi,.slice ua nx uc] 43)) (.slice (some ⟨g,0,none⟩) d.length cap) d.length (d'.flatMap encR) e w2->∃ g' cap',e=.returned (.slice (some ⟨g',0,none⟩) nd cap') /\
   Hid (Tk.Kp (fun k=>k=g) w w2/\OwnRs Iq w2 (.slice (some ⟨g',0,none⟩) nd cap') d'/\(g'=g ∨ w.heap.size<=g')) /\
   (∀ i y,(w1.drew.alloc (.cells #[.int .i64 xi,.slice ua nx uc] 43)).cell? ⟨w.heap.size,i,none⟩=some y->w2.cell? ⟨w.heap.size,i,none⟩=some y)/\(∃ y,w2.cell? ⟨tb,3,none⟩=some y)/\w2.frozen? ⟨tb,3,none⟩=false/\(∀ (u:Value) i {y},w2.cell? ⟨w.heap.size,i,none⟩=some y->(w2.setCell ⟨tb,3,none⟩ u).cell? ⟨w.heap.size,i,none⟩=some y)/\w2.cell? ⟨w.heap.size,0,none⟩=some (.int .i64 xi)/\w2.cell? ⟨w.heap.size,1,none⟩=some (.slice ua nx uc)):=fun w1 g1 e w2 hO=>by
  obtain ⟨g',cap',rfl,ho,hk,hw⟩:=hO
  have gg:Gb w (w1.drew.alloc (.cells #[.int .i64 xi,.slice ua nx uc] 43)):=gb_alloc (gb_trans (gA _) g1.gr.drew) _
  have sg:=gg.size
  have s0:=(gb_trans (gA (.cells #[.int .i64 xi,.slice ua nx uc] 43)) g1.gr.drew).size
  rw [World.size_alloc] at sg
  have hk':Tk.Kp (fun k=>k=g) (w1.drew.alloc (.cells #[.int .i64 xi,.slice ua nx uc] 43)) w2:=hk.mono fun k _ e=>by injection e with e;exact e.symm
  have k0:Tk.Kp (fun k=>k=g) w w2:=(Tk.Kp.of_gr gg).trans hk'
  have ni:NoInt w (fun k=>k=g):=fun k e cur s hc=>hd.noint k (by rw [e];rfl) cur s hc
  have cr:∀ i y,(w1.drew.alloc (.cells #[.int .i64 xi,.slice ua nx uc] 43)).cell? ⟨w.heap.size,i,none⟩=some y->w2.cell? ⟨w.heap.size,i,none⟩=some y:=fun i y hc=>hk'.cell hc (by intro e;dsimp only at e;omega)
  have c0:∀ i y,(w.alloc (.cells #[.int .i64 xi,.slice ua nx uc] 43)).cell? ⟨w.heap.size,i,none⟩=some y->(w1.drew.alloc (.cells #[.int .i64 xi,.slice ua nx uc] 43)).cell? ⟨w.heap.size,i,none⟩=some y:=fun i y hc=>gb_keeps (gb_alloc g1.gr.drew _) hc
  have hb2:w2.heap[tb]? = some (.cells #[.int .i64 (m:Int),.int .i64 (leaf:Int),.pointer (some ⟨sb,0,none⟩),.slice (some ⟨g,0,none⟩) d.length cap,rt] 84 (0,0)):=by rw [k0.block tb tl tg];exact hb
  rw [<- hndd] at ho ⊢
  refine ⟨g',cap',rfl,⟨k0,⟨?_,fun y hy=>?_,hd.up.le k0.size⟩,?_⟩,cr,⟨_,cell_cur hb2 rfl⟩,by simp [World.frozen?,hb2],fun u i y hy=>((Tk.Kp.refl (fun k=>k=tb) w2).setCell (.inl rfl) u).cell hy (by intro e;dsimp only at e;omega),cr _ _ (c0 _ _ (by simp [go_sem])),cr _ _ (c0 _ _ (by simp [go_sem]))⟩
  ·rw [ld',<- hndd];exact ho
  ·rw [hd'] at hy
   rcases List.mem_append.1 hy with hy | hy
   ·exact ownq_noint (hd.vec y (List.mem_of_mem_take hy)) k0 ni
   ·rcases List.mem_cons.1 hy with rfl | hy
    ·exact ownq_noint hv k0 ni
    ·exact ownq_noint (hd.vec y (List.mem_of_mem_drop hy)) k0 ni
  ·rcases hw with e | e
   ·injection e with e;exact .inl e.symm
   ·rw [World.size_alloc] at e;exact .inr (by omega)
 have NX:Hid (∀ g' cap' w2,Hid (Tk.Kp (fun k=>k=g) w w2/\OwnRs Iq w2 (.slice (some ⟨g',0,none⟩) nd cap') d'/\(g'=g ∨ w.heap.size<=g'))->AddW Iq w (w2.setCell ⟨tb,3,none⟩ (.slice (some ⟨g',0,none⟩) nd cap')) tb m leaf sb g' cap' d' rs (xi,Value.slice ua nx uc,xl) F F1 rt):=by
  rintro g' cap' w2 ⟨k0,own2,hg'⟩
  have hb2:w2.heap[tb]? = some (.cells #[.int .i64 (m:Int),.int .i64 (leaf:Int),.pointer (some ⟨sb,0,none⟩),.slice (some ⟨g,0,none⟩) d.length cap,rt] 84 (0,0)):=by rw [k0.block tb tl tg];exact hb
  have s2:=k0.size
  have tg':tb ≠ g':=by rcases hg' with e | e <;> omega
  have gs':g' ≠ sb:=by rcases hg' with e | e <;> omega
  have g'F:g' ∉ F1:=by
   rcases hg' with e | e
   ·rw [e];exact gF
   ·exact fun h=>by have:=ltF g' h;omega
  have hb3:(w2.setCell ⟨tb,3,none⟩ (.slice (some ⟨g',0,none⟩) nd cap')).heap[tb]? = some (.cells #[.int .i64 (m:Int),.int .i64 (leaf:Int),.pointer (some ⟨sb,0,none⟩),.slice (some ⟨g',0,none⟩) d'.length cap',rt] 84 (0,0)):=by
   rw [ND'.out]
   simp [World.setCell,Array.getElem?_modify,hb2]
  have nb2:NoInt w2 (fun k=>k=tb):=fun k e cur s hc=>by subst e;rw [hb2] at hc;simp at hc
  have k3:Tk.Kp (fun k=>k=tb) w2 (w2.setCell ⟨tb,3,none⟩ (.slice (some ⟨g',0,none⟩) nd cap')):=(Tk.Kp.refl (fun k=>k=tb) w2).setCell (.inl rfl) (p:=⟨tb,3,none⟩) _
  have k03:Tk.Kp (fun k=>k=g ∨ k=tb) w (w2.setCell ⟨tb,3,none⟩ (.slice (some ⟨g',0,none⟩) nd cap')):=(k0.mono (fun k _ h=>.inl h)).trans (k3.mono (fun k _ h=>.inr h))
  have ni:NoInt w (fun k=>k=g ∨ k=tb):=fun k e cur s hc=>by
   rcases e with e | e
   ·exact hd.noint k (by rw [e];rfl) cur s hc
   ·subst e;rw [hb] at hc;simp at hc
  have own3:=own2.kp k3 nb2 (fun g e hg=>by cases e;exact tg' hg.symm)
  rw [<- ND'.out] at own3
  refine ⟨hb3,by rw [<- ND'.out];exact own3,md',ins_ris hri hni,hokI,hrt.kp k03 ni (fun x hx e=>by rcases e with e | e;exact gF (e ▸ hx);exact tF (e ▸ hx)),NDF,kp_src hS k03 (fun e=>e.elim (fun e=>gs e.symm) (fun e=>ts e.symm)),ownq_noint hv k03 ni,k03.mono (fun k _ h=>by rw [eF];rcases h with h | h <;> rw [h] <;> simp),⟨tF,g'F,sF,tg',ts,gs'⟩,fun y hy=>?_,fun y hy=>Nat.lt_of_lt_of_le (ltF y hy) k03.size,hm,hlf⟩
  rw [eF]
  simp only [List.mem_cons] at hy
  rcases hy with e | e | e | e
  ·exact .inl (by simp [e])
  ·rcases hg' with q | q
   ·exact .inl (by simp [e,q])
   ·exact .inr (by omega)
  ·exact .inl (by simp [e])
  ·exact .inl (by simp [e])
 have RX:Hid (w.heap.size ∉ F1/\w.heap.size ≠ sb):=⟨fun e=>by have:=ltF _ e;omega,by omega⟩
 have C2:Hid (∀ w1,Tk.Gw (w.alloc (.cells #[.int .i64 xi,.slice ua nx uc] 43)) w1->w1.drew.cell? ⟨tb,3,none⟩=some (.slice (some ⟨g,0,none⟩) d.length cap)/\(w1.alloc (.cells #[.int .i64 xi,.slice ua nx uc] 43)).cell? ⟨tb,3,none⟩=some (.slice (some ⟨g,0,none⟩) d.length cap)/\((fun W=>W.cell? ⟨w.heap.size,0,none⟩=some (.int .i64 xi)/\W.cell? ⟨w.heap.size,1,none⟩=some (.slice ua nx uc)) w1.drew)):=fun w1 g1=>by
  have gg:=gb_trans (gA (.cells #[.int .i64 xi,.slice ua nx uc] 43)) g1.gr.drew
  exact ⟨gb_keeps gg (cell_cur (i:=3) hb rfl),gb_keeps (gb_alloc (gb_trans (gA (.cells #[.int .i64 xi,.slice ua nx uc] 43)) g1.gr) _) (cell_cur (i:=3) hb rfl),gb_keeps g1.gr.drew (by simp [go_sem]),gb_keeps g1.gr.drew (by simp [go_sem])⟩
 have hpn:(p:Int)<=512:=by omega
 generalize d.length=nd0 at *
 clear h hb hd hdm hri hok0 hrt hnd nF1 ltF tF gF sF tg ts gs hdl hone NDF hfew hokI ed' ld' md' hd' hp gA hv hok hni HID hplc tl gl sl hnx hS hm hlf hndd
 go_enter Tryz.func49,Tryz.ntmps49
 go_wp2_with fail
 go_fit cF
 rintro e w1 ⟨rfl,g1⟩
 obtain ⟨l3,l3a,FS2⟩:=C2.out _ g1
 have cN:=CN.out _ g1
 have IX:Hid _:=IXX.out _ g1
 clear cF g1 C2 CN IXX
 go_wp2_with fail
 refine wp_region_held_drew (S:=fun W=>W.cell? ⟨w.heap.size,0,none⟩=some (.int .i64 xi)/\W.cell? ⟨w.heap.size,1,none⟩=some (.slice ua nx uc)) (by kernel_rfl) (FS2) (fun hHeld=>?_)
 refine tkn 0 ?_ rfl ?_ ?_;rotate_left;·(rintro w ⟨s0,s1⟩;go_simp;try rfl)
 refine tkn 1 ?_ rfl ?_ ?_;rotate_left;·(rintro w ⟨s0,s1⟩;go_simp;try rfl)
 refine tkn 2 ?_ rfl ?_ ?_;rotate_left;·(rintro w ⟨s0,s1⟩;go_simp;try rfl)
 refine tkn 3 ?_ rfl ?_ ?_;rotate_left;·(rintro w ⟨s0,s1⟩;go_simp;try rfl)
 refine tkn 5 ?_ rfl ?_ ?_;rotate_left;·(rintro w ⟨s0,s1⟩;go_simp;try rfl)
 refine tkn 6 ?_ rfl ?_ ?_;rotate_left;·(rintro w ⟨s0,s1⟩;go_simp;try rfl)
 refine wpAnyH_ready (rs:=[4,7]) (by kernel_rfl) (by simp) ?_
 refine AllReadyH.cons rfl (fun K hK=>?_) (AllReadyH.cons rfl (fun K hK=>?_) AllReadyH.nil)
 ·go_simp
  refine hK.out _ _ (⟨hHeld.1,hHeld.2⟩) (fun hHeld=>?_)
  clear hK K
  refine rdn 7 rfl (fun K hK=>?_)
  go_simp
  refine hK.out _ _ (⟨gb_keeps (gb_alloc (Below.refl _ _) _) hHeld.1,gb_keeps (gb_alloc (Below.refl _ _) _) hHeld.2⟩) (fun hHeld=>?_)
  clear hK K
  refine rdn 8 rfl (fun K hK=>?_)
  go_simp
  go_fit cN
  rintro e w2 hO
  obtain ⟨g',cap',rfl,hO2,kk,⟨y2,k2⟩,f2,ks,r0,r1⟩:=IX.out _ _ hO
  clear hO cN IX
  refine hK.out _ _ (⟨kk _ _ hHeld.1,kk _ _ hHeld.2⟩) (fun hHeld=>?_)
  clear hK K
  refine tkn 9 ?_ rfl ?_ ?_;rotate_left;·(rintro w ⟨s0,s1⟩;go_simp;try rfl)
  refine tkn 10 ?_ rfl ?_ ?_;rotate_left;·(rintro w ⟨s0,s1⟩;go_simp;try rfl)
  refine rdn 11 rfl (fun K hK=>?_)
  go_simp
  refine hK.out _ _ (⟨ks _ _ hHeld.1,ks _ _ hHeld.2⟩) (fun hHeld=>?_)
  clear hK K
  refine wpAnyH_done (by kernel_rfl) ?_ _
  have A:=NX.out _ _ _ hO2
  clear hO2 NX hHeld
  rcases RTF.out with rfl | ⟨rb,rfl⟩
  ·have c4:=cell_cur (i:=4) A.blk rfl
   have c3:=cell_cur (i:=3) A.blk rfl
   have cN:=A.nil
   rw [ND'.out] at c3 cN
   clear A
   generalize (w2.setCell ⟨tb,3,none⟩ (.slice (some ⟨g',0,none⟩) nd cap'))=W3 at *
   go_wp2_with fail
   go_fit cN
   rintro e w4 ⟨pv,rfl,FF,⟨y4,k4⟩,f4⟩
   clear cN c3 c4
   go_wp2
   exact bodyPost_ret (v:=.tuple #[]) (by simp [results,Tryz.results49,go_sem]) rfl ⟨rfl,FF.out⟩
  ·have c4:=cell_cur (i:=4) A.blk rfl
   have AD:Hid _:=A.gb (W:=(w2.setCell ⟨tb,3,none⟩ (.slice (some ⟨g',0,none⟩) nd cap')).drew) (Below.refl _ _).drew
   obtain ⟨RT,hRT,cL⟩:=AD.out.lead
   have FS5:(fun W=>W.cell? ⟨w.heap.size,0,none⟩=some (.int .i64 xi)/\W.cell? ⟨w.heap.size,1,none⟩=some (.slice ua nx uc)/\W.cell? ⟨tb,4,none⟩=some (.pointer (some ⟨rb,0,none⟩))) (w2.setCell ⟨tb,3,none⟩ (.slice (some ⟨g',0,none⟩) nd cap')).drew:=⟨ks _ _ r0,ks _ _ r1,c4⟩
   have HRT:Hid (RT.Perm rs):=hRT
   clear A ks r0 r1 hRT
   dsimp only at cL
   generalize (w2.setCell ⟨tb,3,none⟩ (.slice (some ⟨g',0,none⟩) nd cap'))=W3 at *
   go_wp2_with fail
   refine wp_region_held_drew (S:=fun W=>W.cell? ⟨w.heap.size,0,none⟩=some (.int .i64 xi)/\W.cell? ⟨w.heap.size,1,none⟩=some (.slice ua nx uc)/\W.cell? ⟨tb,4,none⟩=some (.pointer (some ⟨rb,0,none⟩))) (by kernel_rfl) (FS5) (fun hHeld=>?_)
   refine tkn 0 ?_ rfl ?_ ?_;rotate_left;·(rintro w ⟨s0,s1,s2⟩;go_simp;try rfl)
   refine tkn 1 ?_ rfl ?_ ?_;rotate_left;·(rintro w ⟨s0,s1,s2⟩;go_simp;try rfl)
   refine tkn 2 ?_ rfl ?_ ?_;rotate_left;·(rintro w ⟨s0,s1,s2⟩;go_simp;try rfl)
   refine tkn 3 ?_ rfl ?_ ?_;rotate_left;·(rintro w ⟨s0,s1,s2⟩;go_simp;try rfl)
   refine tkn 4 ?_ rfl ?_ ?_;rotate_left;·(rintro w ⟨s0,s1,s2⟩;go_simp;try rfl)
   refine rdn 5 rfl (fun K hK=>?_)
   go_simp
   go_fit cL
   rintro e w4 hO
   obtain ⟨p,gq,nq,cq,rfl,d6,d6a,kk4,kt4,v7,W7,a7,n7,c7,rfl,hrun,kk7,cP⟩:=AD.out.last HRT.out hO RX.out.1 RX.out.2
   clear hO cL AD HRT
   refine hK.out _ _ (⟨kk4 _ _ hHeld.1,kk4 _ _ hHeld.2.1,kt4 _ _ hHeld.2.2⟩) (fun hHeld=>?_)
   clear hK K
   refine tkn 6 ?_ rfl ?_ ?_;rotate_left;·(rintro w ⟨s0,s1,s2⟩;go_simp;try rfl)
   refine wpAnyH_done (by kernel_rfl) ?_ _
   have FS6:(fun W=>W.cell? ⟨w.heap.size,0,none⟩=some (.int .i64 xi)/\W.cell? ⟨w.heap.size,1,none⟩=some (.slice ua nx uc)) w4.drew:=⟨hHeld.1,hHeld.2.1⟩
   clear hHeld FS5 c4 kk4 kt4
   go_wp2_with fail
   refine wp_region_held_drew (S:=fun W=>W.cell? ⟨w.heap.size,0,none⟩=some (.int .i64 xi)/\W.cell? ⟨w.heap.size,1,none⟩=some (.slice ua nx uc)) (by kernel_rfl) (FS6) (fun hHeld=>?_)
   refine tkn 0 ?_ rfl ?_ ?_;rotate_left;·(rintro w ⟨s0,s1⟩;go_simp;try rfl)
   refine tkn 1 ?_ rfl ?_ ?_;rotate_left;·(rintro w ⟨s0,s1⟩;go_simp;try rfl)
   refine tkn 2 ?_ rfl ?_ ?_;rotate_left;·(rintro w ⟨s0,s1⟩;go_simp;try rfl)
   refine tkn 3 ?_ rfl ?_ ?_;rotate_left;·(rintro w ⟨s0,s1⟩;go_simp;try rfl)
   refine tkn 4 ?_ rfl ?_ ?_;rotate_left;·(rintro w ⟨s0,s1⟩;go_simp;try rfl)
   refine tkn 6 ?_ rfl ?_ ?_;rotate_left;·(rintro w ⟨s0,s1⟩;go_simp;try rfl)
   refine wpAnyH_ready (rs:=[5,7]) (by kernel_rfl) (by simp) ?_
   refine AllReadyH.cons rfl (fun K hK=>?_) (AllReadyH.cons rfl (fun K hK=>?_) AllReadyH.nil)
   ·go_simp
    refine hK.out _ _ (⟨hHeld.1,hHeld.2⟩) (fun hHeld=>?_)
    clear hK K
    refine rdn 7 rfl (fun K hK=>?_)
    go_simp
    refine hK.out _ _ (⟨gb_keeps (gb_alloc (Below.refl _ _) _) hHeld.1,gb_keeps (gb_alloc (Below.refl _ _) _) hHeld.2⟩) (fun hHeld=>?_)
    clear hK K
    refine rdn 8 rfl (fun K hK=>?_)
    refine app_run (by rfl) _ _ _ (by rfl) ⟨.slice (some ⟨gq,0,none⟩) nq cq,.slice (some ⟨w4.heap.size,0,none⟩) 1 1,_,_,(by go_simp),(by go_simp),hrun,?_⟩
    refine hK.out _ _ (⟨kk7 _ _ hHeld.1,kk7 _ _ hHeld.2⟩) (fun hHeld=>?_)
    clear hK K
    refine rdn 9 rfl (fun K hK=>?_)
    go_simp
    go_fit cP
    rintro e W8 ⟨bn,al,nl,cl,ah,nh,ch,q3,q4,ar,nr,cr,q7,q8,q9,k1,k2,rfl,⟨z0,z1,z2,z3,z4,z5,z6,z7,z8,z9,z10,z11⟩,⟨⟨y0,x0⟩,⟨y1,x1⟩,⟨y2,x2⟩,⟨y3,x3⟩,⟨y4,x4⟩,⟨y5,x5⟩,⟨y6,x6⟩,⟨y7,x7⟩,⟨y8,x8⟩,⟨y9,x9⟩,⟨y10,x10⟩,⟨y11,x11⟩⟩,⟨f0,f1,f2,f3,f4,f5,f6,f7,f8,f9,f10,f11⟩,kk8,kk9,FF⟩
    clear hrun kk7 d6 d6a
    refine hK.out _ _ (⟨kk8 _ _ hHeld.1,kk8 _ _ hHeld.2⟩) (fun hHeld=>?_)
    clear hK K
    refine tkn 10 ?_ rfl ?_ ?_;rotate_left;·(rintro w ⟨s0,s1⟩;go_simp;try rfl)
    refine rdn 11 rfl (fun K hK=>?_)
    go_simp
    refine hK.out _ _ (⟨hHeld.1,hHeld.2⟩) (fun hHeld=>?_)
    clear hK K
    refine tkn 12 ?_ rfl ?_ ?_;rotate_left;·(rintro w ⟨s0,s1⟩;go_simp;try rfl)
    refine rdn 13 rfl (fun K hK=>?_)
    go_simp
    refine hK.out _ _ (⟨kk9 _ _ hHeld.1,kk9 _ _ hHeld.2⟩) (fun hHeld=>?_)
    clear hK K
    refine wpAnyH_done (by kernel_rfl) ?_ _
    clear hHeld kk8 kk9
    go_wp2
    go_end0
    exact ⟨rfl,FF.out⟩
   ·go_simp
    refine hK.out _ _ (⟨gb_keeps (gb_alloc (Below.refl _ _) _) hHeld.1,gb_keeps (gb_alloc (Below.refl _ _) _) hHeld.2⟩) (fun hHeld=>?_)
    clear hK K
    refine rdn 5 rfl (fun K hK=>?_)
    go_simp
    refine hK.out _ _ (⟨hHeld.1,hHeld.2⟩) (fun hHeld=>?_)
    clear hK K
    refine rdn 8 rfl (fun K hK=>?_)
    refine app_run (by rfl) _ _ _ (by rfl) ⟨.slice (some ⟨gq,0,none⟩) nq cq,.slice (some ⟨w4.heap.size,0,none⟩) 1 1,_,_,(by go_simp),(by go_simp),hrun,?_⟩
    refine hK.out _ _ (⟨kk7 _ _ hHeld.1,kk7 _ _ hHeld.2⟩) (fun hHeld=>?_)
    clear hK K
    refine rdn 9 rfl (fun K hK=>?_)
    go_simp
    go_fit cP
    rintro e W8 ⟨bn,al,nl,cl,ah,nh,ch,q3,q4,ar,nr,cr,q7,q8,q9,k1,k2,rfl,⟨z0,z1,z2,z3,z4,z5,z6,z7,z8,z9,z10,z11⟩,⟨⟨y0,x0⟩,⟨y1,x1⟩,⟨y2,x2⟩,⟨y3,x3⟩,⟨y4,x4⟩,⟨y5,x5⟩,⟨y6,x6⟩,⟨y7,x7⟩,⟨y8,x8⟩,⟨y9,x9⟩,⟨y10,x10⟩,⟨y11,x11⟩⟩,⟨f0,f1,f2,f3,f4,f5,f6,f7,f8,f9,f10,f11⟩,kk8,kk9,FF⟩
    clear hrun kk7 d6 d6a
    refine hK.out _ _ (⟨kk8 _ _ hHeld.1,kk8 _ _ hHeld.2⟩) (fun hHeld=>?_)
    clear hK K
    refine tkn 10 ?_ rfl ?_ ?_;rotate_left;·(rintro w ⟨s0,s1⟩;go_simp;try rfl)
    refine rdn 11 rfl (fun K hK=>?_)
    go_simp
    refine hK.out _ _ (⟨hHeld.1,hHeld.2⟩) (fun hHeld=>?_)
    clear hK K
    refine tkn 12 ?_ rfl ?_ ?_;rotate_left;·(rintro w ⟨s0,s1⟩;go_simp;try rfl)
    refine rdn 13 rfl (fun K hK=>?_)
    go_simp
    refine hK.out _ _ (⟨kk9 _ _ hHeld.1,kk9 _ _ hHeld.2⟩) (fun hHeld=>?_)
    clear hK K
    refine wpAnyH_done (by kernel_rfl) ?_ _
    clear hHeld kk8 kk9
    go_wp2
    go_end0
    exact ⟨rfl,FF.out⟩
 ·go_simp
  refine hK.out _ _ (⟨gb_keeps (gb_alloc (Below.refl _ _) _) hHeld.1,gb_keeps (gb_alloc (Below.refl _ _) _) hHeld.2⟩) (fun hHeld=>?_)
  clear hK K
  refine rdn 4 rfl (fun K hK=>?_)
  go_simp
  refine hK.out _ _ (⟨hHeld.1,hHeld.2⟩) (fun hHeld=>?_)
  clear hK K
  refine rdn 8 rfl (fun K hK=>?_)
  go_simp
  go_fit cN
  rintro e w2 hO
  obtain ⟨g',cap',rfl,hO2,kk,⟨y2,k2⟩,f2,ks,r0,r1⟩:=IX.out _ _ hO
  clear hO cN IX
  refine hK.out _ _ (⟨kk _ _ hHeld.1,kk _ _ hHeld.2⟩) (fun hHeld=>?_)
  clear hK K
  refine tkn 9 ?_ rfl ?_ ?_;rotate_left;·(rintro w ⟨s0,s1⟩;go_simp;try rfl)
  refine tkn 10 ?_ rfl ?_ ?_;rotate_left;·(rintro w ⟨s0,s1⟩;go_simp;try rfl)
  refine rdn 11 rfl (fun K hK=>?_)
  go_simp
  refine hK.out _ _ (⟨ks _ _ hHeld.1,ks _ _ hHeld.2⟩) (fun hHeld=>?_)
  clear hK K
  refine wpAnyH_done (by kernel_rfl) ?_ _
  have A:=NX.out _ _ _ hO2
  clear hO2 NX hHeld
  rcases RTF.out with rfl | ⟨rb,rfl⟩
  ·have c4:=cell_cur (i:=4) A.blk rfl
   have c3:=cell_cur (i:=3) A.blk rfl
   have cN:=A.nil
   rw [ND'.out] at c3 cN
   clear A
   generalize (w2.setCell ⟨tb,3,none⟩ (.slice (some ⟨g',0,none⟩) nd cap'))=W3 at *
   go_wp2_with fail
   go_fit cN
   rintro e w4 ⟨pv,rfl,FF,⟨y4,k4⟩,f4⟩
   clear cN c3 c4
   go_wp2
   exact bodyPost_ret (v:=.tuple #[]) (by simp [results,Tryz.results49,go_sem]) rfl ⟨rfl,FF.out⟩
  ·have c4:=cell_cur (i:=4) A.blk rfl
   have AD:Hid _:=A.gb (W:=(w2.setCell ⟨tb,3,none⟩ (.slice (some ⟨g',0,none⟩) nd cap')).drew) (Below.refl _ _).drew
   obtain ⟨RT,hRT,cL⟩:=AD.out.lead
   have FS5:(fun W=>W.cell? ⟨w.heap.size,0,none⟩=some (.int .i64 xi)/\W.cell? ⟨w.heap.size,1,none⟩=some (.slice ua nx uc)/\W.cell? ⟨tb,4,none⟩=some (.pointer (some ⟨rb,0,none⟩))) (w2.setCell ⟨tb,3,none⟩ (.slice (some ⟨g',0,none⟩) nd cap')).drew:=⟨ks _ _ r0,ks _ _ r1,c4⟩
   have HRT:Hid (RT.Perm rs):=hRT
   clear A ks r0 r1 hRT
   dsimp only at cL
   generalize (w2.setCell ⟨tb,3,none⟩ (.slice (some ⟨g',0,none⟩) nd cap'))=W3 at *
   go_wp2_with fail
   refine wp_region_held_drew (S:=fun W=>W.cell? ⟨w.heap.size,0,none⟩=some (.int .i64 xi)/\W.cell? ⟨w.heap.size,1,none⟩=some (.slice ua nx uc)/\W.cell? ⟨tb,4,none⟩=some (.pointer (some ⟨rb,0,none⟩))) (by kernel_rfl) (FS5) (fun hHeld=>?_)
   refine tkn 0 ?_ rfl ?_ ?_;rotate_left;·(rintro w ⟨s0,s1,s2⟩;go_simp;try rfl)
   refine tkn 1 ?_ rfl ?_ ?_;rotate_left;·(rintro w ⟨s0,s1,s2⟩;go_simp;try rfl)
   refine tkn 2 ?_ rfl ?_ ?_;rotate_left;·(rintro w ⟨s0,s1,s2⟩;go_simp;try rfl)
   refine tkn 3 ?_ rfl ?_ ?_;rotate_left;·(rintro w ⟨s0,s1,s2⟩;go_simp;try rfl)
   refine tkn 4 ?_ rfl ?_ ?_;rotate_left;·(rintro w ⟨s0,s1,s2⟩;go_simp;try rfl)
   refine rdn 5 rfl (fun K hK=>?_)
   go_simp
   go_fit cL
   rintro e w4 hO
   obtain ⟨p,gq,nq,cq,rfl,d6,d6a,kk4,kt4,v7,W7,a7,n7,c7,rfl,hrun,kk7,cP⟩:=AD.out.last HRT.out hO RX.out.1 RX.out.2
   clear hO cL AD HRT
   refine hK.out _ _ (⟨kk4 _ _ hHeld.1,kk4 _ _ hHeld.2.1,kt4 _ _ hHeld.2.2⟩) (fun hHeld=>?_)
   clear hK K
   refine tkn 6 ?_ rfl ?_ ?_;rotate_left;·(rintro w ⟨s0,s1,s2⟩;go_simp;try rfl)
   refine wpAnyH_done (by kernel_rfl) ?_ _
   have FS6:(fun W=>W.cell? ⟨w.heap.size,0,none⟩=some (.int .i64 xi)/\W.cell? ⟨w.heap.size,1,none⟩=some (.slice ua nx uc)) w4.drew:=⟨hHeld.1,hHeld.2.1⟩
   clear hHeld FS5 c4 kk4 kt4
   go_wp2_with fail
   refine wp_region_held_drew (S:=fun W=>W.cell? ⟨w.heap.size,0,none⟩=some (.int .i64 xi)/\W.cell? ⟨w.heap.size,1,none⟩=some (.slice ua nx uc)) (by kernel_rfl) (FS6) (fun hHeld=>?_)
   refine tkn 0 ?_ rfl ?_ ?_;rotate_left;·(rintro w ⟨s0,s1⟩;go_simp;try rfl)
   refine tkn 1 ?_ rfl ?_ ?_;rotate_left;·(rintro w ⟨s0,s1⟩;go_simp;try rfl)
   refine tkn 2 ?_ rfl ?_ ?_;rotate_left;·(rintro w ⟨s0,s1⟩;go_simp;try rfl)
   refine tkn 3 ?_ rfl ?_ ?_;rotate_left;·(rintro w ⟨s0,s1⟩;go_simp;try rfl)
   refine tkn 4 ?_ rfl ?_ ?_;rotate_left;·(rintro w ⟨s0,s1⟩;go_simp;try rfl)
   refine tkn 6 ?_ rfl ?_ ?_;rotate_left;·(rintro w ⟨s0,s1⟩;go_simp;try rfl)
   refine wpAnyH_ready (rs:=[5,7]) (by kernel_rfl) (by simp) ?_
   refine AllReadyH.cons rfl (fun K hK=>?_) (AllReadyH.cons rfl (fun K hK=>?_) AllReadyH.nil)
   ·go_simp
    refine hK.out _ _ (⟨hHeld.1,hHeld.2⟩) (fun hHeld=>?_)
    clear hK K
    refine rdn 7 rfl (fun K hK=>?_)
    go_simp
    refine hK.out _ _ (⟨gb_keeps (gb_alloc (Below.refl _ _) _) hHeld.1,gb_keeps (gb_alloc (Below.refl _ _) _) hHeld.2⟩) (fun hHeld=>?_)
    clear hK K
    refine rdn 8 rfl (fun K hK=>?_)
    refine app_run (by rfl) _ _ _ (by rfl) ⟨.slice (some ⟨gq,0,none⟩) nq cq,.slice (some ⟨w4.heap.size,0,none⟩) 1 1,_,_,(by go_simp),(by go_simp),hrun,?_⟩
    refine hK.out _ _ (⟨kk7 _ _ hHeld.1,kk7 _ _ hHeld.2⟩) (fun hHeld=>?_)
    clear hK K
    refine rdn 9 rfl (fun K hK=>?_)
    go_simp
    go_fit cP
    rintro e W8 ⟨bn,al,nl,cl,ah,nh,ch,q3,q4,ar,nr,cr,q7,q8,q9,k1,k2,rfl,⟨z0,z1,z2,z3,z4,z5,z6,z7,z8,z9,z10,z11⟩,⟨⟨y0,x0⟩,⟨y1,x1⟩,⟨y2,x2⟩,⟨y3,x3⟩,⟨y4,x4⟩,⟨y5,x5⟩,⟨y6,x6⟩,⟨y7,x7⟩,⟨y8,x8⟩,⟨y9,x9⟩,⟨y10,x10⟩,⟨y11,x11⟩⟩,⟨f0,f1,f2,f3,f4,f5,f6,f7,f8,f9,f10,f11⟩,kk8,kk9,FF⟩
    clear hrun kk7 d6 d6a
    refine hK.out _ _ (⟨kk8 _ _ hHeld.1,kk8 _ _ hHeld.2⟩) (fun hHeld=>?_)
    clear hK K
    refine tkn 10 ?_ rfl ?_ ?_;rotate_left;·(rintro w ⟨s0,s1⟩;go_simp;try rfl)
    refine rdn 11 rfl (fun K hK=>?_)
    go_simp
    refine hK.out _ _ (⟨hHeld.1,hHeld.2⟩) (fun hHeld=>?_)
    clear hK K
    refine tkn 12 ?_ rfl ?_ ?_;rotate_left;·(rintro w ⟨s0,s1⟩;go_simp;try rfl)
    refine rdn 13 rfl (fun K hK=>?_)
    go_simp
    refine hK.out _ _ (⟨kk9 _ _ hHeld.1,kk9 _ _ hHeld.2⟩) (fun hHeld=>?_)
    clear hK K
    refine wpAnyH_done (by kernel_rfl) ?_ _
    clear hHeld kk8 kk9
    go_wp2
    go_end0
    exact ⟨rfl,FF.out⟩
   ·go_simp
    refine hK.out _ _ (⟨gb_keeps (gb_alloc (Below.refl _ _) _) hHeld.1,gb_keeps (gb_alloc (Below.refl _ _) _) hHeld.2⟩) (fun hHeld=>?_)
    clear hK K
    refine rdn 5 rfl (fun K hK=>?_)
    go_simp
    refine hK.out _ _ (⟨hHeld.1,hHeld.2⟩) (fun hHeld=>?_)
    clear hK K
    refine rdn 8 rfl (fun K hK=>?_)
    refine app_run (by rfl) _ _ _ (by rfl) ⟨.slice (some ⟨gq,0,none⟩) nq cq,.slice (some ⟨w4.heap.size,0,none⟩) 1 1,_,_,(by go_simp),(by go_simp),hrun,?_⟩
    refine hK.out _ _ (⟨kk7 _ _ hHeld.1,kk7 _ _ hHeld.2⟩) (fun hHeld=>?_)
    clear hK K
    refine rdn 9 rfl (fun K hK=>?_)
    go_simp
    go_fit cP
    rintro e W8 ⟨bn,al,nl,cl,ah,nh,ch,q3,q4,ar,nr,cr,q7,q8,q9,k1,k2,rfl,⟨z0,z1,z2,z3,z4,z5,z6,z7,z8,z9,z10,z11⟩,⟨⟨y0,x0⟩,⟨y1,x1⟩,⟨y2,x2⟩,⟨y3,x3⟩,⟨y4,x4⟩,⟨y5,x5⟩,⟨y6,x6⟩,⟨y7,x7⟩,⟨y8,x8⟩,⟨y9,x9⟩,⟨y10,x10⟩,⟨y11,x11⟩⟩,⟨f0,f1,f2,f3,f4,f5,f6,f7,f8,f9,f10,f11⟩,kk8,kk9,FF⟩
    clear hrun kk7 d6 d6a
    refine hK.out _ _ (⟨kk8 _ _ hHeld.1,kk8 _ _ hHeld.2⟩) (fun hHeld=>?_)
    clear hK K
    refine tkn 10 ?_ rfl ?_ ?_;rotate_left;·(rintro w ⟨s0,s1⟩;go_simp;try rfl)
    refine rdn 11 rfl (fun K hK=>?_)
    go_simp
    refine hK.out _ _ (⟨hHeld.1,hHeld.2⟩) (fun hHeld=>?_)
    clear hK K
    refine tkn 12 ?_ rfl ?_ ?_;rotate_left;·(rintro w ⟨s0,s1⟩;go_simp;try rfl)
    refine rdn 13 rfl (fun K hK=>?_)
    go_simp
    refine hK.out _ _ (⟨kk9 _ _ hHeld.1,kk9 _ _ hHeld.2⟩) (fun hHeld=>?_)
    clear hK K
    refine wpAnyH_done (by kernel_rfl) ?_ _
    clear hHeld kk8 kk9
    go_wp2
    go_end0
    exact ⟨rfl,FF.out⟩
end Go.Proofs.YtepjbdklljlecaaGreat
