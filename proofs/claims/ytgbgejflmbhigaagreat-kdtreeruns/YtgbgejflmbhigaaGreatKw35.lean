import Derived.Test.YtgbgejflmbhigaaGreatKw34
import Derived.Deep.DeepCutAuto
import Derived.Test.YtgbgejflmbhigaaGreatKw12
namespace Go.Proofs.YtgbgejflmbhigaaGreat
open Go.RowKit Go.Sort Go.Maps
set_option maxRecDepth 100000
set_option maxHeartbeats 4000000
def pt0:Nat × Pt:=(0,⟨[],[],[],(0,0,0),none⟩)
def opn (M:List (Nat × Pt)) (O:List Nat):List Pt:=O.map fun i=>(M.getD i pt0).2
theorem opn_more {M:List (Nat × Pt)} {O:List Nat} (x:Nat × Pt) (h:∀ i ∈ O,i < M.length):opn (M ++ [x]) O=opn M O:=by
 unfold opn
 apply List.map_congr_left
 intro i hi
 rw [List.getD_eq_getElem?_getD,List.getD_eq_getElem?_getD,List.getElem?_append_left (h i hi)]
theorem cnt_lt {q:List Int} {p:Pt}:∀ {l:List Pt},Dsc q l->∀ t (ht:t < l.length),(t < l.countP fun u=>decide (bnd q p<=bnd q u)) ↔ bnd q p<=bnd q l[t]
 | [],_,t,ht=>absurd ht (Nat.not_lt_zero _)
 | u :: r,h,t,ht=>by
  have h1:=List.pairwise_cons.1 h
  by_cases hu:bnd q p<=bnd q u
  ·rw [List.countP_cons_of_pos (by simpa using hu)]
   cases t with
   | zero=>simp [hu]
   | succ t =>
    have:=cnt_lt (p:=p) h1.2 t (by simpa using ht)
    simp only [List.getElem_cons_succ]
    omega
  ·have h0:(u :: r).countP (fun u=>decide (bnd q p<=bnd q u))=0:=by
    rw [List.countP_eq_zero]
    intro x hx
    rcases List.mem_cons.1 hx with e | e
    ·rw [e];simpa using hu
    ·have:=h1.1 x e;simp;omega
   rw [h0]
   constructor
   ·intro e;omega
   ·intro e
    exfalso
    have hm:=List.getElem_mem ht
    rcases List.mem_cons.1 hm with e2 | e2
    ·rw [e2] at e;exact hu e
    ·have:=h1.1 _ e2;omega
theorem cw_hl (a b:Nat):Tk.cw (hi a) (lo a) (hi b) (lo b)=if a=b then 0 else if a < b then -1 else 1:=by
 by_cases e:a=b
 ·subst e;unfold Tk.cw;rw [if_pos ⟨rfl,rfl⟩,if_pos rfl]
 ·have hne:¬ (hi a=hi b/\lo a=lo b):=by unfold hi lo;omega
  rw [if_neg e];unfold Tk.cw;rw [if_neg hne]
  by_cases l:a < b
  ·rw [if_pos l,if_pos (by unfold hi lo;omega)]
  ·rw [if_neg l,if_neg (by unfold hi lo;omega)]
theorem Tryz.info_cand:(Tryz.prog.info? 117).map (fun i=>(i.zero,i.size,i.bytes))=some (some (.agg #[.pointer none,.int .u64 0,.int .u64 0]),3,24):=by kernel_rfl
theorem info_cand:∃ i0,Tryz.prog.info? 117=some i0/\i0.zero=some (.agg #[.pointer none,.int .u64 0,.int .u64 0])/\i0.size=3/\i0.bytes=24:=by
 have h:=Tryz.info_cand
 cases hi:Tryz.prog.info? 117 with
 | none=>rw [hi] at h;cases h
 | some i =>
  rw [hi] at h
  simp only [Option.map_some,Option.some.injEq,Prod.mk.injEq] at h
  exact ⟨i,rfl,h.1,h.2.1,h.2.2⟩
theorem kthree_new (w:World) (x y z:Value) (t:TypeId):∀ j u,[x,y,z][j]? = some u->(w.alloc (.cells #[x,y,z] t)).cell? ((⟨w.heap.size,0,none⟩:Addr).add j)=some u:=by
 intro j u hj
 rw [Addr.add_lit,Nat.zero_add]
 exact cell_cur (heap_new w _) (by simpa using hj)
theorem await_c {w0 W:World} {T:Nat->Pt} {N sb hb k:Nat} {vq:Value} {q:List Int} {bud:Nat} {seen:List Rw} {O:List Nat} {M:List (Nat × Pt)} {vs vm vo vh:Value} {pb:Nat} {p:Pt} (h:SAt w0 W T N sb hb k vq q bud seen O M vs vm vo vh) (hmp:MP w0 W T N pb p)
  (hbx:ckB (pr p) q=0) (hd:Dsc q (opn M O)) (hf:M.length + 1<=10000) (hof:O.length<=10000) :
  Calls Tryz.prog 36 #[.pointer (some ⟨sb,0,none⟩),.pointer (some ⟨pb,0,none⟩)] W fun e W'=>e=.returned (.tuple #[])/\∃ O' vm' vo',SAt w0 W' T N sb hb k vq q bud seen O' (M ++ [(pb,p)]) vs vm' vo' vh/\opn (M ++ [(pb,p)]) O'=insP q p (opn M O)/\O'.length=O.length + 1:=by
 obtain ⟨qa,qc,eq,_⟩:=h.q
 obtain ⟨oa,oc,eo,_⟩:=h.op.rd
 rw [List.length_map] at eo
 obtain ⟨ma,mc,em⟩:∃ ma mc,vm=.slice ma M.length mc:=by
  rcases h.mt.2 with ⟨e,h0⟩ | ⟨g,cap,cur,e,_⟩
  ·exact ⟨none,0,by rw [e,h0]⟩
  ·exact ⟨_,cap,e⟩
 have vsf:∃ sa sc,vs=.slice sa seen.length sc:=by
  obtain ⟨a,c,e,_⟩:=h.sn.rd
  unfold idsOf at e
  rw [List.length_map] at e
  exact ⟨a,c,e⟩
 obtain ⟨sa,sc,es⟩:=vsf
 subst eq eo em es
 have hmp0:=hmp
 obtain ⟨vl,vh',vr,hblk,rl,rh,_⟩:=hmp
 have rl0:=rl
 have rh0:=rh
 obtain ⟨al,cl,el,_⟩:=rl0
 obtain ⟨ah,ch,eh,_⟩:=rh0
 have hz:hi 0=0/\lo 0=0:=⟨by decide,by decide⟩
 have hrR:RdR w0 (.agg #[.int .i64 2,vl,vh',.int .u64 0,.int .u64 0,.slice none 0 0]) (pr p):=⟨_,_,_,by simp only [rv,hz.1,hz.2];rfl,rl,rh,none,0,rfl,fun i hi=>absurd hi (Nat.not_lt_zero _)⟩
 have hbv:bndV (pr p) q=bnd q p:=by unfold bndV;rw [if_pos hbx];rfl
 subst el eh
 obtain ⟨c0,c1,c2,c3,c4,c5,fz⟩:=h.cells
 have CB:Hid (∀ W',Gb W.drew W'->Calls Tryz.prog 62 #[.agg #[.int .i64 2,.slice al p.L.length cl,.slice ah p.H.length ch,.int .u64 0,.int .u64 0,.slice none 0 0],.slice qa q.length qc] W' fun e w'=>e=.returned (.tuple #[.agg #[.int .u64 (hi (bnd q p)),.int .u64 (lo (bnd q p))],.int .i64 0])/\Gb W' w'):=fun W' g=>by
  have g0:Gb w0 W':=gb_trans h.gb (gb_trans (Below.refl _ _).drew g)
  have:=bound_c (hrR.gb g0) (h.q.gb g0) (by simp) (by dsimp only;omega)
  rw [hbv,hbx] at this
  exact this.mono fun e w' hh=>⟨hh.1,hh.2.gb⟩
 have pbt:pb < W.heap.size:=(Array.getElem?_eq_some_iff.1 hblk).1
 have FS1:(fun W=>W.cell? ⟨pb,0,none⟩=some (.int .i64 2)/\W.cell? ⟨pb,1,none⟩=some (.slice al p.L.length cl)/\W.cell? ⟨pb,2,none⟩=some (.slice ah p.H.length ch)/\W.cell? ⟨pb,3,none⟩=some (.int .u64 0)/\W.cell? ⟨pb,4,none⟩=some (.int .u64 0)/\W.cell? ⟨pb,5,none⟩=some (.slice none 0 0)/\W.cell? ⟨sb,0,none⟩=some (.slice qa q.length qc)) W.drew:=⟨cell_cur hblk rfl,cell_cur hblk rfl,cell_cur hblk rfl,cell_cur hblk rfl,cell_cur hblk rfl,cell_cur hblk rfl,c0⟩
 obtain ⟨bh,hbh⟩:∃ bh,bh=hi (bnd q p):=⟨_,rfl⟩
 obtain ⟨bl,hbl⟩:∃ bl,bl=lo (bnd q p):=⟨_,rfl⟩
 have BB:Hid (bh=hi (bnd q p)/\bl=lo (bnd q p)):=⟨hbh,hbl⟩
 rw [<- hbh,<- hbl] at CB
 have keep1:∀ w',Gb W.drew w'->(fun W=>W.cell? ⟨pb,0,none⟩=some (.int .i64 2)/\W.cell? ⟨pb,1,none⟩=some (.slice al p.L.length cl)/\W.cell? ⟨pb,2,none⟩=some (.slice ah p.H.length ch)/\W.cell? ⟨pb,3,none⟩=some (.int .u64 0)/\W.cell? ⟨pb,4,none⟩=some (.int .u64 0)/\W.cell? ⟨pb,5,none⟩=some (.slice none 0 0)/\W.cell? ⟨sb,0,none⟩=some (.slice qa q.length qc)) w':=fun w' g=>⟨gb_keeps g FS1.1,gb_keeps g FS1.2.1,gb_keeps g FS1.2.2.1,gb_keeps g FS1.2.2.2.1,gb_keeps g FS1.2.2.2.2.1,gb_keeps g FS1.2.2.2.2.2.1,gb_keeps g FS1.2.2.2.2.2.2⟩
 have KA:Hid (∀ w1,Gb W.drew w1->(fun W=>W.cell? ⟨pb,0,none⟩=some (.int .i64 2)/\W.cell? ⟨pb,1,none⟩=some (.slice al p.L.length cl)/\W.cell? ⟨pb,2,none⟩=some (.slice ah p.H.length ch)/\W.cell? ⟨pb,3,none⟩=some (.int .u64 0)/\W.cell? ⟨pb,4,none⟩=some (.int .u64 0)/\W.cell? ⟨pb,5,none⟩=some (.slice none 0 0)/\W.cell? ⟨sb,0,none⟩=some (.slice qa q.length qc)) (w1.alloc (.cells #[.int .u64 bh,.int .u64 bl] 58))):=fun w1 g=>keep1 _ (gb_alloc g _)
 have KB:Hid (∀ w1,Gb (W.drew.alloc (.cells #[.int .u64 0,.int .u64 0] 58)) w1->(fun W=>W.cell? ⟨pb,0,none⟩=some (.int .i64 2)/\W.cell? ⟨pb,1,none⟩=some (.slice al p.L.length cl)/\W.cell? ⟨pb,2,none⟩=some (.slice ah p.H.length ch)/\W.cell? ⟨pb,3,none⟩=some (.int .u64 0)/\W.cell? ⟨pb,4,none⟩=some (.int .u64 0)/\W.cell? ⟨pb,5,none⟩=some (.slice none 0 0)/\W.cell? ⟨sb,0,none⟩=some (.slice qa q.length qc)) ((w1.setCell ⟨W.heap.size,0,none⟩ (.int .u64 bh)).setCell ⟨W.heap.size,1,none⟩ (.int .u64 bl))):=fun w1 g=>keep1 _ (gb_set (gb_set (gb_trans (gb_alloc (Below.refl _ _) _) g) (Nat.le_refl _) _) (Nat.le_refl _) _)
 have ZB:Hid (∀ w1,Gb (W.drew.alloc (.cells #[.int .u64 0,.int .u64 0] 58)) w1->(∃ y,w1.cell? ⟨W.heap.size,0,none⟩=some y)/\(∃ y,w1.cell? ⟨W.heap.size,1,none⟩=some y)/\w1.frozen? ⟨W.heap.size,0,none⟩=false/\w1.frozen? ⟨W.heap.size,1,none⟩=false):=fun w1 g=>by
  have hb:w1.heap[W.heap.size]? = some (.cells #[.int .u64 0,.int .u64 0] 58 (0,0)):=by
   rw [g.block W.heap.size (by rw [World.size_alloc];exact Nat.lt_succ_self _)]
   exact Array.getElem?_push_size
  exact ⟨⟨_,cell_cur hb rfl⟩,⟨_,cell_cur hb rfl⟩,by simp [World.frozen?,hb],by simp [World.frozen?,hb]⟩
 have RA:Hid (∀ w1,Gb W.drew w1->∃ wb,(Value.pointer (some ⟨w1.heap.size,0,none⟩))=.pointer (some ⟨wb,0,none⟩)/\Hid (Gb W (w1.alloc (.cells #[.int .u64 bh,.int .u64 bl] 58))/\(w1.alloc (.cells #[.int .u64 bh,.int .u64 bl] 58)).cell? ⟨wb,0,none⟩=some (.int .u64 bh)/\(w1.alloc (.cells #[.int .u64 bh,.int .u64 bl] 58)).cell? ⟨wb,1,none⟩=some (.int .u64 bl)/\Ty (w1.alloc (.cells #[.int .u64 bh,.int .u64 bl] 58)) wb 58)):=fun w1 g=>⟨_,rfl,gb_alloc (gb_trans (Below.refl _ _).drew g) _,by simp [go_sem],by simp [go_sem],_,_,heap_new _ _⟩
 have RB:Hid (∀ w1,Gb (W.drew.alloc (.cells #[.int .u64 0,.int .u64 0] 58)) w1->∃ wb,(Value.pointer (some ⟨W.heap.size,0,none⟩))=.pointer (some ⟨wb,0,none⟩)/\Hid (Gb W ((w1.setCell ⟨W.heap.size,0,none⟩ (.int .u64 bh)).setCell ⟨W.heap.size,1,none⟩ (.int .u64 bl))/\((w1.setCell ⟨W.heap.size,0,none⟩ (.int .u64 bh)).setCell ⟨W.heap.size,1,none⟩ (.int .u64 bl)).cell? ⟨wb,0,none⟩=some (.int .u64 bh)/\((w1.setCell ⟨W.heap.size,0,none⟩ (.int .u64 bh)).setCell ⟨W.heap.size,1,none⟩ (.int .u64 bl)).cell? ⟨wb,1,none⟩=some (.int .u64 bl)/\Ty ((w1.setCell ⟨W.heap.size,0,none⟩ (.int .u64 bh)).setCell ⟨W.heap.size,1,none⟩ (.int .u64 bl)) wb 58)):=fun w1 g=>by
  have hb:w1.heap[W.heap.size]? = some (.cells #[.int .u64 0,.int .u64 0] 58 (0,0)):=by
   rw [g.block W.heap.size (by rw [World.size_alloc];exact Nat.lt_succ_self _)]
   exact Array.getElem?_push_size
  refine ⟨_,rfl,gb_set (gb_set (gb_trans (gb_alloc (gb_trans (Below.refl _ _).drew (Below.refl _ _)) _) g) (Nat.le_refl _) _) (Nat.le_refl _) _,?_,?_,#[.int .u64 bh,.int .u64 bl],(0,0),?_⟩ <;> simp [World.cell?,World.setCell,Array.getElem?_modify,hb]
 have HS:Hid (SAt w0 W T N sb hb k (.slice qa q.length qc) q bud seen O M (.slice sa seen.length sc) (.slice ma M.length mc) (.slice oa O.length oc) vh/\MP w0 W T N pb p/\Dsc q (opn M O)/\M.length + 1<=10000/\O.length<=10000):=⟨h,hmp0,hd,hf,hof⟩
 generalize p.L.length=nl at *
 generalize p.H.length=nh at *
 generalize hnq:q.length=nq at *
 clear h hmp0 hd hblk rl rh hrR hbv c1 c2 c3 c4 c5 fz keep1 pbt hbh hbl hbx c0
 go_enter Tryz.func36,Tryz.ntmps36
 go_wp2_with fail
 go_cut [4] (fun b wx=>∃ wb,b=.pointer (some ⟨wb,0,none⟩)/\Hid (Gb W wx/\wx.cell? ⟨wb,0,none⟩=some (.int .u64 bh)/\wx.cell? ⟨wb,1,none⟩=some (.int .u64 bl)/\Ty wx wb 58))
 case first =>
  refine wp_region_held_drew (S:=fun W=>W.cell? ⟨pb,0,none⟩=some (.int .i64 2)/\W.cell? ⟨pb,1,none⟩=some (.slice al nl cl)/\W.cell? ⟨pb,2,none⟩=some (.slice ah nh ch)/\W.cell? ⟨pb,3,none⟩=some (.int .u64 0)/\W.cell? ⟨pb,4,none⟩=some (.int .u64 0)/\W.cell? ⟨pb,5,none⟩=some (.slice none 0 0)/\W.cell? ⟨sb,0,none⟩=some (.slice qa nq qc)) (by kernel_rfl) (FS1) (fun hHeld=>?_)
  refine tkn 0 ?_ rfl ?_ ?_;rotate_left;·(rintro w ⟨s0,s1,s2,s3,s4,s5,s6⟩;go_simp;try rfl)
  try simp only [Act.put,List.getElem_toArray,List.getElem_cons_zero,List.setIfInBounds_toArray,List.set_cons_zero,List.set_cons_succ]
  refine tkn 1 ?_ rfl ?_ ?_;rotate_left;·(rintro w ⟨s0,s1,s2,s3,s4,s5,s6⟩;go_simp;try rfl)
  try simp only [Act.put,List.getElem_toArray,List.getElem_cons_zero,List.getElem_cons_succ,List.setIfInBounds_toArray,List.set_cons_zero,List.set_cons_succ]
  refine tkn 2 ?_ rfl ?_ ?_;rotate_left;·(rintro w ⟨s0,s1,s2,s3,s4,s5,s6⟩;go_simp;try rfl)
  try simp only [Act.put,List.getElem_toArray,List.getElem_cons_zero,List.getElem_cons_succ,List.setIfInBounds_toArray,List.set_cons_zero,List.set_cons_succ]
  refine tkn 3 ?_ rfl ?_ ?_;rotate_left;·(rintro w ⟨s0,s1,s2,s3,s4,s5,s6⟩;go_simp;try rfl)
  try simp only [Act.put,List.getElem_toArray,List.getElem_cons_zero,List.getElem_cons_succ,List.setIfInBounds_toArray,List.set_cons_zero,List.set_cons_succ]
  refine tkn 4 ?_ rfl ?_ ?_;rotate_left;·(rintro w ⟨s0,s1,s2,s3,s4,s5,s6⟩;go_simp;try rfl)
  try simp only [Act.put,List.getElem_toArray,List.getElem_cons_zero,List.getElem_cons_succ,List.setIfInBounds_toArray,List.set_cons_zero,List.set_cons_succ]
  refine tkn 5 ?_ rfl ?_ ?_;rotate_left;·(rintro w ⟨s0,s1,s2,s3,s4,s5,s6⟩;go_simp;try rfl)
  try simp only [Act.put,List.getElem_toArray,List.getElem_cons_zero,List.getElem_cons_succ,List.setIfInBounds_toArray,List.set_cons_zero,List.set_cons_succ]
  refine tkn 6 ?_ rfl ?_ ?_;rotate_left;·(rintro w ⟨s0,s1,s2,s3,s4,s5,s6⟩;go_simp;try rfl)
  try simp only [Act.put,List.getElem_toArray,List.getElem_cons_zero,List.getElem_cons_succ,List.setIfInBounds_toArray,List.set_cons_zero,List.set_cons_succ]
  refine tkn 7 ?_ rfl ?_ ?_;rotate_left;·(rintro w ⟨s0,s1,s2,s3,s4,s5,s6⟩;go_simp;try rfl)
  try simp only [Act.put,List.getElem_toArray,List.getElem_cons_zero,List.getElem_cons_succ,List.setIfInBounds_toArray,List.set_cons_zero,List.set_cons_succ]
  refine wpAnyH_ready (rs:=[8,12]) (by kernel_rfl) (by simp) ?_
  refine AllReadyH.cons rfl (fun K hK=>?_) (AllReadyH.cons rfl (fun K hK=>?_) AllReadyH.nil)
  ·go_simp
   go_fit (CB.out _ (Below.refl _ _))
   rintro e w1 ⟨rfl,g1⟩
   refine hK.out _ _ (⟨gb_keeps (g1) hHeld.1,gb_keeps (g1) hHeld.2.1,gb_keeps (g1) hHeld.2.2.1,gb_keeps (g1) hHeld.2.2.2.1,gb_keeps (g1) hHeld.2.2.2.2.1,gb_keeps (g1) hHeld.2.2.2.2.2.1,gb_keeps (g1) hHeld.2.2.2.2.2.2⟩) (fun hHeld=>?_)
   clear hK K
   try simp only [Act.put,List.getElem_toArray,List.getElem_cons_zero,List.getElem_cons_succ,List.setIfInBounds_toArray,List.set_cons_zero,List.set_cons_succ]
   refine tkn 9 ?_ rfl ?_ ?_;rotate_left;·(rintro w ⟨s0,s1,s2,s3,s4,s5,s6⟩;go_simp;try rfl)
   try simp only [Act.put,List.getElem_toArray,List.getElem_cons_zero,List.getElem_cons_succ,List.setIfInBounds_toArray,List.set_cons_zero,List.set_cons_succ]
   refine tkn 10 ?_ rfl ?_ ?_;rotate_left;·(rintro w ⟨s0,s1,s2,s3,s4,s5,s6⟩;go_simp;try rfl)
   try simp only [Act.put,List.getElem_toArray,List.getElem_cons_zero,List.getElem_cons_succ,List.setIfInBounds_toArray,List.set_cons_zero,List.set_cons_succ]
   refine tkn 11 ?_ rfl ?_ ?_;rotate_left;·(rintro w ⟨s0,s1,s2,s3,s4,s5,s6⟩;go_simp;try rfl)
   try simp only [Act.put,List.getElem_toArray,List.getElem_cons_zero,List.getElem_cons_succ,List.setIfInBounds_toArray,List.set_cons_zero,List.set_cons_succ]
   refine rdn 12 rfl (fun K hK=>?_)
   go_simp
   refine hK.out _ _ (⟨gb_keeps (gb_alloc (Below.refl _ _) _) hHeld.1,gb_keeps (gb_alloc (Below.refl _ _) _) hHeld.2.1,gb_keeps (gb_alloc (Below.refl _ _) _) hHeld.2.2.1,gb_keeps (gb_alloc (Below.refl _ _) _) hHeld.2.2.2.1,gb_keeps (gb_alloc (Below.refl _ _) _) hHeld.2.2.2.2.1,gb_keeps (gb_alloc (Below.refl _ _) _) hHeld.2.2.2.2.2.1,gb_keeps (gb_alloc (Below.refl _ _) _) hHeld.2.2.2.2.2.2⟩) (fun hHeld=>?_)
   clear hK K
   try simp only [Act.put,List.getElem_toArray,List.getElem_cons_zero,List.getElem_cons_succ,List.setIfInBounds_toArray,List.set_cons_zero,List.set_cons_succ]
   refine rdn 13 rfl (fun K hK=>?_)
   go_simp
   refine hK.out _ _ (KA.out _ g1) (fun hHeld=>?_)
   clear hK K
   try simp only [Act.put,List.getElem_toArray,List.getElem_cons_zero,List.getElem_cons_succ,List.setIfInBounds_toArray,List.set_cons_zero,List.set_cons_succ]
   refine tkn 14 ?_ rfl ?_ ?_;rotate_left;·(rintro w ⟨s0,s1,s2,s3,s4,s5,s6⟩;go_simp;try rfl)
   try simp only [Act.put,List.getElem_toArray,List.getElem_cons_zero,List.getElem_cons_succ,List.setIfInBounds_toArray,List.set_cons_zero,List.set_cons_succ]
   refine wpAnyH_done (by kernel_rfl) ?_ _
   clear hHeld
   go_wp2_with fail
   go_meet
   case rel=>exact RA.out _ g1
  ·go_simp
   refine hK.out _ _ (⟨gb_keeps (gb_alloc (Below.refl _ _) _) hHeld.1,gb_keeps (gb_alloc (Below.refl _ _) _) hHeld.2.1,gb_keeps (gb_alloc (Below.refl _ _) _) hHeld.2.2.1,gb_keeps (gb_alloc (Below.refl _ _) _) hHeld.2.2.2.1,gb_keeps (gb_alloc (Below.refl _ _) _) hHeld.2.2.2.2.1,gb_keeps (gb_alloc (Below.refl _ _) _) hHeld.2.2.2.2.2.1,gb_keeps (gb_alloc (Below.refl _ _) _) hHeld.2.2.2.2.2.2⟩) (fun hHeld=>?_)
   clear hK K
   try simp only [Act.put,List.getElem_toArray,List.getElem_cons_zero,List.getElem_cons_succ,List.setIfInBounds_toArray,List.set_cons_zero,List.set_cons_succ]
   refine rdn 8 rfl (fun K hK=>?_)
   go_simp
   go_fit (CB.out _ (gb_alloc (Below.refl _ _) _))
   rintro e w1 ⟨rfl,g1⟩
   obtain ⟨⟨y0,z0⟩,⟨y1,z1⟩,f0,f1⟩:=ZB.out _ g1
   refine hK.out _ _ (⟨gb_keeps (g1) hHeld.1,gb_keeps (g1) hHeld.2.1,gb_keeps (g1) hHeld.2.2.1,gb_keeps (g1) hHeld.2.2.2.1,gb_keeps (g1) hHeld.2.2.2.2.1,gb_keeps (g1) hHeld.2.2.2.2.2.1,gb_keeps (g1) hHeld.2.2.2.2.2.2⟩) (fun hHeld=>?_)
   clear hK K
   try simp only [Act.put,List.getElem_toArray,List.getElem_cons_zero,List.getElem_cons_succ,List.setIfInBounds_toArray,List.set_cons_zero,List.set_cons_succ]
   refine tkn 9 ?_ rfl ?_ ?_;rotate_left;·(rintro w ⟨s0,s1,s2,s3,s4,s5,s6⟩;go_simp;try rfl)
   try simp only [Act.put,List.getElem_toArray,List.getElem_cons_zero,List.getElem_cons_succ,List.setIfInBounds_toArray,List.set_cons_zero,List.set_cons_succ]
   refine tkn 10 ?_ rfl ?_ ?_;rotate_left;·(rintro w ⟨s0,s1,s2,s3,s4,s5,s6⟩;go_simp;try rfl)
   try simp only [Act.put,List.getElem_toArray,List.getElem_cons_zero,List.getElem_cons_succ,List.setIfInBounds_toArray,List.set_cons_zero,List.set_cons_succ]
   refine tkn 11 ?_ rfl ?_ ?_;rotate_left;·(rintro w ⟨s0,s1,s2,s3,s4,s5,s6⟩;go_simp;try rfl)
   try simp only [Act.put,List.getElem_toArray,List.getElem_cons_zero,List.getElem_cons_succ,List.setIfInBounds_toArray,List.set_cons_zero,List.set_cons_succ]
   refine rdn 13 rfl (fun K hK=>?_)
   go_simp
   refine hK.out _ _ (KB.out _ g1) (fun hHeld=>?_)
   clear hK K
   try simp only [Act.put,List.getElem_toArray,List.getElem_cons_zero,List.getElem_cons_succ,List.setIfInBounds_toArray,List.set_cons_zero,List.set_cons_succ]
   refine tkn 14 ?_ rfl ?_ ?_;rotate_left;·(rintro w ⟨s0,s1,s2,s3,s4,s5,s6⟩;go_simp;try rfl)
   try simp only [Act.put,List.getElem_toArray,List.getElem_cons_zero,List.getElem_cons_succ,List.setIfInBounds_toArray,List.set_cons_zero,List.set_cons_succ]
   refine wpAnyH_done (by kernel_rfl) ?_ _
   clear hHeld z0 z1 f0 f1
   go_wp2_with fail
   go_meet
   case rel=>exact RB.out _ g1
 case rest =>
  clear CB FS1 KA KB ZB RA RB
  obtain ⟨wb,rfl,H1⟩:=hcut
  obtain ⟨hS,hmp,hd,hf,hof⟩:=HS.out
  have hV:=hS.grow H1.out.1
  obtain ⟨c0,c1,c2,c3,c4,c5,fz⟩:=hV.cells
  have f4:=fz 4
  obtain ⟨i0,hi0,hz0,hz1,hz2⟩:=info_cand
  have gA:Gb wc (wc.drew.alloc (.cells #[.pointer (some ⟨pb,0,none⟩),.int .u64 bh,.int .u64 bl] 117)):=gb_alloc (Below.refl _ _).drew _
  obtain ⟨v',W2,hrun,hown,hgrow,hnn,_⟩:=run_append_own_at (P:=Tryz.prog) (wc.drew.alloc (.cells #[.pointer (some ⟨pb,0,none⟩),.int .u64 bh,.int .u64 bl] 117)) w0.heap.size 83 83 117 i0 (.agg #[.pointer none,.int .u64 0,.int .u64 0]) 3 24 Tryz.underlying83 hi0 hz0 hz1 hz2 rfl (by decide)
   (.slice ma M.length mc) M.length (M.flatMap (encM q)) (hV.grow gA).mt ⟨wc.heap.size,0,none⟩ 1 1 [.pointer (some ⟨pb,0,none⟩),.int .u64 bh,.int .u64 bl] rfl (kthree_new _ _ _ _ _) (by simp [Value.oneCell']) (by simp only [maxLen];omega) (by omega) (by have:=(hV.grow gA).gb.size;omega)
  rw [show ([.pointer (some ⟨pb,0,none⟩),.int .u64 bh,.int .u64 bl]:List Value)=encM q (pb,p) by rw [BB.out.1,BB.out.2]] at hown
  obtain ⟨hS3,hmp3,blk2⟩:=hV.met gA hown hgrow (hmp.gb (gb_trans H1.out.1 gA)) (by omega)
  have tw:Ty (wc.drew.alloc (.cells #[.pointer (some ⟨pb,0,none⟩),.int .u64 bh,.int .u64 bl] 117)) wb 58:=H1.out.2.2.2.gb gA
  have wbm:∀ {i:Nat} {y:Value},(wc.drew.alloc (.cells #[.pointer (some ⟨pb,0,none⟩),.int .u64 bh,.int .u64 bl] 117)).cell? ⟨wb,i,none⟩=some y->W2.cell? ⟨wb,i,none⟩=some y:=fun {i y} hc=>grown_cellC hgrow hc (fun e=>tw.ne ((hV.grow gA).tvm e) (by decide) rfl)
  have wbs:∀ {i:Nat} {y:Value},W2.cell? ⟨wb,i,none⟩=some y->(W2.setCell ⟨sb,4,none⟩ v').cell? ⟨wb,i,none⟩=some y:=fun {i y} hc=>((Tk.Kp.refl (fun b=>b=sb) W2).setCell (.inl rfl) v').cell hc (tw.ne (hV.grow gA).tsb (by decide))
  have S5:Hid (((wc.drew.alloc (.cells #[.pointer (some ⟨pb,0,none⟩),.int .u64 bh,.int .u64 bl] 117)).cell? ⟨wb,0,none⟩=some (.int .u64 bh)->(wc.drew.alloc (.cells #[.pointer (some ⟨pb,0,none⟩),.int .u64 bh,.int .u64 bl] 117)).cell? ⟨wb,1,none⟩=some (.int .u64 bl)->(fun W=>W.cell? ⟨wb,0,none⟩=some (.int .u64 bh)/\W.cell? ⟨wb,1,none⟩=some (.int .u64 bl)) W2)/\(W2.cell? ⟨wb,0,none⟩=some (.int .u64 bh)->W2.cell? ⟨wb,1,none⟩=some (.int .u64 bl)->(fun W=>W.cell? ⟨wb,0,none⟩=some (.int .u64 bh)/\W.cell? ⟨wb,1,none⟩=some (.int .u64 bl)) (W2.setCell ⟨sb,4,none⟩ v'))):=⟨fun a b=>⟨wbm a,wbm b⟩,fun a b=>⟨wbs a,wbs b⟩⟩
  have k4:W2.cell? ⟨sb,4,none⟩=some (.slice ma M.length mc):=cell_cur blk2 rfl
  have f42:W2.frozen? ⟨sb,4,none⟩=false:=by simp [World.frozen?,blk2]
  obtain ⟨mb,mc',ev⟩:∃ mb mc',v'=.slice (some ⟨mb,0,none⟩) (M.length + 1) mc':=by
   rcases hown.2 with ⟨e,_⟩ | ⟨g,cap,cur,e,_⟩
   ·exact absurd (hnn.1 e).2 (by decide)
   ·exact ⟨g,cap,e⟩
  subst ev
  have R2:Hid (∃ mb mc',Hid (SAt w0 (W2.setCell ⟨sb,4,none⟩ (.slice (some ⟨mb,0,none⟩) (M.length + 1) mc')) T N sb hb k (.slice qa nq qc) q bud seen O (M ++ [(pb,p)]) (.slice sa seen.length sc) (.slice (some ⟨mb,0,none⟩) (M.length + 1) mc') (.slice oa O.length oc) vh)):=⟨mb,mc',hS3⟩
  have R2':Hid (∃ mb' mc'',Hid (SAt w0 (W2.setCell ⟨sb,4,none⟩ (.slice (some ⟨mb,0,none⟩) (M.length + 1) mc')) T N sb hb k (.slice qa nq qc) q bud seen O (M ++ [(pb,p)]) (.slice sa seen.length sc) (.slice (some ⟨mb',0,none⟩) (M.length + 1) mc'') (.slice oa O.length oc) vh)):=⟨mb,mc',hS3⟩
  have FS2:(fun W=>W.cell? ⟨wb,0,none⟩=some (.int .u64 bh)/\W.cell? ⟨wb,1,none⟩=some (.int .u64 bl)) wc.drew:=⟨H1.out.2.1,H1.out.2.2.1⟩
  have c4a:(wc.alloc (.cells #[.pointer (some ⟨pb,0,none⟩),.int .u64 bh,.int .u64 bl] 117)).drew.cell? ⟨sb,4,none⟩=some (.slice ma M.length mc):=gb_keeps gA c4
  clear hS hmp hd hV hnn hown hgrow hS3 hmp3 blk2 tw wbm wbs R2 hi0 hz0 hz1 hz2 gA c0 c1 c2 c3 c5 fz H1
  generalize hnm:M.length=nm at *
  have NM:Hid (M.length=nm):=hnm
  clear hnm hf hof
  go_wp2_with fail
  go_cut [] (fun wx=>∃ mb' mc'',Hid (SAt w0 wx T N sb hb k (.slice qa nq qc) q bud seen O (M ++ [(pb,p)]) (.slice sa seen.length sc) (.slice (some ⟨mb',0,none⟩) (nm + 1) mc'') (.slice oa O.length oc) vh))
  case first =>
   refine wp_region_held_drew (S:=fun W=>W.cell? ⟨wb,0,none⟩=some (.int .u64 bh)/\W.cell? ⟨wb,1,none⟩=some (.int .u64 bl)) (by kernel_rfl) (FS2) (fun hHeld=>?_)
   refine tkn 0 ?_ rfl ?_ ?_;rotate_left;·(rintro w ⟨s0,s1⟩;go_simp;try rfl)
   try simp only [Act.put,List.getElem_toArray,List.getElem_cons_zero,List.setIfInBounds_toArray,List.set_cons_zero,List.set_cons_succ]
   refine tkn 1 ?_ rfl ?_ ?_;rotate_left;·(rintro w ⟨s0,s1⟩;go_simp;try rfl)
   try simp only [Act.put,List.getElem_toArray,List.getElem_cons_zero,List.getElem_cons_succ,List.setIfInBounds_toArray,List.set_cons_zero,List.set_cons_succ]
   refine tkn 2 ?_ rfl ?_ ?_;rotate_left;·(rintro w ⟨s0,s1⟩;go_simp;try rfl)
   try simp only [Act.put,List.getElem_toArray,List.getElem_cons_zero,List.getElem_cons_succ,List.setIfInBounds_toArray,List.set_cons_zero,List.set_cons_succ]
   refine tkn 3 ?_ rfl ?_ ?_;rotate_left;·(rintro w ⟨s0,s1⟩;go_simp;try rfl)
   try simp only [Act.put,List.getElem_toArray,List.getElem_cons_zero,List.getElem_cons_succ,List.setIfInBounds_toArray,List.set_cons_zero,List.set_cons_succ]
   refine tkn 5 ?_ rfl ?_ ?_;rotate_left;·(rintro w ⟨s0,s1⟩;go_simp;try rfl)
   try simp only [Act.put,List.getElem_toArray,List.getElem_cons_zero,List.getElem_cons_succ,List.setIfInBounds_toArray,List.set_cons_zero,List.set_cons_succ]
   refine tkn 6 ?_ rfl ?_ ?_;rotate_left;·(rintro w ⟨s0,s1⟩;go_simp;try rfl)
   try simp only [Act.put,List.getElem_toArray,List.getElem_cons_zero,List.getElem_cons_succ,List.setIfInBounds_toArray,List.set_cons_zero,List.set_cons_succ]
   refine tkn 7 ?_ rfl ?_ ?_;rotate_left;·(rintro w ⟨s0,s1⟩;go_simp;try rfl)
   try simp only [Act.put,List.getElem_toArray,List.getElem_cons_zero,List.getElem_cons_succ,List.setIfInBounds_toArray,List.set_cons_zero,List.set_cons_succ]
   refine wpAnyH_ready (rs:=[4,8]) (by kernel_rfl) (by simp) ?_
   refine AllReadyH.cons rfl (fun K hK=>?_) (AllReadyH.cons rfl (fun K hK=>?_) AllReadyH.nil)
   ·go_simp
    refine hK.out _ _ (⟨hHeld.1,hHeld.2⟩) (fun hHeld=>?_)
    clear hK K
    try simp only [Act.put,List.getElem_toArray,List.getElem_cons_zero,List.getElem_cons_succ,List.setIfInBounds_toArray,List.set_cons_zero,List.set_cons_succ]
    refine rdn 8 rfl (fun K hK=>?_)
    go_simp
    refine hK.out _ _ (⟨gb_keeps (gb_alloc (Below.refl _ _) _) hHeld.1,gb_keeps (gb_alloc (Below.refl _ _) _) hHeld.2⟩) (fun hHeld=>?_)
    clear hK K
    try simp only [Act.put,List.getElem_toArray,List.getElem_cons_zero,List.getElem_cons_succ,List.setIfInBounds_toArray,List.set_cons_zero,List.set_cons_succ]
    refine rdn 9 rfl (fun K hK=>?_)
    refine app_run (by rfl) _ _ _ (by rfl) ⟨.slice ma nm mc,.slice (some ⟨wc.heap.size,0,none⟩) 1 1,_,_,(by go_simp),(by go_simp),hrun,?_⟩
    refine hK.out _ _ (S5.out.1 hHeld.1 hHeld.2) (fun hHeld=>?_)
    clear hK K
    try simp only [Act.put,List.getElem_toArray,List.getElem_cons_zero,List.getElem_cons_succ,List.setIfInBounds_toArray,List.set_cons_zero,List.set_cons_succ]
    refine tkn 10 ?_ rfl ?_ ?_;rotate_left;·(rintro w ⟨s0,s1⟩;go_simp;try rfl)
    try simp only [Act.put,List.getElem_toArray,List.getElem_cons_zero,List.getElem_cons_succ,List.setIfInBounds_toArray,List.set_cons_zero,List.set_cons_succ]
    refine tkn 11 ?_ rfl ?_ ?_;rotate_left;·(rintro w ⟨s0,s1⟩;go_simp;try rfl)
    try simp only [Act.put,List.getElem_toArray,List.getElem_cons_zero,List.getElem_cons_succ,List.setIfInBounds_toArray,List.set_cons_zero,List.set_cons_succ]
    refine rdn 12 rfl (fun K hK=>?_)
    go_simp
    refine hK.out _ _ (S5.out.2 hHeld.1 hHeld.2) (fun hHeld=>?_)
    clear hK K
    try simp only [Act.put,List.getElem_toArray,List.getElem_cons_zero,List.getElem_cons_succ,List.setIfInBounds_toArray,List.set_cons_zero,List.set_cons_succ]
    refine wpAnyH_done (by kernel_rfl) ?_ _
    clear hHeld
    go_wp2_with fail
    go_meet
    case rel=>exact R2'.out
   ·go_simp
    refine hK.out _ _ (⟨gb_keeps (gb_alloc (Below.refl _ _) _) hHeld.1,gb_keeps (gb_alloc (Below.refl _ _) _) hHeld.2⟩) (fun hHeld=>?_)
    clear hK K
    try simp only [Act.put,List.getElem_toArray,List.getElem_cons_zero,List.getElem_cons_succ,List.setIfInBounds_toArray,List.set_cons_zero,List.set_cons_succ]
    refine rdn 4 rfl (fun K hK=>?_)
    go_simp
    refine hK.out _ _ (⟨hHeld.1,hHeld.2⟩) (fun hHeld=>?_)
    clear hK K
    try simp only [Act.put,List.getElem_toArray,List.getElem_cons_zero,List.getElem_cons_succ,List.setIfInBounds_toArray,List.set_cons_zero,List.set_cons_succ]
    refine rdn 9 rfl (fun K hK=>?_)
    refine app_run (by rfl) _ _ _ (by rfl) ⟨.slice ma nm mc,.slice (some ⟨wc.heap.size,0,none⟩) 1 1,_,_,(by go_simp),(by go_simp),hrun,?_⟩
    refine hK.out _ _ (S5.out.1 hHeld.1 hHeld.2) (fun hHeld=>?_)
    clear hK K
    try simp only [Act.put,List.getElem_toArray,List.getElem_cons_zero,List.getElem_cons_succ,List.setIfInBounds_toArray,List.set_cons_zero,List.set_cons_succ]
    refine tkn 10 ?_ rfl ?_ ?_;rotate_left;·(rintro w ⟨s0,s1⟩;go_simp;try rfl)
    try simp only [Act.put,List.getElem_toArray,List.getElem_cons_zero,List.getElem_cons_succ,List.setIfInBounds_toArray,List.set_cons_zero,List.set_cons_succ]
    refine tkn 11 ?_ rfl ?_ ?_;rotate_left;·(rintro w ⟨s0,s1⟩;go_simp;try rfl)
    try simp only [Act.put,List.getElem_toArray,List.getElem_cons_zero,List.getElem_cons_succ,List.setIfInBounds_toArray,List.set_cons_zero,List.set_cons_succ]
    refine rdn 12 rfl (fun K hK=>?_)
    go_simp
    refine hK.out _ _ (S5.out.2 hHeld.1 hHeld.2) (fun hHeld=>?_)
    clear hK K
    try simp only [Act.put,List.getElem_toArray,List.getElem_cons_zero,List.getElem_cons_succ,List.setIfInBounds_toArray,List.set_cons_zero,List.set_cons_succ]
    refine wpAnyH_done (by kernel_rfl) ?_ _
    clear hHeld
    go_wp2_with fail
    go_meet
    case rel=>exact R2'.out
  case rest =>
   clear R2' S5 hrun FS2 k4 f42 c4 c4a f4
   obtain ⟨mb',mc'',H2⟩:=hcut
   obtain ⟨_,_,hd,hf,hof⟩:=HS.out
   have hS:=H2.out
   obtain ⟨_,_,_,_,c4,c5,fz⟩:=hS.cells
   obtain ⟨c,hc⟩:∃ c,c=(opn M O).countP fun u=>decide (bnd q p<=bnd q u):=⟨_,rfl⟩
   have hol:(opn M O).length=O.length:=by unfold opn;rw [List.length_map]
   have hcl:c<=O.length:=by rw [hc,<- hol];exact List.countP_le_length
   have olt:=HS.out.1.olt
   rw [NM.out] at olt
   have hlen:(M ++ [(pb,p)]).length=nm + 1:=by rw [List.length_append,NM.out];rfl
   have hget:∀ t (ht:t < O.length),(opn M O)[t]'(by omega)=(M.getD O[t] pt0).2:=fun t ht=>by simp [opn]
   have hLg:∀ t (ht:t < O.length),(O.map fun i:Nat=>(i:Int))[t]! = ((O[t]:Nat):Int):=fun t ht=>by rw [getElem!_pos _ t (by simpa using ht)];simp
   have hsg:∀ t (ht:t < O.length),Tk.cor (Tk.cw bh bl (hi (bnd q (M.getD O[t] pt0).2)) (lo (bnd q (M.getD O[t] pt0).2))) (Tk.ci ((O[t]:Nat):Int) (nm:Int))=if bnd q p<=bnd q (M.getD O[t] pt0).2 then -1 else 1:=fun t ht=>by
    have h1:=olt O[t] (List.getElem_mem ht)
    rw [BB.out.1,BB.out.2,cw_hl]
    unfold Tk.cor Tk.ci
    by_cases e:bnd q p=bnd q (M.getD O[t] pt0).2
    ·rw [if_pos e,if_pos rfl,if_pos (by omega),if_pos (by omega)]
    ·rw [if_neg e]
     by_cases l:bnd q p < bnd q (M.getD O[t] pt0).2
     ·rw [if_pos l,if_neg (by decide),if_pos (by omega)]
     ·rw [if_neg l,if_neg (by decide),if_neg (by omega)]
   have cB:=bsi_c (w:=wc) (v:=.slice oa O.length oc) (L:=O.map fun i:Nat=>(i:Int)) (sb:=sb) (p:=c) (tg:=(nm:Int)) (cf:=fun x=>Tk.cor (Tk.cw bh bl (hi (bnd q (M.getD x.toNat pt0).2)) (lo (bnd q (M.getD x.toNat pt0).2))) (Tk.ci x (nm:Int))) hS.op.rd (by rw [List.length_map];omega) (by rw [List.length_map];exact hcl)
    (fun t ht htc=>by
     rw [List.length_map] at ht
     simp only [hLg t ht,Int.toNat_natCast]
     rw [hsg t ht,if_pos (by have:=(cnt_lt (p:=p) hd t (by omega)).1 (by omega);rwa [hget t ht] at this)]
     decide)
    (fun t ht htc=>by
     rw [List.length_map] at ht
     simp only [hLg t ht,Int.toNat_natCast]
     rw [hsg t ht,if_neg (fun e=>by have:=(cnt_lt (p:=p) hd t (by omega)).2 (by rw [hget t ht];exact e);omega)]
     decide)
    (fun W' g t ht=>by
     rw [List.length_map] at ht
     simp only [hLg t ht,Int.toNat_natCast]
     have h1:=olt O[t] (List.getElem_mem ht)
     obtain ⟨m1,mc1,e1,_,_,a1,a2⟩:=hS.cand (i:=O[t]) (by omega)
     obtain ⟨m2,mc2,e2,_,_,b1,b2⟩:=hS.cand (i:=nm) (by omega)
     rw [hlen] at e1 e2
     cases e1
     cases e2
     have g1:(M ++ [(pb,p)])[O[t]]'(by omega)=M.getD O[t] pt0:=by
      rw [List.getElem_append_left (by rw [NM.out];exact h1),List.getD_eq_getElem?_getD,List.getElem?_eq_getElem (by rw [NM.out];exact h1)];rfl
     have g2:(M ++ [(pb,p)])[nm]'(by omega)=(pb,p):=by
      have:=NM.out
      subst this
      simp
     rw [g1] at a1 a2
     rw [g2] at b1 b2
     rw [BB.out.1,BB.out.2]
     exact sorder_c (gb_keeps g.gr c4) (by omega) (Nat.lt_succ_self _) (gb_keeps g.gr a1) (gb_keeps g.gr a2) (gb_keeps g.gr b1) (gb_keeps g.gr b2))
   have IX:Hid (∀ w3,Tk.Gw wc w3->Calls Tryz.prog 65 #[.slice oa O.length oc,.int .i64 (c:Int),.slice (some ⟨w3.heap.size,0,none⟩) 1 1] (w3.alloc (.cells #[.int .i64 (nm:Int)] 3)) fun e w'=>InsO_insI (w3.alloc (.cells #[.int .i64 (nm:Int)] 3)) (.slice oa O.length oc) O.length ((O.map fun i:Nat=>(Value.int .i64 (i:Int))).take c ++ [.int .i64 (nm:Int)] ++ (O.map fun i:Nat=>(Value.int .i64 (i:Int))).drop c) e w'):=fun w3 g3=>by
    have gg:Gb wc (w3.alloc (.cells #[.int .i64 (nm:Int)] 3)):=gb_alloc g3.gr _
    have ho:=(hS.grow gg).op
    have hw:(w3.alloc (.cells #[.int .i64 (nm:Int)] 3)).ownsRow 0 3 1 (.slice oa O.length oc) O.length (O.map fun i:Nat=>(Value.int .i64 (i:Int))):=by
     have:=ho.mono (Nat.zero_le _)
     unfold Own at this
     rw [List.length_map,List.map_map] at this
     exact this
    refine insI_c hw (by omega) hcl (vs:=[.int .i64 (nm:Int)]) (heap_new _ _) rfl (fun e=>?_) (fun v hv=>?_) (fun v hv=>?_)
    ·have:=(hS.op.lt _ e).2
     have:=g3.gr.size
     omega
    ·obtain ⟨i,_,rfl⟩:=List.mem_map.1 hv;rfl
    ·rw [List.mem_singleton.1 hv];rfl
   have FX:Hid (∀ w3,Tk.Gw wc w3->∀ e w4,InsO_insI (w3.alloc (.cells #[.int .i64 (nm:Int)] 3)) (.slice oa O.length oc) O.length ((O.map fun i:Nat=>(Value.int .i64 (i:Int))).take c ++ [.int .i64 (nm:Int)] ++ (O.map fun i:Nat=>(Value.int .i64 (i:Int))).drop c) e w4->∃ g cap,e=.returned (.slice (some ⟨g,0,none⟩) (O.length + 1) cap)/\w4.cell? ⟨sb,5,none⟩=some (.slice oa O.length oc)/\w4.frozen? ⟨sb,5,none⟩=false /\
     Hid (∃ O' vm' vo',SAt w0 (w4.setCell ⟨sb,5,none⟩ (.slice (some ⟨g,0,none⟩) (O.length + 1) cap)) T N sb hb k (.slice qa nq qc) q bud seen O' (M ++ [(pb,p)]) (.slice sa seen.length sc) vm' vo' vh/\opn (M ++ [(pb,p)]) O'=insP q p (opn M O)/\O'.length=O.length + 1)):=fun w3 g3 e w4 hO=>by
    obtain ⟨g,cap,rfl,r⟩:=hO
    obtain ⟨hF,blkF⟩:=hS.ins (c:=c) (j:=nm) (gb_alloc g3.gr _) rfl ⟨g,cap,rfl,r⟩ (by omega)
    refine ⟨g,cap,rfl,cell_cur blkF rfl,by simp [World.frozen?,blkF],_,_,_,hF,?_,?_⟩
    ·rw [insP_at q p _ hd,<- hc]
     have e0:=opn_more (M:=M) (O:=O) (pb,p) (by rw [NM.out];exact olt)
     have e1:(opn M O).take c=opn (M ++ [(pb,p)]) (O.take c):=by rw [<- e0];unfold opn;rw [List.map_take]
     have e2:(opn M O).drop c=opn (M ++ [(pb,p)]) (O.drop c):=by rw [<- e0];unfold opn;rw [List.map_drop]
     rw [e1,e2]
     unfold opn
     rw [List.map_append,List.map_cons]
     congr 2
     have:=NM.out
     subst this
     simp [List.getD_eq_getElem?_getD]
    ·rw [List.length_append,List.length_cons,List.length_take,List.length_drop];omega
   clear hd hf hof hS fz hc hol hcl olt hlen hget hLg hsg H2 HS NM BB
   go_wp2_with fail
   go_fit cB
   rintro e w3 ⟨rfl,g3⟩
   have cN:=IX.out _ g3
   have FN:Hid _:=FX.out _ g3
   have c5':=gb_keeps g3.gr c5
   clear cB g3 IX FX c5 c4
   go_wp2_with fail
   go_fit cN
   intro e w4 hO
   obtain ⟨g,cap,rfl,k5,f5,RR⟩:=FN.out _ _ hO
   clear hO cN FN c5'
   go_wp2
   go_end0
   exact ⟨rfl,RR.out⟩
end Go.Proofs.YtgbgejflmbhigaaGreat

namespace Go.Proofs.YtgbgejflmbhigaaGreat
open Go.RowKit Go.Sort
set_option maxRecDepth 100000
set_option maxHeartbeats 1000000
theorem await_nil (W:World) (sb:Nat):Calls Tryz.prog 36 #[.pointer (some ⟨sb,0,none⟩),.pointer none] W fun e W'=>e=.returned (.tuple #[])/\W'=W:=by
 go_enter Tryz.func36,Tryz.ntmps36
 go_wp2
 exact bodyPost_ret (v:=.tuple #[]) (by simp [results,Tryz.results36,go_sem]) rfl ⟨rfl,rfl⟩
theorem full_has {w:World} {hb k:Nat} {v:Value} {m:List Tk.Ht} (h:Tk.Has w hb k v m):Calls Tryz.prog 106 #[.pointer (some ⟨hb,0,none⟩)] w fun e w'=>e=.returned (.bool (decide (m.length=k)))/\Tk.Gw w w':=by
 obtain ⟨d,hp,_,pm,_⟩:=h
 have hd:d.size=m.length:=by have:=pm.length_eq;simpa using this
 have c0:=hp.cell0
 have c1:=hp.cell1
 obtain ⟨a,cap,e⟩:=hp.form
 rw [hd] at e
 subst e
 have G:Hid (Tk.Gw w w.drew):=(Tk.Gw.refl w).drew
 have hb2:((m.length:Int) == (k:Int))=decide (m.length=k):=by
  by_cases e:m.length=k
  ·rw [decide_eq_true e,e];simp
  ·rw [decide_eq_false e,beq_eq_false_iff_ne];omega
 generalize m.length=n at *
 generalize decide (n=k)=r at *
 clear hp pm hd
 go_enter Tryz.func106,Tryz.ntmps106
 go_wp2
 go_region
 all_goals
  go_wp2
  go_ret
  exact ⟨by simp [],G.out⟩
theorem hit_form {q:List Int} {l:List Rw} {k:Nat} {x:Tk.Ht} (h:x ∈ Tk.firsts k (hitsOf q l)):x.2.1=hi (dN x)/\x.2.2=lo (dN x):=by
 have h1:x ∈ hitsOf q l:=by
  unfold Tk.firsts at h
  exact (Tk.srt_perm _).mem_iff.1 (List.mem_of_mem_take h)
 obtain ⟨r,_,rfl⟩:=List.mem_map.1 h1
 rw [dN_hit]
 exact ⟨rfl,rfl⟩
theorem isBeyond_c {w0 W:World} {T:Nat->Pt} {N sb hb k:Nat} {vq:Value} {q:List Int} {bud:Nat} {seen:List Rw} {O:List Nat} {M:List (Nat × Pt)} {vs vm vo vh:Value} (h:SAt w0 W T N sb hb k vq q bud seen O M vs vm vo vh) (pb:Nat) (p:Pt) :
  Calls Tryz.prog 66 #[.pointer (some ⟨sb,0,none⟩),.agg #[.pointer (some ⟨pb,0,none⟩),.int .u64 (hi (bnd q p)),.int .u64 (lo (bnd q p))]] W fun e W'=>e=.returned (.bool (beyond q k seen p))/\Gb W W':=by
 have gA:Gb W (W.alloc (.cells #[.pointer (some ⟨pb,0,none⟩),.int .u64 (hi (bnd q p)),.int .u64 (lo (bnd q p))] 117)):=gb_alloc (Below.refl _ _) _
 have hA:=h.grow gA
 obtain ⟨_,c1,_⟩:=hA.cells
 obtain ⟨m,hm⟩:∃ m,m=Tk.firsts k (hitsOf q seen):=⟨_,rfl⟩
 have hform:∀ x ∈ m,x.2.1=hi (dN x)/\x.2.2=lo (dN x):=fun x hx=>by rw [hm] at hx;exact hit_form hx
 have hk1:1<=k:=by obtain ⟨d,_,_,_,_,_,hk,_⟩:=h.has;exact hk
 have WR:Hid (∃ x:Tk.Ht,(Calls Tryz.prog 105 #[.pointer (some ⟨hb,0,none⟩)] (W.alloc (.cells #[.pointer (some ⟨pb,0,none⟩),.int .u64 (hi (bnd q p)),.int .u64 (lo (bnd q p))] 117)) fun e w'=>(∃ b,e=.returned (.tuple #[.agg #[.int .i64 x.1,.int .u64 x.2.1,.int .u64 x.2.2],.bool b]))/\Gb (W.alloc (.cells #[.pointer (some ⟨pb,0,none⟩),.int .u64 (hi (bnd q p)),.int .u64 (lo (bnd q p))] 117)) w') /\
   (m.length=k->x.2.1=hi (dN m[k - 1]!)/\x.2.2=lo (dN m[k - 1]!))):=by
  have hh:=hA.has
  rw [<- hm] at hh
  by_cases h0:0 < m.length
  ·refine ⟨m[m.length - 1]!,(Tk.worst_has hh h0).mono fun e w' he=>⟨⟨true,he.1⟩,he.2⟩,fun e=>?_⟩
   rw [e]
   exact hform _ (by rw [getElem!_pos m (k - 1) (by omega)];exact List.getElem_mem _)
  ·exact ⟨⟨0,0,0⟩,(Tk.worst_has_none hh (by omega)).mono fun e w' he=>⟨⟨false,he.1⟩,he.2⟩,fun e=>by omega⟩
 have hbe:beyond q k seen p=(decide (m.length=k) && decide (dN m[k - 1]! < bnd q p)):=by unfold beyond;rw [<- hm]
 rw [hbe]
 obtain ⟨x,cW,hx⟩:=WR.out
 have cFl:Hid (∀ W',Gb (W.alloc (.cells #[.pointer (some ⟨pb,0,none⟩),.int .u64 (hi (bnd q p)),.int .u64 (lo (bnd q p))] 117)) W'->(Calls Tryz.prog 106 #[.pointer (some ⟨hb,0,none⟩)] W' fun e w'=>e=.returned (.bool (decide (m.length=k)))/\Tk.Gw W' w')/\W'.cell? ⟨sb,1,none⟩=some (.pointer (some ⟨hb,0,none⟩))/\W'.cell? ⟨W.heap.size,1,none⟩=some (.int .u64 (hi (bnd q p)))/\W'.cell? ⟨W.heap.size,2,none⟩=some (.int .u64 (lo (bnd q p)))):=fun W' g=>by
  have:=full_has (hA.grow g).has
  rw [<- hm] at this
  exact ⟨this,gb_keeps g c1,gb_keeps g (by simp [go_sem]),gb_keeps g (by simp [go_sem])⟩
 have CW:Hid (m.length=k->∀ w,Calls Tryz.prog 102 #[.agg #[.int .u64 (hi (bnd q p)),.int .u64 (lo (bnd q p))],.agg #[.int .u64 x.2.1,.int .u64 x.2.2]] w fun e w'=>(∃ z:Int,e=.returned (.int .i64 z)/\decide (0 < z)=decide (dN m[k - 1]! < bnd q p))/\Tk.Gw w w'):=fun e w=>by
  refine (Tk.cmpw _ _ _ _ w).mono ?_
  rintro e' w' ⟨rfl,g⟩
  refine ⟨⟨_,rfl,?_⟩,g⟩
  rw [(hx e).1,(hx e).2,cw_hl]
  by_cases a:bnd q p=dN m[k - 1]!
  ·rw [if_pos a,decide_eq_false (by decide),decide_eq_false (by omega)]
  ·rw [if_neg a]
   by_cases b:bnd q p < dN m[k - 1]!
   ·rw [if_pos b,decide_eq_false (by decide),decide_eq_false (by omega)]
   ·rw [if_neg b,decide_eq_true (by decide),decide_eq_true (by omega)]
 have GA:Hid (Gb W (W.alloc (.cells #[.pointer (some ⟨pb,0,none⟩),.int .u64 (hi (bnd q p)),.int .u64 (lo (bnd q p))] 117))):=gA
 obtain ⟨xi,xh,xl⟩:=x
 dsimp only at cW CW
 generalize decide (dN m[k - 1]! < bnd q p)=r at *
 generalize hi (bnd q p)=bh at *
 generalize lo (bnd q p)=bl at *
 clear h hA hform hk1 WR hbe gA hx hm
 go_enter Tryz.func66,Tryz.ntmps66
 go_wp2_with fail
 go_fit cW
 rintro e w1 ⟨⟨b,rfl⟩,g1⟩
 have g2:Gb (W.alloc (.cells #[.pointer (some ⟨pb,0,none⟩),.int .u64 bh,.int .u64 bl] 117)) (w1.alloc (.cells #[.int .i64 xi,.int .u64 xh,.int .u64 xl] 60)):=gb_alloc g1 _
 obtain ⟨cF,d1,d2,d3⟩:=cFl.out _ g2
 have G2:Hid (Gb W (w1.alloc (.cells #[.int .i64 xi,.int .u64 xh,.int .u64 xl] 60))):=gb_trans GA.out g2
 have C3:Hid (∀ w3,Tk.Gw (w1.alloc (.cells #[.int .i64 xi,.int .u64 xh,.int .u64 xl] 60)) w3->w3.cell? ⟨W.heap.size,1,none⟩=some (.int .u64 bh)/\w3.cell? ⟨W.heap.size,2,none⟩=some (.int .u64 bl)/\w3.cell? ⟨w1.heap.size,1,none⟩=some (.int .u64 xh)/\w3.cell? ⟨w1.heap.size,2,none⟩=some (.int .u64 xl)):=fun w3 g=>⟨gb_keeps g.gr d2,gb_keeps g.gr d3,gb_keeps g.gr (by simp [go_sem]),gb_keeps g.gr (by simp [go_sem])⟩
 clear cW g1 g2 GA cFl d2 d3 c1
 go_wp2_with fail
 go_fit cF
 rintro e w3 ⟨rfl,g3⟩
 obtain ⟨e0,e1,e2,e3⟩:=C3.out _ g3
 have G3:Hid (Gb W w3):=gb_trans G2.out g3.gr
 clear cF C3 g3 G2 d1
 by_cases hk:m.length=k
 ·rw [decide_eq_true hk]
  have cC:=CW.out hk
  have HK:Hid (decide (m.length=k)=true):=decide_eq_true hk
  clear CW hk
  go_wp2_with fail
  go_fit (cC w3)
  rintro e w4 ⟨⟨z,rfl,hz⟩,g4⟩
  have G4:Hid (Gb W w4):=gb_trans G3.out g4.gr
  have HZ:Hid (decide (0 < z)=r):=hz
  clear cC g4 G3 hz
  go_wp2
  go_ret
  exact ⟨by rw [<- HZ.out,HK.out];simp,G4.out⟩
 ·rw [decide_eq_false hk]
  have HK:Hid (decide (m.length=k)=false):=decide_eq_false hk
  clear CW hk
  go_wp2
  go_ret
  exact ⟨by rw [HK.out];simp,G3.out⟩
end Go.Proofs.YtgbgejflmbhigaaGreat
