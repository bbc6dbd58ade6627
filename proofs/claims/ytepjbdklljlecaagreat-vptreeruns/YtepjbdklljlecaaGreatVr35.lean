import Derived.Test.YtepjbdklljlecaaGreatVr34
import Derived.Deep.DeepCutAuto
import Derived.Test.YtepjbdklljlecaaGreatVr5
namespace Go.Proofs.YtepjbdklljlecaaGreat
open Go.RowKit Go.Sort Go.Maps
set_option maxRecDepth 100000
set_option maxHeartbeats 4000000
def opn (O:List (Nat × Pt)):List Pt:=O.map Prod.snd
theorem cnt_lt {q:List Int} {p:Pt}:∀ {l:List Pt},Dsc q l->∀ t (ht:t < l.length),(t < l.countP fun u=>decide (bnd q p<=bnd q u)) ↔ bnd q p<=bnd q l[t]
 | [],_,t,ht=>absurd ht (Nat.not_lt_zero _)
 | u :: r,h,t,ht=>by
  have h1:=List.pairwise_cons.1 h
  by_cases hu:bnd q p<=bnd q u
  ·rw [List.countP_cons_of_pos (by simpa using hu)]
   cases t with
   | zero=>simp [hu]
   | succ t =>
    have:=cnt_lt (p:=p) h1.2 t (by simpa using ht)
    simp only [List.getElem_cons_succ]
    omega
  ·have h0:(u :: r).countP (fun u=>decide (bnd q p<=bnd q u))=0:=by
    rw [List.countP_eq_zero]
    intro x hx
    rcases List.mem_cons.1 hx with e | e
    ·rw [e];simpa using hu
    ·have:=h1.1 x e;simp;omega
   rw [h0]
   constructor
   ·intro e;omega
   ·intro e
    exfalso
    have hm:=List.getElem_mem ht
    rcases List.mem_cons.1 hm with e2 | e2
    ·rw [e2] at e;exact hu e
    ·have:=h1.1 _ e2;omega
theorem cw_hl (a b:Nat):Tk.cw (hi a) (lo a) (hi b) (lo b)=if a=b then 0 else if a < b then -1 else 1:=by
 by_cases e:a=b
 ·subst e;unfold Tk.cw;rw [if_pos ⟨rfl,rfl⟩,if_pos rfl]
 ·have hne:¬ (hi a=hi b/\lo a=lo b):=by unfold hi lo;omega
  rw [if_neg e];unfold Tk.cw;rw [if_neg hne]
  by_cases l:a < b
  ·rw [if_pos l,if_pos (by unfold hi lo;omega)]
  ·rw [if_neg l,if_neg (by unfold hi lo;omega)]
theorem cw_lt (a b:Nat):decide (Tk.cw (hi a) (lo a) (hi b) (lo b) < 0)=decide (a < b):=by
 rw [cw_hl]
 by_cases e:a=b
 ·rw [if_pos e,decide_eq_false (by decide),decide_eq_false (by omega)]
 ·rw [if_neg e]
  by_cases l:a < b
  ·rw [if_pos l,decide_eq_true (by decide),decide_eq_true l]
  ·rw [if_neg l,decide_eq_false (by decide),decide_eq_false l]
theorem await_c {w0 W:World} {T:Nat->Pt} {N sb hb k:Nat} {vq:Value} {q:List Int} {bud:Nat} {seen:List Rw} {O M:List (Nat × Pt)} {vs vo vh:Value} {pb:Nat} {p:Pt} (h:SAt w0 W T N sb hb k vq q bud seen O M vs vo vh) (hmp:MP w0 W T N pb p)
  (hbx:ckB (pr p) q=0) (hd:Dsc q (opn O)) (hof:O.length + 1<=10000) :
  Calls Tryz.prog 41 #[.pointer (some ⟨sb,0,none⟩),.pointer (some ⟨pb,0,none⟩)] W fun e W'=>e=.returned (.tuple #[])/\∃ O' vo',SAt w0 W' T N sb hb k vq q bud seen O' (M ++ [(pb,p)]) vs vo' vh/\opn O'=insP q p (opn O)/\O'.length=O.length + 1:=by
 obtain ⟨qa,qc,eq,_⟩:=h.q
 obtain ⟨oa,oc,eo⟩:∃ oa oc,vo=.slice oa O.length oc:=by
  rcases h.form with ⟨e1,e2⟩ | ⟨g,cap,e,_⟩
  ·exact ⟨none,0,by rw [e2,e1];rfl⟩
  ·exact ⟨_,cap,e⟩
 subst eq eo
 have hmp0:=hmp
 obtain ⟨vl,vh',vr,hblk,rl,rh',hbo,_⟩:=hmp
 have rl0:=rl
 have rh0:=rh'
 obtain ⟨al,cl,el,_⟩:=rl0
 obtain ⟨ah,ch,eh,_⟩:=rh0
 have hrR:RdR w0 (.agg #[.int .i64 3,vl,vh',.int .u64 (hi p.reg.R),.int .u64 (lo p.reg.R),.slice none 0 0]) (pr p):=by
  have e:=hbo.1
  refine ⟨vl,vh',.slice none 0 0,?_,rl,?_,?_⟩
  ·show _=Value.agg #[.int .i64 p.reg.S,vl,vh',.int .u64 (hi p.reg.R),.int .u64 (lo p.reg.R),.slice none 0 0]
   rw [show p.reg.S=3 from by rw [e]]
  ·rw [show (pr p).H=[] from by show p.reg.H=[];rw [e]];exact rh'
  ·rw [show (pr p).I=[] from by show p.reg.I=[];rw [e]];exact ⟨none,0,rfl,fun i hi=>absurd hi (Nat.not_lt_zero _)⟩
 have hbv:bndV (pr p) q=bnd q p:=by unfold bndV;rw [if_pos hbx];rfl
 subst el eh
 obtain ⟨rh,hrh⟩:∃ rh,rh=hi p.reg.R:=⟨_,rfl⟩
 obtain ⟨rl',hrl⟩:∃ rl,rl=lo p.reg.R:=⟨_,rfl⟩
 obtain ⟨sx,hsx⟩:∃ sx,sx=W.heap.size:=⟨_,rfl⟩
 have gB:Gb W (W.alloc (.cells #[.pointer (some ⟨sb,0,none⟩)] 88)):=gb_alloc (Below.refl _ _) _
 have sxc:(W.alloc (.cells #[.pointer (some ⟨sb,0,none⟩)] 88)).cell? ⟨sx,0,none⟩=some (.pointer (some ⟨sb,0,none⟩)):=by rw [hsx];simp [go_sem]
 have sxt:Ty (W.alloc (.cells #[.pointer (some ⟨sb,0,none⟩)] 88)) sx 88:=by rw [hsx];exact ⟨_,_,heap_new _ _⟩
 obtain ⟨W1,hW1⟩:∃ W1,W1=W.alloc (.cells #[.pointer (some ⟨sb,0,none⟩)] 88):=⟨_,rfl⟩
 rw [<- hW1] at gB sxc sxt
 have h1:=h.grow gB
 have hb1:W1.heap[pb]? = some (.cells (pcells p (.slice al p.reg.L.length cl) (.slice ah ([]:List Int).length ch) vr) 117 (0,0)):=by rw [gB.block pb (Array.getElem?_eq_some_iff.1 hblk).1];exact hblk
 obtain ⟨c0,c1,c2,c3,c4,fz⟩:=h1.cells
 have CB:Hid (∀ W',Gb W1.drew W'->Calls Tryz.prog 67 #[.agg #[.int .i64 3,.slice al p.reg.L.length cl,.slice ah 0 ch,.int .u64 rh,.int .u64 rl',.slice none 0 0],.slice qa q.length qc] W' fun e w'=>e=.returned (.tuple #[.agg #[.int .u64 (hi (bnd q p)),.int .u64 (lo (bnd q p))],.int .i64 0])/\Gb W' w'):=fun W' g=>by
  have g0:Gb w0 W':=gb_trans h1.gb (gb_trans (Below.refl _ _).drew g)
  have:=bound_c (hrR.gb g0) (h.q.gb g0) (by rw [show (pr p).I=[] from by show p.reg.I=[];rw [hbo.1]];simp) hbo.2
  rw [hbv,hbx] at this
  rw [hrh,hrl]
  exact this.mono fun e w' hh=>⟨hh.1,hh.2.gb⟩
 have FS1:(fun W=>W.cell? ⟨pb,0,none⟩=some (.int .i64 3)/\W.cell? ⟨pb,1,none⟩=some (.slice al p.reg.L.length cl)/\W.cell? ⟨pb,2,none⟩=some (.slice ah 0 ch)/\W.cell? ⟨pb,3,none⟩=some (.int .u64 rh)/\W.cell? ⟨pb,4,none⟩=some (.int .u64 rl')/\W.cell? ⟨pb,5,none⟩=some (.slice none 0 0)/\W.cell? ⟨sb,0,none⟩=some (.slice qa q.length qc)/\W.cell? ⟨sx,0,none⟩=some (.pointer (some ⟨sb,0,none⟩))) W1.drew:=⟨cell_cur hb1 rfl,cell_cur hb1 rfl,cell_cur hb1 rfl,by rw [hrh];exact cell_cur hb1 rfl,by rw [hrl];exact cell_cur hb1 rfl,cell_cur hb1 rfl,c0,sxc⟩
 obtain ⟨bh,hbh⟩:∃ bh,bh=hi (bnd q p):=⟨_,rfl⟩
 obtain ⟨bl,hbl⟩:∃ bl,bl=lo (bnd q p):=⟨_,rfl⟩
 have BB:Hid (bh=hi (bnd q p)/\bl=lo (bnd q p)):=⟨hbh,hbl⟩
 rw [<- hbh,<- hbl] at CB
 generalize p.reg.L.length=nl at *
 generalize hnq:q.length=nq at *
 have keep1:∀ w',Gb W1.drew w'->(fun W=>W.cell? ⟨pb,0,none⟩=some (.int .i64 3)/\W.cell? ⟨pb,1,none⟩=some (.slice al nl cl)/\W.cell? ⟨pb,2,none⟩=some (.slice ah 0 ch)/\W.cell? ⟨pb,3,none⟩=some (.int .u64 rh)/\W.cell? ⟨pb,4,none⟩=some (.int .u64 rl')/\W.cell? ⟨pb,5,none⟩=some (.slice none 0 0)/\W.cell? ⟨sb,0,none⟩=some (.slice qa nq qc)/\W.cell? ⟨sx,0,none⟩=some (.pointer (some ⟨sb,0,none⟩))) w':=fun w' g=>⟨gb_keeps (g) FS1.1,gb_keeps (g) FS1.2.1,gb_keeps (g) FS1.2.2.1,gb_keeps (g) FS1.2.2.2.1,gb_keeps (g) FS1.2.2.2.2.1,gb_keeps (g) FS1.2.2.2.2.2.1,gb_keeps (g) FS1.2.2.2.2.2.2.1,gb_keeps (g) FS1.2.2.2.2.2.2.2⟩
 have KA:Hid (∀ w1,Gb W1.drew w1->(fun W=>W.cell? ⟨pb,0,none⟩=some (.int .i64 3)/\W.cell? ⟨pb,1,none⟩=some (.slice al nl cl)/\W.cell? ⟨pb,2,none⟩=some (.slice ah 0 ch)/\W.cell? ⟨pb,3,none⟩=some (.int .u64 rh)/\W.cell? ⟨pb,4,none⟩=some (.int .u64 rl')/\W.cell? ⟨pb,5,none⟩=some (.slice none 0 0)/\W.cell? ⟨sb,0,none⟩=some (.slice qa nq qc)/\W.cell? ⟨sx,0,none⟩=some (.pointer (some ⟨sb,0,none⟩))) (w1.alloc (.cells #[.int .u64 bh,.int .u64 bl] 66))):=fun w1 g=>keep1 _ (gb_alloc g _)
 have KB:Hid (∀ w1,Gb (W1.drew.alloc (.cells #[.int .u64 0,.int .u64 0] 66)) w1->(fun W=>W.cell? ⟨pb,0,none⟩=some (.int .i64 3)/\W.cell? ⟨pb,1,none⟩=some (.slice al nl cl)/\W.cell? ⟨pb,2,none⟩=some (.slice ah 0 ch)/\W.cell? ⟨pb,3,none⟩=some (.int .u64 rh)/\W.cell? ⟨pb,4,none⟩=some (.int .u64 rl')/\W.cell? ⟨pb,5,none⟩=some (.slice none 0 0)/\W.cell? ⟨sb,0,none⟩=some (.slice qa nq qc)/\W.cell? ⟨sx,0,none⟩=some (.pointer (some ⟨sb,0,none⟩))) ((w1.setCell ⟨W1.heap.size,0,none⟩ (.int .u64 bh)).setCell ⟨W1.heap.size,1,none⟩ (.int .u64 bl))):=fun w1 g=>keep1 _ (gb_set (gb_set (gb_trans (gb_alloc (Below.refl _ _) _) g) (Nat.le_refl _) _) (Nat.le_refl _) _)
 have ZB:Hid (∀ w1,Gb (W1.drew.alloc (.cells #[.int .u64 0,.int .u64 0] 66)) w1->(∃ y,w1.cell? ⟨W1.heap.size,0,none⟩=some y)/\(∃ y,w1.cell? ⟨W1.heap.size,1,none⟩=some y)/\w1.frozen? ⟨W1.heap.size,0,none⟩=false/\w1.frozen? ⟨W1.heap.size,1,none⟩=false):=fun w1 g=>by
  have hb:w1.heap[W1.heap.size]? = some (.cells #[.int .u64 0,.int .u64 0] 66 (0,0)):=by
   rw [g.block W1.heap.size (by rw [World.size_alloc];exact Nat.lt_succ_self _)]
   exact Array.getElem?_push_size
  exact ⟨⟨_,cell_cur hb rfl⟩,⟨_,cell_cur hb rfl⟩,by simp [World.frozen?,hb],by simp [World.frozen?,hb]⟩
 have RA:Hid (∀ w1,Gb W1.drew w1->∃ wb,(Value.pointer (some ⟨w1.heap.size,0,none⟩))=.pointer (some ⟨wb,0,none⟩)/\Hid (Gb W1 (w1.alloc (.cells #[.int .u64 bh,.int .u64 bl] 66))/\(w1.alloc (.cells #[.int .u64 bh,.int .u64 bl] 66)).cell? ⟨wb,0,none⟩=some (.int .u64 bh)/\(w1.alloc (.cells #[.int .u64 bh,.int .u64 bl] 66)).cell? ⟨wb,1,none⟩=some (.int .u64 bl)/\Ty (w1.alloc (.cells #[.int .u64 bh,.int .u64 bl] 66)) wb 66)):=fun w1 g=>⟨_,rfl,gb_alloc (gb_trans (Below.refl _ _).drew g) _,by simp [go_sem],by simp [go_sem],_,_,heap_new _ _⟩
 have RB:Hid (∀ w1,Gb (W1.drew.alloc (.cells #[.int .u64 0,.int .u64 0] 66)) w1->∃ wb,(Value.pointer (some ⟨W1.heap.size,0,none⟩))=.pointer (some ⟨wb,0,none⟩)/\Hid (Gb W1 ((w1.setCell ⟨W1.heap.size,0,none⟩ (.int .u64 bh)).setCell ⟨W1.heap.size,1,none⟩ (.int .u64 bl))/\((w1.setCell ⟨W1.heap.size,0,none⟩ (.int .u64 bh)).setCell ⟨W1.heap.size,1,none⟩ (.int .u64 bl)).cell? ⟨wb,0,none⟩=some (.int .u64 bh)/\((w1.setCell ⟨W1.heap.size,0,none⟩ (.int .u64 bh)).setCell ⟨W1.heap.size,1,none⟩ (.int .u64 bl)).cell? ⟨wb,1,none⟩=some (.int .u64 bl)/\Ty ((w1.setCell ⟨W1.heap.size,0,none⟩ (.int .u64 bh)).setCell ⟨W1.heap.size,1,none⟩ (.int .u64 bl)) wb 66)):=fun w1 g=>by
  have hb:w1.heap[W1.heap.size]? = some (.cells #[.int .u64 0,.int .u64 0] 66 (0,0)):=by
   rw [g.block W1.heap.size (by rw [World.size_alloc];exact Nat.lt_succ_self _)]
   exact Array.getElem?_push_size
  refine ⟨_,rfl,gb_set (gb_set (gb_trans (gb_alloc (gb_trans (Below.refl _ _).drew (Below.refl _ _)) _) g) (Nat.le_refl _) _) (Nat.le_refl _) _,?_,?_,#[.int .u64 bh,.int .u64 bl],(0,0),?_⟩ <;> simp [World.cell?,World.setCell,Array.getElem?_modify,hb]
 have HS:Hid (SAt w0 W1 T N sb hb k (.slice qa nq qc) q bud seen O M vs (.slice oa O.length oc) vh/\MP w0 W1 T N pb p/\Dsc q (opn O)/\O.length + 1<=10000/\W1.cell? ⟨sx,0,none⟩=some (.pointer (some ⟨sb,0,none⟩))/\Ty W1 sx 88):=⟨h1,hmp0.gb gB,hd,hof,sxc,sxt⟩
 clear h h1 hmp0 hd hblk hb1 rl rh' hrR hbv c1 c2 c3 c4 fz keep1 hbh hbl hbx c0 hof hbo gB sxc sxt hrh hrl
 go_enter Tryz.func41,Tryz.ntmps41
 go_wp2_with fail
 rw [<- hW1,<- hsx]
 clear hW1 hsx
 go_cut [4] (fun b wx=>∃ wb,b=.pointer (some ⟨wb,0,none⟩)/\Hid (Gb W1 wx/\wx.cell? ⟨wb,0,none⟩=some (.int .u64 bh)/\wx.cell? ⟨wb,1,none⟩=some (.int .u64 bl)/\Ty wx wb 66))
 case first =>
  refine wp_region_held_drew (S:=fun W=>W.cell? ⟨pb,0,none⟩=some (.int .i64 3)/\W.cell? ⟨pb,1,none⟩=some (.slice al nl cl)/\W.cell? ⟨pb,2,none⟩=some (.slice ah 0 ch)/\W.cell? ⟨pb,3,none⟩=some (.int .u64 rh)/\W.cell? ⟨pb,4,none⟩=some (.int .u64 rl')/\W.cell? ⟨pb,5,none⟩=some (.slice none 0 0)/\W.cell? ⟨sb,0,none⟩=some (.slice qa nq qc)/\W.cell? ⟨sx,0,none⟩=some (.pointer (some ⟨sb,0,none⟩))) (by kernel_rfl) (FS1) (fun hHeld=>?_)
  refine tkn 0 ?_ rfl ?_ ?_;rotate_left;·(rintro w ⟨s0,s1,s2,s3,s4,s5,s6,s7⟩;go_simp;try rfl)
  refine tkn 1 ?_ rfl ?_ ?_;rotate_left;·(rintro w ⟨s0,s1,s2,s3,s4,s5,s6,s7⟩;go_simp;try rfl)
  refine tkn 2 ?_ rfl ?_ ?_;rotate_left;·(rintro w ⟨s0,s1,s2,s3,s4,s5,s6,s7⟩;go_simp;try rfl)
  refine tkn 3 ?_ rfl ?_ ?_;rotate_left;·(rintro w ⟨s0,s1,s2,s3,s4,s5,s6,s7⟩;go_simp;try rfl)
  refine tkn 4 ?_ rfl ?_ ?_;rotate_left;·(rintro w ⟨s0,s1,s2,s3,s4,s5,s6,s7⟩;go_simp;try rfl)
  refine tkn 5 ?_ rfl ?_ ?_;rotate_left;·(rintro w ⟨s0,s1,s2,s3,s4,s5,s6,s7⟩;go_simp;try rfl)
  refine tkn 6 ?_ rfl ?_ ?_;rotate_left;·(rintro w ⟨s0,s1,s2,s3,s4,s5,s6,s7⟩;go_simp;try rfl)
  refine tkn 7 ?_ rfl ?_ ?_;rotate_left;·(rintro w ⟨s0,s1,s2,s3,s4,s5,s6,s7⟩;go_simp;try rfl)
  refine wpAnyH_ready (rs:=[8,12]) (by kernel_rfl) (by simp) ?_
  refine AllReadyH.cons rfl (fun K hK=>?_) (AllReadyH.cons rfl (fun K hK=>?_) AllReadyH.nil)
  ·go_simp
   go_fit (CB.out _ (Below.refl _ _))
   rintro e w1 ⟨rfl,g1⟩
   refine hK.out _ _ (⟨gb_keeps (g1) hHeld.1,gb_keeps (g1) hHeld.2.1,gb_keeps (g1) hHeld.2.2.1,gb_keeps (g1) hHeld.2.2.2.1,gb_keeps (g1) hHeld.2.2.2.2.1,gb_keeps (g1) hHeld.2.2.2.2.2.1,gb_keeps (g1) hHeld.2.2.2.2.2.2.1,gb_keeps (g1) hHeld.2.2.2.2.2.2.2⟩) (fun hHeld=>?_)
   clear hK K
   refine tkn 9 ?_ rfl ?_ ?_;rotate_left;·(rintro w ⟨s0,s1,s2,s3,s4,s5,s6,s7⟩;go_simp;try rfl)
   refine tkn 10 ?_ rfl ?_ ?_;rotate_left;·(rintro w ⟨s0,s1,s2,s3,s4,s5,s6,s7⟩;go_simp;try rfl)
   refine tkn 11 ?_ rfl ?_ ?_;rotate_left;·(rintro w ⟨s0,s1,s2,s3,s4,s5,s6,s7⟩;go_simp;try rfl)
   refine rdn 12 rfl (fun K hK=>?_)
   go_simp
   refine hK.out _ _ (⟨gb_keeps (gb_alloc (Below.refl _ _) _) hHeld.1,gb_keeps (gb_alloc (Below.refl _ _) _) hHeld.2.1,gb_keeps (gb_alloc (Below.refl _ _) _) hHeld.2.2.1,gb_keeps (gb_alloc (Below.refl _ _) _) hHeld.2.2.2.1,gb_keeps (gb_alloc (Below.refl _ _) _) hHeld.2.2.2.2.1,gb_keeps (gb_alloc (Below.refl _ _) _) hHeld.2.2.2.2.2.1,gb_keeps (gb_alloc (Below.refl _ _) _) hHeld.2.2.2.2.2.2.1,gb_keeps (gb_alloc (Below.refl _ _) _) hHeld.2.2.2.2.2.2.2⟩) (fun hHeld=>?_)
   clear hK K
   refine rdn 13 rfl (fun K hK=>?_)
   go_simp
   refine hK.out _ _ (KA.out _ g1) (fun hHeld=>?_)
   clear hK K
   refine tkn 14 ?_ rfl ?_ ?_;rotate_left;·(rintro w ⟨s0,s1,s2,s3,s4,s5,s6,s7⟩;go_simp;try rfl)
   refine wpAnyH_done (by kernel_rfl) ?_ _
   clear hHeld
   go_wp2_with fail
   go_meet
   case rel=>exact RA.out _ g1
  ·go_simp
   refine hK.out _ _ (⟨gb_keeps (gb_alloc (Below.refl _ _) _) hHeld.1,gb_keeps (gb_alloc (Below.refl _ _) _) hHeld.2.1,gb_keeps (gb_alloc (Below.refl _ _) _) hHeld.2.2.1,gb_keeps (gb_alloc (Below.refl _ _) _) hHeld.2.2.2.1,gb_keeps (gb_alloc (Below.refl _ _) _) hHeld.2.2.2.2.1,gb_keeps (gb_alloc (Below.refl _ _) _) hHeld.2.2.2.2.2.1,gb_keeps (gb_alloc (Below.refl _ _) _) hHeld.2.2.2.2.2.2.1,gb_keeps (gb_alloc (Below.refl _ _) _) hHeld.2.2.2.2.2.2.2⟩) (fun hHeld=>?_)
   clear hK K
   refine rdn 8 rfl (fun K hK=>?_)
   go_simp
   go_fit (CB.out _ (gb_alloc (Below.refl _ _) _))
   rintro e w1 ⟨rfl,g1⟩
   obtain ⟨⟨y0,z0⟩,⟨y1,z1⟩,f0,f1⟩:=ZB.out _ g1
   refine hK.out _ _ (⟨gb_keeps (g1) hHeld.1,gb_keeps (g1) hHeld.2.1,gb_keeps (g1) hHeld.2.2.1,gb_keeps (g1) hHeld.2.2.2.1,gb_keeps (g1) hHeld.2.2.2.2.1,gb_keeps (g1) hHeld.2.2.2.2.2.1,gb_keeps (g1) hHeld.2.2.2.2.2.2.1,gb_keeps (g1) hHeld.2.2.2.2.2.2.2⟩) (fun hHeld=>?_)
   clear hK K
   refine tkn 9 ?_ rfl ?_ ?_;rotate_left;·(rintro w ⟨s0,s1,s2,s3,s4,s5,s6,s7⟩;go_simp;try rfl)
   refine tkn 10 ?_ rfl ?_ ?_;rotate_left;·(rintro w ⟨s0,s1,s2,s3,s4,s5,s6,s7⟩;go_simp;try rfl)
   refine tkn 11 ?_ rfl ?_ ?_;rotate_left;·(rintro w ⟨s0,s1,s2,s3,s4,s5,s6,s7⟩;go_simp;try rfl)
   refine rdn 13 rfl (fun K hK=>?_)
   go_simp
   refine hK.out _ _ (KB.out _ g1) (fun hHeld=>?_)
   clear hK K
   refine tkn 14 ?_ rfl ?_ ?_;rotate_left;·(rintro w ⟨s0,s1,s2,s3,s4,s5,s6,s7⟩;go_simp;try rfl)
   refine wpAnyH_done (by kernel_rfl) ?_ _
   clear hHeld z0 z1 f0 f1
   go_wp2_with fail
   go_meet
   case rel=>exact RB.out _ g1
 case rest =>
  clear CB FS1 KA KB ZB RA RB
  obtain ⟨wb,rfl,H1⟩:=hcut
  obtain ⟨hS0,hmp,hd,hof,sxc,sxt⟩:=HS.out
  have hS:=hS0.grow H1.out.1
  have sxc:=gb_keeps H1.out.1 sxc
  have sxt:=sxt.gb H1.out.1
  obtain ⟨c0,c1,c2,c3,c4,fz⟩:=hS.cells
  obtain ⟨c,hc⟩:∃ c,c=(opn O).countP fun u=>decide (bnd q p<=bnd q u):=⟨_,rfl⟩
  have hol:(opn O).length=O.length:=by unfold opn;rw [List.length_map]
  have hcl:c<=O.length:=by rw [hc,<- hol];exact List.countP_le_length
  have hget:∀ t (ht:t < O.length),(opn O)[t]'(by omega)=O[t].2:=fun t ht=>by simp [opn]
  have cS:=ssearch_c (w:=wc) (sx:=sx) (bx:=wb) (n:=O.length) (p:=c) (cf:=fun t=>if h:t < O.length then decide (bnd q O[t].2 < bnd q p) else true) (by omega) hcl
   (fun t ht=>by
    have ht2:t < O.length:=by omega
    have:=(cnt_lt (p:=p) hd t (by omega)).1 (by omega)
    rw [hget t ht2] at this
    simp only [dif_pos ht2]
    exact decide_eq_false (by omega))
   (fun t ht htc=>by
    simp only [dif_pos ht]
    refine decide_eq_true (Nat.lt_of_not_le fun e=>?_)
    have:=(cnt_lt (p:=p) hd t (by omega)).2 (by rw [hget t ht];exact e)
    omega)
   (fun W' g t ht=>by
    simp only [dif_pos ht]
    rcases hS.form with ⟨e1,_⟩ | ⟨g',cap',e,_,hcd⟩
    ·rw [e1] at ht;simp at ht
    ·obtain ⟨_,a1,a2⟩:=hcd t ht
     cases e
     have:=await1_c (gb_keeps g.gr sxc) (gb_keeps g.gr c4) ht (gb_keeps g.gr a1) (gb_keeps g.gr a2) (gb_keeps g.gr H1.out.2.1) (gb_keeps g.gr H1.out.2.2.1)
     rw [BB.out.1,BB.out.2,cw_lt] at this
     exact this)
  obtain ⟨no,hno⟩:∃ no,no=O.length:=⟨_,rfl⟩
  have NO:Hid (no=O.length):=hno
  have IX:Hid (∀ w3,Tk.Gw wc w3->Calls Tryz.prog 71 #[.slice oa no oc,.int .i64 (c:Int),.slice (some ⟨w3.drew.heap.size,0,none⟩) 1 1] (w3.drew.alloc (.cells #[.pointer (some ⟨pb,0,none⟩),.int .u64 bh,.int .u64 bl] 121)) fun e w'=>InsO_insC (w3.drew.alloc (.cells #[.pointer (some ⟨pb,0,none⟩),.int .u64 bh,.int .u64 bl] 121)) (.slice oa no oc) no ((O.flatMap (encD q)).take (c * 3) ++ encD q (pb,p) ++ (O.flatMap (encD q)).drop (c * 3)) e w'):=fun w3 g3=>by
   have gg:Gb wc (w3.drew.alloc (.cells #[.pointer (some ⟨pb,0,none⟩),.int .u64 bh,.int .u64 bl] 121)):=gb_alloc g3.gr.drew _
   have ho:(w3.drew.alloc (.cells #[.pointer (some ⟨pb,0,none⟩),.int .u64 bh,.int .u64 bl] 121)).ownsRow 0 121 3 (.slice oa O.length oc) O.length (O.flatMap (encD q)):=⟨(hS.grow gg).op.1,(hS.grow gg).op.2.imp id (fun ⟨g,cap,cur,e,_,r⟩=>⟨g,cap,cur,e,Nat.zero_le _,r⟩)⟩
   rw [<- hno] at ho
   have ev:encD q (pb,p)=[.pointer (some ⟨pb,0,none⟩),.int .u64 bh,.int .u64 bl]:=by rw [BB.out.1,BB.out.2]
   rw [ev]
   refine insC_c ho (by omega) (by omega) (vs:=[.pointer (some ⟨pb,0,none⟩),.int .u64 bh,.int .u64 bl]) (heap_new _ _) rfl (fun e=>?_) (fun v hv=>?_) (fun v hv=>?_)
   ·rw [hno] at e
    have:=(hS.op.lt _ e).2
    have:=g3.gr.drew.size
    omega
   ·obtain ⟨x,_,hv⟩:=List.mem_flatMap.1 hv
    simp only [List.mem_cons,List.not_mem_nil,or_false] at hv
    rcases hv with rfl | rfl | rfl <;> rfl
   ·simp only [List.mem_cons,List.not_mem_nil,or_false] at hv
    rcases hv with rfl | rfl | rfl <;> rfl
  have FX:Hid (∀ w3,Tk.Gw wc w3->∀ e w4,InsO_insC (w3.drew.alloc (.cells #[.pointer (some ⟨pb,0,none⟩),.int .u64 bh,.int .u64 bl] 121)) (.slice oa no oc) no ((O.flatMap (encD q)).take (c * 3) ++ encD q (pb,p) ++ (O.flatMap (encD q)).drop (c * 3)) e w4->∃ g cap,e=.returned (.slice (some ⟨g,0,none⟩) (no + 1) cap)/\w4.cell? ⟨sb,4,none⟩=some (.slice oa no oc)/\w4.frozen? ⟨sb,4,none⟩=false/\(∀ (a:Addr) y,(a.block=sx ∨ a.block=wb)->(w3.drew.alloc (.cells #[.pointer (some ⟨pb,0,none⟩),.int .u64 bh,.int .u64 bl] 121)).cell? a=some y->w4.cell? a=some y)/\(∀ (a:Addr) {u y:Value},(a.block=sx ∨ a.block=wb)->w4.cell? a=some y->(w4.setCell ⟨sb,4,none⟩ u).cell? a=some y)/\Hid (∃ O' vo',SAt w0 (w4.setCell ⟨sb,4,none⟩ (.slice (some ⟨g,0,none⟩) (no + 1) cap)) T N sb hb k (.slice qa nq qc) q bud seen O' (M ++ [(pb,p)]) vs vo' vh/\opn O'=insP q p (opn O)/\O'.length=O.length + 1)):=fun w3 g3 e w4 hO=>by
   have gg:Gb wc (w3.drew.alloc (.cells #[.pointer (some ⟨pb,0,none⟩),.int .u64 bh,.int .u64 bl] 121)):=gb_alloc g3.gr.drew _
   have kp:=hO
   obtain ⟨g,cap,rfl,r1,kp,r3⟩:=hO
   have hS':=hS
   rw [<- hno] at hS'
   obtain ⟨hF,blkF⟩:=SAt.ins (c:=c) hS' gg hno ⟨g,cap,rfl,r1,kp,r3⟩ (hmp.gb (gb_trans H1.out.1 gg)) hof
   have tV:=(hS.grow gg)
   have nv:∀ (a:Addr),(a.block=sx ∨ a.block=wb)->¬ (Value.slice oa no oc).ownBlock=some a.block:=fun a e e2=>by
    rw [hno] at e2
    have t1:=tV.tvo e2
    rcases e with e | e
    ·rw [e] at t1;exact (sxt.gb gg).ne t1 (by decide) rfl
    ·rw [e] at t1;exact (H1.out.2.2.2.gb gg).ne t1 (by decide) rfl
   refine ⟨g,cap,rfl,cell_cur blkF rfl,by simp [World.frozen?,blkF],fun a y e hc=>kp.cell hc (nv a e),fun a u y e hc=>((Tk.Kp.refl (fun b=>b=sb) w4).setCell (.inl rfl) u).cell hc (fun e2=>?_),_,_,hF,?_,?_⟩
   ·have t1:=tV.tsb
    rcases e with e | e
    ·rw [<- e2,e] at t1;exact (sxt.gb gg).ne t1 (by decide) rfl
    ·rw [<- e2,e] at t1;exact (H1.out.2.2.2.gb gg).ne t1 (by decide) rfl
   ·rw [insP_at q p _ hd,<- hc]
    unfold opn
    rw [List.map_append,List.map_cons,List.map_take,List.map_drop]
   ·rw [List.length_append,List.length_cons,List.length_take,List.length_drop];omega
  have C4:Hid (∀ w3,Tk.Gw wc w3->w3.drew.cell? ⟨sb,4,none⟩=some (.slice oa no oc)/\(w3.alloc (.cells #[.pointer (some ⟨pb,0,none⟩),.int .u64 bh,.int .u64 bl] 121)).cell? ⟨sb,4,none⟩=some (.slice oa no oc)/\(fun W=>W.cell? ⟨sx,0,none⟩=some (.pointer (some ⟨sb,0,none⟩))/\W.cell? ⟨wb,0,none⟩=some (.int .u64 bh)/\W.cell? ⟨wb,1,none⟩=some (.int .u64 bl)) w3.drew):=fun w3 g3=>by
   rw [hno]
   exact ⟨gb_keeps g3.gr.drew c4,gb_keeps (gb_alloc g3.gr _) c4,gb_keeps g3.gr.drew sxc,gb_keeps g3.gr.drew H1.out.2.1,gb_keeps g3.gr.drew H1.out.2.2.1⟩
  rw [<- hno] at cS c4
  clear hd hof hS fz hc hol hcl hget H1 HS BB hS0 hmp sxt c0 c1 c2 c3 NO hno
  go_wp2_with fail
  go_fit cS
  rintro e w3 ⟨rfl,g3⟩
  have cN:=IX.out _ g3
  have FN:Hid _:=FX.out _ g3
  obtain ⟨c5,c5a,FS4⟩:=C4.out _ g3
  clear cS g3 IX FX c4 C4 sxc
  go_wp2_with fail
  refine wp_region_held_drew (S:=fun W=>W.cell? ⟨sx,0,none⟩=some (.pointer (some ⟨sb,0,none⟩))/\W.cell? ⟨wb,0,none⟩=some (.int .u64 bh)/\W.cell? ⟨wb,1,none⟩=some (.int .u64 bl)) (by kernel_rfl) (FS4) (fun hHeld=>?_)
  refine tkn 0 ?_ rfl ?_ ?_;rotate_left;·(rintro w ⟨s0,s1,s2⟩;go_simp;try rfl)
  refine tkn 1 ?_ rfl ?_ ?_;rotate_left;·(rintro w ⟨s0,s1,s2⟩;go_simp;try rfl)
  refine tkn 2 ?_ rfl ?_ ?_;rotate_left;·(rintro w ⟨s0,s1,s2⟩;go_simp;try rfl)
  refine tkn 3 ?_ rfl ?_ ?_;rotate_left;·(rintro w ⟨s0,s1,s2⟩;go_simp;try rfl)
  refine tkn 5 ?_ rfl ?_ ?_;rotate_left;·(rintro w ⟨s0,s1,s2⟩;go_simp;try rfl)
  refine tkn 6 ?_ rfl ?_ ?_;rotate_left;·(rintro w ⟨s0,s1,s2⟩;go_simp;try rfl)
  refine tkn 7 ?_ rfl ?_ ?_;rotate_left;·(rintro w ⟨s0,s1,s2⟩;go_simp;try rfl)
  refine tkn 8 ?_ rfl ?_ ?_;rotate_left;·(rintro w ⟨s0,s1,s2⟩;go_simp;try rfl)
  refine wpAnyH_ready (rs:=[4,9]) (by kernel_rfl) (by simp) ?_
  refine AllReadyH.cons rfl (fun K hK=>?_) (AllReadyH.cons rfl (fun K hK=>?_) AllReadyH.nil)
  ·go_simp
   refine hK.out _ _ (⟨hHeld.1,hHeld.2.1,hHeld.2.2⟩) (fun hHeld=>?_)
   clear hK K
   refine rdn 9 rfl (fun K hK=>?_)
   go_simp
   refine hK.out _ _ (⟨gb_keeps (gb_alloc (Below.refl _ _) _) hHeld.1,gb_keeps (gb_alloc (Below.refl _ _) _) hHeld.2.1,gb_keeps (gb_alloc (Below.refl _ _) _) hHeld.2.2⟩) (fun hHeld=>?_)
   clear hK K
   refine rdn 10 rfl (fun K hK=>?_)
   go_simp
   go_fit cN
   intro e w4 hO
   obtain ⟨g,cap,rfl,k5,f5,kk4,kk5,RR⟩:=FN.out _ _ hO
   clear hO cN FN
   refine hK.out _ _ (⟨kk4 _ _ (.inl rfl) hHeld.1,kk4 _ _ (.inr rfl) hHeld.2.1,kk4 _ _ (.inr rfl) hHeld.2.2⟩) (fun hHeld=>?_)
   clear hK K
   refine tkn 11 ?_ rfl ?_ ?_;rotate_left;·(rintro w ⟨s0,s1,s2⟩;go_simp;try rfl)
   refine tkn 12 ?_ rfl ?_ ?_;rotate_left;·(rintro w ⟨s0,s1,s2⟩;go_simp;try rfl)
   refine rdn 13 rfl (fun K hK=>?_)
   go_simp
   refine hK.out _ _ (⟨kk5 _ (.inl rfl) hHeld.1,kk5 _ (.inr rfl) hHeld.2.1,kk5 _ (.inr rfl) hHeld.2.2⟩) (fun hHeld=>?_)
   clear hK K
   refine wpAnyH_done (by kernel_rfl) ?_ _
   clear hHeld kk4 kk5 k5 f5
   go_wp2
   go_end0
   exact ⟨rfl,RR.out⟩
  ·go_simp
   refine hK.out _ _ (⟨gb_keeps (gb_alloc (Below.refl _ _) _) hHeld.1,gb_keeps (gb_alloc (Below.refl _ _) _) hHeld.2.1,gb_keeps (gb_alloc (Below.refl _ _) _) hHeld.2.2⟩) (fun hHeld=>?_)
   clear hK K
   refine rdn 4 rfl (fun K hK=>?_)
   go_simp
   refine hK.out _ _ (⟨hHeld.1,hHeld.2.1,hHeld.2.2⟩) (fun hHeld=>?_)
   clear hK K
   refine rdn 10 rfl (fun K hK=>?_)
   go_simp
   go_fit cN
   intro e w4 hO
   obtain ⟨g,cap,rfl,k5,f5,kk4,kk5,RR⟩:=FN.out _ _ hO
   clear hO cN FN
   refine hK.out _ _ (⟨kk4 _ _ (.inl rfl) hHeld.1,kk4 _ _ (.inr rfl) hHeld.2.1,kk4 _ _ (.inr rfl) hHeld.2.2⟩) (fun hHeld=>?_)
   clear hK K
   refine tkn 11 ?_ rfl ?_ ?_;rotate_left;·(rintro w ⟨s0,s1,s2⟩;go_simp;try rfl)
   refine tkn 12 ?_ rfl ?_ ?_;rotate_left;·(rintro w ⟨s0,s1,s2⟩;go_simp;try rfl)
   refine rdn 13 rfl (fun K hK=>?_)
   go_simp
   refine hK.out _ _ (⟨kk5 _ (.inl rfl) hHeld.1,kk5 _ (.inr rfl) hHeld.2.1,kk5 _ (.inr rfl) hHeld.2.2⟩) (fun hHeld=>?_)
   clear hK K
   refine wpAnyH_done (by kernel_rfl) ?_ _
   clear hHeld kk4 kk5 k5 f5
   go_wp2
   go_end0
   exact ⟨rfl,RR.out⟩
theorem await_nil (W:World) (sb:Nat):Calls Tryz.prog 41 #[.pointer (some ⟨sb,0,none⟩),.pointer none] W fun e W'=>e=.returned (.tuple #[])/\Gb W W':=by
 have G:Hid (Gb W (W.alloc (.cells #[.pointer (some ⟨sb,0,none⟩)] 88))):=gb_alloc (Below.refl _ _) _
 go_enter Tryz.func41,Tryz.ntmps41
 go_wp2
 exact bodyPost_ret (v:=.tuple #[]) (by simp [results,Tryz.results41,go_sem]) rfl ⟨rfl,G.out⟩
end Go.Proofs.YtepjbdklljlecaaGreat

namespace Go.Proofs.YtepjbdklljlecaaGreat
open Go.RowKit Go.Sort
set_option maxRecDepth 100000
set_option maxHeartbeats 1000000
theorem full_has {w:World} {hb k:Nat} {v:Value} {m:List Tk.Ht} (h:Tk.Has w hb k v m):Calls Tryz.prog 105 #[.pointer (some ⟨hb,0,none⟩)] w fun e w'=>e=.returned (.bool (decide (m.length=k)))/\Tk.Gw w w':=by
 obtain ⟨d,hp,_,pm,_⟩:=h
 have hd:d.size=m.length:=by have:=pm.length_eq;simpa using this
 have c0:=hp.cell0
 have c1:=hp.cell1
 obtain ⟨a,cap,e⟩:=hp.form
 rw [hd] at e
 subst e
 have G:Hid (Tk.Gw w w.drew):=(Tk.Gw.refl w).drew
 have hb2:((m.length:Int) == (k:Int))=decide (m.length=k):=by
  by_cases e:m.length=k
  ·rw [decide_eq_true e,e];simp
  ·rw [decide_eq_false e,beq_eq_false_iff_ne];omega
 generalize m.length=n at *
 generalize decide (n=k)=r at *
 clear hp pm hd
 go_enter Tryz.func105,Tryz.ntmps105
 go_wp2
 go_region
 all_goals
  go_wp2
  go_ret
  exact ⟨by simp [],G.out⟩
theorem hit_form {q:List Int} {l:List Rw} {k:Nat} {x:Tk.Ht} (h:x ∈ Tk.firsts k (hitsOf q l)):x.2.1=hi (dN x)/\x.2.2=lo (dN x):=by
 have h1:x ∈ hitsOf q l:=by
  unfold Tk.firsts at h
  exact (Tk.srt_perm _).mem_iff.1 (List.mem_of_mem_take h)
 obtain ⟨r,_,rfl⟩:=List.mem_map.1 h1
 rw [dN_hit]
 exact ⟨rfl,rfl⟩
theorem isBeyond_c {w0 W:World} {T:Nat->Pt} {N sb hb k:Nat} {vq:Value} {q:List Int} {bud:Nat} {seen:List Rw} {O M:List (Nat × Pt)} {vs vo vh:Value} (h:SAt w0 W T N sb hb k vq q bud seen O M vs vo vh) (pb:Nat) (p:Pt) :
  Calls Tryz.prog 72 #[.pointer (some ⟨sb,0,none⟩),.agg #[.pointer (some ⟨pb,0,none⟩),.int .u64 (hi (bnd q p)),.int .u64 (lo (bnd q p))]] W fun e W'=>e=.returned (.bool (beyond q k seen p))/\Gb W W':=by
 have gA:Gb W (W.alloc (.cells #[.pointer (some ⟨pb,0,none⟩),.int .u64 (hi (bnd q p)),.int .u64 (lo (bnd q p))] 121)):=gb_alloc (Below.refl _ _) _
 have hA:=h.grow gA
 obtain ⟨_,c1,_⟩:=hA.cells
 obtain ⟨m,hm⟩:∃ m,m=Tk.firsts k (hitsOf q seen):=⟨_,rfl⟩
 have hform:∀ x ∈ m,x.2.1=hi (dN x)/\x.2.2=lo (dN x):=fun x hx=>by rw [hm] at hx;exact hit_form hx
 have hk1:1<=k:=by obtain ⟨d,_,_,_,_,_,hk,_⟩:=h.has;exact hk
 have WR:Hid (∃ x:Tk.Ht,(Calls Tryz.prog 104 #[.pointer (some ⟨hb,0,none⟩)] (W.alloc (.cells #[.pointer (some ⟨pb,0,none⟩),.int .u64 (hi (bnd q p)),.int .u64 (lo (bnd q p))] 121)) fun e w'=>(∃ b,e=.returned (.tuple #[.agg #[.int .i64 x.1,.int .u64 x.2.1,.int .u64 x.2.2],.bool b]))/\Gb (W.alloc (.cells #[.pointer (some ⟨pb,0,none⟩),.int .u64 (hi (bnd q p)),.int .u64 (lo (bnd q p))] 121)) w') /\
   (m.length=k->x.2.1=hi (dN m[k - 1]!)/\x.2.2=lo (dN m[k - 1]!))):=by
  have hh:=hA.has
  rw [<- hm] at hh
  by_cases h0:0 < m.length
  ·refine ⟨m[m.length - 1]!,(Tk.worst_has hh h0).mono fun e w' he=>⟨⟨true,he.1⟩,he.2⟩,fun e=>?_⟩
   rw [e]
   exact hform _ (by rw [getElem!_pos m (k - 1) (by omega)];exact List.getElem_mem _)
  ·exact ⟨⟨0,0,0⟩,(Tk.worst_has_none hh (by omega)).mono fun e w' he=>⟨⟨false,he.1⟩,he.2⟩,fun e=>by omega⟩
 have hbe:beyond q k seen p=(decide (m.length=k) && decide (dN m[k - 1]! < bnd q p)):=by unfold beyond;rw [<- hm]
 rw [hbe]
 obtain ⟨x,cW,hx⟩:=WR.out
 have cFl:Hid (∀ W',Gb (W.alloc (.cells #[.pointer (some ⟨pb,0,none⟩),.int .u64 (hi (bnd q p)),.int .u64 (lo (bnd q p))] 121)) W'->(Calls Tryz.prog 105 #[.pointer (some ⟨hb,0,none⟩)] W' fun e w'=>e=.returned (.bool (decide (m.length=k)))/\Tk.Gw W' w')/\W'.cell? ⟨sb,1,none⟩=some (.pointer (some ⟨hb,0,none⟩))/\W'.cell? ⟨W.heap.size,1,none⟩=some (.int .u64 (hi (bnd q p)))/\W'.cell? ⟨W.heap.size,2,none⟩=some (.int .u64 (lo (bnd q p)))):=fun W' g=>by
  have:=full_has (hA.grow g).has
  rw [<- hm] at this
  exact ⟨this,gb_keeps g c1,gb_keeps g (by simp [go_sem]),gb_keeps g (by simp [go_sem])⟩
 have CW:Hid (m.length=k->∀ w,Calls Tryz.prog 70 #[.agg #[.int .u64 (hi (bnd q p)),.int .u64 (lo (bnd q p))],.agg #[.int .u64 x.2.1,.int .u64 x.2.2]] w fun e w'=>(∃ z:Int,e=.returned (.int .i64 z)/\decide (0 < z)=decide (dN m[k - 1]! < bnd q p))/\Tk.Gw w w'):=fun e w=>by
  refine (Tk.cmpw _ _ _ _ w).mono ?_
  rintro e' w' ⟨rfl,g⟩
  refine ⟨⟨_,rfl,?_⟩,g⟩
  rw [(hx e).1,(hx e).2,cw_hl]
  by_cases a:bnd q p=dN m[k - 1]!
  ·rw [if_pos a,decide_eq_false (by decide),decide_eq_false (by omega)]
  ·rw [if_neg a]
   by_cases b:bnd q p < dN m[k - 1]!
   ·rw [if_pos b,decide_eq_false (by decide),decide_eq_false (by omega)]
   ·rw [if_neg b,decide_eq_true (by decide),decide_eq_true (by omega)]
 have GA:Hid (Gb W (W.alloc (.cells #[.pointer (some ⟨pb,0,none⟩),.int .u64 (hi (bnd q p)),.int .u64 (lo (bnd q p))] 121))):=gA
 obtain ⟨xi,xh,xl⟩:=x
 dsimp only at cW CW
 generalize decide (dN m[k - 1]! < bnd q p)=r at *
 generalize hi (bnd q p)=bh at *
 generalize lo (bnd q p)=bl at *
 clear h hA hform hk1 WR hbe gA hx hm
 go_enter Tryz.func72,Tryz.ntmps72
 go_wp2_with fail
 go_fit cW
 rintro e w1 ⟨⟨b,rfl⟩,g1⟩
 have g2:Gb (W.alloc (.cells #[.pointer (some ⟨pb,0,none⟩),.int .u64 bh,.int .u64 bl] 121)) (w1.alloc (.cells #[.int .i64 xi,.int .u64 xh,.int .u64 xl] 68)):=gb_alloc g1 _
 obtain ⟨cF,d1,d2,d3⟩:=cFl.out _ g2
 have G2:Hid (Gb W (w1.alloc (.cells #[.int .i64 xi,.int .u64 xh,.int .u64 xl] 68))):=gb_trans GA.out g2
 have C3:Hid (∀ w3,Tk.Gw (w1.alloc (.cells #[.int .i64 xi,.int .u64 xh,.int .u64 xl] 68)) w3->w3.cell? ⟨W.heap.size,1,none⟩=some (.int .u64 bh)/\w3.cell? ⟨W.heap.size,2,none⟩=some (.int .u64 bl)/\w3.cell? ⟨w1.heap.size,1,none⟩=some (.int .u64 xh)/\w3.cell? ⟨w1.heap.size,2,none⟩=some (.int .u64 xl)):=fun w3 g=>⟨gb_keeps g.gr d2,gb_keeps g.gr d3,gb_keeps g.gr (by simp [go_sem]),gb_keeps g.gr (by simp [go_sem])⟩
 clear cW g1 g2 GA cFl d2 d3 c1
 go_wp2_with fail
 go_fit cF
 rintro e w3 ⟨rfl,g3⟩
 obtain ⟨e0,e1,e2,e3⟩:=C3.out _ g3
 have G3:Hid (Gb W w3):=gb_trans G2.out g3.gr
 clear cF C3 g3 G2 d1
 by_cases hk:m.length=k
 ·rw [decide_eq_true hk]
  have cC:=CW.out hk
  have HK:Hid (decide (m.length=k)=true):=decide_eq_true hk
  clear CW hk
  go_wp2_with fail
  go_fit (cC w3)
  rintro e w4 ⟨⟨z,rfl,hz⟩,g4⟩
  have G4:Hid (Gb W w4):=gb_trans G3.out g4.gr
  have HZ:Hid (decide (0 < z)=r):=hz
  clear cC g4 G3 hz
  go_wp2
  go_ret
  exact ⟨by rw [<- HZ.out,HK.out];simp,G4.out⟩
 ·rw [decide_eq_false hk]
  have HK:Hid (decide (m.length=k)=false):=decide_eq_false hk
  clear CW hk
  go_wp2
  go_ret
  exact ⟨by rw [HK.out];simp,G3.out⟩
end Go.Proofs.YtepjbdklljlecaaGreat
