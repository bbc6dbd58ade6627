import Derived.Test.YtepjbdklljlecaaGreatVr20
import Derived.Deep.RegionHeld3
import Derived.Test.YtepjbdklljlecaaGreatVr5
namespace Go.Proofs.YtepjbdklljlecaaGreat
open Go.RowKit Go.Sort Go.Maps
set_option maxRecDepth 100000
set_option maxHeartbeats 2000000
theorem vset_far {W:World} {p:Addr} {u:Value} {b o:Nat} {x:Value} (hp:b ≠ p.block) (h:W.cell? p=some u):(W.setCell ⟨b,o,none⟩ x).cell? p=some u:=(set_far2 hp hp ⟨h,h⟩).1
theorem vdist_ok {w:World} {u v:Value} {y c:List Int} {s:Int} (hu:RdI w u y) (hv:RdI w v c) (hy:chk y s=0) (hc:chk c s=0) :
  Calls Tryz.prog 106 #[u,v] w fun e w'=>e=.returned (.tuple #[Wd (dst y c),.int .i64 0])/\Gr w w':=by
 have h1:=chk_ok hy
 have e:distE y c=0:=by unfold distE;rw [<- h1.2.2.1,if_pos hy];exact hc
 have e2:distV y c=dst y c:=by unfold distV;rw [if_pos e]
 have h:=dist_c hu hv
 rw [e,e2] at h
 exact h
theorem hit_c {w:World} {pb:Nat} {cv u:Value} {C V:List Int} {d xi:Int} (hc:w.cell? ⟨pb,1,none⟩=some cv) (rc:RdI w cv C) (ru:RdI w u V) (kC:chk C d=0) (kV:chk V d=0) :
  Calls Tryz.prog 96 #[.pointer (some ⟨pb,0,none⟩),.agg #[.int .i64 xi,u]] w fun e w'=>e=.returned (Tk.hv (hitOf C (xi,V)))/\Gb w w':=by
 obtain ⟨W0,hW0⟩:∃ W0,W0=(w.alloc (.cells #[.int .i64 xi,u] 43)).alloc (.cells #[.int .i64 0,.int .u64 0,.int .u64 0] 68):=⟨_,rfl⟩
 have g0:Gb w W0:=by rw [hW0];exact gb_alloc (gb_alloc (Below.refl _ _) _) _
 have cd:=fun W (g:Gb W0 W)=>vdist_ok (rc.gb (gb_trans g0 g)) (ru.gb (gb_trans g0 g)) kC kV
 have HT:Hid (Tk.hv (hitOf C (xi,V))=.agg #[.int .i64 xi,.int .u64 (hi (dst C V)),.int .u64 (lo (dst C V))]):=rfl
 have hc0:=gb_keeps g0 hc
 have PB:Hid (pb < W0.heap.size/\w.heap.size < W0.heap.size):=⟨cell_lt hc0,by rw [hW0,World.size_alloc,World.size_alloc];omega⟩
 obtain ⟨ca,cc,rfl,_⟩:=rc
 obtain ⟨ua,uc,rfl,_⟩:=ru
 have GD:Hid (Gb w W0.drew):=g0.drew
 have RS:Hid (W0.cell? ⟨w.heap.size,0,none⟩=some (.int .i64 xi)/\W0.cell? ⟨w.heap.size + 1,0,none⟩=some (.int .i64 0)/\W0.cell? ⟨w.heap.size + 1,1,none⟩=some (.int .u64 0)/\W0.cell? ⟨w.heap.size + 1,2,none⟩=some (.int .u64 0)/\W0.frozen? ⟨w.heap.size + 1,0,none⟩=false/\W0.frozen? ⟨w.heap.size + 1,1,none⟩=false/\W0.frozen? ⟨w.heap.size + 1,2,none⟩=false):=by
  unfold Hid
  rw [hW0]
  refine ⟨?_,?_,?_,?_,?_,?_,?_⟩ <;> simp [go_sem]
 have hu1:W0.cell? ⟨w.heap.size,1,none⟩=some (.slice ua V.length uc):=by rw [hW0];simp [go_sem]
 have FS:W0.drew.cell? ⟨pb,1,none⟩=some (.slice ca C.length cc)/\W0.drew.cell? ⟨w.heap.size,1,none⟩=some (.slice ua V.length uc):=⟨hc0,hu1⟩
 generalize C.length=nc at *
 generalize V.length=nu at *
 generalize dst C V=ds at *
 clear hc hc0 hu1 g0 kC kV
 go_enter Tryz.func96,Tryz.ntmps96
 go_wp2_with fail
 rw [<- hW0]
 clear hW0
 refine wp_region_held_drew (S:=fun W=>W.cell? ⟨pb,1,none⟩=some (.slice ca nc cc)/\W.cell? ⟨w.heap.size,1,none⟩=some (.slice ua nu uc)) (by kernel_rfl) (FS) (fun hHeld=>?_)
 refine tkn 0 ?_ rfl ?_ ?_;rotate_left;·(rintro w ⟨s0,s1⟩;go_simp;try rfl)
 refine tkn 1 ?_ rfl ?_ ?_;rotate_left;·(rintro w ⟨s0,s1⟩;go_simp;try rfl)
 refine tkn 2 ?_ rfl ?_ ?_;rotate_left;·(rintro w ⟨s0,s1⟩;go_simp;try rfl)
 refine tkn 3 ?_ rfl ?_ ?_;rotate_left;·(rintro w ⟨s0,s1⟩;go_simp;try rfl)
 refine tkn 4 ?_ rfl ?_ ?_;rotate_left;·(rintro w ⟨s0,s1⟩;go_simp;try rfl)
 refine tkn 5 ?_ rfl ?_ ?_;rotate_left;·(rintro w ⟨s0,s1⟩;go_simp;try rfl)
 refine tkn 6 ?_ rfl ?_ ?_;rotate_left;·(rintro w ⟨s0,s1⟩;go_simp;try rfl)
 refine wpAnyH_ready (rs:=[7,11]) (by kernel_rfl) (by simp) ?_
 refine AllReadyH.cons rfl (fun K hK=>?_) (AllReadyH.cons rfl (fun K hK=>?_) AllReadyH.nil)
 ·go_simp
  go_fit (cd W0.drew (Below.refl _ _).drew)
  rintro e w2 ⟨rfl,gk⟩
  refine hK.out _ _ (⟨gb_keeps gk.gb hHeld.1,gb_keeps gk.gb hHeld.2⟩) (fun hHeld=>?_)
  clear hK K
  refine tkn 8 ?_ rfl ?_ ?_;rotate_left;·(rintro w ⟨s0,s1⟩;go_simp;try rfl)
  refine tkn 9 ?_ rfl ?_ ?_;rotate_left;·(rintro w ⟨s0,s1⟩;go_simp;try rfl)
  refine tkn 10 ?_ rfl ?_ ?_;rotate_left;·(rintro w ⟨s0,s1⟩;go_simp;try rfl)
  have HW:=hHeld
  refine rdn 11 rfl (fun K hK=>?_)
  go_simp
  refine hK.out _ _ (⟨alloc_keeps hHeld.1 _,alloc_keeps hHeld.2 _⟩) (fun hHeld=>?_)
  clear hK K
  refine rdn 12 rfl (fun K hK=>?_)
  go_simp
  refine hK.out _ _ (⟨alloc_keeps HW.1 _,alloc_keeps HW.2 _⟩) (fun hHeld=>?_)
  clear hK K
  refine tkn 13 ?_ rfl ?_ ?_;rotate_left;·(rintro w ⟨s0,s1⟩;go_simp;try rfl)
  refine wpAnyH_done (by kernel_rfl) ?_ _
  clear HW
  have gA:Gr W0.drew (w2.alloc (.cells #[.int .u64 (hi ds),.int .u64 (lo ds)] 66)):=gk.trans ((Gr.refl _).alloc _ _)
  obtain ⟨m0,m1,_,_⟩:At2 (w2.alloc (.cells #[.int .u64 (hi ds),.int .u64 (lo ds)] 66)) w2.heap.size ds:=At2.new w2 ds _
  have q0:=gA.keeps RS.out.1
  have q1:=gA.keeps RS.out.2.1
  have q2:=gA.keeps RS.out.2.2.1
  have q3:=gA.keeps RS.out.2.2.2.1
  have f1:=(gA.froz ⟨w.heap.size + 1,0,none⟩).trans RS.out.2.2.2.2.1
  have f2:=(gA.froz ⟨w.heap.size + 1,1,none⟩).trans RS.out.2.2.2.2.2.1
  have f3:=(gA.froz ⟨w.heap.size + 1,2,none⟩).trans RS.out.2.2.2.2.2.2
  have GE:Hid (Gb w (w2.alloc (.cells #[.int .u64 (hi ds),.int .u64 (lo ds)] 66))):=gb_trans GD.out gA.gb
  clear hHeld gk gA FS
  go_wp2
  exact bodyPost_ret (v:=.agg #[.int .i64 xi,.int .u64 (hi ds),.int .u64 (lo ds)]) (by simp [results,Tryz.results96,go_sem,q1,q2,q3]) rfl ⟨by rw [HT.out],by repeat (first | exact GE.out | refine gb_set ?_ (by simp) _)⟩
 ·go_simp
  refine hK.out _ _ (⟨alloc_keeps hHeld.1 _,alloc_keeps hHeld.2 _⟩) (fun hHeld=>?_)
  clear hK K
  refine rdn 7 rfl (fun K hK=>?_)
  go_simp
  go_fit (cd _ (gb_alloc (Below.refl _ _).drew _))
  rintro e w2 ⟨rfl,gk⟩
  refine hK.out _ _ (⟨gb_keeps gk.gb hHeld.1,gb_keeps gk.gb hHeld.2⟩) (fun hHeld=>?_)
  clear hK K
  refine tkn 8 ?_ rfl ?_ ?_;rotate_left;·(rintro w ⟨s0,s1⟩;go_simp;try rfl)
  refine tkn 9 ?_ rfl ?_ ?_;rotate_left;·(rintro w ⟨s0,s1⟩;go_simp;try rfl)
  refine tkn 10 ?_ rfl ?_ ?_;rotate_left;·(rintro w ⟨s0,s1⟩;go_simp;try rfl)
  obtain ⟨n0,n1,n2,n3⟩:At2 w2 W0.heap.size 0:=(At2.new W0.drew 0 _).gr gk
  refine rdn 12 rfl (fun K hK=>?_)
  go_simp
  refine hK.out _ _ (⟨vset_far (Nat.ne_of_gt (id PB.out.1)) (vset_far (Nat.ne_of_gt (id PB.out.1)) hHeld.1),vset_far (Nat.ne_of_gt (id PB.out.2)) (vset_far (Nat.ne_of_gt (id PB.out.2)) hHeld.2)⟩) (fun hHeld=>?_)
  clear hK K
  refine tkn 13 ?_ rfl ?_ ?_;rotate_left;·(rintro w ⟨s0,s1⟩;go_simp;try rfl)
  refine wpAnyH_done (by kernel_rfl) ?_ _
  have gA:Gr W0.drew ((w2.setCell ⟨W0.heap.size,0,none⟩ (.int .u64 (hi ds))).setCell ⟨W0.heap.size,1,none⟩ (.int .u64 (lo ds))):=((((Gr.refl W0.drew).alloc _ _).trans gk).setCell (Nat.le_refl _) _).setCell (Nat.le_refl _) _
  obtain ⟨m0,m1,_,_⟩:At2 ((w2.setCell ⟨W0.heap.size,0,none⟩ (.int .u64 (hi ds))).setCell ⟨W0.heap.size,1,none⟩ (.int .u64 (lo ds))) W0.heap.size ds:=At2.set ((At2.new W0.drew 0 _).gr gk) ds
  have q0:=gA.keeps RS.out.1
  have q1:=gA.keeps RS.out.2.1
  have q2:=gA.keeps RS.out.2.2.1
  have q3:=gA.keeps RS.out.2.2.2.1
  have f1:=(gA.froz ⟨w.heap.size + 1,0,none⟩).trans RS.out.2.2.2.2.1
  have f2:=(gA.froz ⟨w.heap.size + 1,1,none⟩).trans RS.out.2.2.2.2.2.1
  have f3:=(gA.froz ⟨w.heap.size + 1,2,none⟩).trans RS.out.2.2.2.2.2.2
  have GE:Hid (Gb w ((w2.setCell ⟨W0.heap.size,0,none⟩ (.int .u64 (hi ds))).setCell ⟨W0.heap.size,1,none⟩ (.int .u64 (lo ds)))):=gb_trans GD.out gA.gb
  clear hHeld gk gA FS
  go_wp2
  exact bodyPost_ret (v:=.agg #[.int .i64 xi,.int .u64 (hi ds),.int .u64 (lo ds)]) (by simp [results,Tryz.results96,go_sem,q1,q2,q3]) rfl ⟨by rw [HT.out],by repeat (first | exact GE.out | refine gb_set ?_ (by simp) _)⟩
end Go.Proofs.YtepjbdklljlecaaGreat
