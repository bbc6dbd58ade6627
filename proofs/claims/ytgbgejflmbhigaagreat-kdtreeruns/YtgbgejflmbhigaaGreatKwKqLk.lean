import Derived.Test.YtgbgejflmbhigaaGreatKw35
import Derived.Test.YtgbgejflmbhigaaGreatKw12
namespace Go.Proofs.YtgbgejflmbhigaaGreat
open Go.RowKit Go.Sort Go.Maps
set_option maxRecDepth 100000
set_option maxHeartbeats 4000000
theorem SAt.see {w0 W:World} {T:Nat->Pt} {N sb hb k:Nat} {vq:Value} {q:List Int} {bud:Nat} {seen:List Rw} {O:List Nat} {M:List (Nat × Pt)} {vs vm vo vh:Value} (h:SAt w0 W T N sb hb k vq q bud seen O M vs vm vo vh)
  {V W2 V2 W3:World} {vh' v':Value} {r:Rw} (gV:Gb W V) (hh:Tk.Has W2 hb k vh' (Tk.keep k (Tk.firsts k (hitsOf q seen)) (hitOf q r))) (kp:Tk.Kp (fun b=>b=hb ∨ some b=vh.ownBlock) V W2) (hv:vh'.ownBlock=vh.ownBlock ∨ ∀ g,vh'.ownBlock=some g->V.heap.size<=g)
  (gV2:Gb W2 V2) (ho:W3.ownsRow w0.heap.size 3 1 v' (seen.length + 1) ((idsOf seen).map (Value.int .i64) ++ [.int .i64 r.1])) (hg:V2.grownBy W3 vs.ownBlock) (hl:v'.ownBlock=vs.ownBlock ∨ v'.ownBlock=some V2.heap.size) (hf:seen.length + 1<=512) :
  SAt w0 (W3.setCell ⟨sb,3,none⟩ v') T N sb hb k vq q bud (seen ++ [r]) O M v' vm vo vh'/\W3.heap[sb]? = some (.cells #[vq,.pointer (some ⟨hb,0,none⟩),.int .i64 (bud:Int),vs,vm,vo] 85 (0,0)):=by
 have hV:=h.grow gV
 have n1:∀ {b:Nat} {t:TypeId},Ty V b t->t ≠ 113->t ≠ 60->¬ (b=hb ∨ some b=vh.ownBlock):=fun ht h1 h2 e=>by
  rcases e with e | e
  ·exact ht.ne hV.thb h1 e
  ·exact ht.ne (hV.tvh e.symm) h2 rfl
 have kp2:Tk.Kp (fun b=>vs.ownBlock=some b) V2 W3:=⟨hg.os,hg.tape,hg.output,hg.size,fun k hk hn=>hg.block k hk (fun e=>hn e.symm)⟩
 have blk1:W2.heap[sb]? = some (.cells #[vq,.pointer (some ⟨hb,0,none⟩),.int .i64 (bud:Int),vs,vm,vo] 85 (0,0)):=by rw [kp.block sb (Array.getElem?_eq_some_iff.1 hV.blk).1 (n1 hV.tsb (by decide) (by decide))];exact hV.blk
 have sn2:Own V2 w0.heap.size vs (idsOf seen):=own_kpI (own_kpI hV.sn kp (fun g e=>n1 (hV.tvs e) (by decide) (by decide))) (kpF gV2) (fun _ _ h=>h)
 have n2:∀ {b:Nat} {t:TypeId},Ty V2 b t->t ≠ 3->¬ vs.ownBlock=some b:=fun ht hne e=>ht.ne (own_ty sn2 e) hne rfl
 have lt2:∀ {b:Nat} {t:TypeId},Ty V b t->t ≠ 113->t ≠ 60->Ty V2 b t:=fun ht h1 h2=>by
  obtain ⟨c,s,e⟩:=ht
  have:Ty W2 _ _:=⟨c,s,by rw [kp.block _ (Array.getElem?_eq_some_iff.1 e).1 (n1 ⟨c,s,e⟩ h1 h2)];exact e⟩
  exact this.gb gV2
 have hh2:=hh.gr gV2
 have thb2:Ty V2 hb 113:=by obtain ⟨c,e⟩:=Has.cells hh2;exact ⟨c,_,e⟩
 have tvh2:∀ {g:Nat},vh'.ownBlock=some g->Ty V2 g 60:=fun hg=>by obtain ⟨c,e⟩:=Has.own hh2 hg;exact ⟨c,_,e⟩
 have blk2:V2.heap[sb]? = some (.cells #[vq,.pointer (some ⟨hb,0,none⟩),.int .i64 (bud:Int),vs,vm,vo] 85 (0,0)):=by rw [gV2.block sb (Array.getElem?_eq_some_iff.1 blk1).1];exact blk1
 have tsb2:Ty V2 sb 85:=⟨_,_,blk2⟩
 have blk3:W3.heap[sb]? = some (.cells #[vq,.pointer (some ⟨hb,0,none⟩),.int .i64 (bud:Int),vs,vm,vo] 85 (0,0)):=by rw [kp2.block sb (Array.getElem?_eq_some_iff.1 blk2).1 (n2 tsb2 (by decide))];exact blk2
 have k3:Tk.Kp (fun b=>b=sb) W3 (W3.setCell ⟨sb,3,none⟩ v'):=(Tk.Kp.refl (fun b=>b=sb) W3).setCell (.inl rfl) v'
 have n3:∀ {b:Nat} {t:TypeId},Ty V2 b t->t ≠ 85->¬ b=sb:=fun ht hne e=>ht.ne tsb2 hne e
 have p2:∀ {pb:Nat} {p:Pt},MP w0 V T N pb p->MP w0 (W3.setCell ⟨sb,3,none⟩ v') T N pb p:=fun hx=>by
  have t2:=lt2 hx.ty (by decide) (by decide)
  exact (((hx.kp kp (n1 hx.ty (by decide) (by decide))).gb gV2).kp kp2 (n2 t2 (by decide))).kp k3 (n3 t2 (by decide))
 have s0:=hV.gb.size
 have s1:=kp.size
 have s2:=gV2.size
 have s3:=kp2.size
 refine ⟨⟨by simp [World.setCell,Array.getElem?_modify,blk3],h.sbB,h.hbB,?_,?_,?_,?_,?_,h.olt,fun x hx=>p2 (hV.prt x hx),?_,?_,h.q,by rw [List.length_append];exact hf,h.mfew⟩,blk3⟩
 ·have e:Tk.firsts k (hitsOf q (seen ++ [r]))=Tk.keep k (Tk.firsts k (hitsOf q seen)) (hitOf q r):=by
   rw [<- Tk.firsts_snoc];unfold hitsOf;rw [List.map_append];rfl
  rw [e]
  exact (hh2.kp kp2 (n2 thb2 (by decide)) (fun g e=>n2 (tvh2 e) (by decide))).kp k3 (n3 thb2 (by decide)) (fun g e=>n3 (tvh2 e) (by decide))
 ·intro g hg'
  rcases hv with e | e
  ·rw [e] at hg';exact h.hhB g hg'
  ·have:=e g hg';omega
 ·have e:(idsOf (seen ++ [r])).map (Value.int .i64)=(idsOf seen).map (Value.int .i64) ++ [.int .i64 r.1]:=by unfold idsOf;rw [List.map_append,List.map_append];rfl
  have el:(idsOf (seen ++ [r])).length=seen.length + 1:=by unfold idsOf;rw [List.length_map,List.length_append];rfl
  unfold Own
  rw [e,el]
  exact own_kpR ho k3 (fun g hg'=>(own_ty ho hg').ne ⟨_,_,blk3⟩ (by decide))
 ·exact own_kpR (own_kpR (own_kpR (own_kpR hV.mt kp (fun g e=>n1 (hV.tvm e) (by decide) (by decide))) (kpF gV2) (fun _ _ h=>h)) kp2 (fun g e=>n2 (lt2 (hV.tvm e) (by decide) (by decide)) (by decide))) k3 (fun g e=>n3 (lt2 (hV.tvm e) (by decide) (by decide)) (by decide))
 ·exact own_kpI (own_kpI (own_kpI (own_kpI hV.op kp (fun g e=>n1 (hV.tvo e) (by decide) (by decide))) (kpF gV2) (fun _ _ h=>h)) kp2 (fun g e e2=>h.ne g e2 e)) k3 (fun g e=>n3 (lt2 (hV.tvo e) (by decide) (by decide)) (by decide))
 ·intro g hg' e'
  rcases hl with e | e
  ·rw [e] at hg';exact h.ne g hg' e'
  ·rw [e] at hg'
   injection hg' with hg'
   have:=(hV.op.lt g e').2
   omega
 ·have b1:Below w0.heap.size w0 W2:=hV.gb.trans (kp.gr hV.gb.size (fun b e=>by
   rcases e with e | e
   ·rw [e];exact h.hbB
   ·exact h.hhB b e.symm))
  have b2:Below w0.heap.size w0 V2:=gb_trans b1 gV2
  have b3:Below w0.heap.size w0 W3:=b2.trans (kp2.gr (by omega) (fun b e=>(h.sn.lt b e).1))
  exact b3.trans (k3.gr (by omega) (fun b e=>by rw [e];exact h.sbB))
def LookO (w0 W':World) (T:Nat->Pt) (N sb hb k:Nat) (vq:Value) (q:List Int) (bud:Nat) (seen:List Rw) (O:List Nat) (M:List (Nat × Pt)) (p:Pt) (c:Nat):Prop:=∃ O' M' vs' vm' vo' vh',SAt w0 W' T N sb hb k vq q (bud - c) (seen ++ p.rs.take c) O' M' vs' vm' vo' vh'/\opn M' O'=(if c < p.rs.length then insP q ⟨p.L,p.H,p.rs.drop c,(0,0,0),none⟩ (opn M O) else opn M O)/\M'.length<=M.length + 1/\O'.length<=O.length + 1
theorem krdw_drop {w:World} {g o n cap c:Nat} {rs:List Rw} (h:RdW w (.slice (some ⟨g,o,none⟩) n cap) rs) (hc:c<=n):RdW w (.slice (some ⟨g,o + c * 2,none⟩) (n - c) (cap - c)) (rs.drop c):=by
 obtain ⟨a,cap',e,h⟩:=h
 injection e with e1 e2 e3
 subst e1 e3
 refine ⟨_,_,by rw [List.length_drop,<- e2],fun i hi=>?_⟩
 rw [List.length_drop] at hi
 obtain ⟨b,o',u,ea,h1,h2,h3⟩:=h (c + i) (by omega)
 injection ea with ea
 injection ea with ea1 ea2
 subst ea1 ea2
 have e4:(rs.drop c)[i]! = rs[c + i]! := by rw [getElem!_pos _ i (by rw [List.length_drop];omega),getElem!_pos rs (c + i) (by omega),List.getElem_drop]
 refine ⟨g,o + c * 2,u,rfl,?_,?_,?_⟩
 ·rw [e4,show o + c * 2 + i * 2=o + (c + i) * 2 by omega];exact h1
 ·rw [show o + c * 2 + i * 2 + 1=o + (c + i) * 2 + 1 by omega];exact h2
 ·rw [e4];exact h3
theorem one_new (w:World) (x:Value) (t:TypeId):∀ j u,[x][j]? = some u->(w.alloc (.cells #[x] t)).cell? ((⟨w.heap.size,0,none⟩:Addr).add j)=some u:=by
 intro j u hj
 rw [Addr.add_lit,Nat.zero_add]
 exact cell_cur (heap_new w _) (by simpa using hj)
theorem look_leaf {w0 W:World} {T:Nat->Pt} {N sb hb k:Nat} {vq:Value} {q:List Int} {bud:Nat} {seen:List Rw} {O:List Nat} {M:List (Nat × Pt)} {vs vm vo vh:Value} {pb:Nat} {p:Pt} (h:SAt w0 W T N sb hb k vq q bud seen O M vs vm vo vh) (hpM:(pb,p) ∈ M) (hk:p.kids=none)
  (hbx:ckB (pr p) q=0) (hrow:∀ r ∈ p.rs,chk r.2 (q.length:Int)=0) (hq:chk q (q.length:Int)=0) (hd:Dsc q (opn M O)) (hf:M.length + 1<=10000) (hof:O.length<=10000) (hs:seen.length + p.rs.length<=512) (hb6:bud<=1000000) {c:Nat} (hc:c=min bud p.rs.length) :
  Calls Tryz.prog 68 #[.pointer (some ⟨sb,0,none⟩),.pointer (some ⟨pb,0,none⟩)] W fun e W'=>e=.returned (.tuple #[])/\LookO w0 W' T N sb hb k vq q bud seen O M p c:=by
 obtain ⟨qa,qc,eq,_⟩:=h.q
 subst eq
 have hp:=h.prt _ hpM
 dsimp only at hp
 obtain ⟨vl,vh0,vr,hblk,rl,rh,hrs⟩:=hp
 rw [hk] at hrs
 obtain ⟨hrw,g,o,cap,evr,hcap⟩:=hrs
 subst evr
 obtain ⟨_,_,c2,_,_,_,fz⟩:=h.cells
 have f2:=fz 2
 have hblkT:Ty W pb 108:=⟨_,_,hblk⟩
 have psb:pb ≠ sb:=hblkT.ne h.tsb (by decide)
 have hcut:=isCut_c (Iq:=fun _=>True) (w:=W) (b:=pb) (p:=p) (vl:=vl) (vh:=vh0) (vr:=.slice (some ⟨g,o,none⟩) p.rs.length cap)
 have cI:Calls Tryz.prog 67 #[.pointer (some ⟨pb,0,none⟩)] W fun e w'=>e=.returned (.bool false)/\w'=W:=by
  have c10:W.cell? ⟨pb,10,none⟩=some (.pointer none):=by
   have:=cell_cur (i:=10) (v:=kidV (p.kids.map Prod.fst)) hblk rfl
   rw [hk] at this
   exact this
  clear hcut
  go_enter Tryz.func67,Tryz.ntmps67
  go_wp2
  go_ret
  exact ⟨rfl,rfl⟩
 clear hcut
 have c6:=cell_cur (i:=6) hblk rfl
 have HB:Hid (SAt w0 (W.drew.setCell ⟨sb,2,none⟩ (.int .i64 ((bud - c:Nat):Int))) T N sb hb k (.slice qa q.length qc) q (bud - c) (seen ++ p.rs.take 0) O M vs vm vo vh):=by
  have:=(h.grow (Below.refl _ _).drew).setBud (bud - c)
  unfold Hid
  rw [List.take_zero,List.append_nil]
  exact this
 have hcn:c<=p.rs.length:=by omega
 have hcb:c<=bud:=by omega
 have mineq:min (bud:Int) (p.rs.length:Int)=(c:Int):=by omega
 have hsub:(bud:Int) - (c:Int)=((bud - c:Nat):Int):=by omega
 have hci:(c:Int)<=(cap:Int):=by omega
 have PC:Hid (W.heap[pb]? = some (.cells (pcells p vl vh0 (.slice (some ⟨g,o,none⟩) p.rs.length cap)) 108 (0,0))/\RdI w0 vl p.L/\RdI w0 vh0 p.H/\RdW w0 (.slice (some ⟨g,o,none⟩) p.rs.length cap) p.rs/\p.rs.length<=cap/\(pb,p) ∈ M):=⟨hblk,rl,rh,hrw,hcap,hpM⟩
 have HH:Hid (ckB (pr p) q=0/\(∀ r ∈ p.rs,chk r.2 (q.length:Int)=0)/\chk q (q.length:Int)=0/\Dsc q (opn M O)/\M.length + 1<=10000/\O.length<=10000/\seen.length + p.rs.length<=512/\p.kids=none):=⟨hbx,hrow,hq,hd,hf,hof,hs,hk⟩
 have c6':(W.drew.setCell ⟨sb,2,none⟩ (.int .i64 ((bud - c:Nat):Int))).cell? ⟨pb,6,none⟩=some (.slice (some ⟨g,o,none⟩) p.rs.length cap):=((Tk.Kp.refl (fun b=>b=sb) W.drew).setCell (.inl rfl) _).cell c6 psb
 obtain ⟨n,hN⟩:∃ n,n=p.rs.length:=⟨_,rfl⟩
 have NN:Hid (n=p.rs.length):=hN
 rw [<- hN] at c6 c6' hcn mineq
 have hN5:n<=512:=by omega
 clear h hblk rl rh hrw hcap hblkT hbx hrow hq hd hf hof hs hk fz hc hpM hN
 go_enter Tryz.func68,Tryz.ntmps68
 go_wp2_with fail
 go_fit cI
 rintro e W ⟨rfl,rfl⟩
 clear cI
 go_wp2_with fail
 go_region
 have hw64:IntKind.i64.wrap ((bud:Int) - (c:Int))=((bud - c:Nat):Int):=by rw [hsub,IntKind.wrap_i64];omega
 have hw65:wrap64 ((bud:Int) - (c:Int))=((bud - c:Nat):Int):=by simp only [wrap64];omega
 have hcc:(c:Int)<=(n:Int):=by omega
 go_wp2
 clear c2 f2 c6 c6' mineq hsub hw64 hw65 hcc
 go_loopw [48] (fun iv Wr=>∃ j:Nat,iv=.int .i64 (j:Int)/\j<=c/\Hid (∃ vs' vh',SAt w0 Wr T N sb hb k (.slice qa q.length qc) q (bud - c) (seen ++ p.rs.take j) O M vs' vm vo vh')) (fun iv _=>c - (intOf iv).toNat)
 case atStart=>exact ⟨0,rfl,Nat.zero_le _,_,_,HB.out⟩
 case round =>
  clear HB
  obtain ⟨j,rfl,hj,X⟩:=hrel
  by_cases hjc:j < c
  ·have hji:(j:Int) < (c:Int):=by omega
   have hjr:j < p.rs.length:=by have:=NN.out;omega
   obtain ⟨vs',vh',hS⟩:=X.out
   obtain ⟨_,_,e0,hA⟩:=PC.out.2.2.2.1
   obtain ⟨b',o',u,ea,k1,k2,k3⟩:=hA j hjr
   injection e0 with e01 e02 e03
   subst e01
   clear e02 e03
   injection ea with ea
   injection ea with ea1 ea2
   subst ea1 ea2
   have hrm:=HH.out.2.1 _ (List.getElem_mem hjr)
   rw [<- getElem!_pos p.rs j hjr] at hrm
   have etk:p.rs.take (j + 1)=p.rs.take j ++ [p.rs[j]!]:=by rw [List.take_succ_eq_append_getElem hjr,getElem!_pos p.rs j hjr]
   have ETK:Hid (p.rs.take (j + 1)=p.rs.take j ++ [p.rs[j]!]):=etk
   clear etk
   have DE:distE q p.rs[j]!.2=0/\distV q p.rs[j]!.2=dst q p.rs[j]!.2:=by
    have e:distE q p.rs[j]!.2=0:=by unfold distE;rw [if_pos HH.out.2.2.1];exact hrm
    exact ⟨e,by unfold distV;rw [if_pos e]⟩
   have k1:=gb_keeps hS.gb k1
   have k2:=gb_keeps hS.gb k2
   obtain ⟨rr,hrr⟩:∃ rr,rr=p.rs[j]! := ⟨_,rfl⟩
   rw [<- hrr] at k1 k3 DE ETK
   obtain ⟨ri,rl⟩:=rr
   dsimp only at k1 k3 DE
   have k3':=k3
   obtain ⟨ra,rc,eu,_⟩:=k3
   subst eu
   have CD0:∀ W',Gb wr W'->Calls Tryz.prog 107 #[.slice qa q.length qc,.slice ra rl.length rc] W' fun e w'=>e=.returned (.tuple #[.agg #[.int .u64 (hi (dst q rl)),.int .u64 (lo (dst q rl))],.int .i64 0])/\Gb W' w':=fun W' g=>by
    have g0:=gb_trans hS.gb g
    have:=dist_c (hS.q.gb g0) (k3'.gb g0)
    rw [DE.1,DE.2] at this
    exact this.mono fun e w' hh=>⟨hh.1,hh.2.gb⟩
   obtain ⟨dh,hdh⟩:∃ dh,dh=hi (dst q rl):=⟨_,rfl⟩
   obtain ⟨dl,hdl⟩:∃ dl,dl=lo (dst q rl):=⟨_,rfl⟩
   rw [<- hdh,<- hdl] at CD0
   generalize hrn:rl.length=rn at *
   generalize hnq:q.length=nq at *
   have gR:Gb wr (wr.alloc (.cells #[.int .i64 ri,.slice ra rn rc] 39)):=gb_alloc (Below.refl _ _) _
   have CD:Hid (∀ W',Gb (wr.alloc (.cells #[.int .i64 ri,.slice ra rn rc] 39)).drew W'->Calls Tryz.prog 107 #[.slice qa nq qc,.slice ra rn rc] W' fun e w'=>e=.returned (.tuple #[.agg #[.int .u64 dh,.int .u64 dl],.int .i64 0])/\Gb W' w'):=fun W' g=>CD0 W' (gb_trans gR.drew g)
   have FS8:(fun W=>W.cell? ⟨sb,0,none⟩=some (.slice qa nq qc)/\W.cell? ⟨wr.heap.size,1,none⟩=some (.slice ra rn rc)) (wr.alloc (.cells #[.int .i64 ri,.slice ra rn rc] 39)).drew:=⟨gb_keeps gR.drew hS.cells.1,by simp [go_sem]⟩
   have keep8:∀ w',Gb (wr.alloc (.cells #[.int .i64 ri,.slice ra rn rc] 39)).drew w'->(fun W=>W.cell? ⟨sb,0,none⟩=some (.slice qa nq qc)/\W.cell? ⟨wr.heap.size,1,none⟩=some (.slice ra rn rc)) w':=fun w' g=>⟨gb_keeps g FS8.1,gb_keeps g FS8.2⟩
   have K8A:Hid (∀ w1,Gb (wr.alloc (.cells #[.int .i64 ri,.slice ra rn rc] 39)).drew w1->(fun W=>W.cell? ⟨sb,0,none⟩=some (.slice qa nq qc)/\W.cell? ⟨wr.heap.size,1,none⟩=some (.slice ra rn rc)) (w1.alloc (.cells #[.int .u64 dh,.int .u64 dl] 58))):=fun w1 g=>keep8 _ (gb_alloc g _)
   have K8B:Hid (∀ w1,Gb ((wr.alloc (.cells #[.int .i64 ri,.slice ra rn rc] 39)).drew.alloc (.cells #[.int .u64 0,.int .u64 0] 58)) w1->(fun W=>W.cell? ⟨sb,0,none⟩=some (.slice qa nq qc)/\W.cell? ⟨wr.heap.size,1,none⟩=some (.slice ra rn rc)) ((w1.setCell ⟨wr.heap.size + 1,0,none⟩ (.int .u64 dh)).setCell ⟨wr.heap.size + 1,1,none⟩ (.int .u64 dl))):=fun w1 g=>keep8 _ (gb_set (gb_set (gb_trans (gb_alloc (Below.refl _ _) _) g) (by simp [World.size_alloc]) _) (by simp [World.size_alloc]) _)
   have HZ:∀ w1,Gb ((wr.alloc (.cells #[.int .i64 ri,.slice ra rn rc] 39)).drew.alloc (.cells #[.int .u64 0,.int .u64 0] 58)) w1->w1.heap[wr.heap.size + 1]? = some (.cells #[.int .u64 0,.int .u64 0] 58 (0,0)):=fun w1 g=>by
    rw [g.block (wr.heap.size + 1) (by simp [World.size_alloc])]
    have:=heap_new (wr.alloc (.cells #[.int .i64 ri,.slice ra rn rc] 39)).drew (.cells #[.int .u64 0,.int .u64 0] 58)
    simpa [World.size_alloc] using this
   have Z8:Hid (∀ w1,Gb ((wr.alloc (.cells #[.int .i64 ri,.slice ra rn rc] 39)).drew.alloc (.cells #[.int .u64 0,.int .u64 0] 58)) w1->(∃ y,w1.cell? ⟨wr.heap.size + 1,0,none⟩=some y)/\(∃ y,w1.cell? ⟨wr.heap.size + 1,1,none⟩=some y)/\w1.frozen? ⟨wr.heap.size + 1,0,none⟩=false/\w1.frozen? ⟨wr.heap.size + 1,1,none⟩=false):=fun w1 g=>by
    have hb:=HZ w1 g
    exact ⟨⟨_,cell_cur hb rfl⟩,⟨_,cell_cur hb rfl⟩,by simp [World.frozen?,hb],by simp [World.frozen?,hb]⟩
   have PX:∀ wb wx,Gb (wr.alloc (.cells #[.int .i64 ri,.slice ra rn rc] 39)) wx->wx.cell? ⟨wb,0,none⟩=some (.int .u64 dh)->wx.cell? ⟨wb,1,none⟩=some (.int .u64 dl)->Ty wx wb 58 ->
     ((fun W=>W.cell? ⟨sb,1,none⟩=some (.pointer (some ⟨hb,0,none⟩))/\W.cell? ⟨wr.heap.size,0,none⟩=some (.int .i64 ri)/\W.cell? ⟨wb,0,none⟩=some (.int .u64 dh)/\W.cell? ⟨wb,1,none⟩=some (.int .u64 dl)) wx.drew)/\(Calls Tryz.prog 108 #[.pointer (some ⟨hb,0,none⟩),.agg #[.int .i64 ri,.int .u64 dh,.int .u64 dl]] wx.drew fun e w'=>(∃ b,e=.returned (.bool b))/\Hid (∃ v',Tk.Has w' hb k v' (Tk.keep k (Tk.firsts k (hitsOf q (seen ++ p.rs.take j))) (hitOf q (ri,rl)))/\Tk.Kp (fun b=>b=hb ∨ some b=vh'.ownBlock) wx.drew w'/\(v'.ownBlock=vh'.ownBlock ∨ ∀ g,v'.ownBlock=some g->wx.drew.heap.size<=g))) /\
     Hid (∀ w2,Hid (∃ v',Tk.Has w2 hb k v' (Tk.keep k (Tk.firsts k (hitsOf q (seen ++ p.rs.take j))) (hitOf q (ri,rl)))/\Tk.Kp (fun b=>b=hb ∨ some b=vh'.ownBlock) wx.drew w2/\(v'.ownBlock=vh'.ownBlock ∨ ∀ g,v'.ownBlock=some g->wx.drew.heap.size<=g)) ->
      ((fun W=>W.cell? ⟨sb,1,none⟩=some (.pointer (some ⟨hb,0,none⟩))/\W.cell? ⟨wr.heap.size,0,none⟩=some (.int .i64 ri)/\W.cell? ⟨wb,0,none⟩=some (.int .u64 dh)/\W.cell? ⟨wb,1,none⟩=some (.int .u64 dl)) w2)/\w2.drew.cell? ⟨sb,3,none⟩=some vs'/\((fun W=>W.cell? ⟨wr.heap.size,0,none⟩=some (.int .i64 ri)) w2.drew)/\(w2.alloc (.cells #[.int .i64 ri] 3)).drew.cell? ⟨sb,3,none⟩=some vs'/\∃ ns sa sc vb' nv' cv' W3,vs'=.slice sa ns sc/\(Builtin.append_ #[37,37] 37 #[.slice sa ns sc,.slice (some ⟨w2.heap.size,0,none⟩) 1 1]).run Tryz.prog (w2.drew.alloc (.cells #[.int .i64 ri] 3))=.ok (.slice (some ⟨vb',0,none⟩) nv' cv') W3 /\
       Hid (((w2.drew.alloc (.cells #[.int .i64 ri] 3)).cell? ⟨wr.heap.size,0,none⟩=some (.int .i64 ri)->W3.cell? ⟨wr.heap.size,0,none⟩=some (.int .i64 ri))/\(W3.cell? ⟨wr.heap.size,0,none⟩=some (.int .i64 ri)->(W3.setCell ⟨sb,3,none⟩ (.slice (some ⟨vb',0,none⟩) nv' cv')).cell? ⟨wr.heap.size,0,none⟩=some (.int .i64 ri))) /\
       (∃ y,W3.cell? ⟨sb,3,none⟩=some y)/\W3.frozen? ⟨sb,3,none⟩=false/\Hid (∃ vs2 vh2,SAt w0 (W3.setCell ⟨sb,3,none⟩ (.slice (some ⟨vb',0,none⟩) nv' cv')) T N sb hb k (.slice qa nq qc) q (bud - c) (seen ++ p.rs.take (j + 1)) O M vs2 vm vo vh2)):=by
    intro wb wx gx a0 a1 tw
    have gX:Gb wr wx.drew:=(gb_trans gR gx).drew
    have hX:=hS.grow gX
    have tR:Ty wx.drew wr.heap.size 39:=by
     have:Ty (wr.alloc (.cells #[.int .i64 ri,.slice ra rn rc] 39)) wr.heap.size 39:=⟨_,_,heap_new _ _⟩
     exact this.gb gx.drew
    have hFew:(seen ++ p.rs.take j).length + 1<=512:=by
     have:=HH.out.2.2.2.2.2.2.1
     rw [List.length_append,List.length_take]
     omega
    refine ⟨⟨hX.cells.2.1,gb_keeps gx.drew (by simp [go_sem]),a0,a1⟩,?_,?_⟩
    ·have:=offer_has' hX.has (hitOf q (ri,rl))
     rw [show Tk.hv (hitOf q (ri,rl))=.agg #[.int .i64 ri,.int .u64 dh,.int .u64 dl] by rw [hdh,hdl]] at this
     exact this
    ·rintro w2 ⟨v1,hh1,kp1,hv1⟩
     have nS:∀ {b:Nat} {t:TypeId},Ty wx.drew b t->t ≠ 113->t ≠ 60->¬ (b=hb ∨ some b=vh'.ownBlock):=fun ht h1 h2 e=>by
      rcases e with e | e
      ·exact ht.ne hX.thb h1 e
      ·exact ht.ne (hX.tvh e.symm) h2 rfl
     have kR:∀ {i:Nat} {y:Value},wx.drew.cell? ⟨wr.heap.size,i,none⟩=some y->w2.cell? ⟨wr.heap.size,i,none⟩=some y:=fun hc=>kp1.cell hc (nS tR (by decide) (by decide))
     have kW:∀ {i:Nat} {y:Value},wx.drew.cell? ⟨wb,i,none⟩=some y->w2.cell? ⟨wb,i,none⟩=some y:=fun hc=>kp1.cell hc (nS (tw.gb (Below.refl _ _).drew) (by decide) (by decide))
     have kS:∀ {i:Nat} {y:Value},wx.drew.cell? ⟨sb,i,none⟩=some y->w2.cell? ⟨sb,i,none⟩=some y:=fun hc=>kp1.cell hc (nS hX.tsb (by decide) (by decide))
     have r0:wx.drew.cell? ⟨wr.heap.size,0,none⟩=some (.int .i64 ri):=gb_keeps gx.drew (by simp [go_sem])
     have gI:Gb w2 (w2.drew.alloc (.cells #[.int .i64 ri] 3)):=gb_alloc (Below.refl _ _).drew _
     obtain ⟨i0,hi0,hz0,hz1,hz2⟩:=info_insI
     have sn2:Own (w2.drew.alloc (.cells #[.int .i64 ri] 3)) w0.heap.size vs' (idsOf (seen ++ p.rs.take j)):=own_kpI (own_kpI hX.sn kp1 (fun g e=>nS (hX.tvs e) (by decide) (by decide))) (kpF gI) (fun _ _ h=>h)
     have hil:(idsOf (seen ++ p.rs.take j)).length=(seen ++ p.rs.take j).length:=by unfold idsOf;rw [List.length_map]
     obtain ⟨sa,sc,es,_⟩:=sn2.rd
     have snr:=sn2
     unfold Own at snr
     rw [hil] at es snr
     obtain ⟨v',W3,hrun,hown,hgrow,hnn,hloc⟩:=run_append_own_at (P:=Tryz.prog) (w2.drew.alloc (.cells #[.int .i64 ri] 3)) w0.heap.size 37 37 3 i0 (.int .i64 0) 1 8 Tryz.underlying37 hi0 hz0 hz1 hz2 rfl (by decide)
      vs' (seen ++ p.rs.take j).length ((idsOf (seen ++ p.rs.take j)).map (Value.int .i64)) snr ⟨w2.heap.size,0,none⟩ 1 1 [.int .i64 ri] rfl (one_new _ _ _) (by simp [Value.oneCell']) (by simp only [maxLen];omega) (by omega) (by have:=sn2.lt;have:=hX.gb.size;have:=kp1.size;have:=gI.size;omega)
     obtain ⟨vb',nv',cv',ev'⟩:∃ vb' nv' cv',v'=.slice (some ⟨vb',0,none⟩) nv' cv':=by
      rcases hown.2 with ⟨e,_⟩ | ⟨g9,cap9,cur9,e,_⟩
      ·exact absurd (hnn.1 e).2 (by decide)
      ·exact ⟨g9,_,cap9,e⟩
     subst ev'
     obtain ⟨hF,blkF⟩:=hS.see (r:=(ri,rl)) gX hh1 kp1 hv1 gI hown hgrow hloc hFew
     rw [List.append_assoc,<- ETK.out] at hF
     have tR2:Ty (w2.drew.alloc (.cells #[.int .i64 ri] 3)) wr.heap.size 39:=by
      obtain ⟨cc,ss,e⟩:=tR
      have:Ty w2 wr.heap.size 39:=⟨cc,ss,by rw [kp1.block _ (Array.getElem?_eq_some_iff.1 e).1 (nS ⟨cc,ss,e⟩ (by decide) (by decide))];exact e⟩
      exact this.gb gI
     have tS2:Ty (w2.drew.alloc (.cells #[.int .i64 ri] 3)) sb 85:=by
      obtain ⟨cc,ss,e⟩:=hX.tsb
      have:Ty w2 sb 85:=⟨cc,ss,by rw [kp1.block _ (Array.getElem?_eq_some_iff.1 e).1 (nS ⟨cc,ss,e⟩ (by decide) (by decide))];exact e⟩
      exact this.gb gI
     refine ⟨⟨kS hX.cells.2.1,kR r0,kW a0,kW a1⟩,kS hX.cells.2.2.2.1,kR r0,gb_keeps gI (kS hX.cells.2.2.2.1),(seen ++ p.rs.take j).length,sa,sc,vb',nv',cv',W3,es,by rw [<- es];exact hrun,⟨fun hc=>grown_cellC hgrow hc (fun e=>tR2.ne (own_ty sn2 e) (by decide) rfl),fun hc=>((Tk.Kp.refl (fun b=>b=sb) W3).setCell (.inl rfl) (.slice (some ⟨vb',0,none⟩) nv' cv')).cell hc (tR2.ne tS2 (by decide))⟩,⟨_,cell_cur blkF rfl⟩,by simp [World.frozen?,blkF],_,_,hF⟩
   have PA:Hid (∀ w1,Gb (wr.alloc (.cells #[.int .i64 ri,.slice ra rn rc] 39)).drew w1->_):=fun w1 g=>PX w1.heap.size (w1.alloc (.cells #[.int .u64 dh,.int .u64 dl] 58)) (gb_alloc (gb_trans (Below.refl _ _).drew g) _) (by simp [go_sem]) (by simp [go_sem]) ⟨_,_,heap_new _ _⟩
   have PB:Hid (∀ w1,Gb ((wr.alloc (.cells #[.int .i64 ri,.slice ra rn rc] 39)).drew.alloc (.cells #[.int .u64 0,.int .u64 0] 58)) w1->_):=fun w1 g=>PX (wr.heap.size + 1) ((w1.setCell ⟨wr.heap.size + 1,0,none⟩ (.int .u64 dh)).setCell ⟨wr.heap.size + 1,1,none⟩ (.int .u64 dl)) (gb_set (gb_set (gb_trans (gb_alloc (Below.refl _ _).drew _) g) (by simp [World.size_alloc]) _) (by simp [World.size_alloc]) _) (by simp [World.cell?,World.setCell,Array.getElem?_modify,HZ w1 g]) (by simp [World.cell?,World.setCell,Array.getElem?_modify,HZ w1 g]) ⟨#[.int .u64 dh,.int .u64 dl],(0,0),by simp [World.setCell,Array.getElem?_modify,HZ w1 g]⟩
   clear PX HZ keep8 gR CD0 hS k3' DE hrm X hrr hdh hdl hA ETK hrn hjr
   go_wp2_with fail
   refine wp_region_held_drew (S:=fun W=>W.cell? ⟨sb,0,none⟩=some (.slice qa nq qc)/\W.cell? ⟨wr.heap.size,1,none⟩=some (.slice ra rn rc)) (by kernel_rfl) (FS8) (fun hHeld=>?_)
   refine tkn 0 ?_ rfl ?_ ?_;rotate_left;·(rintro w ⟨s0,s1⟩;go_simp;try rfl)
   try simp only [Act.put,List.getElem_toArray,List.getElem_cons_zero,List.setIfInBounds_toArray,List.set_cons_zero,List.set_cons_succ]
   refine tkn 1 ?_ rfl ?_ ?_;rotate_left;·(rintro w ⟨s0,s1⟩;go_simp;try rfl)
   try simp only [Act.put,List.getElem_toArray,List.getElem_cons_zero,List.getElem_cons_succ,List.setIfInBounds_toArray,List.set_cons_zero,List.set_cons_succ]
   refine tkn 2 ?_ rfl ?_ ?_;rotate_left;·(rintro w ⟨s0,s1⟩;go_simp;try rfl)
   try simp only [Act.put,List.getElem_toArray,List.getElem_cons_zero,List.getElem_cons_succ,List.setIfInBounds_toArray,List.set_cons_zero,List.set_cons_succ]
   refine tkn 3 ?_ rfl ?_ ?_;rotate_left;·(rintro w ⟨s0,s1⟩;go_simp;try rfl)
   try simp only [Act.put,List.getElem_toArray,List.getElem_cons_zero,List.getElem_cons_succ,List.setIfInBounds_toArray,List.set_cons_zero,List.set_cons_succ]
   refine tkn 4 ?_ rfl ?_ ?_;rotate_left;·(rintro w ⟨s0,s1⟩;go_simp;try rfl)
   try simp only [Act.put,List.getElem_toArray,List.getElem_cons_zero,List.getElem_cons_succ,List.setIfInBounds_toArray,List.set_cons_zero,List.set_cons_succ]
   refine tkn 5 ?_ rfl ?_ ?_;rotate_left;·(rintro w ⟨s0,s1⟩;go_simp;try rfl)
   try simp only [Act.put,List.getElem_toArray,List.getElem_cons_zero,List.getElem_cons_succ,List.setIfInBounds_toArray,List.set_cons_zero,List.set_cons_succ]
   refine wpAnyH_ready (rs:=[6,10]) (by kernel_rfl) (by simp) ?_
   refine AllReadyH.cons rfl (fun K hK=>?_) (AllReadyH.cons rfl (fun K hK=>?_) AllReadyH.nil)
   ·go_simp
    go_fit (CD.out _ (Below.refl _ _))
    rintro e w1 ⟨rfl,g1⟩
    refine hK.out _ _ (⟨gb_keeps (g1) hHeld.1,gb_keeps (g1) hHeld.2⟩) (fun hHeld=>?_)
    clear hK K
    try simp only [Act.put,List.getElem_toArray,List.getElem_cons_zero,List.getElem_cons_succ,List.setIfInBounds_toArray,List.set_cons_zero,List.set_cons_succ]
    refine tkn 7 ?_ rfl ?_ ?_;rotate_left;·(rintro w ⟨s0,s1⟩;go_simp;try rfl)
    try simp only [Act.put,List.getElem_toArray,List.getElem_cons_zero,List.getElem_cons_succ,List.setIfInBounds_toArray,List.set_cons_zero,List.set_cons_succ]
    refine tkn 8 ?_ rfl ?_ ?_;rotate_left;·(rintro w ⟨s0,s1⟩;go_simp;try rfl)
    try simp only [Act.put,List.getElem_toArray,List.getElem_cons_zero,List.getElem_cons_succ,List.setIfInBounds_toArray,List.set_cons_zero,List.set_cons_succ]
    refine tkn 9 ?_ rfl ?_ ?_;rotate_left;·(rintro w ⟨s0,s1⟩;go_simp;try rfl)
    try simp only [Act.put,List.getElem_toArray,List.getElem_cons_zero,List.getElem_cons_succ,List.setIfInBounds_toArray,List.set_cons_zero,List.set_cons_succ]
    refine rdn 10 rfl (fun K hK=>?_)
    go_simp
    refine hK.out _ _ (⟨gb_keeps (gb_alloc (Below.refl _ _) _) hHeld.1,gb_keeps (gb_alloc (Below.refl _ _) _) hHeld.2⟩) (fun hHeld=>?_)
    clear hK K
    try simp only [Act.put,List.getElem_toArray,List.getElem_cons_zero,List.getElem_cons_succ,List.setIfInBounds_toArray,List.set_cons_zero,List.set_cons_succ]
    refine rdn 11 rfl (fun K hK=>?_)
    go_simp
    refine hK.out _ _ (K8A.out _ g1) (fun hHeld=>?_)
    clear hK K
    try simp only [Act.put,List.getElem_toArray,List.getElem_cons_zero,List.getElem_cons_succ,List.setIfInBounds_toArray,List.set_cons_zero,List.set_cons_succ]
    refine tkn 12 ?_ rfl ?_ ?_;rotate_left;·(rintro w ⟨s0,s1⟩;go_simp;try rfl)
    try simp only [Act.put,List.getElem_toArray,List.getElem_cons_zero,List.getElem_cons_succ,List.setIfInBounds_toArray,List.set_cons_zero,List.set_cons_succ]
    refine wpAnyH_done (by kernel_rfl) ?_ _
    have PF:=PA.out _ g1
    clear hHeld g1 CD K8A K8B Z8 PA PB FS8
    obtain ⟨FS9,cO,NX⟩:=PF
    go_wp2_with fail
    refine wp_region_held_drew (S:=fun W=>W.cell? ⟨sb,1,none⟩=some (.pointer (some ⟨hb,0,none⟩))/\W.cell? ⟨wr.heap.size,0,none⟩=some (.int .i64 ri)/\W.cell? ⟨w1.heap.size,0,none⟩=some (.int .u64 dh)/\W.cell? ⟨w1.heap.size,1,none⟩=some (.int .u64 dl)) (by kernel_rfl) (FS9) (fun hHeld=>?_)
    refine tkn 0 ?_ rfl ?_ ?_;rotate_left;·(rintro w ⟨s0,s1,s2,s3⟩;go_simp;try rfl)
    try simp only [Act.put,List.getElem_toArray,List.getElem_cons_zero,List.setIfInBounds_toArray,List.set_cons_zero,List.set_cons_succ]
    refine tkn 1 ?_ rfl ?_ ?_;rotate_left;·(rintro w ⟨s0,s1,s2,s3⟩;go_simp;try rfl)
    try simp only [Act.put,List.getElem_toArray,List.getElem_cons_zero,List.getElem_cons_succ,List.setIfInBounds_toArray,List.set_cons_zero,List.set_cons_succ]
    refine tkn 2 ?_ rfl ?_ ?_;rotate_left;·(rintro w ⟨s0,s1,s2,s3⟩;go_simp;try rfl)
    try simp only [Act.put,List.getElem_toArray,List.getElem_cons_zero,List.getElem_cons_succ,List.setIfInBounds_toArray,List.set_cons_zero,List.set_cons_succ]
    refine tkn 3 ?_ rfl ?_ ?_;rotate_left;·(rintro w ⟨s0,s1,s2,s3⟩;go_simp;try rfl)
    try simp only [Act.put,List.getElem_toArray,List.getElem_cons_zero,List.getElem_cons_succ,List.setIfInBounds_toArray,List.set_cons_zero,List.set_cons_succ]
    refine tkn 4 ?_ rfl ?_ ?_;rotate_left;·(rintro w ⟨s0,s1,s2,s3⟩;go_simp;try rfl)
    try simp only [Act.put,List.getElem_toArray,List.getElem_cons_zero,List.getElem_cons_succ,List.setIfInBounds_toArray,List.set_cons_zero,List.set_cons_succ]
    refine tkn 5 ?_ rfl ?_ ?_;rotate_left;·(rintro w ⟨s0,s1,s2,s3⟩;go_simp;try rfl)
    try simp only [Act.put,List.getElem_toArray,List.getElem_cons_zero,List.getElem_cons_succ,List.setIfInBounds_toArray,List.set_cons_zero,List.set_cons_succ]
    refine tkn 6 ?_ rfl ?_ ?_;rotate_left;·(rintro w ⟨s0,s1,s2,s3⟩;go_simp;try rfl)
    try simp only [Act.put,List.getElem_toArray,List.getElem_cons_zero,List.getElem_cons_succ,List.setIfInBounds_toArray,List.set_cons_zero,List.set_cons_succ]
    refine tkn 7 ?_ rfl ?_ ?_;rotate_left;·(rintro w ⟨s0,s1,s2,s3⟩;go_simp;try rfl)
    try simp only [Act.put,List.getElem_toArray,List.getElem_cons_zero,List.getElem_cons_succ,List.setIfInBounds_toArray,List.set_cons_zero,List.set_cons_succ]
    refine rdn 8 rfl (fun K hK=>?_)
    go_simp
    go_fit cO
    rintro e w2 ⟨⟨bb,rfl⟩,hOf⟩
    obtain ⟨K9,l3,FS10,l3a,ns,sa,sc,vb',nv',cv',W3,rfl,hrun,K10,⟨y3,k3⟩,f3,FIN⟩:=NX.out _ hOf
    clear hOf cO NX
    refine hK.out _ _ (K9) (fun hHeld=>?_)
    clear hK K
    try simp only [Act.put,List.getElem_toArray,List.getElem_cons_zero,List.getElem_cons_succ,List.setIfInBounds_toArray,List.set_cons_zero,List.set_cons_succ]
    refine wpAnyH_done (by kernel_rfl) ?_ _
    clear hHeld K9 FS9
    go_wp2_with fail
    refine wp_region_held_drew (S:=fun W=>W.cell? ⟨wr.heap.size,0,none⟩=some (.int .i64 ri)) (by kernel_rfl) (FS10) (fun hHeld=>?_)
    refine tkn 0 ?_ rfl ?_ ?_;rotate_left;·(intro w hSw;(have s0:=hSw);go_simp;try rfl)
    try simp only [Act.put,List.getElem_toArray,List.getElem_cons_zero,List.setIfInBounds_toArray,List.set_cons_zero,List.set_cons_succ]
    refine tkn 1 ?_ rfl ?_ ?_;rotate_left;·(intro w hSw;(have s0:=hSw);go_simp;try rfl)
    try simp only [Act.put,List.getElem_toArray,List.getElem_cons_zero,List.getElem_cons_succ,List.setIfInBounds_toArray,List.set_cons_zero,List.set_cons_succ]
    refine tkn 2 ?_ rfl ?_ ?_;rotate_left;·(intro w hSw;(have s0:=hSw);go_simp;try rfl)
    try simp only [Act.put,List.getElem_toArray,List.getElem_cons_zero,List.getElem_cons_succ,List.setIfInBounds_toArray,List.set_cons_zero,List.set_cons_succ]
    refine tkn 3 ?_ rfl ?_ ?_;rotate_left;·(intro w hSw;(have s0:=hSw);go_simp;try rfl)
    try simp only [Act.put,List.getElem_toArray,List.getElem_cons_zero,List.getElem_cons_succ,List.setIfInBounds_toArray,List.set_cons_zero,List.set_cons_succ]
    refine tkn 5 ?_ rfl ?_ ?_;rotate_left;·(intro w hSw;(have s0:=hSw);go_simp;try rfl)
    try simp only [Act.put,List.getElem_toArray,List.getElem_cons_zero,List.getElem_cons_succ,List.setIfInBounds_toArray,List.set_cons_zero,List.set_cons_succ]
    refine tkn 6 ?_ rfl ?_ ?_;rotate_left;·(intro w hSw;(have s0:=hSw);go_simp;try rfl)
    try simp only [Act.put,List.getElem_toArray,List.getElem_cons_zero,List.getElem_cons_succ,List.setIfInBounds_toArray,List.set_cons_zero,List.set_cons_succ]
    refine wpAnyH_ready (rs:=[4,7]) (by kernel_rfl) (by simp) ?_
    refine AllReadyH.cons rfl (fun K hK=>?_) (AllReadyH.cons rfl (fun K hK=>?_) AllReadyH.nil)
    ·go_simp
     refine hK.out _ _ (hHeld) (fun hHeld=>?_)
     clear hK K
     try simp only [Act.put,List.getElem_toArray,List.getElem_cons_zero,List.getElem_cons_succ,List.setIfInBounds_toArray,List.set_cons_zero,List.set_cons_succ]
     refine rdn 7 rfl (fun K hK=>?_)
     go_simp
     refine hK.out _ _ (gb_keeps (gb_alloc (Below.refl _ _) _) hHeld) (fun hHeld=>?_)
     clear hK K
     try simp only [Act.put,List.getElem_toArray,List.getElem_cons_zero,List.getElem_cons_succ,List.setIfInBounds_toArray,List.set_cons_zero,List.set_cons_succ]
     refine rdn 8 rfl (fun K hK=>?_)
     refine app_run (by rfl) _ _ _ (by rfl) ⟨.slice sa ns sc,.slice (some ⟨w2.heap.size,0,none⟩) 1 1,_,_,(by go_simp),(by go_simp),hrun,?_⟩
     refine hK.out _ _ (K10.out.1 hHeld) (fun hHeld=>?_)
     clear hK K
     try simp only [Act.put,List.getElem_toArray,List.getElem_cons_zero,List.getElem_cons_succ,List.setIfInBounds_toArray,List.set_cons_zero,List.set_cons_succ]
     refine tkn 9 ?_ rfl ?_ ?_;rotate_left;·(intro w hSw;(have s0:=hSw);go_simp;try rfl)
     try simp only [Act.put,List.getElem_toArray,List.getElem_cons_zero,List.getElem_cons_succ,List.setIfInBounds_toArray,List.set_cons_zero,List.set_cons_succ]
     refine tkn 10 ?_ rfl ?_ ?_;rotate_left;·(intro w hSw;(have s0:=hSw);go_simp;try rfl)
     try simp only [Act.put,List.getElem_toArray,List.getElem_cons_zero,List.getElem_cons_succ,List.setIfInBounds_toArray,List.set_cons_zero,List.set_cons_succ]
     refine rdn 11 rfl (fun K hK=>?_)
     go_simp
     refine hK.out _ _ (K10.out.2 hHeld) (fun hHeld=>?_)
     clear hK K
     try simp only [Act.put,List.getElem_toArray,List.getElem_cons_zero,List.getElem_cons_succ,List.setIfInBounds_toArray,List.set_cons_zero,List.set_cons_succ]
     refine wpAnyH_done (by kernel_rfl) ?_ _
     clear hHeld hrun K10 FS10 l3 l3a
     go_wp2
     go_roundw
     case rel=>exact ⟨j + 1,by first | rfl | go_num | simp,hjc,FIN.out⟩
     case measure=>simp [intOf];omega
    ·go_simp
     refine hK.out _ _ (gb_keeps (gb_alloc (Below.refl _ _) _) hHeld) (fun hHeld=>?_)
     clear hK K
     try simp only [Act.put,List.getElem_toArray,List.getElem_cons_zero,List.getElem_cons_succ,List.setIfInBounds_toArray,List.set_cons_zero,List.set_cons_succ]
     refine rdn 4 rfl (fun K hK=>?_)
     go_simp
     refine hK.out _ _ (hHeld) (fun hHeld=>?_)
     clear hK K
     try simp only [Act.put,List.getElem_toArray,List.getElem_cons_zero,List.getElem_cons_succ,List.setIfInBounds_toArray,List.set_cons_zero,List.set_cons_succ]
     refine rdn 8 rfl (fun K hK=>?_)
     refine app_run (by rfl) _ _ _ (by rfl) ⟨.slice sa ns sc,.slice (some ⟨w2.heap.size,0,none⟩) 1 1,_,_,(by go_simp),(by go_simp),hrun,?_⟩
     refine hK.out _ _ (K10.out.1 hHeld) (fun hHeld=>?_)
     clear hK K
     try simp only [Act.put,List.getElem_toArray,List.getElem_cons_zero,List.getElem_cons_succ,List.setIfInBounds_toArray,List.set_cons_zero,List.set_cons_succ]
     refine tkn 9 ?_ rfl ?_ ?_;rotate_left;·(intro w hSw;(have s0:=hSw);go_simp;try rfl)
     try simp only [Act.put,List.getElem_toArray,List.getElem_cons_zero,List.getElem_cons_succ,List.setIfInBounds_toArray,List.set_cons_zero,List.set_cons_succ]
     refine tkn 10 ?_ rfl ?_ ?_;rotate_left;·(intro w hSw;(have s0:=hSw);go_simp;try rfl)
     try simp only [Act.put,List.getElem_toArray,List.getElem_cons_zero,List.getElem_cons_succ,List.setIfInBounds_toArray,List.set_cons_zero,List.set_cons_succ]
     refine rdn 11 rfl (fun K hK=>?_)
     go_simp
     refine hK.out _ _ (K10.out.2 hHeld) (fun hHeld=>?_)
     clear hK K
     try simp only [Act.put,List.getElem_toArray,List.getElem_cons_zero,List.getElem_cons_succ,List.setIfInBounds_toArray,List.set_cons_zero,List.set_cons_succ]
     refine wpAnyH_done (by kernel_rfl) ?_ _
     clear hHeld hrun K10 FS10 l3 l3a
     go_wp2
     go_roundw
     case rel=>exact ⟨j + 1,by first | rfl | go_num | simp,hjc,FIN.out⟩
     case measure=>simp [intOf];omega
   ·go_simp
    refine hK.out _ _ (⟨gb_keeps (gb_alloc (Below.refl _ _) _) hHeld.1,gb_keeps (gb_alloc (Below.refl _ _) _) hHeld.2⟩) (fun hHeld=>?_)
    clear hK K
    try simp only [Act.put,List.getElem_toArray,List.getElem_cons_zero,List.getElem_cons_succ,List.setIfInBounds_toArray,List.set_cons_zero,List.set_cons_succ]
    refine rdn 6 rfl (fun K hK=>?_)
    go_simp
    go_fit (CD.out _ (gb_alloc (Below.refl _ _) _))
    rintro e w1 ⟨rfl,g1⟩
    obtain ⟨⟨y0,z0⟩,⟨y1,z1⟩,f0,f1⟩:=Z8.out _ g1
    refine hK.out _ _ (⟨gb_keeps (g1) hHeld.1,gb_keeps (g1) hHeld.2⟩) (fun hHeld=>?_)
    clear hK K
    try simp only [Act.put,List.getElem_toArray,List.getElem_cons_zero,List.getElem_cons_succ,List.setIfInBounds_toArray,List.set_cons_zero,List.set_cons_succ]
    refine tkn 7 ?_ rfl ?_ ?_;rotate_left;·(rintro w ⟨s0,s1⟩;go_simp;try rfl)
    try simp only [Act.put,List.getElem_toArray,List.getElem_cons_zero,List.getElem_cons_succ,List.setIfInBounds_toArray,List.set_cons_zero,List.set_cons_succ]
    refine tkn 8 ?_ rfl ?_ ?_;rotate_left;·(rintro w ⟨s0,s1⟩;go_simp;try rfl)
    try simp only [Act.put,List.getElem_toArray,List.getElem_cons_zero,List.getElem_cons_succ,List.setIfInBounds_toArray,List.set_cons_zero,List.set_cons_succ]
    refine tkn 9 ?_ rfl ?_ ?_;rotate_left;·(rintro w ⟨s0,s1⟩;go_simp;try rfl)
    try simp only [Act.put,List.getElem_toArray,List.getElem_cons_zero,List.getElem_cons_succ,List.setIfInBounds_toArray,List.set_cons_zero,List.set_cons_succ]
    refine rdn 11 rfl (fun K hK=>?_)
    go_simp
    refine hK.out _ _ (K8B.out _ g1) (fun hHeld=>?_)
    clear hK K
    try simp only [Act.put,List.getElem_toArray,List.getElem_cons_zero,List.getElem_cons_succ,List.setIfInBounds_toArray,List.set_cons_zero,List.set_cons_succ]
    refine tkn 12 ?_ rfl ?_ ?_;rotate_left;·(rintro w ⟨s0,s1⟩;go_simp;try rfl)
    try simp only [Act.put,List.getElem_toArray,List.getElem_cons_zero,List.getElem_cons_succ,List.setIfInBounds_toArray,List.set_cons_zero,List.set_cons_succ]
    refine wpAnyH_done (by kernel_rfl) ?_ _
    have PF:=PB.out _ g1
    clear hHeld g1 CD K8A K8B Z8 PA PB FS8 z0 z1 f0 f1
    obtain ⟨FS9,cO,NX⟩:=PF
    go_wp2_with fail
    refine wp_region_held_drew (S:=fun W=>W.cell? ⟨sb,1,none⟩=some (.pointer (some ⟨hb,0,none⟩))/\W.cell? ⟨wr.heap.size,0,none⟩=some (.int .i64 ri)/\W.cell? ⟨(wr.heap.size + 1),0,none⟩=some (.int .u64 dh)/\W.cell? ⟨(wr.heap.size + 1),1,none⟩=some (.int .u64 dl)) (by kernel_rfl) (FS9) (fun hHeld=>?_)
    refine tkn 0 ?_ rfl ?_ ?_;rotate_left;·(rintro w ⟨s0,s1,s2,s3⟩;go_simp;try rfl)
    try simp only [Act.put,List.getElem_toArray,List.getElem_cons_zero,List.setIfInBounds_toArray,List.set_cons_zero,List.set_cons_succ]
    refine tkn 1 ?_ rfl ?_ ?_;rotate_left;·(rintro w ⟨s0,s1,s2,s3⟩;go_simp;try rfl)
    try simp only [Act.put,List.getElem_toArray,List.getElem_cons_zero,List.getElem_cons_succ,List.setIfInBounds_toArray,List.set_cons_zero,List.set_cons_succ]
    refine tkn 2 ?_ rfl ?_ ?_;rotate_left;·(rintro w ⟨s0,s1,s2,s3⟩;go_simp;try rfl)
    try simp only [Act.put,List.getElem_toArray,List.getElem_cons_zero,List.getElem_cons_succ,List.setIfInBounds_toArray,List.set_cons_zero,List.set_cons_succ]
    refine tkn 3 ?_ rfl ?_ ?_;rotate_left;·(rintro w ⟨s0,s1,s2,s3⟩;go_simp;try rfl)
    try simp only [Act.put,List.getElem_toArray,List.getElem_cons_zero,List.getElem_cons_succ,List.setIfInBounds_toArray,List.set_cons_zero,List.set_cons_succ]
    refine tkn 4 ?_ rfl ?_ ?_;rotate_left;·(rintro w ⟨s0,s1,s2,s3⟩;go_simp;try rfl)
    try simp only [Act.put,List.getElem_toArray,List.getElem_cons_zero,List.getElem_cons_succ,List.setIfInBounds_toArray,List.set_cons_zero,List.set_cons_succ]
    refine tkn 5 ?_ rfl ?_ ?_;rotate_left;·(rintro w ⟨s0,s1,s2,s3⟩;go_simp;try rfl)
    try simp only [Act.put,List.getElem_toArray,List.getElem_cons_zero,List.getElem_cons_succ,List.setIfInBounds_toArray,List.set_cons_zero,List.set_cons_succ]
    refine tkn 6 ?_ rfl ?_ ?_;rotate_left;·(rintro w ⟨s0,s1,s2,s3⟩;go_simp;try rfl)
    try simp only [Act.put,List.getElem_toArray,List.getElem_cons_zero,List.getElem_cons_succ,List.setIfInBounds_toArray,List.set_cons_zero,List.set_cons_succ]
    refine tkn 7 ?_ rfl ?_ ?_;rotate_left;·(rintro w ⟨s0,s1,s2,s3⟩;go_simp;try rfl)
    try simp only [Act.put,List.getElem_toArray,List.getElem_cons_zero,List.getElem_cons_succ,List.setIfInBounds_toArray,List.set_cons_zero,List.set_cons_succ]
    refine rdn 8 rfl (fun K hK=>?_)
    go_simp
    go_fit cO
    rintro e w2 ⟨⟨bb,rfl⟩,hOf⟩
    obtain ⟨K9,l3,FS10,l3a,ns,sa,sc,vb',nv',cv',W3,rfl,hrun,K10,⟨y3,k3⟩,f3,FIN⟩:=NX.out _ hOf
    clear hOf cO NX
    refine hK.out _ _ (K9) (fun hHeld=>?_)
    clear hK K
    try simp only [Act.put,List.getElem_toArray,List.getElem_cons_zero,List.getElem_cons_succ,List.setIfInBounds_toArray,List.set_cons_zero,List.set_cons_succ]
    refine wpAnyH_done (by kernel_rfl) ?_ _
    clear hHeld K9 FS9
    go_wp2_with fail
    refine wp_region_held_drew (S:=fun W=>W.cell? ⟨wr.heap.size,0,none⟩=some (.int .i64 ri)) (by kernel_rfl) (FS10) (fun hHeld=>?_)
    refine tkn 0 ?_ rfl ?_ ?_;rotate_left;·(intro w hSw;(have s0:=hSw);go_simp;try rfl)
    try simp only [Act.put,List.getElem_toArray,List.getElem_cons_zero,List.setIfInBounds_toArray,List.set_cons_zero,List.set_cons_succ]
    refine tkn 1 ?_ rfl ?_ ?_;rotate_left;·(intro w hSw;(have s0:=hSw);go_simp;try rfl)
    try simp only [Act.put,List.getElem_toArray,List.getElem_cons_zero,List.getElem_cons_succ,List.setIfInBounds_toArray,List.set_cons_zero,List.set_cons_succ]
    refine tkn 2 ?_ rfl ?_ ?_;rotate_left;·(intro w hSw;(have s0:=hSw);go_simp;try rfl)
    try simp only [Act.put,List.getElem_toArray,List.getElem_cons_zero,List.getElem_cons_succ,List.setIfInBounds_toArray,List.set_cons_zero,List.set_cons_succ]
    refine tkn 3 ?_ rfl ?_ ?_;rotate_left;·(intro w hSw;(have s0:=hSw);go_simp;try rfl)
    try simp only [Act.put,List.getElem_toArray,List.getElem_cons_zero,List.getElem_cons_succ,List.setIfInBounds_toArray,List.set_cons_zero,List.set_cons_succ]
    refine tkn 5 ?_ rfl ?_ ?_;rotate_left;·(intro w hSw;(have s0:=hSw);go_simp;try rfl)
    try simp only [Act.put,List.getElem_toArray,List.getElem_cons_zero,List.getElem_cons_succ,List.setIfInBounds_toArray,List.set_cons_zero,List.set_cons_succ]
    refine tkn 6 ?_ rfl ?_ ?_;rotate_left;·(intro w hSw;(have s0:=hSw);go_simp;try rfl)
    try simp only [Act.put,List.getElem_toArray,List.getElem_cons_zero,List.getElem_cons_succ,List.setIfInBounds_toArray,List.set_cons_zero,List.set_cons_succ]
    refine wpAnyH_ready (rs:=[4,7]) (by kernel_rfl) (by simp) ?_
    refine AllReadyH.cons rfl (fun K hK=>?_) (AllReadyH.cons rfl (fun K hK=>?_) AllReadyH.nil)
    ·go_simp
     refine hK.out _ _ (hHeld) (fun hHeld=>?_)
     clear hK K
     try simp only [Act.put,List.getElem_toArray,List.getElem_cons_zero,List.getElem_cons_succ,List.setIfInBounds_toArray,List.set_cons_zero,List.set_cons_succ]
     refine rdn 7 rfl (fun K hK=>?_)
     go_simp
     refine hK.out _ _ (gb_keeps (gb_alloc (Below.refl _ _) _) hHeld) (fun hHeld=>?_)
     clear hK K
     try simp only [Act.put,List.getElem_toArray,List.getElem_cons_zero,List.getElem_cons_succ,List.setIfInBounds_toArray,List.set_cons_zero,List.set_cons_succ]
     refine rdn 8 rfl (fun K hK=>?_)
     refine app_run (by rfl) _ _ _ (by rfl) ⟨.slice sa ns sc,.slice (some ⟨w2.heap.size,0,none⟩) 1 1,_,_,(by go_simp),(by go_simp),hrun,?_⟩
     refine hK.out _ _ (K10.out.1 hHeld) (fun hHeld=>?_)
     clear hK K
     try simp only [Act.put,List.getElem_toArray,List.getElem_cons_zero,List.getElem_cons_succ,List.setIfInBounds_toArray,List.set_cons_zero,List.set_cons_succ]
     refine tkn 9 ?_ rfl ?_ ?_;rotate_left;·(intro w hSw;(have s0:=hSw);go_simp;try rfl)
     try simp only [Act.put,List.getElem_toArray,List.getElem_cons_zero,List.getElem_cons_succ,List.setIfInBounds_toArray,List.set_cons_zero,List.set_cons_succ]
     refine tkn 10 ?_ rfl ?_ ?_;rotate_left;·(intro w hSw;(have s0:=hSw);go_simp;try rfl)
     try simp only [Act.put,List.getElem_toArray,List.getElem_cons_zero,List.getElem_cons_succ,List.setIfInBounds_toArray,List.set_cons_zero,List.set_cons_succ]
     refine rdn 11 rfl (fun K hK=>?_)
     go_simp
     refine hK.out _ _ (K10.out.2 hHeld) (fun hHeld=>?_)
     clear hK K
     try simp only [Act.put,List.getElem_toArray,List.getElem_cons_zero,List.getElem_cons_succ,List.setIfInBounds_toArray,List.set_cons_zero,List.set_cons_succ]
     refine wpAnyH_done (by kernel_rfl) ?_ _
     clear hHeld hrun K10 FS10 l3 l3a
     go_wp2
     go_roundw
     case rel=>exact ⟨j + 1,by first | rfl | go_num | simp,hjc,FIN.out⟩
     case measure=>simp [intOf];omega
    ·go_simp
     refine hK.out _ _ (gb_keeps (gb_alloc (Below.refl _ _) _) hHeld) (fun hHeld=>?_)
     clear hK K
     try simp only [Act.put,List.getElem_toArray,List.getElem_cons_zero,List.getElem_cons_succ,List.setIfInBounds_toArray,List.set_cons_zero,List.set_cons_succ]
     refine rdn 4 rfl (fun K hK=>?_)
     go_simp
     refine hK.out _ _ (hHeld) (fun hHeld=>?_)
     clear hK K
     try simp only [Act.put,List.getElem_toArray,List.getElem_cons_zero,List.getElem_cons_succ,List.setIfInBounds_toArray,List.set_cons_zero,List.set_cons_succ]
     refine rdn 8 rfl (fun K hK=>?_)
     refine app_run (by rfl) _ _ _ (by rfl) ⟨.slice sa ns sc,.slice (some ⟨w2.heap.size,0,none⟩) 1 1,_,_,(by go_simp),(by go_simp),hrun,?_⟩
     refine hK.out _ _ (K10.out.1 hHeld) (fun hHeld=>?_)
     clear hK K
     try simp only [Act.put,List.getElem_toArray,List.getElem_cons_zero,List.getElem_cons_succ,List.setIfInBounds_toArray,List.set_cons_zero,List.set_cons_succ]
     refine tkn 9 ?_ rfl ?_ ?_;rotate_left;·(intro w hSw;(have s0:=hSw);go_simp;try rfl)
     try simp only [Act.put,List.getElem_toArray,List.getElem_cons_zero,List.getElem_cons_succ,List.setIfInBounds_toArray,List.set_cons_zero,List.set_cons_succ]
     refine tkn 10 ?_ rfl ?_ ?_;rotate_left;·(intro w hSw;(have s0:=hSw);go_simp;try rfl)
     try simp only [Act.put,List.getElem_toArray,List.getElem_cons_zero,List.getElem_cons_succ,List.setIfInBounds_toArray,List.set_cons_zero,List.set_cons_succ]
     refine rdn 11 rfl (fun K hK=>?_)
     go_simp
     refine hK.out _ _ (K10.out.2 hHeld) (fun hHeld=>?_)
     clear hK K
     try simp only [Act.put,List.getElem_toArray,List.getElem_cons_zero,List.getElem_cons_succ,List.setIfInBounds_toArray,List.set_cons_zero,List.set_cons_succ]
     refine wpAnyH_done (by kernel_rfl) ?_ _
     clear hHeld hrun K10 FS10 l3 l3a
     go_wp2
     go_roundw
     case rel=>exact ⟨j + 1,by first | rfl | go_num | simp,hjc,FIN.out⟩
     case measure=>simp [intOf];omega
  ·have hji:¬ (j:Int) < (c:Int):=by omega
   have ejc:j=c:=by omega
   subst ejc
   obtain ⟨vs',vh',hS⟩:=X.out
   have hpm:=hS.prt _ PC.out.2.2.2.2.2
   dsimp only at hpm
   obtain ⟨vl2,vh2,vr2,hblk2,rl2,rh2,hrs2⟩:=hpm
   rw [HH.out.2.2.2.2.2.2.2] at hrs2
   obtain ⟨hrw2,g2,o2,cap2,evr2,hcap2⟩:=hrs2
   subst evr2
   obtain ⟨al,cl,el,_⟩:=rl2
   have rl3:RdI w0 vl2 p.L:=by rw [el];exact ⟨al,cl,rfl,by assumption⟩
   obtain ⟨ah,ch,eh,_⟩:=rh2
   have rh3:RdI w0 vh2 p.H:=by rw [eh];exact ⟨ah,ch,rfl,by assumption⟩
   subst el eh
   rw [<- NN.out] at hblk2 hcap2 hrw2
   have c6:=cell_cur (i:=6) hblk2 rfl
   by_cases hlt:j < n
   ·have hlti:(j:Int) < (n:Int):=by omega
    generalize hnl:p.L.length=nl at *
    generalize hnh:p.H.length=nh at *
    have FS13:(fun W=>W.cell? ⟨pb,0,none⟩=some (.int .i64 2)/\W.cell? ⟨pb,1,none⟩=some (.slice al nl cl)/\W.cell? ⟨pb,2,none⟩=some (.slice ah nh ch)/\W.cell? ⟨pb,3,none⟩=some (.int .u64 0)/\W.cell? ⟨pb,4,none⟩=some (.int .u64 0)/\W.cell? ⟨pb,5,none⟩=some (.slice none 0 0)/\W.cell? ⟨pb,6,none⟩=some (.slice (some ⟨g2,o2,none⟩) n cap2)) wr.drew:=⟨cell_cur hblk2 rfl,cell_cur hblk2 rfl,cell_cur hblk2 rfl,cell_cur hblk2 rfl,cell_cur hblk2 rfl,cell_cur hblk2 rfl,c6⟩
    have gP:Gb wr (wr.drew.alloc (.cells #[.int .i64 2,.slice al nl cl,.slice ah nh ch,.int .u64 0,.int .u64 0,.slice none 0 0,.slice (some ⟨g2,o2 + j * 2,none⟩) (n - j) (cap2 - j),.int .i64 0,.int .i64 0,.int .i64 0,.pointer none,.pointer none] 108)):=gb_alloc (Below.refl _ _).drew _
    have hlt':j < p.rs.length:=by have:=NN.out;omega
    have hmp:MP w0 (wr.drew.alloc (.cells #[.int .i64 2,.slice al nl cl,.slice ah nh ch,.int .u64 0,.int .u64 0,.slice none 0 0,.slice (some ⟨g2,o2 + j * 2,none⟩) (n - j) (cap2 - j),.int .i64 0,.int .i64 0,.int .i64 0,.pointer none,.pointer none] 108)) T N wr.heap.size ⟨p.L,p.H,p.rs.drop j,(0,0,0),none⟩:=by
     refine ⟨_,_,_,heap_new _ _,rl3,rh3,?_,g2,o2 + j * 2,cap2 - j,?_,?_⟩
     ·have:=krdw_drop hrw2 (c:=j) (by omega)
      exact this
     ·dsimp only;rw [List.length_drop,<- NN.out]
     ·dsimp only;rw [List.length_drop,<- NN.out];omega
    have cW:=await_c (hS.grow gP) hmp HH.out.1 HH.out.2.2.2.1 HH.out.2.2.2.2.1 HH.out.2.2.2.2.2.1
    have A13:Hid (∀ w4,(∃ O' vm' vo',SAt w0 w4 T N sb hb k (.slice qa q.length qc) q (bud - j) (seen ++ p.rs.take j) O' (M ++ [(wr.heap.size,⟨p.L,p.H,p.rs.drop j,(0,0,0),none⟩)]) vs' vm' vo' vh'/\opn (M ++ [(wr.heap.size,⟨p.L,p.H,p.rs.drop j,(0,0,0),none⟩)]) O'=insP q ⟨p.L,p.H,p.rs.drop j,(0,0,0),none⟩ (opn M O)/\O'.length=O.length + 1) ->
      Hid (LookO w0 w4 T N sb hb k (.slice qa q.length qc) q bud seen O M p j)):=by
     rintro w4 ⟨O',vm',vo',h4,e4,l4⟩
     exact ⟨O',_,vs',vm',vo',vh',h4,by rw [if_pos hlt'];exact e4,by rw [List.length_append];simp,by omega⟩
    have hcne:¬ cap2=j:=by omega
    have hjn:(j:Int)<=(n:Int):=by omega
    have hjcp:(j:Int)<=(cap2:Int):=by omega
    clear hS hmp gP hblk2 hrw2 rl3 rh3 X hcap2 hnl hnh hlt'
    go_wp2_with fail
    obtain ⟨z0,z1,z2,z3,z4,z5,z6⟩:=FS13
    refine wp_region_held_drew (S:=fun _=>True) (by kernel_rfl) (trivial) (fun hHeld=>?_)
    refine tkn 0 ?_ rfl ?_ ?_;rotate_left;·(intro w hSw;(skip);go_simp;try rfl)
    try simp only [Act.put,List.getElem_toArray,List.getElem_cons_zero,List.setIfInBounds_toArray,List.set_cons_zero,List.set_cons_succ]
    refine tkn 1 ?_ rfl ?_ ?_;rotate_left;·(intro w hSw;(skip);go_simp;try rfl)
    try simp only [Act.put,List.getElem_toArray,List.getElem_cons_zero,List.getElem_cons_succ,List.setIfInBounds_toArray,List.set_cons_zero,List.set_cons_succ]
    refine tkn 2 ?_ rfl ?_ ?_;rotate_left;·(intro w hSw;(skip);go_simp;try rfl)
    try simp only [Act.put,List.getElem_toArray,List.getElem_cons_zero,List.getElem_cons_succ,List.setIfInBounds_toArray,List.set_cons_zero,List.set_cons_succ]
    refine tkn 3 ?_ rfl ?_ ?_;rotate_left;·(intro w hSw;(skip);go_simp;try rfl)
    try simp only [Act.put,List.getElem_toArray,List.getElem_cons_zero,List.getElem_cons_succ,List.setIfInBounds_toArray,List.set_cons_zero,List.set_cons_succ]
    refine tkn 5 ?_ rfl ?_ ?_;rotate_left;·(intro w hSw;(skip);go_simp;try rfl)
    try simp only [Act.put,List.getElem_toArray,List.getElem_cons_zero,List.getElem_cons_succ,List.setIfInBounds_toArray,List.set_cons_zero,List.set_cons_succ]
    refine tkn 6 ?_ rfl ?_ ?_;rotate_left;·(intro w hSw;(skip);go_simp;try rfl)
    try simp only [Act.put,List.getElem_toArray,List.getElem_cons_zero,List.getElem_cons_succ,List.setIfInBounds_toArray,List.set_cons_zero,List.set_cons_succ]
    refine tkn 7 ?_ rfl ?_ ?_;rotate_left;·(intro w hSw;(skip);go_simp;try rfl)
    try simp only [Act.put,List.getElem_toArray,List.getElem_cons_zero,List.getElem_cons_succ,List.setIfInBounds_toArray,List.set_cons_zero,List.set_cons_succ]
    refine tkn 9 ?_ rfl ?_ ?_;rotate_left;·(intro w hSw;(skip);go_simp;try rfl)
    try simp only [Act.put,List.getElem_toArray,List.getElem_cons_zero,List.getElem_cons_succ,List.setIfInBounds_toArray,List.set_cons_zero,List.set_cons_succ]
    refine wpAnyH_ready (rs:=[4,8]) (by kernel_rfl) (by simp) ?_
    refine AllReadyH.cons rfl (fun K hK=>?_) (AllReadyH.cons rfl (fun K hK=>?_) AllReadyH.nil)
    ·go_simp
     refine hK.out _ _ (trivial) (fun hHeld=>?_)
     clear hK K
     try simp only [Act.put,List.getElem_toArray,List.getElem_cons_zero,List.getElem_cons_succ,List.setIfInBounds_toArray,List.set_cons_zero,List.set_cons_succ]
     refine rdn 8 rfl (fun K hK=>?_)
     go_simp
     refine hK.out _ _ (trivial) (fun hHeld=>?_)
     clear hK K
     try simp only [Act.put,List.getElem_toArray,List.getElem_cons_zero,List.getElem_cons_succ,List.setIfInBounds_toArray,List.set_cons_zero,List.set_cons_succ]
     refine tkn 10 ?_ rfl ?_ ?_;rotate_left;·(intro w hSw;(skip);go_simp;try rfl)
     try simp only [Act.put,List.getElem_toArray,List.getElem_cons_zero,List.getElem_cons_succ,List.setIfInBounds_toArray,List.set_cons_zero,List.set_cons_succ]
     refine tkn 11 ?_ rfl ?_ ?_;rotate_left;·(intro w hSw;(skip);go_simp;try rfl)
     try simp only [Act.put,List.getElem_toArray,List.getElem_cons_zero,List.getElem_cons_succ,List.setIfInBounds_toArray,List.set_cons_zero,List.set_cons_succ]
     refine rdn 12 rfl (fun K hK=>?_)
     go_simp
     refine hK.out _ _ (trivial) (fun hHeld=>?_)
     clear hK K
     try simp only [Act.put,List.getElem_toArray,List.getElem_cons_zero,List.getElem_cons_succ,List.setIfInBounds_toArray,List.set_cons_zero,List.set_cons_succ]
     refine rdn 13 rfl (fun K hK=>?_)
     go_simp
     go_fit cW
     rintro e w4 ⟨rfl,hO⟩
     have FF:=A13.out _ hO
     clear hO cW A13
     refine hK.out _ _ (trivial) (fun hHeld=>?_)
     clear hK K
     try simp only [Act.put,List.getElem_toArray,List.getElem_cons_zero,List.getElem_cons_succ,List.setIfInBounds_toArray,List.set_cons_zero,List.set_cons_succ]
     refine wpAnyH_done (by kernel_rfl) ?_ _
     clear hHeld
     go_wp2
     go_end0
     exact ⟨rfl,FF.out⟩
    ·go_simp
     refine hK.out _ _ (trivial) (fun hHeld=>?_)
     clear hK K
     try simp only [Act.put,List.getElem_toArray,List.getElem_cons_zero,List.getElem_cons_succ,List.setIfInBounds_toArray,List.set_cons_zero,List.set_cons_succ]
     refine tkn 10 ?_ rfl ?_ ?_;rotate_left;·(intro w hSw;(skip);go_simp;try rfl)
     try simp only [Act.put,List.getElem_toArray,List.getElem_cons_zero,List.getElem_cons_succ,List.setIfInBounds_toArray,List.set_cons_zero,List.set_cons_succ]
     refine rdn 4 rfl (fun K hK=>?_)
     go_simp
     refine hK.out _ _ (trivial) (fun hHeld=>?_)
     clear hK K
     try simp only [Act.put,List.getElem_toArray,List.getElem_cons_zero,List.getElem_cons_succ,List.setIfInBounds_toArray,List.set_cons_zero,List.set_cons_succ]
     refine tkn 11 ?_ rfl ?_ ?_;rotate_left;·(intro w hSw;(skip);go_simp;try rfl)
     try simp only [Act.put,List.getElem_toArray,List.getElem_cons_zero,List.getElem_cons_succ,List.setIfInBounds_toArray,List.set_cons_zero,List.set_cons_succ]
     refine rdn 12 rfl (fun K hK=>?_)
     go_simp
     refine hK.out _ _ (trivial) (fun hHeld=>?_)
     clear hK K
     try simp only [Act.put,List.getElem_toArray,List.getElem_cons_zero,List.getElem_cons_succ,List.setIfInBounds_toArray,List.set_cons_zero,List.set_cons_succ]
     refine rdn 13 rfl (fun K hK=>?_)
     go_simp
     go_fit cW
     rintro e w4 ⟨rfl,hO⟩
     have FF:=A13.out _ hO
     clear hO cW A13
     refine hK.out _ _ (trivial) (fun hHeld=>?_)
     clear hK K
     try simp only [Act.put,List.getElem_toArray,List.getElem_cons_zero,List.getElem_cons_succ,List.setIfInBounds_toArray,List.set_cons_zero,List.set_cons_succ]
     refine wpAnyH_done (by kernel_rfl) ?_ _
     clear hHeld
     go_wp2
     go_end0
     exact ⟨rfl,FF.out⟩
   ·have hlti:¬ (j:Int) < (n:Int):=by omega
    have FF:Hid (LookO w0 wr T N sb hb k (.slice qa q.length qc) q bud seen O M p j):=⟨O,M,vs',vm,vo,vh',hS,by rw [if_neg (by have:=NN.out;omega)],by omega,by omega⟩
    clear hS X
    go_wp2
    go_end0
    exact ⟨rfl,FF.out⟩
end Go.Proofs.YtgbgejflmbhigaaGreat
