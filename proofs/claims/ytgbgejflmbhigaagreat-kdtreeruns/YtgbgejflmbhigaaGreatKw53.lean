import Derived.Test.YtgbgejflmbhigaaGreatKw47
import Derived.Test.YtgbgejflmbhigaaGreatKw12
import Derived.Test.YtgbgejflmbhigaaGreatKw44
import Derived.Test.YtgbgejflmbhigaaGreatKw50
import Derived.Test.YtgbgejflmbhigaaGreatKw49
namespace Go.Proofs.YtgbgejflmbhigaaGreat
open Go.RowKit Go.Sort
set_option maxRecDepth 100000
set_option maxHeartbeats 1000000
abbrev tRw:TypeId->Prop:=fun t=>t=3 ∨ t=39
theorem spoilrows_c {w:World} {B T g n cap:Nat} {rcur:Array Value} (top:T<=w.heap.size) (hn:n<=4611686018427387904) (hB:B<=g) (hT:g < T) (hb:w.heap[g]? = some (.cells rcur 39 (0,0)))
  (hr:∀ i,i < n->∃ (x:Int) (u:Value),rcur[i * 2]? = some (.int .i64 x)/\rcur[i * 2 + 1]? = some u/\WI w B T u) :
  Calls Tryz.prog 27 #[.slice (some ⟨g,0,none⟩) n cap] w fun e w'=>e=.returned (.tuple #[])/\Mid B T w w':=by
 have TOP:Hid (T<=w.heap.size):=top
 have HR:Hid (∀ i,i < n->∃ (x:Int) (u:Value),rcur[i * 2]? = some (.int .i64 x)/\rcur[i * 2 + 1]? = some u/\WI w B T u):=hr
 have HB:Hid (w.heap[g]? = some (.cells rcur 39 (0,0))/\B<=g/\g < T):=⟨hb,hB,hT⟩
 clear top hr hb hB hT
 go_enter Tryz.func27,Tryz.ntmps27
 go_wp2
 go_loopw [2] (fun iv W=>∃ p:Nat,iv=.int .i64 (p:Int)/\p<=n/\Hid (MS tRw B T w W/\∃ cur',W.heap[g]? = some (.cells cur' 39 (0,0))/\cur'.size=rcur.size/\∀ j,p * 2<=j->cur'[j]? = rcur[j]?)) (fun iv _=>n - (intOf iv).toNat)
 case atStart=>exact ⟨0,rfl,Nat.zero_le _,MS.refl _ _ _ _,rcur,HB.out.1,rfl,fun _ _=>rfl⟩
 case round =>
  obtain ⟨p,rfl,hp,X⟩:=hrel
  by_cases hpn:p < n
  ·have hpi:decide ((p:Int) < (n:Int))=true:=by rw [decide_eq_true_eq];omega
   have hpp:(p:Int) < (n:Int):=by omega
   obtain ⟨cur',s3,s4,s5⟩:=X.out.2
   obtain ⟨x,u,d0,d1,w1⟩:=HR.out p hpn
   rw [<- s5 _ (by omega)] at d0 d1
   obtain ⟨W3,hW3⟩:∃ W3,W3=wr:=⟨_,rfl⟩
   have M3:Hid (MS tRw B T w W3):=by rw [hW3];exact X.out.1
   have L1:Hid (WI W3 B T u):=w1.ms M3.out
   have HC:Hid (W3.heap[g]? = some (.cells cur' 39 (0,0))/\cur'.size=rcur.size/\(∀ j,p * 2<=j->cur'[j]? = rcur[j]?)/\cur'[p * 2]? = some (.int .i64 x)/\cur'[p * 2 + 1]? = some u):=by rw [hW3];exact ⟨s3,s4,s5,d0,d1⟩
   have MI:Hid (MS tInt B T W3 wr):=by rw [hW3];exact MS.refl _ _ _ _
   obtain ⟨a1,n1,q1,e1,b1',_⟩:=w1
   subst e1
   clear s3 s4 s5 d0 d1 X hW3
   go_wp2_with fail
   go_loopw [3] (fun iv W=>∃ y:Nat,iv=.int .i64 (y:Int)/\y<=n1/\Hid (MS tInt B T W3 W)) (fun iv _=>n1 - (intOf iv).toNat)
   case atStart=>exact ⟨0,rfl,Nat.zero_le _,MI⟩
   case round =>
    clear MI
    obtain ⟨y,rfl,hy,X⟩:=hrel
    have h5:wr.heap[g]? = some (.cells cur' 39 (0,0)):=(X.out.shp.keep g _ _ _ HC.out.1 (by simp)).trans HC.out.1
    have b0:=cell_of h5 HC.out.2.2.2.1
    have b1:=cell_of h5 HC.out.2.2.2.2
    by_cases hyn:y < n1
    ·have hyi:(y:Int) < (n1:Int):=by omega
     obtain ⟨vb,cur,e,h1,h2,h3,h4⟩:∃ vb cur,a1=some ⟨vb,0,none⟩/\B<=vb/\vb < T/\wr.heap[vb]? = some (.cells cur 3 (0,0))/\∀ i,i < n1->∃ x:Int,cur[i]? = some (.int .i64 x):=by
      obtain ⟨_,_,_,e,_,h⟩:=L1.out.ms X.out
      cases e
      rcases h with h | h
      ·omega
      ·exact h
     subst e
     obtain ⟨z,k0⟩:=h4 y hyn
     have c0:=cell_of h3 k0
     have f0:=froz_of h3 y
     have hgr:g ≠ vb:=fun e=>by rw [e,h3] at h5;simp at h5
     have XD:Hid (∀ z,MS tInt B T W3 (wr.drew.setCell ⟨vb,y,none⟩ (.int .i64 z))):=fun z=>(X.out.trans (ms_gb (Below.refl _ _).drew)).set h1 h2 h3 rfl _ _ (fun _=>⟨_,rfl⟩)
     have b1:wr.drew.cell? ⟨g,p * 2 + 1,none⟩=some (.slice (some ⟨vb,0,none⟩) n1 q1):=b1
     have c0:wr.drew.cell? ⟨vb,y,none⟩=some (.int .i64 z):=c0
     have f0:wr.drew.frozen? ⟨vb,y,none⟩=false:=f0
     clear h3 h4 k0 h5 b0
     go_wp2_with fail
     refine wp_region_held_drew (S:=fun W=>W.cell? ⟨g,p * 2 + 1,none⟩=some (.slice (some ⟨vb,0,none⟩) n1 q1)) (by kernel_rfl) (b1) (fun hHeld=>?_)
     refine tkn 0 ?_ rfl ?_ ?_;rotate_left;·(intro w hSw;(try dsimp only at hSw);go_simp;try rfl)
     try simp only [Act.put,List.getElem_toArray,List.getElem_cons_zero,List.setIfInBounds_toArray,List.set_cons_zero,List.set_cons_succ]
     refine tkn 1 ?_ rfl ?_ ?_;rotate_left;·(intro w hSw;(try dsimp only at hSw);go_simp;try rfl)
     try simp only [Act.put,List.getElem_toArray,List.getElem_cons_zero,List.getElem_cons_succ,List.setIfInBounds_toArray,List.set_cons_zero,List.set_cons_succ]
     refine tkn 2 ?_ rfl ?_ ?_;rotate_left;·(intro w hSw;(try dsimp only at hSw);go_simp;try rfl)
     try simp only [Act.put,List.getElem_toArray,List.getElem_cons_zero,List.getElem_cons_succ,List.setIfInBounds_toArray,List.set_cons_zero,List.set_cons_succ]
     refine tkn 3 ?_ rfl ?_ ?_;rotate_left;·(intro w hSw;(try dsimp only at hSw);go_simp;try rfl)
     try simp only [Act.put,List.getElem_toArray,List.getElem_cons_zero,List.getElem_cons_succ,List.setIfInBounds_toArray,List.set_cons_zero,List.set_cons_succ]
     refine tkn 4 ?_ rfl ?_ ?_;rotate_left;·(intro w hSw;(try dsimp only at hSw);go_simp;try rfl)
     try simp only [Act.put,List.getElem_toArray,List.getElem_cons_zero,List.getElem_cons_succ,List.setIfInBounds_toArray,List.set_cons_zero,List.set_cons_succ]
     refine tkn 5 ?_ rfl ?_ ?_;rotate_left;·(intro w hSw;(try dsimp only at hSw);go_simp;try rfl)
     try simp only [Act.put,List.getElem_toArray,List.getElem_cons_zero,List.getElem_cons_succ,List.setIfInBounds_toArray,List.set_cons_zero,List.set_cons_succ]
     refine tkn 6 ?_ rfl ?_ ?_;rotate_left;·(intro w hSw;(try dsimp only at hSw);go_simp;try rfl)
     try simp only [Act.put,List.getElem_toArray,List.getElem_cons_zero,List.getElem_cons_succ,List.setIfInBounds_toArray,List.set_cons_zero,List.set_cons_succ]
     refine tkn 7 ?_ rfl ?_ ?_;rotate_left;·(intro w hSw;(try dsimp only at hSw);go_simp;try rfl)
     try simp only [Act.put,List.getElem_toArray,List.getElem_cons_zero,List.getElem_cons_succ,List.setIfInBounds_toArray,List.set_cons_zero,List.set_cons_succ]
     refine tkn 8 ?_ rfl ?_ ?_;rotate_left;·(intro w hSw;(try dsimp only at hSw);go_simp;try rfl)
     try simp only [Act.put,List.getElem_toArray,List.getElem_cons_zero,List.getElem_cons_succ,List.setIfInBounds_toArray,List.set_cons_zero,List.set_cons_succ]
     refine tkn 9 ?_ rfl ?_ ?_;rotate_left;·(intro w hSw;(try dsimp only at hSw);go_simp;try rfl)
     try simp only [Act.put,List.getElem_toArray,List.getElem_cons_zero,List.getElem_cons_succ,List.setIfInBounds_toArray,List.set_cons_zero,List.set_cons_succ]
     refine tkn 10 ?_ rfl ?_ ?_;rotate_left;·(intro w hSw;(try dsimp only at hSw);go_simp;try rfl)
     try simp only [Act.put,List.getElem_toArray,List.getElem_cons_zero,List.getElem_cons_succ,List.setIfInBounds_toArray,List.set_cons_zero,List.set_cons_succ]
     refine tkn 11 ?_ rfl ?_ ?_;rotate_left;·(intro w hSw;(try dsimp only at hSw);go_simp;try rfl)
     try simp only [Act.put,List.getElem_toArray,List.getElem_cons_zero,List.getElem_cons_succ,List.setIfInBounds_toArray,List.set_cons_zero,List.set_cons_succ]
     refine tkn 12 ?_ rfl ?_ ?_;rotate_left;·(intro w hSw;(try dsimp only at hSw);go_simp;try rfl)
     try simp only [Act.put,List.getElem_toArray,List.getElem_cons_zero,List.getElem_cons_succ,List.setIfInBounds_toArray,List.set_cons_zero,List.set_cons_succ]
     refine rdn 13 rfl (fun K hK=>?_)
     go_simp
     refine hK.out _ _ (hHeld) (fun hHeld=>?_)
     clear hK K
     try simp only [Act.put,List.getElem_toArray,List.getElem_cons_zero,List.getElem_cons_succ,List.setIfInBounds_toArray,List.set_cons_zero,List.set_cons_succ]
     refine tkn 14 ?_ rfl ?_ ?_;rotate_left;·(intro w hSw;(try dsimp only at hSw);go_simp;try rfl)
     try simp only [Act.put,List.getElem_toArray,List.getElem_cons_zero,List.getElem_cons_succ,List.setIfInBounds_toArray,List.set_cons_zero,List.set_cons_succ]
     refine tkn 15 ?_ rfl ?_ ?_;rotate_left;·(intro w hSw;(try dsimp only at hSw);go_simp;try rfl)
     try simp only [Act.put,List.getElem_toArray,List.getElem_cons_zero,List.getElem_cons_succ,List.setIfInBounds_toArray,List.set_cons_zero,List.set_cons_succ]
     refine rdn 16 rfl (fun K hK=>?_)
     go_simp
     refine hK.out _ _ ((World.cell?_setCell_far _ _ _ _ (by dsimp only;exact hgr.symm)).trans hHeld) (fun hHeld=>?_)
     clear hK K
     try simp only [Act.put,List.getElem_toArray,List.getElem_cons_zero,List.getElem_cons_succ,List.setIfInBounds_toArray,List.set_cons_zero,List.set_cons_succ]
     refine wpAnyH_done (by kernel_rfl) ?_ _
     go_wp2
     go_roundw
     case rel=>exact ⟨y + 1,by first | rfl | go_num | simp,hyn,XD.out _⟩
     case measure=>simp [intOf];omega
    ·have hyi:¬ (y:Int) < (n1:Int):=by omega
     have f0:=froz_of h5 (p * 2)
     have f1:=froz_of h5 (p * 2 + 1)
     have XN:Hid (MS tRw B T w ((wr.setCell ⟨g,p * 2,none⟩ (.int .i64 0)).setCell ⟨g,p * 2 + 1,none⟩ (.slice none 0 0))/\∃ cur',((wr.setCell ⟨g,p * 2,none⟩ (.int .i64 0)).setCell ⟨g,p * 2 + 1,none⟩ (.slice none 0 0)).heap[g]? = some (.cells cur' 39 (0,0))/\cur'.size=rcur.size/\∀ j,(p + 1) * 2<=j->cur'[j]? = rcur[j]?):=by
      refine ⟨((M3.out.trans (X.out.mono fun t h=>.inl h)).set HB.out.2.1 HB.out.2.2 h5 (.inr rfl) _ _ (fun e=>by simp at e)).set HB.out.2.1 HB.out.2.2 (heap_set h5) (.inr rfl) _ _ (fun e=>by simp at e),_,heap_set (heap_set h5),?_,fun j hj=>?_⟩
      ·simp [HC.out.2.1]
      ·rw [Array.getElem?_setIfInBounds_ne (by omega),Array.getElem?_setIfInBounds_ne (by omega)]
       exact HC.out.2.2.1 j (by omega)
     clear h5 L1 X
     go_wp2
     go_roundw
     case rel=>exact ⟨p + 1,by first | rfl | go_num | simp,hpn,XN⟩
     case measure=>simp [intOf];omega
  ·have hpi:¬ (p:Int) < (n:Int):=by omega
   have XF:Hid (Mid B T w wr):=X.out.1.mid
   clear X
   go_wp2
   refine bodyPost_end (v:=.tuple #[]) (by simp [results,Tryz.results27,go_sem]) rfl ⟨rfl,?_⟩
   exact XF.out
end Go.Proofs.YtgbgejflmbhigaaGreat

namespace Go.Proofs.YtgbgejflmbhigaaGreat
open Go.RowKit Go.Sort
set_option maxRecDepth 100000
set_option maxHeartbeats 2000000
theorem krsame_c {w:World} {u v:Value} {l:List Rw} (hu:RdW w u l) (hv:RdW w v l) (hn:l.length<=4611686018427387904) (hr:∀ r ∈ l,r.2.length<=4611686018427387904) :
  Calls Tryz.prog 26 #[u,v] w fun e w'=>e=.returned (.bool true)/\Gb w w':=by
 have A:Hid (RdW w u l):=hu
 have B:Hid (RdW w v l):=hv
 have R:Hid (∀ r ∈ l,r.2.length<=4611686018427387904):=hr
 obtain ⟨au,cu,eu,_⟩:=hu
 obtain ⟨av,cv,ev,_⟩:=hv
 subst eu ev
 obtain ⟨n,hN⟩:∃ n,n=l.length:=⟨_,rfl⟩
 have N:Hid (n=l.length):=hN
 rw [<- hN] at A B hn ⊢
 clear hN hr
 go_enter Tryz.func26,Tryz.ntmps26
 go_wp2
 go_loopw [5] (fun iv W=>∃ p:Nat,iv=.int .i64 (p:Int)/\p<=n/\Hid (Gb w W)) (fun iv _=>n - (intOf iv).toNat)
 case atStart=>exact ⟨0,rfl,Nat.zero_le _,Below.refl _ _⟩
 case round =>
  obtain ⟨p,rfl,hp,X⟩:=hrel
  by_cases hpn:p < n
  ·have hpi:(p:Int) < (n:Int):=by omega
   have hpl:p < l.length:=by have:=N.out;omega
   obtain ⟨_,_,ea,hA⟩:=A.out
   obtain ⟨b1,o1,x1,e1,a0,a1,r1⟩:=hA p hpl
   obtain ⟨_,_,eb,hB⟩:=B.out
   obtain ⟨b2,o2,y1,e2,k0,k1,t1⟩:=hB p hpl
   injection ea with ea1 ea2 ea3
   injection eb with eb1 eb2 eb3
   subst ea1;subst eb1;subst e1;subst e2
   clear hA hB ea2 ea3 eb2 eb3
   have fw:=R.out l[p]! (by rw [getElem!_pos l p hpl];exact List.getElem_mem hpl)
   have ci:=fun W (g:Gb w W)=>ints_v (r1.gb g) (t1.gb g) fw true (by simp)
   have a0:=gb_keeps X.out a0
   have a1:=gb_keeps X.out a1
   have k0:=gb_keeps X.out k0
   have k1:=gb_keeps X.out k1
   obtain ⟨u1,u2,e,z0⟩:=r1;subst e
   obtain ⟨u3,u4,e,z1⟩:=t1;subst e
   have GD:Gb wr wr.drew:=⟨rfl,rfl,rfl,Nat.le_refl _,fun _ _=>rfl⟩
   generalize l[p]!.2.length=z at *
   generalize l[p]!.1=x at *
   clear z0 z1 fw hpl
   go_wp2_with fail
   refine wp_region_held_drew (S:=fun W=>Gb wr W) (by kernel_rfl) (GD) (fun hHeld=>?_)
   refine tkn 0 ?_ rfl ?_ ?_;rotate_left;·(intro w hSw;obtain ⟨s0,s1,s2,s3⟩:=kp4 hSw a0 a1 k0 k1;go_simp;try rfl)
   try simp only [Act.put,List.getElem_toArray,List.getElem_cons_zero,List.setIfInBounds_toArray,List.set_cons_zero,List.set_cons_succ]
   refine tkn 1 ?_ rfl ?_ ?_;rotate_left;·(intro w hSw;obtain ⟨s0,s1,s2,s3⟩:=kp4 hSw a0 a1 k0 k1;go_simp;try rfl)
   try simp only [Act.put,List.getElem_toArray,List.getElem_cons_zero,List.getElem_cons_succ,List.setIfInBounds_toArray,List.set_cons_zero,List.set_cons_succ]
   refine tkn 2 ?_ rfl ?_ ?_;rotate_left;·(intro w hSw;obtain ⟨s0,s1,s2,s3⟩:=kp4 hSw a0 a1 k0 k1;go_simp;try rfl)
   try simp only [Act.put,List.getElem_toArray,List.getElem_cons_zero,List.getElem_cons_succ,List.setIfInBounds_toArray,List.set_cons_zero,List.set_cons_succ]
   refine tkn 3 ?_ rfl ?_ ?_;rotate_left;·(intro w hSw;obtain ⟨s0,s1,s2,s3⟩:=kp4 hSw a0 a1 k0 k1;go_simp;try rfl)
   try simp only [Act.put,List.getElem_toArray,List.getElem_cons_zero,List.getElem_cons_succ,List.setIfInBounds_toArray,List.set_cons_zero,List.set_cons_succ]
   refine tkn 4 ?_ rfl ?_ ?_;rotate_left;·(intro w hSw;obtain ⟨s0,s1,s2,s3⟩:=kp4 hSw a0 a1 k0 k1;go_simp;try rfl)
   try simp only [Act.put,List.getElem_toArray,List.getElem_cons_zero,List.getElem_cons_succ,List.setIfInBounds_toArray,List.set_cons_zero,List.set_cons_succ]
   refine tkn 5 ?_ rfl ?_ ?_;rotate_left;·(intro w hSw;obtain ⟨s0,s1,s2,s3⟩:=kp4 hSw a0 a1 k0 k1;go_simp;try rfl)
   try simp only [Act.put,List.getElem_toArray,List.getElem_cons_zero,List.getElem_cons_succ,List.setIfInBounds_toArray,List.set_cons_zero,List.set_cons_succ]
   refine tkn 6 ?_ rfl ?_ ?_;rotate_left;·(intro w hSw;obtain ⟨s0,s1,s2,s3⟩:=kp4 hSw a0 a1 k0 k1;go_simp;try rfl)
   try simp only [Act.put,List.getElem_toArray,List.getElem_cons_zero,List.getElem_cons_succ,List.setIfInBounds_toArray,List.set_cons_zero,List.set_cons_succ]
   refine tkn 7 ?_ rfl ?_ ?_;rotate_left;·(intro w hSw;obtain ⟨s0,s1,s2,s3⟩:=kp4 hSw a0 a1 k0 k1;go_simp;try rfl)
   try simp only [Act.put,List.getElem_toArray,List.getElem_cons_zero,List.getElem_cons_succ,List.setIfInBounds_toArray,List.set_cons_zero,List.set_cons_succ]
   refine tkn 8 ?_ rfl ?_ ?_;rotate_left;·(intro w hSw;obtain ⟨s0,s1,s2,s3⟩:=kp4 hSw a0 a1 k0 k1;go_simp;try rfl)
   try simp only [Act.put,List.getElem_toArray,List.getElem_cons_zero,List.getElem_cons_succ,List.setIfInBounds_toArray,List.set_cons_zero,List.set_cons_succ]
   refine tkn 9 ?_ rfl ?_ ?_;rotate_left;·(intro w hSw;obtain ⟨s0,s1,s2,s3⟩:=kp4 hSw a0 a1 k0 k1;go_simp;try rfl)
   try simp only [Act.put,List.getElem_toArray,List.getElem_cons_zero,List.getElem_cons_succ,List.setIfInBounds_toArray,List.set_cons_zero,List.set_cons_succ]
   refine tkn 10 ?_ rfl ?_ ?_;rotate_left;·(intro w hSw;obtain ⟨s0,s1,s2,s3⟩:=kp4 hSw a0 a1 k0 k1;go_simp;try rfl)
   try simp only [Act.put,List.getElem_toArray,List.getElem_cons_zero,List.getElem_cons_succ,List.setIfInBounds_toArray,List.set_cons_zero,List.set_cons_succ]
   refine tkn 11 ?_ rfl ?_ ?_;rotate_left;·(intro w hSw;obtain ⟨s0,s1,s2,s3⟩:=kp4 hSw a0 a1 k0 k1;go_simp;try rfl)
   try simp only [Act.put,List.getElem_toArray,List.getElem_cons_zero,List.getElem_cons_succ,List.setIfInBounds_toArray,List.set_cons_zero,List.set_cons_succ]
   refine tkn 12 ?_ rfl ?_ ?_;rotate_left;·(intro w hSw;obtain ⟨s0,s1,s2,s3⟩:=kp4 hSw a0 a1 k0 k1;go_simp;try rfl)
   try simp only [Act.put,List.getElem_toArray,List.getElem_cons_zero,List.getElem_cons_succ,List.setIfInBounds_toArray,List.set_cons_zero,List.set_cons_succ]
   refine tkn 13 ?_ rfl ?_ ?_;rotate_left;·(intro w hSw;obtain ⟨s0,s1,s2,s3⟩:=kp4 hSw a0 a1 k0 k1;go_simp;try rfl)
   try simp only [Act.put,List.getElem_toArray,List.getElem_cons_zero,List.getElem_cons_succ,List.setIfInBounds_toArray,List.set_cons_zero,List.set_cons_succ]
   refine tkn 14 ?_ rfl ?_ ?_;rotate_left;·(intro w hSw;obtain ⟨s0,s1,s2,s3⟩:=kp4 hSw a0 a1 k0 k1;go_simp;try rfl)
   try simp only [Act.put,List.getElem_toArray,List.getElem_cons_zero,List.getElem_cons_succ,List.setIfInBounds_toArray,List.set_cons_zero,List.set_cons_succ]
   refine tkn 15 ?_ rfl ?_ ?_;rotate_left;·(intro w hSw;obtain ⟨s0,s1,s2,s3⟩:=kp4 hSw a0 a1 k0 k1;go_simp;try rfl)
   try simp only [Act.put,List.getElem_toArray,List.getElem_cons_zero,List.getElem_cons_succ,List.setIfInBounds_toArray,List.set_cons_zero,List.set_cons_succ]
   refine tkn 16 ?_ rfl ?_ ?_;rotate_left;·(intro w hSw;obtain ⟨s0,s1,s2,s3⟩:=kp4 hSw a0 a1 k0 k1;go_simp;try rfl)
   try simp only [Act.put,List.getElem_toArray,List.getElem_cons_zero,List.getElem_cons_succ,List.setIfInBounds_toArray,List.set_cons_zero,List.set_cons_succ]
   refine tkn 17 ?_ rfl ?_ ?_;rotate_left;·(intro w hSw;obtain ⟨s0,s1,s2,s3⟩:=kp4 hSw a0 a1 k0 k1;go_simp;try rfl)
   try simp only [Act.put,List.getElem_toArray,List.getElem_cons_zero,List.getElem_cons_succ,List.setIfInBounds_toArray,List.set_cons_zero,List.set_cons_succ]
   refine tkn 18 ?_ rfl ?_ ?_;rotate_left;·(intro w hSw;obtain ⟨s0,s1,s2,s3⟩:=kp4 hSw a0 a1 k0 k1;go_simp;try rfl)
   try simp only [Act.put,List.getElem_toArray,List.getElem_cons_zero,List.getElem_cons_succ,List.setIfInBounds_toArray,List.set_cons_zero,List.set_cons_succ]
   refine tkn 19 ?_ rfl ?_ ?_;rotate_left;·(intro w hSw;obtain ⟨s0,s1,s2,s3⟩:=kp4 hSw a0 a1 k0 k1;go_simp;try rfl)
   try simp only [Act.put,List.getElem_toArray,List.getElem_cons_zero,List.getElem_cons_succ,List.setIfInBounds_toArray,List.set_cons_zero,List.set_cons_succ]
   refine tkn 20 ?_ rfl ?_ ?_;rotate_left;·(intro w hSw;obtain ⟨s0,s1,s2,s3⟩:=kp4 hSw a0 a1 k0 k1;go_simp;try rfl)
   try simp only [Act.put,List.getElem_toArray,List.getElem_cons_zero,List.getElem_cons_succ,List.setIfInBounds_toArray,List.set_cons_zero,List.set_cons_succ]
   refine tkn 21 ?_ rfl ?_ ?_;rotate_left;·(intro w hSw;obtain ⟨s0,s1,s2,s3⟩:=kp4 hSw a0 a1 k0 k1;go_simp;try rfl)
   try simp only [Act.put,List.getElem_toArray,List.getElem_cons_zero,List.getElem_cons_succ,List.setIfInBounds_toArray,List.set_cons_zero,List.set_cons_succ]
   refine rdn 22 rfl (fun K hK=>?_)
   go_simp
   refine (ci _ (gb_trans X.out hHeld)).mono ?_
   rintro e w4 ⟨rfl,g4⟩
   refine hK.out _ _ (gb_trans hHeld g4.gb) (fun hHeld=>?_)
   clear hK K
   try simp only [Act.put,List.getElem_toArray,List.getElem_cons_zero,List.getElem_cons_succ,List.setIfInBounds_toArray,List.set_cons_zero,List.set_cons_succ]
   refine tkn 23 ?_ rfl ?_ ?_;rotate_left;·(intro w hSw;obtain ⟨s0,s1,s2,s3⟩:=kp4 hSw a0 a1 k0 k1;go_simp;try rfl)
   try simp only [Act.put,List.getElem_toArray,List.getElem_cons_zero,List.getElem_cons_succ,List.setIfInBounds_toArray,List.set_cons_zero,List.set_cons_succ]
   refine tkn 24 ?_ rfl ?_ ?_;rotate_left;·(intro w hSw;obtain ⟨s0,s1,s2,s3⟩:=kp4 hSw a0 a1 k0 k1;go_simp;try rfl)
   try simp only [Act.put,List.getElem_toArray,List.getElem_cons_zero,List.getElem_cons_succ,List.setIfInBounds_toArray,List.set_cons_zero,List.set_cons_succ]
   refine wpAnyH_done (by kernel_rfl) ?_ _
   have X4:Hid (Gb w w4):=gb_trans X.out hHeld
   clear hHeld ci a0 a1 k0 k1 X GD
   go_wp2
   go_roundw
   case rel=>exact ⟨p + 1,by first | rfl | go_num,hpn,X4⟩
   case measure=>simp [intOf];omega
  ·have hpi:¬ (p:Int) < (n:Int):=by omega
   go_wp2
   go_ret
   exact ⟨rfl,X.out⟩
end Go.Proofs.YtgbgejflmbhigaaGreat

namespace Go.Proofs.YtgbgejflmbhigaaGreat
open Go.RowKit Go.Sort
set_option maxRecDepth 100000
set_option maxHeartbeats 2000000
theorem klens {rs:List Rw} {d:Int} (hok:RowsOk rs d):rs.length<=4611686018427387904/\∀ r ∈ rs,r.2.length<=4611686018427387904:=⟨by have:=hok.few;omega,fun r hr=>by
 have:=(chk_ok (hok.row r hr).2)
 have h1:=this.2.1
 omega⟩
theorem kspoil_c {w0 w1 w2:World} {v:Value} {rs:List Rw} (o:OwnC w1 w0.heap.size v rs) (g1:Gb w0 w1) (g2:Gb w1 w2) (hl:rs.length<=512/\∀ r ∈ rs,r.2.length<=4611686018427387904) :
  Calls Tryz.prog 27 #[v] w2 fun e w'=>e=.returned (.tuple #[])/\Gb w0 w':=by
 have o2:=o.gb g2
 obtain ⟨g,cap,e⟩:=o2.form
 obtain ⟨_,xs,ow,hx⟩:=o2
 obtain ⟨cur,b1,b2,b3,b4,b5⟩:=own_cur ow e
 subst e
 refine (spoilrows_c (Nat.le_refl _) (by omega) b1 b2 b3 (fun i hi=>?_)).mono ?_
 ·obtain ⟨h1,u,h2,h3⟩:=hx i hi
  exact ⟨_,u,b5 _ _ h1,b5 _ _ h2,wi_own h3 (hl.2 _ (by rw [getElem!_pos rs i hi];exact List.getElem_mem hi)) (fun g e=>(World.ownsRow.lt h3 g e).2)⟩
 ·rintro e w' ⟨rfl,m⟩
  exact ⟨rfl,m.gb (gb_trans g1 g2) (Nat.le_refl _)⟩
theorem klooks_c {Iq:Nat->Prop} {W:World} {tb ub m leaf:Nat} {rs:List Rw} {F G:List Nat} (ht:TreeAt Iq W tb m leaf rs F) (hm:TbAt W ub m rs G) :
  Calls Tryz.prog 10 #[.pointer (some ⟨tb,0,none⟩),.pointer (some ⟨ub,0,none⟩)] W fun e w'=>e=.returned (.bool true)/\Gb W w':=by
 have HT:Hid (TreeAt Iq W tb m leaf rs F):=ht
 have HM:Hid (TbAt W ub m rs G):=hm
 have KL:Hid (rs.length<=4611686018427387904/\∀ r ∈ rs,r.2.length<=4611686018427387904):=klens ht.rok.1
 have K5:Hid (rs.length<=512):=ht.rok.1.few
 have cR:=rows_c ht
 obtain ⟨a,cap,_,c1,rdm,_⟩:=hm.rd
 have RM:Hid (RdW W (.slice a rs.length cap) rs):=rdm
 clear ht hm rdm
 obtain ⟨n,hn⟩:∃ n,n=rs.length:=⟨_,rfl⟩
 have N:Hid (n=rs.length):=hn
 rw [<- hn] at RM c1
 clear hn
 go_enter Tryz.func10,Tryz.ntmps10
 go_wp2_with fail
 refine cR.mono ?_
 rintro e w1 ⟨v1,rfl,o1,g1⟩
 have c1:=gb_keeps g1 c1
 have cK:=fun W' (g:Gb w1 W')=>krsame_c ((o1.gb g).rdw) ((RM.out.gb g1).gb g) KL.out.1 KL.out.2
 have cL:∀ W',Gb w1 W'->Calls Tryz.prog 14 #[.pointer (some ⟨tb,0,none⟩)] W' fun e w'=>e=.returned (.int .i64 (n:Nat))/\w'=W':=fun W' g=>by
  rw [N.out]
  exact len_c (HT.out.gb (gb_trans g1 g))
 have OO:Hid (OwnC w1 W.heap.size v1 rs):=o1
 have G1:Hid (Gb W w1):=g1
 obtain ⟨g,cp,e1⟩:=o1.form
 subst e1
 rw [<- N.out] at OO cK ⊢
 have GD:Gb w1 w1.drew:=⟨rfl,rfl,rfl,Nat.le_refl _,fun _ _=>rfl⟩
 clear cR o1 g1
 go_wp2_with fail
 refine wp_region_held_drew (S:=fun W=>Gb w1 W) (by kernel_rfl) (GD) (fun hHeld=>?_)
 refine tkn 0 ?_ rfl ?_ ?_;rotate_left;·(intro w hSw;(have s1:=gb_keeps hSw c1);go_simp;try rfl)
 try simp only [Act.put,List.getElem_toArray,List.getElem_cons_zero,List.setIfInBounds_toArray,List.set_cons_zero,List.set_cons_succ]
 refine tkn 1 ?_ rfl ?_ ?_;rotate_left;·(intro w hSw;(have s1:=gb_keeps hSw c1);go_simp;try rfl)
 try simp only [Act.put,List.getElem_toArray,List.getElem_cons_zero,List.getElem_cons_succ,List.setIfInBounds_toArray,List.set_cons_zero,List.set_cons_succ]
 refine tkn 2 ?_ rfl ?_ ?_;rotate_left;·(intro w hSw;(have s1:=gb_keeps hSw c1);go_simp;try rfl)
 try simp only [Act.put,List.getElem_toArray,List.getElem_cons_zero,List.getElem_cons_succ,List.setIfInBounds_toArray,List.set_cons_zero,List.set_cons_succ]
 refine tkn 3 ?_ rfl ?_ ?_;rotate_left;·(intro w hSw;(have s1:=gb_keeps hSw c1);go_simp;try rfl)
 try simp only [Act.put,List.getElem_toArray,List.getElem_cons_zero,List.getElem_cons_succ,List.setIfInBounds_toArray,List.set_cons_zero,List.set_cons_succ]
 refine tkn 4 ?_ rfl ?_ ?_;rotate_left;·(intro w hSw;(have s1:=gb_keeps hSw c1);go_simp;try rfl)
 try simp only [Act.put,List.getElem_toArray,List.getElem_cons_zero,List.getElem_cons_succ,List.setIfInBounds_toArray,List.set_cons_zero,List.set_cons_succ]
 refine rdn 5 rfl (fun K hK=>?_)
 go_simp
 refine (cK _ hHeld).mono ?_
 rintro e w2 ⟨rfl,g2⟩
 refine hK.out _ _ (gb_trans hHeld g2) (fun hHeld=>?_)
 clear hK K
 try simp only [Act.put,List.getElem_toArray,List.getElem_cons_zero,List.getElem_cons_succ,List.setIfInBounds_toArray,List.set_cons_zero,List.set_cons_succ]
 refine tkn 6 ?_ rfl ?_ ?_;rotate_left;·(intro w hSw;(have s1:=gb_keeps hSw c1);go_simp;try rfl)
 try simp only [Act.put,List.getElem_toArray,List.getElem_cons_zero,List.getElem_cons_succ,List.setIfInBounds_toArray,List.set_cons_zero,List.set_cons_succ]
 refine tkn 7 ?_ rfl ?_ ?_;rotate_left;·(intro w hSw;(have s1:=gb_keeps hSw c1);go_simp;try rfl)
 try simp only [Act.put,List.getElem_toArray,List.getElem_cons_zero,List.getElem_cons_succ,List.setIfInBounds_toArray,List.set_cons_zero,List.set_cons_succ]
 refine tkn 9 ?_ rfl ?_ ?_;rotate_left;·(intro w hSw;(have s1:=gb_keeps hSw c1);go_simp;try rfl)
 try simp only [Act.put,List.getElem_toArray,List.getElem_cons_zero,List.getElem_cons_succ,List.setIfInBounds_toArray,List.set_cons_zero,List.set_cons_succ]
 refine tkn 10 ?_ rfl ?_ ?_;rotate_left;·(intro w hSw;(have s1:=gb_keeps hSw c1);go_simp;try rfl)
 try simp only [Act.put,List.getElem_toArray,List.getElem_cons_zero,List.getElem_cons_succ,List.setIfInBounds_toArray,List.set_cons_zero,List.set_cons_succ]
 refine tkn 11 ?_ rfl ?_ ?_;rotate_left;·(intro w hSw;(have s1:=gb_keeps hSw c1);go_simp;try rfl)
 try simp only [Act.put,List.getElem_toArray,List.getElem_cons_zero,List.getElem_cons_succ,List.setIfInBounds_toArray,List.set_cons_zero,List.set_cons_succ]
 refine tkn 12 ?_ rfl ?_ ?_;rotate_left;·(intro w hSw;(have s1:=gb_keeps hSw c1);go_simp;try rfl)
 try simp only [Act.put,List.getElem_toArray,List.getElem_cons_zero,List.getElem_cons_succ,List.setIfInBounds_toArray,List.set_cons_zero,List.set_cons_succ]
 refine tkn 13 ?_ rfl ?_ ?_;rotate_left;·(intro w hSw;(have s1:=gb_keeps hSw c1);go_simp;try rfl)
 try simp only [Act.put,List.getElem_toArray,List.getElem_cons_zero,List.getElem_cons_succ,List.setIfInBounds_toArray,List.set_cons_zero,List.set_cons_succ]
 refine rdn 8 rfl (fun K hK=>?_)
 go_simp
 refine (cL _ hHeld).mono ?_
 rintro e w3 ⟨rfl,e3⟩
 subst e3
 refine hK.out _ _ (hHeld) (fun hHeld=>?_)
 clear hK K
 try simp only [Act.put,List.getElem_toArray,List.getElem_cons_zero,List.getElem_cons_succ,List.setIfInBounds_toArray,List.set_cons_zero,List.set_cons_succ]
 refine tkn 14 ?_ rfl ?_ ?_;rotate_left;·(intro w hSw;(have s1:=gb_keeps hSw c1);go_simp;try rfl)
 try simp only [Act.put,List.getElem_toArray,List.getElem_cons_zero,List.getElem_cons_succ,List.setIfInBounds_toArray,List.set_cons_zero,List.set_cons_succ]
 refine tkn 15 ?_ rfl ?_ ?_;rotate_left;·(intro w hSw;(have s1:=gb_keeps hSw c1);go_simp;try rfl)
 try simp only [Act.put,List.getElem_toArray,List.getElem_cons_zero,List.getElem_cons_succ,List.setIfInBounds_toArray,List.set_cons_zero,List.set_cons_succ]
 refine tkn 16 ?_ rfl ?_ ?_;rotate_left;·(intro w hSw;(have s1:=gb_keeps hSw c1);go_simp;try rfl)
 try simp only [Act.put,List.getElem_toArray,List.getElem_cons_zero,List.getElem_cons_succ,List.setIfInBounds_toArray,List.set_cons_zero,List.set_cons_succ]
 refine wpAnyH_done (by kernel_rfl) ?_ _
 have G2:Hid (Gb w1 w3):=hHeld
 have cS:=kspoil_c OO.out G1.out G2.out ⟨K5.out,KL.out.2⟩
 clear hHeld cK cL c1 GD
 go_wp2_with fail
 refine cS.mono ?_
 rintro e w4 ⟨rfl,g4⟩
 clear cS
 go_wp2
 go_ret
 exact ⟨rfl,g4⟩
end Go.Proofs.YtgbgejflmbhigaaGreat

namespace Go.Proofs.YtgbgejflmbhigaaGreat
open Go.RowKit Go.Sort
set_option maxRecDepth 100000
set_option maxHeartbeats 2000000
structure Fit (rs:List Rw) (ops:List Opv):Prop where
 rows:rs.length<=2000
 row:∀ i,i < rs.length->rs[i]!.2.length<=32768
 few:ops.length<=2000
 op:∀ i,i < ops.length->ops[i]!.2.1.2.length<=32768/\ops[i]!.2.2.length<=32768
def BigF (w:World) (rs:List Rw) (ops:List Opv) (e:Ending) (w':World):Prop:=∃ b,e=.returned (.bool b)/\Gb w w'/\(b=false->Fit rs ops)
theorem bsum64 {z x1 x2:Nat} (h:z + x1 + x2 < 9223372036854775808):wrap64 (wrap64 ((z:Int) + (x1:Int)) + (x2:Int))=((z + x1 + x2:Nat):Int):=by
 unfold wrap64
 omega
theorem kbig_f {w:World} {v u:Value} {rs:List Rw} {ops:List Opv} (hv:RdW w v rs) (hlen:rs.length<=4611686018427387904) (hrow:∀ i,i < rs.length->rs[i]!.2.length<=4611686018427387904) (hu:RdO w u ops) (hop:∀ i,i < ops.length->ops[i]!.2.1.2.length<=1152921504606846976/\ops[i]!.2.2.length<=1152921504606846976) :
  Calls Tryz.prog 4 #[v,u] w fun e w'=>BigF w rs ops e w':=by
 have c:=vects_b hv 32768 hlen (by omega) hrow
 obtain ⟨av,cv,rfl,_⟩:=hv
 have O:Hid (RdO w u ops):=hu
 have OP:Hid (∀ i,i < ops.length->ops[i]!.2.1.2.length<=1152921504606846976/\ops[i]!.2.2.length<=1152921504606846976):=hop
 obtain ⟨au,cu,rfl,_⟩:=hu
 obtain ⟨n,hN⟩:∃ n,n=ops.length:=⟨_,rfl⟩
 have N:Hid (n=ops.length):=hN
 obtain ⟨m,hM⟩:∃ m,m=rs.length:=⟨_,rfl⟩
 have M:Hid (m=rs.length):=hM
 rw [<- hN] at O ⊢
 rw [<- hM]
 simp only [<- hM] at c
 clear hN hM hlen hrow hop
 go_enter Tryz.func4,Tryz.ntmps4
 by_cases h1:2000 < (n:Int)
 ·go_wp2
  go_ret
  exact ⟨true,rfl,Below.refl _ _,fun e=>by cases e⟩
 by_cases h2:2000 < (m:Int)
 ·go_wp2
  go_ret
  exact ⟨true,rfl,Below.refl _ _,fun e=>by cases e⟩
 go_wp2_with fail
 refine c.mono ?_
 rintro e w' ⟨⟨z,rfl,hz0⟩,e2⟩
 subst e2
 clear c
 by_cases h3:32768 < z
 ·go_wp2
  go_ret
  exact ⟨true,rfl,Below.refl _ _,fun e=>by cases e⟩
 have VB:Hid (m + coords rs<=32768):=hz0 (by omega)
 clear hz0
 go_wp2
 go_loopw [5,6] (fun zv iv w'=>∃ (q z:Nat),zv=.int .i64 (z:Int)/\iv=.int .i64 (q:Int)/\q<=n/\z<=2305843009213726720/\Hid (Gb w w'/\∀ i,i < q->ops[i]!.2.1.2.length + ops[i]!.2.2.length<=z)) (fun _ iv _=>n - (intOf iv).toNat)
 case atStart=>exact ⟨0,0,rfl,rfl,Nat.zero_le _,Nat.zero_le _,Below.refl _ _,fun i hi=>absurd hi (Nat.not_lt_zero _)⟩
 case round =>
  obtain ⟨q,z,rfl,rfl,hq,hzz,G⟩:=hrel
  by_cases hqn:q < n
  ·have hqi:(q:Int) < (n:Int):=by omega
   by_cases hz:z<=32768
   ·rename_i w'
    have hzi:(z:Int)<=32768:=by omega
    obtain ⟨a,cap,ea,hO⟩:=(RdO.gb O.out G.out.1)
    obtain ⟨hp1,hp2⟩:ops[q]!.2.1.2.length<=1152921504606846976/\ops[q]!.2.2.length<=1152921504606846976:=OP.out q (by have:=N.out;omega)
    have KP:Hid (∀ i,i < q + 1->ops[i]!.2.1.2.length + ops[i]!.2.2.length<=z + ops[q]!.2.1.2.length + ops[q]!.2.2.length):=by
     intro i hi
     by_cases e:i=q
     ·subst e;omega
     ·have:=G.out.2 i (by omega);omega
    obtain ⟨b,o,rv,qv,e0,⟨c0,c1,c2,c3,c4,c5,c6⟩,⟨a1,k1,e1,_⟩,⟨a2,k2,e2,_⟩⟩:=hO q (by have:=N.out;omega)
    injection ea with ea1 ea2 ea3
    subst ea1 ea3 e0 e1 e2
    generalize ops[q]!.2.1.2.length=x1 at *
    generalize ops[q]!.2.2.length=x2 at *
    have HB:Hid (z + x1 + x2 < 9223372036854775808):=by unfold Hid;omega
    have HC:Hid (z + x1 + x2<=2305843009213726720):=by unfold Hid;omega
    clear ea2 hO c0 c1 c2 c3 c4 hp1 hp2
    go_wp2
    go_quiet (fail)
    go_wp2
    go_roundw
    case rel=>exact ⟨q + 1,z + x1 + x2,by rw [bsum64 HB.out],by first | rfl | go_num | simp,hqn,HC.out,gb_trans G.out.1 (gw_drewN (Tk.Gw.refl _) _).gr,KP.out⟩
    case measure=>simp [intOf];omega
   ·have hzi:¬ (z:Int)<=32768:=by omega
    have hzj:(32768:Int) < (z:Int):=by omega
    go_wp2
    go_ret
    exact ⟨true,rfl,G.out.1,fun e=>by cases e⟩
  ·have hqi:¬ (q:Int) < (n:Int):=by omega
   by_cases hz:32768 < z
   ·have hzj:(32768:Int) < (z:Int):=by omega
    go_wp2
    go_ret
    exact ⟨true,rfl,G.out.1,fun e=>by cases e⟩
   ·have hzj:¬ (32768:Int) < (z:Int):=by omega
    have FT:Hid (Fit rs ops):=by
     have hm:=M.out
     have hn:=N.out
     have hv:=VB.out
     refine ⟨by omega,fun i hi=>?_,by omega,fun i hi=>?_⟩
     ·have:=coords_row hi;omega
     ·have:=G.out.2 i (by omega);omega
    go_wp2
    go_ret
    exact ⟨false,rfl,G.out.1,fun _=>FT.out⟩
theorem kright_c (A B S:Int) (w:World):Calls Tryz.prog 19 #[.agg #[.int .i64 A,.int .i64 B,.int .u64 S]] w fun e w'=>e=.returned (.bool (decide (1<=A/\A<=64)))/\Gb w w':=by
 have g:Gb w (w.alloc (.cells #[.int .i64 A,.int .i64 B,.int .u64 S] 25)):=gb_alloc (Below.refl _ _) _
 by_cases h1:1<=A
 ·by_cases h2:A<=64
  ·rw [decide_eq_true ⟨h1,h2⟩]
   go_enter Tryz.func19,Tryz.ntmps19
   go_wp2
   go_ret
   exact ⟨rfl,g⟩
  ·rw [decide_eq_false (fun h=>h2 h.2)]
   have h2':64 < A:=by omega
   go_enter Tryz.func19,Tryz.ntmps19
   go_wp2
   go_ret
   exact ⟨rfl,g⟩
 ·rw [decide_eq_false (fun h=>h1 h.1)]
  have h1':A < 1:=by omega
  go_enter Tryz.func19,Tryz.ntmps19
  go_wp2
  go_ret
  exact ⟨rfl,g⟩
theorem kwrong_c {w:World} {v:Value} {rs:List Rw} (hv:RdW w v rs) (hlen:rs.length<=4611686018427387904) (d A B S:Int) :
  Calls Tryz.prog 7 #[v,.int .i64 d,.agg #[.int .i64 A,.int .i64 B,.int .u64 S]] w fun e w'=>e=.returned (.int .i64 (bldE rs d A))/\Gb w w':=by
 have gA:Gb w (w.alloc (.cells #[.int .i64 A,.int .i64 B,.int .u64 S] 25)):=gb_alloc (Below.refl _ _) _
 obtain ⟨w1,hw1⟩:∃ w1,w1=w.alloc (.cells #[.int .i64 A,.int .i64 B,.int .u64 S] 25):=⟨_,rfl⟩
 rw [<- hw1] at gA
 have d0:w1.cell? ⟨w.heap.size,0,none⟩=some (.int .i64 A):=by rw [hw1];simp [go_sem]
 have d1:w1.cell? ⟨w.heap.size,1,none⟩=some (.int .i64 B):=by rw [hw1];simp [go_sem]
 have d2:w1.cell? ⟨w.heap.size,2,none⟩=some (.int .u64 S):=by rw [hw1];simp [go_sem]
 have cF:=rflat_c (hv.gb gA) hlen d
 have cR:=fun W=>kright_c A B S W
 have E1:Hid (flatE rs d ≠ 0->bldE rs d A=flatE rs d):=fun h=>by unfold bldE;rw [if_neg h]
 have E2:Hid (flatE rs d=0->(1<=A/\A<=64)->bldE rs d A=0):=fun h h2=>by unfold bldE;rw [if_pos h,if_pos h2]
 have E3:Hid (flatE rs d=0->¬ (1<=A/\A<=64)->bldE rs d A=1):=fun h h2=>by unfold bldE;rw [if_pos h,if_neg h2]
 obtain ⟨av,cv,ev,_⟩:=hv
 subst ev
 generalize bldE rs d A=be at *
 generalize flatE rs d=z at *
 generalize rs.length=n at *
 clear hlen
 go_enter Tryz.func7,Tryz.ntmps7
 go_wp2_with fail
 rw [<- hw1]
 clear hw1
 refine cF.mono ?_
 rintro e w2 ⟨rfl,g2'⟩
 have g2:=g2'.gb
 have d0:=gb_keeps g2 d0
 have d1:=gb_keeps g2 d1
 have d2:=gb_keeps g2 d2
 have G2:=gb_trans gA g2
 clear cF
 by_cases hz:z=0
 ·subst hz
  have cR:=cR w2
  go_wp2_with fail
  refine cR.mono ?_
  rintro e w3 ⟨rfl,g3⟩
  have G3:=gb_trans G2 g3
  clear cR d0 d1 d2
  by_cases h2:1<=A/\A<=64
  ·have R:Hid (be=0):=E2.out (by first | rfl | trivial) h2
   rw [decide_eq_true h2]
   clear h2
   go_wp2
   go_ret
   exact ⟨by rw [R.out];rfl,G3⟩
  ·have R:Hid (be=1):=E3.out (by first | rfl | trivial) h2
   rw [decide_eq_false h2]
   clear h2
   go_wp2
   go_ret
   exact ⟨by rw [R.out];rfl,G3⟩
 ·have hzb:(z == 0)=false:=by rw [beq_eq_false_iff_ne];exact hz
  have R:Hid (be=z):=E1.out hz
  clear cR d0 d1 d2
  go_wp2
  go_ret
  exact ⟨by rw [R.out];rfl,G2⟩
end Go.Proofs.YtgbgejflmbhigaaGreat
