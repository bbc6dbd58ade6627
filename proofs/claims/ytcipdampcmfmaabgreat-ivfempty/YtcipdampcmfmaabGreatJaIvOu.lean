import Derived.Test.YtcipdampcmfmaabGreatJaIvOs
import Derived.Test.YtcipdampcmfmaabGreatJa20
import Derived.Test.YtcipdampcmfmaabGreatJa4
namespace Go.Proofs.YtcipdampcmfmaabGreat
open Go.RowKit Go.Sort Go.Maps
set_option maxRecDepth 100000
set_option maxHeartbeats 4000000
def plQ (q:Nat):List Int:=(List.range q).map fun (i:Nat)=>(i:Int)
def flQ (C:Vs) (v:List Int) (q:Nat):List Nat:=(List.range q).map fun i=>dst C[i]! v
theorem plQ_len (q:Nat):(plQ q).length=q:=by simp [plQ]
theorem flQ_len (C:Vs) (v:List Int) (q:Nat):(flQ C v q).length=q:=by simp [flQ]
theorem plQ_next (q:Nat):plQ (q + 1)=plQ q ++ [(q:Int)]:=by simp [plQ,List.range_succ]
theorem flQ_next (C:Vs) (v:List Int) (q:Nat):flQ C v (q + 1)=flQ C v q ++ [dst C[q]! v]:=by simp [flQ,List.range_succ]
def ltO (C:Vs) (v:List Int) (x y:Int):Prop:=dst C[x.toNat]! v < dst C[y.toNat]! v ∨ (dst C[x.toNat]! v=dst C[y.toNat]! v/\x < y)
def OuI (w:World) (bf:Nat) (C:Vs) (v:List Int) (q:Nat) (pv:Value) (W:World):Prop:=∃ pa pc fa fc,pv=.slice pa q pc/\OuS w W bf (.slice pa q pc) (.slice fa q fc) (plQ q) (flQ C v q)
theorem wide_lt {a b:Nat}:(hi a < hi b ∨ (hi a=hi b/\lo a < lo b)) ↔ a < b:=by
 unfold hi lo
 omega
theorem OuI.sort_c {w W:World} {bf n:Nat} {C:Vs} {v:List Int} {pv:Value} (h:OuI w bf C v n pv W) (hn:n<=64):∃ g cap,pv=.slice (some ⟨g,0,none⟩) n cap /\
  Calls Tryz.prog 52 #[.slice (some ⟨g,0,none⟩) n cap,.func (.func 53) #[] #[.pointer (some ⟨bf,0,none⟩)]] W fun e w'=>e=.returned (.tuple #[])/\Hid (∃ l,l.Perm (plQ n)/\Ri (ltO C v) l 0 n/\RdI w' (.slice (some ⟨g,0,none⟩) n cap) l/\(n<=cap/\w.heap.size<=g)/\Gb w w'):=by
 obtain ⟨pa,pc,fa,fc,rfl,h⟩:=h
 have hpw:=h.pw
 obtain ⟨g,cur,hg,hB,hh,hle,htk⟩:∃ (g:Nat) (cur:Array Value),Value.slice pa n pc=.slice (some ⟨g,0,none⟩) n pc/\w.heap.size<=g/\W.heap[g]? = some (.cells cur 3 (0,0))/\n<=pc/\cur.toList.take (n * 1)=(plQ n).map (Value.int .i64):=by
  rcases hpw.2 with ⟨e,_⟩ | ⟨g,cap,cur,e,hB,hh,hle,_,_,htk⟩
  ·exact absurd e h.pn
  ·rw [plQ_len] at e hle htk
   injection e with e1 e2 e3
   subst e1 e3
   exact ⟨g,cur,rfl,hB,hh,hle,htk⟩
 have hcell:∀ i,i < n->cur[i]? = some (.int .i64 (i:Int)):=fun i hi=>by
  have:(cur.toList.take (n * 1))[i]? = ((plQ n).map (Value.int .i64))[i]? := by rw [htk]
  rw [List.getElem?_take_of_lt (by omega),Array.getElem?_toList] at this
  rw [this]
  simp [plQ,hi]
 have hpl:∀ i,i < n->(plQ n)[i]! = (i:Int):=fun i hi=>by
  rw [getElem!_pos (plQ n) i (by rw [plQ_len];exact hi)]
  simp [plQ]
 have ia:IA W g 0 (plQ n):=⟨cur,3,hh,fun i hi=>by
  rw [plQ_len] at hi
  rw [Nat.zero_add,hpl i hi]
  exact hcell i hi⟩
 obtain ⟨fb,fcur,ef,hfh,hfc⟩:∃ (fb:Nat) (fcur:Array Value),Value.slice fa n fc=.slice (some ⟨fb,0,none⟩) n fc/\W.heap[fb]? = some (.cells fcur 40 (0,0))/\∀ i,i < n->fcur[i * 2]? = some (.int .u64 (hi (dst C[i]! v)))/\fcur[i * 2 + 1]? = some (.int .u64 (lo (dst C[i]! v))):=by
  rcases h.fw.2 with ⟨e,_⟩ | ⟨g,cap,cur,e,hB,hh,hle,_,_,htk⟩
  ·exact absurd e h.fn
  ·rw [flQ_len] at e hle htk
   injection e with e1 e2 e3
   subst e1 e3
   refine ⟨g,cur,rfl,hh,fun i hi=>?_⟩
   have key:∀ j,j < 2->cur[i * 2 + j]? = (encW (dst C[i]! v))[j]? := fun j hj=>by
    have:(cur.toList.take (n * 2))[i * 2 + j]? = ((flQ C v n).flatMap encW)[i * 2 + j]? := by rw [htk]
    rw [List.getElem?_take_of_lt (by omega),Array.getElem?_toList] at this
    rw [this]
    have fg:∀ (L:List Nat) (i j:Nat) (hi:i < L.length),j < 2->(L.flatMap encW)[i * 2 + j]? = (encW L[i])[j]? := by
     intro L
     induction L with
     | nil=>intro i j hi;simp at hi
     | cons x r ih =>
      intro i j hi hj
      cases i with
      | zero=>rw [List.flatMap_cons,List.getElem?_append_left (by simp;omega)];simp
      | succ i =>
       rw [List.flatMap_cons,List.getElem?_append_right (by simp;omega)]
       have:=ih i j (by simpa using hi) hj
       simp only [List.length_cons,List.length_nil,List.getElem_cons_succ]
       rw [<- this]
       congr 1
       omega
    rw [fg (flQ C v n) i j (by rw [flQ_len];exact hi) hj]
    simp [flQ]
   exact ⟨key 0 (by omega),key 1 (by omega)⟩
 rw [ef] at h
 have nbf:bf ≠ g:=fun e=>by
  have:=h.tv
  rw [e,hh] at this;simp at this
 have nfb:fb ≠ g:=fun e=>by
  rw [e,hh] at hfh;simp at hfh
 have memI:∀ x ∈ plQ n,∃ i:Nat,x=(i:Int)/\i < n:=fun x hx=>by
  unfold plQ at hx
  obtain ⟨i,hi,rfl⟩:=List.mem_map.1 hx
  exact ⟨i,rfl,List.mem_range.1 hi⟩
 have cm:CmpI W g bf (plQ n) (fun x y=>dst C[x.toNat]! v < dst C[y.toNat]! v):=fun W' k x y hx hy=>by
  obtain ⟨i,rfl,hi'⟩:=memI x hx
  obtain ⟨j,rfl,hj'⟩:=memI y hy
  have fA:FarA W' bf fb n (fun i=>hi (dst C[i]! v)) (fun i=>lo (dst C[i]! v)):=⟨⟨fc,k.cell h.var nbf⟩,fun t ht=>⟨k.cell (cell_cur hfh (hfc t ht).1) nfb,k.cell (cell_cur hfh (hfc t ht).2) nfb⟩⟩
  refine (outward1_c fA hi' hj').mono ?_
  rintro e w' ⟨z,rfl,hz,gw⟩
  refine ⟨z,rfl,?_,gw⟩
  rw [hz,wide_lt]
  dsimp only
  rw [Int.toNat_natCast,Int.toNat_natCast]
 have tg:Tag (fun x y=>dst C[x.toNat]! v < dst C[y.toNat]! v) (ltO C v) (plQ n) 0 (plQ n).length:=fun i j _ hij hj=>by
  rw [plQ_len] at hj
  rw [hpl i (by omega),hpl j hj]
  unfold ltO
  dsimp only
  rw [Int.toNat_natCast,Int.toNat_natCast]
  generalize dst C[i]! v=di
  generalize dst C[j]! v=dj
  have:(i:Int) < (j:Int):=by omega
  constructor
  ·omega
  ·omega
 refine ⟨g,pc,hg,?_⟩
 have S:=sortStableI (cap:=pc) (lt:=ltO C v) (fun x y z h1 h2=>by unfold ltO at *;omega) ia (by rw [plQ_len];omega) tg cm
 rw [plQ_len] at S
 refine S.mono ?_
 rintro e w' ⟨rfl,l,pm,ri,ia',k⟩
 have hl:l.length=n:=by rw [pm.length_eq,plQ_len]
 refine ⟨rfl,l,pm,ri,⟨_,pc,by rw [hl],fun i hi=>⟨g,0,rfl,ia'.cell hi⟩⟩,⟨hle,hB⟩,?_⟩
 exact h.gb.trans (k.gr h.gb.size (fun b e=>by rw [e];exact hB))
theorem outward_c {Iq:Nat->Prop} {w:World} {tb m:Nat} {C:Vs} {rs:List Rw} {F:List Nat} {u:Value} {v:List Int} (h:TreeAt Iq w tb m C rs F) (hu:RdI w u v) (hv:chk v (m:Int)=0) :
  Calls Tryz.prog 28 #[.pointer (some ⟨tb,0,none⟩),u] w fun e w'=>∃ g cap l,e=.returned (.slice (some ⟨g,0,none⟩) C.length cap)/\l.Perm (plQ C.length)/\Ri (ltO C v) l 0 C.length/\RdI w' (.slice (some ⟨g,0,none⟩) C.length cap) l/\(C.length<=cap/\w.heap.size<=g)/\Gb w w':=by
 obtain ⟨gc,cc,lb,pb,ks,pk,f,pf,G,o,rfl⟩:=h.opn
 obtain ⟨c0,c1,_,_⟩:=o.cells
 obtain ⟨hC1,hC2,hC3⟩:=o.cok
 have hcen:=o.cen.rd cc
 obtain ⟨i0,hi0,hz0,hz1,hz2⟩:=info_i3
 obtain ⟨w1,hmk,ho,hg⟩:=run_make_own (P:=Tryz.prog) w w.heap.size 26 3 i0 (.int .i64 0) 1 Tryz.underlying26 hi0 hz0 hz1 .i64 .i64 C.length (by rw [hz2];omega) (by simp only [maxLen];omega) (Nat.le_refl _)
 obtain ⟨j0,hj0,hy0,hy1,hy2⟩:=info_wd
 have g1:Gb w w1:=below_grown (Below.refl _ _) hg (fun k e=>by cases e) (Nat.le_refl _)
 obtain ⟨w2,hmk2,ho2,hg2⟩:=run_make_own (P:=Tryz.prog) w1 w.heap.size 115 40 j0 (.agg #[.int .u64 0,.int .u64 0]) 2 Tryz.underlying115 hj0 hy0 hy1 .i64 .i64 C.length (by rw [hy2];omega) (by simp only [maxLen];omega) g1.size
 have g2:Gb w w2:=below_grown g1 hg2 (fun k e=>by cases e) g1.size
 have gA:Gb w2 (w2.alloc (.cells #[.slice (some ⟨w1.heap.size,0,none⟩) 0 C.length] 115)):=gb_alloc (Below.refl _ _) _
 have bA:(w2.alloc (.cells #[.slice (some ⟨w1.heap.size,0,none⟩) 0 C.length] 115)).heap[w2.heap.size]? = some (.cells #[.slice (some ⟨w1.heap.size,0,none⟩) 0 C.length] 115 (0,0)):=heap_new _ _
 have ST:Hid (OuI w w2.heap.size C v 0 (.slice (some ⟨w.heap.size,0,none⟩) 0 C.length) (w2.alloc (.cells #[.slice (some ⟨w1.heap.size,0,none⟩) 0 C.length] 115))):=by
  refine ⟨_,_,_,_,rfl,⟨?_,own_kpR ho2 (kpF gA) (fun _ _ h=>h),cell_cur bA rfl,bA,g2.size,gb_trans g2 gA,by simp,by simp,by simp [plQ,flQ]⟩⟩
  have o1:Own w1 w.heap.size (.slice (some ⟨w.heap.size,0,none⟩) 0 C.length) []:=ho
  have o2:Own w2 w.heap.size (.slice (some ⟨w.heap.size,0,none⟩) 0 C.length) []:=o1.kept hg2 (.inr (by simp [Value.ownBlock]))
  exact o2.gb gA
 have x1:=gb_keeps g1 c1
 have x2:=gb_keeps g2 c1
 have x3:=gb_keeps gA x2
 have t1:tb < w1.heap.size:=cell_lt x1
 have t2:tb < w2.heap.size:=cell_lt x2
 have RD:Hid (∀ i,i < C.length->∃ (au:Option Addr) (nu cu:Nat),w.cell? ⟨gc,i,none⟩=some (.slice au nu cu)/\∀ W,Gb w W->Calls Tryz.prog 51 #[.slice au nu cu,u] W fun e w'=>e=.returned (.tuple #[.agg #[.int .u64 (hi (dst C[i]! v)),.int .u64 (lo (dst C[i]! v))],.int .i64 0])/\Gb W w'):=fun i hi'=>by
  obtain ⟨a,cap,e,hc⟩:=hcen
  injection e with e1 e2 e3
  subst e1
  obtain ⟨b,o',y,ea,k1,k2⟩:=hc i hi'
  injection ea with ea
  injection ea with ea1 ea2 _
  subst ea1 ea2
  obtain ⟨au,cu,eu,_⟩:=id k2
  rw [eu,Nat.zero_add] at k1
  refine ⟨au,_,cu,k1,fun W g=>?_⟩
  have:=dist_c (k2.gb g) (hu.gb g)
  obtain ⟨d1,d2⟩:=near_dist hC1 hv hi'
  rw [d1,d2,eu] at this
  exact this.mono fun e w' hh=>⟨hh.1,hh.2.gb⟩
 have NX:Hid (∀ q,q < C.length->∀ W g1 c1 g2 c2,OuS w W w2.heap.size (.slice (some ⟨g1,0,none⟩) (q + 1) c1) (.slice (some ⟨g2,0,none⟩) (q + 1) c2) (plQ q ++ [(q:Int)]) (flQ C v q ++ [dst C[q]! v])->Hid (OuI w w2.heap.size C v (q + 1) (.slice (some ⟨g1,0,none⟩) (q + 1) c1) W)):=fun q _ W g1 c1 g2 c2 hS=>by
  refine ⟨some ⟨g1,0,none⟩,c1,some ⟨g2,0,none⟩,c2,rfl,?_⟩
  rw [plQ_next,flQ_next]
  exact hS
 obtain ⟨ua,uc,eu,_⟩:=hu
 subst eu
 generalize v.length=nv at *
 obtain ⟨n,hN⟩:∃ n,n=C.length:=⟨_,rfl⟩
 rw [<- hN] at hmk hmk2 ST RD NX c1 x1 x2 x3 hC2 hC3 ⊢
 have GX:Hid (Gb w w2):=g2
 have CX:Hid (w.cell? ⟨tb,1,none⟩=some (.slice (some ⟨gc,0,none⟩) n cc)):=c1
 have hn5:n<=64:=hC3
 clear ho hg ho2 hg2 bA gA g1 g2 hi0 hz0 hz1 hz2 hj0 hy0 hy1 hy2 o h hcen hC1 hC2 hC3 c0 hN hv
 go_enter Tryz.func28,Tryz.ntmps28
 go_wp2
 clear hmk hmk2
 go_loopw [5,28] (fun pv iv W=>∃ q:Nat,iv=.int .i64 (q:Int)/\q<=n/\Hid (OuI w w2.heap.size C v q pv W)) (fun _ iv _=>n - (intOf iv).toNat)
 case atStart=>exact ⟨0,rfl,Nat.zero_le _,ST⟩
 case round =>
  clear ST
  obtain ⟨q,rfl,hq,XI⟩:=hrel
  by_cases hqn:q < n
  ·have hqi:(q:Int) < (n:Int):=by omega
   obtain ⟨pa,pc,fa,fc,epv,hO⟩:=XI.out
   obtain ⟨au,nu,cu,k1,cD⟩:=RD.out q hqn
   have k1:=gb_keeps hO.gb k1
   have cD:=cD wr hO.gb
   have NXT0:=NX.out q hqn
   have hpl:=plQ_len q
   have hfl:=flQ_len C v q
   generalize plQ q=pl at *
   generalize flQ C v q=fl at *
   obtain ⟨dd,hdd⟩:∃ dd,dd=dst C[q]! v:=⟨_,rfl⟩
   rw [<- hdd] at cD NXT0
   have NXT:Hid _:=NXT0
   have HO:Hid (OuS w wr w2.heap.size (.slice pa q pc) (.slice fa q fc) pl fl/\pl.length=q/\fl.length=q):=⟨hO,hpl,hfl⟩
   subst epv
   clear hO hpl hfl NXT0 hdd XI RD NX
   go_wp2_with fail
   go_fit cD
   rintro e w3 ⟨rfl,g3⟩
   obtain ⟨hO,hpl,hfl⟩:=HO.out
   have gX:Gb wr (w3.alloc (.cells #[.int .u64 (hi dd),.int .u64 (lo dd)] 40)).drew:=(gb_alloc g3 _).drew
   obtain ⟨X0,hX0⟩:∃ X0,X0=(w3.alloc (.cells #[.int .u64 (hi dd),.int .u64 (lo dd)] 40)).drew:=⟨_,rfl⟩
   have gX0:Gb wr X0:=by rw [hX0];exact gX
   obtain ⟨ab,hab0⟩:∃ ab,ab=w3.heap.size:=⟨_,rfl⟩
   have FS7:(fun W2=>W2.cell? ⟨ab,0,none⟩=some (.int .u64 (hi dd))/\W2.cell? ⟨ab,1,none⟩=some (.int .u64 (lo dd))) (w3.alloc (.cells #[.int .u64 (hi dd),.int .u64 (lo dd)] 40)).drew:=by rw [hab0];exact ⟨by simp [go_sem],by simp [go_sem]⟩
   have tA:Ty X0 ab 40:=⟨#[.int .u64 (hi dd),.int .u64 (lo dd)],(0,0),by rw [hX0,hab0];exact heap_new _ _⟩
   have hab:(Value.slice fa q fc).ownBlock ≠ some ab/\ab ≠ w2.heap.size:=by
    have s3:=g3.size
    refine ⟨fun e=>?_,?_⟩
    ·have:=(hO.fw.lt ab e).2
     omega
    ·have:=(Array.getElem?_eq_some_iff.1 hO.tv).1
     omega
   have hO:=hO.grow gX0
   have HO2:Hid _:=hO
   clear cD gX gX0 g3 HO k1 hO
   go_wp2_with fail
   have hO:=HO2.out
   clear HO2
   try rw [<- hab0]
   clear hab0
   refine wp_region_held_drew (S:=fun W2=>W2.cell? ⟨ab,0,none⟩=some (.int .u64 (hi dd))/\W2.cell? ⟨ab,1,none⟩=some (.int .u64 (lo dd))) (by kernel_rfl) (FS7) (fun hHeld=>?_)
   rw [<- hX0]
   have hHeld:X0.cell? ⟨ab,0,none⟩=some (.int .u64 (hi dd))/\X0.cell? ⟨ab,1,none⟩=some (.int .u64 (lo dd)):=by rw [hX0];exact hHeld
   clear hX0 FS7
   refine tkn 0 ?_ rfl ?_ ?_;rotate_left;·(intro w hSw;(skip);go_simp;try rfl)
   refine tkn 1 ?_ rfl ?_ ?_;rotate_left;·(intro w hSw;(skip);go_simp;try rfl)
   refine tkn 5 ?_ rfl ?_ ?_;rotate_left;·(rintro w ⟨s0,s1⟩;go_simp;try rfl)
   try simp only [pt]
   refine wpAnyH_ready (rs:=[2,4,6]) (by kernel_rfl) (by simp) ?_
   refine AllReadyH.cons rfl (fun K hK=>?_) (AllReadyH.cons rfl (fun K hK=>?_) (AllReadyH.cons rfl (fun K hK=>?_) AllReadyH.nil))
   ·go_simp
    obtain ⟨X02,hX02⟩:∃ Y,Y=X0.alloc (.cells #[.int .i64 (q:Int)] 3):=⟨_,rfl⟩
    have gY:Gb X0 X02:=by rw [hX02];exact gb_alloc (Below.refl _ _) _
    have hO:=hO.grow gY
    have kA:X02.cell? ⟨X0.heap.size,0,none⟩=some (.int .i64 (q:Int)):=by rw [hX02];simp [go_sem]
    have tA:=tA.gb gY
    refine hK.out _ _ (by rw [<- hX02];exact ⟨gb_keeps gY hHeld.1,gb_keeps gY hHeld.2⟩) (fun hHeld=>?_)
    clear hK K
    rw [<- hX02] at hHeld ⊢
    try simp only [pt]
    clear hX02 gY
    generalize X0.heap.size=na at *
    refine wpAnyH_ready (rs:=[3,4,6]) (by kernel_rfl) (by simp) ?_
    refine AllReadyH.cons rfl (fun K hK=>?_) (AllReadyH.cons rfl (fun K hK=>?_) (AllReadyH.cons rfl (fun K hK=>?_) AllReadyH.nil))
    ·obtain ⟨g7,c7,X023,hrun7,hO,fr7⟩:=hO.putP kA (by rw [hpl];omega)
     rw [hpl] at hrun7 hO
     have hH2:=And.intro (fr7.cell hHeld.1 tA (by decide)) (fr7.cell hHeld.2 tA (by decide))
     have tA:=fr7.ty tA (by decide)
     refine app_run (by rfl) _ _ _ (by rfl) ⟨.slice pa q pc,.slice (some ⟨na,0,none⟩) 1 1,_,_,(by go_simp),(by go_simp),hrun7,?_⟩
     refine hK.out _ _ (hH2) (fun hHeld=>?_)
     clear hK K
     try simp only [pt]
     refine wpAnyH_ready (rs:=[4,6]) (by kernel_rfl) (by simp) ?_
     refine AllReadyH.cons rfl (fun K hK=>?_) (AllReadyH.cons rfl (fun K hK=>?_) AllReadyH.nil)
     ·have l4:=hO.var
      go_simp
      clear l4
      refine hK.out _ _ (hHeld) (fun hHeld=>?_)
      clear hK K
      refine rdn 6 rfl (fun K hK=>?_)
      go_simp
      obtain ⟨X0236,hX0236⟩:∃ Y,Y=X023.alloc (.cells #[.int .u64 (hi dd),.int .u64 (lo dd)] 40):=⟨_,rfl⟩
      have gY:Gb X023 X0236:=by rw [hX0236];exact gb_alloc (Below.refl _ _) _
      have hO:=hO.grow gY
      have kB0:X0236.cell? ⟨X023.heap.size,0,none⟩=some (.int .u64 (hi dd)):=by rw [hX0236];simp [go_sem]
      have kB1:X0236.cell? ⟨X023.heap.size,1,none⟩=some (.int .u64 (lo dd)):=by rw [hX0236];simp [go_sem]
      have tB:Ty X0236 X023.heap.size 40:=⟨_,_,by rw [hX0236];exact heap_new _ _⟩
      obtain ⟨nb,hnb⟩:∃ nb,nb=X023.heap.size:=⟨_,rfl⟩
      rw [<- hnb] at kB0 kB1 tB
      have tA:=tA.gb gY
      refine hK.out _ _ (by rw [<- hX0236];exact ⟨gb_keeps gY hHeld.1,gb_keeps gY hHeld.2⟩) (fun hHeld=>?_)
      clear hK K
      rw [<- hX0236] at hHeld ⊢
      try rw [<- hnb]
      try simp only [pt]
      clear hX0236 gY hnb
      refine rdn 7 rfl (fun K hK=>?_)
      obtain ⟨g8,c8,W8,hrun8,d8,⟨y8,v8⟩,f8,e8,hN⟩:=hO.putF kB0 kB1 hHeld.1 hHeld.2 hab (by rw [hfl];omega)
      rw [hfl] at hrun8 e8 hN
      refine app_run (by rfl) _ _ _ (by rfl) ⟨.slice fa q fc,.slice (some ⟨nb,0,none⟩) 1 1,_,_,(by go_simp),(by go_simp),hrun8,?_⟩
      refine hK.out _ _ (d8) (fun hHeld=>?_)
      clear hK K
      refine tkn 8 ?_ rfl ?_ ?_;rotate_left;·(intro w hSw;(skip);go_simp;try rfl)
      refine rdn 9 rfl (fun K hK=>?_)
      go_simp
      refine hK.out _ _ (e8) (fun hHeld=>?_)
      clear hK K
      refine wpAnyH_done (by kernel_rfl) ?_ _
      have XX:=NXT.out _ _ _ _ _ hN
      clear hHeld hrun8 d8 v8 f8 e8 hN hO kA kB0 kB1 tA NXT
      go_wp2
      go_roundw
      case rel=>exact ⟨q + 1,by first | rfl | go_num,by omega,XX⟩
      case measure=>simp [intOf];omega
     ·go_simp
      obtain ⟨X0236,hX0236⟩:∃ Y,Y=X023.alloc (.cells #[.int .u64 (hi dd),.int .u64 (lo dd)] 40):=⟨_,rfl⟩
      have gY:Gb X023 X0236:=by rw [hX0236];exact gb_alloc (Below.refl _ _) _
      have hO:=hO.grow gY
      have kB0:X0236.cell? ⟨X023.heap.size,0,none⟩=some (.int .u64 (hi dd)):=by rw [hX0236];simp [go_sem]
      have kB1:X0236.cell? ⟨X023.heap.size,1,none⟩=some (.int .u64 (lo dd)):=by rw [hX0236];simp [go_sem]
      have tB:Ty X0236 X023.heap.size 40:=⟨_,_,by rw [hX0236];exact heap_new _ _⟩
      obtain ⟨nb,hnb⟩:∃ nb,nb=X023.heap.size:=⟨_,rfl⟩
      rw [<- hnb] at kB0 kB1 tB
      have tA:=tA.gb gY
      refine hK.out _ _ (by rw [<- hX0236];exact ⟨gb_keeps gY hHeld.1,gb_keeps gY hHeld.2⟩) (fun hHeld=>?_)
      clear hK K
      rw [<- hX0236] at hHeld ⊢
      try rw [<- hnb]
      try simp only [pt]
      clear hX0236 gY hnb
      refine rdn 4 rfl (fun K hK=>?_)
      have l4:=hO.var
      go_simp
      clear l4
      refine hK.out _ _ (hHeld) (fun hHeld=>?_)
      clear hK K
      refine rdn 7 rfl (fun K hK=>?_)
      obtain ⟨g8,c8,W8,hrun8,d8,⟨y8,v8⟩,f8,e8,hN⟩:=hO.putF kB0 kB1 hHeld.1 hHeld.2 hab (by rw [hfl];omega)
      rw [hfl] at hrun8 e8 hN
      refine app_run (by rfl) _ _ _ (by rfl) ⟨.slice fa q fc,.slice (some ⟨nb,0,none⟩) 1 1,_,_,(by go_simp),(by go_simp),hrun8,?_⟩
      refine hK.out _ _ (d8) (fun hHeld=>?_)
      clear hK K
      refine tkn 8 ?_ rfl ?_ ?_;rotate_left;·(intro w hSw;(skip);go_simp;try rfl)
      refine rdn 9 rfl (fun K hK=>?_)
      go_simp
      refine hK.out _ _ (e8) (fun hHeld=>?_)
      clear hK K
      refine wpAnyH_done (by kernel_rfl) ?_ _
      have XX:=NXT.out _ _ _ _ _ hN
      clear hHeld hrun8 d8 v8 f8 e8 hN hO kA kB0 kB1 tA NXT
      go_wp2
      go_roundw
      case rel=>exact ⟨q + 1,by first | rfl | go_num,by omega,XX⟩
      case measure=>simp [intOf];omega
    ·have l4:=hO.var
     go_simp
     clear l4
     refine hK.out _ _ (hHeld) (fun hHeld=>?_)
     clear hK K
     refine wpAnyH_ready (rs:=[3,6]) (by kernel_rfl) (by simp) ?_
     refine AllReadyH.cons rfl (fun K hK=>?_) (AllReadyH.cons rfl (fun K hK=>?_) AllReadyH.nil)
     ·obtain ⟨g7,c7,X023,hrun7,hO,fr7⟩:=hO.putP kA (by rw [hpl];omega)
      rw [hpl] at hrun7 hO
      have hH2:=And.intro (fr7.cell hHeld.1 tA (by decide)) (fr7.cell hHeld.2 tA (by decide))
      have tA:=fr7.ty tA (by decide)
      refine app_run (by rfl) _ _ _ (by rfl) ⟨.slice pa q pc,.slice (some ⟨na,0,none⟩) 1 1,_,_,(by go_simp),(by go_simp),hrun7,?_⟩
      refine hK.out _ _ (hH2) (fun hHeld=>?_)
      clear hK K
      try simp only [pt]
      refine rdn 6 rfl (fun K hK=>?_)
      go_simp
      obtain ⟨X0236,hX0236⟩:∃ Y,Y=X023.alloc (.cells #[.int .u64 (hi dd),.int .u64 (lo dd)] 40):=⟨_,rfl⟩
      have gY:Gb X023 X0236:=by rw [hX0236];exact gb_alloc (Below.refl _ _) _
      have hO:=hO.grow gY
      have kB0:X0236.cell? ⟨X023.heap.size,0,none⟩=some (.int .u64 (hi dd)):=by rw [hX0236];simp [go_sem]
      have kB1:X0236.cell? ⟨X023.heap.size,1,none⟩=some (.int .u64 (lo dd)):=by rw [hX0236];simp [go_sem]
      have tB:Ty X0236 X023.heap.size 40:=⟨_,_,by rw [hX0236];exact heap_new _ _⟩
      obtain ⟨nb,hnb⟩:∃ nb,nb=X023.heap.size:=⟨_,rfl⟩
      rw [<- hnb] at kB0 kB1 tB
      have tA:=tA.gb gY
      refine hK.out _ _ (by rw [<- hX0236];exact ⟨gb_keeps gY hHeld.1,gb_keeps gY hHeld.2⟩) (fun hHeld=>?_)
      clear hK K
      rw [<- hX0236] at hHeld ⊢
      try rw [<- hnb]
      try simp only [pt]
      clear hX0236 gY hnb
      refine rdn 7 rfl (fun K hK=>?_)
      obtain ⟨g8,c8,W8,hrun8,d8,⟨y8,v8⟩,f8,e8,hN⟩:=hO.putF kB0 kB1 hHeld.1 hHeld.2 hab (by rw [hfl];omega)
      rw [hfl] at hrun8 e8 hN
      refine app_run (by rfl) _ _ _ (by rfl) ⟨.slice fa q fc,.slice (some ⟨nb,0,none⟩) 1 1,_,_,(by go_simp),(by go_simp),hrun8,?_⟩
      refine hK.out _ _ (d8) (fun hHeld=>?_)
      clear hK K
      refine tkn 8 ?_ rfl ?_ ?_;rotate_left;·(intro w hSw;(skip);go_simp;try rfl)
      refine rdn 9 rfl (fun K hK=>?_)
      go_simp
      refine hK.out _ _ (e8) (fun hHeld=>?_)
      clear hK K
      refine wpAnyH_done (by kernel_rfl) ?_ _
      have XX:=NXT.out _ _ _ _ _ hN
      clear hHeld hrun8 d8 v8 f8 e8 hN hO kA kB0 kB1 tA NXT
      go_wp2
      go_roundw
      case rel=>exact ⟨q + 1,by first | rfl | go_num,by omega,XX⟩
      case measure=>simp [intOf];omega
     ·go_simp
      obtain ⟨X026,hX026⟩:∃ Y,Y=X02.alloc (.cells #[.int .u64 (hi dd),.int .u64 (lo dd)] 40):=⟨_,rfl⟩
      have gY:Gb X02 X026:=by rw [hX026];exact gb_alloc (Below.refl _ _) _
      have hO:=hO.grow gY
      have kB0:X026.cell? ⟨X02.heap.size,0,none⟩=some (.int .u64 (hi dd)):=by rw [hX026];simp [go_sem]
      have kB1:X026.cell? ⟨X02.heap.size,1,none⟩=some (.int .u64 (lo dd)):=by rw [hX026];simp [go_sem]
      have tB:Ty X026 X02.heap.size 40:=⟨_,_,by rw [hX026];exact heap_new _ _⟩
      obtain ⟨nb,hnb⟩:∃ nb,nb=X02.heap.size:=⟨_,rfl⟩
      rw [<- hnb] at kB0 kB1 tB
      have kA:=gb_keeps gY kA
      have tA:=tA.gb gY
      refine hK.out _ _ (by rw [<- hX026];exact ⟨gb_keeps gY hHeld.1,gb_keeps gY hHeld.2⟩) (fun hHeld=>?_)
      clear hK K
      rw [<- hX026] at hHeld ⊢
      try rw [<- hnb]
      try simp only [pt]
      clear hX026 gY hnb
      refine rdn 3 rfl (fun K hK=>?_)
      obtain ⟨g7,c7,X0263,hrun7,hO,fr7⟩:=hO.putP kA (by rw [hpl];omega)
      rw [hpl] at hrun7 hO
      have hH2:=And.intro (fr7.cell hHeld.1 tA (by decide)) (fr7.cell hHeld.2 tA (by decide))
      have tA:=fr7.ty tA (by decide)
      have kB0:=fr7.cell kB0 tB (by decide)
      have kB1:=fr7.cell kB1 tB (by decide)
      have tB:=fr7.ty tB (by decide)
      refine app_run (by rfl) _ _ _ (by rfl) ⟨.slice pa q pc,.slice (some ⟨na,0,none⟩) 1 1,_,_,(by go_simp),(by go_simp),hrun7,?_⟩
      refine hK.out _ _ (hH2) (fun hHeld=>?_)
      clear hK K
      try simp only [pt]
      refine rdn 7 rfl (fun K hK=>?_)
      obtain ⟨g8,c8,W8,hrun8,d8,⟨y8,v8⟩,f8,e8,hN⟩:=hO.putF kB0 kB1 hHeld.1 hHeld.2 hab (by rw [hfl];omega)
      rw [hfl] at hrun8 e8 hN
      refine app_run (by rfl) _ _ _ (by rfl) ⟨.slice fa q fc,.slice (some ⟨nb,0,none⟩) 1 1,_,_,(by go_simp),(by go_simp),hrun8,?_⟩
      refine hK.out _ _ (d8) (fun hHeld=>?_)
      clear hK K
      refine tkn 8 ?_ rfl ?_ ?_;rotate_left;·(intro w hSw;(skip);go_simp;try rfl)
      refine rdn 9 rfl (fun K hK=>?_)
      go_simp
      refine hK.out _ _ (e8) (fun hHeld=>?_)
      clear hK K
      refine wpAnyH_done (by kernel_rfl) ?_ _
      have XX:=NXT.out _ _ _ _ _ hN
      clear hHeld hrun8 d8 v8 f8 e8 hN hO kA kB0 kB1 tA NXT
      go_wp2
      go_roundw
      case rel=>exact ⟨q + 1,by first | rfl | go_num,by omega,XX⟩
      case measure=>simp [intOf];omega
    ·go_simp
     obtain ⟨X026,hX026⟩:∃ Y,Y=X02.alloc (.cells #[.int .u64 (hi dd),.int .u64 (lo dd)] 40):=⟨_,rfl⟩
     have gY:Gb X02 X026:=by rw [hX026];exact gb_alloc (Below.refl _ _) _
     have hO:=hO.grow gY
     have kB0:X026.cell? ⟨X02.heap.size,0,none⟩=some (.int .u64 (hi dd)):=by rw [hX026];simp [go_sem]
     have kB1:X026.cell? ⟨X02.heap.size,1,none⟩=some (.int .u64 (lo dd)):=by rw [hX026];simp [go_sem]
     have tB:Ty X026 X02.heap.size 40:=⟨_,_,by rw [hX026];exact heap_new _ _⟩
     obtain ⟨nb,hnb⟩:∃ nb,nb=X02.heap.size:=⟨_,rfl⟩
     rw [<- hnb] at kB0 kB1 tB
     have kA:=gb_keeps gY kA
     have tA:=tA.gb gY
     refine hK.out _ _ (by rw [<- hX026];exact ⟨gb_keeps gY hHeld.1,gb_keeps gY hHeld.2⟩) (fun hHeld=>?_)
     clear hK K
     rw [<- hX026] at hHeld ⊢
     try rw [<- hnb]
     try simp only [pt]
     clear hX026 gY hnb
     refine wpAnyH_ready (rs:=[3,4]) (by kernel_rfl) (by simp) ?_
     refine AllReadyH.cons rfl (fun K hK=>?_) (AllReadyH.cons rfl (fun K hK=>?_) AllReadyH.nil)
     ·obtain ⟨g7,c7,X0263,hrun7,hO,fr7⟩:=hO.putP kA (by rw [hpl];omega)
      rw [hpl] at hrun7 hO
      have hH2:=And.intro (fr7.cell hHeld.1 tA (by decide)) (fr7.cell hHeld.2 tA (by decide))
      have tA:=fr7.ty tA (by decide)
      have kB0:=fr7.cell kB0 tB (by decide)
      have kB1:=fr7.cell kB1 tB (by decide)
      have tB:=fr7.ty tB (by decide)
      refine app_run (by rfl) _ _ _ (by rfl) ⟨.slice pa q pc,.slice (some ⟨na,0,none⟩) 1 1,_,_,(by go_simp),(by go_simp),hrun7,?_⟩
      refine hK.out _ _ (hH2) (fun hHeld=>?_)
      clear hK K
      try simp only [pt]
      refine rdn 4 rfl (fun K hK=>?_)
      have l4:=hO.var
      go_simp
      clear l4
      refine hK.out _ _ (hHeld) (fun hHeld=>?_)
      clear hK K
      refine rdn 7 rfl (fun K hK=>?_)
      obtain ⟨g8,c8,W8,hrun8,d8,⟨y8,v8⟩,f8,e8,hN⟩:=hO.putF kB0 kB1 hHeld.1 hHeld.2 hab (by rw [hfl];omega)
      rw [hfl] at hrun8 e8 hN
      refine app_run (by rfl) _ _ _ (by rfl) ⟨.slice fa q fc,.slice (some ⟨nb,0,none⟩) 1 1,_,_,(by go_simp),(by go_simp),hrun8,?_⟩
      refine hK.out _ _ (d8) (fun hHeld=>?_)
      clear hK K
      refine tkn 8 ?_ rfl ?_ ?_;rotate_left;·(intro w hSw;(skip);go_simp;try rfl)
      refine rdn 9 rfl (fun K hK=>?_)
      go_simp
      refine hK.out _ _ (e8) (fun hHeld=>?_)
      clear hK K
      refine wpAnyH_done (by kernel_rfl) ?_ _
      have XX:=NXT.out _ _ _ _ _ hN
      clear hHeld hrun8 d8 v8 f8 e8 hN hO kA kB0 kB1 tA NXT
      go_wp2
      go_roundw
      case rel=>exact ⟨q + 1,by first | rfl | go_num,by omega,XX⟩
      case measure=>simp [intOf];omega
     ·have l4:=hO.var
      go_simp
      clear l4
      refine hK.out _ _ (hHeld) (fun hHeld=>?_)
      clear hK K
      refine rdn 3 rfl (fun K hK=>?_)
      obtain ⟨g7,c7,X0263,hrun7,hO,fr7⟩:=hO.putP kA (by rw [hpl];omega)
      rw [hpl] at hrun7 hO
      have hH2:=And.intro (fr7.cell hHeld.1 tA (by decide)) (fr7.cell hHeld.2 tA (by decide))
      have tA:=fr7.ty tA (by decide)
      have kB0:=fr7.cell kB0 tB (by decide)
      have kB1:=fr7.cell kB1 tB (by decide)
      have tB:=fr7.ty tB (by decide)
      refine app_run (by rfl) _ _ _ (by rfl) ⟨.slice pa q pc,.slice (some ⟨na,0,none⟩) 1 1,_,_,(by go_simp),(by go_simp),hrun7,?_⟩
      refine hK.out _ _ (hH2) (fun hHeld=>?_)
      clear hK K
      try simp only [pt]
      refine rdn 7 rfl (fun K hK=>?_)
      obtain ⟨g8,c8,W8,hrun8,d8,⟨y8,v8⟩,f8,e8,hN⟩:=hO.putF kB0 kB1 hHeld.1 hHeld.2 hab (by rw [hfl];omega)
      rw [hfl] at hrun8 e8 hN
      refine app_run (by rfl) _ _ _ (by rfl) ⟨.slice fa q fc,.slice (some ⟨nb,0,none⟩) 1 1,_,_,(by go_simp),(by go_simp),hrun8,?_⟩
      refine hK.out _ _ (d8) (fun hHeld=>?_)
      clear hK K
      refine tkn 8 ?_ rfl ?_ ?_;rotate_left;·(intro w hSw;(skip);go_simp;try rfl)
      refine rdn 9 rfl (fun K hK=>?_)
      go_simp
      refine hK.out _ _ (e8) (fun hHeld=>?_)
      clear hK K
      refine wpAnyH_done (by kernel_rfl) ?_ _
      have XX:=NXT.out _ _ _ _ _ hN
      clear hHeld hrun8 d8 v8 f8 e8 hN hO kA kB0 kB1 tA NXT
      go_wp2
      go_roundw
      case rel=>exact ⟨q + 1,by first | rfl | go_num,by omega,XX⟩
      case measure=>simp [intOf];omega
   ·have l4:=hO.var
    go_simp
    clear l4
    refine hK.out _ _ (hHeld) (fun hHeld=>?_)
    clear hK K
    refine wpAnyH_ready (rs:=[2,6]) (by kernel_rfl) (by simp) ?_
    refine AllReadyH.cons rfl (fun K hK=>?_) (AllReadyH.cons rfl (fun K hK=>?_) AllReadyH.nil)
    ·go_simp
     obtain ⟨X02,hX02⟩:∃ Y,Y=X0.alloc (.cells #[.int .i64 (q:Int)] 3):=⟨_,rfl⟩
     have gY:Gb X0 X02:=by rw [hX02];exact gb_alloc (Below.refl _ _) _
     have hO:=hO.grow gY
     have kA:X02.cell? ⟨X0.heap.size,0,none⟩=some (.int .i64 (q:Int)):=by rw [hX02];simp [go_sem]
     have tA:=tA.gb gY
     refine hK.out _ _ (by rw [<- hX02];exact ⟨gb_keeps gY hHeld.1,gb_keeps gY hHeld.2⟩) (fun hHeld=>?_)
     clear hK K
     rw [<- hX02] at hHeld ⊢
     try simp only [pt]
     clear hX02 gY
     generalize X0.heap.size=na at *
     refine wpAnyH_ready (rs:=[3,6]) (by kernel_rfl) (by simp) ?_
     refine AllReadyH.cons rfl (fun K hK=>?_) (AllReadyH.cons rfl (fun K hK=>?_) AllReadyH.nil)
     ·obtain ⟨g7,c7,X023,hrun7,hO,fr7⟩:=hO.putP kA (by rw [hpl];omega)
      rw [hpl] at hrun7 hO
      have hH2:=And.intro (fr7.cell hHeld.1 tA (by decide)) (fr7.cell hHeld.2 tA (by decide))
      have tA:=fr7.ty tA (by decide)
      refine app_run (by rfl) _ _ _ (by rfl) ⟨.slice pa q pc,.slice (some ⟨na,0,none⟩) 1 1,_,_,(by go_simp),(by go_simp),hrun7,?_⟩
      refine hK.out _ _ (hH2) (fun hHeld=>?_)
      clear hK K
      try simp only [pt]
      refine rdn 6 rfl (fun K hK=>?_)
      go_simp
      obtain ⟨X0236,hX0236⟩:∃ Y,Y=X023.alloc (.cells #[.int .u64 (hi dd),.int .u64 (lo dd)] 40):=⟨_,rfl⟩
      have gY:Gb X023 X0236:=by rw [hX0236];exact gb_alloc (Below.refl _ _) _
      have hO:=hO.grow gY
      have kB0:X0236.cell? ⟨X023.heap.size,0,none⟩=some (.int .u64 (hi dd)):=by rw [hX0236];simp [go_sem]
      have kB1:X0236.cell? ⟨X023.heap.size,1,none⟩=some (.int .u64 (lo dd)):=by rw [hX0236];simp [go_sem]
      have tB:Ty X0236 X023.heap.size 40:=⟨_,_,by rw [hX0236];exact heap_new _ _⟩
      obtain ⟨nb,hnb⟩:∃ nb,nb=X023.heap.size:=⟨_,rfl⟩
      rw [<- hnb] at kB0 kB1 tB
      have tA:=tA.gb gY
      refine hK.out _ _ (by rw [<- hX0236];exact ⟨gb_keeps gY hHeld.1,gb_keeps gY hHeld.2⟩) (fun hHeld=>?_)
      clear hK K
      rw [<- hX0236] at hHeld ⊢
      try rw [<- hnb]
      try simp only [pt]
      clear hX0236 gY hnb
      refine rdn 7 rfl (fun K hK=>?_)
      obtain ⟨g8,c8,W8,hrun8,d8,⟨y8,v8⟩,f8,e8,hN⟩:=hO.putF kB0 kB1 hHeld.1 hHeld.2 hab (by rw [hfl];omega)
      rw [hfl] at hrun8 e8 hN
      refine app_run (by rfl) _ _ _ (by rfl) ⟨.slice fa q fc,.slice (some ⟨nb,0,none⟩) 1 1,_,_,(by go_simp),(by go_simp),hrun8,?_⟩
      refine hK.out _ _ (d8) (fun hHeld=>?_)
      clear hK K
      refine tkn 8 ?_ rfl ?_ ?_;rotate_left;·(intro w hSw;(skip);go_simp;try rfl)
      refine rdn 9 rfl (fun K hK=>?_)
      go_simp
      refine hK.out _ _ (e8) (fun hHeld=>?_)
      clear hK K
      refine wpAnyH_done (by kernel_rfl) ?_ _
      have XX:=NXT.out _ _ _ _ _ hN
      clear hHeld hrun8 d8 v8 f8 e8 hN hO kA kB0 kB1 tA NXT
      go_wp2
      go_roundw
      case rel=>exact ⟨q + 1,by first | rfl | go_num,by omega,XX⟩
      case measure=>simp [intOf];omega
     ·go_simp
      obtain ⟨X026,hX026⟩:∃ Y,Y=X02.alloc (.cells #[.int .u64 (hi dd),.int .u64 (lo dd)] 40):=⟨_,rfl⟩
      have gY:Gb X02 X026:=by rw [hX026];exact gb_alloc (Below.refl _ _) _
      have hO:=hO.grow gY
      have kB0:X026.cell? ⟨X02.heap.size,0,none⟩=some (.int .u64 (hi dd)):=by rw [hX026];simp [go_sem]
      have kB1:X026.cell? ⟨X02.heap.size,1,none⟩=some (.int .u64 (lo dd)):=by rw [hX026];simp [go_sem]
      have tB:Ty X026 X02.heap.size 40:=⟨_,_,by rw [hX026];exact heap_new _ _⟩
      obtain ⟨nb,hnb⟩:∃ nb,nb=X02.heap.size:=⟨_,rfl⟩
      rw [<- hnb] at kB0 kB1 tB
      have kA:=gb_keeps gY kA
      have tA:=tA.gb gY
      refine hK.out _ _ (by rw [<- hX026];exact ⟨gb_keeps gY hHeld.1,gb_keeps gY hHeld.2⟩) (fun hHeld=>?_)
      clear hK K
      rw [<- hX026] at hHeld ⊢
      try rw [<- hnb]
      try simp only [pt]
      clear hX026 gY hnb
      refine rdn 3 rfl (fun K hK=>?_)
      obtain ⟨g7,c7,X0263,hrun7,hO,fr7⟩:=hO.putP kA (by rw [hpl];omega)
      rw [hpl] at hrun7 hO
      have hH2:=And.intro (fr7.cell hHeld.1 tA (by decide)) (fr7.cell hHeld.2 tA (by decide))
      have tA:=fr7.ty tA (by decide)
      have kB0:=fr7.cell kB0 tB (by decide)
      have kB1:=fr7.cell kB1 tB (by decide)
      have tB:=fr7.ty tB (by decide)
      refine app_run (by rfl) _ _ _ (by rfl) ⟨.slice pa q pc,.slice (some ⟨na,0,none⟩) 1 1,_,_,(by go_simp),(by go_simp),hrun7,?_⟩
      refine hK.out _ _ (hH2) (fun hHeld=>?_)
      clear hK K
      try simp only [pt]
      refine rdn 7 rfl (fun K hK=>?_)
      obtain ⟨g8,c8,W8,hrun8,d8,⟨y8,v8⟩,f8,e8,hN⟩:=hO.putF kB0 kB1 hHeld.1 hHeld.2 hab (by rw [hfl];omega)
      rw [hfl] at hrun8 e8 hN
      refine app_run (by rfl) _ _ _ (by rfl) ⟨.slice fa q fc,.slice (some ⟨nb,0,none⟩) 1 1,_,_,(by go_simp),(by go_simp),hrun8,?_⟩
      refine hK.out _ _ (d8) (fun hHeld=>?_)
      clear hK K
      refine tkn 8 ?_ rfl ?_ ?_;rotate_left;·(intro w hSw;(skip);go_simp;try rfl)
      refine rdn 9 rfl (fun K hK=>?_)
      go_simp
      refine hK.out _ _ (e8) (fun hHeld=>?_)
      clear hK K
      refine wpAnyH_done (by kernel_rfl) ?_ _
      have XX:=NXT.out _ _ _ _ _ hN
      clear hHeld hrun8 d8 v8 f8 e8 hN hO kA kB0 kB1 tA NXT
      go_wp2
      go_roundw
      case rel=>exact ⟨q + 1,by first | rfl | go_num,by omega,XX⟩
      case measure=>simp [intOf];omega
    ·go_simp
     obtain ⟨X06,hX06⟩:∃ Y,Y=X0.alloc (.cells #[.int .u64 (hi dd),.int .u64 (lo dd)] 40):=⟨_,rfl⟩
     have gY:Gb X0 X06:=by rw [hX06];exact gb_alloc (Below.refl _ _) _
     have hO:=hO.grow gY
     have kB0:X06.cell? ⟨X0.heap.size,0,none⟩=some (.int .u64 (hi dd)):=by rw [hX06];simp [go_sem]
     have kB1:X06.cell? ⟨X0.heap.size,1,none⟩=some (.int .u64 (lo dd)):=by rw [hX06];simp [go_sem]
     have tB:Ty X06 X0.heap.size 40:=⟨_,_,by rw [hX06];exact heap_new _ _⟩
     obtain ⟨nb,hnb⟩:∃ nb,nb=X0.heap.size:=⟨_,rfl⟩
     rw [<- hnb] at kB0 kB1 tB
     have tA:=tA.gb gY
     refine hK.out _ _ (by rw [<- hX06];exact ⟨gb_keeps gY hHeld.1,gb_keeps gY hHeld.2⟩) (fun hHeld=>?_)
     clear hK K
     rw [<- hX06] at hHeld ⊢
     try rw [<- hnb]
     try simp only [pt]
     clear hX06 gY hnb
     refine rdn 2 rfl (fun K hK=>?_)
     go_simp
     obtain ⟨X062,hX062⟩:∃ Y,Y=X06.alloc (.cells #[.int .i64 (q:Int)] 3):=⟨_,rfl⟩
     have gY:Gb X06 X062:=by rw [hX062];exact gb_alloc (Below.refl _ _) _
     have hO:=hO.grow gY
     have kA:X062.cell? ⟨X06.heap.size,0,none⟩=some (.int .i64 (q:Int)):=by rw [hX062];simp [go_sem]
     have kB0:=gb_keeps gY kB0
     have kB1:=gb_keeps gY kB1
     have tB:=tB.gb gY
     have tA:=tA.gb gY
     refine hK.out _ _ (by rw [<- hX062];exact ⟨gb_keeps gY hHeld.1,gb_keeps gY hHeld.2⟩) (fun hHeld=>?_)
     clear hK K
     rw [<- hX062] at hHeld ⊢
     try simp only [pt]
     clear hX062 gY
     generalize X06.heap.size=na at *
     refine rdn 3 rfl (fun K hK=>?_)
     obtain ⟨g7,c7,X0623,hrun7,hO,fr7⟩:=hO.putP kA (by rw [hpl];omega)
     rw [hpl] at hrun7 hO
     have hH2:=And.intro (fr7.cell hHeld.1 tA (by decide)) (fr7.cell hHeld.2 tA (by decide))
     have tA:=fr7.ty tA (by decide)
     have kB0:=fr7.cell kB0 tB (by decide)
     have kB1:=fr7.cell kB1 tB (by decide)
     have tB:=fr7.ty tB (by decide)
     refine app_run (by rfl) _ _ _ (by rfl) ⟨.slice pa q pc,.slice (some ⟨na,0,none⟩) 1 1,_,_,(by go_simp),(by go_simp),hrun7,?_⟩
     refine hK.out _ _ (hH2) (fun hHeld=>?_)
     clear hK K
     try simp only [pt]
     refine rdn 7 rfl (fun K hK=>?_)
     obtain ⟨g8,c8,W8,hrun8,d8,⟨y8,v8⟩,f8,e8,hN⟩:=hO.putF kB0 kB1 hHeld.1 hHeld.2 hab (by rw [hfl];omega)
     rw [hfl] at hrun8 e8 hN
     refine app_run (by rfl) _ _ _ (by rfl) ⟨.slice fa q fc,.slice (some ⟨nb,0,none⟩) 1 1,_,_,(by go_simp),(by go_simp),hrun8,?_⟩
     refine hK.out _ _ (d8) (fun hHeld=>?_)
     clear hK K
     refine tkn 8 ?_ rfl ?_ ?_;rotate_left;·(intro w hSw;(skip);go_simp;try rfl)
     refine rdn 9 rfl (fun K hK=>?_)
     go_simp
     refine hK.out _ _ (e8) (fun hHeld=>?_)
     clear hK K
     refine wpAnyH_done (by kernel_rfl) ?_ _
     have XX:=NXT.out _ _ _ _ _ hN
     clear hHeld hrun8 d8 v8 f8 e8 hN hO kA kB0 kB1 tA NXT
     go_wp2
     go_roundw
     case rel=>exact ⟨q + 1,by first | rfl | go_num,by omega,XX⟩
     case measure=>simp [intOf];omega
   ·go_simp
    obtain ⟨X06,hX06⟩:∃ Y,Y=X0.alloc (.cells #[.int .u64 (hi dd),.int .u64 (lo dd)] 40):=⟨_,rfl⟩
    have gY:Gb X0 X06:=by rw [hX06];exact gb_alloc (Below.refl _ _) _
    have hO:=hO.grow gY
    have kB0:X06.cell? ⟨X0.heap.size,0,none⟩=some (.int .u64 (hi dd)):=by rw [hX06];simp [go_sem]
    have kB1:X06.cell? ⟨X0.heap.size,1,none⟩=some (.int .u64 (lo dd)):=by rw [hX06];simp [go_sem]
    have tB:Ty X06 X0.heap.size 40:=⟨_,_,by rw [hX06];exact heap_new _ _⟩
    obtain ⟨nb,hnb⟩:∃ nb,nb=X0.heap.size:=⟨_,rfl⟩
    rw [<- hnb] at kB0 kB1 tB
    have tA:=tA.gb gY
    refine hK.out _ _ (by rw [<- hX06];exact ⟨gb_keeps gY hHeld.1,gb_keeps gY hHeld.2⟩) (fun hHeld=>?_)
    clear hK K
    rw [<- hX06] at hHeld ⊢
    try rw [<- hnb]
    try simp only [pt]
    clear hX06 gY hnb
    refine wpAnyH_ready (rs:=[2,4]) (by kernel_rfl) (by simp) ?_
    refine AllReadyH.cons rfl (fun K hK=>?_) (AllReadyH.cons rfl (fun K hK=>?_) AllReadyH.nil)
    ·go_simp
     obtain ⟨X062,hX062⟩:∃ Y,Y=X06.alloc (.cells #[.int .i64 (q:Int)] 3):=⟨_,rfl⟩
     have gY:Gb X06 X062:=by rw [hX062];exact gb_alloc (Below.refl _ _) _
     have hO:=hO.grow gY
     have kA:X062.cell? ⟨X06.heap.size,0,none⟩=some (.int .i64 (q:Int)):=by rw [hX062];simp [go_sem]
     have kB0:=gb_keeps gY kB0
     have kB1:=gb_keeps gY kB1
     have tB:=tB.gb gY
     have tA:=tA.gb gY
     refine hK.out _ _ (by rw [<- hX062];exact ⟨gb_keeps gY hHeld.1,gb_keeps gY hHeld.2⟩) (fun hHeld=>?_)
     clear hK K
     rw [<- hX062] at hHeld ⊢
     try simp only [pt]
     clear hX062 gY
     generalize X06.heap.size=na at *
     refine wpAnyH_ready (rs:=[3,4]) (by kernel_rfl) (by simp) ?_
     refine AllReadyH.cons rfl (fun K hK=>?_) (AllReadyH.cons rfl (fun K hK=>?_) AllReadyH.nil)
     ·obtain ⟨g7,c7,X0623,hrun7,hO,fr7⟩:=hO.putP kA (by rw [hpl];omega)
      rw [hpl] at hrun7 hO
      have hH2:=And.intro (fr7.cell hHeld.1 tA (by decide)) (fr7.cell hHeld.2 tA (by decide))
      have tA:=fr7.ty tA (by decide)
      have kB0:=fr7.cell kB0 tB (by decide)
      have kB1:=fr7.cell kB1 tB (by decide)
      have tB:=fr7.ty tB (by decide)
      refine app_run (by rfl) _ _ _ (by rfl) ⟨.slice pa q pc,.slice (some ⟨na,0,none⟩) 1 1,_,_,(by go_simp),(by go_simp),hrun7,?_⟩
      refine hK.out _ _ (hH2) (fun hHeld=>?_)
      clear hK K
      try simp only [pt]
      refine rdn 4 rfl (fun K hK=>?_)
      have l4:=hO.var
      go_simp
      clear l4
      refine hK.out _ _ (hHeld) (fun hHeld=>?_)
      clear hK K
      refine rdn 7 rfl (fun K hK=>?_)
      obtain ⟨g8,c8,W8,hrun8,d8,⟨y8,v8⟩,f8,e8,hN⟩:=hO.putF kB0 kB1 hHeld.1 hHeld.2 hab (by rw [hfl];omega)
      rw [hfl] at hrun8 e8 hN
      refine app_run (by rfl) _ _ _ (by rfl) ⟨.slice fa q fc,.slice (some ⟨nb,0,none⟩) 1 1,_,_,(by go_simp),(by go_simp),hrun8,?_⟩
      refine hK.out _ _ (d8) (fun hHeld=>?_)
      clear hK K
      refine tkn 8 ?_ rfl ?_ ?_;rotate_left;·(intro w hSw;(skip);go_simp;try rfl)
      refine rdn 9 rfl (fun K hK=>?_)
      go_simp
      refine hK.out _ _ (e8) (fun hHeld=>?_)
      clear hK K
      refine wpAnyH_done (by kernel_rfl) ?_ _
      have XX:=NXT.out _ _ _ _ _ hN
      clear hHeld hrun8 d8 v8 f8 e8 hN hO kA kB0 kB1 tA NXT
      go_wp2
      go_roundw
      case rel=>exact ⟨q + 1,by first | rfl | go_num,by omega,XX⟩
      case measure=>simp [intOf];omega
     ·have l4:=hO.var
      go_simp
      clear l4
      refine hK.out _ _ (hHeld) (fun hHeld=>?_)
      clear hK K
      refine rdn 3 rfl (fun K hK=>?_)
      obtain ⟨g7,c7,X0623,hrun7,hO,fr7⟩:=hO.putP kA (by rw [hpl];omega)
      rw [hpl] at hrun7 hO
      have hH2:=And.intro (fr7.cell hHeld.1 tA (by decide)) (fr7.cell hHeld.2 tA (by decide))
      have tA:=fr7.ty tA (by decide)
      have kB0:=fr7.cell kB0 tB (by decide)
      have kB1:=fr7.cell kB1 tB (by decide)
      have tB:=fr7.ty tB (by decide)
      refine app_run (by rfl) _ _ _ (by rfl) ⟨.slice pa q pc,.slice (some ⟨na,0,none⟩) 1 1,_,_,(by go_simp),(by go_simp),hrun7,?_⟩
      refine hK.out _ _ (hH2) (fun hHeld=>?_)
      clear hK K
      try simp only [pt]
      refine rdn 7 rfl (fun K hK=>?_)
      obtain ⟨g8,c8,W8,hrun8,d8,⟨y8,v8⟩,f8,e8,hN⟩:=hO.putF kB0 kB1 hHeld.1 hHeld.2 hab (by rw [hfl];omega)
      rw [hfl] at hrun8 e8 hN
      refine app_run (by rfl) _ _ _ (by rfl) ⟨.slice fa q fc,.slice (some ⟨nb,0,none⟩) 1 1,_,_,(by go_simp),(by go_simp),hrun8,?_⟩
      refine hK.out _ _ (d8) (fun hHeld=>?_)
      clear hK K
      refine tkn 8 ?_ rfl ?_ ?_;rotate_left;·(intro w hSw;(skip);go_simp;try rfl)
      refine rdn 9 rfl (fun K hK=>?_)
      go_simp
      refine hK.out _ _ (e8) (fun hHeld=>?_)
      clear hK K
      refine wpAnyH_done (by kernel_rfl) ?_ _
      have XX:=NXT.out _ _ _ _ _ hN
      clear hHeld hrun8 d8 v8 f8 e8 hN hO kA kB0 kB1 tA NXT
      go_wp2
      go_roundw
      case rel=>exact ⟨q + 1,by first | rfl | go_num,by omega,XX⟩
      case measure=>simp [intOf];omega
    ·have l4:=hO.var
     go_simp
     clear l4
     refine hK.out _ _ (hHeld) (fun hHeld=>?_)
     clear hK K
     refine rdn 2 rfl (fun K hK=>?_)
     go_simp
     obtain ⟨X062,hX062⟩:∃ Y,Y=X06.alloc (.cells #[.int .i64 (q:Int)] 3):=⟨_,rfl⟩
     have gY:Gb X06 X062:=by rw [hX062];exact gb_alloc (Below.refl _ _) _
     have hO:=hO.grow gY
     have kA:X062.cell? ⟨X06.heap.size,0,none⟩=some (.int .i64 (q:Int)):=by rw [hX062];simp [go_sem]
     have kB0:=gb_keeps gY kB0
     have kB1:=gb_keeps gY kB1
     have tB:=tB.gb gY
     have tA:=tA.gb gY
     refine hK.out _ _ (by rw [<- hX062];exact ⟨gb_keeps gY hHeld.1,gb_keeps gY hHeld.2⟩) (fun hHeld=>?_)
     clear hK K
     rw [<- hX062] at hHeld ⊢
     try simp only [pt]
     clear hX062 gY
     generalize X06.heap.size=na at *
     refine rdn 3 rfl (fun K hK=>?_)
     obtain ⟨g7,c7,X0623,hrun7,hO,fr7⟩:=hO.putP kA (by rw [hpl];omega)
     rw [hpl] at hrun7 hO
     have hH2:=And.intro (fr7.cell hHeld.1 tA (by decide)) (fr7.cell hHeld.2 tA (by decide))
     have tA:=fr7.ty tA (by decide)
     have kB0:=fr7.cell kB0 tB (by decide)
     have kB1:=fr7.cell kB1 tB (by decide)
     have tB:=fr7.ty tB (by decide)
     refine app_run (by rfl) _ _ _ (by rfl) ⟨.slice pa q pc,.slice (some ⟨na,0,none⟩) 1 1,_,_,(by go_simp),(by go_simp),hrun7,?_⟩
     refine hK.out _ _ (hH2) (fun hHeld=>?_)
     clear hK K
     try simp only [pt]
     refine rdn 7 rfl (fun K hK=>?_)
     obtain ⟨g8,c8,W8,hrun8,d8,⟨y8,v8⟩,f8,e8,hN⟩:=hO.putF kB0 kB1 hHeld.1 hHeld.2 hab (by rw [hfl];omega)
     rw [hfl] at hrun8 e8 hN
     refine app_run (by rfl) _ _ _ (by rfl) ⟨.slice fa q fc,.slice (some ⟨nb,0,none⟩) 1 1,_,_,(by go_simp),(by go_simp),hrun8,?_⟩
     refine hK.out _ _ (d8) (fun hHeld=>?_)
     clear hK K
     refine tkn 8 ?_ rfl ?_ ?_;rotate_left;·(intro w hSw;(skip);go_simp;try rfl)
     refine rdn 9 rfl (fun K hK=>?_)
     go_simp
     refine hK.out _ _ (e8) (fun hHeld=>?_)
     clear hK K
     refine wpAnyH_done (by kernel_rfl) ?_ _
     have XX:=NXT.out _ _ _ _ _ hN
     clear hHeld hrun8 d8 v8 f8 e8 hN hO kA kB0 kB1 tA NXT
     go_wp2
     go_roundw
     case rel=>exact ⟨q + 1,by first | rfl | go_num,by omega,XX⟩
     case measure=>simp [intOf];omega
  ·have hqe:q=n:=by omega
   subst hqe
   have hqi:¬ (q:Int) < (q:Int):=by omega
   obtain ⟨g,cap,epv,cS⟩:=XI.out.sort_c hn5
   subst epv
   clear XI RD NX
   go_wp2_with fail
   go_fit cS
   rintro e w5 ⟨rfl,hR⟩
   have RR:Hid _:=hR
   clear cS hR
   go_wp2
   go_ret
   obtain ⟨l,a1,a2,a3,a4,a5⟩:=RR.out
   exact ⟨g,cap,l,rfl,a1,a2,a3,a4,a5⟩
end Go.Proofs.YtcipdampcmfmaabGreat
