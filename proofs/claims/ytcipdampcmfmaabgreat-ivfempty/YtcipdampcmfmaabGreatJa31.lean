import Derived.Test.YtcipdampcmfmaabGreatJa23
import Derived.SizedLaws
import Derived.Test.YtcipdampcmfmaabGreatJa27
import Derived.Test.YtcipdampcmfmaabGreatJa4
import Derived.Deep.OwnRows
namespace Go.Proofs.YtcipdampcmfmaabGreat
open Go.ChangeShapes Go.WideShapes Go.ChangeAt Go.RowKit Go.Joins Go.Deep
set_option maxRecDepth 100000
theorem Tryz.bytesI:Tryz.prog.bytesOf 3=8:=by kernel_rfl
theorem Tryz.bytesR:Tryz.prog.bytesOf 45=32:=by kernel_rfl
theorem weights_in {H:Type} {e:TypeId} {d:DataW H}:∀ {l:List (DataW H)},d ∈ l->∀ n ∈ d.weights Tryz.prog e,n ∈ DataW.weightsAll Tryz.prog e l
 | x :: r,h,n,hn=>by
  simp only [DataW.weightsAll,List.mem_append]
  cases List.mem_cons.1 h with
  | inl h=>subst h;exact .inl hn
  | inr h=>exact .inr (weights_in h n hn)
theorem trodI_sz {H:Type} {enc:TypeId × Value->H} {W:World} {base fuel:Nat} {hd:Bool} {v:Value} {l:List Int} {x:DataW H × List MemPlace}
  (h:DataW.trod enc Tryz.prog W base (fun _=>true) hd fuel 26 [v]=some x) (hr:RdI W v l) (hw:∀ n ∈ x.1.weights Tryz.prog 26,n<=reachBytes):l.length<=reachBytes:=by
 rcases open_slice Tryz.underlying26 h with ⟨e,_⟩ | ⟨a,len,cap,m,n,D,Pl,e,_,hlc,hcm,_,rfl,_⟩
 ·cases e
  obtain ⟨_,_,e,_⟩:=hr
  injection e with _ e2 _
  omega
 ·cases e
  have h1:=hw ((((List.range len).map D).length + ((List.range (m - len)).map fun j=>D (len + j)).length) * Tryz.prog.bytesOf 3) (by simp [DataW.weights,Tryz.underlying26])
  rw [Tryz.bytesI] at h1
  simp only [List.length_map,List.length_range] at h1
  obtain ⟨_,_,e,_⟩:=hr
  injection e with _ e2 _
  omega
theorem open_rows_sz {H:Type} {enc:TypeId × Value->H} {W:World} {b0:Nat} {r:Reach} {v:Value} {d:DataW H} {p:List MemPlace}
  (hv':Value.okWide Tryz.prog W r b0 22 v) (h:DataW.Trod enc Tryz.prog W 0 (fun _=>true) true 22 v d p) (hw:∀ n ∈ d.weights Tryz.prog 22,n<=reachBytes) :
  ∃ rs:List Rw,RdW W v rs/\rs.length<=reachBytes/\(∀ i,i < rs.length->(Lit.int .i64 rs[i]!.1).wf=true)/\(∀ i,i < rs.length->rs[i]!.2.length<=reachBytes)/\∀ a n c,v=.slice a n c->n<=c:=by
 obtain ⟨a0,len,cap,rfl⟩:=okWide_slice Tryz.underlying22 hv'
 obtain ⟨fuel,hf⟩:=h
 rcases open_slice Tryz.underlying22 (by simpa [Value.cells] using hf) with ⟨e,_⟩ | ⟨a,len,cap,m,n,D,Pl,e,_,hlc,hcm,hm,hD,hx⟩
 ·cases e
  exact ⟨[],⟨none,0,rfl,fun i hi=>absurd hi (Nat.not_lt_zero _)⟩,Nat.zero_le _,fun i hi=>absurd hi (Nat.not_lt_zero _),fun i hi=>absurd hi (Nat.not_lt_zero _),fun a n c e=>by cases e;exact Nat.le_refl _⟩
 ·cases e
  rw [if_pos rfl] at hm
  subst hm
  have hd:d=.slice ((List.range len).map D) ((List.range (m - len)).map fun j=>D (len + j)):=congrArg Prod.fst hD
  subst hd
  have hw0:=hw ((((List.range len).map D).length + ((List.range (m - len)).map fun j=>D (len + j)).length) * Tryz.prog.bytesOf 45) (by simp [DataW.weights,Tryz.underlying22])
  rw [Tryz.bytesR] at hw0
  simp only [List.length_map,List.length_range] at hw0
  have hy:∀ i,i < len->∃ y:Rw,(∃ u,W.cell? (a.add (i * 2))=some (.int .i64 y.1)/\W.cell? ((a.add (i * 2)).add 1)=some u/\RdI W u y.2)/\(Lit.int .i64 y.1).wf=true/\y.2.length<=reachBytes:=by
   intro i hi
   obtain ⟨cs,hc,ht⟩:=hx i (by omega)
   obtain ⟨z0,z1,k,hz,hl1,j0,j1⟩:=trod_struct2 Tryz.underlying45 ht
   rw [Tryz.cells45] at hl1 hc
   match cs,hl1 with
   | [c0,c1],_ =>
    obtain ⟨x,e5,_,wx⟩:=DataW.trod_int Tryz.underlying3 j0
    obtain ⟨u,l,e6,rl,ll⟩:=trod22 j1
    have j2:=j1
    rw [e6] at j2
    simp [Tryz.cells3,Tryz.cells26] at e5 e6
    subst e5 e6
    obtain ⟨_,_,hcc⟩:=World.cells?_some hc
    have q0:=hcc 0 (by omega)
    have q1:=hcc 1 (by omega)
    refine ⟨(x,l),⟨_,by simpa [Addr.add] using q0,by simpa using q1,rl⟩,wx,trodI_sz j2 rl (fun n hn=>hw n ?_)⟩
    have hz':D i=.agg [z0.1,z1.1]:=congrArg Prod.fst hz
    simp only [DataW.weights,Tryz.underlying22,List.mem_cons,List.mem_append]
    refine .inr (.inl (weights_in (d:=D i) (List.mem_map.2 ⟨i,List.mem_range.2 hi,rfl⟩) n ?_))
    rw [hz']
    simp only [DataW.weights,Tryz.underlying45,List.map_cons,List.map_nil,DataW.weightsEach,List.mem_append]
    exact .inr (.inl hn)
  obtain ⟨Y,hY⟩:=choose_lt (α:=Rw) (p:=fun i y=>(∃ u,W.cell? (a.add (i * 2))=some (.int .i64 y.1)/\W.cell? ((a.add (i * 2)).add 1)=some u/\RdI W u y.2)/\(Lit.int .i64 y.1).wf=true/\y.2.length<=reachBytes) hy
  have hg:∀ i,i < len->((List.range len).map Y)[i]! = Y i:=by
   intro i hi
   rw [getElem!_pos _ i (by simpa using hi)];simp
  refine ⟨(List.range len).map Y,⟨some a,m,by simp,fun i hi=>?_⟩,by simp;omega,fun i hi=>?_,fun i hi=>?_,fun a n c e=>by cases e;exact hlc⟩
  ·have hi':i < len:=by simpa using hi
   obtain ⟨⟨u0,q0,_⟩,_⟩:=hY 0 (by omega)
   have ha:a=⟨a.block,a.off,none⟩:=spot_none (by simpa [Addr.add] using q0)
   obtain ⟨⟨u,q1,q2,q3⟩,_⟩:=hY i hi'
   rw [hg i hi']
   rw [ha,Addr.add_lit] at q1
   rw [ha,Addr.add_lit,Addr.add_lit] at q2
   exact ⟨a.block,a.off,u,by rw [<- ha],q1,q2,q3⟩
  ·have hi':i < len:=by simpa using hi
   rw [hg i hi'];exact (hY i hi').2.1
  ·have hi':i < len:=by simpa using hi
   rw [hg i hi'];exact (hY i hi').2.2
end Go.Proofs.YtcipdampcmfmaabGreat

namespace Go.Proofs.YtcipdampcmfmaabGreat
open Go.RowKit Go.Sort
set_option maxRecDepth 100000
set_option maxHeartbeats 2000000
theorem placeOf_c {w:World} {tb:Nat} {id:Int} {u v:Value} {cs:Vs} {x:List Int} (hu:RdV w u cs) (hv:RdI w v x) (hc:w.cell? ⟨tb,1,none⟩=some u) (hn:nearE cs x=0) :
  Calls Tryz.prog 69 #[.pointer (some ⟨tb,0,none⟩),.agg #[.int .i64 id,v]] w fun e w'=>e=.returned (.int .i64 ((nearP cs x).1:Int))/\Gr w w':=by
 obtain ⟨d,hd⟩:∃ d,d=(nearP cs x).2:=⟨_,rfl⟩
 have CN:Hid (∀ W,Gr w W->Calls Tryz.prog 108 #[u,v] W fun e w'=>e=.returned (.tuple #[.int .i64 ((nearP cs x).1:Int),.agg #[.int .u64 (hi d),.int .u64 (lo d)],.int .i64 0])/\Gr W w'):=fun W g=>by
  have h:=near_c (hu.gr g) (hv.gr g)
  rw [hn,if_pos rfl,if_pos rfl,<- hd] at h
  exact h
 generalize (nearP cs x).1=p at *
 generalize hi d=dh at *
 generalize lo d=dl at *
 have hlt:tb < w.heap.size:=cell_lt hc
 obtain ⟨pa,cp,rfl,_⟩:=hv
 generalize x.length=n at *
 have FS:(w.alloc (.cells #[.int .i64 id,.slice pa n cp] 45)).drew.cell? ⟨tb,1,none⟩=some u/\(w.alloc (.cells #[.int .i64 id,.slice pa n cp] 45)).drew.cell? ⟨w.heap.size,1,none⟩=some (.slice pa n cp):=⟨alloc_keeps hc _,by simp [go_sem]⟩
 have G1:Hid (Gr w (w.alloc (.cells #[.int .i64 id,.slice pa n cp] 45)).drew):=((Gr.refl _).alloc _ _).drew
 clear hd hn hu
 go_enter Tryz.func69,Tryz.ntmps69
 go_wp2_with fail
 refine wp_region_held_drew (S:=fun W=>W.cell? ⟨tb,1,none⟩=some u/\W.cell? ⟨w.heap.size,1,none⟩=some (.slice pa n cp)) (by kernel_rfl) (FS) (fun hHeld=>?_)
 refine tkn 0 ?_ rfl ?_ ?_;rotate_left;·(rintro w ⟨s0,s1⟩;go_simp;try rfl)
 try simp only [pt]
 refine tkn 1 ?_ rfl ?_ ?_;rotate_left;·(rintro w ⟨s0,s1⟩;go_simp;try rfl)
 try simp only [pt]
 refine tkn 2 ?_ rfl ?_ ?_;rotate_left;·(rintro w ⟨s0,s1⟩;go_simp;try rfl)
 try simp only [pt]
 refine tkn 3 ?_ rfl ?_ ?_;rotate_left;·(rintro w ⟨s0,s1⟩;go_simp;try rfl)
 try simp only [pt]
 refine tkn 4 ?_ rfl ?_ ?_;rotate_left;·(rintro w ⟨s0,s1⟩;go_simp;try rfl)
 try simp only [pt]
 refine tkn 5 ?_ rfl ?_ ?_;rotate_left;·(rintro w ⟨s0,s1⟩;go_simp;try rfl)
 try simp only [pt]
 refine wpAnyH_ready (rs:=[6,11]) (by kernel_rfl) (by simp) ?_
 refine AllReadyH.cons rfl (fun K hK=>?_) (AllReadyH.cons rfl (fun K hK=>?_) AllReadyH.nil)
 ·go_simp
  go_fit (CN.out _ G1.out)
  rintro e w1 ⟨rfl,g1⟩
  refine hK.out _ _ ⟨g1.keeps hHeld.1,g1.keeps hHeld.2⟩ (fun hHeld=>?_)
  clear hK K
  try simp only [pt]
  refine tkn 7 ?_ rfl ?_ ?_;rotate_left;·(rintro w ⟨s0,s1⟩;go_simp;try rfl)
  try simp only [pt]
  refine tkn 8 ?_ rfl ?_ ?_;rotate_left;·(rintro w ⟨s0,s1⟩;go_simp;try rfl)
  try simp only [pt]
  refine tkn 9 ?_ rfl ?_ ?_;rotate_left;·(rintro w ⟨s0,s1⟩;go_simp;try rfl)
  try simp only [pt]
  refine tkn 10 ?_ rfl ?_ ?_;rotate_left;·(rintro w ⟨s0,s1⟩;go_simp;try rfl)
  try simp only [pt]
  refine rdn 11 rfl (fun K hK=>?_)
  go_simp
  refine hK.out _ _ (⟨alloc_keeps hHeld.1 _,alloc_keeps hHeld.2 _⟩) (fun hHeld=>?_)
  clear hK K
  try simp only [pt]
  refine tkn 12 ?_ rfl ?_ ?_;rotate_left;·(rintro w ⟨s0,s1⟩;go_simp;try rfl)
  try simp only [pt]
  refine rdn 13 rfl (fun K hK=>?_)
  go_simp
  refine hK.out _ _ ⟨alloc_keeps (g1.keeps FS.1) _,alloc_keeps (g1.keeps FS.2) _⟩ (fun hHeld=>?_)
  clear hK K
  try simp only [pt]
  refine tkn 14 ?_ rfl ?_ ?_;rotate_left;·(rintro w ⟨s0,s1⟩;go_simp;try rfl)
  try simp only [pt]
  refine wpAnyH_done (by kernel_rfl) ?_ _
  go_wp2
  go_ret
  exact ⟨rfl,(G1.out.trans g1).alloc _ _⟩
 ·go_simp
  refine hK.out _ _ ⟨alloc_keeps hHeld.1 _,alloc_keeps hHeld.2 _⟩ (fun hHeld=>?_)
  clear hK K
  try simp only [pt]
  refine rdn 6 rfl (fun K hK=>?_)
  go_simp
  go_fit (CN.out _ (G1.out.alloc _ _))
  rintro e w1 ⟨rfl,g1⟩
  obtain ⟨v0,v1,f0,f1⟩:=(((Gr.refl _).drew).trans g1).var2
  refine hK.out _ _ ⟨g1.keeps hHeld.1,g1.keeps hHeld.2⟩ (fun hHeld=>?_)
  clear hK K
  have hsz:(w.alloc (.cells #[.int .i64 id,.slice pa n cp] 45)).heap.size=w.heap.size + 1:=World.size_alloc _ _
  rw [hsz] at v0 v1 f0 f1
  try simp only [pt]
  refine tkn 7 ?_ rfl ?_ ?_;rotate_left;·(rintro w ⟨s0,s1⟩;go_simp;try rfl)
  try simp only [pt]
  refine tkn 8 ?_ rfl ?_ ?_;rotate_left;·(rintro w ⟨s0,s1⟩;go_simp;try rfl)
  try simp only [pt]
  refine tkn 9 ?_ rfl ?_ ?_;rotate_left;·(rintro w ⟨s0,s1⟩;go_simp;try rfl)
  try simp only [pt]
  refine tkn 10 ?_ rfl ?_ ?_;rotate_left;·(rintro w ⟨s0,s1⟩;go_simp;try rfl)
  try simp only [pt]
  refine tkn 12 ?_ rfl ?_ ?_;rotate_left;·(rintro w ⟨s0,s1⟩;go_simp;try rfl)
  try simp only [pt]
  refine rdn 13 rfl (fun K hK=>?_)
  go_simp
  refine hK.out _ _ (set_far2 (by dsimp only;omega) (by dsimp only;omega) (set_far2 (by dsimp only;omega) (by dsimp only;omega) hHeld)) (fun hHeld=>?_)
  clear hK K
  try simp only [pt]
  refine tkn 14 ?_ rfl ?_ ?_;rotate_left;·(rintro w ⟨s0,s1⟩;go_simp;try rfl)
  try simp only [pt]
  refine wpAnyH_done (by kernel_rfl) ?_ _
  go_wp2
  go_ret
  exact ⟨rfl,(((G1.out.alloc _ _).trans g1).setCell (by dsimp only;omega) _).setCell (by dsimp only;omega) _⟩
end Go.Proofs.YtcipdampcmfmaabGreat

namespace Go.Proofs.YtcipdampcmfmaabGreat
open Go.RowKit Go.Maps
set_option maxRecDepth 100000
set_option maxHeartbeats 4000000
structure Pl (w W:World) (pb:Nat) (us:Nat->Value) (k:Nat) (ps:Nat->List Int):Prop where
 row:W.rowIs pb 26 k us
 own:∀ i,i < k->Own W w.heap.size (us i) (ps i)
 ne:∀ i,i < k->(us i).ownBlock ≠ some pb
 apart:∀ i j,i < k->j < k->i ≠ j->(us i).ownBlock=none ∨ (us i).ownBlock ≠ (us j).ownBlock
 gb:Gb w W
 hB:w.heap.size<=pb
theorem Pl.gr {w W W':World} {pb k:Nat} {us:Nat->Value} {ps:Nat->List Int} (h:Pl w W pb us k ps) (g:Gb W W'):Pl w W' pb us k ps :=
 ⟨h.row.of_block (g.block _ h.row.lt),fun i hi=>(h.own i hi).gb g,h.ne,h.apart,gb_trans h.gb g,h.hB⟩
theorem k_own_lt {w:World} {B:Nat} {v:Value} {l:List Int} (h:Own w B v l) {g:Nat} (hg:v.ownBlock=some g):g < w.heap.size/\B<=g:=by
 have:=World.ownsRow.lt h g hg
 exact ⟨this.2,this.1⟩
theorem Pl.next {w W W2:World} {pb k t:Nat} {us:Nat->Value} {ps:Nat->List Int} {v':Value} {x:Int} (h:Pl w W pb us k ps) (ht:t < k)
  (hr:W2.ownsRow w.heap.size 3 1 v' ((ps t).length + 1) ((ps t).map (Value.int .i64) ++ [.int .i64 x])) (hg:W.grownBy W2 (us t).ownBlock) (hloc:v'.ownBlock=(us t).ownBlock ∨ v'.ownBlock=some W.heap.size) :
  Pl w (W2.setCell ⟨pb,t,none⟩ v') pb (fun i=>if i=t then v' else us i) k (fun i=>if i=t then ps t ++ [x] else ps i):=by
 have hrow:W2.rowIs pb 26 k us:=h.row.of_block (hg.block pb h.row.lt (fun e=>h.ne t ht e.symm))
 have hO:Own W2 w.heap.size v' (ps t ++ [x]):=by unfold Own;rw [List.length_append,List.map_append];exact hr
 have hne:v'.ownBlock ≠ some pb:=by
  rcases hloc with e | e
  ·rw [e];exact h.ne t ht
  ·rw [e];intro e2;have:=h.row.lt;injection e2;omega
 have keep:∀ {v:Value} {l:List Int},Own W2 w.heap.size v l->v.ownBlock ≠ some pb->Own (W2.setCell ⟨pb,t,none⟩ v') w.heap.size v l:=fun {v l} ho hn =>
  own_kp (S:=fun b=>b=pb) ho (Kp.set (S:=fun b=>b=pb) (Kp.refl _ W2) (p:=⟨pb,t,none⟩) (.inl rfl) v') (fun g e1 e2=>hn (by rw [e1,e2]))
 have hap:∀ i,i < k->i ≠ t->(us i).ownBlock=none ∨ (us i).ownBlock ≠ v'.ownBlock:=fun i hi hit=>by
  rcases hloc with e | e
  ·rw [e];exact h.apart i t hi ht hit
  ·cases hv:(us i).ownBlock with
   | none=>exact .inl rfl
   | some g =>
    refine .inr ?_
    rw [e]
    intro e2
    have:=k_own_lt (h.own i hi) hv
    injection e2;omega
 have gb2:Gb w W2:=below_grown h.gb hg (fun g e=>(k_own_lt (h.own t ht) e).2) h.gb.size
 refine ⟨(hrow.set t v').congr (fun i _=>rfl),fun i hi=>?_,fun i hi=>?_,fun i j hi hj hij=>?_,gb_set gb2 h.hB _,h.hB⟩
 ·by_cases e:i=t
  ·simp only [if_pos e];exact keep hO hne
  ·simp only [if_neg e]
   refine keep ((h.own i hi).kept hg ?_) (h.ne i hi)
   exact h.apart i t hi ht e
 ·by_cases e:i=t
  ·simp only [if_pos e];exact hne
  ·simp only [if_neg e];exact h.ne i hi
 ·by_cases e:i=t
  ·simp only [if_pos e]
   rw [if_neg (fun e2=>hij (e.trans e2.symm))]
   rcases hap j hj (fun e2=>hij (e.trans e2.symm)) with h1 | h1
   ·cases hv:v'.ownBlock with
    | none=>exact .inl rfl
    | some g=>rw [h1];exact .inr (by simp)
   ·exact .inr (fun e2=>h1 e2.symm)
  ·simp only [if_neg e]
   by_cases e2:j=t
   ·simp only [if_pos e2];exact hap i hi e
   ·simp only [if_neg e2];exact h.apart i j hi hj hij
theorem Tryz.infoV:(Tryz.prog.info? 26).map (fun i=>(i.zero,i.size,i.bytes))=some (some (.slice none 0 0),1,24):=by kernel_rfl
theorem Tryz.infoI:(Tryz.prog.info? 3).map (fun i=>(i.zero,i.size,i.bytes))=some (some (.int .i64 0),1,8):=by kernel_rfl
theorem info_parts' {i:Nat} {z:Value} {s b:Nat} (h:(Tryz.prog.info? i).map (fun i=>(i.zero,i.size,i.bytes))=some (some z,s,b)):∃ i0,Tryz.prog.info? i=some i0/\i0.zero=some z/\i0.size=s/\i0.bytes=b:=by
 obtain ⟨i,hi,hzz⟩:=Option.map_eq_some_iff.1 h
 simp only [Prod.mk.injEq] at hzz
 exact ⟨i,hi,hzz.1,hzz.2.1,hzz.2.2⟩
def belI (cs l:Vs) (q:Nat) (i:Nat):List Int:=(belTo cs l i q).map Int.ofNat
theorem belI_next (cs l:Vs) (q t:Nat) (ht:(nearP cs l[q]!).1=t):belI cs l (q + 1)=fun i=>if i=t then belI cs l q t ++ [(q:Int)] else belI cs l q i:=by
 funext i
 unfold belI
 rw [belTo_next]
 by_cases e:i=t
 ·subst e;rw [if_pos ht];simp
 ·simp only [if_neg e];rw [if_neg (fun e2=>e (e2.symm.trans ht))]
theorem belonging_c {w:World} {lv cv:Value} {l cs:Vs} {d:Int} (hl:RdV w lv l) (hc:RdV w cv cs) (hlo:VsOk l d) (hco:VsOk cs d) (h0:1<=cs.length) (h64:cs.length<=64) (hn:l.length<=512) :
  Calls Tryz.prog 158 #[lv,cv] w fun e w'=>∃ us,e=.returned (.slice (some ⟨w.heap.size,0,none⟩) cs.length cs.length)/\Pl w w' w.heap.size us cs.length (belI cs l l.length):=by
 have L:Hid (RdV w lv l):=hl
 have C:Hid (RdV w cv cs):=hc
 have K:Hid (VsOk l d/\VsOk cs d/\1<=cs.length/\cs.length<=64):=⟨hlo,hco,h0,h64⟩
 obtain ⟨al,cl,rfl,_⟩:=hl
 obtain ⟨ac,cc,rfl,_⟩:=hc
 obtain ⟨k,hk⟩:∃ k,k=cs.length:=⟨_,rfl⟩
 have KK:Hid (k=cs.length):=hk
 obtain ⟨n,hN⟩:∃ n,n=l.length:=⟨_,rfl⟩
 have N:Hid (n=l.length):=hN
 rw [<- hk] at C h0 h64 ⊢
 rw [<- hN] at L hn ⊢
 clear hk hN hlo hco
 have hmk:=run_make_row' (P:=Tryz.prog) 36 26 (.slice none 0 0) 24 Tryz.underlying36 Tryz.infoV rfl .i64 .i64 k (by omega) (by omega) w
 have P0:Pl w (w.alloc (.cells (madeCells #[Value.slice none 0 0] k) 26)) w.heap.size (fun _=>.slice none 0 0) k (belI cs l 0) :=
  ⟨World.rowIs_made w _ k _,fun i _=>own_nil _ _,fun i _ e=>by simp [Value.ownBlock] at e,fun i j _ _ _=>.inl rfl,gb_alloc (Below.refl _ _) _,Nat.le_refl _⟩
 obtain ⟨i0,hi,hz0,hz1,hz2⟩:=info_parts' Tryz.infoI
 have II:Hid (Tryz.prog.info? 3=some i0/\i0.zero=some (.int .i64 0)/\i0.size=1/\i0.bytes=8):=⟨hi,hz0,hz1,hz2⟩
 clear hi hz0 hz1 hz2
 generalize w.alloc (.cells (madeCells #[Value.slice none 0 0] k) 26)=W0 at *
 go_enter Tryz.func158,Tryz.ntmps158
 go_wp2
 clear hmk
 go_loopw [14] (fun iv W=>∃ (q:Nat) (us:Nat->Value),iv=.int .i64 (q:Int)/\q<=n/\Hid (Pl w W w.heap.size us k (belI cs l q))) (fun iv _=>n - (intOf iv).toNat)
 case atStart=>exact ⟨0,_,rfl,Nat.zero_le _,P0⟩
 case round =>
  clear P0
  obtain ⟨q,us,rfl,hq,X⟩:=hrel
  by_cases hqn:q < n
  ·have hqi:(q:Int) < (n:Int):=by omega
   have hql:q < l.length:=by have:=N.out;omega
   obtain ⟨b1,o1,u1,ea,k1,k2⟩:=cen_at L.out hql
   subst ea
   have g1:=X.out.gb
   have x0:=gb_keeps g1 k1
   have cn:=k_nearest_c (C.out.gb g1) (k2.gb g1) K.out.2.1 (K.out.1 q hql) K.out.2.2.1 K.out.2.2.2
   have hto:=nearP_lt K.out.2.2.1 l[q]!
   have NX:=belI_next cs l q _ rfl
   rw [<- KK.out] at hto
   obtain ⟨pu,cu,rfl,_⟩:=k2
   generalize l[q]!.length=m1 at *
   generalize nearP cs l[q]! = p at *
   obtain ⟨t,pd⟩:=p
   dsimp only at hto cn NX
   have hti:(t:Int) < (k:Int):=by omega
   have hlt:(belI cs l q t).length<=512:=by unfold belI;rw [List.length_map];exact Nat.le_trans (belTo_len cs l t q) (by omega)
   have NXH:Hid (belI cs l (q + 1)=fun i=>if i=t then belI cs l q t ++ [(q:Int)] else belI cs l q i):=NX
   clear k1 NX
   go_wp2_with fail
   refine cn.mono ?_
   rintro e w2 ⟨rfl,g2⟩
   have X2:Hid (Pl w (w2.alloc (.cells #[.int .u64 (hi pd),.int .u64 (lo pd)] 40)) w.heap.size us k (belI cs l q)):=(X.out.gr g2.gb).gr (gb_alloc (Below.refl _ _) _)
   have c1:=X2.out.row.cell hto
   have hrow:=X2.out.own t hto
   obtain ⟨nt,pt,ct,et⟩:∃ nt pt ct,us t=.slice pt nt ct:=by obtain ⟨pv,cv,ev,_⟩:=hrow.rd;exact ⟨_,pv,cv,ev⟩
   have ET:Hid (us t=.slice pt nt ct):=et
   rw [et] at c1 hrow
   have hw0:=X2.out.gb.size
   clear cn X x0 g1 g2 et
   have II':=II.out
   go_wp2_with (first
    | (at_builtin;refine wpList_append_own_at _ rfl _ _ 26 rfl w.heap.size 3 i0 (.int .i64 0) 1 8 Tryz.underlying26 II'.1 II'.2.1 II'.2.2.1 II'.2.2.2 rfl (by decide) (.slice pt nt ct) (belI cs l q t).length ((belI cs l q t).map (Value.int .i64)) rfl (World.ownsRow.alloc hrow _) ⟨w2.heap.size + 1,0,none⟩ 1 1 [.int .i64 (q:Int)] rfl rfl (by have hc:=cell_one_new (w2.alloc (.cells #[.int .u64 (hi pd),.int .u64 (lo pd)] 40)) (.int .i64 (q:Int)) 3;rwa [World.size_alloc] at hc) (ints_oneCell .i64 [(q:Int)]) (by unfold maxLen;omega) (by omega) (by rw [World.size_alloc];omega) ?_;intro v' w4 hown' hgrow' hnil' hloc';obtain ⟨nv,pv,cv,ev⟩:∃ nv pv cv,v'=.slice pv nv cv:=(by rcases hown'.2 with ⟨e,_⟩ | ⟨g,cap,cur,e,_⟩ <;> exact ⟨_,_,_,e⟩);subst ev;have X3:Hid (Pl w (w4.setCell ⟨w.heap.size,t,none⟩ (.slice pv nv cv)) w.heap.size (fun i=>if i=t then .slice pv nv cv else us i) k (fun i=>if i=t then belI cs l q t ++ [(q:Int)] else belI cs l q i)):=(X2.out.gr (gb_alloc (Below.refl _ _) _)).next hto hown' (by rw [ET.out];exact hgrow') (by rw [ET.out];exact hloc');have r4:=(X2.out.gr (gb_alloc (Below.refl _ _) _)).row.of_block (hgrow'.block w.heap.size (by rw [World.size_alloc];have:=X2.out.row.lt;omega) (fun e=>X2.out.ne t hto (by rw [ET.out];exact e.symm)));have c4:=r4.cell hto;have f4:=r4.frozen t;rw [ET.out] at c4;clear r4)
    | go_in)
   go_roundw
   case rel=>exact ⟨q + 1,_,by go_num,hqn,by rw [NXH.out];exact X3⟩
   case measure=>simp [intOf];omega
  ·have hqi:¬ (q:Int) < (n:Int):=by omega
   have hqn':q=n:=by omega
   subst hqn'
   go_wp2
   go_ret
   exact ⟨rfl,us,X.out⟩
end Go.Proofs.YtcipdampcmfmaabGreat

namespace Go.Proofs.YtcipdampcmfmaabGreat
open Go.RowKit Go.Maps
set_option maxRecDepth 100000
set_option maxHeartbeats 4000000
theorem own_arr {w:World} {B:Nat} {v:Value} {l:List Int} (h:Own w B v l) (h0:1<=l.length):∃ g cap,v=.slice (some ⟨g,0,none⟩) l.length cap/\B<=g/\Rn.Arr w g l.length cap (fun t=>l[t]!):=by
 rcases h.2 with ⟨rfl,h1⟩ | ⟨g,cap,cur,rfl,h1,h2,h3,h4,h5,h6⟩
 ·omega
 ·refine ⟨g,cap,rfl,h1,cur,h2,by omega,h3,fun i hi=>?_⟩
  rw [Nat.mul_one] at h6
  have h7:(cur.toList.take l.length)[i]? = some (.int .i64 l[i]!):=by
   rw [h6,List.getElem?_map,List.getElem?_eq_getElem hi,getElem!_pos l i hi];rfl
  rw [List.getElem?_take_of_lt hi] at h7
  rwa [Array.getElem?_toList] at h7
structure Cen (B:Nat) (W:World) (cb:Nat) (gs cp:Nat->Nat) (k d:Nat) (f:Nat->Nat->Int):Prop where
 row:W.rowIs cb 26 k (fun i=>.slice (some ⟨gs i,0,none⟩) d (cp i))
 arr:∀ i,i < k->Rn.Arr W (gs i) d (cp i) (f i)
 base:∀ i,i < k->B<=gs i
 hB:B<=cb
 ne:∀ i,i < k->gs i ≠ cb
 inj:∀ i j,i < k->j < k->gs i=gs j->i=j
def cenF (cs:Vs):Nat->Nat->Int:=fun i t=>cs[i]![t]!
theorem Cen.rd {B:Nat} {W:World} {cb:Nat} {gs cp:Nat->Nat} {k d:Nat} {cs:Vs} (h:Cen B W cb gs cp k d (cenF cs)) (hk:cs.length=k) (hd:∀ i,i < k->cs[i]!.length=d):RdV W (.slice (some ⟨cb,0,none⟩) k k) cs:=by
 refine ⟨some ⟨cb,0,none⟩,k,by rw [hk],fun i hi=>?_⟩
 rw [hk] at hi
 refine ⟨cb,0,_,rfl,by rw [Nat.zero_add];exact h.row.cell hi,?_⟩
 exact arr_rd (h.arr i hi) (hd i hi) (fun t _=>rfl)
theorem Cen.kp {B:Nat} {W W':World} {cb:Nat} {gs cp:Nat->Nat} {k d:Nat} {f:Nat->Nat->Int} {S:Nat->Prop} (h:Cen B W cb gs cp k d f) (g:Kp S W W') (h1:¬ S cb) (h2:∀ i,i < k->¬ S (gs i)):Cen B W' cb gs cp k d f :=
 ⟨h.row.of_block (g.block _ h.row.lt h1),fun i hi=>arr_kp (h.arr i hi) g (h2 i hi),h.base,h.hB,h.ne,h.inj⟩
theorem Cen.gb {B:Nat} {W W':World} {cb:Nat} {gs cp:Nat->Nat} {k d:Nat} {f:Nat->Nat->Int} (h:Cen B W cb gs cp k d f) (g:Gb W W'):Cen B W' cb gs cp k d f :=
 h.kp (S:=fun _=>False) (Kp.gb g) id (fun _ _=>id)
structure Dr (w W:World) (cb ob:Nat) (gs cp:Nat->Nat) (k d n q:Nat) (p:Nat->Int) (f:Nat->Nat->Int):Prop where
 row:W.rowIs cb 26 k (fun i=>if i < q then .slice (some ⟨gs i,0,none⟩) d (cp i) else .slice none 0 0)
 arr:∀ i,i < q->Rn.Arr W (gs i) d (cp i) (f i)
 base:∀ i,i < q->w.heap.size<=gs i
 hB:w.heap.size<=cb
 ne:∀ i,i < q->gs i ≠ cb
 inj:∀ i j,i < q->j < q->gs i=gs j->i=j
 ord:Rn.Arr W ob n n p
 neo:ob ≠ cb
 gb:Gb w W
theorem Dr.next {w W W2:World} {cb ob:Nat} {gs cp:Nat->Nat} {k d n q:Nat} {p:Nat->Int} {f:Nat->Nat->Int} {g cap:Nat} {x:List Int} (h:Dr w W cb ob gs cp k d n q p f) (hq:q < k) (gb2:Gb W W2)
  (hg:W.heap.size<=g) (hA:Rn.Arr W2 g d cap (fun t=>x[t]!)) (hf:∀ t,f q t=x[t]!) :
  Dr w (W2.setCell ⟨cb,q,none⟩ (.slice (some ⟨g,0,none⟩) d cap)) cb ob (fun i=>if i=q then g else gs i) (fun i=>if i=q then cap else cp i) k d n (q + 1) p f:=by
 have hcb:=h.row.lt
 have keep:∀ {b n' c':Nat} {f':Nat->Int},Rn.Arr W2 b n' c' f'->b ≠ cb->Rn.Arr (W2.setCell ⟨cb,q,none⟩ (.slice (some ⟨g,0,none⟩) d cap)) b n' c' f':=fun ha hn=>ha.other (Ne.symm hn) _
 have old:∀ {b n' c':Nat} {f':Nat->Int},Rn.Arr W b n' c' f'->Rn.Arr W2 b n' c' f':=fun ha=>arr_kp (S:=fun _=>False) ha (Kp.gb gb2) id
 have hlt:∀ i,i < q->gs i < W.heap.size:=fun i hi=>(h.arr i hi).lt
 have hs:=h.gb.size
 refine ⟨((h.row.of_block (gb2.block _ hcb)).set q _).congr (fun i hi=>?_),fun i hi=>?_,fun i hi=>?_,h.hB,fun i hi=>?_,fun i j hi hj e=>?_,keep (old h.ord) h.neo,h.neo,gb_set (gb_trans h.gb gb2) h.hB _⟩
 ·by_cases e:i=q
  ·subst e;simp
  ·simp only [if_neg e]
   by_cases e2:i < q
   ·rw [if_pos e2,if_pos (by omega)]
   ·rw [if_neg e2,if_neg (by omega)]
 ·by_cases e:i=q
  ·subst e
   simp only [if_true]
   exact keep (hA.congr (fun t _=>(hf t).symm)) (by omega)
  ·simp only [if_neg e]
   exact keep (old (h.arr i (by omega))) (h.ne i (by omega))
 ·by_cases e:i=q
  ·simp only [if_pos e];omega
  ·simp only [if_neg e];exact h.base i (by omega)
 ·by_cases e:i=q
  ·simp only [if_pos e];omega
  ·simp only [if_neg e];exact h.ne i (by omega)
 ·by_cases e1:i=q
  ·by_cases e2:j=q
   ·omega
   ·simp only [if_pos e1,if_neg e2] at e
    have:=hlt j (by omega);omega
  ·by_cases e2:j=q
   ·simp only [if_neg e1,if_pos e2] at e
    have:=hlt i (by omega);omega
   ·simp only [if_neg e1,if_neg e2] at e
    exact h.inj i j (by omega) (by omega) e
theorem drawn_c {w:World} {lv:Value} {l:Vs} {d:Nat} (hl:RdV w lv l) (hlo:VsOk l (d:Int)) (k:Nat) (hk1:1<=k) (hk:k<=l.length) (hn:l.length<=512) (x:Int) (hx:Rn.U x) :
  Calls Tryz.prog 119 #[lv,.int .i64 (k:Int),.int .u64 x] w fun e w'=>∃ cb gs cp,e=.returned (.slice (some ⟨cb,0,none⟩) k k)/\Cen w.heap.size w' cb gs cp k d (cenF (drawnV l k x))/\Gb w w':=by
 have L:Hid (RdV w lv l):=hl
 have K:Hid (VsOk l (d:Int)):=hlo
 have PE:Hid (Rn.Per l.length (Rn.pS x l.length (l.length - 1))):=Rn.per_pS x l.length (l.length - 1) (Nat.le_refl _)
 have DG:Hid (∀ i,i < k->(drawnV l k x)[i]! = l[(Rn.pS x l.length (l.length - 1) i).toNat]!):=fun i hi=>drawnV_get l x hi
 obtain ⟨al,cl,rfl,_⟩:=hl
 obtain ⟨n,hN⟩:∃ n,n=l.length:=⟨_,rfl⟩
 have N:Hid (n=l.length):=hN
 rw [<- hN] at L hk hn PE DG ⊢
 clear hlo hN
 have bB:Boxed (w.alloc (.cells #[.int .u64 x] 235)) w.heap.size 235 (.int .u64 x):=Boxed.new w _ _
 have cP:=Rn.perm_ok w.heap.size n x _ bB hx (by omega)
 rw [World.size_alloc] at cP
 go_enter Tryz.func119,Tryz.ntmps119
 go_wp2_with fail
 refine (Rn.new_c x w).mono ?_
 rintro e w1 ⟨rfl,rfl⟩
 go_wp2_with fail
 refine cP.mono ?_
 rintro e w2 ⟨rfl,hA,_,g2⟩
 clear cP bB
 have G2:Gb w w2:=below_grown (gb_alloc (Below.refl _ _) _) g2 (fun b e=>by cases e;exact Nat.le_refl _) (by rw [World.size_alloc];omega)
 have hmk:=run_make_row' (P:=Tryz.prog) 36 26 (.slice none 0 0) 24 Tryz.underlying36 Tryz.infoV rfl .i64 .i64 k (by omega) (by omega) w2
 have hlt:=hA.lt
 have D0:Dr w (w2.alloc (.cells (madeCells #[Value.slice none 0 0] k) 26)) w2.heap.size (w.heap.size + 1) (fun _=>0) (fun _=>0) k d n 0 (Rn.pS x n (n - 1)) (cenF (drawnV l k x)) :=
  ⟨(World.rowIs_made w2 _ k _).congr (fun i _=>by simp),fun i hi=>absurd hi (Nat.not_lt_zero _),fun i hi=>absurd hi (Nat.not_lt_zero _),G2.size,fun i hi=>absurd hi (Nat.not_lt_zero _),fun i j hi=>absurd hi (Nat.not_lt_zero _),hA.alloc _,by omega,gb_alloc G2 _⟩
 generalize w2.alloc (.cells (madeCells #[Value.slice none 0 0] k) 26)=W0 at *
 generalize w2.heap.size=cb at *
 generalize w.heap.size + 1=ob at *
 clear hA g2 G2 hlt
 go_wp2
 clear hmk
 go_loopw [22] (fun iv W=>∃ (q:Nat) (gs cp:Nat->Nat),iv=.int .i64 (q:Int)/\q<=k/\Hid (Dr w W cb ob gs cp k d n q (Rn.pS x n (n - 1)) (cenF (drawnV l k x)))) (fun iv _=>k - (intOf iv).toNat)
 case atStart=>exact ⟨0,_,_,rfl,Nat.zero_le _,D0⟩
 case round =>
  clear D0
  obtain ⟨q,gs,cp,rfl,hq,X⟩:=hrel
  by_cases hqn:q < k
  ·have hqi:(q:Int) < (k:Int):=by omega
   have hqn':(q:Int) < (n:Int):=by omega
   have hp:=PE.out.1 q (by omega)
   have c1:=X.out.ord.cell (i:=q) (by omega)
   obtain ⟨j,hj⟩:∃ j:Nat,Rn.pS x n (n - 1) q=(j:Int):=⟨(Rn.pS x n (n - 1) q).toNat,by omega⟩
   have DQ:=DG.out q hqn
   rw [hj] at hp c1 DQ
   rw [Int.toNat_natCast] at DQ
   have hjl:j < l.length:=by have:=N.out;omega
   have hji:(j:Int) < (n:Int):=hp.2
   obtain ⟨b1,o1,u1,ea,k1,k2⟩:=cen_at L.out hjl
   subst ea
   have g1:=X.out.gb
   have x0:=gb_keeps g1 k1
   have hd:=K.out.get hjl
   have cC:=clone_c (k2.gb g1) (by omega) hd.1
   have r0:=X.out.row.cell hqn
   have r1:=X.out.row.frozen q
   simp only [Nat.lt_irrefl,if_false] at r0
   obtain ⟨pu,cu,rfl,_⟩:=k2
   have FQ:Hid (∀ t,cenF (drawnV l k x) q t=l[j]![t]!):=fun t=>by unfold cenF;rw [DQ]
   have hdl:d=l[j]!.length:=by omega
   generalize l[j]! = y at *
   have HY:Hid (d=y.length/\1<=y.length):=⟨hdl,hd.1⟩
   rw [<- hdl] at x0 cC
   clear k1 hj DQ hd hdl hp
   go_wp2_with fail
   refine cC.mono ?_
   rintro e w4 ⟨v',rfl,ho,g4⟩
   obtain ⟨g,cap,ev,hg,hA4⟩:=own_arr ho HY.out.2
   rw [<- HY.out.1] at ev hA4
   subst ev
   have X2:=X.out.next hqn g4 hg hA4 FQ.out
   have r2:=gb_keeps g4 r0
   have r3:w4.frozen? ⟨cb,q,none⟩=false:=(World.frozen?_of_block (g4.block cb X.out.row.lt)).trans r1
   clear cC ho X g4 hg hA4 r0 r1 g1 x0 c1
   go_wp2
   go_roundw
   case rel=>exact ⟨q + 1,_,_,by go_num,hqn,X2⟩
   case measure=>simp [intOf];omega
  ·have hqi:¬ (q:Int) < (k:Int):=by omega
   have hqk:q=k:=by omega
   subst hqk
   have X':=X.out
   clear X
   go_wp2
   go_ret
   exact ⟨cb,rfl,⟨gs,cp,⟨X'.row.congr (fun i hi=>by rw [if_pos hi]),X'.arr,X'.base,X'.hB,X'.ne,X'.inj⟩⟩,X'.gb⟩
end Go.Proofs.YtcipdampcmfmaabGreat

namespace Go.Proofs.YtcipdampcmfmaabGreat
open Go.RowKit Go.Maps
set_option maxRecDepth 100000
set_option maxHeartbeats 4000000
def Gs (gs:Nat->Nat) (k:Nat):Nat->Prop:=fun b=>∃ i,i < k/\b=gs i
theorem four_kp {W w':World} {p0 p1 p2 p3:Addr} {v0 v1 v2 v3:Value} {S:Nat->Prop} (g:Kp S W w') (h0:¬ S p0.block) (h1:¬ S p1.block) (h2:¬ S p2.block) (h3:¬ S p3.block)
  (h:W.cell? p0=some v0/\W.cell? p1=some v1/\W.cell? p2=some v2/\W.cell? p3=some v3):w'.cell? p0=some v0/\w'.cell? p1=some v1/\w'.cell? p2=some v2/\w'.cell? p3=some v3 :=
 ⟨g.cell h.1 h0,g.cell h.2.1 h1,g.cell h.2.2.1 h2,g.cell h.2.2.2 h3⟩
theorem boxed_kp {W w':World} {b:Nat} {t:TypeId} {v:Value} {S:Nat->Prop} (h:Boxed W b t v) (g:Kp S W w') (hn:¬ S b):Boxed w' b t v:=(g.block b h.lt hn).trans h
structure Rd2 (w0 w W:World) (cb b0 b1 pb:Nat) (gs cp:Nat->Nat) (us:Nat->Value) (k d q:Nat) (l cs:Vs) (lv cv:Value):Prop where
 cen:Cen w0.heap.size W cb gs cp k d (fun i=>if i < q then midF l (cenF cs i) (belTo cs l i l.length) else cenF cs i)
 row:W.rowIs pb 26 k us
 own:∀ i,i < k->Own W w.heap.size (us i) (belI cs l l.length i)
 x0:Boxed W b0 36 lv
 x1:Boxed W b1 36 cv
 kp:Kp (Gs gs k) w W
theorem Rd2.next {w0 w W W':World} {cb b0 b1 pb:Nat} {gs cp:Nat->Nat} {us:Nat->Value} {k d q:Nat} {l cs:Vs} {lv cv:Value} (h:Rd2 w0 w W cb b0 b1 pb gs cp us k d q l cs lv cv) (hq:q < k)
  (hG:∀ i,i < k->gs i < w.heap.size) (hpb:w.heap.size<=pb) (n0:¬ Gs gs k b0) (n1:¬ Gs gs k b1)
  (hA:Rn.Arr W' (gs q) d (cp q) (midF l (cenF cs q) (belTo cs l q l.length))) (g:Kp (fun b=>b=gs q) W W'):Rd2 w0 w W' cb b0 b1 pb gs cp us k d (q + 1) l cs lv cv:=by
 have hgq:=hG q hq
 refine ⟨⟨h.cen.row.of_block (g.block _ h.cen.row.lt (fun e=>h.cen.ne q hq e.symm)),fun i hi=>?_,h.cen.base,h.cen.hB,h.cen.ne,h.cen.inj⟩,h.row.of_block (g.block _ h.row.lt (fun e=>by omega)),fun i hi=>own_kp (h.own i hi) g (fun b e e2=>?_),
  boxed_kp h.x0 g (fun e=>n0 ⟨q,hq,e⟩),boxed_kp h.x1 g (fun e=>n1 ⟨q,hq,e⟩),h.kp.trans (g.mono fun b e=>⟨q,hq,e⟩)⟩
 ·by_cases e:i=q
  ·subst e
   simp only [Nat.lt_succ_self,if_true]
   exact hA
  ·have h1:=arr_kp (h.cen.arr i hi) g (fun e2=>e (h.cen.inj i q hi hq e2))
   by_cases e2:i < q
   ·simp only [if_pos e2] at h1;simp only [if_pos (Nat.lt_succ_of_lt e2)];exact h1
   ·simp only [if_neg e2] at h1;simp only [if_neg (show ¬ i < q + 1 by omega)];exact h1
 ·have:=(k_own_lt (h.own i hi) e).2
  omega
theorem midF_is {l cs:Vs} {i t d:Nat} (hd:cs[i]!.length=d) (ht:t < d) (hi:i < cs.length):midF l (cenF cs i) (belTo cs l i l.length) t=cenF (roundV l cs) i t:=by
 unfold cenF midF
 rw [roundV_get l hi]
 by_cases h:(belTo cs l i l.length).length=0
 ·rw [if_pos h];unfold middle;rw [if_pos h]
 ·rw [if_neg h,middle_get h (by omega)]
theorem round_c {w0 w:World} {cb b0 b1:Nat} {gs cp:Nat->Nat} {k d:Nat} {l cs:Vs} {lv:Value} (hl:RdV w0 lv l) (g0:Gb w0 w) (hC:Cen w0.heap.size w cb gs cp k d (cenF cs)) (hk:cs.length=k)
  (x0:Boxed w b0 36 lv) (x1:Boxed w b1 36 (.slice (some ⟨cb,0,none⟩) k k)) (n0:¬ Gs gs k b0) (n1:¬ Gs gs k b1)
  (hlo:VsOk l (d:Int)) (hco:VsOk cs (d:Int)) (h1:1<=k) (h64:k<=64) (hn:l.length<=512) :
  Calls Tryz.prog 157 #[.pointer (some ⟨b0,0,none⟩),.pointer (some ⟨b1,0,none⟩)] w fun e w'=>e=.returned (.tuple #[])/\Cen w0.heap.size w' cb gs cp k d (cenF (roundV l cs))/\Kp (Gs gs k) w w':=by
 have hcd:∀ i,i < k->cs[i]!.length=d:=fun i hi=>by have:=hco.get (i:=i) (by omega);omega
 have cb':=belonging_c (hl.gb g0) (hC.rd hk hcd) hlo hco (by omega) (by omega) hn
 rw [hk] at cb'
 have hG:∀ i,i < k->gs i < w.heap.size:=fun i hi=>(hC.arr i hi).lt
 have H:Hid ((∀ i,i < k->gs i < w.heap.size)/\¬ Gs gs k b0/\¬ Gs gs k b1/\(∀ i,i < k->cs[i]!.length=d)/\cs.length=k):=⟨hG,n0,n1,hcd,hk⟩
 have L:Hid (RdV w0 lv l/\Gb w0 w/\(∀ b,Gs gs k b->w0.heap.size<=b)):=⟨hl,g0,fun b ⟨i,hi,e⟩=>by rw [e];exact hC.base i hi⟩
 have O:Hid (∀ j,j < l.length->l[j]!.length=d/\allR l[j]! = true):=fun j hj=>by have:=hlo.get hj;exact ⟨by omega,this.2.2.2⟩
 obtain ⟨al,cl,rfl,_⟩:=hl
 have hd64:d<=64:=by have:=hco.get (i:=0) (by omega);omega
 obtain ⟨nl,hnl⟩:∃ nl,nl=l.length:=⟨_,rfl⟩
 rw [<- hnl] at cb' L x0
 have NL:Hid (nl=l.length):=hnl
 have y0:=x0.cell
 have y1:=x1.cell
 clear hlo hco hcd hG n0 n1 hnl
 go_enter Tryz.func157,Tryz.ntmps157
 go_wp2_with fail
 refine cb'.mono ?_
 rintro e w1 ⟨us,rfl,hP⟩
 have X0:Rd2 w0 w w1 cb b0 b1 w.heap.size gs cp us k d 0 l cs (.slice al nl cl) (.slice (some ⟨cb,0,none⟩) k k):=by
  have hP':=hP
  rw [NL.out] at hP'
  exact ⟨by simpa using hC.gb hP.gb,hP.row,hP'.own,(hP.gb.block _ x0.lt).trans x0,(hP.gb.block _ x1.lt).trans x1,Kp.gb hP.gb⟩
 clear cb' hP hC x0 x1 y0 y1
 have y0:=X0.x0.cell
 have y1:=X0.x1.cell
 go_wp2
 clear y0 y1
 go_loopw [9] (fun iv W=>∃ q:Nat,iv=.int .i64 (q:Int)/\q<=k/\Hid (Rd2 w0 w W cb b0 b1 w.heap.size gs cp us k d q l cs (.slice al nl cl) (.slice (some ⟨cb,0,none⟩) k k))) (fun iv _=>k - (intOf iv).toNat)
 case atStart=>exact ⟨0,rfl,Nat.zero_le _,X0⟩
 case round =>
  clear X0
  obtain ⟨q,rfl,hq,X⟩:=hrel
  by_cases hqn:q < k
  ·have hqi:(q:Int) < (k:Int):=by omega
   have y0:=X.out.x0.cell
   have y1:=X.out.x1.cell
   have r0:=X.out.cen.row.cell hqn
   have r1:=X.out.row.cell hqn
   have hA:=X.out.cen.arr q hqn
   simp only [Nat.lt_irrefl,if_false] at hA
   have hro:=X.out.own q hqn
   have cm:=fun W (gW:Gb wr W)=>(move_c (w:=W) (lv:=.slice al nl cl) (pv:=us q) (l:=l) (g:=gs q) (d:=d) (cap:=cp q) (f:=cenF cs q) (ps:=belTo cs l q l.length)
    (fun W' hK=>L.out.1.gb (((Kp.gb gW).trans hK).below (X.out.kp.below L.out.2.1 L.out.2.2) (fun b e=>by rw [e];exact L.out.2.2 _ ⟨q,hqn,rfl⟩)))
    (fun W' hK=>(own_kp hro ((Kp.gb gW).trans hK) (fun b e e2=>by have:=(k_own_lt hro e).2;have:=H.out.1 q hqn;omega)).rd) (arr_kp (S:=fun _=>False) hA (Kp.gb gW) id) hd64
    (fun i hi=>belTo_lt (by rw [getElem!_pos _ i hi];exact List.getElem_mem hi)) (Nat.le_trans (belTo_len _ _ _ _) hn) O.out)
   obtain ⟨nu,pu,cu,eu⟩:∃ nu pu cu,us q=.slice pu nu cu:=by obtain ⟨pv,cv,ev,_⟩:=hro.rd;exact ⟨_,pv,cv,ev⟩
   rw [eu] at r1 cm
   have nn:gs q ≠ b1/\gs q ≠ cb/\gs q ≠ b0/\gs q ≠ w.heap.size:=⟨fun e=>H.out.2.2.1 ⟨q,hqn,e.symm⟩,X.out.cen.ne q hqn,fun e=>H.out.2.1 ⟨q,hqn,e.symm⟩,by have:=H.out.1 q hqn;omega⟩
   obtain ⟨z1,z2,z3,z4⟩:=nn
   have Z:Hid (¬ b1=gs q/\¬ cb=gs q/\¬ b0=gs q/\¬ w.heap.size=gs q):=⟨fun e=>z1 e.symm,fun e=>z2 e.symm,fun e=>z3 e.symm,fun e=>z4 e.symm⟩
   have hgq:=H.out.1 q hqn
   clear hA hro z1 z2 z3 z4 hgq
   have XN:Hid (∀ W',Rn.Arr W' (gs q) d (cp q) (midF l (cenF cs q) (belTo cs l q l.length))->Kp (fun b=>b=gs q) wr.drew W'->Rd2 w0 w W' cb b0 b1 w.heap.size gs cp us k d (q + 1) l cs (.slice al nl cl) (.slice (some ⟨cb,0,none⟩) k k)) :=
    fun W' a b=>X.out.next hqn H.out.1 (Nat.le_refl _) H.out.2.1 H.out.2.2.1 a ((Kp.gb (Below.refl _ _).drew).trans b)
   generalize gs q=gq at *
   generalize cp q=cq at *
   clear X eu
   go_wp2
   go_region_held3 (fun w'=>w'.cell? ⟨b1,0,none⟩=some (.slice (some ⟨cb,0,none⟩) k k)/\w'.cell? ⟨cb,q,none⟩=some (.slice (some ⟨gq,0,none⟩) d cq)/\w'.cell? ⟨b0,0,none⟩=some (.slice al nl cl)/\w'.cell? ⟨w.heap.size,q,none⟩=some (.slice pu nu cu))
    (first | (with_reducible exact four_kp (by assumption) Z.out.1 Z.out.2.1 Z.out.2.2.1 Z.out.2.2.2 (by assumption)) | exact ⟨y1,r0,y0,r1⟩)
    (first | (go_at_call 159;refine (cm _ (Below.refl _ _).drew).mono ?_;rintro e w4 ⟨rfl,hA4,g4⟩))
   all_goals
    have X4:=XN.out _ hA4 g4
    clear cm hA4 g4 XN
    go_wp2
    first | (refine ⟨⟨q + 1,by go_num,hqn,X4⟩,by simp [intOf];omega⟩) | trace_state
  ·have hqi:¬ (q:Int) < (k:Int):=by omega
   have hqk:q=k:=by omega
   subst hqk
   have X':=X.out
   have HH:=H.out
   clear X H L O
   go_wp2
   refine bodyPost_end (results_none rfl _ _ _) rfl ?_
   exact ⟨rfl,⟨X'.cen.row,fun i hi=>(X'.cen.arr i hi).congr (fun t ht=>by simp only [if_pos hi];exact midF_is (HH.2.2.2.1 i hi) ht (by rw [HH.2.2.2.2];exact hi)),X'.cen.base,X'.cen.hB,X'.cen.ne,X'.cen.inj⟩,X'.kp⟩
end Go.Proofs.YtcipdampcmfmaabGreat
