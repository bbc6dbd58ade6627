import Derived.Test.YtcipdampcmfmaaaGreatIa42
import Derived.SizedLaws
import Derived.Test.YtcipdampcmfmaaaGreatIa38
import Derived.Test.YtcipdampcmfmaaaGreatIa41
import Derived.Test.YtcipdampcmfmaaaGreatIa17
import Derived.Test.YtcipdampcmfmaaaGreatIa23
import Derived.Test.YtcipdampcmfmaaaGreatIa34
import Derived.Test.YtcipdampcmfmaaaGreatIa28
import Derived.Test.YtcipdampcmfmaaaGreatIa2
namespace Go.Proofs.YtcipdampcmfmaaaGreat
open Go.ChangeShapes Go.WideShapes Go.ChangeAt Go.RowKit Go.Joins Go.Deep
set_option maxRecDepth 100000
theorem Tryz.bytesI:Tryz.prog.bytesOf 3=8:=by kernel_rfl
theorem Tryz.bytesR:Tryz.prog.bytesOf 43=32:=by kernel_rfl
theorem weights_in {H:Type} {e:TypeId} {d:DataW H}:∀ {l:List (DataW H)},d ∈ l->∀ n ∈ d.weights Tryz.prog e,n ∈ DataW.weightsAll Tryz.prog e l
 | x :: r,h,n,hn=>by
  simp only [DataW.weightsAll,List.mem_append]
  cases List.mem_cons.1 h with
  | inl h=>subst h;exact .inl hn
  | inr h=>exact .inr (weights_in h n hn)
theorem trodI_sz {H:Type} {enc:TypeId × Value->H} {W:World} {base fuel:Nat} {hd:Bool} {v:Value} {l:List Int} {x:DataW H × List MemPlace}
  (h:DataW.trod enc Tryz.prog W base (fun _=>true) hd fuel 41 [v]=some x) (hr:RdI W v l) (hw:∀ n ∈ x.1.weights Tryz.prog 41,n<=reachBytes):l.length<=reachBytes:=by
 rcases open_slice Tryz.underlying41 h with ⟨e,_⟩ | ⟨a,len,cap,m,n,D,Pl,e,_,hlc,hcm,_,rfl,_⟩
 ·cases e
  obtain ⟨_,_,e,_⟩:=hr
  injection e with _ e2 _
  omega
 ·cases e
  have h1:=hw ((((List.range len).map D).length + ((List.range (m - len)).map fun j=>D (len + j)).length) * Tryz.prog.bytesOf 3) (by simp [DataW.weights,Tryz.underlying41])
  rw [Tryz.bytesI] at h1
  simp only [List.length_map,List.length_range] at h1
  obtain ⟨_,_,e,_⟩:=hr
  injection e with _ e2 _
  omega
theorem open_rows_sz {H:Type} {enc:TypeId × Value->H} {W:World} {b0:Nat} {r:Reach} {v:Value} {d:DataW H} {p:List MemPlace}
  (hv':Value.okWide Tryz.prog W r b0 22 v) (h:DataW.Trod enc Tryz.prog W 0 (fun _=>true) true 22 v d p) (hw:∀ n ∈ d.weights Tryz.prog 22,n<=reachBytes) :
  ∃ rs:List Rw,RdW W v rs/\rs.length<=reachBytes/\(∀ i,i < rs.length->(Lit.int .i64 rs[i]!.1).wf=true)/\(∀ i,i < rs.length->rs[i]!.2.length<=reachBytes)/\∀ a n c,v=.slice a n c->n<=c:=by
 obtain ⟨a0,len,cap,rfl⟩:=okWide_slice Tryz.underlying22 hv'
 obtain ⟨fuel,hf⟩:=h
 rcases open_slice Tryz.underlying22 (by simpa [Value.cells] using hf) with ⟨e,_⟩ | ⟨a,len,cap,m,n,D,Pl,e,_,hlc,hcm,hm,hD,hx⟩
 ·cases e
  exact ⟨[],⟨none,0,rfl,fun i hi=>absurd hi (Nat.not_lt_zero _)⟩,Nat.zero_le _,fun i hi=>absurd hi (Nat.not_lt_zero _),fun i hi=>absurd hi (Nat.not_lt_zero _),fun a n c e=>by cases e;exact Nat.le_refl _⟩
 ·cases e
  rw [if_pos rfl] at hm
  subst hm
  have hd:d=.slice ((List.range len).map D) ((List.range (m - len)).map fun j=>D (len + j)):=congrArg Prod.fst hD
  subst hd
  have hw0:=hw ((((List.range len).map D).length + ((List.range (m - len)).map fun j=>D (len + j)).length) * Tryz.prog.bytesOf 43) (by simp [DataW.weights,Tryz.underlying22])
  rw [Tryz.bytesR] at hw0
  simp only [List.length_map,List.length_range] at hw0
  have hy:∀ i,i < len->∃ y:Rw,(∃ u,W.cell? (a.add (i * 2))=some (.int .i64 y.1)/\W.cell? ((a.add (i * 2)).add 1)=some u/\RdI W u y.2)/\(Lit.int .i64 y.1).wf=true/\y.2.length<=reachBytes:=by
   intro i hi
   obtain ⟨cs,hc,ht⟩:=hx i (by omega)
   obtain ⟨z0,z1,k,hz,hl1,j0,j1⟩:=trod_struct2 Tryz.underlying43 ht
   rw [Tryz.cells43] at hl1 hc
   match cs,hl1 with
   | [c0,c1],_ =>
    obtain ⟨x,e5,_,wx⟩:=DataW.trod_int Tryz.underlying3 j0
    obtain ⟨u,l,e6,rl,ll⟩:=trod22 j1
    have j2:=j1
    rw [e6] at j2
    simp [Tryz.cells3,Tryz.cells41] at e5 e6
    subst e5 e6
    obtain ⟨_,_,hcc⟩:=World.cells?_some hc
    have q0:=hcc 0 (by omega)
    have q1:=hcc 1 (by omega)
    refine ⟨(x,l),⟨_,by simpa [Addr.add] using q0,by simpa using q1,rl⟩,wx,trodI_sz j2 rl (fun n hn=>hw n ?_)⟩
    have hz':D i=.agg [z0.1,z1.1]:=congrArg Prod.fst hz
    simp only [DataW.weights,Tryz.underlying22,List.mem_cons,List.mem_append]
    refine .inr (.inl (weights_in (d:=D i) (List.mem_map.2 ⟨i,List.mem_range.2 hi,rfl⟩) n ?_))
    rw [hz']
    simp only [DataW.weights,Tryz.underlying43,List.map_cons,List.map_nil,DataW.weightsEach,List.mem_append]
    exact .inr (.inl hn)
  obtain ⟨Y,hY⟩:=choose_lt (α:=Rw) (p:=fun i y=>(∃ u,W.cell? (a.add (i * 2))=some (.int .i64 y.1)/\W.cell? ((a.add (i * 2)).add 1)=some u/\RdI W u y.2)/\(Lit.int .i64 y.1).wf=true/\y.2.length<=reachBytes) hy
  have hg:∀ i,i < len->((List.range len).map Y)[i]! = Y i:=by
   intro i hi
   rw [getElem!_pos _ i (by simpa using hi)];simp
  refine ⟨(List.range len).map Y,⟨some a,m,by simp,fun i hi=>?_⟩,by simp;omega,fun i hi=>?_,fun i hi=>?_,fun a n c e=>by cases e;exact hlc⟩
  ·have hi':i < len:=by simpa using hi
   obtain ⟨⟨u0,q0,_⟩,_⟩:=hY 0 (by omega)
   have ha:a=⟨a.block,a.off,none⟩:=spot_none (by simpa [Addr.add] using q0)
   obtain ⟨⟨u,q1,q2,q3⟩,_⟩:=hY i hi'
   rw [hg i hi']
   rw [ha,Addr.add_lit] at q1
   rw [ha,Addr.add_lit,Addr.add_lit] at q2
   exact ⟨a.block,a.off,u,by rw [<- ha],q1,q2,q3⟩
  ·have hi':i < len:=by simpa using hi
   rw [hg i hi'];exact (hY i hi').2.1
  ·have hi':i < len:=by simpa using hi
   rw [hg i hi'];exact (hY i hi').2.2
end Go.Proofs.YtcipdampcmfmaaaGreat

namespace Go.Proofs.YtcipdampcmfmaaaGreat
open Go.RowKit Go.Sort
set_option maxHeartbeats 1000000
def srchE (m:Nat) (q:List Int) (k b:Int):Int:=if chk q (m:Int)=0 then (if (1<=k/\k<=64)/\0<=b/\b<=1000000 then 0 else 1) else chk q (m:Int)
theorem srchE_zero {m:Nat} {q:List Int} {k b:Int}:srchE m q k b=0 ↔ chk q (m:Int)=0/\(1<=k/\k<=64)/\0<=b/\b<=1000000:=by
 unfold srchE
 by_cases h:chk q (m:Int)=0
 ·rw [if_pos h]
  split
  ·rename_i h1;exact ⟨fun _=>⟨h,h1⟩,fun _=>rfl⟩
  ·rename_i h1;exact ⟨fun e=>absurd e (by decide),fun e=>absurd e.2 h1⟩
 ·rw [if_neg h]
  exact ⟨fun e=>absurd e h,fun e=>absurd e.1 h⟩
theorem knew_bad (k:Int) (hk:k < 1 ∨ 64 < k) (w:World):Calls Tryz.prog 46 #[.int .i64 k] w fun e w'=>e=.returned (.tuple #[.pointer none,.int .i64 1])/\w'=w:=by
 rcases hk with h | h
 ·exact Tk.new_lo k h w
 ·exact Tk.new_hi k h w
theorem ksearch_no {Iq:Nat->Prop} {w:World} {tb m:Nat} {C:Vs} {rs:List Rw} {F:List Nat} (h:TreeAt Iq w tb m C rs F) {u:Value} {q:List Int} (hu:RdI w u q) (k b:Int) (hz:srchE m q k b ≠ 0) :
  Calls Tryz.prog 19 #[.pointer (some ⟨tb,0,none⟩),u,.int .i64 k,.int .i64 b] w fun e w'=>e=.returned (.tuple #[.agg #[.slice none 0 0,.slice none 0 0,.slice none 0 0],.int .i64 (srchE m q k b)])/\Gb w w':=by
 obtain ⟨gc,cc,lb,pb,ks,pk,f,pf,G,o,rfl⟩:=h.opn
 obtain ⟨c0,_⟩:=o.cells
 clear o
 have g1:Gb w (w.alloc (.cells #[.slice none 0 0,.slice none 0 0,.slice none 0 0] 51)):=gb_alloc (Below.refl _ _) _
 have G:Hid (Gb w (w.alloc (.cells #[.slice none 0 0,.slice none 0 0,.slice none 0 0] 51))):=g1
 have e0:=gb_keeps g1 c0
 obtain ⟨x,hx⟩:∃ x,x=chk q (m:Int):=⟨_,rfl⟩
 have cK:=check_v (hu.gb g1) (m:Int) x hx.symm
 have hE:srchE m q k b=if x=0 then (if (1<=k/\k<=64)/\0<=b/\b<=1000000 then 0 else 1) else x:=by rw [hx];rfl
 rw [hE] at hz ⊢
 obtain ⟨ua,uc,eu,_⟩:=hu
 subst eu
 generalize q.length=nq at *
 clear hE hx h c0 g1
 by_cases h1:x=0
 ·subst h1
  rw [if_pos rfl] at hz ⊢
  by_cases h2:1<=k/\k<=64
  ·by_cases h3:0<=b/\b<=1000000
   ·rw [if_pos ⟨h2,h3⟩] at hz;exact absurd rfl hz
   ·rw [if_neg (fun h=>h3 h.2)]
    have cN:=Tk.new_ok k h2.1 h2.2 (w.alloc (.cells #[.slice none 0 0,.slice none 0 0,.slice none 0 0] 51))
    clear hz h2
    by_cases h4:b < 0
    ·go_enter Tryz.func19,Tryz.ntmps19
     go_wp2_with fail
     go_fit cK
     rintro e w1 ⟨rfl,rfl⟩
     clear cK
     go_wp2_with fail
     go_fit cN
     rintro e w2 ⟨rfl,rfl⟩
     clear cN h3
     go_wp2
     refine bodyPost_ret (v:=.tuple #[.agg #[.slice none 0 0,.slice none 0 0,.slice none 0 0],.int .i64 1]) (by simp [results,Tryz.results19,go_sem]) rfl ⟨rfl,?_⟩
     go_grown
    ·have h5:(1000000:Int) < b:=by omega
     clear h3
     go_enter Tryz.func19,Tryz.ntmps19
     go_wp2_with fail
     go_fit cK
     rintro e w1 ⟨rfl,rfl⟩
     clear cK
     go_wp2_with fail
     go_fit cN
     rintro e w2 ⟨rfl,rfl⟩
     clear cN
     go_wp2
     refine bodyPost_ret (v:=.tuple #[.agg #[.slice none 0 0,.slice none 0 0,.slice none 0 0],.int .i64 1]) (by simp [results,Tryz.results19,go_sem]) rfl ⟨rfl,?_⟩
     go_grown
  ·rw [if_neg (fun h=>h2 h.1)]
   have cN:=knew_bad k (by omega) (w.alloc (.cells #[.slice none 0 0,.slice none 0 0,.slice none 0 0] 51))
   clear hz h2
   go_enter Tryz.func19,Tryz.ntmps19
   go_wp2_with fail
   go_fit cK
   rintro e w1 ⟨rfl,rfl⟩
   clear cK
   go_wp2_with fail
   go_fit cN
   rintro e w2 ⟨rfl,rfl⟩
   clear cN
   go_wp2
   refine bodyPost_ret (v:=.tuple #[.agg #[.slice none 0 0,.slice none 0 0,.slice none 0 0],.int .i64 1]) (by simp [results,Tryz.results19,go_sem]) rfl ⟨rfl,?_⟩
   exact G.out
 ·have h2:(x == 0)=false:=by rw [beq_eq_false_iff_ne];exact h1
  rw [if_neg h1] at hz ⊢
  go_enter Tryz.func19,Tryz.ntmps19
  go_wp2_with fail
  go_fit cK
  rintro e w1 ⟨rfl,rfl⟩
  clear cK
  go_wp2
  refine bodyPost_ret (v:=.tuple #[.agg #[.slice none 0 0,.slice none 0 0,.slice none 0 0],.int .i64 x]) (by simp [results,Tryz.results19,go_sem]) rfl ⟨rfl,?_⟩
  exact G.out
end Go.Proofs.YtcipdampcmfmaaaGreat

namespace Go.Proofs.YtcipdampcmfmaaaGreat
open Go.RowKit Go.Sort
set_option maxHeartbeats 1000000
theorem gw_drewN {a w:World} (h:Tk.Gw a w) (n:Nat):Tk.Gw a (w.drewN n):=h.trans ⟨n,#[],by rw [grow_empty]⟩
theorem sub_split {rs srs:List Rw} (hr:rs.Nodup) (hs:srs.Nodup) (hm:∀ r ∈ srs,r ∈ rs):rs.Perm (srs ++ rs.filter fun r=>decide (r ∉ srs)):=by
 refine nd_perm hr (List.nodup_append.2 ⟨hs,hr.filter _,fun x hx y hy e=>?_⟩) (fun r=>?_)
 ·subst e
  have:=(List.mem_filter.1 hy).2
  simp only [decide_eq_true_eq] at this
  exact this hx
 ·rw [List.mem_append,List.mem_filter,decide_eq_true_eq]
  constructor
  ·intro hr
   by_cases hm:r ∈ srs
   ·exact Or.inl hm
   ·exact Or.inr ⟨hr,hm⟩
  ·rintro (hr | hr)
   ·exact hm r hr
   ·exact hr.1
theorem good_whole {rs:List Rw} {q:List Int} {k b:Nat} {a:Ans} (hask:askE rs q=0) (hk:1<=k) (h:GoodV rs q k b a) (hb:rs.length<=b ∨ certB q k a=true):a.hits=Tk.firsts k (hitsOf q rs):=by
 have full:a.seen.length=rs.length->a.hits=Tk.firsts k (hitsOf q rs):=fun e=>by
  obtain ⟨srs,hs⟩:=h.sound
  have e1:srs.length=rs.length:=by rw [<- e,<- hs.ids];simp [idsOf]
  have p:=sub_split (rows_nd hask) (rows_nd (hs.ask hask)) hs.mem
  have hl:=p.length_eq
  rw [List.length_append] at hl
  have e0:rs.filter (fun r=>decide (r ∉ srs))=[]:=List.eq_nil_of_length_eq_zero (by omega)
  rw [e0,List.append_nil] at p
  rw [hs.hits,Tk.firsts_perm k (hitsOf_perm q p)]
 have hsl:a.seen.length<=rs.length:=by
  obtain ⟨srs,hs⟩:=h.sound
  have p:=(sub_split (rows_nd hask) (rows_nd (hs.ask hask)) hs.mem).length_eq
  rw [List.length_append] at p
  rw [<- hs.ids]
  have:(idsOf srs).length=srs.length:=by simp [idsOf]
  omega
 rcases hb with hb | hb
 ·rcases h.stop with e | e | e
  ·exact full (by omega)
  ·exact full e
  ·exact cert_true hask hk h.sound e
 ·exact cert_true hask hk h.sound hb
theorem ask_of {rs:List Rw} {q:List Int} {m:Nat} (hok:RowsOk rs (m:Int)) (hq:chk q (m:Int)=0):askE rs q=0:=by
 have:=(chk_ok hq).2.2.1
 rw [askE_zero,<- this]
 exact ⟨hq,hok⟩
def K4:List Rw:=[(1,[0,0]),(2,[3,4]),(3,[0,1]),(4,[30,40])]
theorem krdi2 {W:World} {b:Nat} {x y:Int} (h:W.heap[b]? = some (.cells #[.int .i64 x,.int .i64 y] 3 (0,0))):RdI W (.slice (some ⟨b,0,none⟩) 2 2) [x,y]:=by
 refine ⟨_,_,rfl,fun i hi=>⟨b,0,rfl,?_⟩⟩
 rcases i with _ | _ | i
 ·simp [World.cell?,h]
 ·simp [World.cell?,h]
 ·simp only [List.length_cons,List.length_nil] at hi;omega
theorem krows_c (w:World):Calls Tryz.prog 40 #[] w fun e w'=>∃ b,e=.returned (.slice (some ⟨b,0,none⟩) 4 4)/\RdW w' (.slice (some ⟨b,0,none⟩) 4 4) K4/\Gb w w':=by
 go_enter Tryz.func40,Tryz.ntmps40
 go_wp2
 go_ret
 refine ⟨_,rfl,?_,by go_grown⟩
 refine ⟨_,_,rfl,fun i hi=>?_⟩
 have hi':i < 4:=hi
 have r0:RdI (((((w.alloc (.cells #[.int .i64 0,.int .i64 0] 3)).alloc (.cells #[.int .i64 3,.int .i64 4] 3)).alloc (.cells #[.int .i64 0,.int .i64 1] 3)).alloc (.cells #[.int .i64 30,.int .i64 40] 3)).alloc (.cells #[.int .i64 1,.slice (some ⟨w.heap.size,0,none⟩) 2 2,.int .i64 2,.slice (some ⟨w.heap.size + 1,0,none⟩) 2 2,.int .i64 3,.slice (some ⟨w.heap.size + 1 + 1,0,none⟩) 2 2,.int .i64 4,.slice (some ⟨w.heap.size + 1 + 1 + 1,0,none⟩) 2 2] 43)) _ [0,0]:=(krdi2 (World.alloc_heap_new w (.cells #[.int .i64 0,.int .i64 0] 3))).gb (gb_alloc (gb_alloc (gb_alloc (gb_alloc (Below.refl _ _) _) _) _) _)
 have r1:RdI (((((w.alloc (.cells #[.int .i64 0,.int .i64 0] 3)).alloc (.cells #[.int .i64 3,.int .i64 4] 3)).alloc (.cells #[.int .i64 0,.int .i64 1] 3)).alloc (.cells #[.int .i64 30,.int .i64 40] 3)).alloc (.cells #[.int .i64 1,.slice (some ⟨w.heap.size,0,none⟩) 2 2,.int .i64 2,.slice (some ⟨w.heap.size + 1,0,none⟩) 2 2,.int .i64 3,.slice (some ⟨w.heap.size + 1 + 1,0,none⟩) 2 2,.int .i64 4,.slice (some ⟨w.heap.size + 1 + 1 + 1,0,none⟩) 2 2] 43)) _ [3,4]:=(krdi2 (World.alloc_heap_new (w.alloc (.cells #[.int .i64 0,.int .i64 0] 3)) (.cells #[.int .i64 3,.int .i64 4] 3))).gb (gb_alloc (gb_alloc (gb_alloc (Below.refl _ _) _) _) _)
 have r2:RdI (((((w.alloc (.cells #[.int .i64 0,.int .i64 0] 3)).alloc (.cells #[.int .i64 3,.int .i64 4] 3)).alloc (.cells #[.int .i64 0,.int .i64 1] 3)).alloc (.cells #[.int .i64 30,.int .i64 40] 3)).alloc (.cells #[.int .i64 1,.slice (some ⟨w.heap.size,0,none⟩) 2 2,.int .i64 2,.slice (some ⟨w.heap.size + 1,0,none⟩) 2 2,.int .i64 3,.slice (some ⟨w.heap.size + 1 + 1,0,none⟩) 2 2,.int .i64 4,.slice (some ⟨w.heap.size + 1 + 1 + 1,0,none⟩) 2 2] 43)) _ [0,1]:=(krdi2 (World.alloc_heap_new ((w.alloc (.cells #[.int .i64 0,.int .i64 0] 3)).alloc (.cells #[.int .i64 3,.int .i64 4] 3)) (.cells #[.int .i64 0,.int .i64 1] 3))).gb (gb_alloc (gb_alloc (Below.refl _ _) _) _)
 have r3:RdI (((((w.alloc (.cells #[.int .i64 0,.int .i64 0] 3)).alloc (.cells #[.int .i64 3,.int .i64 4] 3)).alloc (.cells #[.int .i64 0,.int .i64 1] 3)).alloc (.cells #[.int .i64 30,.int .i64 40] 3)).alloc (.cells #[.int .i64 1,.slice (some ⟨w.heap.size,0,none⟩) 2 2,.int .i64 2,.slice (some ⟨w.heap.size + 1,0,none⟩) 2 2,.int .i64 3,.slice (some ⟨w.heap.size + 1 + 1,0,none⟩) 2 2,.int .i64 4,.slice (some ⟨w.heap.size + 1 + 1 + 1,0,none⟩) 2 2] 43)) _ [30,40]:=(krdi2 (World.alloc_heap_new (((w.alloc (.cells #[.int .i64 0,.int .i64 0] 3)).alloc (.cells #[.int .i64 3,.int .i64 4] 3)).alloc (.cells #[.int .i64 0,.int .i64 1] 3)) (.cells #[.int .i64 30,.int .i64 40] 3))).gb (gb_alloc (Below.refl _ _) _)
 simp only [World.size_alloc] at r1 r2 r3
 rcases i with _ | _ | _ | _ | i
 ·exact ⟨_,_,_,rfl,by simp [go_sem,K4],by simp [go_sem],r0⟩
 ·exact ⟨_,_,_,rfl,by simp [go_sem,K4],by simp [go_sem],r1⟩
 ·exact ⟨_,_,_,rfl,by simp [go_sem,K4],by simp [go_sem],r2⟩
 ·exact ⟨_,_,_,rfl,by simp [go_sem,K4],by simp [go_sem],r3⟩
 ·omega
theorem kbuild_ok {Iq:Nat->Prop} {w:World} {v:Value} {rs:List Rw} (up:Up Iq w) (h:RdW w v rs) (hwf:Wf rs) {m A B:Nat} (hz:flatE rs (m:Int)=0) (hA:1<=A/\A<=64) (hB:B<=20) (S:Int) (us:Rn.U S) :
  Calls Tryz.prog 12 #[v,.int .i64 (m:Int),.agg #[.int .i64 (A:Int),.int .i64 (B:Int),.int .u64 S]] w fun e w'=>TreeOut Iq w m A B S rs e w':=by
 have g1:Gb w (w.alloc (.cells #[.int .i64 (A:Int),.int .i64 (B:Int),.int .u64 S] 25)):=gb_alloc (Below.refl _ _) _
 have cB:=build_ok (up.gb g1) (h.gb g1) hwf us hz hA hB
 have FX:Hid (∀ e w',TreeOut Iq (w.alloc (.cells #[.int .i64 (A:Int),.int .i64 (B:Int),.int .u64 S] 25)) m A B S rs e w'->∃ tb,e=.returned (.tuple #[.pointer (some ⟨tb,0,none⟩),.int .i64 0])/\TreeOut Iq w m A B S rs e w'):=by
  rintro e w' ⟨tb,rs',F,rfl,h1,h2,h3,h4⟩
  refine ⟨tb,rfl,tb,rs',F,rfl,h1,h2,gb_trans g1 h3,fun x hx=>?_⟩
  have:=h4 x hx
  have:=g1.size
  omega
 obtain ⟨a,c,e,_⟩:=h
 subst e
 generalize rs.length=n at *
 clear g1 hz hA hB hwf us
 go_enter Tryz.func12,Tryz.ntmps12
 go_wp2_with fail
 go_fit cB
 intro e w1 hO
 obtain ⟨tb,rfl,hT⟩:=FX.out _ _ hO
 have HT:Hid _:=hT
 clear cB hO FX hT
 go_wp2
 refine bodyPost_ret (v:=.tuple #[.pointer (some ⟨tb,0,none⟩),.int .i64 0]) (by simp [results,Tryz.results12,go_sem]) rfl ?_
 exact HT.out
def bldE (rs:List Rw) (d A B:Int):Int:=if flatE rs d=0 then (if (1<=A/\A<=64)/\0<=B/\B<=20 then 0 else 1) else flatE rs d
end Go.Proofs.YtcipdampcmfmaaaGreat

namespace Go.Proofs.YtcipdampcmfmaaaGreat
open Go.RowKit Go.Sort Go.Maps
set_option maxRecDepth 100000
set_option maxHeartbeats 4000000
theorem ris_perm {a b:List Rw} (ha:Ris a) (hb:Ris b) (p:a.Perm b):a=b :=
 p.eq_of_pairwise (fun _ _ _ _ h1 h2=>by omega) ha hb
theorem khits4:hitsOf [0,0] K4=[(1,0,0),(2,0,25),(3,0,1),(4,0,2500)]:=by decide
theorem ksrt4:Tk.srt (hitsOf [0,0] K4)=[(1,0,0),(3,0,1),(2,0,25),(4,0,2500)]:=by
 rw [khits4]
 exact Tk.srt_of_perm (by unfold Tk.Srtd;decide) (by decide)
theorem kfirst2:Tk.firsts 2 (hitsOf [0,0] K4)=[(1,0,0),(3,0,1)]:=by unfold Tk.firsts;rw [ksrt4];rfl
theorem kwf4:Wf K4:=⟨by decide,by decide⟩
theorem kfl4:flatE K4 ((2:Nat):Int)=0:=by decide
theorem krs4:Ris K4:=by unfold Ris;decide
theorem kput1:putE 2 K4 (3,[9,9])=0/\putRw K4 (3,[9,9])=[(1,[0,0]),(2,[3,4]),(3,[9,9]),(4,[30,40])]:=by decide
theorem kput0 (rs:List Rw):putE 2 rs (0,[1,1])=50:=by unfold putE;rw [if_neg (by decide)]
theorem kown_sl {w:World} {v:Value} {l:List Tk.Ht} (h:Tk.Own w v l.toArray) (h0:0 < l.length):∃ g cap,v=.slice (some ⟨g,0,none⟩) l.length cap/\l.length<=cap/\Tk.Lies w g 0 l:=by
 obtain ⟨g,cap,cur,e,hh,hc,_⟩:=Tk.own_form h (by simpa using h0)
 subst e
 exact ⟨g,cap,by simp,by simpa using hc,by simpa using Tk.own_lies h⟩
theorem AnsK.forms {w0 W:World} {vh vs vr:Value} {hits:List Tk.Ht} {ids:List Int} {regs:List Reg} (h:AnsK w0 W vh vs vr hits ids regs):∃ a1 n1 c1 a2 n2 c2 a3 n3 c3,vh=.slice a1 n1 c1/\vs=.slice a2 n2 c2/\vr=.slice a3 n3 c3:=by
 obtain ⟨a2,c2,e2,_⟩:=h.seen.rd
 obtain ⟨a3,c3,e3⟩:=h.rest.form
 rcases h.hits.2 with ⟨e,_⟩ | ⟨g',cap,cur,e,_⟩
 ·exact ⟨_,_,_,a2,_,c2,a3,_,c3,e,e2,e3⟩
 ·exact ⟨_,_,_,a2,_,c2,a3,_,c3,e,e2,e3⟩
theorem TreeAt.cok {Iq:Nat->Prop} {w:World} {tb m:Nat} {C:Vs} {rs:List Rw} {F:List Nat} (h:TreeAt Iq w tb m C rs F):VsOk C (m:Int)/\1<=C.length/\C.length<=64:=by
 obtain ⟨gc,cc,lb,pb,ks,pk,f,pf,G,o,rfl⟩:=h.opn
 exact o.cok
theorem search_good {Iq:Nat->Prop} {w:World} {tb m:Nat} {C:Vs} {rs:List Rw} {F:List Nat} (h:TreeAt Iq w tb m C rs F) {q:List Int} (hq:chk q (m:Int)=0) {k b:Nat} (hk:1<=k/\k<=64) (hb:b<=1000000):∃ a,GoodV rs q k b a/\∀ W u,Gb w W->RdI W u q ->
  Calls Tryz.prog 19 #[.pointer (some ⟨tb,0,none⟩),u,.int .i64 (k:Int),.int .i64 (b:Int)] W fun e W'=>∃ vh vs vr,e=.returned (.tuple #[.agg #[vh,vs,vr],.int .i64 0])/\AnsK W W' vh vs vr a.hits a.seen a.rest :=
 ⟨ansV q k (endV q k b C rs),good_end h.ris h.rok.1 h.cok hq hk,fun _ _ g hu=>search_c (h.gb g) hu hq hk hb⟩
theorem ksearch4 {Iq:Nat->Prop} {w:World} {tb:Nat} {C:Vs} {F:List Nat} (h:TreeAt Iq w tb 2 C K4 F) {u:Value} {W:World} (g:Gb w W) (hu:RdI W u [0,0]) :
  Calls Tryz.prog 19 #[.pointer (some ⟨tb,0,none⟩),u,.int .i64 2,.int .i64 4] W fun e W'=>∃ gh ch a2 n2 c2 a3 n3 c3,e=.returned (.tuple #[.agg #[.slice (some ⟨gh,0,none⟩) 2 ch,.slice a2 n2 c2,.slice a3 n3 c3],.int .i64 0])/\W.heap.size<=gh/\gh < W'.heap.size/\Tk.Lies W' gh 0 [(1,0,0),(3,0,1)]/\Gb W W':=by
 obtain ⟨a,hG,c⟩:=search_good h (q:=[0,0]) (by decide) (k:=2) (b:=4) (by decide) (by decide)
 refine (c W u g hu).mono ?_
 rintro e W' ⟨vh,vs,vr,rfl,hA⟩
 rw [good_whole (by decide) (by decide) hG (.inl (by decide)),kfirst2] at hA
 obtain ⟨a1,n1,c1,a2,n2,c2,a3,n3,c3,rfl,rfl,rfl⟩:=hA.forms
 obtain ⟨gh,ch,e,_,hl⟩:=kown_sl hA.hits (by decide)
 cases e
 obtain ⟨_,_,_,_,hh,_⟩:=Tk.own_form hA.hits (by decide)
 have lt:gh < W'.heap.size:=by
  have:=hl 0 (by decide)
  exact World.block_lt_of_cell? W' _ this.1
 exact ⟨gh,_,a2,n2,c2,a3,n3,c3,rfl,hA.hB gh rfl,lt,hl,hA.gb⟩
def Aw (Iq:Nat->Prop) (w:World) (tb bx gh ch:Nat) (C:Vs) (rs:List Rw) (W:World):Prop:=∃ F,TreeAt Iq W tb 2 C rs F/\(∀ x ∈ F,w.heap.size<=x/\x ≠ bx/\x ≠ gh)/\bx < W.heap.size/\gh < W.heap.size/\Tk.Lies W gh 0 [(1,0,0),(3,0,1)]/\W.cell? ⟨bx,0,none⟩=some (.slice (some ⟨gh,0,none⟩) 2 ch)/\Gb w W
theorem lies_kp {S:Nat->Prop} {W W':World} {g:Nat} {l:List Tk.Ht} (h:Tk.Lies W g 0 l) (k:Tk.Kp S W W') (hn:¬ S g):Tk.Lies W' g 0 l:=fun i hi =>
 ⟨k.cell (h i hi).1 hn,k.cell (h i hi).2.1 hn,k.cell (h i hi).2.2 hn⟩
theorem aw_out {Iq:Nat->Prop} {w W W':World} {tb bx gh ch:Nat} {C:Vs} {rs':List Rw} {F:List Nat} (hF:∀ x ∈ F,w.heap.size<=x/\x ≠ bx/\x ≠ gh) (hb:bx < W.heap.size) (hg:gh < W.heap.size) (hl:Tk.Lies W gh 0 [(1,0,0),(3,0,1)]) (hc:W.cell? ⟨bx,0,none⟩=some (.slice (some ⟨gh,0,none⟩) 2 ch)) (g:Gb w W) (h:TOut Iq W tb 2 C F rs' W'):Aw Iq w tb bx gh ch C rs' W':=by
 obtain ⟨F',t,l,k⟩:=h
 have s:=k.size
 have s0:=g.size
 refine ⟨F',t,fun x hx=>?_,by omega,by omega,lies_kp hl k (fun h=>(hF gh h).2.2 rfl),k.cell hc (fun h=>(hF bx h).2.1 rfl),g.trans (k.gr s0 fun x hx=>(hF x hx).1)⟩
 rcases l x hx with h | h
 ·exact hF x h
 ·exact ⟨by omega,by omega,by omega⟩
theorem aw_put {Iq:Nat->Prop} {w W:World} {tb bx gh ch:Nat} {C:Vs} {rs:List Rw} (h:Aw Iq w tb bx gh ch C rs W) (id x y:Int) {z:Int} (hz:putE 2 rs (id,[x,y])=z) {n:Bool} (hn:(decide (z=0) && !hasId rs id)=n) :
  Calls Tryz.prog 24 #[.pointer (some ⟨tb,0,none⟩),.agg #[.int .i64 id,.slice (some ⟨W.heap.size,0,none⟩) 2 2]] (W.alloc (.cells #[.int .i64 x,.int .i64 y] 3)) fun e w'=>e=.returned (.tuple #[.bool n,.int .i64 z])/\Aw Iq w tb bx gh ch C (if z=0 then putRw rs (id,[x,y]) else rs) w':=by
 obtain ⟨F,t,hF,hb,hg,hl,hc,g⟩:=h
 have ga:Gb W (W.alloc (.cells #[.int .i64 x,.int .i64 y] 3)):=gb_alloc (Below.refl _ _) _
 have s:=ga.size
 refine (put_c (xi:=id) (t.gb ga) (krdi2 (World.alloc_heap_new W (.cells #[.int .i64 x,.int .i64 y] 3))) ?_).mono ?_
 ·intro b o n c e hb
  cases e
  have:=t.mem.2 _ hb
  omega
 ·rintro e w' ⟨rfl,hO⟩
  rw [hz] at hO ⊢
  rw [hn]
  exact ⟨rfl,aw_out hF (by omega) (by omega) (lies_kp (S:=fun _=>False) hl (Tk.Kp.of_gr ga) (fun h=>h)) (gb_keeps ga hc) (gb_trans g ga) hO⟩
theorem aw_del {Iq:Nat->Prop} {w W:World} {tb bx gh ch:Nat} {C:Vs} {rs:List Rw} (h:Aw Iq w tb bx gh ch C rs W) (id:Int) (hid:KWf id) {n:Bool} (hn:hasId rs id=n) :
  Calls Tryz.prog 26 #[.pointer (some ⟨tb,0,none⟩),.int .i64 id] W fun e w'=>e=.returned (.tuple #[.bool n,.int .i64 0])/\Aw Iq w tb bx gh ch C (delRw rs id) w':=by
 obtain ⟨F,t,hF,hb,hg,hl,hc,g⟩:=h
 refine (delete_c t id hid).mono ?_
 rintro e w' ⟨rfl,hO⟩
 rw [hn]
 exact ⟨rfl,aw_out hF hb hg hl hc g hO⟩
theorem aw_len {Iq:Nat->Prop} {w W:World} {tb bx gh ch:Nat} {C:Vs} {rs:List Rw} (h:Aw Iq w tb bx gh ch C rs W) {n:Int} (hn:(rs.length:Int)=n) :
  Calls Tryz.prog 23 #[.pointer (some ⟨tb,0,none⟩)] W fun e w'=>e=.returned (.int .i64 n)/\w'=W:=by
 obtain ⟨F,t,_⟩:=h
 rw [<- hn]
 exact len_c t
theorem kawake_c (w:World):Calls Tryz.prog 14 #[] w fun e w'=>e=.returned (.bool true)/\Gb w w':=by
 go_enter Tryz.func14,Tryz.ntmps14
 go_wp2_with fail
 refine (krows_c w).mono ?_
 rintro e w1 ⟨b1,rfl,r1,g1⟩
 have c:Calls Tryz.prog 12 #[.slice (some ⟨b1,0,none⟩) 4 4,.int .i64 2,.agg #[.int .i64 2,.int .i64 20,.int .u64 7]] w1 fun e w'=>TreeOut IqT w1 2 2 20 7 K4 e w':=kbuild_ok (upT _) r1 kwf4 (m:=2) (A:=2) (B:=20) kfl4 (by decide) (by decide) 7 (by decide)
 go_wp2_with fail
 refine c.mono ?_
 rintro e w2 ⟨tb,rs,F,rfl,t2,p2,g2,f2⟩
 obtain rfl:=ris_perm t2.ris krs4 p2
 have G2:Gb w w2:=gb_trans g1 g2
 have s1:=g1.size
 have f2':∀ x ∈ F,w.heap.size<=x:=fun x hx=>by have:=f2 x hx;omega
 clear c g1 g2 r1 f2 p2
 have c:=len_c t2
 go_wp2_with fail
 refine c.mono ?_
 rintro e w3 ⟨rfl,rfl⟩
 clear c
 have ga:Gb w3 (w3.alloc (.cells #[.int .i64 0,.int .i64 0] 3)):=gb_alloc (Below.refl _ _) _
 have c:=ksearch4 t2 ga (krdi2 (World.alloc_heap_new w3 (.cells #[.int .i64 0,.int .i64 0] 3)))
 go_wp2_with fail
 refine c.mono ?_
 rintro e w4 ⟨gh,ch,a2,n2,c2,a3,n3,c3,rfl,q1,q2,ql,q3⟩
 clear c
 have s3:=ga.size
 have s4:=q3.size
 have A4:Aw IqT w tb w4.heap.size gh ch (cenOf K4 2 2 20 7) K4 (w4.alloc (.cells #[.slice (some ⟨gh,0,none⟩) 2 ch,.slice a2 n2 c2,.slice a3 n3 c3] 51)):=by
  have ga4:Gb w4 (w4.alloc (.cells #[.slice (some ⟨gh,0,none⟩) 2 ch,.slice a2 n2 c2,.slice a3 n3 c3] 51)):=gb_alloc (Below.refl _ _) _
  have m2:=t2.mem.2
  have s5:=ga4.size
  refine ⟨F,((t2.gb ga).gb q3).gb ga4,fun x hx=>⟨f2' x hx,?_,?_⟩,?_,by omega,lies_kp (S:=fun _=>False) ql (Tk.Kp.of_gr ga4) (fun h=>h),?_,gb_trans G2 (gb_trans ga (gb_trans q3 ga4))⟩
  ·have:=m2 x hx;omega
  ·have:=m2 x hx;rw [World.size_alloc] at q1;omega
  ·rw [World.size_alloc];omega
  ·simp [go_sem]
 have c:=aw_put A4 3 9 9 kput1.1 (n:=false) (by decide)
 rw [if_pos rfl,kput1.2,World.size_alloc] at c
 clear A4 ql q3 ga t2 G2 f2' q1 s1 s3 s4 q2
 go_wp2_with fail
 refine c.mono ?_
 rintro e w6 ⟨rfl,A6⟩
 clear c
 have c:=aw_del A6 1 ⟨by decide,by decide⟩ (n:=true) (by decide)
 clear A6
 go_wp2_with fail
 refine c.mono ?_
 rintro e w7 ⟨rfl,A7⟩
 clear c
 have c:=aw_put A7 0 1 1 (kput0 _) (n:=false) (by decide)
 rw [if_neg (by decide)] at c
 clear A7
 go_wp2_with fail
 refine c.mono ?_
 rintro e w8 ⟨rfl,A8⟩
 clear c
 have c:=aw_len A8 (n:=3) (by decide)
 obtain ⟨F8,_,_,_,_,l8,c8,g8⟩:=A8
 go_wp2_with fail
 refine c.mono ?_
 rintro e w9 ⟨rfl,rfl⟩
 clear c
 have l0:=l8 0 (by decide)
 have l1:=l8 1 (by decide)
 clear l8
 simp only [Tk.Ht.id,Tk.Ht.hi,Tk.Ht.lo] at l0 l1
 go_wp2
 refine bodyPost_ret (v:=.bool true) (by simp [results,Tryz.results14,go_sem]) rfl ⟨rfl,?_⟩
 exact g8
end Go.Proofs.YtcipdampcmfmaaaGreat

namespace Go.Proofs.YtcipdampcmfmaaaGreat
open Go.RowKit Go.Sort
theorem own_cur {W:World} {B n k:Nat} {t:TypeId} {v:Value} {xs:List Value} {g:Nat} {cap n':Nat} (h:W.ownsRow B t k v n xs) (e:v=.slice (some ⟨g,0,none⟩) n' cap):∃ cur,B<=g/\g < W.heap.size/\W.heap[g]? = some (.cells cur t (0,0))/\n * k<=cur.size/\∀ (j:Nat) u,xs[j]? = some u->cur[j]? = some u:=by
 have hc:=h.cells (g:=g) (by rw [e];rfl)
 have hlt:=h.lt g (by rw [e];rfl)
 rcases h.2 with ⟨e',_⟩ | ⟨g',cap',cur,e',hB,hh,h1,h2,h3,_⟩
 ·rw [e] at e';cases e'
 ·rw [e] at e'
  cases e'
  refine ⟨cur,hlt.1,hlt.2,hh,by rw [h3];exact Nat.mul_le_mul_right k h1,fun j u hj=>?_⟩
  have:=hc j u hj
  rw [Addr.add_lit,Nat.zero_add] at this
  simpa [World.cell?,hh] using this
end Go.Proofs.YtcipdampcmfmaaaGreat

namespace Go.Proofs.YtcipdampcmfmaaaGreat
open Go.RowKit Go.Sort
set_option maxRecDepth 100000
set_option maxHeartbeats 1000000
def coords (rs:List Rw):Nat:=(rs.map fun r=>r.2.length).sum
theorem coords_snoc {rs:List Rw} {q:Nat} (hq:q < rs.length):coords (rs.take (q + 1))=coords (rs.take q) + rs[q]!.2.length:=by
 unfold coords
 rw [List.take_succ_eq_append_getElem hq,List.map_append,List.sum_append,getElem!_pos rs q hq]
 simp
theorem coords_le {rs:List Rw} (q:Nat):coords (rs.take q)<=coords rs:=by
 have h:coords rs=coords (rs.take q) + coords (rs.drop q):=by
  unfold coords
  rw [<- List.sum_append,<- List.map_append,List.take_append_drop]
 omega
theorem coords_row {rs:List Rw} {i:Nat} (hi:i < rs.length):rs[i]!.2.length<=coords rs:=by
 have h1:=coords_snoc hi
 have h2:=coords_le (rs:=rs) (i + 1)
 omega
theorem vects_b {w:World} {v:Value} {rs:List Rw} (h:RdW w v rs) (most:Nat) (hlen:rs.length<=4611686018427387904) (hmost:most<=4611686018427387903) (hrow:∀ i,i < rs.length->rs[i]!.2.length<=4611686018427387904) :
  Calls Tryz.prog 34 #[v,.int .i64 (most:Int)] w fun e w'=>(∃ z:Int,e=.returned (.int .i64 z)/\(z<=(most:Int)->rs.length + coords rs<=most))/\w=w':=by
 obtain ⟨a,cap,rfl,ha⟩:=h
 have A:Hid (∀ i,i < rs.length->∃ b o u,a=some ⟨b,o,none⟩/\w.cell? ⟨b,o + i * 2,none⟩=some (.int .i64 rs[i]!.1)/\w.cell? ⟨b,o + i * 2 + 1,none⟩=some u/\RdI w u rs[i]!.2):=ha
 obtain ⟨n,hN⟩:∃ n,n=rs.length:=⟨_,rfl⟩
 have N:Hid (n=rs.length):=hN
 have HS:Hid (∀ i,i < rs.length->rs[i]!.2.length<=4611686018427387904):=hrow
 rw [<- hN] at hlen ⊢
 clear ha hN hrow
 go_enter Tryz.func34,Tryz.ntmps34
 go_wp2
 go_loopw [5,6] (fun zv iv w'=>∃ (q z:Nat),zv=.int .i64 (z:Int)/\iv=.int .i64 (q:Int)/\q<=n/\Hid (z=n + coords (rs.take q))/\w=w') (fun _ iv _=>n - (intOf iv).toNat)
 case atStart=>exact ⟨0,n,rfl,rfl,Nat.zero_le _,by unfold Hid;simp [coords],rfl⟩
 case round =>
  obtain ⟨q,z,rfl,rfl,hq,Z,rfl⟩:=hrel
  by_cases hqn:q < n
  ·have hqi:(q:Int) < (n:Int):=by omega
   by_cases hz:(z:Int)<=(most:Int)
   ·have hql:q < rs.length:=by have:=N.out;omega
    obtain ⟨b,o,u,ea,hc,hd,hr⟩:=A.out q hql
    obtain ⟨pu,cu,eu,_⟩:=hr
    subst ea;subst eu
    have hs:=coords_snoc hql
    have hZ:=Z.out
    have hS:=HS.out q hql
    generalize rs[q]!.2.length=k at *
    generalize rs[q]!.1=x at *
    obtain ⟨y,hy⟩:∃ y:Nat,y=z + k:=⟨_,rfl⟩
    have Y:Hid (y=n + coords (rs.take (q + 1))):=by unfold Hid;omega
    have hyb:y<=9223372036854775807:=by omega
    have hyi:(z:Int) + (k:Int)=(y:Int):=by omega
    clear hql hs hZ hS hy Z
    go_wp2
    go_roundw
    case rel=>exact ⟨q + 1,y,by first | rfl | go_num,by simp,hqn,Y,by first | rfl | trivial⟩
    case measure=>simp [intOf];omega
   ·go_wp2
    go_ret
    exact ⟨⟨_,rfl,fun h=>by omega⟩,by first | rfl | trivial⟩
  ·have hqi:¬ (q:Int) < (n:Int):=by omega
   have hZ:=Z.out
   rw [List.take_of_length_le (by have:=N.out;omega)] at hZ
   have F:Hid ((z:Int)<=(most:Int)->n + coords rs<=most):=fun h=>by omega
   clear Z hZ
   go_wp2
   go_ret
   exact ⟨⟨_,rfl,F.out⟩,by first | rfl | trivial⟩
end Go.Proofs.YtcipdampcmfmaaaGreat
