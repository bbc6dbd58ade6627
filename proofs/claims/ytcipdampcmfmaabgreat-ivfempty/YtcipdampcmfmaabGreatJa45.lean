import Derived.Test.YtcipdampcmfmaabGreatJa41
import Derived.Test.YtcipdampcmfmaabGreatJa44
import Derived.Test.YtcipdampcmfmaabGreatJa9
import Derived.Test.YtcipdampcmfmaabGreatJa20
import Derived.Test.YtcipdampcmfmaabGreatJa24
import Derived.Test.YtcipdampcmfmaabGreatJa40
namespace Go.Proofs.YtcipdampcmfmaabGreat
open Go.RowKit Go.Sort
set_option maxHeartbeats 1000000
def srchE (m:Nat) (q:List Int) (k b:Int):Int:=if chk q (m:Int)=0 then (if (1<=k/\k<=64)/\0<=b/\b<=1000000 then 0 else 1) else chk q (m:Int)
theorem srchE_zero {m:Nat} {q:List Int} {k b:Int}:srchE m q k b=0 ↔ chk q (m:Int)=0/\(1<=k/\k<=64)/\0<=b/\b<=1000000:=by
 unfold srchE
 by_cases h:chk q (m:Int)=0
 ·rw [if_pos h]
  split
  ·rename_i h1;exact ⟨fun _=>⟨h,h1⟩,fun _=>rfl⟩
  ·rename_i h1;exact ⟨fun e=>absurd e (by decide),fun e=>absurd e.2 h1⟩
 ·rw [if_neg h]
  exact ⟨fun e=>absurd e h,fun e=>absurd e.1 h⟩
theorem knew_bad (k:Int) (hk:k < 1 ∨ 64 < k) (w:World):Calls Tryz.prog 36 #[.int .i64 k] w fun e w'=>e=.returned (.tuple #[.pointer none,.int .i64 1])/\w'=w:=by
 rcases hk with h | h
 ·exact Tk.new_lo k h w
 ·exact Tk.new_hi k h w
theorem ksearch_no {Iq:Nat->Prop} {w:World} {tb m:Nat} {C:Vs} {rs:List Rw} {F:List Nat} (h:TreeAt Iq w tb m C rs F) {u:Value} {q:List Int} (hu:RdI w u q) (k b:Int) (hz:srchE m q k b ≠ 0) :
  Calls Tryz.prog 16 #[.pointer (some ⟨tb,0,none⟩),u,.int .i64 k,.int .i64 b] w fun e w'=>e=.returned (.tuple #[.agg #[.slice none 0 0,.slice none 0 0,.slice none 0 0],.int .i64 (srchE m q k b)])/\Gb w w':=by
 obtain ⟨gc,cc,lb,pb,ks,pk,f,pf,G,o,rfl⟩:=h.opn
 obtain ⟨c0,_⟩:=o.cells
 clear o
 have g1:Gb w (w.alloc (.cells #[.slice none 0 0,.slice none 0 0,.slice none 0 0] 51)):=gb_alloc (Below.refl _ _) _
 have G:Hid (Gb w (w.alloc (.cells #[.slice none 0 0,.slice none 0 0,.slice none 0 0] 51))):=g1
 have e0:=gb_keeps g1 c0
 obtain ⟨x,hx⟩:∃ x,x=chk q (m:Int):=⟨_,rfl⟩
 have cK:=check_v (hu.gb g1) (m:Int) x hx.symm
 have hE:srchE m q k b=if x=0 then (if (1<=k/\k<=64)/\0<=b/\b<=1000000 then 0 else 1) else x:=by rw [hx];rfl
 rw [hE] at hz ⊢
 obtain ⟨ua,uc,eu,_⟩:=hu
 subst eu
 generalize q.length=nq at *
 clear hE hx h c0 g1
 by_cases h1:x=0
 ·subst h1
  rw [if_pos rfl] at hz ⊢
  by_cases h2:1<=k/\k<=64
  ·by_cases h3:0<=b/\b<=1000000
   ·rw [if_pos ⟨h2,h3⟩] at hz;exact absurd rfl hz
   ·rw [if_neg (fun h=>h3 h.2)]
    have cN:=Tk.new_ok k h2.1 h2.2 (w.alloc (.cells #[.slice none 0 0,.slice none 0 0,.slice none 0 0] 51))
    clear hz h2
    by_cases h4:b < 0
    ·go_enter Tryz.func16,Tryz.ntmps16
     go_wp2_with fail
     go_fit cK
     rintro e w1 ⟨rfl,rfl⟩
     clear cK
     go_wp2_with fail
     go_fit cN
     rintro e w2 ⟨rfl,rfl⟩
     clear cN h3
     go_wp2
     refine bodyPost_ret (v:=.tuple #[.agg #[.slice none 0 0,.slice none 0 0,.slice none 0 0],.int .i64 1]) (by simp [results,Tryz.results16,go_sem]) rfl ⟨rfl,?_⟩
     go_grown
    ·have h5:(1000000:Int) < b:=by omega
     clear h3
     go_enter Tryz.func16,Tryz.ntmps16
     go_wp2_with fail
     go_fit cK
     rintro e w1 ⟨rfl,rfl⟩
     clear cK
     go_wp2_with fail
     go_fit cN
     rintro e w2 ⟨rfl,rfl⟩
     clear cN
     go_wp2
     refine bodyPost_ret (v:=.tuple #[.agg #[.slice none 0 0,.slice none 0 0,.slice none 0 0],.int .i64 1]) (by simp [results,Tryz.results16,go_sem]) rfl ⟨rfl,?_⟩
     go_grown
  ·rw [if_neg (fun h=>h2 h.1)]
   have cN:=knew_bad k (by omega) (w.alloc (.cells #[.slice none 0 0,.slice none 0 0,.slice none 0 0] 51))
   clear hz h2
   go_enter Tryz.func16,Tryz.ntmps16
   go_wp2_with fail
   go_fit cK
   rintro e w1 ⟨rfl,rfl⟩
   clear cK
   go_wp2_with fail
   go_fit cN
   rintro e w2 ⟨rfl,rfl⟩
   clear cN
   go_wp2
   refine bodyPost_ret (v:=.tuple #[.agg #[.slice none 0 0,.slice none 0 0,.slice none 0 0],.int .i64 1]) (by simp [results,Tryz.results16,go_sem]) rfl ⟨rfl,?_⟩
   exact G.out
 ·have h2:(x == 0)=false:=by rw [beq_eq_false_iff_ne];exact h1
  rw [if_neg h1] at hz ⊢
  go_enter Tryz.func16,Tryz.ntmps16
  go_wp2_with fail
  go_fit cK
  rintro e w1 ⟨rfl,rfl⟩
  clear cK
  go_wp2
  refine bodyPost_ret (v:=.tuple #[.agg #[.slice none 0 0,.slice none 0 0,.slice none 0 0],.int .i64 x]) (by simp [results,Tryz.results16,go_sem]) rfl ⟨rfl,?_⟩
  exact G.out
end Go.Proofs.YtcipdampcmfmaabGreat

namespace Go.Proofs.YtcipdampcmfmaabGreat
open Go.RowKit Go.Sort
set_option maxHeartbeats 1000000
theorem gw_drewN {a w:World} (h:Tk.Gw a w) (n:Nat):Tk.Gw a (w.drewN n):=h.trans ⟨n,#[],by rw [grow_empty]⟩
theorem sub_split {rs srs:List Rw} (hr:rs.Nodup) (hs:srs.Nodup) (hm:∀ r ∈ srs,r ∈ rs):rs.Perm (srs ++ rs.filter fun r=>decide (r ∉ srs)):=by
 refine nd_perm hr (List.nodup_append.2 ⟨hs,hr.filter _,fun x hx y hy e=>?_⟩) (fun r=>?_)
 ·subst e
  have:=(List.mem_filter.1 hy).2
  simp only [decide_eq_true_eq] at this
  exact this hx
 ·rw [List.mem_append,List.mem_filter,decide_eq_true_eq]
  constructor
  ·intro hr
   by_cases hm:r ∈ srs
   ·exact Or.inl hm
   ·exact Or.inr ⟨hr,hm⟩
  ·rintro (hr | hr)
   ·exact hm r hr
   ·exact hr.1
theorem good_whole {rs:List Rw} {q:List Int} {k b:Nat} {a:Ans} (hask:askE rs q=0) (hk:1<=k) (h:GoodV rs q k b a) (hb:rs.length<=b ∨ certB q k a=true):a.hits=Tk.firsts k (hitsOf q rs):=by
 have full:a.seen.length=rs.length->a.hits=Tk.firsts k (hitsOf q rs):=fun e=>by
  obtain ⟨srs,hs⟩:=h.sound
  have e1:srs.length=rs.length:=by rw [<- e,<- hs.ids];simp [idsOf]
  have p:=sub_split (rows_nd hask) (rows_nd (hs.ask hask)) hs.mem
  have hl:=p.length_eq
  rw [List.length_append] at hl
  have e0:rs.filter (fun r=>decide (r ∉ srs))=[]:=List.eq_nil_of_length_eq_zero (by omega)
  rw [e0,List.append_nil] at p
  rw [hs.hits,Tk.firsts_perm k (hitsOf_perm q p)]
 have hsl:a.seen.length<=rs.length:=by
  obtain ⟨srs,hs⟩:=h.sound
  have p:=(sub_split (rows_nd hask) (rows_nd (hs.ask hask)) hs.mem).length_eq
  rw [List.length_append] at p
  rw [<- hs.ids]
  have:(idsOf srs).length=srs.length:=by simp [idsOf]
  omega
 rcases hb with hb | hb
 ·rcases h.stop with e | e | e
  ·exact full (by omega)
  ·exact full e
  ·exact cert_true hask hk h.sound e
 ·exact cert_true hask hk h.sound hb
theorem ask_of {rs:List Rw} {q:List Int} {m:Nat} (hok:RowsOk rs (m:Int)) (hq:chk q (m:Int)=0):askE rs q=0:=by
 have:=(chk_ok hq).2.2.1
 rw [askE_zero,<- this]
 exact ⟨hq,hok⟩
def K4:List Rw:=[(1,[0,0]),(2,[3,4]),(3,[0,1]),(4,[30,40])]
theorem krdi2 {W:World} {b:Nat} {x y:Int} (h:W.heap[b]? = some (.cells #[.int .i64 x,.int .i64 y] 3 (0,0))):RdI W (.slice (some ⟨b,0,none⟩) 2 2) [x,y]:=by
 refine ⟨_,_,rfl,fun i hi=>⟨b,0,rfl,?_⟩⟩
 rcases i with _ | _ | i
 ·simp [World.cell?,h]
 ·simp [World.cell?,h]
 ·simp only [List.length_cons,List.length_nil] at hi;omega
theorem krows_c (w:World):Calls Tryz.prog 26 #[] w fun e w'=>∃ b,e=.returned (.slice (some ⟨b,0,none⟩) 4 4)/\RdW w' (.slice (some ⟨b,0,none⟩) 4 4) K4/\Gb w w':=by
 go_enter Tryz.func26,Tryz.ntmps26
 go_wp2
 go_ret
 refine ⟨_,rfl,?_,by go_grown⟩
 refine ⟨_,_,rfl,fun i hi=>?_⟩
 have hi':i < 4:=hi
 have r0:RdI (((((w.alloc (.cells #[.int .i64 0,.int .i64 0] 3)).alloc (.cells #[.int .i64 3,.int .i64 4] 3)).alloc (.cells #[.int .i64 0,.int .i64 1] 3)).alloc (.cells #[.int .i64 30,.int .i64 40] 3)).alloc (.cells #[.int .i64 1,.slice (some ⟨w.heap.size,0,none⟩) 2 2,.int .i64 2,.slice (some ⟨w.heap.size + 1,0,none⟩) 2 2,.int .i64 3,.slice (some ⟨w.heap.size + 1 + 1,0,none⟩) 2 2,.int .i64 4,.slice (some ⟨w.heap.size + 1 + 1 + 1,0,none⟩) 2 2] 45)) _ [0,0]:=(krdi2 (World.alloc_heap_new w (.cells #[.int .i64 0,.int .i64 0] 3))).gb (gb_alloc (gb_alloc (gb_alloc (gb_alloc (Below.refl _ _) _) _) _) _)
 have r1:RdI (((((w.alloc (.cells #[.int .i64 0,.int .i64 0] 3)).alloc (.cells #[.int .i64 3,.int .i64 4] 3)).alloc (.cells #[.int .i64 0,.int .i64 1] 3)).alloc (.cells #[.int .i64 30,.int .i64 40] 3)).alloc (.cells #[.int .i64 1,.slice (some ⟨w.heap.size,0,none⟩) 2 2,.int .i64 2,.slice (some ⟨w.heap.size + 1,0,none⟩) 2 2,.int .i64 3,.slice (some ⟨w.heap.size + 1 + 1,0,none⟩) 2 2,.int .i64 4,.slice (some ⟨w.heap.size + 1 + 1 + 1,0,none⟩) 2 2] 45)) _ [3,4]:=(krdi2 (World.alloc_heap_new (w.alloc (.cells #[.int .i64 0,.int .i64 0] 3)) (.cells #[.int .i64 3,.int .i64 4] 3))).gb (gb_alloc (gb_alloc (gb_alloc (Below.refl _ _) _) _) _)
 have r2:RdI (((((w.alloc (.cells #[.int .i64 0,.int .i64 0] 3)).alloc (.cells #[.int .i64 3,.int .i64 4] 3)).alloc (.cells #[.int .i64 0,.int .i64 1] 3)).alloc (.cells #[.int .i64 30,.int .i64 40] 3)).alloc (.cells #[.int .i64 1,.slice (some ⟨w.heap.size,0,none⟩) 2 2,.int .i64 2,.slice (some ⟨w.heap.size + 1,0,none⟩) 2 2,.int .i64 3,.slice (some ⟨w.heap.size + 1 + 1,0,none⟩) 2 2,.int .i64 4,.slice (some ⟨w.heap.size + 1 + 1 + 1,0,none⟩) 2 2] 45)) _ [0,1]:=(krdi2 (World.alloc_heap_new ((w.alloc (.cells #[.int .i64 0,.int .i64 0] 3)).alloc (.cells #[.int .i64 3,.int .i64 4] 3)) (.cells #[.int .i64 0,.int .i64 1] 3))).gb (gb_alloc (gb_alloc (Below.refl _ _) _) _)
 have r3:RdI (((((w.alloc (.cells #[.int .i64 0,.int .i64 0] 3)).alloc (.cells #[.int .i64 3,.int .i64 4] 3)).alloc (.cells #[.int .i64 0,.int .i64 1] 3)).alloc (.cells #[.int .i64 30,.int .i64 40] 3)).alloc (.cells #[.int .i64 1,.slice (some ⟨w.heap.size,0,none⟩) 2 2,.int .i64 2,.slice (some ⟨w.heap.size + 1,0,none⟩) 2 2,.int .i64 3,.slice (some ⟨w.heap.size + 1 + 1,0,none⟩) 2 2,.int .i64 4,.slice (some ⟨w.heap.size + 1 + 1 + 1,0,none⟩) 2 2] 45)) _ [30,40]:=(krdi2 (World.alloc_heap_new (((w.alloc (.cells #[.int .i64 0,.int .i64 0] 3)).alloc (.cells #[.int .i64 3,.int .i64 4] 3)).alloc (.cells #[.int .i64 0,.int .i64 1] 3)) (.cells #[.int .i64 30,.int .i64 40] 3))).gb (gb_alloc (Below.refl _ _) _)
 simp only [World.size_alloc] at r1 r2 r3
 rcases i with _ | _ | _ | _ | i
 ·exact ⟨_,_,_,rfl,by simp [go_sem,K4],by simp [go_sem],r0⟩
 ·exact ⟨_,_,_,rfl,by simp [go_sem,K4],by simp [go_sem],r1⟩
 ·exact ⟨_,_,_,rfl,by simp [go_sem,K4],by simp [go_sem],r2⟩
 ·exact ⟨_,_,_,rfl,by simp [go_sem,K4],by simp [go_sem],r3⟩
 ·omega
theorem kbuild_ok {Iq:Nat->Prop} {w:World} {v:Value} {rs:List Rw} (up:Up Iq w) (h:RdW w v rs) (hwf:Wf rs) {m A B:Nat} (hz:flatE rs (m:Int)=0) (hA:1<=A/\A<=64) (hB:B<=20) (S:Int) (us:Rn.U S) :
  Calls Tryz.prog 7 #[v,.int .i64 (m:Int),.agg #[.int .i64 (A:Int),.int .i64 (B:Int),.int .u64 S]] w fun e w'=>TreeOut Iq w m A B S rs e w':=by
 have g1:Gb w (w.alloc (.cells #[.int .i64 (A:Int),.int .i64 (B:Int),.int .u64 S] 25)):=gb_alloc (Below.refl _ _) _
 have cB:=build_ok (up.gb g1) (h.gb g1) hwf us hz hA hB
 have FX:Hid (∀ e w',TreeOut Iq (w.alloc (.cells #[.int .i64 (A:Int),.int .i64 (B:Int),.int .u64 S] 25)) m A B S rs e w'->∃ tb,e=.returned (.tuple #[.pointer (some ⟨tb,0,none⟩),.int .i64 0])/\TreeOut Iq w m A B S rs e w'):=by
  rintro e w' ⟨tb,rs',F,rfl,h1,h2,h3,h4⟩
  refine ⟨tb,rfl,tb,rs',F,rfl,h1,h2,gb_trans g1 h3,fun x hx=>?_⟩
  have:=h4 x hx
  have:=g1.size
  omega
 obtain ⟨a,c,e,_⟩:=h
 subst e
 generalize rs.length=n at *
 clear g1 hz hA hB hwf us
 go_enter Tryz.func7,Tryz.ntmps7
 go_wp2_with fail
 go_fit cB
 intro e w1 hO
 obtain ⟨tb,rfl,hT⟩:=FX.out _ _ hO
 have HT:Hid _:=hT
 clear cB hO FX hT
 go_wp2
 refine bodyPost_ret (v:=.tuple #[.pointer (some ⟨tb,0,none⟩),.int .i64 0]) (by simp [results,Tryz.results7,go_sem]) rfl ?_
 exact HT.out
def bldE (rs:List Rw) (d A B:Int):Int:=if flatE rs d=0 then (if (1<=A/\A<=64)/\0<=B/\B<=20 then 0 else 1) else flatE rs d
end Go.Proofs.YtcipdampcmfmaabGreat

namespace Go.Proofs.YtcipdampcmfmaabGreat
open Go.RowKit Go.Sort Go.Maps
set_option maxRecDepth 100000
set_option maxHeartbeats 4000000
theorem ris_perm {a b:List Rw} (ha:Ris a) (hb:Ris b) (p:a.Perm b):a=b :=
 p.eq_of_pairwise (fun _ _ _ _ h1 h2=>by omega) ha hb
theorem khits4:hitsOf [0,0] K4=[(1,0,0),(2,0,25),(3,0,1),(4,0,2500)]:=by decide
theorem ksrt4:Tk.srt (hitsOf [0,0] K4)=[(1,0,0),(3,0,1),(2,0,25),(4,0,2500)]:=by
 rw [khits4]
 exact Tk.srt_of_perm (by unfold Tk.Srtd;decide) (by decide)
theorem kfirst2:Tk.firsts 2 (hitsOf [0,0] K4)=[(1,0,0),(3,0,1)]:=by unfold Tk.firsts;rw [ksrt4];rfl
theorem kwf4:Wf K4:=⟨by decide,by decide⟩
theorem kfl4:flatE K4 ((2:Nat):Int)=0:=by decide
theorem krs4:Ris K4:=by unfold Ris;decide
theorem kput1:putE 2 K4 (3,[9,9])=0/\putRw K4 (3,[9,9])=[(1,[0,0]),(2,[3,4]),(3,[9,9]),(4,[30,40])]:=by decide
theorem kput0 (rs:List Rw):putE 2 rs (0,[1,1])=50:=by unfold putE;rw [if_neg (by decide)]
theorem kown_sl {w:World} {v:Value} {l:List Tk.Ht} (h:Tk.Own w v l.toArray) (h0:0 < l.length):∃ g cap,v=.slice (some ⟨g,0,none⟩) l.length cap/\l.length<=cap/\Tk.Lies w g 0 l:=by
 obtain ⟨g,cap,cur,e,hh,hc,_⟩:=Tk.own_form h (by simpa using h0)
 subst e
 exact ⟨g,cap,by simp,by simpa using hc,by simpa using Tk.own_lies h⟩
theorem AnsK.forms {w0 W:World} {vh vs vr:Value} {hits:List Tk.Ht} {ids:List Int} {regs:List Reg} (h:AnsK w0 W vh vs vr hits ids regs):∃ a1 n1 c1 a2 n2 c2 a3 n3 c3,vh=.slice a1 n1 c1/\vs=.slice a2 n2 c2/\vr=.slice a3 n3 c3:=by
 obtain ⟨a2,c2,e2,_⟩:=h.seen.rd
 obtain ⟨a3,c3,e3⟩:=h.rest.form
 rcases h.hits.2 with ⟨e,_⟩ | ⟨g',cap,cur,e,_⟩
 ·exact ⟨_,_,_,a2,_,c2,a3,_,c3,e,e2,e3⟩
 ·exact ⟨_,_,_,a2,_,c2,a3,_,c3,e,e2,e3⟩
theorem TreeAt.cok {Iq:Nat->Prop} {w:World} {tb m:Nat} {C:Vs} {rs:List Rw} {F:List Nat} (h:TreeAt Iq w tb m C rs F):VsOk C (m:Int)/\1<=C.length/\C.length<=64:=by
 obtain ⟨gc,cc,lb,pb,ks,pk,f,pf,G,o,rfl⟩:=h.opn
 exact o.cok
theorem search_good {Iq:Nat->Prop} {w:World} {tb m:Nat} {C:Vs} {rs:List Rw} {F:List Nat} (h:TreeAt Iq w tb m C rs F) {q:List Int} (hq:chk q (m:Int)=0) {k b:Nat} (hk:1<=k/\k<=64) (hb:b<=1000000):∃ a,GoodV rs q k b a/\∀ W u,Gb w W->RdI W u q ->
  Calls Tryz.prog 16 #[.pointer (some ⟨tb,0,none⟩),u,.int .i64 (k:Int),.int .i64 (b:Int)] W fun e W'=>∃ vh vs vr,e=.returned (.tuple #[.agg #[vh,vs,vr],.int .i64 0])/\AnsK W W' vh vs vr a.hits a.seen a.rest :=
 ⟨ansV q k (endV q k b C rs),good_end h.ris h.rok.1 h.cok hq hk,fun _ _ g hu=>search_c (h.gb g) hu hq hk hb⟩
theorem ksearch4 {Iq:Nat->Prop} {w:World} {tb:Nat} {C:Vs} {F:List Nat} (h:TreeAt Iq w tb 2 C K4 F) {u:Value} {W:World} (g:Gb w W) (hu:RdI W u [0,0]) :
  Calls Tryz.prog 16 #[.pointer (some ⟨tb,0,none⟩),u,.int .i64 2,.int .i64 4] W fun e W'=>∃ gh ch a2 n2 c2 a3 n3 c3,e=.returned (.tuple #[.agg #[.slice (some ⟨gh,0,none⟩) 2 ch,.slice a2 n2 c2,.slice a3 n3 c3],.int .i64 0])/\W.heap.size<=gh/\gh < W'.heap.size/\Tk.Lies W' gh 0 [(1,0,0),(3,0,1)]/\Gb W W':=by
 obtain ⟨a,hG,c⟩:=search_good h (q:=[0,0]) (by decide) (k:=2) (b:=4) (by decide) (by decide)
 refine (c W u g hu).mono ?_
 rintro e W' ⟨vh,vs,vr,rfl,hA⟩
 rw [good_whole (by decide) (by decide) hG (.inl (by decide)),kfirst2] at hA
 obtain ⟨a1,n1,c1,a2,n2,c2,a3,n3,c3,rfl,rfl,rfl⟩:=hA.forms
 obtain ⟨gh,ch,e,_,hl⟩:=kown_sl hA.hits (by decide)
 cases e
 obtain ⟨_,_,_,_,hh,_⟩:=Tk.own_form hA.hits (by decide)
 have lt:gh < W'.heap.size:=by
  have:=hl 0 (by decide)
  exact World.block_lt_of_cell? W' _ this.1
 exact ⟨gh,_,a2,n2,c2,a3,n3,c3,rfl,hA.hB gh rfl,lt,hl,hA.gb⟩
def Aw (Iq:Nat->Prop) (w:World) (tb bx gh ch:Nat) (C:Vs) (rs:List Rw) (W:World):Prop:=∃ F,TreeAt Iq W tb 2 C rs F/\(∀ x ∈ F,w.heap.size<=x/\x ≠ bx/\x ≠ gh)/\bx < W.heap.size/\gh < W.heap.size/\Tk.Lies W gh 0 [(1,0,0),(3,0,1)]/\W.cell? ⟨bx,0,none⟩=some (.slice (some ⟨gh,0,none⟩) 2 ch)/\Gb w W
theorem lies_kp {S:Nat->Prop} {W W':World} {g:Nat} {l:List Tk.Ht} (h:Tk.Lies W g 0 l) (k:Tk.Kp S W W') (hn:¬ S g):Tk.Lies W' g 0 l:=fun i hi =>
 ⟨k.cell (h i hi).1 hn,k.cell (h i hi).2.1 hn,k.cell (h i hi).2.2 hn⟩
theorem aw_out {Iq:Nat->Prop} {w W W':World} {tb bx gh ch:Nat} {C:Vs} {rs':List Rw} {F:List Nat} (hF:∀ x ∈ F,w.heap.size<=x/\x ≠ bx/\x ≠ gh) (hb:bx < W.heap.size) (hg:gh < W.heap.size) (hl:Tk.Lies W gh 0 [(1,0,0),(3,0,1)]) (hc:W.cell? ⟨bx,0,none⟩=some (.slice (some ⟨gh,0,none⟩) 2 ch)) (g:Gb w W) (h:TOut Iq W tb 2 C F rs' W'):Aw Iq w tb bx gh ch C rs' W':=by
 obtain ⟨F',t,l,k⟩:=h
 have s:=k.size
 have s0:=g.size
 refine ⟨F',t,fun x hx=>?_,by omega,by omega,lies_kp hl k (fun h=>(hF gh h).2.2 rfl),k.cell hc (fun h=>(hF bx h).2.1 rfl),g.trans (k.gr s0 fun x hx=>(hF x hx).1)⟩
 rcases l x hx with h | h
 ·exact hF x h
 ·exact ⟨by omega,by omega,by omega⟩
theorem aw_put {Iq:Nat->Prop} {w W:World} {tb bx gh ch:Nat} {C:Vs} {rs:List Rw} (h:Aw Iq w tb bx gh ch C rs W) (id x y:Int) {z:Int} (hz:putE 2 rs (id,[x,y])=z) {n:Bool} (hn:(decide (z=0) && !hasId rs id)=n) :
  Calls Tryz.prog 19 #[.pointer (some ⟨tb,0,none⟩),.agg #[.int .i64 id,.slice (some ⟨W.heap.size,0,none⟩) 2 2]] (W.alloc (.cells #[.int .i64 x,.int .i64 y] 3)) fun e w'=>e=.returned (.tuple #[.bool n,.int .i64 z])/\Aw Iq w tb bx gh ch C (if z=0 then putRw rs (id,[x,y]) else rs) w':=by
 obtain ⟨F,t,hF,hb,hg,hl,hc,g⟩:=h
 have ga:Gb W (W.alloc (.cells #[.int .i64 x,.int .i64 y] 3)):=gb_alloc (Below.refl _ _) _
 have s:=ga.size
 refine (put_c (xi:=id) (t.gb ga) (krdi2 (World.alloc_heap_new W (.cells #[.int .i64 x,.int .i64 y] 3))) ?_).mono ?_
 ·intro b o n c e hb
  cases e
  have:=t.mem.2 _ hb
  omega
 ·rintro e w' ⟨rfl,hO⟩
  rw [hz] at hO ⊢
  rw [hn]
  exact ⟨rfl,aw_out hF (by omega) (by omega) (lies_kp (S:=fun _=>False) hl (Tk.Kp.of_gr ga) (fun h=>h)) (gb_keeps ga hc) (gb_trans g ga) hO⟩
theorem aw_del {Iq:Nat->Prop} {w W:World} {tb bx gh ch:Nat} {C:Vs} {rs:List Rw} (h:Aw Iq w tb bx gh ch C rs W) (id:Int) (hid:KWf id) {n:Bool} (hn:hasId rs id=n) :
  Calls Tryz.prog 15 #[.pointer (some ⟨tb,0,none⟩),.int .i64 id] W fun e w'=>e=.returned (.tuple #[.bool n,.int .i64 0])/\Aw Iq w tb bx gh ch C (delRw rs id) w':=by
 obtain ⟨F,t,hF,hb,hg,hl,hc,g⟩:=h
 refine (delete_c t id hid).mono ?_
 rintro e w' ⟨rfl,hO⟩
 rw [hn]
 exact ⟨rfl,aw_out hF hb hg hl hc g hO⟩
theorem aw_len {Iq:Nat->Prop} {w W:World} {tb bx gh ch:Nat} {C:Vs} {rs:List Rw} (h:Aw Iq w tb bx gh ch C rs W) {n:Int} (hn:(rs.length:Int)=n) :
  Calls Tryz.prog 17 #[.pointer (some ⟨tb,0,none⟩)] W fun e w'=>e=.returned (.int .i64 n)/\w'=W:=by
 obtain ⟨F,t,_⟩:=h
 rw [<- hn]
 exact len_c t
theorem kawake_c (w:World):Calls Tryz.prog 8 #[] w fun e w'=>e=.returned (.bool true)/\Gb w w':=by
 go_enter Tryz.func8,Tryz.ntmps8
 go_wp2_with fail
 refine (krows_c w).mono ?_
 rintro e w1 ⟨b1,rfl,r1,g1⟩
 have c:Calls Tryz.prog 7 #[.slice (some ⟨b1,0,none⟩) 4 4,.int .i64 2,.agg #[.int .i64 2,.int .i64 20,.int .u64 7]] w1 fun e w'=>TreeOut IqT w1 2 2 20 7 K4 e w':=kbuild_ok (upT _) r1 kwf4 (m:=2) (A:=2) (B:=20) kfl4 (by decide) (by decide) 7 (by decide)
 go_wp2_with fail
 refine c.mono ?_
 rintro e w2 ⟨tb,rs,F,rfl,t2,p2,g2,f2⟩
 obtain rfl:=ris_perm t2.ris krs4 p2
 have G2:Gb w w2:=gb_trans g1 g2
 have s1:=g1.size
 have f2':∀ x ∈ F,w.heap.size<=x:=fun x hx=>by have:=f2 x hx;omega
 clear c g1 g2 r1 f2 p2
 have c:=len_c t2
 go_wp2_with fail
 refine c.mono ?_
 rintro e w3 ⟨rfl,rfl⟩
 clear c
 have ga:Gb w3 (w3.alloc (.cells #[.int .i64 0,.int .i64 0] 3)):=gb_alloc (Below.refl _ _) _
 have c:=ksearch4 t2 ga (krdi2 (World.alloc_heap_new w3 (.cells #[.int .i64 0,.int .i64 0] 3)))
 go_wp2_with fail
 refine c.mono ?_
 rintro e w4 ⟨gh,ch,a2,n2,c2,a3,n3,c3,rfl,q1,q2,ql,q3⟩
 clear c
 have s3:=ga.size
 have s4:=q3.size
 have A4:Aw IqT w tb w4.heap.size gh ch (cenOf K4 2 2 20 7) K4 (w4.alloc (.cells #[.slice (some ⟨gh,0,none⟩) 2 ch,.slice a2 n2 c2,.slice a3 n3 c3] 51)):=by
  have ga4:Gb w4 (w4.alloc (.cells #[.slice (some ⟨gh,0,none⟩) 2 ch,.slice a2 n2 c2,.slice a3 n3 c3] 51)):=gb_alloc (Below.refl _ _) _
  have m2:=t2.mem.2
  have s5:=ga4.size
  refine ⟨F,((t2.gb ga).gb q3).gb ga4,fun x hx=>⟨f2' x hx,?_,?_⟩,?_,by omega,lies_kp (S:=fun _=>False) ql (Tk.Kp.of_gr ga4) (fun h=>h),?_,gb_trans G2 (gb_trans ga (gb_trans q3 ga4))⟩
  ·have:=m2 x hx;omega
  ·have:=m2 x hx;rw [World.size_alloc] at q1;omega
  ·rw [World.size_alloc];omega
  ·simp [go_sem]
 have c:=aw_put A4 3 9 9 kput1.1 (n:=false) (by decide)
 rw [if_pos rfl,kput1.2,World.size_alloc] at c
 clear A4 ql q3 ga t2 G2 f2' q1 s1 s3 s4 q2
 go_wp2_with fail
 refine c.mono ?_
 rintro e w6 ⟨rfl,A6⟩
 clear c
 have c:=aw_del A6 1 ⟨by decide,by decide⟩ (n:=true) (by decide)
 clear A6
 go_wp2_with fail
 refine c.mono ?_
 rintro e w7 ⟨rfl,A7⟩
 clear c
 have c:=aw_put A7 0 1 1 (kput0 _) (n:=false) (by decide)
 rw [if_neg (by decide)] at c
 clear A7
 go_wp2_with fail
 refine c.mono ?_
 rintro e w8 ⟨rfl,A8⟩
 clear c
 have c:=aw_len A8 (n:=3) (by decide)
 obtain ⟨F8,_,_,_,_,l8,c8,g8⟩:=A8
 go_wp2_with fail
 refine c.mono ?_
 rintro e w9 ⟨rfl,rfl⟩
 clear c
 have l0:=l8 0 (by decide)
 have l1:=l8 1 (by decide)
 clear l8
 simp only [Tk.Ht.id,Tk.Ht.hi,Tk.Ht.lo] at l0 l1
 go_wp2
 refine bodyPost_ret (v:=.bool true) (by simp [results,Tryz.results8,go_sem]) rfl ⟨rfl,?_⟩
 exact g8
end Go.Proofs.YtcipdampcmfmaabGreat

namespace Go.Proofs.YtcipdampcmfmaabGreat
open Go.RowKit Go.Sort
structure SeaP (W:World) (tb:Nat) (rs:List Rw) (q:List Int) (k b:Nat) (a:Ans):Prop where
 sound:∃ srs,SoundP rs q k a srs
 few:Few a
 le:a.seen.length<=b
 stop:a.seen.length=b ∨ a.seen.length=rs.length ∨ certB q k a=true
 sure:certB q k a=true->a.hits=Tk.firsts k (hitsOf q rs)
 dist:∀ x ∈ a.hits,dnH x < 340282366920938463463374607431768211456/\x.2.1=hi (dnH x)/\x.2.2=lo (dnH x)
 reg:∀ r ∈ a.rest,ckB r q=0/\r.R < 340282366920938463463374607431768211456
 call:∀ W1 u,Gb W W1->RdI W1 u q->Calls Tryz.prog 16 #[.pointer (some ⟨tb,0,none⟩),u,.int .i64 (k:Int),.int .i64 (b:Int)] W1 fun e W'=>∃ vh vs vr,e=.returned (.tuple #[.agg #[vh,vs,vr],.int .i64 0])/\Gb W1 W'/\RdA W' vh vs vr a/\OwnA W' W1.heap.size W'.heap.size vh vs vr
theorem rgat_rd {W:World} {B:Nat} {v:Value} {l:List Reg} (h:RgAt W B v l):RdL W v l:=by
 obtain ⟨xs,h1,h2⟩:=h
 rcases h1.2 with ⟨e,h0⟩ | ⟨g,cap,cur,e,_⟩
 ·have e0:l=[]:=List.length_eq_zero_iff.1 h0
  subst e e0
  exact rdl_nil W
 ·subst e
  refine ⟨_,cap,rfl,fun i hi'=>?_⟩
  obtain ⟨v1,v3,s,r,a,b,c,d,e,f,o1,o3⟩:=h2 i hi'
  have cc:=h1.cells (g:=g) rfl
  refine ⟨g,0,v1,.slice none 0 0,v3,rfl,?_,?_,?_,?_,?_,?_,o1.rd,by rw [r];exact ⟨none,0,rfl,fun i hi=>absurd hi (Nat.not_lt_zero _)⟩,o3.rd⟩
  ·have:=cc _ _ a;rw [Addr.add_lit] at this;rw [s];exact this
  ·have:=cc _ _ b;rw [Addr.add_lit] at this;rw [Nat.add_assoc];exact this
  ·have:=cc _ _ c;rw [Addr.add_lit] at this;rw [Nat.add_assoc];exact this
  ·have:=cc _ _ d;rw [Addr.add_lit] at this;rw [Nat.add_assoc];exact this
  ·have:=cc _ _ e;rw [Addr.add_lit] at this;rw [Nat.add_assoc];exact this
  ·have:=cc _ _ f;rw [Addr.add_lit] at this;rw [Nat.add_assoc];exact this
theorem kown_rd' {w:World} {v:Value} {l:List Tk.Ht} (h:Tk.Own w v l.toArray):Tk.Rd w v l:=by
 by_cases h0:0 < l.length
 ·obtain ⟨g,cap,e,_,hl⟩:=kown_sl h h0
  exact .inr (.inr ⟨g,0,cap,e,hl⟩)
 ·have e:l=[]:=List.length_eq_zero_iff.1 (by omega)
  subst e
  rcases h.2 with ⟨e,_⟩ | ⟨g,cap,cur,e,_⟩
  ·exact .inl ⟨e,rfl⟩
  ·exact .inr (.inl ⟨_,cap,e,rfl⟩)
theorem own_cur {W:World} {B n k:Nat} {t:TypeId} {v:Value} {xs:List Value} {g:Nat} {cap n':Nat} (h:W.ownsRow B t k v n xs) (e:v=.slice (some ⟨g,0,none⟩) n' cap):∃ cur,B<=g/\g < W.heap.size/\W.heap[g]? = some (.cells cur t (0,0))/\n * k<=cur.size/\∀ (j:Nat) u,xs[j]? = some u->cur[j]? = some u:=by
 have hc:=h.cells (g:=g) (by rw [e];rfl)
 have hlt:=h.lt g (by rw [e];rfl)
 rcases h.2 with ⟨e',_⟩ | ⟨g',cap',cur,e',hB,hh,h1,h2,h3,_⟩
 ·rw [e] at e';cases e'
 ·rw [e] at e'
  cases e'
  refine ⟨cur,hlt.1,hlt.2,hh,by rw [h3];exact Nat.mul_le_mul_right k h1,fun j u hj=>?_⟩
  have:=hc j u hj
  rw [Addr.add_lit,Nat.zero_add] at this
  simpa [World.cell?,hh] using this
theorem ansk_own {w0 W:World} {vh vs vr:Value} {hits:List Tk.Ht} {ids:List Int} {regs:List Reg} (h:AnsK w0 W vh vs vr hits ids regs) (h1:hits.length<=4000) (h2:ids.length<=4000) (h3:regs.length<=4000) (h4:∀ r ∈ regs,r.L.length<=4000/\r.H.length<=4000/\r.I.length<=4000):OwnA W w0.heap.size W.heap.size vh vs vr:=by
 refine ⟨Nat.le_refl _,?_,wi_own h.seen (by omega) (fun g e=>(World.ownsRow.lt h.seen g e).2),?_⟩
 ·rcases h.hits.2 with ⟨e,h0⟩ | ⟨g,cap,cur,e,_⟩
  ·exact ⟨_,_,_,e,Nat.zero_le _,.inl rfl⟩
  ·obtain ⟨cur',_,b2,b3,b4,_⟩:=own_cur h.hits e
   exact ⟨_,_,_,e,by simp;omega,.inr ⟨g,cur',rfl,h.hB g (by rw [e];rfl),b2,b3,by simpa using b4⟩⟩
 ·obtain ⟨xs,o1,o2⟩:=h.rest
  rcases o1.2 with ⟨e,h0⟩ | ⟨g,cap,cur,e,_⟩
  ·exact ⟨_,_,_,e,Nat.zero_le _,.inl rfl⟩
  ·obtain ⟨cur',b1,b2,b3,b4,b5⟩:=own_cur o1 e
   refine ⟨_,_,_,e,by omega,.inr ⟨g,cur',rfl,b1,b2,b3,fun i hi'=>?_⟩⟩
   obtain ⟨v1,v3,s,r,a,b,c,d,e,f,q1,q3⟩:=o2 i hi'
   obtain ⟨l1,l2,l3⟩:=h4 _ (List.getElem_mem hi')
   exact ⟨3,v1,.slice none 0 0,_,_,v3,b5 _ _ a,b5 _ _ b,b5 _ _ c,b5 _ _ d,b5 _ _ e,b5 _ _ f,wi_own q1 (by omega) (fun g e=>(World.ownsRow.lt q1 g e).2),wi_own (own_nil W w0.heap.size) (by simp) (fun g e=>by simp [Value.ownBlock] at e),wi_own q3 (by omega) (fun g e=>(World.ownsRow.lt q3 g e).2)⟩
theorem hit_dn {q:List Int} {r:Rw} (hd:dst q r.2 < 340282366920938463463374607431768211456):dnH (hitOf q r) < 340282366920938463463374607431768211456/\(hitOf q r).2.1=hi (dnH (hitOf q r))/\(hitOf q r).2.2=lo (dnH (hitOf q r)):=by
 have e:dnH (hitOf q r)=dst q r.2:=by
  unfold dnH hitOf hi lo
  dsimp only
  omega
 rw [e]
 exact ⟨hd,rfl,rfl⟩
theorem kd_sea {Iq:Nat->Prop} {W:World} {tb m:Nat} {C:Vs} {rs:List Rw} {F:List Nat} (t:TreeAt Iq W tb m C rs F) {q:List Int} (hq:chk q (m:Int)=0) {k b:Nat} (hk:1<=k/\k<=64) (hb:b<=1000000):∃ a,SeaP W tb rs q k b a:=by
 obtain ⟨a,hG,c⟩:=search_good t hq hk hb
 obtain ⟨hok,hm⟩:=t.rok
 have hask:=ask_of hok hq
 obtain ⟨l1,l2,l3,l4⟩:=hG.lens
 refine ⟨a,hG.sound,⟨by omega,by omega,by omega,fun r hr=>?_⟩,hG.le,hG.stop,fun h=>good_whole hask hk.1 hG (.inr h),fun x hx=>?_,hG.reg,fun W1 u g hu=>?_⟩
 ·have:=l4 r hr
  omega
 ·obtain ⟨srs,hs⟩:=hG.sound
  rw [hs.hits] at hx
  obtain ⟨r,hr,rfl⟩:=chit_form hx
  have h1:=chk_ok (hok.row r (hs.mem r hr)).2
  have h2:=chk_ok hq
  exact hit_dn (dst_lt h2.2.2.2 h1.2.2.2 (by omega) (by omega))
 ·refine (c W1 u g hu).mono ?_
  rintro e W' ⟨vh,vs,vr,rfl,hA⟩
  refine ⟨vh,vs,vr,rfl,hA.gb,⟨kown_rd' hA.hits,hA.seen.rd,rgat_rd hA.rest⟩,ansk_own hA (by omega) (by omega) (by omega) (fun r hr=>?_)⟩
  have:=l4 r hr
  omega
end Go.Proofs.YtcipdampcmfmaabGreat
