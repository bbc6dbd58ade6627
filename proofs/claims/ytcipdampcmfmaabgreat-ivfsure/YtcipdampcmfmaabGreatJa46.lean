import Derived.Test.YtcipdampcmfmaabGreatJa45
import Derived.Test.YtcipdampcmfmaabGreatJa18
import Derived.BigQuiet
import Derived.Test.YtcipdampcmfmaabGreatJa31
namespace Go.Proofs.YtcipdampcmfmaabGreat
open Go.RowKit Go.Sort
set_option maxRecDepth 100000
set_option maxHeartbeats 2000000
abbrev Opv:Type:=(Int × Int × Int × Int) × Rw × List Int
def RdO (w:World) (u:Value) (ops:List Opv):Prop:=∃ a cap,u=.slice a ops.length cap/\∀ i,i < ops.length->∃ b o rv qv,a=some ⟨b,o,none⟩ /\
 (w.cell? ⟨b,o + i * 7,none⟩=some (.int .i64 ops[i]!.1.1)/\w.cell? ⟨b,o + i * 7 + 1,none⟩=some (.int .i64 ops[i]!.1.2.1)/\w.cell? ⟨b,o + i * 7 + 2,none⟩=some (.int .i64 ops[i]!.1.2.2.1) /\
 w.cell? ⟨b,o + i * 7 + 3,none⟩=some (.int .i64 ops[i]!.1.2.2.2)/\w.cell? ⟨b,o + i * 7 + 4,none⟩=some (.int .i64 ops[i]!.2.1.1)/\w.cell? ⟨b,o + i * 7 + 5,none⟩=some rv/\w.cell? ⟨b,o + i * 7 + 6,none⟩=some qv) /\
 RdI w rv ops[i]!.2.1.2/\RdI w qv ops[i]!.2.2
theorem RdO.gb {w w':World} {v:Value} {l:List Opv} (h:RdO w v l) (g:Gb w w'):RdO w' v l:=by
 obtain ⟨a,cap,e,h⟩:=h
 refine ⟨a,cap,e,fun i hi'=>?_⟩
 obtain ⟨b,o,rv,qv,e0,⟨c0,c1,c2,c3,c4,c5,c6⟩,r1,r2⟩:=h i hi'
 exact ⟨b,o,rv,qv,e0,⟨gb_keeps g c0,gb_keeps g c1,gb_keeps g c2,gb_keeps g c3,gb_keeps g c4,gb_keeps g c5,gb_keeps g c6⟩,r1.gb g,r2.gb g⟩
theorem rdo_nil (w:World):RdO w (.slice none 0 0) []:=⟨none,0,rfl,fun _i hi=>absurd hi (Nat.not_lt_zero _)⟩
def BigO (w:World) (e:Ending) (w':World):Prop:=∃ b,e=.returned (.bool b)/\Gb w w'
theorem kbig_c {w:World} {v u:Value} {rs:List Rw} {ops:List Opv} (hv:RdW w v rs) (hlen:rs.length<=9223372036854775807) (hu:RdO w u ops) :
  Calls Tryz.prog 6 #[v,u] w fun e w'=>BigO w e w':=by
 have c:=vects_c hv 32768 hlen
 obtain ⟨av,cv,rfl,_⟩:=hv
 have O:Hid (RdO w u ops):=hu
 obtain ⟨au,cu,rfl,_⟩:=hu
 obtain ⟨n,hN⟩:∃ n,n=ops.length:=⟨_,rfl⟩
 have N:Hid (n=ops.length):=hN
 rw [<- hN] at O ⊢
 clear hN
 generalize rs.length=m at *
 go_enter Tryz.func6,Tryz.ntmps6
 by_cases h1:2000 < (n:Int)
 ·go_wp2
  go_ret
  exact ⟨_,rfl,Below.refl _ _⟩
 by_cases h2:2000 < (m:Int)
 ·go_wp2
  go_ret
  exact ⟨_,rfl,Below.refl _ _⟩
 go_wp2_with fail
 refine c.mono ?_
 rintro e w' ⟨⟨z,rfl⟩,e2⟩
 subst e2
 clear c
 by_cases h3:32768 < z
 ·go_wp2
  go_ret
  exact ⟨_,rfl,Below.refl _ _⟩
 go_wp2
 go_loopw [5,6] (fun zv iv w'=>∃ (q:Nat) (z:Int),zv=.int .i64 z/\iv=.int .i64 (q:Int)/\q<=n/\Hid (Gb w w')) (fun _ iv _=>n - (intOf iv).toNat)
 case atStart=>exact ⟨0,0,rfl,rfl,Nat.zero_le _,Below.refl _ _⟩
 case round =>
  obtain ⟨q,z,rfl,rfl,hq,G⟩:=hrel
  by_cases hqn:q < n
  ·have hqi:(q:Int) < (n:Int):=by omega
   by_cases hz:z<=32768
   ·rename_i w'
    obtain ⟨a,cap,ea,hO⟩:=(RdO.gb O.out G.out)
    obtain ⟨b,o,rv,qv,e0,⟨c0,c1,c2,c3,c4,c5,c6⟩,⟨a1,k1,e1,_⟩,⟨a2,k2,e2,_⟩⟩:=hO q (by have:=N.out;omega)
    injection ea with ea1 ea2 ea3
    subst ea1 ea3 e0 e1 e2
    generalize ops[q]!.2.1.2.length=x1 at *
    generalize ops[q]!.2.2.length=x2 at *
    clear ea2 hO c0 c1 c2 c3 c4
    go_wp2
    go_quiet (fail)
    go_wp2
    go_roundw
    case rel=>exact ⟨q + 1,_,rfl,by simp,hqn,gb_trans G.out (gw_drewN (Tk.Gw.refl _) _).gr⟩
    case measure=>simp [intOf];omega
   ·go_wp2
    go_ret
    exact ⟨_,rfl,G.out⟩
  ·have hqi:¬ (q:Int) < (n:Int):=by omega
   go_wp2
   go_ret
   exact ⟨_,rfl,G.out⟩
end Go.Proofs.YtcipdampcmfmaabGreat

namespace Go.Proofs.YtcipdampcmfmaabGreat
open Go.RowKit Go.Sort
theorem bldE_zero {rs:List Rw} {d A B:Int}:bldE rs d A B=0 ↔ flatE rs d=0/\(1<=A/\A<=64)/\0<=B/\B<=20:=by
 unfold bldE
 by_cases h:flatE rs d=0
 ·rw [if_pos h]
  split
  ·rename_i h1;exact ⟨fun _=>⟨h,h1⟩,fun _=>rfl⟩
  ·rename_i h1;exact ⟨fun e=>absurd e (by decide),fun e=>absurd e.2 h1⟩
 ·rw [if_neg h]
  exact ⟨fun e=>absurd e h,fun e=>absurd e.1 h⟩
theorem kbuild_no {w:World} {v:Value} {rs:List Rw} (h:RdW w v rs) (hwf:Wf rs) (d A B S:Int) (hz:bldE rs d A B ≠ 0) :
  Calls Tryz.prog 7 #[v,.int .i64 d,.agg #[.int .i64 A,.int .i64 B,.int .u64 S]] w fun e w'=>e=.returned (.tuple #[.pointer none,.int .i64 (bldE rs d A B)])/\Gb w w':=by
 have g1:Gb w (w.alloc (.cells #[.int .i64 A,.int .i64 B,.int .u64 S] 25)):=gb_alloc (Below.refl _ _) _
 have cB:Calls Tryz.prog 25 #[v,.int .i64 d,.int .i64 A,.int .i64 B,.int .u64 S] (w.alloc (.cells #[.int .i64 A,.int .i64 B,.int .u64 S] 25)) fun e w'=>e=.returned (.tuple #[.pointer none,.int .i64 (bldE rs d A B)])/\Gb w w':=by
  by_cases h1:flatE rs d=0
  ·by_cases h2:(1<=A/\A<=64)/\0<=B/\B<=20
   ·unfold bldE at hz;rw [if_pos h1,if_pos h2] at hz;exact absurd rfl hz
   ·have e:bldE rs d A B=1:=by unfold bldE;rw [if_pos h1,if_neg h2]
    rw [e]
    exact (build_arg (h.gb g1) hwf d A B S h1 (by omega)).mono fun e w' ⟨h3,h4⟩=>⟨h3,gb_trans g1 h4⟩
  ·have e:bldE rs d A B=flatE rs d:=by unfold bldE;rw [if_neg h1]
   rw [e]
   exact (build_no (h.gb g1) hwf d A B S h1).mono fun e w' ⟨h3,h4⟩=>⟨h3,gb_trans g1 h4⟩
 obtain ⟨a,c,e,_⟩:=h
 subst e
 generalize rs.length=n at *
 generalize bldE rs d A B=z at *
 clear g1 hwf
 go_enter Tryz.func7,Tryz.ntmps7
 go_wp2_with fail
 go_fit cB
 rintro e w1 ⟨rfl,hG⟩
 have HG:Hid _:=hG
 clear cB hG
 go_wp2
 refine bodyPost_ret (v:=.tuple #[.pointer none,.int .i64 z]) (by simp [results,Tryz.results7,go_sem]) rfl ⟨rfl,?_⟩
 exact HG.out
end Go.Proofs.YtcipdampcmfmaabGreat

namespace Go.Proofs.YtcipdampcmfmaabGreat
open Go.RowKit Go.Sort Go.Maps
theorem put_old {Iq:Nat->Prop} {w0 W:World} {tb m:Nat} {C:Vs} {rs:List Rw} {F:List Nat} {xi:Int} {u:Value} {xl:List Int} (h:TreeAt Iq W tb m C rs F) (g:Gb w0 W) (hu:RdI w0 u xl) (hF:∀ x ∈ F,w0.heap.size<=x) :
  Calls Tryz.prog 19 #[.pointer (some ⟨tb,0,none⟩),.agg #[.int .i64 xi,u]] W fun e w'=>e=.returned (.tuple #[.bool (decide (putE m rs (xi,xl)=0) && !hasId rs xi),.int .i64 (putE m rs (xi,xl))])/\TOut Iq W tb m C F (if putE m rs (xi,xl)=0 then putRw rs (xi,xl) else rs) w':=by
 by_cases hx:xl=[]
 ·subst hx
  have hm:=h.rok.2
  have h2:chk [] (m:Int) ≠ 0:=fun e=>by
   have:=(chk_ok e).2.2.1
   simp at this
   omega
  have fin:∀ e0:Int,putE m rs (xi,[])=e0->e0 ≠ 0->(Calls Tryz.prog 19 #[.pointer (some ⟨tb,0,none⟩),.agg #[.int .i64 xi,u]] W fun e w'=>e=.returned (.tuple #[.bool false,.int .i64 e0])/\Gb W w')->Calls Tryz.prog 19 #[.pointer (some ⟨tb,0,none⟩),.agg #[.int .i64 xi,u]] W fun e w'=>e=.returned (.tuple #[.bool (decide (putE m rs (xi,[])=0) && !hasId rs xi),.int .i64 (putE m rs (xi,[]))])/\TOut Iq W tb m C F (if putE m rs (xi,[])=0 then putRw rs (xi,[]) else rs) w':=by
   intro e0 he h0 c
   refine c.mono ?_
   rintro e w' ⟨rfl,g⟩
   rw [he,if_neg h0,decide_eq_false h0]
   exact ⟨rfl,F,h.gb g,fun y hy=>.inl hy,Tk.Kp.of_gr g⟩
  by_cases h1:okId xi=true
  ·exact fin _ (by unfold putE;rw [if_pos h1,if_neg h2]) h2 (put_chk h (hu.gb g) h1 rfl h2)
  ·exact fin 50 (by unfold putE;rw [if_neg h1]) (by decide) (put_id h (hu.gb g) (Bool.eq_false_iff.2 h1))
 ·refine put_c h (hu.gb g) ?_
  intro b o n c e hb
  obtain ⟨a,c',e',hc⟩:=hu
  rw [e'] at e
  cases e
  obtain ⟨b',o',e2,hcell⟩:=hc 0 (List.length_pos_iff.2 hx)
  cases e2
  have h1:=World.block_lt_of_cell? w0 _ hcell
  have h2:=hF _ hb
  exact absurd h1 (Nat.not_lt.2 h2)
def TrW (Iq:Nat->Prop) (w0:World) (tb m:Nat) (C:Vs) (rs:List Rw) (W:World):Prop:=∃ F,TreeAt Iq W tb m C rs F/\(∀ x ∈ F,w0.heap.size<=x)/\Gb w0 W
theorem TrW.gb {Iq:Nat->Prop} {w0 W W':World} {tb m:Nat} {C:Vs} {rs:List Rw} (h:TrW Iq w0 tb m C rs W) (g:Gb W W'):TrW Iq w0 tb m C rs W':=by
 obtain ⟨F,t,hF,g0⟩:=h
 exact ⟨F,t.gb g,hF,gb_trans g0 g⟩
theorem TrW.old {Iq:Nat->Prop} {w0 W:World} {tb m:Nat} {C:Vs} {rs:List Rw} (h:TrW Iq w0 tb m C rs W):Gb w0 W:=by
 obtain ⟨_,_,_,g⟩:=h
 exact g
theorem TrW.out {Iq:Nat->Prop} {w0 W W':World} {tb m:Nat} {C:Vs} {rs':List Rw} {F:List Nat} (hF:∀ x ∈ F,w0.heap.size<=x) (g:Gb w0 W) (h:TOut Iq W tb m C F rs' W'):TrW Iq w0 tb m C rs' W':=by
 obtain ⟨F',t,l,k⟩:=h
 have s:=g.size
 refine ⟨F',t,fun x hx=>?_,g.trans (k.gr s hF)⟩
 rcases l x hx with h | h
 ·exact hF x h
 ·omega
theorem trw_put {Iq:Nat->Prop} {w0 W:World} {tb m:Nat} {C:Vs} {rs:List Rw} {u:Value} {xl:List Int} (h:TrW Iq w0 tb m C rs W) (xi:Int) (hu:RdI w0 u xl) :
  Calls Tryz.prog 19 #[.pointer (some ⟨tb,0,none⟩),.agg #[.int .i64 xi,u]] W fun e w'=>e=.returned (.tuple #[.bool (decide (putE m rs (xi,xl)=0) && !hasId rs xi),.int .i64 (putE m rs (xi,xl))])/\TrW Iq w0 tb m C (if putE m rs (xi,xl)=0 then putRw rs (xi,xl) else rs) w':=by
 obtain ⟨F,t,hF,g⟩:=h
 exact (put_old t g hu hF).mono fun e w' ⟨h1,h2⟩=>⟨h1,TrW.out hF g h2⟩
theorem trw_del {Iq:Nat->Prop} {w0 W:World} {tb m:Nat} {C:Vs} {rs:List Rw} (h:TrW Iq w0 tb m C rs W) (id:Int) (hid:KWf id) :
  Calls Tryz.prog 15 #[.pointer (some ⟨tb,0,none⟩),.int .i64 id] W fun e w'=>e=.returned (.tuple #[.bool (hasId rs id),.int .i64 0])/\TrW Iq w0 tb m C (delRw rs id) w':=by
 obtain ⟨F,t,hF,g⟩:=h
 exact (delete_c t id hid).mono fun e w' ⟨h1,h2⟩=>⟨h1,TrW.out hF g h2⟩
theorem trw_len {Iq:Nat->Prop} {w0 W:World} {tb m:Nat} {C:Vs} {rs:List Rw} (h:TrW Iq w0 tb m C rs W) :
  Calls Tryz.prog 17 #[.pointer (some ⟨tb,0,none⟩)] W fun e w'=>e=.returned (.int .i64 (rs.length:Nat))/\w'=W:=by
 obtain ⟨F,t,_⟩:=h
 exact len_c t
theorem trw_rows {Iq:Nat->Prop} {w0 W:World} {tb m:Nat} {C:Vs} {rs:List Rw} (h:TrW Iq w0 tb m C rs W) :
  Calls Tryz.prog 18 #[.pointer (some ⟨tb,0,none⟩)] W fun e w'=>∃ v',e=.returned v'/\OwnC w' W.heap.size v' rs/\Gb W w':=by
 obtain ⟨F,t,_⟩:=h
 exact rows_c t
theorem trw_of {Iq:Nat->Prop} {w W:World} {m A B:Nat} {S:Int} {rs:List Rw} {e:Ending} (h:TreeOut Iq w m A B S rs e W):∃ tb rs',e=.returned (.tuple #[.pointer (some ⟨tb,0,none⟩),.int .i64 0])/\TrW Iq w tb m (cenOf rs' m A B S) rs' W/\rs'.Perm rs/\Ris rs':=by
 obtain ⟨tb,rs',F,e1,t,p,g,hF⟩:=h
 exact ⟨tb,rs',e1,⟨F,t,hF,g⟩,p,t.ris⟩
def WhO (Iq:Nat->Prop) (w0:World) (tb m:Nat) (C:Vs) (rs:List Rw) (q:List Int) (k b:Int) (e:Ending) (W':World):Prop:=∃ a1 n1 c1 a2 n2 c2 a3 n3 c3,e=.returned (.tuple #[.agg #[.slice a1 n1 c1,.slice a2 n2 c2,.slice a3 n3 c3],.int .i64 (srchE m q k b)]) /\
 TrW Iq w0 tb m C rs W'/\((srchE m q k b ≠ 0 ∨ rs=[])->n1=0/\n2=0/\n3=0)/\(srchE m q k b=0->rs.length<=b->Tk.Own W' (.slice a1 n1 c1) (Tk.firsts k.toNat (hitsOf q rs)).toArray)/\n2<=rs.length/\(srchE m q k b ≠ 0->a1=none/\c1=0)
theorem trw_search {Iq:Nat->Prop} {w0 W:World} {tb m:Nat} {C:Vs} {rs:List Rw} (h:TrW Iq w0 tb m C rs W) {u:Value} {q:List Int} (hu:RdI W u q) (k b:Int) :
  Calls Tryz.prog 16 #[.pointer (some ⟨tb,0,none⟩),u,.int .i64 k,.int .i64 b] W fun e W'=>WhO Iq w0 tb m C rs q k b e W':=by
 have h0:=h
 obtain ⟨F,t,hF,g⟩:=h0
 by_cases hz:srchE m q k b=0
 ·obtain ⟨hq,hk,hb⟩:=srchE_zero.1 hz
  obtain ⟨K,rfl⟩:=Int.eq_ofNat_of_zero_le (show 0<=k by omega)
  obtain ⟨B,rfl⟩:=Int.eq_ofNat_of_zero_le hb.1
  obtain ⟨a,hG,c⟩:=search_good t hq (k:=K) (b:=B) (by omega) (by omega)
  have hask:=ask_of t.rok.1 hq
  refine (c W u (Below.refl _ _) hu).mono ?_
  rintro e W' ⟨vh,vs,vr,rfl,hA⟩
  obtain ⟨a3,c3,e3⟩:=hA.rest.form
  obtain ⟨a2,c2,e2,_⟩:=hA.seen.rd
  obtain ⟨srs,hs⟩:=hG.sound
  have hp:=hs.all.length_eq
  have hil:(idsOf rs).length=rs.length:=by simp [idsOf]
  have hal:(allIds a).length=a.seen.length + (a.rest.flatMap fun r=>r.I).length:=by unfold allIds;rw [List.length_append]
  have h1:∃ a1 c1,vh=.slice a1 a.hits.length c1:=by
   rcases hA.hits.2 with ⟨e,h0⟩ | ⟨g',cap,cur,e,_⟩
   ·exact ⟨none,0,by rw [e];simp only [List.size_toArray] at h0;rw [h0]⟩
   ·exact ⟨some ⟨g',0,none⟩,cap,by rw [e];simp⟩
  obtain ⟨a1,c1,e1⟩:=h1
  subst e1 e2 e3
  refine ⟨a1,_,c1,a2,_,c2,a3,_,c3,by rw [hz],h.gb hA.gb,?_,?_,by omega,fun hn=>absurd hz hn⟩
  ·rintro (hn | rfl)
   ·exact absurd hz hn
   ·simp only [List.length_nil] at hil
    refine ⟨?_,by omega,?_⟩
    ·have hw:=good_whole hask (by omega) hG (.inl (Nat.zero_le _))
     rw [hw,Tk.firsts_len];simp [hitsOf]
    ·cases hr:a.rest with
     | nil=>rfl
     | cons x r =>
      have h3:=(hs.reg x (by rw [hr];exact List.mem_cons_self)).2.1
      have h4:=List.length_pos_iff.2 h3
      rw [hr,List.flatMap_cons,List.length_append] at hal
      omega
  ·intro _ hlb
   have:=hA.hits
   have hw:=good_whole hask (by omega) hG (.inl (by omega))
   rw [hw] at this
   rw [hw]
   exact this
 ·refine (ksearch_no t hu k b hz).mono ?_
  rintro e W' ⟨rfl,g'⟩
  exact ⟨none,0,0,none,0,0,none,0,0,rfl,h.gb g',fun _=>⟨rfl,rfl,rfl⟩,fun e=>absurd e hz,Nat.zero_le _,fun _=>⟨rfl,rfl⟩⟩
end Go.Proofs.YtcipdampcmfmaabGreat

namespace Go.Proofs.YtcipdampcmfmaabGreat
open Go.RowKit Go.Sort Go.Maps
set_option maxRecDepth 100000
set_option maxHeartbeats 2000000
def WfO (ops:List Opv):Prop:=∀ i,i < ops.length->KWf ops[i]!.1.2.1
def playRw (m:Nat) (rs:List Rw) (o:Opv):List Rw:=if o.1.1=1 then (if putE m rs o.2.1=0 then putRw rs o.2.1 else rs) else if o.1.1=2 then delRw rs o.1.2.1 else rs
theorem plays_c {Iq:Nat->Prop} {w0 W:World} {tb m:Nat} {C:Vs} {rs:List Rw} {u:Value} {ops:List Opv} (h:TrW Iq w0 tb m C rs W) (hu:RdO w0 u ops) (hn:ops.length<=9223372036854775807) (hwo:WfO ops) :
  Calls Tryz.prog 20 #[.pointer (some ⟨tb,0,none⟩),u] W fun e W'=>e=.returned (.tuple #[])/\TrW Iq w0 tb m C (ops.foldl (playRw m) rs) W':=by
 have TT:Hid (TrW Iq w0 tb m C rs W):=h
 have O:Hid (RdO w0 u ops):=hu
 have WO:Hid (WfO ops):=hwo
 obtain ⟨au,cu,rfl,_⟩:=hu
 obtain ⟨n,hN⟩:∃ n,n=ops.length:=⟨_,rfl⟩
 have N:Hid (n=ops.length):=hN
 rw [<- hN] at O hn ⊢
 clear hN h hwo
 go_enter Tryz.func20,Tryz.ntmps20
 go_wp2
 go_loopw [4] (fun iv W'=>∃ i:Nat,iv=.int .i64 (i:Int)/\i<=n/\Hid (TrW Iq w0 tb m C ((ops.take i).foldl (playRw m) rs) W')) (fun iv _=>n - (intOf iv).toNat)
 case atStart=>exact ⟨0,rfl,Nat.zero_le _,TT⟩
 case round =>
  clear TT
  obtain ⟨i,rfl,hi,TI⟩:=hrel
  by_cases hin:i < n
  ·have hii:(i:Int) < (n:Int):=by omega
   have hil:i < ops.length:=by rw [<- N.out];exact hin
   obtain ⟨a,cap,ea,hO⟩:=O.out
   obtain ⟨b,o,rv,qv,e0,⟨c0,c1,_,_,c4,c5,_⟩,hr,_⟩:=hO i hil
   injection ea with ea1 ea2 ea3
   subst ea1 ea3 e0
   have go:=TI.out.old
   have d0:=gb_keeps go c0
   have d1:=gb_keeps go c1
   have d4:=gb_keeps go c4
   have d5:=gb_keeps go c5
   have st:(ops.take (i + 1)).foldl (playRw m) rs=playRw m ((ops.take i).foldl (playRw m) rs) ops[i]! := by
    rw [List.take_succ_eq_append_getElem hil,List.foldl_append,getElem!_pos ops i hil];rfl
   have cP:=trw_put TI.out ops[i]!.2.1.1 hr
   have cD:=trw_del TI.out ops[i]!.1.2.1 (WO.out i hil)
   have NX:Hid (∀ W',TrW Iq w0 tb m C (playRw m ((ops.take i).foldl (playRw m) rs) ops[i]!) W'->TrW Iq w0 tb m C ((ops.take (i + 1)).foldl (playRw m) rs) W'):=by
    intro W' h
    rw [st];exact h
   generalize (ops.take i).foldl (playRw m) rs=rsi at *
   generalize ops[i]! = op at *
   obtain ⟨⟨kd,id,kk,bg⟩,⟨xi,xl⟩,ql⟩:=op
   dsimp only at d0 d1 d4 d5 cP cD hr
   obtain ⟨ar,cr,er,_⟩:=hr.rd0
   subst er
   clear ea2 hO c0 c1 c4 c5 st hil go hr
   by_cases h1:kd=1
   ·subst h1
    have NZ:Hid (∀ W',TrW Iq w0 tb m C (if putE m rsi (xi,xl)=0 then putRw rsi (xi,xl) else rsi) W'->TrW Iq w0 tb m C ((ops.take (i + 1)).foldl (playRw m) rs) W'):=fun W' h=>NX.out W' (by unfold playRw;exact h)
    generalize putE m rsi (xi,xl)=z at *
    clear cD NX TI
    go_wp2_with fail
    refine cP.mono ?_
    rintro e w4 ⟨rfl,T4⟩
    have TN:Hid (TrW Iq w0 tb m C ((ops.take (i + 1)).foldl (playRw m) rs) w4):=NZ.out _ T4
    clear cP T4 NZ d0 d1 d4 d5
    go_wp2
    go_roundw
    case rel=>exact ⟨i + 1,by first | rfl | go_num,hin,TN⟩
    case measure=>simp [intOf];omega
   ·by_cases h2:kd=2
    ·subst h2
     have NZ:Hid (∀ W',TrW Iq w0 tb m C (delRw rsi id) W'->TrW Iq w0 tb m C ((ops.take (i + 1)).foldl (playRw m) rs) W'):=fun W' h=>NX.out W' (by unfold playRw;exact h)
     clear cP NX TI
     go_wp2_with fail
     refine cD.mono ?_
     rintro e w4 ⟨rfl,T4⟩
     have TN:Hid (TrW Iq w0 tb m C ((ops.take (i + 1)).foldl (playRw m) rs) w4):=NZ.out _ T4
     clear cD T4 NZ d0 d1 d4 d5
     go_wp2
     go_roundw
     case rel=>exact ⟨i + 1,by first | rfl | go_num,hin,TN⟩
     case measure=>simp [intOf];omega
    ·have TN:Hid (TrW Iq w0 tb m C ((ops.take (i + 1)).foldl (playRw m) rs) wr):=NX.out _ (by
      unfold playRw
      dsimp only
      rw [if_neg h1,if_neg h2]
      exact TI.out)
     have h1b:(kd == 1)=false:=by rw [beq_eq_false_iff_ne];exact h1
     have h2b:(kd == 2)=false:=by rw [beq_eq_false_iff_ne];exact h2
     clear cP cD NX TI
     go_wp2
     go_roundw
     case rel=>exact ⟨i + 1,by first | rfl | go_num,hin,TN⟩
     case measure=>simp [intOf];omega
  ·have hii:¬ (i:Int) < (n:Int):=by omega
   have TN:Hid (TrW Iq w0 tb m C (ops.foldl (playRw m) rs) wr):=by
    have h:=TI.out
    have e:i=n:=by omega
    rw [e,N.out,List.take_length] at h
    exact h
   clear TI
   go_wp2
   refine bodyPost_end (v:=.tuple #[]) (by simp [results,Tryz.results20,go_sem]) rfl ⟨rfl,?_⟩
   exact TN.out
end Go.Proofs.YtcipdampcmfmaabGreat

namespace Go.Proofs.YtcipdampcmfmaabGreat
open Go.ChangeShapes Go.WideShapes Go.ChangeAt Go.RowKit Go.Joins Go.Deep Go.Maps
set_option maxRecDepth 100000
theorem Tryz.cellsHow:Tryz.prog.cellsOf 25=3:=by kernel_rfl
theorem open_how {H:Type} {enc:TypeId × Value->H} {W:World} {b0:Nat} {r:Reach} {v:Value} {d:DataW H} {p:List MemPlace}
  (hv':Value.okWide Tryz.prog W r b0 25 v) (h:DataW.Trod enc Tryz.prog W 0 (fun _=>true) true 25 v d p) :
  ∃ A B S:Int,v=.agg #[.int .i64 A,.int .i64 B,.int .u64 S]/\Rn.U S:=by
 obtain ⟨cs,rfl,hsz⟩:=okWide_struct Tryz.underlying25 hv'
 obtain ⟨fuel,hf⟩:=h
 obtain ⟨l⟩:=cs
 simp only [Value.cells] at hf
 obtain ⟨xs,n,_,_,hl,hlen,hf⟩:=DataW.trod_struct Tryz.underlying25 hf
 rw [Tryz.cellsHow] at hl
 match xs,hlen,l,hl with
 | [y0,y1,y2],_,[c0,c1,c2],_ =>
  obtain ⟨a0,e0,_⟩:=DataW.trod_int Tryz.underlying3 (by simpa using hf 0 _ rfl)
  obtain ⟨a1,e1,_⟩:=DataW.trod_int Tryz.underlying3 (by simpa using hf 1 _ rfl)
  obtain ⟨a2,e2,_,w2⟩:=DataW.trod_int Tryz.underlying23 (by simpa using hf 2 _ rfl)
  simp [Tryz.cells3,Tryz.cells23] at e0 e1 e2
  subst e0 e1 e2
  exact ⟨a0,a1,a2,rfl,word_of_wf w2⟩
theorem trod_struct6 {H:Type} {enc:TypeId × Value->H} {w:World} {base:Nat} {spare:Nat->Bool} {held:Bool} {t:TypeId} {f0 f1 f2 f3 f4 f5:Field} {fuel:Nat} {cs:List Value} {x:DataW H × List MemPlace} (ht:Tryz.prog.underlying t=some (.struct #[f0,f1,f2,f3,f4,f5])) (h:DataW.trod enc Tryz.prog w base spare held fuel t cs=some x) :
  ∃ y0 y1 y2 y3 y4 y5 n,cs.length=Tryz.prog.cellsOf t/\DataW.trod enc Tryz.prog w base spare held n f0.type ((cs.drop f0.offset).take (Tryz.prog.cellsOf f0.type))=some y0 /\
   DataW.trod enc Tryz.prog w base spare held n f1.type ((cs.drop f1.offset).take (Tryz.prog.cellsOf f1.type))=some y1/\DataW.trod enc Tryz.prog w base spare held n f2.type ((cs.drop f2.offset).take (Tryz.prog.cellsOf f2.type))=some y2 /\
   DataW.trod enc Tryz.prog w base spare held n f3.type ((cs.drop f3.offset).take (Tryz.prog.cellsOf f3.type))=some y3/\DataW.trod enc Tryz.prog w base spare held n f4.type ((cs.drop f4.offset).take (Tryz.prog.cellsOf f4.type))=some y4 /\
   DataW.trod enc Tryz.prog w base spare held n f5.type ((cs.drop f5.offset).take (Tryz.prog.cellsOf f5.type))=some y5:=by
 obtain ⟨xs,n,_,rfl,hl,hlen,hf⟩:=DataW.trod_struct ht h
 match xs,hlen with
 | [y0,y1,y2,y3,y4,y5],_=>exact ⟨y0,y1,y2,y3,y4,y5,n,hl,by simpa using hf 0 f0 rfl,by simpa using hf 1 f1 rfl,by simpa using hf 2 f2 rfl,by simpa using hf 3 f3 rfl,by simpa using hf 4 f4 rfl,by simpa using hf 5 f5 rfl⟩
theorem kwf_of {a:Int} (h:(Lit.int .i64 a).wf=true):KWf a:=by
 simp [Lit.wf,IntKind.min,IntKind.max,IntKind.signed,IntKind.bits] at h
 exact ⟨by omega,by omega⟩
theorem Tryz.cellsOp:Tryz.prog.cellsOf 69=7:=by kernel_rfl
theorem open_ops {H:Type} {enc:TypeId × Value->H} {W:World} {b0:Nat} {r:Reach} {v:Value} {d:DataW H} {p:List MemPlace}
  (hv':Value.okWide Tryz.prog W r b0 60 v) (h:DataW.Trod enc Tryz.prog W 0 (fun _=>true) true 60 v d p) :
  ∃ ops:List Opv,RdO W v ops/\ops.length<=maxLen/\WfO ops:=by
 obtain ⟨a0,len,cap,rfl⟩:=okWide_slice Tryz.underlying60 hv'
 obtain ⟨fuel,hf⟩:=h
 rcases open_slice Tryz.underlying60 (by simpa [Value.cells] using hf) with ⟨e,_⟩ | ⟨a,len,cap,m,n,D,Pl,e,_,hlc,hcm,hm,_,hx⟩
 ·cases e
  exact ⟨[],rdo_nil W,Nat.zero_le _,fun i hi=>absurd hi (Nat.not_lt_zero _)⟩
 ·cases e
  rw [if_pos rfl] at hm
  subst hm
  have hy:∀ i,i < len->∃ y:Opv,∃ rv qv,(W.cell? (a.add (i * 7))=some (.int .i64 y.1.1)/\W.cell? ((a.add (i * 7)).add 1)=some (.int .i64 y.1.2.1)/\W.cell? ((a.add (i * 7)).add 2)=some (.int .i64 y.1.2.2.1)/\W.cell? ((a.add (i * 7)).add 3)=some (.int .i64 y.1.2.2.2)/\W.cell? ((a.add (i * 7)).add 4)=some (.int .i64 y.2.1.1)/\W.cell? ((a.add (i * 7)).add 5)=some rv/\W.cell? ((a.add (i * 7)).add 6)=some qv)/\RdI W rv y.2.1.2/\RdI W qv y.2.2/\KWf y.1.2.1:=by
   intro i hi
   obtain ⟨cs,hc,ht⟩:=hx i (by omega)
   obtain ⟨y0,y1,y2,y3,y4,y5,k,hl,k0,k1,k2,k3,k4,k5⟩:=trod_struct6 Tryz.underlying69 ht
   rw [Tryz.cellsOp] at hl hc
   match cs,hl with
   | [c0,c1,c2,c3,c4,c5,c6],_ =>
    obtain ⟨z0,z1,m,_,hl1,j0,j1⟩:=trod_struct2 Tryz.underlying45 k4
    obtain ⟨a0,e0,_⟩:=DataW.trod_int Tryz.underlying3 k0
    obtain ⟨a1,e1,_,wf1⟩:=DataW.trod_int Tryz.underlying3 k1
    obtain ⟨a2,e2,_⟩:=DataW.trod_int Tryz.underlying3 k2
    obtain ⟨a3,e3,_⟩:=DataW.trod_int Tryz.underlying3 k3
    obtain ⟨a4,e4,_⟩:=DataW.trod_int Tryz.underlying3 j0
    obtain ⟨rv,rl,e5,hr,_⟩:=trod22 j1
    obtain ⟨qv,ql,e6,hq,_⟩:=trod22 k5
    simp [Tryz.cells3,Tryz.cells26,Tryz.cells45] at e0 e1 e2 e3 e4 e5 e6
    subst e0 e1 e2 e3 e4 e5 e6
    obtain ⟨_,_,hcc⟩:=World.cells?_some hc
    have q0:=hcc 0 (by omega)
    have q1:=hcc 1 (by omega)
    have q2:=hcc 2 (by omega)
    have q3:=hcc 3 (by omega)
    have q4:=hcc 4 (by omega)
    have q5:=hcc 5 (by omega)
    have q6:=hcc 6 (by omega)
    exact ⟨((a0,a1,a2,a3),(a4,rl),ql),_,_,⟨by simpa [Addr.add] using q0,by simpa using q1,by simpa using q2,by simpa using q3,by simpa using q4,by simpa using q5,by simpa using q6⟩,hr,hq,kwf_of wf1⟩
  obtain ⟨Y,hY⟩:=choose_lt (α:=Opv) (p:=fun i y=>∃ rv qv,(W.cell? (a.add (i * 7))=some (.int .i64 y.1.1)/\W.cell? ((a.add (i * 7)).add 1)=some (.int .i64 y.1.2.1)/\W.cell? ((a.add (i * 7)).add 2)=some (.int .i64 y.1.2.2.1)/\W.cell? ((a.add (i * 7)).add 3)=some (.int .i64 y.1.2.2.2)/\W.cell? ((a.add (i * 7)).add 4)=some (.int .i64 y.2.1.1)/\W.cell? ((a.add (i * 7)).add 5)=some rv/\W.cell? ((a.add (i * 7)).add 6)=some qv)/\RdI W rv y.2.1.2/\RdI W qv y.2.2/\KWf y.1.2.1) hy
  have hg:∀ i,i < len->((List.range len).map Y)[i]! = Y i:=by
   intro i hi
   rw [getElem!_pos _ i (by simpa using hi)];simp
  refine ⟨(List.range len).map Y,⟨some a,m,by simp,fun i hi=>?_⟩,by simp;omega,fun i hi=>by
   have hi':i < len:=by simpa using hi
   obtain ⟨_,_,_,_,_,hk⟩:=hY i hi'
   rw [hg i hi']
   exact hk⟩
  have hi':i < len:=by simpa using hi
  obtain ⟨_,_,⟨q0,_⟩,_⟩:=hY 0 (by omega)
  have ha:a=⟨a.block,a.off,none⟩:=spot_none (by simpa [Addr.add] using q0)
  obtain ⟨rv,qv,⟨c0,c1,c2,c3,c4,c5,c6⟩,h1,h2,_⟩:=hY i hi'
  rw [hg i hi']
  rw [ha,Addr.add_lit] at c0
  rw [ha,Addr.add_lit,Addr.add_lit] at c1 c2 c3 c4 c5 c6
  exact ⟨a.block,a.off,rv,qv,by rw [<- ha],⟨c0,c1,c2,c3,c4,c5,c6⟩,h1,h2⟩
end Go.Proofs.YtcipdampcmfmaabGreat

namespace Go.Proofs.YtcipdampcmfmaabGreat
open Go.RowKit Go.Sort
set_option maxRecDepth 100000
set_option maxHeartbeats 8000000
theorem swf_rok {rs:List Rw} {d:Int} (h:RowsOk rs d):Wf rs:=by
 refine ⟨by have:=h.few;omega,fun i hi=>?_⟩
 have h1:=(okId_iff _).1 (h.row rs[i]! (by rw [getElem!_pos rs i hi];exact List.getElem_mem hi)).1
 generalize rs[i]!.1=x at h1 ⊢
 simp [Lit.wf,IntKind.min,IntKind.max,IntKind.signed,IntKind.bits]
 omega
theorem TrW.sea {Iq:Nat->Prop} {w0 W:World} {tb m:Nat} {C:Vs} {rs:List Rw} (h:TrW Iq w0 tb m C rs W) {q:List Int} (hq:chk q (m:Int)=0) {k b:Nat} (hk:1<=k/\k<=64) (hb:b<=1000000):∃ a,SeaP W tb rs q k b a:=by
 obtain ⟨F,t,_⟩:=h
 exact kd_sea t hq hk hb
theorem TrW.srch_no {Iq:Nat->Prop} {w0 W:World} {tb m:Nat} {C:Vs} {rs:List Rw} (h:TrW Iq w0 tb m C rs W) {u:Value} {q:List Int} (hu:RdI W u q) (k b:Int) (hz:srchE m q k b ≠ 0) :
  Calls Tryz.prog 16 #[.pointer (some ⟨tb,0,none⟩),u,.int .i64 k,.int .i64 b] W fun e w'=>e=.returned (.tuple #[.agg #[.slice none 0 0,.slice none 0 0,.slice none 0 0],.int .i64 (srchE m q k b)])/\Gb W w':=by
 obtain ⟨F,t,_⟩:=h
 exact ksearch_no t hu k b hz
theorem TrW.srok {Iq:Nat->Prop} {w0 W:World} {tb m:Nat} {C:Vs} {rs:List Rw} (h:TrW Iq w0 tb m C rs W):RowsOk rs (m:Int)/\1<=m/\m<=64:=by
 obtain ⟨F,t,_⟩:=h
 exact t.rok
theorem RdA.slices {W:World} {vh vs vr:Value} {a:Ans} (h:RdA W vh vs vr a):∃ a1 n1 c1 a2 n2 c2 a3 n3 c3,vh=.slice a1 n1 c1/\vs=.slice a2 n2 c2/\vr=.slice a3 n3 c3:=by
 obtain ⟨a1,c1,e1,_⟩:=h.hits.form
 obtain ⟨a2,c2,e2,_⟩:=h.seen
 obtain ⟨a3,c3,e3,_⟩:=h.rest
 exact ⟨_,_,_,_,_,_,_,_,_,e1,e2,e3⟩
theorem sure_no {w:World} {v u sc:Value} {l:List Rw} {q:List Int} {ops:List Opv} (hv:RdW w v l) (hwf:Wf l) (hs:RdO w sc ops) (hu:RdI w u q) (leaf B S k b:Int) (hz:bldE l (q.length:Int) leaf B ≠ 0) :
  Calls Tryz.prog 5 #[v,.agg #[.int .i64 leaf,.int .i64 B,.int .u64 S],sc,u,.int .i64 k,.int .i64 b] w fun e w'=>e=.returned (.bool true)/\Gb w w':=by
 have g1:Gb w (w.alloc (.cells #[.int .i64 leaf,.int .i64 B,.int .u64 S] 25)):=gb_alloc (Below.refl _ _) _
 obtain ⟨w1,hw1⟩:∃ w1,w1=w.alloc (.cells #[.int .i64 leaf,.int .i64 B,.int .u64 S] 25):=⟨_,rfl⟩
 rw [<- hw1] at g1
 have c0:w1.cell? ⟨w.heap.size,0,none⟩=some (.int .i64 leaf):=by rw [hw1];simp [go_sem]
 have c1:w1.cell? ⟨w.heap.size,1,none⟩=some (.int .i64 B):=by rw [hw1];simp [go_sem]
 have c2:w1.cell? ⟨w.heap.size,2,none⟩=some (.int .u64 S):=by rw [hw1];simp [go_sem]
 have cB:=kbig_c (hv.gb g1) (by have:=hwf.1;omega) (hs.gb g1)
 have cU:=fun W (g:Gb w1 W)=>kbuild_no ((hv.gb g1).gb g) hwf (q.length:Int) leaf B S hz
 have CU:Hid _:=cU
 clear cU
 obtain ⟨av,cv,ev,_⟩:=hv
 obtain ⟨aq,cq,eq,_⟩:=hu.rd0
 obtain ⟨sca,scc,es,_⟩:=hs
 subst ev eq es
 generalize bldE l (q.length:Int) leaf B=z at *
 generalize l.length=n at *
 generalize q.length=m at *
 generalize ops.length=no at *
 have hzb:(z == 0)=false:=by rw [beq_eq_false_iff_ne];exact hz
 clear hwf hu
 go_enter Tryz.func5,Tryz.ntmps5
 go_wp2_with fail
 rw [<- hw1]
 clear hw1
 refine cB.mono ?_
 rintro e w2 ⟨bb,rfl,g2⟩
 have d0:=gb_keeps g2 c0
 have d1:=gb_keeps g2 c1
 have d2:=gb_keeps g2 c2
 have G2:=gb_trans g1 g2
 clear cB c0 c1 c2
 cases bb with
 | true =>
  go_wp2
  refine bodyPost_ret (v:=.bool true) (by simp [results,Tryz.results5,go_sem]) rfl ⟨rfl,?_⟩
  exact G2
 | false =>
  by_cases h1:32768 < (m:Int)
  ·skip
   go_wp2
   refine bodyPost_ret (v:=.bool true) (by simp [results,Tryz.results5,go_sem]) rfl ⟨rfl,?_⟩
   exact G2
  have cU:=CU.out w2 g2
  clear CU
  go_wp2_with fail
  refine cU.mono ?_
  rintro e w3 ⟨rfl,g3⟩
  have G3:=gb_trans G2 g3
  clear cU d0 d1 d2
  go_wp2_with fail
  refine (kawake_c _).mono ?_
  rintro e wz ⟨rfl,gz⟩
  have GZ:Hid (Gb w wz):=gb_trans G3 gz
  clear gz
  go_wp2
  refine bodyPost_ret (v:=.bool true) (by simp [results,Tryz.results5,go_sem]) rfl ⟨rfl,?_⟩
  exact GZ.out
theorem sure_ok {w:World} {v u sc:Value} {l:List Rw} {q:List Int} {ops:List Opv} {lf B:Nat} (hv:RdW w v l) (hwf:Wf l) (hs:RdO w sc ops) (hwo:WfO ops) (hn:ops.length<=9223372036854775807) (hu:RdI w u q) (S k b:Int) (hz:flatE l (q.length:Int)=0) (hlf:1<=lf/\lf<=64) (hB:B<=20) (hus:Rn.U S) :
  Calls Tryz.prog 5 #[v,.agg #[.int .i64 (lf:Int),.int .i64 (B:Int),.int .u64 S],sc,u,.int .i64 k,.int .i64 b] w fun e w'=>e=.returned (.bool true)/\Gb w w':=by
 have g1:Gb w (w.alloc (.cells #[.int .i64 (lf:Int),.int .i64 (B:Int),.int .u64 S] 25)):=gb_alloc (Below.refl _ _) _
 obtain ⟨w1,hw1⟩:∃ w1,w1=w.alloc (.cells #[.int .i64 (lf:Int),.int .i64 (B:Int),.int .u64 S] 25):=⟨_,rfl⟩
 rw [<- hw1] at g1
 have c0:w1.cell? ⟨w.heap.size,0,none⟩=some (.int .i64 (lf:Int)):=by rw [hw1];simp [go_sem]
 have c1:w1.cell? ⟨w.heap.size,1,none⟩=some (.int .i64 (B:Int)):=by rw [hw1];simp [go_sem]
 have c2:w1.cell? ⟨w.heap.size,2,none⟩=some (.int .u64 S):=by rw [hw1];simp [go_sem]
 have cB:=kbig_c (hv.gb g1) (by have:=hwf.1;omega) (hs.gb g1)
 have cU:=fun W (g:Gb w1 W)=>kbuild_ok (upT W) ((hv.gb g1).gb g) hwf (m:=q.length) hz hlf hB S hus
 have CU:Hid _:=cU
 have HU:Hid (RdI w u q):=hu
 have HS:Hid (RdO w sc ops):=hs
 have HN:Hid (ops.length<=9223372036854775807):=hn
 obtain ⟨av,cv,ev,_⟩:=hv
 obtain ⟨aq,cq,eq,_⟩:=hu.rd0
 obtain ⟨sca,scc,es,_⟩:=hs
 subst ev eq es
 have WO:Hid (WfO ops):=hwo
 clear cU hwf hu hz hlf hB hn hus hwo
 go_enter Tryz.func5,Tryz.ntmps5
 go_wp2_with fail
 rw [<- hw1]
 clear hw1
 refine cB.mono ?_
 rintro e w2 ⟨bb,rfl,g2⟩
 have d0:=gb_keeps g2 c0
 have d1:=gb_keeps g2 c1
 have d2:=gb_keeps g2 c2
 have G2:=gb_trans g1 g2
 clear cB c0 c1 c2
 cases bb with
 | true =>
  go_wp2
  refine bodyPost_ret (v:=.bool true) (by simp [results,Tryz.results5,go_sem]) rfl ⟨rfl,?_⟩
  exact G2
 | false =>
  by_cases h1:32768 < (q.length:Int)
  ·skip
   go_wp2
   refine bodyPost_ret (v:=.bool true) (by simp [results,Tryz.results5,go_sem]) rfl ⟨rfl,?_⟩
   exact G2
  have cU:=CU.out w2 g2
  clear CU g1 g2
  go_wp2_with fail
  refine cU.mono ?_
  intro e w3 hO
  obtain ⟨tb,rs0,rfl,T3,pm,_⟩:=trw_of hO
  have cP:=plays_c T3 (HS.out.gb G2) HN.out WO.out
  clear cU hO T3 d0 d1 d2 pm
  go_wp2_with fail
  refine cP.mono ?_
  rintro e w4 ⟨rfl,T4⟩
  clear cP
  generalize cenOf rs0 q.length lf B S=CC at *
  generalize ops.foldl (playRw q.length) rs0=rs at *
  have hu4:=(HU.out.gb G2).gb T4.old
  by_cases hz:srchE q.length q k b=0
  ·obtain ⟨hq,hk,hb⟩:=srchE_zero.1 hz
   obtain ⟨K,rfl⟩:=Int.eq_ofNat_of_zero_le (show 0<=k by omega)
   obtain ⟨Bb,rfl⟩:=Int.eq_ofNat_of_zero_le hb.1
   obtain ⟨an,hS⟩:=T4.sea hq (k:=K) (b:=Bb) (by omega) (by omega)
   have cS:=hS.call w4 _ (Below.refl _ _) hu4
   have HS4:Hid (SeaP w4 tb rs q K Bb an):=hS
   have HU4:Hid (RdI w4 (.slice aq q.length cq) q):=hu4
   have HT4:Hid (TrW IqT w2 tb q.length CC rs w4):=T4
   have KK:Hid ((1<=K/\K<=64)/\chk q (q.length:Int)=0):=⟨by omega,hq⟩
   clear hS hu4 T4 hz hq hk hb
   go_wp2_with fail
   refine cS.mono ?_
   rintro e w5 ⟨vh,vs,vr,rfl,G5,hA,_⟩
   obtain ⟨a1,n1,k1,a2,n2,k2,a3,n3,k3,e1,e2,e3⟩:=hA.slices
   subst e1 e2 e3
   obtain ⟨wx,hwx⟩:∃ wx,wx=w5.alloc (.cells #[.slice a1 n1 k1,.slice a2 n2 k2,.slice a3 n3 k3] 51):=⟨_,rfl⟩
   have gx:Gb w5 wx:=by rw [hwx];exact gb_alloc (Below.refl _ _) _
   have x0:wx.cell? ⟨w5.heap.size,0,none⟩=some (.slice a1 n1 k1):=by rw [hwx];simp [go_sem]
   have x1:wx.cell? ⟨w5.heap.size,1,none⟩=some (.slice a2 n2 k2):=by rw [hwx];simp [go_sem]
   have x2:wx.cell? ⟨w5.heap.size,2,none⟩=some (.slice a3 n3 k3):=by rw [hwx];simp [go_sem]
   have G5x:Hid (Gb w4 wx):=gb_trans G5 gx
   have TX:Hid (TrW IqT w2 tb q.length CC rs wx):=HT4.out.gb G5x.out
   have hux:Hid (RdI wx (.slice aq q.length cq) q):=HU4.out.gb G5x.out
   have cC:=rcertain_c hux.out (hA.gb gx) KK.out.1 HS4.out.few.rest (by have:=HS4.out.few.hits;omega) HS4.out.reg HS4.out.dist
   have SU:Hid (certB q K an=true->an.hits=Tk.firsts K (hitsOf q rs)):=HS4.out.sure
   have HA:Hid (RdA wx (.slice a1 n1 k1) (.slice a2 n2 k2) (.slice a3 n3 k3) an):=hA.gb gx
   have HF:Hid (an.hits.length<=4000):=HS4.out.few.hits
   clear cS hA HS4 HT4 HU4 G5 gx
   generalize certB q K an=cb at *
   go_wp2_with fail
   rw [<- hwx]
   clear hwx
   go_wp2_with fail
   refine cC.mono ?_
   rintro e w6 ⟨rfl,g6⟩
   have T6:Hid (TrW IqT w2 tb q.length CC rs w6):=TX.out.gb g6
   have x0:=gb_keeps g6 x0
   have hu6:Hid (RdI w6 (.slice aq q.length cq) q):=hux.out.gb g6
   have G6:Gb w w6:=gb_trans G2 T6.out.old
   clear cC x1 x2 TX hux
   cases cb with
   | false =>
    clear x0 hu6
    go_wp2_with fail
    refine (kawake_c _).mono ?_
    rintro e wz ⟨rfl,gz⟩
    have GZ:Hid (Gb w wz):=gb_trans G6 gz
    clear gz
    go_wp2
    refine bodyPost_ret (v:=.bool true) (by simp [results,Tryz.results5,go_sem]) rfl ⟨rfl,?_⟩
    exact GZ.out
   | true =>
    have HH:=SU.out rfl
    obtain ⟨hok,hm⟩:=T6.out.srok
    have TE:topE rs q (K:Int)=0:=by
     have hk:=KK.out.1
     have hf:flatE rs (q.length:Int)=0:=flatE_zero.2 ⟨by omega,hok⟩
     unfold topE askE
     rw [if_pos KK.out.2,hf,if_pos rfl,if_pos (by omega)]
    have WF:=swf_rok hok
    have cR:=trw_rows T6.out
    have WF':Hid (Wf rs):=WF
    have HH':Hid (an.hits=Tk.firsts K (hitsOf q rs)):=HH
    clear hok hm WF HH
    go_wp2_with fail
    refine cR.mono ?_
    rintro e w7 ⟨v7,rfl,o7,g7⟩
    have cT:=topk_c (o7.rdw) (hu6.out.gb g7) WF'.out (K:Int)
    rw [TE] at cT
    obtain ⟨r7,c7,rfl⟩:=o7.form
    clear cR TE o7 WF'
    go_wp2_with fail
    refine cT.mono ?_
    rintro e w9 ⟨v9,rfl,g9,_,y9⟩
    obtain ⟨y9,_⟩:=y9 (by first | rfl | trivial)
    have G79:=gb_trans g7 g9
    have x0:=gb_keeps G79 x0
    have R9:Tk.Rd w9 v9 (Tk.firsts K (hitsOf q rs)):=by
     have h:=kown_rd' y9
     rw [Int.toNat_natCast] at h
     exact h
    have cH:∀ W,Gb w9 W->Calls Tryz.prog 23 #[.slice a1 n1 k1,v9] W fun e w'=>e=.returned (.bool true)/\Gb W w':=by
     intro W gW
     have o1:=(HA.out.gb (gb_trans g6 (gb_trans G79 gW))).hits
     rw [HH'.out] at o1
     refine (Tk.same_c o1 (R9.gr gW) (by have:=HF.out;rw [HH'.out] at this;exact this)).mono ?_
     rintro e w' ⟨rfl,g⟩
     exact ⟨by simp,g⟩
    obtain ⟨a9,c9,e9,_⟩:=R9.form
    generalize (Tk.firsts K (hitsOf q rs)).length=n9 at *
    subst e9
    have G9:Gb w w9:=gb_trans G6 G79
    clear cT g7 g9 y9 R9 G79 HH' hu6 HA SU
    go_wp2_with fail
    refine (kawake_c _).mono ?_
    rintro e wa ⟨rfl,ga⟩
    have x0:=gb_keeps ga x0
    have cH:=cH _ ga
    go_wp2_with fail
    refine cH.mono ?_
    rintro e wh ⟨rfl,gh⟩
    have G11:Hid (Gb w wh):=gb_trans G9 (gb_trans ga gh)
    clear cH x0 ga gh
    go_wp2
    refine bodyPost_ret (v:=.bool true) (by simp [results,Tryz.results5,go_sem]) rfl ⟨rfl,?_⟩
    exact G11.out
  ·have cS:=T4.srch_no hu4 k b hz
   have hzb:(srchE q.length q k b == 0)=false:=by rw [beq_eq_false_iff_ne];exact hz
   generalize srchE q.length q k b=z at *
   go_wp2_with fail
   refine cS.mono ?_
   rintro e w5 ⟨rfl,G5⟩
   have G5':Gb w (w5.alloc (.cells #[.slice none 0 0,.slice none 0 0,.slice none 0 0] 51)):=gb_alloc (gb_trans (gb_trans G2 T4.old) G5) _
   clear cS
   go_wp2_with fail
   refine (kawake_c _).mono ?_
   rintro e wz ⟨rfl,gz⟩
   have GZ:Hid (Gb w wz):=gb_trans G5' gz
   clear gz
   go_wp2
   refine bodyPost_ret (v:=.bool true) (by simp [results,Tryz.results5,go_sem]) rfl ⟨rfl,?_⟩
   exact GZ.out
end Go.Proofs.YtcipdampcmfmaabGreat
