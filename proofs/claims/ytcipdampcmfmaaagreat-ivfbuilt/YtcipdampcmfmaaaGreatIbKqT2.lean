import Derived.Test.YtcipdampcmfmaaaGreatIa44
import Derived.Test.YtcipdampcmfmaaaGreatIa31
namespace Go.Proofs.YtcipdampcmfmaaaGreat
open Go.RowKit Go.Sort Go.Maps
set_option maxRecDepth 100000
set_option maxHeartbeats 2000000
def put1 (m:Nat) (rs:List Rw) (r:Rw):List Rw:=if putE m rs r=0 then putRw rs r else rs
theorem puts_same {m:Nat}:∀ {l:List Rw},RowsOk l (m:Int)->Ris (l.foldr (fun r a=>put1 m a r) [])/\(l.foldr (fun r a=>put1 m a r) []).Perm l
 | [],_=>⟨List.Pairwise.nil,List.Perm.refl _⟩
 | r :: l,h=>by
  have hl:RowsOk l (m:Int):=h.sub (List.sublist_cons_self r l)
  obtain ⟨a,p⟩:=puts_same hl
  rw [List.foldr_cons]
  generalize l.foldr (fun r a=>put1 m a r) []=x at a p
  have hn:∀ y ∈ x,y.1 ≠ r.1:=fun y hy e=>by
   have h1:=h.ids
   unfold idsOf at h1
   rw [List.map_cons,List.pairwise_cons] at h1
   exact h1.1 y.1 (List.mem_map.2 ⟨y,p.mem_iff.1 hy,rfl⟩) e.symm
  have hd:delRw x r.1=x:=by
   unfold delRw
   rw [List.filter_eq_self]
   intro y hy
   have:=hn y hy
   simpa using this
  have hf:=h.few
  have he:putE m x r=0:=by
   obtain ⟨h1,h2⟩:=h.row r List.mem_cons_self
   unfold putE
   rw [if_pos h1,if_pos h2,if_neg]
   rintro ⟨_,h4⟩
   rw [p.length_eq] at h4
   simp at hf
   omega
  unfold put1
  rw [if_pos he]
  unfold putRw
  rw [hd]
  refine ⟨ins_ris a hn,(ins_perm x r).trans ?_⟩
  exact (List.perm_append_singleton r x).trans (p.cons r)
theorem puts_eq {m:Nat} {l rs:List Rw} (h:RowsOk l (m:Int)) (hr:Ris rs) (hp:rs.Perm l):l.foldr (fun r a=>put1 m a r) []=rs:=by
 obtain ⟨a,p⟩:=puts_same h
 exact ris_eq a hr (p.trans hp.symm)
def Tw2 (w0:World) (tb ub m:Nat) (lf lg:Vs) (rs us:List Rw) (W:World):Prop:=∃ F G,TreeAt IqT W tb m lf rs F/\TreeAt IqT W ub m lg us G/\(∀ x ∈ F,w0.heap.size<=x)/\(∀ x ∈ G,w0.heap.size<=x)/\(∀ x ∈ F,x ∉ G)/\Gb w0 W
theorem Tw2.symm {w0 W:World} {tb ub m:Nat} {lf lg:Vs} {rs us:List Rw} (h:Tw2 w0 tb ub m lf lg rs us W):Tw2 w0 ub tb m lg lf us rs W:=by
 obtain ⟨F,G,a,b,c,d,e,f⟩:=h
 exact ⟨G,F,b,a,d,c,fun x hx hy=>e x hy hx,f⟩
theorem Tw2.left {w0 W:World} {tb ub m:Nat} {lf lg:Vs} {rs us:List Rw} (h:Tw2 w0 tb ub m lf lg rs us W):TrW IqT w0 tb m lf rs W:=by
 obtain ⟨F,G,a,b,c,d,e,f⟩:=h
 exact ⟨F,a,c,f⟩
theorem Tw2.gb {w0 W W':World} {tb ub m:Nat} {lf lg:Vs} {rs us:List Rw} (h:Tw2 w0 tb ub m lf lg rs us W) (g:Gb W W'):Tw2 w0 tb ub m lf lg rs us W':=by
 obtain ⟨F,G,a,b,c,d,e,f⟩:=h
 exact ⟨F,G,a.gb g,b.gb g,c,d,e,gb_trans f g⟩
theorem Tw2.old {w0 W:World} {tb ub m:Nat} {lf lg:Vs} {rs us:List Rw} (h:Tw2 w0 tb ub m lf lg rs us W):Gb w0 W:=h.left.old
theorem Tw2.of {w0 W1 W2:World} {tb ub m:Nat} {lf lg:Vs} {rs us:List Rw} (h:TrW IqT w0 tb m lf rs W1) (k:TrW IqT W1 ub m lg us W2):Tw2 w0 tb ub m lf lg rs us W2:=by
 obtain ⟨F,a,c,f⟩:=h
 obtain ⟨G,b,d,g⟩:=k
 have s:=f.size
 refine ⟨F,G,a.gb g,b,c,fun x hx=>by have:=d x hx;omega,fun x hx hy=>?_,gb_trans f g⟩
 have h1:=a.mem.2 x hx
 have h2:=d x hy
 omega
theorem Tw2.out {w0 W W':World} {tb ub m:Nat} {lf lg:Vs} {rs' us:List Rw} {F G:List Nat} {rs:List Rw} (a:TreeAt IqT W tb m lf rs F) (b:TreeAt IqT W ub m lg us G) (c:∀ x ∈ F,w0.heap.size<=x) (d:∀ x ∈ G,w0.heap.size<=x) (e:∀ x ∈ F,x ∉ G) (f:Gb w0 W) (h:TOut IqT W tb m lf F rs' W'):Tw2 w0 tb ub m lf lg rs' us W':=by
 obtain ⟨F',t,l,k⟩:=h
 have s:=f.size
 refine ⟨F',G,t,b.kp k a.noint (fun x hx hy=>e x hy hx),fun x hx=>?_,d,fun x hx hy=>?_,f.trans (k.gr s c)⟩
 ·rcases l x hx with h | h
  ·exact c x h
  ·omega
 ·rcases l x hx with h | h
  ·exact e x h hy
  ·have:=b.mem.2 x hy
   omega
theorem tw2_put {w0 W:World} {tb ub m:Nat} {lf lg:Vs} {rs us:List Rw} {u:Value} {xl:List Int} (h:Tw2 w0 tb ub m lf lg rs us W) (xi:Int) (hu:RdI w0 u xl) :
  Calls Tryz.prog 24 #[.pointer (some ⟨tb,0,none⟩),.agg #[.int .i64 xi,u]] W fun e w'=>e=.returned (.tuple #[.bool (decide (putE m rs (xi,xl)=0) && !hasId rs xi),.int .i64 (putE m rs (xi,xl))])/\Tw2 w0 tb ub m lf lg (if putE m rs (xi,xl)=0 then putRw rs (xi,xl) else rs) us w':=by
 obtain ⟨F,G,a,b,c,d,e,f⟩:=h
 exact (put_old a f hu c).mono fun e' w' ⟨h1,h2⟩=>⟨h1,Tw2.out a b c d e f h2⟩
theorem tw2_del {w0 W:World} {tb ub m:Nat} {lf lg:Vs} {rs us:List Rw} (h:Tw2 w0 tb ub m lf lg rs us W) (id:Int) (hid:KWf id) :
  Calls Tryz.prog 26 #[.pointer (some ⟨tb,0,none⟩),.int .i64 id] W fun e w'=>e=.returned (.tuple #[.bool (hasId rs id),.int .i64 0])/\Tw2 w0 tb ub m lf lg (delRw rs id) us w':=by
 obtain ⟨F,G,a,b,c,d,e,f⟩:=h
 exact (delete_c a id hid).mono fun e' w' ⟨h1,h2⟩=>⟨h1,Tw2.out a b c d e f h2⟩
theorem plays_g {w0 W:World} {tb m:Nat} {rs:List Rw} {u:Value} {ops:List Opv} {P:List Rw->World->Prop} (old:∀ rs W,P rs W->Gb w0 W)
  (put:∀ rs W (xi:Int) u xl,P rs W->RdI w0 u xl->Calls Tryz.prog 24 #[.pointer (some ⟨tb,0,none⟩),.agg #[.int .i64 xi,u]] W fun e w'=>e=.returned (.tuple #[.bool (decide (putE m rs (xi,xl)=0) && !hasId rs xi),.int .i64 (putE m rs (xi,xl))])/\P (if putE m rs (xi,xl)=0 then putRw rs (xi,xl) else rs) w')
  (del:∀ rs W (id:Int),KWf id->P rs W->Calls Tryz.prog 26 #[.pointer (some ⟨tb,0,none⟩),.int .i64 id] W fun e w'=>e=.returned (.tuple #[.bool (hasId rs id),.int .i64 0])/\P (delRw rs id) w')
  (h:P rs W) (hu:RdO w0 u ops) (hn:ops.length<=9223372036854775807) (hwo:WfO ops) :
  Calls Tryz.prog 18 #[.pointer (some ⟨tb,0,none⟩),u] W fun e W'=>e=.returned (.tuple #[])/\P (ops.foldl (playRw m) rs) W':=by
 have TT:Hid (P rs W):=h
 have OLD:Hid (∀ rs W,P rs W->Gb w0 W):=old
 have PUT:Hid _:=put
 have DEL:Hid _:=del
 have WO:Hid (WfO ops):=hwo
 clear old put del hwo
 have O:Hid (RdO w0 u ops):=hu
 obtain ⟨au,cu,rfl,_⟩:=hu
 obtain ⟨n,hN⟩:∃ n,n=ops.length:=⟨_,rfl⟩
 have N:Hid (n=ops.length):=hN
 rw [<- hN] at O hn ⊢
 clear hN h
 go_enter Tryz.func18,Tryz.ntmps18
 go_wp2
 go_loopw [4] (fun iv W'=>∃ i:Nat,iv=.int .i64 (i:Int)/\i<=n/\Hid (P ((ops.take i).foldl (playRw m) rs) W')) (fun iv _=>n - (intOf iv).toNat)
 case atStart=>exact ⟨0,rfl,Nat.zero_le _,TT⟩
 case round =>
  clear TT
  obtain ⟨i,rfl,hi,TI⟩:=hrel
  by_cases hin:i < n
  ·have hii:(i:Int) < (n:Int):=by omega
   have hil:i < ops.length:=by rw [<- N.out];exact hin
   obtain ⟨a,cap,ea,hO⟩:=O.out
   obtain ⟨b,o,rv,qv,e0,⟨c0,c1,_,_,c4,c5,_⟩,hr,_⟩:=hO i hil
   injection ea with ea1 ea2 ea3
   subst ea1 ea3 e0
   have go:=OLD.out _ _ TI.out
   have d0:=gb_keeps go c0
   have d1:=gb_keeps go c1
   have d4:=gb_keeps go c4
   have d5:=gb_keeps go c5
   have st:(ops.take (i + 1)).foldl (playRw m) rs=playRw m ((ops.take i).foldl (playRw m) rs) ops[i]! := by
    rw [List.take_succ_eq_append_getElem hil,List.foldl_append,getElem!_pos ops i hil];rfl
   have cP:=PUT.out _ _ ops[i]!.2.1.1 _ _ TI.out hr
   have cD:=DEL.out _ _ ops[i]!.1.2.1 (WO.out i hil) TI.out
   have NX:Hid (∀ W',P (playRw m ((ops.take i).foldl (playRw m) rs) ops[i]!) W'->P ((ops.take (i + 1)).foldl (playRw m) rs) W'):=by
    intro W' h
    rw [st];exact h
   generalize (ops.take i).foldl (playRw m) rs=rsi at *
   generalize ops[i]! = op at *
   obtain ⟨⟨kd,id,kk,bg⟩,⟨xi,xl⟩,ql⟩:=op
   dsimp only at d0 d1 d4 d5 cP cD hr
   obtain ⟨ar,cr,er,_⟩:=hr.rd0
   subst er
   clear ea2 hO c0 c1 c4 c5 st hil go hr
   by_cases h1:kd=1
   ·subst h1
    have NZ:Hid (∀ W',P (if putE m rsi (xi,xl)=0 then putRw rsi (xi,xl) else rsi) W'->P ((ops.take (i + 1)).foldl (playRw m) rs) W'):=fun W' h=>NX.out W' (by unfold playRw;exact h)
    generalize putE m rsi (xi,xl)=z at *
    clear cD NX TI
    go_wp2_with fail
    refine cP.mono ?_
    rintro e w4 ⟨rfl,T4⟩
    have TN:Hid (P ((ops.take (i + 1)).foldl (playRw m) rs) w4):=NZ.out _ T4
    clear cP T4 NZ d0 d1 d4 d5
    go_wp2
    go_roundw
    case rel=>exact ⟨i + 1,by first | rfl | go_num,hin,TN⟩
    case measure=>simp [intOf];omega
   ·by_cases h2:kd=2
    ·subst h2
     have NZ:Hid (∀ W',P (delRw rsi id) W'->P ((ops.take (i + 1)).foldl (playRw m) rs) W'):=fun W' h=>NX.out W' (by unfold playRw;exact h)
     clear cP NX TI
     go_wp2_with fail
     refine cD.mono ?_
     rintro e w4 ⟨rfl,T4⟩
     have TN:Hid (P ((ops.take (i + 1)).foldl (playRw m) rs) w4):=NZ.out _ T4
     clear cD T4 NZ d0 d1 d4 d5
     go_wp2
     go_roundw
     case rel=>exact ⟨i + 1,by first | rfl | go_num,hin,TN⟩
     case measure=>simp [intOf];omega
    ·have TN:Hid (P ((ops.take (i + 1)).foldl (playRw m) rs) wr):=NX.out _ (by
      unfold playRw
      dsimp only
      rw [if_neg h1,if_neg h2]
      exact TI.out)
     have h1b:(kd == 1)=false:=by rw [beq_eq_false_iff_ne];exact h1
     have h2b:(kd == 2)=false:=by rw [beq_eq_false_iff_ne];exact h2
     clear cP cD NX TI
     go_wp2
     go_roundw
     case rel=>exact ⟨i + 1,by first | rfl | go_num,hin,TN⟩
     case measure=>simp [intOf];omega
  ·have hii:¬ (i:Int) < (n:Int):=by omega
   have TN:Hid (P (ops.foldl (playRw m) rs) wr):=by
    have h:=TI.out
    have e:i=n:=by omega
    rw [e,N.out,List.take_length] at h
    exact h
   clear TI
   go_wp2
   refine bodyPost_end (v:=.tuple #[]) (by simp [results,Tryz.results18,go_sem]) rfl ⟨rfl,?_⟩
   exact TN.out
theorem plays_2 {w0 W:World} {tb ub m:Nat} {lf lg:Vs} {rs us:List Rw} {u:Value} {ops:List Opv} (h:Tw2 w0 tb ub m lf lg rs us W) (hu:RdO w0 u ops) (hn:ops.length<=9223372036854775807) (hwo:WfO ops) :
  Calls Tryz.prog 18 #[.pointer (some ⟨tb,0,none⟩),u] W fun e W'=>e=.returned (.tuple #[])/\Tw2 w0 tb ub m lf lg (ops.foldl (playRw m) rs) us W' :=
 plays_g (P:=fun rs W=>Tw2 w0 tb ub m lf lg rs us W) (fun _ _ h=>h.old) (fun _ _ xi _ _ h hu=>tw2_put h xi hu) (fun _ _ id hid h=>tw2_del h id hid) h hu hn hwo
def WhG (W:World) (m:Nat) (rs:List Rw) (q:List Int) (k b:Int) (e:Ending) (W':World):Prop:=∃ a1 n1 c1 a2 n2 c2 a3 n3 c3,e=.returned (.tuple #[.agg #[.slice a1 n1 c1,.slice a2 n2 c2,.slice a3 n3 c3],.int .i64 (srchE m q k b)]) /\
 Gb W W'/\(srchE m q k b=0->rs.length<=b->Tk.Own W' (.slice a1 n1 c1) (Tk.firsts k.toNat (hitsOf q rs)).toArray)/\(srchE m q k b ≠ 0->a1=none/\n1=0/\c1=0)
theorem trg_search {W:World} {tb m:Nat} {C:Vs} {rs:List Rw} {F:List Nat} (t:TreeAt IqT W tb m C rs F) {u:Value} {q:List Int} (hu:RdI W u q) (k b:Int) :
  Calls Tryz.prog 19 #[.pointer (some ⟨tb,0,none⟩),u,.int .i64 k,.int .i64 b] W fun e W'=>WhG W m rs q k b e W':=by
 by_cases hz:srchE m q k b=0
 ·obtain ⟨hq,hk,hb⟩:=srchE_zero.1 hz
  obtain ⟨K,rfl⟩:=Int.eq_ofNat_of_zero_le (show 0<=k by omega)
  obtain ⟨B,rfl⟩:=Int.eq_ofNat_of_zero_le hb.1
  obtain ⟨a,hG,c⟩:=search_good t hq (k:=K) (b:=B) (by omega) (by omega)
  have hask:=ask_of t.rok.1 hq
  refine (c W u (Below.refl _ _) hu).mono ?_
  rintro e W' ⟨vh,vs,vr,rfl,hA⟩
  obtain ⟨a3,c3,e3⟩:=hA.rest.form
  obtain ⟨a2,c2,e2,_⟩:=hA.seen.rd
  have h1:∃ a1 c1,vh=.slice a1 a.hits.length c1:=by
   rcases hA.hits.2 with ⟨e,h0⟩ | ⟨g',cap,cur,e,_⟩
   ·exact ⟨none,0,by rw [e];simp only [List.size_toArray] at h0;rw [h0]⟩
   ·exact ⟨some ⟨g',0,none⟩,cap,by rw [e];simp⟩
  obtain ⟨a1,c1,e1⟩:=h1
  subst e1 e2 e3
  refine ⟨a1,_,c1,a2,_,c2,a3,_,c3,by rw [hz],hA.gb,?_,fun hn=>absurd hz hn⟩
  intro _ hlb
  have:=hA.hits
  have hw:=good_whole hask (by omega) hG (.inl (by omega))
  rw [hw] at this
  rw [hw]
  exact this
 ·refine (ksearch_no t hu k b hz).mono ?_
  rintro e W' ⟨rfl,g'⟩
  exact ⟨none,0,0,none,0,0,none,0,0,rfl,g',fun e=>absurd e hz,fun _=>⟨rfl,rfl,rfl⟩⟩
theorem trw_searchg {w0 W:World} {tb m:Nat} {C:Vs} {rs:List Rw} (h:TrW IqT w0 tb m C rs W) {u:Value} {q:List Int} (hu:RdI W u q) (k b:Int) :
  Calls Tryz.prog 19 #[.pointer (some ⟨tb,0,none⟩),u,.int .i64 k,.int .i64 b] W fun e W'=>WhG W m rs q k b e W':=by
 obtain ⟨F,t,_⟩:=h
 exact trg_search t hu k b
end Go.Proofs.YtcipdampcmfmaaaGreat
