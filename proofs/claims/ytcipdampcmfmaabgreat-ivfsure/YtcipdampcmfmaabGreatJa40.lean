import Derived.Test.YtcipdampcmfmaabGreatJa30
import Derived.Test.YtcipdampcmfmaabGreatJaIvOu
import Derived.Test.YtcipdampcmfmaabGreatJa32
import Derived.Test.YtcipdampcmfmaabGreatJa23
import Derived.Test.YtcipdampcmfmaabGreatJa24
namespace Go.Proofs.YtcipdampcmfmaabGreat
open Go.RowKit Go.Sort
theorem sorted_uniq {α:Type} {lt:α->α->Prop} (ir:∀ x y,lt x y->lt y x->False):∀ {a b:List α},a.Pairwise lt->b.Pairwise lt->a.Perm b->a=b
 | [],b,_,_,p=>p.symm.eq_nil.symm
 | x :: r,[],_,_,p=>by have:=p.length_eq;simp at this
 | x :: r,y :: s,ha,hb,p=>by
  have ha':=List.pairwise_cons.1 ha
  have hb':=List.pairwise_cons.1 hb
  have hx:x ∈ y :: s:=p.mem_iff.1 List.mem_cons_self
  have hy:y ∈ x :: r:=p.mem_iff.2 List.mem_cons_self
  have e:x=y:=by
   rcases List.mem_cons.1 hx with h | h
   ·exact h
   ·rcases List.mem_cons.1 hy with h' | h'
    ·exact h'.symm
    ·exact (ir x y (ha'.1 y h') (hb'.1 x h)).elim
  subst e
  rw [sorted_uniq ir ha'.2 hb'.2 p.cons_inv]
theorem ri_pair {lt:Int->Int->Prop} {l:List Int} (h:Ri lt l 0 l.length):l.Pairwise lt:=by
 rw [List.pairwise_iff_getElem]
 intro i j hi hj hij
 have:=h i j (Nat.zero_le _) hij hj
 rw [getElem!_pos l i hi,getElem!_pos l j hj] at this
 exact this
open Classical in
noncomputable def outL (C:Vs) (v:List Int):List Int:=if h:∃ l:List Int,l.Perm (plQ C.length)/\Ri (ltO C v) l 0 C.length then h.choose else plQ C.length
theorem outL_perm (C:Vs) (v:List Int):(outL C v).Perm (plQ C.length):=by
 unfold outL
 split
 ·rename_i h;exact h.choose_spec.1
 ·exact List.Perm.refl _
theorem outL_eq {C:Vs} {v:List Int} {l:List Int} (p:l.Perm (plQ C.length)) (r:Ri (ltO C v) l 0 C.length):l=outL C v:=by
 have hex:∃ l:List Int,l.Perm (plQ C.length)/\Ri (ltO C v) l 0 C.length:=⟨l,p,r⟩
 have e:outL C v=hex.choose:=by unfold outL;rw [dif_pos hex]
 have hs:=hex.choose_spec
 rw [e]
 have hl:l.length=C.length:=by rw [p.length_eq,plQ_len]
 have hl2:hex.choose.length=C.length:=by rw [hs.1.length_eq,plQ_len]
 refine sorted_uniq (lt:=ltO C v) (fun x y h1 h2=>by unfold ltO at h1 h2;omega) (ri_pair (by rw [hl];exact r)) (ri_pair (by rw [hl2];exact hs.2)) (p.trans hs.1.symm)
theorem runV_snoc (q:List Int) (k:Nat) (C:Vs) (rs:List Rw) (p:Nat):∀ (ps:List Nat) (s:SV),runV q k C rs (ps ++ [p]) s=visV q k C[p]! (listR C rs p) (runV q k C rs ps s)
 | [],s=>rfl
 | x :: ps,s=>by
  show runV q k C rs (ps ++ [p]) _=visV q k C[p]! (listR C rs p) (runV q k C rs ps _)
  exact runV_snoc q k C rs p ps _
noncomputable def endV (q:List Int) (k b:Nat) (C:Vs) (rs:List Rw):SV:=runV q k C rs ((outL C q).map Int.toNat) ⟨[],b,[]⟩
theorem rad_le {c:List Int} {R:List Rw} {r:Rw} (h:r ∈ R):dst c r.2<=radN c R R.length:=by
 obtain ⟨i,hi,rfl⟩:=List.getElem_of_mem h
 have:∀ n,i < n->n<=R.length->dst c R[i].2<=radN c R n:=by
  intro n
  induction n with
  | zero=>intro h;omega
  | succ n ih =>
   intro h1 h2
   unfold radN
   by_cases e:i=n
   ·subst e
    rw [getElem!_pos R i hi]
    first | (split <;> omega) | omega
   ·have:=ih (by omega) (by omega)
    first | (split <;> omega) | omega
 exact this _ hi (Nat.le_refl _)
theorem rad_lt {c:List Int} {R:List Rw} {m:Nat} (hc:chk c (m:Int)=0) (h:RowsOk R (m:Int)):radN c R R.length < 340282366920938463463374607431768211456:=by
 have:∀ n,n<=R.length->radN c R n<=1180591619617899675904:=by
  intro n
  induction n with
  | zero=>intro _;unfold radN;omega
  | succ n ih =>
   intro hn
   have h1:=ih (by omega)
   have h2:=dst_le hc (h.row R[n]! (by rw [getElem!_pos R n (by omega)];exact List.getElem_mem _)).2
   unfold radN
   first | (split <;> omega) | omega
 have:=this _ (Nat.le_refl _)
 omega
end Go.Proofs.YtcipdampcmfmaabGreat

namespace Go.Proofs.YtcipdampcmfmaabGreat
open Go.RowKit Go.Sort
theorem lists_permN {C:Vs} {rs:List Rw} (h:Ris rs) {ps:List Nat} (nd:ps.Nodup) (hk:∀ r ∈ rs,(nearP C r.2).1 ∈ ps):(ps.flatMap (listR C rs)).Perm rs:=by
 refine nd_perm ?_ (ris_nodup h) (fun r=>?_)
 ·refine List.pairwise_flatMap.2 ⟨fun x _=>ris_nodup (listR_ris _ h),?_⟩
  refine nd.imp ?_
  intro a b hab r h1 r' h2 e
  subst e
  exact hab ((mem_listR.1 h1).2.symm.trans (mem_listR.1 h2).2)
 ·rw [List.mem_flatMap]
  constructor
  ·rintro ⟨x,_,hx⟩
   exact (mem_listR.1 hx).1
  ·intro hr
   exact ⟨_,hk r hr,mem_listR.2 ⟨hr,rfl⟩⟩
theorem sub_flatM {α β:Type} {f:α->List β} {x:α} {l:List α} (h:x ∈ l):(f x).Sublist (l.flatMap f):=by
 obtain ⟨a,b,rfl⟩:=List.append_of_mem h
 rw [List.flatMap_append,List.flatMap_cons]
 exact (List.sublist_append_left _ _).trans (List.sublist_append_right _ _)
theorem lef_of {C:Vs} {rs:List Rw} {m p n:Nat} (hr:Ris rs) (hok:RowsOk rs (m:Int)) (hC:VsOk C (m:Int)) (hp:p < C.length):lefV C[p]! (listR C rs p) n=⟨3,C[p]!,[],radN C[p]! (listR C rs p) (listR C rs p).length,idsOf ((listR C rs p).drop n)⟩:=by
 unfold lefV
 rw [ballR_of (hC p hp) (hok.sub (listR_sub C rs p)) (listR_ris p hr)]
 dsimp only
 unfold idsOf
 rw [List.map_drop]
theorem good_end {C:Vs} {rs:List Rw} {q:List Int} {m k b:Nat} (hr:Ris rs) (hok:RowsOk rs (m:Int)) (hC:VsOk C (m:Int)/\1<=C.length/\C.length<=64) (hq:chk q (m:Int)=0) (hk:1<=k/\k<=64):GoodV rs q k b (ansV q k (endV q k b C rs)):=by
 obtain ⟨hC1,hC2,hC3⟩:=hC
 have hpl:∀ p,listR C rs p ≠ []->p < C.length:=fun p hne=>by
  obtain ⟨r,hr'⟩:=List.exists_mem_of_ne_nil _ hne
  rw [<- (mem_listR.1 hr').2]
  exact nearP_lt hC2 _
 have hS:∀ p,listR C rs p ≠ []->(ballR C[p]! (listR C rs p)).S=3:=fun p hne=>by
  rw [ballR_of (hC1 p (hpl p hne)) (hok.sub (listR_sub C rs p)) (listR_ris p hr)]
 obtain ⟨L,hI⟩:=InvV.run (q:=q) (C:=C) (rs:=rs) (b:=b) hk.1 hS ((outL C q).map Int.toNat) [] ⟨[],b,[]⟩ [] (InvV.start q k C rs b)
 rw [List.nil_append] at hI
 have hop:=outL_perm C q
 have hnd:((outL C q).map Int.toNat).Nodup:=by
  have p2:=hop.map Int.toNat
  have e:(plQ C.length).map Int.toNat=List.range C.length:=by
   unfold plQ
   rw [List.map_map]
   have:(Int.toNat ∘ fun (i:Nat)=>(i:Int))=id:=by funext i;simp
   rw [this,List.map_id]
  rw [e] at p2
  exact p2.nodup_iff.2 List.nodup_range
 have hcov:∀ r ∈ rs,(nearP C r.2).1 ∈ (outL C q).map Int.toNat:=fun r _=>by
  refine List.mem_map.2 ⟨((nearP C r.2).1:Int),hop.mem_iff.2 ?_,by simp⟩
  unfold plQ
  exact List.mem_map.2 ⟨_,List.mem_range.2 (nearP_lt hC2 _),rfl⟩
 have hrows:=hI.rows.trans (lists_permN hr hnd hcov)
 obtain ⟨s,hs⟩:∃ s,s=endV q k b C rs:=⟨_,rfl⟩
 have hI':InvV q k C rs b ((outL C q).map Int.toNat) s L:=by rw [hs];exact hI
 have hrows':(s.seen ++ L.flatMap Prod.snd).Perm rs:=by rw [hs];exact hrows
 rw [<- hs]
 clear hI hrows
 have hlen:=hrows'.length_eq
 rw [List.length_append] at hlen
 have h512:=hok.few
 have hndi:(idsOf (s.seen ++ L.flatMap Prod.snd)).Pairwise (· ≠ ·):=(List.Perm.pairwise_iff (fun e=>Ne.symm e) (hrows'.map Prod.fst)).2 hok.ids
 have hsn:(idsOf s.seen).Pairwise (· ≠ ·):=by
  unfold idsOf at hndi ⊢
  rw [List.map_append] at hndi
  exact (List.pairwise_append.1 hndi).1
 have hmem:∀ r ∈ s.seen,r ∈ rs:=fun r h=>hrows'.mem_iff.1 (List.mem_append_left _ h)
 have hql:=(chk_ok hq).2.2.1
 have hqc:=chk_ok hq
 have hreg:∀ x ∈ L,∃ p n,p < C.length/\x.2=(listR C rs p).drop n/\x.2 ≠ []/\x.1=⟨3,C[p]!,[],radN C[p]! (listR C rs p) (listR C rs p).length,idsOf x.2⟩:=fun x hx=>by
  obtain ⟨h1,p,_,n,h2,h3⟩:=hI'.reg x hx
  have hne:listR C rs p ≠ []:=fun e=>h1 (by rw [h2,e];simp)
  refine ⟨p,n,hpl p hne,h2,h1,?_⟩
  rw [h3,lef_of hr hok hC1 (hpl p hne),h2]
 have hsub:∀ x ∈ L,(x.2).Sublist (L.flatMap Prod.snd):=fun x hx=>sub_flatM hx
 have hck:∀ x ∈ L,ckR x.1 (q.length:Int)=0/\x.1.L.length<=64/\x.1.H.length<=64/\x.1.I=idsOf x.2/\x.1.R < 340282366920938463463374607431768211456/\x.1.S=3:=fun x hx=>by
  obtain ⟨p,n,hp,h2,h3,h4⟩:=hreg x hx
  have hcc:=chk_ok (hC1 p hp)
  have hsb:x.2.Sublist (listR C rs p):=by rw [h2];exact List.drop_sublist _ _
  have hris:Ris x.2:=(listR_ris p hr).sublist hsb
  have hxok:RowsOk x.2 (m:Int):=(hok.sub (listR_sub C rs p)).sub hsb
  have hrise:rise (idsOf x.2)=true:=by
   rw [<- srt_ris hris]
   refine rise_of hxok.ids (fun y hy=>?_)
   obtain ⟨row,hrow,rfl⟩:=List.mem_map.1 hy
   exact (hxok.row row hrow).1
  rw [h4]
  refine ⟨?_,hcc.2.1,Nat.zero_le _,rfl,rad_lt (hC1 p hp) (hok.sub (listR_sub C rs p)),rfl⟩
  unfold ckR
  rw [if_pos ⟨by omega,by omega⟩,if_pos ⟨by simp [uses],hrise⟩,if_neg (by dsimp only;decide),if_pos (by rfl)]
  rw [<- hql]
  exact hC1 p hp
 have hrest:∀ r ∈ s.rest,∃ x ∈ L,r=x.1:=fun r h=>by
  rw [hI'.rest] at h
  obtain ⟨x,hx,e⟩:=List.mem_map.1 h
  exact ⟨x,hx,e.symm⟩
 have hsl:(srt (idsOf s.seen)).length=s.seen.length:=by rw [srt_len];simp [idsOf]
 have hLl:L.length<=(L.flatMap Prod.snd).length:=by
  rw [List.length_flatMap]
  have:∀ l:List (Reg × List Rw),(∀ x ∈ l,x.2 ≠ [])->l.length<=(l.map fun x=>x.2.length).sum:=by
   intro l
   induction l with
   | nil=>intro _;simp
   | cons x r ih =>
    intro h
    have a1:=ih (fun y hy=>h y (List.mem_cons_of_mem _ hy))
    have a2:=List.length_pos_iff.2 (h x List.mem_cons_self)
    simp only [List.map_cons,List.sum_cons,List.length_cons]
    omega
  exact this L (fun x hx=>(hI'.reg x hx).1)
 have hrl:s.rest.length=L.length:=by rw [hI'.rest,List.length_map]
 have hbud:=hI'.bud
 unfold ansV
 refine ⟨⟨srtR s.seen,srtR_ids _,fun r h=>hmem r ((srtR_perm _).subset h),srt_lt hsn,fun r hr'=>?_,Tk.firsts_perm k (hitsOf_perm q (srtR_perm _)).symm,?_⟩,?_,?_,⟨?_,?_,?_,fun r hr'=>?_⟩,fun r hr'=>?_⟩
 ·obtain ⟨x,hx,rfl⟩:=hrest r hr'
  obtain ⟨p,n,hp,h2,h3,h4⟩:=hreg x hx
  obtain ⟨c1,c2,c3,c4,c5,c6⟩:=hck x hx
  refine ⟨c1,fun e=>?_,c5,fun y hy=>?_⟩
  ·rw [c4] at e
   unfold idsOf at e
   exact h3 (List.map_eq_nil_iff.1 e)
  ·rw [c4] at hy
   obtain ⟨row,hrow,e⟩:=List.mem_map.1 hy
   have hrl':row ∈ listR C rs p:=by rw [h2] at hrow;exact List.mem_of_mem_drop hrow
   refine ⟨row,(mem_listR.1 hrl').1,e,?_⟩
   rw [h4]
   unfold inV
   rw [if_neg (by dsimp only;decide),if_pos rfl]
   exact decide_eq_true (rad_le hrl')
 ·unfold allIds
  dsimp only
  refine List.Perm.trans ?_ (hrows'.map Prod.fst)
  rw [List.map_append]
  refine List.Perm.append (srt_perm _) ?_
  rw [hI'.rest,List.flatMap_map,List.map_flatMap]
  have:∀ l:List (Reg × List Rw),(∀ x ∈ l,x.1.I=idsOf x.2)->(l.flatMap fun x=>x.1.I)=l.flatMap fun x=>x.2.map Prod.fst:=by
   intro l
   induction l with
   | nil=>intro _;rfl
   | cons x r ih =>
    intro h
    rw [List.flatMap_cons,List.flatMap_cons,ih (fun y hy=>h y (List.mem_cons_of_mem _ hy)),h x List.mem_cons_self]
    rfl
  rw [this L (fun x hx=>(hck x hx).2.2.2.1)]
 ·dsimp only
  rw [hsl]
  omega
 ·dsimp only
  rw [hsl]
  rcases hI'.far with h0 | h0
  ·exact .inl (by omega)
  ·refine .inr (.inr ?_)
   unfold certB
   dsimp only
   rw [Bool.or_eq_true,Bool.and_eq_true,List.isEmpty_iff,decide_eq_true_eq,List.all_eq_true]
   by_cases he:s.rest=[]
   ·exact .inl he
   ·obtain ⟨r0,hr0⟩:=List.exists_mem_of_ne_nil _ he
    have hb0:=h0 r0 hr0
    unfold beyB at hb0
    rw [Bool.and_eq_true,decide_eq_true_eq] at hb0
    refine .inr ⟨by omega,fun r hr'=>?_⟩
    have:=h0 r hr'
    unfold beyB at this
    rw [Bool.and_eq_true] at this
    exact this.2
 ·dsimp only
  rw [Tk.firsts_len]
  omega
 ·dsimp only
  rw [hsl]
  omega
 ·dsimp only
  omega
 ·obtain ⟨x,hx,rfl⟩:=hrest r hr'
  obtain ⟨c1,c2,c3,c4,c5,c6⟩:=hck x hx
  refine ⟨c2,c3,?_⟩
  rw [c4]
  have:=(hsub x hx).length_le
  unfold idsOf
  rw [List.length_map]
  omega
 ·obtain ⟨x,hx,rfl⟩:=hrest r hr'
  obtain ⟨c1,c2,c3,c4,c5,c6⟩:=hck x hx
  refine ⟨?_,c5⟩
  unfold ckB
  rw [if_pos c1,<- hql]
  exact hq
end Go.Proofs.YtcipdampcmfmaabGreat

namespace Go.Proofs.YtcipdampcmfmaabGreat
open Go.RowKit Go.Sort Go.Maps
theorem del_none {rs:List Rw} {id:Int} (h:hasId rs id=false):delRw rs id=rs:=by
 unfold hasId at h
 rw [List.any_eq_false] at h
 unfold delRw
 rw [List.filter_eq_self]
 intro y hy
 have:=h y hy
 simpa using this
theorem remove_c {Iq:Nat->Prop} {w:World} {tb m:Nat} {C:Vs} {rs:List Rw} {F:List Nat} (h:TreeAt Iq w tb m C rs F) (id:Int) (hid:KWf id) :
  Calls Tryz.prog 35 #[.pointer (some ⟨tb,0,none⟩),.int .i64 id] w fun e w'=>e=.returned (.bool (hasId rs id))/\TOut Iq w tb m C F (delRw rs id) w':=by
 cases hh:hasId rs id with
 | true=>exact remove_yes h id hid hh
 | false =>
  refine (remove_no h id hid hh).mono ?_
  rintro e w' ⟨rfl,rfl⟩
  rw [del_none hh]
  exact ⟨rfl,F,h,fun y hy=>.inl hy,Tk.Kp.refl _ _⟩
theorem delete_c {Iq:Nat->Prop} {w:World} {tb m:Nat} {C:Vs} {rs:List Rw} {F:List Nat} (h:TreeAt Iq w tb m C rs F) (id:Int) (hid:KWf id) :
  Calls Tryz.prog 15 #[.pointer (some ⟨tb,0,none⟩),.int .i64 id] w fun e w'=>e=.returned (.tuple #[.bool (hasId rs id),.int .i64 0])/\TOut Iq w tb m C F (delRw rs id) w':=by
 have cR:=remove_c h id hid
 clear h hid
 generalize hasId rs id=hb at *
 go_enter Tryz.func15,Tryz.ntmps15
 go_wp2_with fail
 go_fit cR
 rintro e w1 ⟨rfl,hO⟩
 have H:Hid _:=hO
 clear hO cR
 go_wp2
 refine bodyPost_ret (v:=.tuple #[.bool hb,.int .i64 0]) (by simp [results,Tryz.results15,go_sem]) rfl ?_
 exact ⟨rfl,H.out⟩
end Go.Proofs.YtcipdampcmfmaabGreat

namespace Go.Proofs.YtcipdampcmfmaabGreat
open Go.RowKit Go.Sort
structure Tw (W:World) (B:Nat) (va vb:Value) (p r:Addr) (S x1 x2 x3 y1 y2 y3 R1 R2:Value):Prop where
 v0:W.cell? ⟨B,2,none⟩=some va
 v1:W.cell? ⟨B + 1,2,none⟩=some vb
 a0:W.cell? p=some S
 a1:W.cell? ⟨p.block,p.off + 1,none⟩=some x1
 a2:W.cell? ⟨p.block,p.off + 2,none⟩=some x2
 a3:W.cell? ⟨p.block,p.off + 3,none⟩=some R1
 a4:W.cell? ⟨p.block,p.off + 4,none⟩=some R2
 a5:W.cell? ⟨p.block,p.off + 5,none⟩=some x3
 b0:W.cell? r=some S
 b1:W.cell? ⟨r.block,r.off + 1,none⟩=some y1
 b2:W.cell? ⟨r.block,r.off + 2,none⟩=some y2
 b3:W.cell? ⟨r.block,r.off + 3,none⟩=some R1
 b4:W.cell? ⟨r.block,r.off + 4,none⟩=some R2
 b5:W.cell? ⟨r.block,r.off + 5,none⟩=some y3
theorem Tw.gb {W W':World} {B:Nat} {va vb:Value} {p r:Addr} {S x1 x2 x3 y1 y2 y3 R1 R2:Value} (h:Tw W B va vb p r S x1 x2 x3 y1 y2 y3 R1 R2) (g:Gb W W'):Tw W' B va vb p r S x1 x2 x3 y1 y2 y3 R1 R2 :=
 ⟨gb_keeps g h.v0,gb_keeps g h.v1,gb_keeps g h.a0,gb_keeps g h.a1,gb_keeps g h.a2,gb_keeps g h.a3,gb_keeps g h.a4,gb_keeps g h.a5,gb_keeps g h.b0,gb_keeps g h.b1,gb_keeps g h.b2,gb_keeps g h.b3,gb_keeps g h.b4,gb_keeps g h.b5⟩
structure Few (a:Ans):Prop where
 hits:a.hits.length<=4000
 seen:a.seen.length<=4611686018427387904
 rest:a.rest.length<=4611686018427387904
 reg:∀ r ∈ a.rest,r.L.length<=4611686018427387904/\r.H.length<=4611686018427387904/\r.I.length<=4611686018427387904
end Go.Proofs.YtcipdampcmfmaabGreat
