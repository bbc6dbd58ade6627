import Derived.Test.YtcipdampcmfmaabGreatJa19
import Derived.Test.YtcipdampcmfmaabGreatJa27
import Derived.Test.YtcipdampcmfmaabGreatJa15
import Derived.Test.YtcipdampcmfmaabGreatJa10
import Derived.Test.YtcipdampcmfmaabGreatJa18
import Derived.Test.YtcipdampcmfmaabGreatJa23
import Derived.Test.YtcipdampcmfmaabGreatJa20
namespace Go.Proofs.YtcipdampcmfmaabGreat
open Go.RowKit Go.Sort
def Ris (rs:List Rw):Prop:=rs.Pairwise fun x y=>x.1 < y.1
def insRw (rs:List Rw) (r:Rw):List Rw:=rs.take (plc rs r.1) ++ r :: rs.drop (plc rs r.1)
def delRw (rs:List Rw) (id:Int):List Rw:=rs.filter fun y=>!decide (y.1=id)
theorem split_lt (id:Int):∀ {rs:List Rw},Ris rs->rs.take (plc rs id)=rs.filter (fun r=>decide (r.1 < id))/\rs.drop (plc rs id)=rs.filter (fun r=>!decide (r.1 < id))
 | [],_=>⟨rfl,rfl⟩
 | r :: rest,h=>by
  have h1:=List.pairwise_cons.1 h
  obtain ⟨a,b⟩:=split_lt id h1.2
  by_cases hr:r.1 < id
  ·have e:plc (r :: rest) id=plc rest id + 1:=by unfold plc;rw [List.filter_cons_of_pos (by simpa using hr)];rfl
   rw [e,List.take_succ_cons,List.drop_succ_cons,List.filter_cons_of_pos (by simpa using hr),List.filter_cons_of_neg (by simpa using hr),a,b]
   exact ⟨rfl,rfl⟩
  ·have e0:rest.filter (fun r=>decide (r.1 < id))=[]:=by
    rw [List.filter_eq_nil_iff]
    intro y hy
    have:=h1.1 y hy
    simp
    omega
   have e1:rest.filter (fun r=>!decide (r.1 < id))=rest:=by
    rw [List.filter_eq_self]
    intro y hy
    have:=h1.1 y hy
    simp
    omega
   have e:plc (r :: rest) id=0:=by unfold plc;rw [List.filter_cons_of_neg (by simpa using hr),e0];rfl
   rw [e,List.take_zero,List.drop_zero,List.filter_cons_of_neg (by simpa using hr),List.filter_cons_of_pos (by simpa using hr),e0,e1]
   exact ⟨rfl,rfl⟩
theorem plc_le (rs:List Rw) (id:Int):plc rs id<=rs.length:=List.length_filter_le _ _
theorem ins_perm (rs:List Rw) (r:Rw):(insRw rs r).Perm (rs ++ [r]):=by
 unfold insRw
 refine List.perm_middle.trans ?_
 rw [List.take_append_drop]
 exact (List.perm_append_singleton r rs).symm
theorem ins_ris {rs:List Rw} {r:Rw} (h:Ris rs) (hn:∀ y ∈ rs,y.1 ≠ r.1):Ris (insRw rs r):=by
 unfold insRw Ris
 obtain ⟨a,b⟩:=split_lt r.1 h
 rw [a,b,List.pairwise_append]
 refine ⟨h.sublist List.filter_sublist,List.pairwise_cons.2 ⟨fun y hy=>?_,h.sublist List.filter_sublist⟩,fun x hx y hy=>?_⟩
 ·have h1:=List.mem_filter.1 hy
  have h2:=hn y h1.1
  simp at h1
  omega
 ·have h1:=List.mem_filter.1 hx
  simp at h1
  rcases List.mem_cons.1 hy with rfl | hy
  ·exact h1.2
  ·have h2:=List.mem_filter.1 hy
   simp at h2
   omega
theorem plc_has {rs:List Rw} {id:Int} (h:Ris rs) (hh:hasId rs id=true):∃ hp:plc rs id < rs.length,rs[plc rs id].1=id:=by
 unfold hasId at hh
 rw [List.any_eq_true] at hh
 obtain ⟨r,hr,he⟩:=hh
 obtain ⟨j,hj,rfl⟩:=List.getElem_of_mem hr
 rw [decide_eq_true_eq] at he
 have hp:=List.pairwise_iff_getElem.1 h
 have e:plc rs id=j:=plc_of (by omega) (fun t ht htj=>by have:=hp t j ht hj htj;omega) (fun t ht hjt=>by
  by_cases e:j=t
  ·subst e;omega
  ·have:=hp j t hj ht (by omega);omega)
 exact ⟨by omega,by simp only [e];exact he⟩
theorem del_ris {rs:List Rw} (id:Int) (h:Ris rs):Ris (delRw rs id):=h.sublist List.filter_sublist
theorem flat_takeR:∀ (d:List Rt) (p:Nat),(d.flatMap encR).take (p * 2)=(d.take p).flatMap encR
 | [],p=>by simp
 | x :: r,0=>by simp
 | x :: r,p + 1=>by
  rw [List.take_succ_cons,List.flatMap_cons,List.flatMap_cons,<- flat_takeR r p,show (p + 1) * 2=(p * 2) + 1 + 1 by omega]
  rfl
theorem flat_dropR:∀ (d:List Rt) (p:Nat),(d.flatMap encR).drop (p * 2)=(d.drop p).flatMap encR
 | [],p=>by simp
 | x :: r,0=>by simp
 | x :: r,p + 1=>by
  rw [List.drop_succ_cons,List.flatMap_cons,<- flat_dropR r p,show (p + 1) * 2=(p * 2) + 1 + 1 by omega]
  rfl
def listR (C:Vs) (rs:List Rw) (p:Nat):List Rw:=rs.filter fun r=>decide ((nearP C r.2).1=p)
theorem listR_ris {C:Vs} {rs:List Rw} (p:Nat) (h:Ris rs):Ris (listR C rs p):=h.sublist List.filter_sublist
theorem mem_listR {C:Vs} {rs:List Rw} {p:Nat} {r:Rw}:r ∈ listR C rs p ↔ r ∈ rs/\(nearP C r.2).1=p:=by
 unfold listR;rw [List.mem_filter,decide_eq_true_eq]
theorem listR_del (C:Vs) (rs:List Rw) (id:Int) (p:Nat):listR C (delRw rs id) p=delRw (listR C rs p) id:=by
 unfold listR delRw
 rw [List.filter_filter,List.filter_filter]
 congr 1
 funext r
 rw [Bool.and_comm]
theorem del_self {rs:List Rw} {id:Int} (h:∀ r ∈ rs,r.1 ≠ id):delRw rs id=rs:=by
 unfold delRw
 rw [List.filter_eq_self]
 intro r hr
 simp [h r hr]
theorem ins_split {rs:List Rw} {r:Rw} (h:Ris rs):insRw rs r=rs.filter (fun y=>decide (y.1 < r.1)) ++ r :: rs.filter (fun y=>!decide (y.1 < r.1)):=by
 unfold insRw
 obtain ⟨a,b⟩:=split_lt r.1 h
 rw [a,b]
theorem listR_ins {C:Vs} {rs:List Rw} {r:Rw} (h:Ris rs) (p:Nat):listR C (insRw rs r) p=if (nearP C r.2).1=p then insRw (listR C rs p) r else listR C rs p:=by
 have e1:∀ f:Rw->Bool,(rs.filter f).filter (fun r=>decide ((nearP C r.2).1=p))=(listR C rs p).filter f:=fun f=>by
  unfold listR
  rw [List.filter_filter,List.filter_filter]
  congr 1
  funext r
  rw [Bool.and_comm]
 have hl:=listR_ris (C:=C) p h
 by_cases hp:(nearP C r.2).1=p
 ·rw [if_pos hp,ins_split h,ins_split hl]
  conv=>lhs;unfold listR
  rw [List.filter_append,List.filter_cons_of_pos (by rw [hp];exact decide_eq_true rfl),e1,e1]
 ·rw [if_neg hp,ins_split h]
  conv=>lhs;unfold listR
  rw [List.filter_append,List.filter_cons_of_neg (by rw [decide_eq_true_eq];exact hp),e1,e1]
  obtain ⟨a,b⟩:=split_lt r.1 hl
  rw [<- a,<- b,List.take_append_drop]
theorem listR_sub (C:Vs) (rs:List Rw) (p:Nat):(listR C rs p).Sublist rs:=List.filter_sublist
theorem srt_ris {rs:List Rw} (h:Ris rs):srt (idsOf rs)=idsOf rs:=by
 unfold srt
 refine List.mergeSort_of_pairwise ?_
 unfold idsOf
 rw [List.pairwise_map]
 refine h.imp ?_
 intro a b hab
 simp only [decide_eq_true_eq]
 omega
theorem ris_nodup {rs:List Rw} (h:Ris rs):rs.Nodup:=h.imp fun hab e=>by rw [e] at hab;omega
theorem nd_perm {α:Type} [DecidableEq α]:∀ {l m:List α},l.Nodup->m.Nodup->(∀ x,x ∈ l ↔ x ∈ m)->l.Perm m
 | [],m,_,_,h=>by
  cases m with
  | nil=>exact List.Perm.refl _
  | cons a r=>exact absurd ((h a).2 List.mem_cons_self) (by simp)
 | x :: r,m,hl,hm,h=>by
  have hx:x ∈ m:=(h x).1 List.mem_cons_self
  refine List.Perm.trans ?_ (List.perm_cons_erase hx).symm
  refine (nd_perm (List.nodup_cons.1 hl).2 (hm.erase x) (fun y=>?_)).cons x
  constructor
  ·intro hy
   have hyx:y ≠ x:=fun e=>(List.nodup_cons.1 hl).1 (e ▸ hy)
   exact (List.mem_erase_of_ne hyx).2 ((h y).1 (List.mem_cons_of_mem _ hy))
  ·intro hy
   have hyx:y ≠ x:=fun e=>by subst e;exact (List.Nodup.not_mem_erase hm) hy
   rcases List.mem_cons.1 ((h y).2 (List.mem_of_mem_erase hy)) with e | e
   ·exact absurd e hyx
   ·exact e
theorem lists_perm {C:Vs} {rs:List Rw} (h:Ris rs) {ks:List Int} (nd:ks.Nodup) (hk:∀ x:Int,x ∈ ks ↔ 0<=x/\listR C rs x.toNat ≠ []):(ks.flatMap fun x=>listR C rs x.toNat).Perm rs:=by
 refine nd_perm ?_ (ris_nodup h) (fun r=>?_)
 ·refine List.pairwise_flatMap.2 ⟨fun x _=>ris_nodup (listR_ris _ h),?_⟩
  refine List.Pairwise.imp_of_mem ?_ nd
  intro a b ha hb hab r h1 r' h2 e
  subst e
  have e1:=(mem_listR.1 h1).2
  have e2:=(mem_listR.1 h2).2
  have:=(hk a).1 ha
  have:=(hk b).1 hb
  exact hab (by omega)
 ·rw [List.mem_flatMap]
  constructor
  ·rintro ⟨x,_,hx⟩
   exact (mem_listR.1 hx).1
  ·intro hr
   have hm:r ∈ listR C rs (nearP C r.2).1:=mem_listR.2 ⟨hr,rfl⟩
   refine ⟨((nearP C r.2).1:Int),(hk _).2 ⟨by omega,?_⟩,by simpa using hm⟩
   simp only [Int.toNat_natCast]
   exact List.ne_nil_of_mem hm
theorem ballE_zero {c:List Int} {R:List Rw} {m:Nat} (hc:chk c (m:Int)=0) (h:RowsOk R (m:Int)):ballE c R=0:=by
 have hl:=(chk_ok hc).2.2.1
 unfold ballE
 rw [<- hl,if_pos hc]
 exact idsE_zero.2 h
theorem ballR_of {c:List Int} {R:List Rw} {m:Nat} (hc:chk c (m:Int)=0) (h:RowsOk R (m:Int)) (hr:Ris R):ballR c R=⟨3,c,[],radN c R R.length,idsOf R⟩:=by
 unfold ballR
 rw [if_pos (ballE_zero hc h),srt_ris hr]
end Go.Proofs.YtcipdampcmfmaabGreat

namespace Go.Proofs.YtcipdampcmfmaabGreat
open Go.RowKit Go.Sort Go.Maps
set_option maxRecDepth 100000
set_option maxHeartbeats 2000000
abbrev lv (r:Reg) (vl vh vi rows:Value):Value:=.agg #[.int .i64 r.S,vl,vh,.int .u64 (hi r.R),.int .u64 (lo r.R),vi,rows]
theorem keep_c {w:World} {tb lb p n cap:Nat} {a:Option Addr} {ks:List Int} {f:Int->Value} {u:Value} {cs:Vs} {rs:List Rw} (hc:w.cell? ⟨tb,1,none⟩=some u) (hu:RdV w u cs) (hp:w.cell? ⟨tb,2,none⟩=some (.map (some lb))) (hm:MapA Tryz.prog 3 w lb ks f) (hk:ks.length < 1000000) (hpl:p < cs.length) (hcl:cs.length<=100000)
  (h:RdW w (.slice a n cap) rs) (hn:0 < n) (hn2:n<=4000) (hlen:rs.length<=4611686018427387904) (hwf:∀ i,i < rs.length->(Lit.int .i64 rs[i]!.1).wf=true) :
  Calls Tryz.prog 60 #[.pointer (some ⟨tb,0,none⟩),.int .i64 (p:Int),.slice a n cap] w fun e w'=>e=.returned (.tuple #[])/\∃ w1 W vl vh vi,OutR w w1 (ballR cs[p]! rs) vl vh vi/\Gb w1 W/\MapA Tryz.prog 3 w' lb (putK ks p) (putF f p (lv (ballR cs[p]! rs) vl vh vi (.slice a n cap)))/\W.mapTurned w' lb:=by
 have KP:KWf (p:Int):=⟨by omega,by omega⟩
 have hlt:tb < w.heap.size:=cell_lt hp
 have ML:Hid (MapA Tryz.prog 3 w lb ks f):=hm
 obtain ⟨cu,cc,rfl,hU⟩:=hu
 obtain ⟨cb,co,uu,e0,c0,hV⟩:=hU p hpl
 subst e0
 have hpi:(p:Int) < (cs.length:Int):=by omega
 have hni:((n:Int) == 0)=false:=by rw [beq_eq_false_iff_ne];omega
 have cB:=ball_c hV h hlen hwf
 have PT:Hid (∀ w1 c t,Gb w w1->∀ v,∃ w',(Instr.mapUpdate 71 (.map (some lb)) (.int .i64 (p:Int)) v).run Tryz.prog (w1.alloc (.cells c t)).drew=.ok () w'/\MapA Tryz.prog 3 w' lb (putK ks p) (putF f p v)/\(w1.alloc (.cells c t)).drew.mapTurned w' lb):=fun w1 c t g v=>by
  have m1:=ML.out.same ((gb_alloc g (.cells c t)).drew.block _ ML.out.lt)
  exact m1.put Tryz.underlying3 Tryz.underlying71 hk KP v
 generalize cs[p]! = c at *
 generalize cs.length=nc at *
 generalize ballR c rs=B at *
 generalize ballE c rs=E at *
 clear hU h hV hm hlen hwf
 go_enter Tryz.func60,Tryz.ntmps60
 go_wp2_with fail
 refine cB.mono ?_
 rintro e w1 ⟨vl,vh,vi,rfl,hO⟩
 have HO:Hid (OutR w w1 B vl vh vi):=hO
 obtain ⟨al,cl,el,_⟩:=hO.2.1.rd
 obtain ⟨ah,ch,eh,_⟩:=hO.2.2.1.rd
 obtain ⟨ai,ci,ei,_⟩:=hO.2.2.2.1.rd
 subst el eh ei
 generalize B.L.length=nl at *
 generalize B.H.length=nh at *
 generalize B.I.length=ni at *
 have hG:=hO.1
 clear hO
 have hO:=hG
 have c1:=gb_keeps hO hc
 have c2:=gb_keeps hO hp
 have hlt1:tb < w1.heap.size:=cell_lt c1
 obtain ⟨w4,hrun,R⟩:=PT.out w1 #[.int .i64 B.S,.slice al nl cl,.slice ah nh ch,.int .u64 (hi B.R),.int .u64 (lo B.R),.slice ai ni ci] 98 hO (.agg #[.int .i64 B.S,.slice al nl cl,.slice ah nh ch,.int .u64 (hi B.R),.int .u64 (lo B.R),.slice ai ni ci,.slice a n cap])
 have RH:Hid (MapA Tryz.prog 3 w4 lb _ _/\_):=R
 clear hO R
 go_wp2_with fail
 have k2:(w1.alloc (.cells #[.int .i64 B.S,.slice al nl cl,.slice ah nh ch,.int .u64 (hi B.R),.int .u64 (lo B.R),.slice ai ni ci] 98)).cell? ⟨tb,2,none⟩=some (.map (some lb)):=alloc_keeps c2 _
 go_region
 all_goals
  go_wp2
  go_end0
  exact ⟨rfl,w1,_,_,_,_,HO.out,(gb_alloc (Below.refl _ _) _).drew,RH.out⟩
end Go.Proofs.YtcipdampcmfmaabGreat

namespace Go.Proofs.YtcipdampcmfmaabGreat
structure BkR (lt:El->El->Prop) (l l1:List El) (n s:Nat):Prop where
 perm:l1.Perm l
 run:∀ p,s ∣ p->Ri lt l1 p (min (p + s) n)
 loc:∀ p,s ∣ p->∀ i,p<=i->i < min (p + s) n->∃ j,(p<=j/\j < min (p + s) n)/\l1[i]! = l[j]!
structure PaR (lt:El->El->Prop) (l l0 l1:List El) (n t a:Nat):Prop where
 perm:l1.Perm l
 run:∀ p,t ∣ p->p < a->Ri lt l1 p (min (p + t) n)
 loc:∀ p,t ∣ p->p < a->∀ i,p<=i->i < min (p + t) n->∃ j,(p<=j/\j < min (p + t) n)/\l1[i]! = l[j]!
 rest:∀ i,a<=i->l1[i]! = l0[i]!
theorem PaR.start {lt:El->El->Prop} {l l0:List El} {n t:Nat} (h:l0.Perm l):PaR lt l l0 l0 n t 0 :=
 ⟨h,fun _p _ h=>absurd h (Nat.not_lt_zero _),fun _p _ h=>absurd h (Nat.not_lt_zero _),fun _ _=>rfl⟩
theorem PaR.step {lt:El->El->Prop} {l l0 l1 l2:List El} {n t a:Nat} (h:PaR lt l l0 l1 n t a) (ht:0 < t) (hta:t ∣ a) (han:a<=n) (hn:n<=l.length) (hs:Seg l1 l2 a (min (a + t) n)) (hr:Ri lt l2 a (min (a + t) n))
  (hl:∀ i,a<=i->i < min (a + t) n->∃ j,(a<=j/\j < min (a + t) n)/\l0[i]! = l[j]!):PaR lt l l0 l2 n t (a + t):=by
 have hlen:=h.perm.length_eq
 have old:∀ p,t ∣ p->p < a->∀ i,i < min (p + t) n->l2[i]! = l1[i]! := fun p hp hpa i hi=>hs.out i (Or.inl (by have:=dvd_next hta hp hpa;omega))
 have one:∀ p,t ∣ p->p < a + t->¬ p < a->p=a:=fun p hp h1 h2=>by
  by_cases h3:a < p
  ·have:=dvd_next hp hta h3;omega
  ·omega
 refine ⟨hs.perm.trans h.perm,fun p hp hpa=>?_,fun p hp hpa i h1 h2=>?_,fun i hi=>(hs.out i (by omega)).trans (h.rest i (by omega))⟩
 ·by_cases hlt:p < a
  ·intro i j h1 h2 h3
   rw [old p hp hlt i (by omega),old p hp hlt j h3]
   exact h.run p hp hlt i j h1 h2 h3
  ·obtain rfl:=one p hp hpa hlt
   exact hr
 ·by_cases hlt:p < a
  ·rw [old p hp hlt i h2]
   exact h.loc p hp hlt i h1 h2
  ·obtain rfl:=one p hp hpa hlt
   obtain ⟨k,hk,e⟩:=hs.mem (by omega) (by omega) (i:=i) ⟨h1,h2⟩
   rw [e,h.rest k hk.1]
   exact hl k hk.1 hk.2
theorem PaR.fin {lt:El->El->Prop} {l l0 l1:List El} {n t a:Nat} (h:PaR lt l l0 l1 n t a) (hna:n<=a):BkR lt l l1 n t:=by
 refine ⟨h.perm,fun p hp=>?_,fun p hp i h1 h2=>?_⟩
 ·by_cases hpa:p < a
  ·exact h.run p hp hpa
  ·intro i j h1 h2 h3;omega
 ·by_cases hpa:p < a
  ·exact h.loc p hp hpa i h1 h2
  ·omega
theorem BkR.pre {c lt:El->El->Prop} {l l0 l1:List El} {n s a b:Nat} (h:BkR lt l l0 n s) (hT:TagR c lt l 0 n) (hs:0 < s) (hsa:s ∣ a) (hb:b=min (a + 2 * s) n) (hmn:a + s < n) (hrest:∀ i,a<=i->l1[i]! = l0[i]!):PreM c lt l1 a (a + s) b:=by
 have r1:=h.run a hsa
 have r2:=h.run (a + s) (Nat.dvd_add hsa (Nat.dvd_refl s))
 have q1:=h.loc a hsa
 have q2:=h.loc (a + s) (Nat.dvd_add hsa (Nat.dvd_refl s))
 refine ⟨fun i j h1 h2 h3=>?_,fun i j h1 h2 h3=>?_,fun i j h1 h2 h3 h4=>?_⟩
 ·rw [hrest i h1,hrest j (by omega)]
  exact r1 i j h1 h2 (by omega)
 ·rw [hrest i (by omega),hrest j (by omega)]
  exact r2 i j h1 h2 (by omega)
 ·rw [hrest i h1,hrest j (by omega)]
  obtain ⟨i',hi',e1⟩:=q1 i h1 (by omega)
  obtain ⟨j',hj',e2⟩:=q2 j h3 (by omega)
  rw [e1,e2]
  exact hT i' j' (Nat.zero_le _) (by omega) (by omega)
theorem BkR.two {lt:El->El->Prop} {l l0:List El} {n s a:Nat} (h:BkR lt l l0 n s) (hsa:s ∣ a) (i:Nat) (h1:a<=i) (h2:i < min (a + 2 * s) n):∃ j,(a<=j/\j < min (a + 2 * s) n)/\l0[i]! = l[j]! := by
 by_cases hi:i < a + s
 ·obtain ⟨j,hj,e⟩:=h.loc a hsa i h1 (by omega)
  exact ⟨j,by omega,e⟩
 ·obtain ⟨j,hj,e⟩:=h.loc (a + s) (Nat.dvd_add hsa (Nat.dvd_refl s)) i (by omega) (by omega)
  exact ⟨j,by omega,e⟩
theorem BkR.alone {lt:El->El->Prop} {l l0 l1:List El} {n s a:Nat} (h:BkR lt l l0 n s) (hsa:s ∣ a) (hmn:n<=a + s) (hrest:∀ i,a<=i->l1[i]! = l0[i]!):Ri lt l1 a (min (a + 2 * s) n):=by
 intro i j h1 h2 h3
 rw [hrest i h1,hrest j (by omega)]
 exact h.run a hsa i j h1 h2 (by omega)
theorem BkR.done {lt:El->El->Prop} {l l0:List El} {n s:Nat} (h:BkR lt l l0 n s) (hn:n<=s):Ri lt l0 0 n:=by
 have:=h.run 0 (Nat.dvd_zero s)
 rw [show min (0 + s) n=n by omega] at this
 exact this
end Go.Proofs.YtcipdampcmfmaabGreat
