import Derived.Test.YtcipdampcmfmaaaGreatIa21
import Derived.Test.YtcipdampcmfmaaaGreatIa19
import Derived.Test.YtcipdampcmfmaaaGreatIa15
import Derived.Test.YtcipdampcmfmaaaGreatIa14
import Derived.Test.YtcipdampcmfmaaaGreatIa11
import Derived.Test.YtcipdampcmfmaaaGreatIa18
namespace Go.Proofs.YtcipdampcmfmaaaGreat
open Go.RowKit Go.Sort
def Ris (rs:List Rw):Prop:=rs.Pairwise fun x y=>x.1 < y.1
def insRw (rs:List Rw) (r:Rw):List Rw:=rs.take (plc rs r.1) ++ r :: rs.drop (plc rs r.1)
def delRw (rs:List Rw) (id:Int):List Rw:=rs.filter fun y=>!decide (y.1=id)
theorem split_lt (id:Int):∀ {rs:List Rw},Ris rs->rs.take (plc rs id)=rs.filter (fun r=>decide (r.1 < id))/\rs.drop (plc rs id)=rs.filter (fun r=>!decide (r.1 < id))
 | [],_=>⟨rfl,rfl⟩
 | r :: rest,h=>by
  have h1:=List.pairwise_cons.1 h
  obtain ⟨a,b⟩:=split_lt id h1.2
  by_cases hr:r.1 < id
  ·have e:plc (r :: rest) id=plc rest id + 1:=by unfold plc;rw [List.filter_cons_of_pos (by simpa using hr)];rfl
   rw [e,List.take_succ_cons,List.drop_succ_cons,List.filter_cons_of_pos (by simpa using hr),List.filter_cons_of_neg (by simpa using hr),a,b]
   exact ⟨rfl,rfl⟩
  ·have e0:rest.filter (fun r=>decide (r.1 < id))=[]:=by
    rw [List.filter_eq_nil_iff]
    intro y hy
    have:=h1.1 y hy
    simp
    omega
   have e1:rest.filter (fun r=>!decide (r.1 < id))=rest:=by
    rw [List.filter_eq_self]
    intro y hy
    have:=h1.1 y hy
    simp
    omega
   have e:plc (r :: rest) id=0:=by unfold plc;rw [List.filter_cons_of_neg (by simpa using hr),e0];rfl
   rw [e,List.take_zero,List.drop_zero,List.filter_cons_of_neg (by simpa using hr),List.filter_cons_of_pos (by simpa using hr),e0,e1]
   exact ⟨rfl,rfl⟩
theorem plc_le (rs:List Rw) (id:Int):plc rs id<=rs.length:=List.length_filter_le _ _
theorem ins_perm (rs:List Rw) (r:Rw):(insRw rs r).Perm (rs ++ [r]):=by
 unfold insRw
 refine List.perm_middle.trans ?_
 rw [List.take_append_drop]
 exact (List.perm_append_singleton r rs).symm
theorem ins_ris {rs:List Rw} {r:Rw} (h:Ris rs) (hn:∀ y ∈ rs,y.1 ≠ r.1):Ris (insRw rs r):=by
 unfold insRw Ris
 obtain ⟨a,b⟩:=split_lt r.1 h
 rw [a,b,List.pairwise_append]
 refine ⟨h.sublist List.filter_sublist,List.pairwise_cons.2 ⟨fun y hy=>?_,h.sublist List.filter_sublist⟩,fun x hx y hy=>?_⟩
 ·have h1:=List.mem_filter.1 hy
  have h2:=hn y h1.1
  simp at h1
  omega
 ·have h1:=List.mem_filter.1 hx
  simp at h1
  rcases List.mem_cons.1 hy with rfl | hy
  ·exact h1.2
  ·have h2:=List.mem_filter.1 hy
   simp at h2
   omega
theorem plc_has {rs:List Rw} {id:Int} (h:Ris rs) (hh:hasId rs id=true):∃ hp:plc rs id < rs.length,rs[plc rs id].1=id:=by
 unfold hasId at hh
 rw [List.any_eq_true] at hh
 obtain ⟨r,hr,he⟩:=hh
 obtain ⟨j,hj,rfl⟩:=List.getElem_of_mem hr
 rw [decide_eq_true_eq] at he
 have hp:=List.pairwise_iff_getElem.1 h
 have e:plc rs id=j:=plc_of (by omega) (fun t ht htj=>by have:=hp t j ht hj htj;omega) (fun t ht hjt=>by
  by_cases e:j=t
  ·subst e;omega
  ·have:=hp j t hj ht (by omega);omega)
 exact ⟨by omega,by simp only [e];exact he⟩
theorem del_ris {rs:List Rw} (id:Int) (h:Ris rs):Ris (delRw rs id):=h.sublist List.filter_sublist
theorem flat_takeR:∀ (d:List Rt) (p:Nat),(d.flatMap encR).take (p * 2)=(d.take p).flatMap encR
 | [],p=>by simp
 | x :: r,0=>by simp
 | x :: r,p + 1=>by
  rw [List.take_succ_cons,List.flatMap_cons,List.flatMap_cons,<- flat_takeR r p,show (p + 1) * 2=(p * 2) + 1 + 1 by omega]
  rfl
theorem flat_dropR:∀ (d:List Rt) (p:Nat),(d.flatMap encR).drop (p * 2)=(d.drop p).flatMap encR
 | [],p=>by simp
 | x :: r,0=>by simp
 | x :: r,p + 1=>by
  rw [List.drop_succ_cons,List.flatMap_cons,<- flat_dropR r p,show (p + 1) * 2=(p * 2) + 1 + 1 by omega]
  rfl
def listR (C:Vs) (rs:List Rw) (p:Nat):List Rw:=rs.filter fun r=>decide ((nearP C r.2).1=p)
theorem listR_ris {C:Vs} {rs:List Rw} (p:Nat) (h:Ris rs):Ris (listR C rs p):=h.sublist List.filter_sublist
theorem mem_listR {C:Vs} {rs:List Rw} {p:Nat} {r:Rw}:r ∈ listR C rs p ↔ r ∈ rs/\(nearP C r.2).1=p:=by
 unfold listR;rw [List.mem_filter,decide_eq_true_eq]
theorem listR_del (C:Vs) (rs:List Rw) (id:Int) (p:Nat):listR C (delRw rs id) p=delRw (listR C rs p) id:=by
 unfold listR delRw
 rw [List.filter_filter,List.filter_filter]
 congr 1
 funext r
 rw [Bool.and_comm]
theorem del_self {rs:List Rw} {id:Int} (h:∀ r ∈ rs,r.1 ≠ id):delRw rs id=rs:=by
 unfold delRw
 rw [List.filter_eq_self]
 intro r hr
 simp [h r hr]
theorem ins_split {rs:List Rw} {r:Rw} (h:Ris rs):insRw rs r=rs.filter (fun y=>decide (y.1 < r.1)) ++ r :: rs.filter (fun y=>!decide (y.1 < r.1)):=by
 unfold insRw
 obtain ⟨a,b⟩:=split_lt r.1 h
 rw [a,b]
theorem listR_ins {C:Vs} {rs:List Rw} {r:Rw} (h:Ris rs) (p:Nat):listR C (insRw rs r) p=if (nearP C r.2).1=p then insRw (listR C rs p) r else listR C rs p:=by
 have e1:∀ f:Rw->Bool,(rs.filter f).filter (fun r=>decide ((nearP C r.2).1=p))=(listR C rs p).filter f:=fun f=>by
  unfold listR
  rw [List.filter_filter,List.filter_filter]
  congr 1
  funext r
  rw [Bool.and_comm]
 have hl:=listR_ris (C:=C) p h
 by_cases hp:(nearP C r.2).1=p
 ·rw [if_pos hp,ins_split h,ins_split hl]
  conv=>lhs;unfold listR
  rw [List.filter_append,List.filter_cons_of_pos (by rw [hp];exact decide_eq_true rfl),e1,e1]
 ·rw [if_neg hp,ins_split h]
  conv=>lhs;unfold listR
  rw [List.filter_append,List.filter_cons_of_neg (by rw [decide_eq_true_eq];exact hp),e1,e1]
  obtain ⟨a,b⟩:=split_lt r.1 hl
  rw [<- a,<- b,List.take_append_drop]
theorem listR_sub (C:Vs) (rs:List Rw) (p:Nat):(listR C rs p).Sublist rs:=List.filter_sublist
theorem srt_ris {rs:List Rw} (h:Ris rs):srt (idsOf rs)=idsOf rs:=by
 unfold srt
 refine List.mergeSort_of_pairwise ?_
 unfold idsOf
 rw [List.pairwise_map]
 refine h.imp ?_
 intro a b hab
 simp only [decide_eq_true_eq]
 omega
theorem ris_nodup {rs:List Rw} (h:Ris rs):rs.Nodup:=h.imp fun hab e=>by rw [e] at hab;omega
theorem nd_perm {α:Type} [DecidableEq α]:∀ {l m:List α},l.Nodup->m.Nodup->(∀ x,x ∈ l ↔ x ∈ m)->l.Perm m
 | [],m,_,_,h=>by
  cases m with
  | nil=>exact List.Perm.refl _
  | cons a r=>exact absurd ((h a).2 List.mem_cons_self) (by simp)
 | x :: r,m,hl,hm,h=>by
  have hx:x ∈ m:=(h x).1 List.mem_cons_self
  refine List.Perm.trans ?_ (List.perm_cons_erase hx).symm
  refine (nd_perm (List.nodup_cons.1 hl).2 (hm.erase x) (fun y=>?_)).cons x
  constructor
  ·intro hy
   have hyx:y ≠ x:=fun e=>(List.nodup_cons.1 hl).1 (e ▸ hy)
   exact (List.mem_erase_of_ne hyx).2 ((h y).1 (List.mem_cons_of_mem _ hy))
  ·intro hy
   have hyx:y ≠ x:=fun e=>by subst e;exact (List.Nodup.not_mem_erase hm) hy
   rcases List.mem_cons.1 ((h y).2 (List.mem_of_mem_erase hy)) with e | e
   ·exact absurd e hyx
   ·exact e
theorem lists_perm {C:Vs} {rs:List Rw} (h:Ris rs) {ks:List Int} (nd:ks.Nodup) (hk:∀ x:Int,x ∈ ks ↔ 0<=x/\listR C rs x.toNat ≠ []):(ks.flatMap fun x=>listR C rs x.toNat).Perm rs:=by
 refine nd_perm ?_ (ris_nodup h) (fun r=>?_)
 ·refine List.pairwise_flatMap.2 ⟨fun x _=>ris_nodup (listR_ris _ h),?_⟩
  refine List.Pairwise.imp_of_mem ?_ nd
  intro a b ha hb hab r h1 r' h2 e
  subst e
  have e1:=(mem_listR.1 h1).2
  have e2:=(mem_listR.1 h2).2
  have:=(hk a).1 ha
  have:=(hk b).1 hb
  exact hab (by omega)
 ·rw [List.mem_flatMap]
  constructor
  ·rintro ⟨x,_,hx⟩
   exact (mem_listR.1 hx).1
  ·intro hr
   have hm:r ∈ listR C rs (nearP C r.2).1:=mem_listR.2 ⟨hr,rfl⟩
   refine ⟨((nearP C r.2).1:Int),(hk _).2 ⟨by omega,?_⟩,by simpa using hm⟩
   simp only [Int.toNat_natCast]
   exact List.ne_nil_of_mem hm
theorem ballE_zero {c:List Int} {R:List Rw} {m:Nat} (hc:chk c (m:Int)=0) (h:RowsOk R (m:Int)):ballE c R=0:=by
 have hl:=(chk_ok hc).2.2.1
 unfold ballE
 rw [<- hl,if_pos hc]
 exact idsE_zero.2 h
theorem ballR_of {c:List Int} {R:List Rw} {m:Nat} (hc:chk c (m:Int)=0) (h:RowsOk R (m:Int)) (hr:Ris R):ballR c R=⟨3,c,[],radN c R R.length,idsOf R⟩:=by
 unfold ballR
 rw [if_pos (ballE_zero hc h),srt_ris hr]
end Go.Proofs.YtcipdampcmfmaaaGreat

namespace Go.Proofs.YtcipdampcmfmaaaGreat
open Go.RowKit Go.Sort Go.Maps
theorem own_kpI {S:Nat->Prop} {w w':World} {B:Nat} {v:Value} {l:List Int} (h:Own w B v l) (k:Tk.Kp S w w') (hn:∀ g,v.ownBlock=some g->¬ S g):Own w' B v l:=by
 refine ⟨h.1,?_⟩
 rcases h.2 with h1 | ⟨g,cap,cur,e,hB,hh,r⟩
 ·exact .inl h1
 ·subst e
  exact .inr ⟨g,cap,cur,rfl,hB,by rw [k.block g (Array.getElem?_eq_some_iff.1 hh).1 (hn g rfl)];exact hh,r⟩
theorem ownR_kp {S:Nat->Prop} {w w':World} {B n:Nat} {v:Value} {xs:List Value} (h:w.ownsRow B 43 2 v n xs) (k:Tk.Kp S w w') (hn:∀ g,v.ownBlock=some g->¬ S g):w'.ownsRow B 43 2 v n xs:=by
 refine ⟨h.1,?_⟩
 rcases h.2 with h1 | ⟨g,cap,cur,e,hB,hh,r⟩
 ·exact .inl h1
 ·subst e
  exact .inr ⟨g,cap,cur,rfl,hB,by rw [k.block g (Array.getElem?_eq_some_iff.1 hh).1 (hn g rfl)];exact hh,r⟩
def NoInt (w:World) (S:Nat->Prop):Prop:=∀ k,S k->∀ cur s,w.heap[k]? ≠ some (.cells cur 3 s)
theorem own_noint {S:Nat->Prop} {w w':World} {B:Nat} {v:Value} {l:List Int} (h:Own w B v l) (k:Tk.Kp S w w') (hS:NoInt w S):Own w' B v l:=by
 refine own_kpI h k (fun g hg hs=>?_)
 rcases h.2 with ⟨rfl,_⟩ | ⟨g',cap,cur,e,hB,hh,_⟩
 ·cases hg
 ·subst e
  cases hg
  exact hS _ hs _ _ hh
abbrev IqT:Nat->Prop:=fun _=>True
def Up (Iq:Nat->Prop) (w:World):Prop:=∀ k,w.heap.size<=k->Iq k
theorem upT (w:World):Up IqT w:=fun _ _=>trivial
theorem Up.le {Iq:Nat->Prop} {w w':World} (h:Up Iq w) (s:w.heap.size<=w'.heap.size):Up Iq w':=fun k hk=>h k (Nat.le_trans s hk)
theorem Up.gb {Iq:Nat->Prop} {w w':World} (h:Up Iq w) (g:Gb w w'):Up Iq w':=h.le g.size
structure OwnQ (Iq:Nat->Prop) (w:World) (v:Value) (l:List Int):Prop where
 own:Own w 0 v l
 inn:∀ g,v.ownBlock=some g->Iq g
theorem OwnQ.rd {Iq:Nat->Prop} {w:World} {v:Value} {l:List Int} (h:OwnQ Iq w v l):RdI w v l:=h.own.rd
theorem OwnQ.gb {Iq:Nat->Prop} {w w':World} {v:Value} {l:List Int} (h:OwnQ Iq w v l) (g:Gb w w'):OwnQ Iq w' v l:=⟨h.own.gb g,h.inn⟩
theorem OwnQ.new {Iq:Nat->Prop} {w w':World} {B:Nat} {v:Value} {l:List Int} (h:Own w' B v l) (up:Up Iq w) (hB:w.heap.size<=B):OwnQ Iq w' v l:=⟨h.mono (Nat.zero_le _),fun g e=>up g (Nat.le_trans hB (World.ownsRow.lt h g e).1)⟩
def NoI (Iq:Nat->Prop) (w:World) (S:Nat->Prop):Prop:=∀ k,S k->Iq k->∀ cur s,w.heap[k]? ≠ some (.cells cur 3 s)
theorem NoI.of {Iq:Nat->Prop} {w:World} {S:Nat->Prop} (h:NoInt w S):NoI Iq w S:=fun k hk _=>h k hk
theorem NoI.off {Iq:Nat->Prop} {w:World} {S:Nat->Prop} (h:∀ k,S k->¬ Iq k):NoI Iq w S:=fun k hk hi=>absurd hi (h k hk)
theorem ownq_noi {Iq S:Nat->Prop} {w w':World} {v:Value} {l:List Int} (h:OwnQ Iq w v l) (k:Tk.Kp S w w') (hS:NoI Iq w S):OwnQ Iq w' v l:=by
 refine ⟨own_kpI h.own k (fun g hg hs=>?_),h.inn⟩
 rcases h.own.2 with ⟨rfl,_⟩ | ⟨g',cap,cur,e,hB,hh,_⟩
 ·cases hg
 ·have hi:=h.inn g hg
  subst e
  cases hg
  exact hS _ hs hi _ _ hh
theorem ownq_noint {Iq S:Nat->Prop} {w w':World} {v:Value} {l:List Int} (h:OwnQ Iq w v l) (k:Tk.Kp S w w') (hS:NoInt w S):OwnQ Iq w' v l:=ownq_noi h k (NoI.of hS)
structure OwnRs (Iq:Nat->Prop) (w:World) (v:Value) (d:List Rt):Prop where
 row:w.ownsRow 0 43 2 v d.length (d.flatMap encR)
 vec:∀ x ∈ d,OwnQ Iq w x.2.1 x.2.2
 up:Up Iq w
theorem OwnRs.kq {Iq S:Nat->Prop} {w w':World} {v:Value} {d:List Rt} (h:OwnRs Iq w v d) (k:Tk.Kp S w w') (hS:NoI Iq w S) (hn:∀ g,v.ownBlock=some g->¬ S g):OwnRs Iq w' v d :=
 ⟨ownR_kp h.row k hn,fun x hx=>ownq_noi (h.vec x hx) k hS,h.up.le k.size⟩
theorem OwnRs.kp {Iq:Nat->Prop} {S:Nat->Prop} {w w':World} {v:Value} {d:List Rt} (h:OwnRs Iq w v d) (k:Tk.Kp S w w') (hS:NoInt w S) (hn:∀ g,v.ownBlock=some g->¬ S g):OwnRs Iq w' v d :=
 h.kq k (NoI.of hS) hn
theorem OwnQ.wk {Iq Iq':Nat->Prop} {w:World} {v:Value} {l:List Int} (h:OwnQ Iq w v l) (hi:∀ k,k < w.heap.size->Iq k->Iq' k):OwnQ Iq' w v l:=⟨h.own,fun g e=>hi g (World.ownsRow.lt h.own g e).2 (h.inn g e)⟩
theorem OwnQ.lift {Iq Iq':Nat->Prop} {w w':World} {v:Value} {l:List Int} (h:OwnQ Iq w v l) (g:Gb w w') (hi:∀ k,k < w.heap.size->Iq k->Iq' k):OwnQ Iq' w' v l:=⟨h.own.gb g,fun b e=>hi b (World.ownsRow.lt h.own b e).2 (h.inn b e)⟩
theorem kpF {w w':World} (g:Gb w w'):Tk.Kp (fun _=>False) w w':=⟨g.os,g.tape,g.output,g.size,fun k hk _=>g.block k hk⟩
theorem noF (w:World):NoInt w (fun _=>False):=fun _ h=>h.elim
abbrev Loc:=Nat × Nat × Nat
def Apart (a b:Loc):Prop:=a.1 ≠ b.1 ∨ a.2.1 + a.2.2 * 2<=b.2.1 ∨ b.2.1 + b.2.2 * 2<=a.2.1
structure LsAt (Iq:Nat->Prop) (w:World) (c:List Int) (R:List Rw) (v:Value) (G:Loc) (d:List Rt) (vl vh vi:Value):Prop where
 val:v=lv (ballR c R) vl vh vi (.slice (some ⟨G.1,G.2.1,none⟩) d.length G.2.2)
 rows:d.map rwR=R
 pc:PcR w G.1 G.2.1 d.length G.2.2 (d.flatMap encR)
 vec:∀ x ∈ d,OwnQ Iq w x.2.1 x.2.2
 low:OwnQ Iq w vl (ballR c R).L
 high:OwnQ Iq w vh (ballR c R).H
 ids:OwnQ Iq w vi (ballR c R).I
def ArQ (Iq:Nat->Prop) (w:World) (u:Value) (l:List Int):Prop:=∃ g cap,u=.slice (some ⟨g,0,none⟩) l.length cap/\Iq g/\Rn.Arr w g l.length cap (fun t=>l[t]!)
theorem ArQ.rd {Iq:Nat->Prop} {w:World} {u:Value} {l:List Int} (h:ArQ Iq w u l):RdI w u l:=by
 obtain ⟨g,cap,rfl,_,a⟩:=h
 exact arr_rd a rfl (fun _ _=>rfl)
theorem ArQ.blk {Iq Iq':Nat->Prop} {w w':World} {u:Value} {l:List Int} (h:ArQ Iq w u l) (e:∀ g,g < w.heap.size->Iq g->(∃ cur,w.heap[g]? = some (.cells cur 3 (0,0)))->Iq' g/\w'.heap[g]? = w.heap[g]?):ArQ Iq' w' u l:=by
 obtain ⟨g,cap,e1,hi,a⟩:=h
 have hl:=a.lt
 obtain ⟨cur,hc,r⟩:=a
 obtain ⟨i',e'⟩:=e g hl hi ⟨cur,hc⟩
 exact ⟨g,cap,e1,i',cur,e'.trans hc,r⟩
theorem arq_noi {Iq S:Nat->Prop} {w w':World} {v:Value} {l:List Int} (h:ArQ Iq w v l) (k:Tk.Kp S w w') (hS:NoI Iq w S):ArQ Iq w' v l :=
 h.blk (fun g hg hi ⟨_,hc⟩=>⟨hi,k.block g hg (fun hs=>hS g hs hi _ _ hc)⟩)
theorem ArQ.wk {Iq Iq':Nat->Prop} {w:World} {v:Value} {l:List Int} (h:ArQ Iq w v l) (hi:∀ k,k < w.heap.size->Iq k->Iq' k):ArQ Iq' w v l:=h.blk (fun g hg hi' _=>⟨hi g hg hi',rfl⟩)
theorem ArQ.lift {Iq Iq':Nat->Prop} {w w':World} {v:Value} {l:List Int} (h:ArQ Iq w v l) (g:Gb w w') (hi:∀ k,k < w.heap.size->Iq k->Iq' k):ArQ Iq' w' v l:=h.blk (fun b hg hi' _=>⟨hi b hg hi',g.block b hg⟩)
structure CenQ (Iq:Nat->Prop) (w:World) (gc:Nat) (C:Vs):Prop where
 blk:∃ cur:Array Value,w.heap[gc]? = some (.cells cur 41 (0,0))/\C.length<=cur.size/\∀ i,i < C.length->∃ u,cur[i]? = some u/\ArQ Iq w u C[i]!
structure LstM (Iq:Nat->Prop) (w:World) (C:Vs) (rs:List Rw) (ks:List Int) (f:Int->Value) (G:Int->Loc):Prop where
 keys:∀ x:Int,x ∈ ks ↔ 0<=x/\listR C rs x.toNat ≠ []
 at_:∀ x ∈ ks,∃ d vl vh vi,LsAt Iq w C[x.toNat]! (listR C rs x.toNat) (f x) (G x) d vl vh vi
 apart:∀ x ∈ ks,∀ y ∈ ks,x ≠ y->Apart (G x) (G y)
def TreeAt (Iq:Nat->Prop) (w:World) (tb m:Nat) (C:Vs) (rs:List Rw) (F:List Nat):Prop:=∃ (gc cc lb pb:Nat) (ks pk:List Int) (f:Int->Value) (pf:Int->Int) (G:Int->Loc),
 w.heap[tb]? = some (.cells #[.int .i64 (m:Int),.slice (some ⟨gc,0,none⟩) C.length cc,.map (some lb),.map (some pb)] 90 (0,0)) /\
 CenQ Iq w gc C/\MapA Tryz.prog 3 w lb ks f/\MapA Tryz.prog 3 w pb pk (fun x=>.int .i64 (pf x))/\LstM Iq w C rs ks f G/\(∀ x,x ∈ pk ↔ x ∈ idsOf rs)/\(∀ r ∈ rs,pf r.1=((nearP C r.2).1:Int)) /\
 Ris rs/\RowsOk rs (m:Int)/\(VsOk C (m:Int)/\1<=C.length/\C.length<=64)/\F=tb :: gc :: lb :: pb :: ks.map (fun x=>(G x).1)/\((1<=m/\m<=64)/\lb ≠ pb)/\Up Iq w
theorem LsAt.kq {Iq S:Nat->Prop} {w w':World} {c:List Int} {R:List Rw} {v:Value} {G:Loc} {d:List Rt} {vl vh vi:Value} (h:LsAt Iq w c R v G d vl vh vi) (k:Tk.Kp S w w') (hS:NoI Iq w S) (hn:¬ S G.1):LsAt Iq w' c R v G d vl vh vi :=
 ⟨h.val,h.rows,h.pc.blk (k.block _ h.pc.lt hn),fun x hx=>ownq_noi (h.vec x hx) k hS,ownq_noi h.low k hS,ownq_noi h.high k hS,ownq_noi h.ids k hS⟩
theorem CenQ.kq {Iq S:Nat->Prop} {w w':World} {gc:Nat} {C:Vs} (h:CenQ Iq w gc C) (k:Tk.Kp S w w') (hS:NoI Iq w S) (hn:¬ S gc):CenQ Iq w' gc C:=by
 obtain ⟨cur,e,hl,hu⟩:=h.blk
 refine ⟨cur,by rw [k.block _ (Array.getElem?_eq_some_iff.1 e).1 hn];exact e,hl,fun i hi=>?_⟩
 obtain ⟨u,e1,e2⟩:=hu i hi
 exact ⟨u,e1,arq_noi e2 k hS⟩
theorem CenQ.rd {Iq:Nat->Prop} {w:World} {gc:Nat} {C:Vs} (h:CenQ Iq w gc C) (cc:Nat):RdV w (.slice (some ⟨gc,0,none⟩) C.length cc) C:=by
 obtain ⟨cur,e,hl,hu⟩:=h.blk
 refine ⟨_,cc,rfl,fun i hi=>?_⟩
 obtain ⟨u,e1,e2⟩:=hu i hi
 exact ⟨gc,0,u,rfl,by rw [Nat.zero_add];exact cell_cur e e1,e2.rd⟩
theorem LstM.kq {Iq S:Nat->Prop} {w w':World} {C:Vs} {rs:List Rw} {ks:List Int} {f:Int->Value} {G:Int->Loc} (h:LstM Iq w C rs ks f G) (k:Tk.Kp S w w') (hS:NoI Iq w S) (hn:∀ x ∈ ks,¬ S (G x).1):LstM Iq w' C rs ks f G :=
 ⟨h.keys,fun x hx=>by
  obtain ⟨d,vl,vh,vi,a⟩:=h.at_ x hx
  exact ⟨d,vl,vh,vi,a.kq k hS (hn x hx)⟩,h.apart⟩
theorem TreeAt.kq {Iq S:Nat->Prop} {w w':World} {tb m:Nat} {C:Vs} {rs:List Rw} {F:List Nat} (h:TreeAt Iq w tb m C rs F) (k:Tk.Kp S w w') (hS:NoI Iq w S) (hF:∀ x ∈ F,¬ S x):TreeAt Iq w' tb m C rs F:=by
 obtain ⟨gc,cc,lb,pb,ks,pk,f,pf,G,h1,h2,h3,h4,h5,h6,h7,h8,h9,h10,rfl,h12,h13⟩:=h
 refine ⟨gc,cc,lb,pb,ks,pk,f,pf,G,?_,h2.kq k hS (hF gc (by simp)),h3.same (k.block _ h3.lt (hF lb (by simp))),h4.same (k.block _ h4.lt (hF pb (by simp))),h5.kq k hS (fun x hx=>hF _ (by simp only [List.mem_cons,List.mem_map];exact .inr (.inr (.inr (.inr ⟨x,hx,rfl⟩))))),h6,h7,h8,h9,h10,rfl,h12,h13.le k.size⟩
 rw [k.block tb (Array.getElem?_eq_some_iff.1 h1).1 (hF tb (by simp))];exact h1
theorem TreeAt.kp {Iq:Nat->Prop} {S:Nat->Prop} {w w':World} {tb m:Nat} {C:Vs} {rs:List Rw} {F:List Nat} (h:TreeAt Iq w tb m C rs F) (k:Tk.Kp S w w') (hS:NoInt w S) (hF:∀ x ∈ F,¬ S x):TreeAt Iq w' tb m C rs F:=h.kq k (NoI.of hS) hF
theorem TreeAt.gb {Iq:Nat->Prop} {w w':World} {tb m:Nat} {C:Vs} {rs:List Rw} {F:List Nat} (h:TreeAt Iq w tb m C rs F) (g:Gb w w'):TreeAt Iq w' tb m C rs F:=h.kp (kpF g) (noF _) (fun _ _ h=>h)
theorem TreeAt.wk {Iq Iq':Nat->Prop} {w:World} {tb m:Nat} {C:Vs} {rs:List Rw} {F:List Nat} (h:TreeAt Iq w tb m C rs F) (hi:∀ k,k < w.heap.size->Iq k->Iq' k) (up:Up Iq' w):TreeAt Iq' w tb m C rs F:=by
 obtain ⟨gc,cc,lb,pb,ks,pk,f,pf,G,h1,h2,h3,h4,h5,h6,h7,h8,h9,h10,rfl,h12,h13⟩:=h
 refine ⟨gc,cc,lb,pb,ks,pk,f,pf,G,h1,⟨?_⟩,h3,h4,⟨h5.keys,fun x hx=>?_,h5.apart⟩,h6,h7,h8,h9,h10,rfl,h12,up⟩
 ·obtain ⟨cur,e,hl,hu⟩:=h2.blk
  refine ⟨cur,e,hl,fun i hi'=>?_⟩
  obtain ⟨u,e1,e2⟩:=hu i hi'
  exact ⟨u,e1,e2.wk hi⟩
 ·obtain ⟨d,vl,vh,vi,a⟩:=h5.at_ x hx
  exact ⟨d,vl,vh,vi,a.val,a.rows,a.pc,fun y hy=>(a.vec y hy).wk hi,a.low.wk hi,a.high.wk hi,a.ids.wk hi⟩
theorem TreeAt.lift {Iq Iq':Nat->Prop} {w w':World} {tb m:Nat} {C:Vs} {rs:List Rw} {F:List Nat} (h:TreeAt Iq w tb m C rs F) (g:Gb w w') (hi:∀ k,k < w.heap.size->Iq k->Iq' k) (up:Up Iq' w'):TreeAt Iq' w' tb m C rs F:=by
 have h':=h.wk (Iq':=fun k=>Iq k ∨ w.heap.size<=k) (fun k _ hk=>.inl hk) (fun k hk=>.inr hk)
 obtain ⟨gc,cc,lb,pb,ks,pk,f,pf,G,h1,h2,h3,h4,h5,h6,h7,h8,h9,h10,rfl,h12,h13⟩:=h
 have h3':=h3.same (g.block _ h3.lt)
 have h4':=h4.same (g.block _ h4.lt)
 refine ⟨gc,cc,lb,pb,ks,pk,f,pf,G,?_,⟨?_⟩,h3',h4',⟨h5.keys,fun x hx=>?_,h5.apart⟩,h6,h7,h8,h9,h10,rfl,h12,up⟩
 ·rw [g.block tb (Array.getElem?_eq_some_iff.1 h1).1];exact h1
 ·obtain ⟨cur,e,hl,hu⟩:=h2.blk
  refine ⟨cur,by rw [g.block _ (Array.getElem?_eq_some_iff.1 e).1];exact e,hl,fun i hi'=>?_⟩
  obtain ⟨u,e1,e2⟩:=hu i hi'
  exact ⟨u,e1,e2.lift g hi⟩
 ·obtain ⟨d,vl,vh,vi,a⟩:=h5.at_ x hx
  exact ⟨d,vl,vh,vi,a.val,a.rows,a.pc.blk (g.block _ a.pc.lt),fun y hy=>(a.vec y hy).lift g hi,a.low.lift g hi,a.high.lift g hi,a.ids.lift g hi⟩
theorem TreeAt.ris {Iq:Nat->Prop} {w:World} {tb m:Nat} {C:Vs} {rs:List Rw} {F:List Nat} (h:TreeAt Iq w tb m C rs F):Ris rs:=by
 obtain ⟨gc,cc,lb,pb,ks,pk,f,pf,G,h1,h2,h3,h4,h5,h6,h7,h8,h9⟩:=h
 exact h8
theorem TreeAt.up {Iq:Nat->Prop} {w:World} {tb m:Nat} {C:Vs} {rs:List Rw} {F:List Nat} (h:TreeAt Iq w tb m C rs F):Up Iq w:=by
 obtain ⟨gc,cc,lb,pb,ks,pk,f,pf,G,h1,h2,h3,h4,h5,h6,h7,h8,h9,h10,h11,h12,h13⟩:=h
 exact h13
theorem TreeAt.rok {Iq:Nat->Prop} {w:World} {tb m:Nat} {C:Vs} {rs:List Rw} {F:List Nat} (h:TreeAt Iq w tb m C rs F):RowsOk rs (m:Int)/\1<=m/\m<=64:=by
 obtain ⟨gc,cc,lb,pb,ks,pk,f,pf,G,h1,h2,h3,h4,h5,h6,h7,h8,h9,h10,h11,h12,h13⟩:=h
 exact ⟨h9,h12.1⟩
theorem TreeAt.mem {Iq:Nat->Prop} {w:World} {tb m:Nat} {C:Vs} {rs:List Rw} {F:List Nat} (h:TreeAt Iq w tb m C rs F):tb ∈ F/\∀ y ∈ F,y < w.heap.size:=by
 obtain ⟨gc,cc,lb,pb,ks,pk,f,pf,G,h1,h2,h3,h4,h5,h6,h7,h8,h9,h10,rfl,h12,h13⟩:=h
 refine ⟨by simp,fun y hy=>?_⟩
 simp only [List.mem_cons,List.mem_map] at hy
 rcases hy with rfl | rfl | rfl | rfl | ⟨x,hx,rfl⟩
 ·exact (Array.getElem?_eq_some_iff.1 h1).1
 ·obtain ⟨cur,e,_⟩:=h2.blk
  exact (Array.getElem?_eq_some_iff.1 e).1
 ·exact h3.lt
 ·exact h4.lt
 ·obtain ⟨d,vl,vh,vi,a⟩:=h5.at_ x hx
  exact a.pc.lt
theorem TreeAt.noint {Iq:Nat->Prop} {w:World} {tb m:Nat} {C:Vs} {rs:List Rw} {F:List Nat} (h:TreeAt Iq w tb m C rs F):NoInt w (fun k=>k ∈ F):=by
 obtain ⟨gc,cc,lb,pb,ks,pk,f,pf,G,h1,h2,h3,h4,h5,h6,h7,h8,h9,h10,rfl,h12,h13⟩:=h
 intro y hy cur s e
 simp only [List.mem_cons,List.mem_map] at hy
 rcases hy with rfl | rfl | rfl | rfl | ⟨x,hx,rfl⟩
 ·rw [h1] at e;simp at e
 ·obtain ⟨cur',e',_⟩:=h2.blk
  rw [e'] at e;simp at e
 ·obtain ⟨es,cl,e'⟩:=h3.isMap
  rw [e'] at e;simp at e
 ·obtain ⟨es,cl,e'⟩:=h4.isMap
  rw [e'] at e;simp at e
 ·obtain ⟨d,vl,vh,vi,a⟩:=h5.at_ x hx
  obtain ⟨cur',e',_⟩:=a.pc
  rw [e'] at e;simp at e
def TOut (Iq:Nat->Prop) (w:World) (tb m:Nat) (C:Vs) (F:List Nat) (rs:List Rw) (w':World):Prop:=∃ F',TreeAt Iq w' tb m C rs F'/\(∀ y ∈ F',y ∈ F ∨ w.heap.size<=y)/\Tk.Kp (fun k=>k ∈ F) w w'
end Go.Proofs.YtcipdampcmfmaaaGreat
