import Derived.Test.YtcipdampcmfmaabGreatJa28
import Derived.Test.YtcipdampcmfmaabGreatJa14
import Derived.Test.YtcipdampcmfmaabGreatJa24
import Derived.Test.YtcipdampcmfmaabGreatJa20
import Derived.Test.YtcipdampcmfmaabGreatJa18
import Derived.Test.YtcipdampcmfmaabGreatJa29
import Derived.Test.YtcipdampcmfmaabGreatJa10
import Derived.Test.YtcipdampcmfmaabGreatJa9
namespace Go.Proofs.YtcipdampcmfmaabGreat
open Go.RowKit Go.Sort
def SoundQ (rs:List Rw) (q:List Int) (k:Nat) (a:Ans):Prop:=∃ srs,SoundP rs q k a srs
theorem ids_ndp {rs:List Rw} {q:List Int} (h:askE rs q=0):(idsOf rs).Nodup:=(askE_zero.1 h).2.ids
theorem rows_nd {rs:List Rw} {q:List Int} (h:askE rs q=0):rs.Nodup:=by
 have:=ids_ndp h
 unfold idsOf at this
 exact List.Pairwise.imp_of_mem (fun _ _ hne e=>hne (by rw [e])) (List.pairwise_map.1 this)
theorem row_one {rs:List Rw} {q:List Int} (h:askE rs q=0) {r r':Rw} (h1:r ∈ rs) (h2:r' ∈ rs) (e:r.1=r'.1):r=r':=by
 obtain ⟨i,hi',e1⟩:=List.mem_iff_getElem.1 h1
 obtain ⟨j,hj,e2⟩:=List.mem_iff_getElem.1 h2
 have:=ids_nd h hi' hj (by rw [getElem!_pos rs i hi',getElem!_pos rs j hj,e1,e2];exact e)
 rw [getElem!_pos rs i hi',getElem!_pos rs j hj,e1,e2] at this
 exact this
theorem ck_row {rs:List Rw} {q:List Int} (h:askE rs q=0) {r:Rw} (hr:r ∈ rs) {x:Reg}:ckB x r.2=0 ↔ ckR x (q.length:Int)=0:=by
 have h1:=((askE_zero.1 h).2.row r hr).2
 have h2:=(chk_ok h1).2.2.1
 unfold ckB
 rw [<- h2,h1]
 split
 ·rename_i h3;exact ⟨fun _=>h3,fun _=>rfl⟩
 ·exact Iff.rfl
theorem SoundQ.perm {rs:List Rw} {q:List Int} {k:Nat} {a:Ans} (h:SoundQ rs q k a):(allIds a).Perm (idsOf rs):=by
 obtain ⟨_,h⟩:=h;exact h.all
theorem cdn_hit (q:List Int) (r:Rw):dnH (hitOf q r)=dst q r.2:=by
 unfold dnH hitOf hi lo
 dsimp only
 omega
theorem chit_form {q:List Int} {l:List Rw} {k:Nat} {x:Tk.Ht} (h:x ∈ Tk.firsts k (hitsOf q l)):∃ r ∈ l,x=hitOf q r:=by
 have h1:x ∈ hitsOf q l:=by
  unfold Tk.firsts at h
  exact (Tk.srt_perm _).mem_iff.1 (List.mem_of_mem_take h)
 obtain ⟨r,hr,e⟩:=List.mem_map.1 h1
 exact ⟨r,hr,e.symm⟩
theorem cfirsts_more {k:Nat} {A:List Tk.Ht} (hk:(Tk.firsts k A).length=k):∀ (B:List Tk.Ht),(∀ x ∈ B,Tk.hlt x (Tk.firsts k A)[k - 1]! = false)->Tk.firsts k (A ++ B)=Tk.firsts k A:=by
 intro B
 induction B generalizing A with
 | nil=>intro _;rw [List.append_nil]
 | cons x r ih =>
  intro h
  have e:Tk.firsts k (A ++ [x])=Tk.firsts k A:=by
   rw [Tk.firsts_snoc]
   exact Tk.keep_no (Tk.firsts_srtd k A) hk (h x List.mem_cons_self)
  rw [show A ++ x :: r=(A ++ [x]) ++ r by simp,ih (by rw [e];exact hk) (by rw [e];exact fun y hy=>h y (List.mem_cons_of_mem _ hy)),e]
theorem cert_true {rs:List Rw} {q:List Int} {k:Nat} {a:Ans} (hask:askE rs q=0) (hk:1<=k) (h:SoundQ rs q k a) (hc:certB q k a=true):a.hits=Tk.firsts k (hitsOf q rs):=by
 obtain ⟨srs,h⟩:=h
 have hq:=(askE_zero.1 hask).1
 have hsub:∀ r ∈ rs,r ∉ srs->∃ x ∈ a.rest,r.1 ∈ x.I:=fun r hr hn=>by
  have hm:r.1 ∈ allIds a:=h.all.mem_iff.2 (List.mem_map.2 ⟨r,hr,rfl⟩)
  rcases List.mem_append.1 hm with hm | hm
  ·rw [<- h.ids] at hm
   obtain ⟨r',hr',e⟩:=List.mem_map.1 hm
   rw [row_one hask (h.mem r' hr') hr e] at hr'
   exact absurd hr' hn
  ·obtain ⟨x,hx,hi'⟩:=List.mem_flatMap.1 hm
   exact ⟨x,hx,hi'⟩
 have hs:srs.Nodup:=rows_nd (h.ask hask)
 have hp:rs.Perm (srs ++ rs.filter fun r=>decide (r ∉ srs)):=by
  refine nd_perm (rows_nd hask) (List.nodup_append.2 ⟨hs,(rows_nd hask).filter _,fun x hx y hy e=>?_⟩) (fun r=>?_)
  ·subst e
   have:=(List.mem_filter.1 hy).2
   simp only [decide_eq_true_eq] at this
   exact this hx
  ·rw [List.mem_append,List.mem_filter,decide_eq_true_eq]
   constructor
   ·intro hr
    by_cases hm:r ∈ srs
    ·exact Or.inl hm
    ·exact Or.inr ⟨hr,hm⟩
   ·rintro (hr | hr)
    ·exact h.mem r hr
    ·exact hr.1
 rw [h.hits,Tk.firsts_perm k (hitsOf_perm q hp),hitsOf_app]
 unfold certB at hc
 simp only [Bool.or_eq_true,Bool.and_eq_true,List.isEmpty_iff,decide_eq_true_eq,List.all_eq_true] at hc
 rcases hc with hc | ⟨hl,hfar⟩
 ·have:rs.filter (fun r=>decide (r ∉ srs))=[]:=by
   rw [List.filter_eq_nil_iff]
   intro r hr hn
   simp only [decide_eq_true_eq] at hn
   obtain ⟨x,hx,_⟩:=hsub r hr hn
   rw [hc] at hx;simp at hx
  rw [this]
  simp [hitsOf]
 ·symm
  rw [h.hits] at hl hfar
  have hlen:(Tk.firsts k (hitsOf q srs)).length=k:=by
   rw [Tk.firsts_len] at hl ⊢
   omega
  refine cfirsts_more hlen _ (fun y hy=>?_)
  obtain ⟨r,hr,rfl⟩:=List.mem_map.1 hy
  obtain ⟨hr1,hr2⟩:=List.mem_filter.1 hr
  simp only [decide_eq_true_eq] at hr2
  obtain ⟨x,hx,hxi⟩:=hsub r hr1 hr2
  obtain ⟨g1,g2,g3,g4⟩:=h.reg x hx
  obtain ⟨row,hrow,e,hin⟩:=g4 _ hxi
  rw [row_one hask hrow hr1 e] at hin
  have hf:=hfar x hx
  have c1:ckB x r.2=0:=(ck_row hask hr1).2 g1
  have c2:ckB x q=0:=by unfold ckB;rw [if_pos g1];exact hq
  have h4:=bound_le c1 c2 hin
  have hl1:=(chk_ok hq).2.2.1
  have hl2:=(chk_ok ((askE_zero.1 hask).2.row r hr1).2).2.2.1
  have h5:bdV x q<=dst q r.2:=by rw [dst_comm (by omega)];exact h4
  have hm:(Tk.firsts k (hitsOf q srs))[k - 1]! ∈ Tk.firsts k (hitsOf q srs):=by
   have:k - 1 < (Tk.firsts k (hitsOf q srs)).length:=by rw [hlen];omega
   generalize Tk.firsts k (hitsOf q srs)=X at this ⊢
   rw [getElem!_pos X (k - 1) this];exact List.getElem_mem _
  obtain ⟨r',_,e'⟩:=chit_form hm
  rw [e'] at hf ⊢
  rw [cdn_hit] at hf
  have h6:dst q r'.2 < dst q r.2:=by omega
  cases hlt:Tk.hlt (hitOf q r) (hitOf q r') with
  | false=>rfl
  | true =>
   rcases (hlt_hit r.1 r'.1 (dst q r.2) (dst q r'.2)).1 hlt with h7 | ⟨h7,_⟩
   ·omega
   ·omega
def beyB (q:List Int) (k:Nat) (seen:List Rw) (r:Reg):Bool:=decide ((Tk.firsts k (hitsOf q seen)).length=k) && decide (dnH (Tk.firsts k (hitsOf q seen))[k - 1]! < bdV r q)
theorem hlt_dst {q:List Int} {r r':Rw} (h:Tk.hlt (hitOf q r) (hitOf q r')=false):dst q r'.2<=dst q r.2:=by
 refine Decidable.byContradiction fun hn=>?_
 have:Tk.hlt (hitOf q r) (hitOf q r')=true:=by
  rw [Tk.hlt_iff]
  unfold hitOf hi lo
  dsimp only [Tk.Ht.hi,Tk.Ht.lo,Tk.Ht.id]
  omega
 rw [h] at this
 cases this
theorem firsts_nearer {q:List Int} {k:Nat} (hk:1<=k) {A:List Rw} (x:Rw) (h:(Tk.firsts k (hitsOf q A)).length=k):(Tk.firsts k (hitsOf q (A ++ [x]))).length=k/\dnH (Tk.firsts k (hitsOf q (A ++ [x])))[k - 1]! <= dnH (Tk.firsts k (hitsOf q A))[k - 1]! := by
 have hl:(Tk.firsts k (hitsOf q (A ++ [x]))).length=k:=by
  rw [Tk.firsts_len,hitsOf_len] at h ⊢
  rw [List.length_append]
  omega
 refine ⟨hl,?_⟩
 have e:hitsOf q (A ++ [x])=hitsOf q A ++ [hitOf q x]:=by rw [hitsOf_app];rfl
 have m1:(Tk.firsts k (hitsOf q (A ++ [x])))[k - 1]! ∈ Tk.firsts k (hitsOf q (A ++ [x])):=by rw [getElem!_pos _ (k - 1) (by omega)];exact List.getElem_mem _
 have m2:(Tk.firsts k (hitsOf q A))[k - 1]! ∈ Tk.firsts k (hitsOf q A):=by rw [getElem!_pos _ (k - 1) (by omega)];exact List.getElem_mem _
 obtain ⟨r1,_,e1⟩:=chit_form m1
 obtain ⟨r2,_,e2⟩:=chit_form m2
 by_cases hx:Tk.hlt (hitOf q x) (Tk.firsts k (hitsOf q A))[k - 1]! = true
 ·have p:=Tk.keep_repl (m:=Tk.firsts k (hitsOf q A)) (x:=hitOf q x) (by omega) h hx
  rw [<- Tk.firsts_snoc,<- e] at p
  have hm:=p.mem_iff.1 m1
  have hw:Tk.hlt (Tk.firsts k (hitsOf q A))[k - 1]! (Tk.firsts k (hitsOf q (A ++ [x])))[k - 1]! = false:=by
   rcases List.mem_cons.1 hm with hm | hm
   ·rw [hm]
    cases hh:Tk.hlt (Tk.firsts k (hitsOf q A))[k - 1]! (hitOf q x) with
    | false=>rfl
    | true =>
     rw [Tk.hlt_iff] at hx hh
     omega
   ·exact Tk.last_worst (Tk.firsts_srtd k _) k h _ ((List.dropLast_sublist _).subset hm)
  rw [e1,e2] at hw ⊢
  rw [cdn_hit,cdn_hit]
  exact hlt_dst hw
 ·have hx':Tk.hlt (hitOf q x) (Tk.firsts k (hitsOf q A))[k - 1]! = false:=by simpa using hx
  have:Tk.firsts k (hitsOf q (A ++ [x]))=Tk.firsts k (hitsOf q A):=by
   rw [e,Tk.firsts_snoc]
   exact Tk.keep_no (Tk.firsts_srtd k _) h hx'
  rw [this]
  exact Nat.le_refl _
theorem beyB_more {q:List Int} {k:Nat} (hk:1<=k) {r:Reg}:∀ (B A:List Rw),beyB q k A r=true->beyB q k (A ++ B) r=true
 | [],A,h=>by rw [List.append_nil];exact h
 | x :: B,A,h=>by
  rw [show A ++ x :: B=(A ++ [x]) ++ B by simp]
  refine beyB_more hk B (A ++ [x]) ?_
  unfold beyB at h ⊢
  rw [Bool.and_eq_true,decide_eq_true_eq,decide_eq_true_eq] at h ⊢
  obtain ⟨h1,h2⟩:=firsts_nearer hk x h.1
  exact ⟨h1,Nat.lt_of_le_of_lt h2 h.2⟩
structure SV where
 seen:List Rw
 bud:Nat
 rest:List Reg
def cntV (q:List Int) (k:Nat) (c:List Int) (R:List Rw) (s:SV):Nat:=if beyB q k s.seen (ballR c R) then 0 else min s.bud R.length
def lefV (c:List Int) (R:List Rw) (n:Nat):Reg:=⟨3,(ballR c R).L,[],(ballR c R).R,(ballR c R).I.drop n⟩
def visV (q:List Int) (k:Nat) (c:List Int) (R:List Rw) (s:SV):SV :=
 ⟨s.seen ++ R.take (cntV q k c R s),s.bud - cntV q k c R s,if cntV q k c R s < R.length then s.rest ++ [lefV c R (cntV q k c R s)] else s.rest⟩
def runV (q:List Int) (k:Nat) (C:Vs) (rs:List Rw):List Nat->SV->SV
 | [],s=>s
 | p :: ps,s=>runV q k C rs ps (visV q k C[p]! (listR C rs p) s)
theorem visV_nil (q:List Int) (k:Nat) (c:List Int) (s:SV):visV q k c [] s=s:=by
 have:cntV q k c [] s=0:=by unfold cntV;split <;> simp
 unfold visV
 rw [this]
 simp
structure InvV (q:List Int) (k:Nat) (C:Vs) (rs:List Rw) (b:Nat) (ps:List Nat) (s:SV) (L:List (Reg × List Rw)):Prop where
 rest:s.rest=L.map Prod.fst
 rows:(s.seen ++ L.flatMap Prod.snd).Perm (ps.flatMap (listR C rs))
 bud:s.bud + s.seen.length=b
 far:s.bud=0 ∨ ∀ r ∈ s.rest,beyB q k s.seen r=true
 reg:∀ x ∈ L,x.2 ≠ []/\∃ p ∈ ps,∃ n,x.2=(listR C rs p).drop n/\x.1=lefV C[p]! (listR C rs p) n
theorem InvV.start (q:List Int) (k:Nat) (C:Vs) (rs:List Rw) (b:Nat):InvV q k C rs b [] ⟨[],b,[]⟩ []:=⟨rfl,List.Perm.refl _,by simp,.inr (fun r hr=>by cases hr),fun x hx=>by cases hx⟩
theorem InvV.next {q:List Int} {k:Nat} {C:Vs} {rs:List Rw} {b:Nat} {ps:List Nat} {s:SV} {L:List (Reg × List Rw)} (hk:1<=k) (h:InvV q k C rs b ps s L) (p:Nat) (hR:listR C rs p ≠ []->(ballR C[p]! (listR C rs p)).S=3):∃ L',InvV q k C rs b (ps ++ [p]) (visV q k C[p]! (listR C rs p) s) L':=by
 obtain ⟨n,hn⟩:∃ n,n=cntV q k C[p]! (listR C rs p) s:=⟨_,rfl⟩
 have hnl:n<=(listR C rs p).length/\n<=s.bud:=by
  rw [hn]
  unfold cntV
  split
  ·exact ⟨Nat.zero_le _,Nat.zero_le _⟩
  ·exact ⟨Nat.min_le_right _ _,Nat.min_le_left _ _⟩
 have key:∀ X:List Rw,(s.seen ++ (listR C rs p).take n ++ (L.flatMap Prod.snd ++ X)).Perm ((s.seen ++ L.flatMap Prod.snd) ++ ((listR C rs p).take n ++ X)):=fun X=>by
  rw [List.append_assoc,List.append_assoc]
  refine List.Perm.append_left _ ?_
  rw [<- List.append_assoc,<- List.append_assoc]
  exact List.Perm.append_right _ List.perm_append_comm
 have hm:∀ x ∈ L,x.2 ≠ []/\∃ p' ∈ ps ++ [p],∃ n,x.2=(listR C rs p').drop n/\x.1=lefV C[p']! (listR C rs p') n:=fun x hx=>by
  obtain ⟨h1,p',h2,r⟩:=h.reg x hx
  exact ⟨h1,p',List.mem_append_left _ h2,r⟩
 unfold visV
 rw [<- hn]
 by_cases hlt:n < (listR C rs p).length
 ·rw [if_pos hlt]
  refine ⟨L ++ [(lefV C[p]! (listR C rs p) n,(listR C rs p).drop n)],?_,?_,?_,?_,?_⟩
  ·dsimp only;rw [h.rest];simp
  ·dsimp only
   rw [List.flatMap_append,List.flatMap_append]
   simp only [List.flatMap_cons,List.flatMap_nil,List.append_nil]
   refine (key _).trans ?_
   rw [List.take_append_drop]
   exact h.rows.append_right _
  ·dsimp only
   rw [List.length_append,List.length_take]
   have:=h.bud
   omega
  ·dsimp only
   by_cases hb:s.bud - n=0
   ·exact .inl hb
   ·refine .inr fun r hr=>?_
    rcases List.mem_append.1 hr with hr | hr
    ·rcases h.far with h0 | h0
     ·omega
     ·exact beyB_more hk _ _ (h0 r hr)
    ·rw [List.mem_singleton] at hr
     subst hr
     have hbe:beyB q k s.seen (ballR C[p]! (listR C rs p))=true:=by
      cases hc:beyB q k s.seen (ballR C[p]! (listR C rs p)) with
      | true=>rfl
      | false =>
       unfold cntV at hn
       rw [hc] at hn
       simp only [Bool.false_eq_true,if_false] at hn
       omega
     refine beyB_more hk _ _ ?_
     have hS:=hR (fun e=>by rw [e] at hlt;simp at hlt)
     have e:bdV (lefV C[p]! (listR C rs p) n) q=bdV (ballR C[p]! (listR C rs p)) q:=by
      unfold bdV lefV
      dsimp only
      rw [hS]
      rfl
     unfold beyB at hbe ⊢
     rw [e]
     exact hbe
  ·intro x hx
   rcases List.mem_append.1 hx with hx | hx
   ·exact hm x hx
   ·rw [List.mem_singleton] at hx
    subst hx
    refine ⟨?_,p,by simp,n,rfl,rfl⟩
    dsimp only
    intro e
    have:=congrArg List.length e
    rw [List.length_drop] at this
    simp at this
    omega
 ·have hfull:(listR C rs p).take n=listR C rs p:=List.take_of_length_le (by omega)
  rw [if_neg hlt]
  refine ⟨L,h.rest,?_,?_,?_,hm⟩
  ·dsimp only
   rw [List.flatMap_append]
   simp only [List.flatMap_cons,List.flatMap_nil,List.append_nil]
   have:=key []
   rw [List.append_nil,List.append_nil] at this
   refine this.trans ?_
   rw [hfull]
   exact h.rows.append_right _
  ·dsimp only
   rw [List.length_append,List.length_take]
   have:=h.bud
   omega
  ·dsimp only
   rcases h.far with h0 | h0
   ·exact .inl (by omega)
   ·exact .inr fun r hr=>beyB_more hk _ _ (h0 r hr)
theorem InvV.run {q:List Int} {k:Nat} {C:Vs} {rs:List Rw} {b:Nat} (hk:1<=k) (hR:∀ p,listR C rs p ≠ []->(ballR C[p]! (listR C rs p)).S=3):∀ (qs ps:List Nat) (s:SV) (L:List (Reg × List Rw)),InvV q k C rs b ps s L->∃ L',InvV q k C rs b (ps ++ qs) (runV q k C rs qs s) L'
 | [],ps,s,L,h=>⟨L,by rw [List.append_nil];exact h⟩
 | p :: qs,ps,s,L,h=>by
  obtain ⟨L1,h1⟩:=h.next hk p (hR p)
  obtain ⟨L2,h2⟩:=InvV.run hk hR qs _ _ _ h1
  refine ⟨L2,?_⟩
  rw [show ps ++ p :: qs=(ps ++ [p]) ++ qs by simp]
  exact h2
def ansV (q:List Int) (k:Nat) (s:SV):Ans:=⟨Tk.firsts k (hitsOf q s.seen),srt (idsOf s.seen),s.rest⟩
structure GoodV (rs:List Rw) (q:List Int) (k b:Nat) (a:Ans):Prop where
 sound:SoundQ rs q k a
 le:a.seen.length<=b
 stop:a.seen.length=b ∨ a.seen.length=rs.length ∨ certB q k a=true
 lens:a.hits.length<=64/\a.seen.length<=512/\a.rest.length<=512/\∀ r ∈ a.rest,r.L.length<=64/\r.H.length<=64/\r.I.length<=512
 reg:∀ r ∈ a.rest,ckB r q=0/\r.R < 340282366920938463463374607431768211456
end Go.Proofs.YtcipdampcmfmaabGreat

namespace Go.Proofs.YtcipdampcmfmaabGreat
open Go.RowKit Go.Shelf Go.Sort Go.Maps
theorem heap_new (w:World) (o:Obj):(w.alloc o).heap[w.heap.size]? = some o:=Array.getElem?_push_size
theorem own_one {w:World} {B:Nat} {u:Value} {l:List Int} (h:Own w B u l):u.oneCell'=true:=by
 obtain ⟨a,c,rfl,_⟩:=h.rd
 rfl
theorem tne {W:World} {a b:Nat} {c c':Array Value} {t t':TypeId} {s s':Nat × Nat} (h1:W.heap[a]? = some (.cells c t s)) (h2:W.heap[b]? = some (.cells c' t' s')) (hne:t ≠ t'):a ≠ b:=by
 intro e
 subst e
 rw [h1] at h2
 injection h2 with h2
 injection h2 with _ h2 _
 exact hne h2
def Ty (W:World) (b:Nat) (t:TypeId):Prop:=∃ c s,W.heap[b]? = some (.cells c t s)
theorem Ty.ne {W:World} {a b:Nat} {t t':TypeId} (h1:Ty W a t) (h2:Ty W b t') (hne:t ≠ t'):a ≠ b:=by
 obtain ⟨_,_,h1⟩:=h1
 obtain ⟨_,_,h2⟩:=h2
 exact tne h1 h2 hne
theorem Ty.gb {W W':World} {b:Nat} {t:TypeId} (h:Ty W b t) (g:Gb W W'):Ty W' b t:=by
 obtain ⟨c,s,h⟩:=h
 exact ⟨c,s,by rw [g.block b (Array.getElem?_eq_some_iff.1 h).1];exact h⟩
theorem own_ty {W:World} {B n k:Nat} {t:TypeId} {v:Value} {xs:List Value} (h:W.ownsRow B t k v n xs) {g:Nat} (hg:v.ownBlock=some g):Ty W g t:=by
 rcases h.2 with ⟨rfl,_⟩ | ⟨g',cap,cur,rfl,_,hh,_⟩
 ·cases hg
 ·cases hg;exact ⟨cur,(0,0),hh⟩
theorem own_kpR {S:Nat->Prop} {w w':World} {B n k:Nat} {t:TypeId} {v:Value} {xs:List Value} (h:w.ownsRow B t k v n xs) (kp:Tk.Kp S w w') (hn:∀ g,v.ownBlock=some g->¬ S g):w'.ownsRow B t k v n xs:=by
 refine ⟨h.1,?_⟩
 rcases h.2 with h1 | ⟨g,cap,cur,e,hB,hh,r⟩
 ·exact .inl h1
 ·subst e
  exact .inr ⟨g,cap,cur,rfl,hB,by rw [kp.block g (Array.getElem?_eq_some_iff.1 hh).1 (hn g rfl)];exact hh,r⟩
theorem sortK_c {w:World} {base:Nat} {v:Value} {l:List Int} (h:Own w base v l) (hn:l.length<=100000) :
  Calls Tryz.prog 64 #[v] w fun e w'=>e=.returned (.tuple #[])/\Own w' base v (srt l)/\Tk.Kp (fun b=>v.ownBlock=some b) w w':=by
 rcases h.2 with ⟨rfl,h0⟩ | ⟨g,cap,cur,rfl,hg,hh,h1,h2,h3,h4⟩
 ·have hc:=Any.slices_Sort_int_none Tryz.laysSort none 0 w
  change Calls Tryz.prog 64 _ _ _ at hc
  refine hc.mono ?_
  rintro e w' ⟨rfl,e2⟩
  subst e2
  refine ⟨rfl,?_,Tk.Kp.refl _ _⟩
  have:l=[]:=List.eq_nil_of_length_eq_zero h0
  subst this
  rw [show srt []=[] by simp [srt]]
  exact own_nil _ _
 ·have hH:Holds (Value.int .i64) w g 0 l.toArray:=holds_of_blockI hh (by rw [Nat.mul_one] at h4;exact h4)
  have hc:=Any.slices_Sort_int Tryz.laysSort g 0 cap l w hH (Array.getElem?_eq_some_iff.1 hh).1 (by omega)
  change Calls Tryz.prog 64 _ _ _ at hc
  refine hc.mono ?_
  rintro e w' ⟨rfl,n,os,rfl⟩
  refine ⟨rfl,?_,?_⟩
  ·have:=ownsRow_sortedI (n:=n) (os:=os) (ts:=srt l) (srt_len l) hg hh h1 h2 h3
   unfold Own
   rw [srt_len];exact this
  ·exact (Tk.Kp.grown (grownBy_sortedI _)).mono (fun k _ e=>e.symm)
theorem Tryz.info_regn:(Tryz.prog.info? 98).map (fun i=>(i.zero,i.size,i.bytes))=some (some (.agg #[.int .i64 0,.slice none 0 0,.slice none 0 0,.int .u64 0,.int .u64 0,.slice none 0 0]),6,96):=by kernel_rfl
theorem info_regn:∃ i0,Tryz.prog.info? 98=some i0/\i0.zero=some (.agg #[.int .i64 0,.slice none 0 0,.slice none 0 0,.int .u64 0,.int .u64 0,.slice none 0 0])/\i0.size=6/\i0.bytes=96:=by
 have h:=Tryz.info_regn
 cases hi:Tryz.prog.info? 98 with
 | none=>rw [hi] at h;cases h
 | some i =>
  rw [hi] at h
  simp only [Option.map_some,Option.some.injEq,Prod.mk.injEq] at h
  exact ⟨i,rfl,h.1,h.2.1,h.2.2⟩
def RgQ (Jq:Nat->Prop) (W:World) (B:Nat) (v:Value) (l:List Reg):Prop:=∃ xs,W.ownsRow B 98 6 v l.length xs/\∀ i (_:i < l.length),∃ v1 v3,l[i].S=3/\l[i].H=[]/\xs[i * 6]? = some (.int .i64 3)/\xs[i * 6 + 1]? = some v1/\xs[i * 6 + 2]? = some (.slice none 0 0)/\xs[i * 6 + 3]? = some (.int .u64 (hi l[i].R))/\xs[i * 6 + 4]? = some (.int .u64 (lo l[i].R))/\xs[i * 6 + 5]? = some v3/\Own W B v1 l[i].L/\Own W B v3 l[i].I/\(∀ g,v1.ownBlock=some g->Jq g)/\(∀ g,v3.ownBlock=some g->Jq g)
theorem RgQ.kp {Jq S:Nat->Prop} {W W':World} {B:Nat} {v:Value} {l:List Reg} (h:RgQ Jq W B v l) (k:Tk.Kp S W W') (hS:∀ b,S b->Jq b->∀ cur s,W.heap[b]? ≠ some (.cells cur 3 s)) (hn:∀ g,v.ownBlock=some g->¬ S g):RgQ Jq W' B v l:=by
 obtain ⟨xs,h1,h2⟩:=h
 refine ⟨xs,own_kpR h1 k hn,fun i hi'=>?_⟩
 obtain ⟨v1,v3,s,r,a,b,c,d,e,f,o1,o3,j1,j3⟩:=h2 i hi'
 have key:∀ {u:Value} {x:List Int},Own W B u x->(∀ g,u.ownBlock=some g->Jq g)->Own W' B u x:=fun {u x} ho hj=>own_kpI ho k (fun g hg hs=>by
  obtain ⟨c,s,e⟩:=own_ty ho hg
  exact hS g hs (hj g hg) _ _ e)
 exact ⟨v1,v3,s,r,a,b,c,d,e,f,key o1 j1,key o3 j3,j1,j3⟩
theorem RgQ.gb {Jq:Nat->Prop} {W W':World} {B:Nat} {v:Value} {l:List Reg} (h:RgQ Jq W B v l) (g:Gb W W'):RgQ Jq W' B v l:=h.kp (kpF g) (fun _ h=>h.elim) (fun _ _ h=>h)
theorem RgQ.wk {Jq Jq':Nat->Prop} {W:World} {B:Nat} {v:Value} {l:List Reg} (h:RgQ Jq W B v l) (hi:∀ k,k < W.heap.size->Jq k->Jq' k):RgQ Jq' W B v l:=by
 obtain ⟨xs,h1,h2⟩:=h
 refine ⟨xs,h1,fun i hi'=>?_⟩
 obtain ⟨v1,v3,s,r,a,b,c,d,e,f,o1,o3,j1,j3⟩:=h2 i hi'
 exact ⟨v1,v3,s,r,a,b,c,d,e,f,o1,o3,fun g hg=>hi g (World.ownsRow.lt o1 g hg).2 (j1 g hg),fun g hg=>hi g (World.ownsRow.lt o3 g hg).2 (j3 g hg)⟩
theorem RgQ.ty {Jq:Nat->Prop} {W:World} {B:Nat} {v:Value} {l:List Reg} (h:RgQ Jq W B v l) {g:Nat} (hg:v.ownBlock=some g):Ty W g 98:=by
 obtain ⟨xs,h1,_⟩:=h
 exact own_ty h1 hg
theorem RgQ.form {Jq:Nat->Prop} {W:World} {B:Nat} {v:Value} {l:List Reg} (h:RgQ Jq W B v l):∃ a c,v=.slice a l.length c:=by
 obtain ⟨xs,h1,_⟩:=h
 rcases h1.2 with ⟨e,h0⟩ | ⟨g,cap,cur,e,_⟩
 ·exact ⟨none,0,by rw [e,h0]⟩
 ·exact ⟨_,cap,e⟩
theorem RgQ.next {Jq:Nat->Prop} {W:World} {B:Nat} {v v1 v3:Value} {l:List Reg} {L I:List Int} {R:Nat} (h:RgQ Jq W B v l) (hl:l.length<=10000) (hB:B<=W.heap.size) (o1:Own W B v1 L) (o3:Own W B v3 I) (j1:∀ g,v1.ownBlock=some g->Jq g) (j3:∀ g,v3.ownBlock=some g->Jq g) :
  ∃ g n c W',(Builtin.append_ #[49,49] 49 #[v,.slice (some ⟨W.heap.size,0,none⟩) 1 1]).run Tryz.prog (W.alloc (.cells #[.int .i64 3,v1,.slice none 0 0,.int .u64 (hi R),.int .u64 (lo R),v3] 98))=.ok (.slice (some ⟨g,0,none⟩) n c) W'/\RgQ Jq W' B (.slice (some ⟨g,0,none⟩) n c) (l ++ [⟨3,L,[],R,I⟩])/\Tk.Kp (fun b=>v.ownBlock=some b) (W.alloc (.cells #[.int .i64 3,v1,.slice none 0 0,.int .u64 (hi R),.int .u64 (lo R),v3] 98)) W'/\((Value.slice (some ⟨g,0,none⟩) n c).ownBlock=v.ownBlock ∨ ∀ g',(Value.slice (some ⟨g,0,none⟩) n c).ownBlock=some g'->W.heap.size<=g'):=by
 obtain ⟨xs,h1,h2⟩:=h
 obtain ⟨i0,hi0,hz0,hz1,hz2⟩:=info_regn
 have gA:Gb W (W.alloc (.cells #[.int .i64 3,v1,.slice none 0 0,.int .u64 (hi R),.int .u64 (lo R),v3] 98)):=gb_alloc (Below.refl _ _) _
 have hcl:∀ j u,[Value.int .i64 3,v1,.slice none 0 0,.int .u64 (hi R),.int .u64 (lo R),v3][j]? = some u->(W.alloc (.cells #[.int .i64 3,v1,.slice none 0 0,.int .u64 (hi R),.int .u64 (lo R),v3] 98)).cell? ((⟨W.heap.size,0,none⟩:Addr).add j)=some u:=by
  intro j u hj
  rw [Addr.add_lit,Nat.zero_add]
  exact cell_cur (heap_new W _) (by simpa using hj)
 obtain ⟨v',W',hr,hown,hgrow,hnn,hlc⟩:=run_append_own_at (P:=Tryz.prog) (W.alloc (.cells #[.int .i64 3,v1,.slice none 0 0,.int .u64 (hi R),.int .u64 (lo R),v3] 98)) B 49 49 98 i0 (.agg #[.int .i64 0,.slice none 0 0,.slice none 0 0,.int .u64 0,.int .u64 0,.slice none 0 0]) 6 96 Tryz.underlying49 hi0 hz0 hz1 hz2 rfl (by decide)
  v l.length xs (own_kpR h1 (kpF gA) (fun _ _ h=>h)) ⟨W.heap.size,0,none⟩ 1 1 [.int .i64 3,v1,.slice none 0 0,.int .u64 (hi R),.int .u64 (lo R),v3] rfl hcl (by
   intro y hy
   simp only [List.mem_cons,List.not_mem_nil,or_false] at hy
   rcases hy with rfl | rfl | rfl | rfl | rfl | rfl
   ·rfl
   ·exact own_one o1
   ·rfl
   ·rfl
   ·rfl
   ·exact own_one o3) (by simp only [maxLen];omega) (by omega) (by have:=gA.size;omega)
 obtain ⟨g,n,c,ev⟩:∃ g n c,v'=.slice (some ⟨g,0,none⟩) n c:=by
  rcases hown.2 with ⟨e,_⟩ | ⟨g,cap,cur,e,_⟩
  ·exact absurd (hnn.1 e).2 (by decide)
  ·exact ⟨g,_,cap,e⟩
 subst ev
 have kp:Tk.Kp (fun b=>v.ownBlock=some b) (W.alloc (.cells #[.int .i64 3,v1,.slice none 0 0,.int .u64 (hi R),.int .u64 (lo R),v3] 98)) W':=⟨hgrow.os,hgrow.tape,hgrow.output,hgrow.size,fun k hk hn=>hgrow.block k hk (fun e=>hn e.symm)⟩
 have lift:∀ {u:Value} {x:List Int},Own W B u x->Own W' B u x:=fun ho=>by
  refine own_kpI (own_kpI ho (kpF gA) (fun _ _ h=>h)) kp (fun b e e2=>?_)
  have t1:Ty W b 3:=own_ty ho e
  exact t1.ne (own_ty h1 e2) (by decide) rfl
 refine ⟨g,n,c,W',hr,⟨xs ++ [.int .i64 3,v1,.slice none 0 0,.int .u64 (hi R),.int .u64 (lo R),v3],by rw [List.length_append];exact hown,fun i hi'=>?_⟩,kp,?_⟩
 rotate_left 1
 ·rcases hlc with e | e
  ·exact .inl e
  ·refine .inr fun g' e'=>?_
   rw [e] at e'
   injection e' with e'
   rw [World.size_alloc] at e'
   omega
 have hxl:=h1.1
 rw [List.length_append] at hi'
 by_cases e:i < l.length
 ·obtain ⟨u1,u3,s,r,a,b,cc,d,e',f,p1,p3,p4,p5⟩:=h2 i e
  rw [List.getElem_append_left e]
  refine ⟨u1,u3,s,r,?_,?_,?_,?_,?_,?_,lift p1,lift p3,p4,p5⟩ <;> (rw [List.getElem?_append_left (by omega)];assumption)
 ·have e':i=l.length:=by simp at hi';omega
  subst e'
  have eg:(l ++ [(⟨3,L,[],R,I⟩:Reg)])[l.length]'(by simp)=⟨3,L,[],R,I⟩:=by simp
  rw [eg]
  refine ⟨v1,v3,rfl,rfl,?_,?_,?_,?_,?_,?_,lift o1,lift o3,j1,j3⟩
  ·rw [List.getElem?_append_right (by omega),hxl,Nat.sub_self];rfl
  ·rw [List.getElem?_append_right (by omega),show l.length * 6 + 1 - xs.length=1 by omega];rfl
  ·rw [List.getElem?_append_right (by omega),show l.length * 6 + 2 - xs.length=2 by omega];rfl
  ·rw [List.getElem?_append_right (by omega),show l.length * 6 + 3 - xs.length=3 by omega];rfl
  ·rw [List.getElem?_append_right (by omega),show l.length * 6 + 4 - xs.length=4 by omega];rfl
  ·rw [List.getElem?_append_right (by omega),show l.length * 6 + 5 - xs.length=5 by omega];rfl
structure SA (Z w0 W:World) (sb hb k:Nat) (vq:Value) (q:List Int) (s:SV) (vs vr vh:Value):Prop where
 blk:W.heap[sb]? = some (.cells #[vq,.pointer (some ⟨hb,0,none⟩),.int .i64 (s.bud:Int),vs,vr] 95 (0,0))
 sbB:w0.heap.size<=sb
 hbB:w0.heap.size<=hb
 has:Tk.Has W hb k vh (Tk.firsts k (hitsOf q s.seen))
 hhB:∀ g,vh.ownBlock=some g->w0.heap.size<=g
 sn:Own W w0.heap.size vs (idsOf s.seen)
 rg:RgQ (fun g=>vs.ownBlock ≠ some g) W w0.heap.size vr s.rest
 gb:Gb w0 W
 q:RdI w0 vq q
 few:s.seen.length<=512
 rfew:s.rest.length<=5000
 kz:Tk.Kp (fun b=>b=sb ∨ b=hb) Z W
 vB:(∀ g,vh.ownBlock=some g->Z.heap.size<=g)/\(∀ g,vs.ownBlock=some g->Z.heap.size<=g)/\(∀ g,vr.ownBlock=some g->Z.heap.size<=g)
theorem kz_next {S:Nat->Prop} {Z W W':World} {sb hb:Nat} (h:Tk.Kp (fun b=>b=sb ∨ b=hb) Z W) (k:Tk.Kp S W W') (hS:∀ b,S b->b=sb ∨ b=hb ∨ Z.heap.size<=b):Tk.Kp (fun b=>b=sb ∨ b=hb) Z W' :=
 ⟨k.os.trans h.os,k.tape.trans h.tape,k.output.trans h.output,Nat.le_trans h.size k.size,fun b hb' hn=>(k.block b (Nat.lt_of_lt_of_le hb' h.size) (fun hs=>by
  rcases hS b hs with e | e | e
  ·exact hn (.inl e)
  ·exact hn (.inr e)
  ·omega)).trans (h.block b hb' hn)⟩
variable {Z w0 W:World} {sb hb k:Nat} {vq:Value} {q:List Int} {s:SV} {vs vr vh:Value}
theorem SA.tsb (h:SA Z w0 W sb hb k vq q s vs vr vh):Ty W sb 95:=⟨_,_,h.blk⟩
theorem SA.thb (h:SA Z w0 W sb hb k vq q s vs vr vh):Ty W hb 131:=by
 obtain ⟨c,e⟩:=Has.cells h.has
 exact ⟨c,_,e⟩
theorem SA.tvh (h:SA Z w0 W sb hb k vq q s vs vr vh) {g:Nat} (hg:vh.ownBlock=some g):Ty W g 58:=by
 obtain ⟨c,e⟩:=Has.own h.has hg
 exact ⟨c,_,e⟩
theorem SA.tvs (h:SA Z w0 W sb hb k vq q s vs vr vh) {g:Nat} (hg:vs.ownBlock=some g):Ty W g 3:=own_ty h.sn hg
theorem SA.tvr (h:SA Z w0 W sb hb k vq q s vs vr vh) {g:Nat} (hg:vr.ownBlock=some g):Ty W g 98:=h.rg.ty hg
theorem SA.cells (h:SA Z w0 W sb hb k vq q s vs vr vh):W.cell? ⟨sb,0,none⟩=some vq/\W.cell? ⟨sb,1,none⟩=some (.pointer (some ⟨hb,0,none⟩))/\W.cell? ⟨sb,2,none⟩=some (.int .i64 (s.bud:Int))/\W.cell? ⟨sb,3,none⟩=some vs/\W.cell? ⟨sb,4,none⟩=some vr/\∀ i,W.frozen? ⟨sb,i,none⟩=false :=
 ⟨cell_cur h.blk rfl,cell_cur h.blk rfl,cell_cur h.blk rfl,cell_cur h.blk rfl,cell_cur h.blk rfl,fun i=>by simp [World.frozen?,h.blk]⟩
theorem SA.grow {W':World} (h:SA Z w0 W sb hb k vq q s vs vr vh) (g:Gb W W'):SA Z w0 W' sb hb k vq q s vs vr vh where
 blk:=by rw [g.block sb (Array.getElem?_eq_some_iff.1 h.blk).1];exact h.blk
 sbB:=h.sbB
 hbB:=h.hbB
 has:=h.has.gr g
 hhB:=h.hhB
 sn:=own_kpI h.sn (kpF g) (fun _ _ h=>h)
 rg:=h.rg.gb g
 gb:=gb_trans h.gb g
 q:=h.q
 few:=h.few
 rfew:=h.rfew
 kz:=kz_next h.kz (kpF g) (fun _ h=>h.elim)
 vB:=h.vB
def Frm (W W':World):Prop:=∀ b t,Ty W b t->t ≠ 95->t ≠ 131->t ≠ 58->t ≠ 3->t ≠ 98->W'.heap[b]? = W.heap[b]?
theorem Frm.ty {W W':World} (h:Frm W W') {b:Nat} {t:TypeId} (ht:Ty W b t) (h1:t ≠ 95) (h2:t ≠ 131) (h3:t ≠ 58) (h4:t ≠ 3) (h5:t ≠ 98):Ty W' b t:=by
 obtain ⟨c,s,e⟩:=id ht
 exact ⟨c,s,by rw [h b t ht h1 h2 h3 h4 h5];exact e⟩
theorem Frm.trans {a b c:World} (h:Frm a b) (k:Frm b c):Frm a c:=fun x t ht h1 h2 h3 h4 h5=>(k x t (h.ty ht h1 h2 h3 h4 h5) h1 h2 h3 h4 h5).trans (h x t ht h1 h2 h3 h4 h5)
theorem Frm.gb {a b:World} (g:Gb a b):Frm a b:=fun x t ht _ _ _ _ _=>by
 obtain ⟨c,s,e⟩:=ht
 exact g.block x (Array.getElem?_eq_some_iff.1 e).1
theorem Frm.kp {S:Nat->Prop} {a b:World} (k:Tk.Kp S a b) (hS:∀ x,S x->Ty a x 95 ∨ Ty a x 131 ∨ Ty a x 58 ∨ Ty a x 3 ∨ Ty a x 98):Frm a b:=fun x t ht h1 h2 h3 h4 h5=>by
 obtain ⟨c,s,e⟩:=id ht
 refine k.block x (Array.getElem?_eq_some_iff.1 e).1 (fun hs=>?_)
 rcases hS x hs with h | h | h | h | h
 ·exact ht.ne h h1 rfl
 ·exact ht.ne h h2 rfl
 ·exact ht.ne h h3 rfl
 ·exact ht.ne h h4 rfl
 ·exact ht.ne h h5 rfl
theorem SA.see (h:SA Z w0 W sb hb k vq q s vs vr vh)
  {V W2 V2 W3:World} {vh' v':Value} {r:Rw} (gV:Gb W V) (hh:Tk.Has W2 hb k vh' (Tk.keep k (Tk.firsts k (hitsOf q s.seen)) (hitOf q r))) (kp:Tk.Kp (fun b=>b=hb ∨ some b=vh.ownBlock) V W2) (hv:vh'.ownBlock=vh.ownBlock ∨ ∀ g,vh'.ownBlock=some g->V.heap.size<=g)
  (gV2:Gb W2 V2) (ho:W3.ownsRow w0.heap.size 3 1 v' (s.seen.length + 1) ((idsOf s.seen).map (Value.int .i64) ++ [.int .i64 r.1])) (hg:V2.grownBy W3 vs.ownBlock) (hl:v'.ownBlock=vs.ownBlock ∨ v'.ownBlock=some V2.heap.size) (hf:s.seen.length + 1<=512) (_hb1:1<=s.bud) :
  SA Z w0 ((W3.setCell ⟨sb,3,none⟩ v').setCell ⟨sb,2,none⟩ (.int .i64 ((s.bud - 1:Nat):Int))) sb hb k vq q ⟨s.seen ++ [r],s.bud - 1,s.rest⟩ v' vr vh'/\W3.heap[sb]? = some (.cells #[vq,.pointer (some ⟨hb,0,none⟩),.int .i64 (s.bud:Int),vs,vr] 95 (0,0))/\Frm W ((W3.setCell ⟨sb,3,none⟩ v').setCell ⟨sb,2,none⟩ (.int .i64 ((s.bud - 1:Nat):Int))):=by
 have hV:=h.grow gV
 have n1:∀ {b:Nat} {t:TypeId},Ty V b t->t ≠ 131->t ≠ 58->¬ (b=hb ∨ some b=vh.ownBlock):=fun ht h1 h2 e=>by
  rcases e with e | e
  ·exact ht.ne hV.thb h1 e
  ·exact ht.ne (hV.tvh e.symm) h2 rfl
 have kp2:Tk.Kp (fun b=>vs.ownBlock=some b) V2 W3:=⟨hg.os,hg.tape,hg.output,hg.size,fun k hk hn=>hg.block k hk (fun e=>hn e.symm)⟩
 have blk1:W2.heap[sb]? = some (.cells #[vq,.pointer (some ⟨hb,0,none⟩),.int .i64 (s.bud:Int),vs,vr] 95 (0,0)):=by rw [kp.block sb (Array.getElem?_eq_some_iff.1 hV.blk).1 (n1 hV.tsb (by decide) (by decide))];exact hV.blk
 have sn2:Own V2 w0.heap.size vs (idsOf s.seen):=own_kpI (own_kpI hV.sn kp (fun g e=>n1 (hV.tvs e) (by decide) (by decide))) (kpF gV2) (fun _ _ h=>h)
 have n2:∀ {b:Nat} {t:TypeId},Ty V2 b t->t ≠ 3->¬ vs.ownBlock=some b:=fun ht hne e=>ht.ne (own_ty sn2 e) hne rfl
 have lt2:∀ {b:Nat} {t:TypeId},Ty V b t->t ≠ 131->t ≠ 58->Ty V2 b t:=fun ht h1 h2=>by
  obtain ⟨c,s,e⟩:=ht
  have:Ty W2 _ _:=⟨c,s,by rw [kp.block _ (Array.getElem?_eq_some_iff.1 e).1 (n1 ⟨c,s,e⟩ h1 h2)];exact e⟩
  exact this.gb gV2
 have hh2:=hh.gr gV2
 have thb2:Ty V2 hb 131:=by obtain ⟨c,e⟩:=Has.cells hh2;exact ⟨c,_,e⟩
 have tvh2:∀ {g:Nat},vh'.ownBlock=some g->Ty V2 g 58:=fun hg=>by obtain ⟨c,e⟩:=Has.own hh2 hg;exact ⟨c,_,e⟩
 have blk2:V2.heap[sb]? = some (.cells #[vq,.pointer (some ⟨hb,0,none⟩),.int .i64 (s.bud:Int),vs,vr] 95 (0,0)):=by rw [gV2.block sb (Array.getElem?_eq_some_iff.1 blk1).1];exact blk1
 have tsb2:Ty V2 sb 95:=⟨_,_,blk2⟩
 have blk3:W3.heap[sb]? = some (.cells #[vq,.pointer (some ⟨hb,0,none⟩),.int .i64 (s.bud:Int),vs,vr] 95 (0,0)):=by rw [kp2.block sb (Array.getElem?_eq_some_iff.1 blk2).1 (n2 tsb2 (by decide))];exact blk2
 have k3:Tk.Kp (fun b=>b=sb) W3 ((W3.setCell ⟨sb,3,none⟩ v').setCell ⟨sb,2,none⟩ (.int .i64 ((s.bud - 1:Nat):Int))):=((Tk.Kp.refl (fun b=>b=sb) W3).setCell (.inl rfl) v').setCell (.inl rfl) _
 have n3:∀ {b:Nat} {t:TypeId},Ty V2 b t->t ≠ 95->¬ b=sb:=fun ht hne e=>ht.ne tsb2 hne e
 have s0:=hV.gb.size
 have s1:=kp.size
 have s2:=gV2.size
 have s3:=kp2.size
 have rg2:RgQ (fun g=>vs.ownBlock ≠ some g) V2 w0.heap.size vr s.rest:=(hV.rg.kp kp (fun b e _ cur s' hc=>n1 ⟨cur,s',hc⟩ (by decide) (by decide) e) (fun g e=>n1 (hV.tvr e) (by decide) (by decide))).gb gV2
 have rg3:RgQ (fun g=>vs.ownBlock ≠ some g) W3 w0.heap.size vr s.rest:=rg2.kp kp2 (fun b e hj=>absurd e hj) (fun g e=>n2 (rg2.ty e) (by decide))
 refine ⟨⟨by simp [World.setCell,Array.getElem?_modify,blk3],h.sbB,h.hbB,?_,?_,?_,?_,?_,h.q,by rw [List.length_append];exact hf,h.rfew,?_,?_⟩,blk3,?_⟩
 ·have e:Tk.firsts k (hitsOf q (s.seen ++ [r]))=Tk.keep k (Tk.firsts k (hitsOf q s.seen)) (hitOf q r):=by
   rw [<- Tk.firsts_snoc];unfold hitsOf;rw [List.map_append];rfl
  rw [e]
  exact (hh2.kp kp2 (n2 thb2 (by decide)) (fun g e=>n2 (tvh2 e) (by decide))).kp k3 (n3 thb2 (by decide)) (fun g e=>n3 (tvh2 e) (by decide))
 ·intro g hg'
  rcases hv with e | e
  ·rw [e] at hg';exact h.hhB g hg'
  ·have:=e g hg';omega
 ·have e:(idsOf (s.seen ++ [r])).map (Value.int .i64)=(idsOf s.seen).map (Value.int .i64) ++ [.int .i64 r.1]:=by unfold idsOf;rw [List.map_append,List.map_append];rfl
  have el:(idsOf (s.seen ++ [r])).length=s.seen.length + 1:=by unfold idsOf;rw [List.length_map,List.length_append];rfl
  unfold Own
  rw [e,el]
  exact own_kpR ho k3 (fun g hg'=>(own_ty ho hg').ne ⟨_,_,blk3⟩ (by decide))
 ·have rq:RgQ (fun g=>vs.ownBlock ≠ some g/\g < V2.heap.size) V2 w0.heap.size vr s.rest:=rg2.wk (fun b hb' hj=>⟨hj,hb'⟩)
  have rq3:RgQ (fun g=>vs.ownBlock ≠ some g/\g < V2.heap.size) W3 w0.heap.size vr s.rest:=rq.kp kp2 (fun b e hj=>absurd e hj.1) (fun g e=>n2 (rg2.ty e) (by decide))
  have rq4:RgQ (fun g=>v'.ownBlock ≠ some g) W3 w0.heap.size vr s.rest:=rq3.wk (fun b _ hj=>by
   rcases hl with e | e
   ·rw [e];exact hj.1
   ·rw [e];intro e';injection e' with e';have:=hj.2;omega)
  refine rq4.kp k3 (fun b e _ cur s' hc=>?_) (fun g e=>n3 (rg2.ty e) (by decide))
  rw [e,blk3] at hc;simp at hc
 ·have b1:Below w0.heap.size w0 W2:=hV.gb.trans (kp.gr hV.gb.size (fun b e=>by
   rcases e with e | e
   ·rw [e];exact h.hbB
   ·exact h.hhB b e.symm))
  have b2:Below w0.heap.size w0 V2:=gb_trans b1 gV2
  have b3:Below w0.heap.size w0 W3:=b2.trans (kp2.gr (by omega) (fun b e=>(h.sn.lt b e).1))
  exact b3.trans (k3.gr (by omega) (fun b e=>by rw [e];exact h.sbB))
 ·have z1:Tk.Kp (fun b=>b=sb ∨ b=hb) Z W2:=kz_next hV.kz kp (fun b e=>by
   rcases e with e | e
   ·exact .inr (.inl e)
   ·exact .inr (.inr (h.vB.1 b e.symm)))
  have z2:Tk.Kp (fun b=>b=sb ∨ b=hb) Z V2:=kz_next z1 (kpF gV2) (fun _ h=>h.elim)
  have z3:Tk.Kp (fun b=>b=sb ∨ b=hb) Z W3:=kz_next z2 kp2 (fun b e=>.inr (.inr (h.vB.2.1 b e)))
  exact kz_next z3 k3 (fun b e=>.inl e)
 ·have sz:=hV.kz.size
  refine ⟨fun g e=>?_,fun g e=>?_,h.vB.2.2⟩
  ·rcases hv with e' | e'
   ·exact h.vB.1 g (by rw [<- e'];exact e)
   ·have:=e' g e;omega
  ·rcases hl with e' | e'
   ·exact h.vB.2.1 g (by rw [<- e'];exact e)
   ·rw [e'] at e;injection e with e;omega
 ·refine (Frm.gb gV).trans ((Frm.kp kp (fun x hx=>?_)).trans ((Frm.gb gV2).trans ((Frm.kp kp2 (fun x hx=>.inr (.inr (.inr (.inl (own_ty sn2 hx)))))).trans (Frm.kp k3 (fun x hx=>?_)))))
  ·rcases hx with rfl | hx
   ·exact .inr (.inl hV.thb)
   ·exact .inr (.inr (.inl (hV.tvh hx.symm)))
  ·subst hx
   exact .inl ⟨_,_,blk3⟩
end Go.Proofs.YtcipdampcmfmaabGreat
