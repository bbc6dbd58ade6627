import Derived.Test.YtgbgejflmbhigaaGreatKw13
import Derived.SizedLaws
import Derived.Test.YtgbgejflmbhigaaGreatKw12
import Derived.Test.YtgbgejflmbhigaaGreatKw4
import Derived.Test.YtgbgejflmbhigaaGreatKwBoxB
import Derived.Test.YtgbgejflmbhigaaGreatKw15
import Derived.Laws.AppendOwnNone
import Derived.RangeFuncNested
import Derived.RangeFuncBound
import Derived.RangeFuncCalls
import Derived.RangeFuncLeaves
import Derived.Shelf.Abstract
import Derived.Shelf.RegionOpen
import Derived.WalkKit
import Derived.OwnWalkIn
import Derived.TacticsInMore
import Derived.LoopNIn
import Derived.LoopIn
namespace Go.Proofs.YtgbgejflmbhigaaGreat
open Go.ChangeShapes Go.WideShapes Go.ChangeAt Go.RowKit Go.Joins Go.Deep
set_option maxRecDepth 100000
theorem Tryz.bytesI:Tryz.prog.bytesOf 3=8:=by kernel_rfl
theorem Tryz.bytesR:Tryz.prog.bytesOf 39=32:=by kernel_rfl
theorem weights_in {H:Type} {e:TypeId} {d:DataW H}:∀ {l:List (DataW H)},d ∈ l->∀ n ∈ d.weights Tryz.prog e,n ∈ DataW.weightsAll Tryz.prog e l
 | x :: r,h,n,hn=>by
  simp only [DataW.weightsAll,List.mem_append]
  cases List.mem_cons.1 h with
  | inl h=>subst h;exact .inl hn
  | inr h=>exact .inr (weights_in h n hn)
theorem trodI_sz {H:Type} {enc:TypeId × Value->H} {W:World} {base fuel:Nat} {hd:Bool} {v:Value} {l:List Int} {x:DataW H × List MemPlace}
  (h:DataW.trod enc Tryz.prog W base (fun _=>true) hd fuel 37 [v]=some x) (hr:RdI W v l) (hw:∀ n ∈ x.1.weights Tryz.prog 37,n<=reachBytes):l.length<=reachBytes:=by
 rcases open_slice Tryz.underlying37 h with ⟨e,_⟩ | ⟨a,len,cap,m,n,D,Pl,e,_,hlc,hcm,_,rfl,_⟩
 ·cases e
  obtain ⟨_,_,e,_⟩:=hr
  injection e with _ e2 _
  omega
 ·cases e
  have h1:=hw ((((List.range len).map D).length + ((List.range (m - len)).map fun j=>D (len + j)).length) * Tryz.prog.bytesOf 3) (by simp [DataW.weights,Tryz.underlying37])
  rw [Tryz.bytesI] at h1
  simp only [List.length_map,List.length_range] at h1
  obtain ⟨_,_,e,_⟩:=hr
  injection e with _ e2 _
  omega
theorem open_rows_sz {H:Type} {enc:TypeId × Value->H} {W:World} {b0:Nat} {r:Reach} {v:Value} {d:DataW H} {p:List MemPlace}
  (hv':Value.okWide Tryz.prog W r b0 22 v) (h:DataW.Trod enc Tryz.prog W 0 (fun _=>true) true 22 v d p) (hw:∀ n ∈ d.weights Tryz.prog 22,n<=reachBytes) :
  ∃ rs:List Rw,RdW W v rs/\rs.length<=reachBytes/\(∀ i,i < rs.length->(Lit.int .i64 rs[i]!.1).wf=true)/\(∀ i,i < rs.length->rs[i]!.2.length<=reachBytes)/\∀ a n c,v=.slice a n c->n<=c:=by
 obtain ⟨a0,len,cap,rfl⟩:=okWide_slice Tryz.underlying22 hv'
 obtain ⟨fuel,hf⟩:=h
 rcases open_slice Tryz.underlying22 (by simpa [Value.cells] using hf) with ⟨e,_⟩ | ⟨a,len,cap,m,n,D,Pl,e,_,hlc,hcm,hm,hD,hx⟩
 ·cases e
  exact ⟨[],⟨none,0,rfl,fun i hi=>absurd hi (Nat.not_lt_zero _)⟩,Nat.zero_le _,fun i hi=>absurd hi (Nat.not_lt_zero _),fun i hi=>absurd hi (Nat.not_lt_zero _),fun a n c e=>by cases e;exact Nat.le_refl _⟩
 ·cases e
  rw [if_pos rfl] at hm
  subst hm
  have hd:d=.slice ((List.range len).map D) ((List.range (m - len)).map fun j=>D (len + j)):=congrArg Prod.fst hD
  subst hd
  have hw0:=hw ((((List.range len).map D).length + ((List.range (m - len)).map fun j=>D (len + j)).length) * Tryz.prog.bytesOf 39) (by simp [DataW.weights,Tryz.underlying22])
  rw [Tryz.bytesR] at hw0
  simp only [List.length_map,List.length_range] at hw0
  have hy:∀ i,i < len->∃ y:Rw,(∃ u,W.cell? (a.add (i * 2))=some (.int .i64 y.1)/\W.cell? ((a.add (i * 2)).add 1)=some u/\RdI W u y.2)/\(Lit.int .i64 y.1).wf=true/\y.2.length<=reachBytes:=by
   intro i hi
   obtain ⟨cs,hc,ht⟩:=hx i (by omega)
   obtain ⟨z0,z1,k,hz,hl1,j0,j1⟩:=trod_struct2 Tryz.underlying39 ht
   rw [Tryz.cells39] at hl1 hc
   match cs,hl1 with
   | [c0,c1],_ =>
    obtain ⟨x,e5,_,wx⟩:=DataW.trod_int Tryz.underlying3 j0
    obtain ⟨u,l,e6,rl,ll⟩:=trod22 j1
    have j2:=j1
    rw [e6] at j2
    simp [Tryz.cells3,Tryz.cells37] at e5 e6
    subst e5 e6
    obtain ⟨_,_,hcc⟩:=World.cells?_some hc
    have q0:=hcc 0 (by omega)
    have q1:=hcc 1 (by omega)
    refine ⟨(x,l),⟨_,by simpa [Addr.add] using q0,by simpa using q1,rl⟩,wx,trodI_sz j2 rl (fun n hn=>hw n ?_)⟩
    have hz':D i=.agg [z0.1,z1.1]:=congrArg Prod.fst hz
    simp only [DataW.weights,Tryz.underlying22,List.mem_cons,List.mem_append]
    refine .inr (.inl (weights_in (d:=D i) (List.mem_map.2 ⟨i,List.mem_range.2 hi,rfl⟩) n ?_))
    rw [hz']
    simp only [DataW.weights,Tryz.underlying39,List.map_cons,List.map_nil,DataW.weightsEach,List.mem_append]
    exact .inr (.inl hn)
  obtain ⟨Y,hY⟩:=choose_lt (α:=Rw) (p:=fun i y=>(∃ u,W.cell? (a.add (i * 2))=some (.int .i64 y.1)/\W.cell? ((a.add (i * 2)).add 1)=some u/\RdI W u y.2)/\(Lit.int .i64 y.1).wf=true/\y.2.length<=reachBytes) hy
  have hg:∀ i,i < len->((List.range len).map Y)[i]! = Y i:=by
   intro i hi
   rw [getElem!_pos _ i (by simpa using hi)];simp
  refine ⟨(List.range len).map Y,⟨some a,m,by simp,fun i hi=>?_⟩,by simp;omega,fun i hi=>?_,fun i hi=>?_,fun a n c e=>by cases e;exact hlc⟩
  ·have hi':i < len:=by simpa using hi
   obtain ⟨⟨u0,q0,_⟩,_⟩:=hY 0 (by omega)
   have ha:a=⟨a.block,a.off,none⟩:=spot_none (by simpa [Addr.add] using q0)
   obtain ⟨⟨u,q1,q2,q3⟩,_⟩:=hY i hi'
   rw [hg i hi']
   rw [ha,Addr.add_lit] at q1
   rw [ha,Addr.add_lit,Addr.add_lit] at q2
   exact ⟨a.block,a.off,u,by rw [<- ha],q1,q2,q3⟩
  ·have hi':i < len:=by simpa using hi
   rw [hg i hi'];exact (hY i hi').2.1
  ·have hi':i < len:=by simpa using hi
   rw [hg i hi'];exact (hY i hi').2.2
end Go.Proofs.YtgbgejflmbhigaaGreat

namespace Go.Proofs.YtgbgejflmbhigaaGreat.Tk
open Go.RowKit Go.Sort
def Srtd (l:List Ht):Prop:=l.Pairwise fun x y=>hlt y x=false
theorem srt_srtd (l:List Ht):Srtd (srt l):=by
 have h:=List.pairwise_mergeSort (le:=fun x y=>!hlt y x) (fun a b c h1 h2=>by
  simp only [Bool.not_eq_true'] at *;exact hlt_ntrans h2 h1) (fun a b=>by
  cases h:hlt b a
  ·simp
  ·simp [hlt_asymm h]) l
 exact h.imp (fun h=>by simpa using h)
theorem srtd_unique:∀ (l l':List Ht),Srtd l->Srtd l'->l.Perm l'->l=l'
 | [],l',_,_,p=>(List.Perm.nil_eq p)
 | a :: r,[],_,_,p=>absurd p.length_eq (by simp)
 | a :: r,b :: r',h,h',p=>by
  have hb:b ∈ a :: r:=p.symm.subset List.mem_cons_self
  have ha:a ∈ b :: r':=p.subset List.mem_cons_self
  have e:a=b:=by
   rcases List.mem_cons.1 hb with e | hb
   ·exact e.symm
   rcases List.mem_cons.1 ha with e | ha
   ·exact e
   have h1:=List.rel_of_pairwise_cons h hb
   have h2:=List.rel_of_pairwise_cons h' ha
   exact hlt_tot h2 h1
  subst e
  rw [srtd_unique r r' (List.Pairwise.of_cons h) (List.Pairwise.of_cons h') (List.Perm.cons_inv p)]
theorem srt_of_perm {l m:List Ht} (h:Srtd m) (p:l.Perm m):srt l=m:=srtd_unique _ _ (srt_srtd l) h ((srt_perm l).trans p)
def ins (x:Ht):List Ht->List Ht
 | []=>[x]
 | y :: r=>if hlt x y=true then x :: y :: r else y :: ins x r
theorem ins_perm (x:Ht):∀ l,(ins x l).Perm (x :: l)
 | []=>List.Perm.refl _
 | y :: r=>by
  unfold ins
  split
  ·exact List.Perm.refl _
  ·exact ((ins_perm x r).cons y).trans (List.Perm.swap x y r)
theorem ins_len (x:Ht) (l:List Ht):(ins x l).length=l.length + 1:=by rw [(ins_perm x l).length_eq];rfl
theorem ins_srtd (x:Ht):∀ l,Srtd l->Srtd (ins x l)
 | [],_=>List.pairwise_singleton _ _
 | y :: r,h=>by
  unfold ins
  split
  ·rename_i hx
   refine List.Pairwise.cons ?_ h
   intro z hz
   rcases List.mem_cons.1 hz with rfl | hz
   ·exact hlt_asymm hx
   ·exact hlt_ntrans (List.rel_of_pairwise_cons h hz) (hlt_asymm hx)
  ·rename_i hx
   refine List.Pairwise.cons ?_ (ins_srtd x r (List.Pairwise.of_cons h))
   intro z hz
   rcases List.mem_cons.1 ((ins_perm x r).subset hz) with rfl | hz
   ·simpa using hx
   ·exact List.rel_of_pairwise_cons h hz
theorem srt_snoc (l:List Ht) (x:Ht):srt (l ++ [x])=ins x (srt l):=by
 refine srt_of_perm (ins_srtd x _ (srt_srtd l)) ?_
 refine List.Perm.trans ?_ (ins_perm x _).symm
 exact (List.perm_append_singleton x l).trans ((srt_perm l).symm.cons x)
def keep (k:Nat) (m:List Ht) (x:Ht):List Ht:=(ins x m).take k
def kept (k:Nat) (m:List Ht) (x:Ht):Bool:=decide (m.length < k) || hlt x m[k - 1]!
theorem take_ins (x:Ht):∀ (k:Nat) (l:List Ht),(ins x l).take k=(ins x (l.take k)).take k
 | 0,_=>by simp
 | k + 1,[]=>by simp
 | k + 1,y :: r=>by
  simp only [List.take_succ_cons]
  unfold ins
  split
  ·simp only [List.take_succ_cons]
   cases k with
   | zero=>simp
   | succ k=>simp [List.take_succ_cons,List.take_take,Nat.min_eq_left (Nat.le_succ k)]
  ·simp only [List.take_succ_cons]
   rw [take_ins x k r]
def firsts (k:Nat) (l:List Ht):List Ht:=(srt l).take k
theorem firsts_snoc (k:Nat) (l:List Ht) (x:Ht):firsts k (l ++ [x])=keep k (firsts k l) x:=by
 unfold firsts keep
 rw [srt_snoc,take_ins]
theorem firsts_nil (k:Nat):firsts k []=[]:=by simp [firsts,srt]
theorem firsts_srtd (k:Nat) (l:List Ht):Srtd (firsts k l):=(srt_srtd l).sublist (List.take_sublist k _)
theorem firsts_len (k:Nat) (l:List Ht):(firsts k l).length=min k l.length:=by simp [firsts,srt_len]
theorem firsts_perm (k:Nat) {l l':List Ht} (p:l.Perm l'):firsts k l=firsts k l':=by
 unfold firsts;rw [srt_of_perm (srt_srtd l') (p.trans (srt_perm l').symm)]
theorem keep_srtd (k:Nat) {m:List Ht} (x:Ht) (h:Srtd m):Srtd (keep k m x):=(ins_srtd x m h).sublist (List.take_sublist k _)
theorem keep_more {k:Nat} {m:List Ht} (x:Ht) (h:m.length < k):keep k m x=ins x m:=by
 unfold keep;rw [List.take_of_length_le (by rw [ins_len];omega)]
theorem last_worst {m:List Ht} (h:Srtd m) (k:Nat) (hk:m.length=k):∀ y ∈ m,hlt m[k - 1]! y=false:=by
 intro y hy
 subst hk
 obtain ⟨i,hi,rfl⟩:=List.mem_iff_getElem.1 hy
 rw [getElem!_pos m (m.length - 1) (by omega)]
 by_cases e:i=m.length - 1
 ·subst e;exact hlt_irrefl _
 ·exact List.pairwise_iff_getElem.1 h i (m.length - 1) hi (by omega) (by omega)
theorem ins_no (x:Ht):∀ (m:List Ht),(∀ y ∈ m,hlt x y=false)->ins x m=m ++ [x]
 | [],_=>rfl
 | y :: r,h=>by
  unfold ins
  rw [if_neg (by rw [h y List.mem_cons_self];simp),ins_no x r (fun z hz=>h z (List.mem_cons_of_mem _ hz))]
  rfl
theorem keep_no {k:Nat} {m:List Ht} {x:Ht} (hs:Srtd m) (h:m.length=k) (hx:hlt x m[k - 1]! = false):keep k m x=m:=by
 unfold keep
 rw [ins_no x m (fun y hy=>hlt_ntrans hx (last_worst hs k h y hy)),List.take_append_of_le_length (by omega),List.take_of_length_le (by omega)]
theorem ins_app (x:Ht) (z:Ht) (hx:hlt x z=true):∀ (m:List Ht),ins x (m ++ [z])=ins x m ++ [z]
 | []=>by simp [ins,hx]
 | y :: r=>by
  simp only [List.cons_append]
  unfold ins
  split
  ·rfl
  ·rw [ins_app x z hx r];rfl
theorem keep_repl {k:Nat} {m:List Ht} {x:Ht} (hk:0 < k) (h:m.length=k) (hx:hlt x m[k - 1]! = true):(keep k m x).Perm (x :: m.dropLast):=by
 have hne:m ≠ []:=by intro e;subst e;simp at h;omega
 obtain ⟨a,z,rfl⟩:∃ a z,m=a ++ [z]:=⟨m.dropLast,m.getLast hne,(List.dropLast_concat_getLast hne).symm⟩
 simp only [List.length_append,List.length_cons,List.length_nil] at h
 have e:(a ++ [z])[k - 1]! = z:=by
  rw [getElem!_pos (a ++ [z]) (k - 1) (by simp;omega),List.getElem_append_right (by omega)]
  simp
 rw [e] at hx
 have hl:(ins x a).length=k:=by rw [ins_len];omega
 unfold keep
 rw [ins_app x z hx,List.take_append_of_le_length (by rw [hl];exact Nat.le_refl _),List.take_of_length_le (by rw [hl];exact Nat.le_refl _),List.dropLast_concat]
 exact ins_perm x _
end Go.Proofs.YtgbgejflmbhigaaGreat.Tk

namespace Go.Proofs.YtgbgejflmbhigaaGreat
open Go.RowKit Go.Sort
abbrev hitOf (q:List Int) (r:Rw):Tk.Ht:=(r.1,hi (dst q r.2),lo (dst q r.2))
def hitsOf (q:List Int) (rs:List Rw):List Tk.Ht:=rs.map (hitOf q)
def flatE (rs:List Rw) (d:Int):Int:=if 1<=d/\d<=64 then idsE rs d else 30
def askE (rs:List Rw) (q:List Int):Int:=if chk q (q.length:Int)=0 then flatE rs (q.length:Int) else chk q (q.length:Int)
theorem chk_is (l:List Int) (d:Int):chk l d=0 ∨ chk l d=30 ∨ chk l d=31:=by
 unfold chk vErr;(repeat' split) <;> simp
theorem rowE_is (rs:List Rw) (d:Int) (i:Nat):rowE rs d i=0 ∨ rowE rs d i=30 ∨ rowE rs d i=31 ∨ rowE rs d i=50:=by
 unfold rowE
 split
 ·rcases chk_is rs[i]!.2 d with h | h | h
  ·exact .inl h
  ·exact .inr (.inl h)
  ·exact .inr (.inr (.inl h))
 ·exact .inr (.inr (.inr rfl))
theorem rowsTo_is (rs:List Rw) (d:Int):∀ q,rowsTo rs d q=0 ∨ rowsTo rs d q=30 ∨ rowsTo rs d q=31 ∨ rowsTo rs d q=50
 | 0=>.inl rfl
 | q + 1=>by
  rw [rowsTo]
  split
  ·exact rowE_is rs d q
  ·exact rowsTo_is rs d q
theorem idsE_ne (rs:List Rw) (d:Int):idsE rs d ≠ 1:=by
 unfold idsE
 split
 ·rcases rowsTo_is rs d rs.length with h | h | h | h <;> rw [h] <;> decide
 ·decide
theorem idsE_nil (d:Int):idsE [] d=0:=rfl
theorem flatE_box (rs:List Rw) (d:Int):flatE rs d=if boxE rs d=1 then 0 else boxE rs d:=by
 unfold flatE boxE
 by_cases h:1<=d/\d<=64
 ·rw [if_pos h,if_pos h]
  by_cases h0:rs.length=0
  ·obtain rfl:=List.length_eq_zero_iff.1 h0
   rw [if_pos h0];simp [idsE_nil]
  ·rw [if_neg h0,if_neg (idsE_ne rs d)]
 ·rw [if_neg h,if_neg h];decide
theorem rowsTo_zero {rs:List Rw} {d:Int}:∀ q,rowsTo rs d q=0 ↔ ∀ i,i < q->rowE rs d i=0
 | 0=>⟨fun _ i hi=>absurd hi (Nat.not_lt_zero _),fun _=>rfl⟩
 | q + 1=>by
  rw [rowsTo]
  constructor
  ·intro h
   split at h
   ·rename_i h0
    intro i hi
    by_cases e:i=q
    ·subst e;exact h
    ·exact (rowsTo_zero q).1 h0 i (by omega)
   ·rename_i h0;exact absurd h h0
  ·intro h
   rw [if_pos ((rowsTo_zero q).2 fun i hi=>h i (by omega))]
   exact h q (by omega)
structure RowsOk (rs:List Rw) (d:Int):Prop where
 few:rs.length<=512
 ids:(idsOf rs).Pairwise (· ≠ ·)
 row:∀ r ∈ rs,okId r.1=true/\chk r.2 d=0
theorem rowE_zero {rs:List Rw} {d:Int} {i:Nat}:rowE rs d i=0 ↔ ((idsOf rs).take i).contains rs[i]!.1=false/\okId rs[i]!.1=true/\chk rs[i]!.2 d=0:=by
 unfold rowE
 split
 ·rename_i h;exact ⟨fun e=>⟨h.1,h.2,e⟩,fun e=>e.2.2⟩
 ·rename_i h;exact ⟨fun e=>by simp at e,fun e=>absurd ⟨e.1,e.2.1⟩ h⟩
theorem ids_get {rs:List Rw} {i:Nat} (hi:i < rs.length):(idsOf rs)[i]'(by simpa [idsOf] using hi)=rs[i]!.1:=by
 rw [getElem!_pos rs i hi];simp [idsOf]
theorem idsE_zero {rs:List Rw} {d:Int}:idsE rs d=0 ↔ RowsOk rs d:=by
 unfold idsE
 constructor
 ·intro h
  split at h
  ·rename_i hn
   have h1:=(rowsTo_zero _).1 h
   refine ⟨hn,?_,fun r hr=>?_⟩
   ·rw [List.pairwise_iff_getElem]
    intro i j hi hj hij e
    have hi':i < rs.length:=by simpa [idsOf] using hi
    have hj':j < rs.length:=by simpa [idsOf] using hj
    have h2:=(rowE_zero.1 (h1 j hj')).1
    rw [<- ids_get hj',<- e] at h2
    have:((idsOf rs).take j).contains (idsOf rs)[i]=true:=by
     rw [List.contains_iff_mem]
     exact List.mem_iff_getElem.2 ⟨i,by simp [idsOf];omega,by simp⟩
    rw [this] at h2;cases h2
   ·obtain ⟨i,hi,rfl⟩:=List.mem_iff_getElem.1 hr
    have h2:=rowE_zero.1 (h1 i hi)
    rw [getElem!_pos rs i hi] at h2
    exact h2.2
  ·cases h
 ·rintro ⟨h1,h2,h3⟩
  rw [if_pos h1,rowsTo_zero]
  intro i hi
  have h4:=h3 rs[i] (List.getElem_mem hi)
  rw [rowE_zero,getElem!_pos rs i hi]
  refine ⟨?_,h4⟩
  rw [<- Bool.not_eq_true,List.contains_iff_mem]
  intro hm
  obtain ⟨j,hj,e⟩:=List.mem_iff_getElem.1 hm
  have hji:j < i:=by have:=hj;simp at this;omega
  have:=List.pairwise_iff_getElem.1 h2 j i (by simp [idsOf];omega) (by simp [idsOf];omega) hji
  apply this
  rw [List.getElem_take] at e
  rw [e,ids_get hi,getElem!_pos rs i hi]
theorem RowsOk.perm {rs rs':List Rw} {d:Int} (h:RowsOk rs d) (p:rs.Perm rs'):RowsOk rs' d :=
 ⟨by rw [<- p.length_eq];exact h.few,(List.Perm.pairwise_iff (fun h=>Ne.symm h) (p.map _)).1 h.ids,fun r hr=>h.row r (p.mem_iff.2 hr)⟩
theorem RowsOk.sub {rs rs':List Rw} {d:Int} (h:RowsOk rs d) (p:rs'.Sublist rs):RowsOk rs' d :=
 ⟨Nat.le_trans p.length_le h.few,h.ids.sublist (p.map _),fun r hr=>h.row r (p.subset hr)⟩
theorem flatE_zero {rs:List Rw} {d:Int}:flatE rs d=0 ↔ (1<=d/\d<=64)/\RowsOk rs d:=by
 unfold flatE
 split
 ·rename_i h;rw [idsE_zero];exact ⟨fun e=>⟨h,e⟩,fun e=>e.2⟩
 ·rename_i h;exact ⟨fun e=>by simp at e,fun e=>absurd e.1 h⟩
theorem askE_zero {rs:List Rw} {q:List Int}:askE rs q=0 ↔ chk q (q.length:Int)=0/\RowsOk rs (q.length:Int):=by
 unfold askE
 split
 ·rename_i h
  have:=chk_ok h
  rw [flatE_zero]
  exact ⟨fun e=>⟨h,e.2⟩,fun e=>⟨⟨by omega,by omega⟩,e.2⟩⟩
 ·rename_i h;exact ⟨fun e=>absurd e h,fun e=>absurd e.1 h⟩
theorem hlt_hit (i j:Int) (m n:Nat):Tk.hlt (i,hi m,lo m) (j,hi n,lo n)=true ↔ m < n ∨ m=n/\i < j:=by
 rw [Tk.hlt_iff]
 unfold Tk.Ht.hi Tk.Ht.lo Tk.Ht.id hi lo
 dsimp only
 omega
theorem wd_one {m n:Nat} (h:hi m=hi n) (h':lo m=lo n):m=n:=by
 unfold hi lo at *;omega
theorem hitsOf_len (q:List Int) (rs:List Rw):(hitsOf q rs).length=rs.length:=by simp [hitsOf]
theorem hitsOf_perm (q:List Int) {rs rs':List Rw} (p:rs.Perm rs'):(hitsOf q rs).Perm (hitsOf q rs'):=p.map _
theorem hitsOf_app (q:List Int) (a b:List Rw):hitsOf q (a ++ b)=hitsOf q a ++ hitsOf q b:=by simp [hitsOf]
theorem hitsOf_snoc (q:List Int) {rs:List Rw} {i:Nat} (hi':i < rs.length):hitsOf q (rs.take (i + 1))=hitsOf q (rs.take i) ++ [hitOf q rs[i]!]:=by
 rw [List.take_succ_eq_append_getElem hi',hitsOf_app,getElem!_pos rs i hi'];rfl
end Go.Proofs.YtgbgejflmbhigaaGreat

namespace Go.Proofs.YtgbgejflmbhigaaGreat
open Go.RowKit
set_option maxRecDepth 100000
set_option maxHeartbeats 4000000
def inV (r:Reg) (a:List Int):Bool:=if r.S=2 then decide (bx r.L r.H a=0) else if r.S=3 then decide (dst r.L a<=r.R) else true
def bdV (r:Reg) (a:List Int):Nat:=if r.S=2 then bx r.L r.H a else if r.S=3 then ballV (dst r.L a) r.R else 0
theorem ckB_ok {r:Reg} {a:List Int} (h:ckB r a=0):ckR r a.length=0/\chk a a.length=0:=by
 unfold ckB at h;split at h
 ·rename_i h1;exact ⟨h1,h⟩
 ·rename_i h1;exact absurd h h1
theorem ckR_ok {r:Reg} {d:Int} (h:ckR r d=0):(r.S=2->cornE r.L r.H d=0)/\(r.S=3->chk r.L d=0)/\uses r=true/\rise r.I=true:=by
 unfold ckR at h;split at h
 ·split at h
  ·rename_i h2
   refine ⟨fun e=>?_,fun e=>?_,h2⟩
   ·rw [if_pos e] at h;exact h
   ·rw [if_neg (by omega),if_pos e] at h;exact h
  ·cases h
 ·cases h
theorem cornE_ok {l h:List Int} {d:Int} (k:cornE l h d=0):chk l d=0/\chk h d=0/\below l h l.length=true:=by
 unfold cornE at k;split at k
 ·rename_i h1
  split at k
  ·rename_i h2
   split at k
   ·rename_i h3;exact ⟨h1,h2,h3⟩
   ·cases k
  ·rename_i h2;exact absurd k h2
 ·rename_i h1;exact absurd k h1
theorem box_ok {r:Reg} {a:List Int} (h:ckB r a=0) (s:r.S=2):r.L.length=a.length/\r.H.length=a.length/\a.length<=64/\allR r.L=true/\allR r.H=true/\allR a=true/\below r.L r.H a.length=true:=by
 obtain ⟨h1,h2⟩:=ckB_ok h
 obtain ⟨h3,h4,h5⟩:=cornE_ok ((ckR_ok h1).1 s)
 obtain ⟨a1,a2,a3,a4⟩:=chk_ok h3
 obtain ⟨b1,b2,b3,b4⟩:=chk_ok h4
 obtain ⟨c1,c2,c3,c4⟩:=chk_ok h2
 have e1:r.L.length=a.length:=by omega
 rw [e1] at h5
 exact ⟨e1,by omega,c2,a4,b4,c4,h5⟩
theorem ball_ok {r:Reg} {a:List Int} (h:ckB r a=0) (s:r.S=3):r.L.length=a.length/\r.L.length<=64/\allR r.L=true/\allR a=true:=by
 obtain ⟨h1,h2⟩:=ckB_ok h
 obtain ⟨a1,a2,a3,a4⟩:=chk_ok ((ckR_ok h1).2.1 s)
 obtain ⟨c1,c2,c3,c4⟩:=chk_ok h2
 exact ⟨by omega,a2,a4,c4⟩
theorem three_call {W w':World} {p0 p1 p2:Addr} {v0 v1 v2:Value} (g:Gr W w') (h:W.cell? p0=some v0/\W.cell? p1=some v1/\W.cell? p2=some v2) :
  w'.cell? p0=some v0/\w'.cell? p1=some v1/\w'.cell? p2=some v2:=⟨g.keeps h.1,g.keeps h.2.1,g.keeps h.2.2⟩
def insV (r:Reg) (a:List Int):Bool:=decide (ckB r a=0) && inV r a
def bndV (r:Reg) (a:List Int):Nat:=if ckB r a=0 then bdV r a else 0
theorem bound_c {w:World} {v u:Value} {r:Reg} {a:List Int} (hv:RdR w v r) (hu:RdI w u a) (hlen:r.I.length<=4611686018427387904) (hR:r.R < 340282366920938463463374607431768211456) :
  Calls Tryz.prog 62 #[v,u] w fun e w'=>e=.returned (.tuple #[Wd (bndV r a),.int .i64 (ckB r a)])/\Gr w w':=by
 have HV:Hid (RdR w v r):=hv
 obtain ⟨vl,vh,vi,rfl,hL,hH,hI⟩:=hv
 have RA:Hid (RegAt (w.alloc (rc r vl vh vi)) w.heap.size r vl vh vi):=RegAt.new w r vl vh vi
 have G00:Gr w (w.alloc (rc r vl vh vi)):=(Gr.refl _).alloc _ _
 have G01:Gr (w.alloc (rc r vl vh vi)) ((w.alloc (rc r vl vh vi)).alloc (.cells #[.int .u64 0,.int .u64 0] 58)):=(Gr.refl _).alloc _ _
 have G0:=G00.trans G01
 have C1:=fun x hx=>checkBoth_v (HV.out.gb G0.gb) (hu.gb G0.gb) hlen x hx
 by_cases h0:ckB r a=0
 ·have c1:=C1 _ h0
  have E:Hid (bndV r a=bdV r a):=by unfold Hid bndV;rw [if_pos h0]
  rw [E.out,h0]
  clear C1 E
  have E:Hid (bdV r a=if r.S=2 then bx r.L r.H a else if r.S=3 then ballV (dst r.L a) r.R else 0):=rfl
  generalize bdV r a=res at *
  by_cases s2:r.S=2
  ·obtain ⟨k1,k2,k3,k4,k5,k6,k7⟩:=box_ok h0 s2
   rw [if_pos s2] at E
   have c2:=fun W' (g:Gr ((w.alloc (rc r vl vh vi)).alloc (.cells #[.int .u64 0,.int .u64 0] 58)) W')=>boxBound_c (HV.out.gb (G0.trans g).gb) (hu.gb (G0.trans g).gb) k1 k2 k3 k4 k5 k6
   rw [<- E.out] at c2
   obtain ⟨pa,ca,rfl,_⟩:=hu
   clear HV hL hH hI h0 k1 k2 k3 k4 k5 k6 k7 hlen hR E
   obtain ⟨S,L,H,R,I⟩:=r
   dsimp only at *
   subst s2
   generalize a.length=na at *
   go_enter Tryz.func62,Tryz.ntmps62
   go_wp2_with fail
   refine c1.mono ?_
   rintro e w1 ⟨rfl,g1⟩
   obtain ⟨q0,q1,q2,q3,q4,q5⟩:=RA.out.gb (G01.trans g1).gb
   dsimp only at q0 q1 q2 q3 q4 q5
   go_wp2_with fail
   refine (c2 _ g1).mono ?_
   rintro e w2 ⟨rfl,g2⟩
   have G2:=g1.trans g2
   have VV:=G2.var2
   simp only [World.size_alloc] at VV
   obtain ⟨v0,v1,v2,v3⟩:=VV
   go_wp2
   exact bodyPost_ret (v:=.tuple #[Wd res,.int .i64 0]) (by simp [results,Tryz.results62,go_sem,v0,v1]) rfl ⟨rfl,by repeat (first | exact G0.trans G2 | refine Gr.setCell ?_ (by simp) _)⟩
  ·have s2':(r.S == 2)=false:=by rw [beq_eq_false_iff_ne];exact s2
   rw [if_neg s2] at E
   by_cases s3:r.S=3
   ·obtain ⟨k1,k2,k3,k4⟩:=ball_ok h0 s3
    rw [if_pos s3] at E
    have c2:=fun W' (g:Gr ((w.alloc (rc r vl vh vi)).alloc (.cells #[.int .u64 0,.int .u64 0] 58)) W')=>ballBound_c (HV.out.gb (G0.trans g).gb) (hu.gb (G0.trans g).gb) k1 k2 k3 k4 hR
    rw [<- E.out] at c2
    obtain ⟨pa,ca,rfl,_⟩:=hu
    clear HV hL hH hI h0 k1 k2 k3 k4 hlen hR E s2 s2'
    obtain ⟨S,L,H,R,I⟩:=r
    dsimp only at *
    subst s3
    generalize a.length=na at *
    go_enter Tryz.func62,Tryz.ntmps62
    go_wp2_with fail
    refine c1.mono ?_
    rintro e w1 ⟨rfl,g1⟩
    obtain ⟨q0,q1,q2,q3,q4,q5⟩:=RA.out.gb (G01.trans g1).gb
    dsimp only at q0 q1 q2 q3 q4 q5
    go_wp2_with fail
    refine (c2 _ g1).mono ?_
    rintro e w2 ⟨rfl,g2⟩
    have G2:=g1.trans g2
    have VV:=G2.var2
    simp only [World.size_alloc] at VV
    obtain ⟨v0,v1,v2,v3⟩:=VV
    go_wp2
    exact bodyPost_ret (v:=.tuple #[Wd res,.int .i64 0]) (by simp [results,Tryz.results62,go_sem,v0,v1]) rfl ⟨rfl,by repeat (first | exact G0.trans G2 | refine Gr.setCell ?_ (by simp) _)⟩
   ·have s3':(r.S == 3)=false:=by rw [beq_eq_false_iff_ne];exact s3
    rw [if_neg s3] at E
    have e:=E.out
    subst e
    obtain ⟨pa,ca,rfl,_⟩:=hu
    clear HV hL hH hI h0 hlen hR E s2 s3
    obtain ⟨S,L,H,R,I⟩:=r
    dsimp only at *
    generalize a.length=na at *
    go_enter Tryz.func62,Tryz.ntmps62
    go_wp2_with fail
    refine c1.mono ?_
    rintro e w1 ⟨rfl,g1⟩
    obtain ⟨q0,q1,q2,q3,q4,q5⟩:=RA.out.gb (G01.trans g1).gb
    dsimp only at q0 q1 q2 q3 q4 q5
    have VV:=g1.var2
    simp only [World.size_alloc] at VV
    obtain ⟨v0,v1,v2,v3⟩:=VV
    go_wp2
    exact bodyPost_ret (v:=.tuple #[Wd 0,.int .i64 0]) (by simp [results,Tryz.results62,go_sem,v0,v1,hi,lo]) rfl ⟨rfl,by repeat (first | exact G0.trans g1 | refine Gr.setCell ?_ (by simp) _)⟩
 ·have c1:=C1 _ rfl
  have E:bndV r a=0:=by unfold bndV;rw [if_neg h0]
  have h1:(ckB r a == 0)=false:=by rw [beq_eq_false_iff_ne];exact h0
  rw [E]
  obtain ⟨pa,ca,rfl,_⟩:=hu
  clear C1 E HV hL hH hI hlen hR h0
  generalize ckB r a=res at *
  obtain ⟨S,L,H,R,I⟩:=r
  generalize a.length=na at *
  go_enter Tryz.func62,Tryz.ntmps62
  go_wp2_with fail
  refine c1.mono ?_
  rintro e w1 ⟨rfl,g1⟩
  have VV:=g1.var2
  simp only [World.size_alloc] at VV
  obtain ⟨v0,v1,v2,v3⟩:=VV
  go_wp2
  exact bodyPost_ret (v:=.tuple #[Wd 0,.int .i64 res]) (by simp [results,Tryz.results62,go_sem,v0,v1,hi,lo]) rfl ⟨rfl,by repeat (first | exact G0.trans g1 | refine Gr.setCell ?_ (by simp) _)⟩
end Go.Proofs.YtgbgejflmbhigaaGreat

namespace Go.Proofs.YtgbgejflmbhigaaGreat
open Go.RowKit Go.Sort Go.Maps
set_option maxRecDepth 100000
set_option maxHeartbeats 4000000
def SrtI (l:List Int):Prop:=l.Pairwise fun x y=>x<=y
theorem srt_perm (l:List Int):(srt l).Perm l:=List.mergeSort_perm l _
theorem srt_srtI (l:List Int):SrtI (srt l):=by
 have h:=List.pairwise_mergeSort (le:=fun x y:Int=>decide (x<=y)) (fun a b c h1 h2=>by
  simp only [decide_eq_true_eq] at *;omega) (fun a b=>by
  by_cases h:a<=b
  ·simp [h]
  ·have:b<=a:=by omega
   simp [this]) l
 exact h.imp (fun h=>by simpa using h)
theorem srtI_unique:∀ (l l':List Int),SrtI l->SrtI l'->l.Perm l'->l=l'
 | [],l',_,_,p=>(List.Perm.nil_eq p)
 | a :: r,[],_,_,p=>absurd p.length_eq (by simp)
 | a :: r,b :: r',h,h',p=>by
  have hb:b ∈ a :: r:=p.symm.subset List.mem_cons_self
  have ha:a ∈ b :: r':=p.subset List.mem_cons_self
  have e:a=b:=by
   rcases List.mem_cons.1 hb with e | hb
   ·exact e.symm
   rcases List.mem_cons.1 ha with e | ha
   ·exact e
   have h1:=List.rel_of_pairwise_cons h hb
   have h2:=List.rel_of_pairwise_cons h' ha
   omega
  subst e
  rw [srtI_unique r r' (List.Pairwise.of_cons h) (List.Pairwise.of_cons h') (List.Perm.cons_inv p)]
def insI (x:Int):List Int->List Int
 | []=>[x]
 | y :: r=>if y < x then y :: insI x r else x :: y :: r
theorem insI_perm (x:Int):∀ l,(insI x l).Perm (x :: l)
 | []=>List.Perm.refl _
 | y :: r=>by
  unfold insI
  split
  ·exact ((insI_perm x r).cons y).trans (List.Perm.swap x y r)
  ·exact List.Perm.refl _
theorem insI_len (x:Int) (l:List Int):(insI x l).length=l.length + 1:=by rw [(insI_perm x l).length_eq];rfl
theorem insI_srtI (x:Int):∀ l,SrtI l->SrtI (insI x l)
 | [],_=>List.pairwise_singleton _ _
 | y :: r,h=>by
  unfold insI
  split
  ·rename_i hx
   refine List.Pairwise.cons ?_ (insI_srtI x r (List.Pairwise.of_cons h))
   intro z hz
   rcases List.mem_cons.1 ((insI_perm x r).subset hz) with rfl | hz
   ·omega
   ·exact List.rel_of_pairwise_cons h hz
  ·rename_i hx
   refine List.Pairwise.cons ?_ h
   intro z hz
   rcases List.mem_cons.1 hz with rfl | hz
   ·omega
   ·have:=List.rel_of_pairwise_cons h hz;omega
theorem srt_snocI (l:List Int) (x:Int):srt (l ++ [x])=insI x (srt l):=by
 refine srtI_unique _ _ (srt_srtI _) (insI_srtI x _ (srt_srtI l)) ?_
 refine (srt_perm _).trans (List.Perm.trans ?_ (insI_perm x _).symm)
 exact (List.perm_append_singleton x l).trans ((srt_perm l).symm.cons x)
theorem insI_at (x:Int):∀ (l:List Int) (q:Nat),(∀ i,i < q->l[i]! < x)->q<=l.length->(q < l.length->¬ l[q]! < x)->insI x l=l.take q ++ [x] ++ l.drop q
 | [],q,_,hq,_=>by
  obtain rfl:q=0:=by simpa using hq
  rfl
 | y :: r,0,_,_,h=>by
  have:=h (by simp)
  simp only [List.getElem!_cons_zero] at this
  unfold insI
  rw [if_neg this];rfl
 | y :: r,q + 1,h1,h2,h3=>by
  have h0:=h1 0 (by omega)
  simp only [List.getElem!_cons_zero] at h0
  unfold insI
  rw [if_pos h0,insI_at x r q (fun i hi=>by have:=h1 (i + 1) (by omega);simpa using this) (by simpa using h2) (fun hq=>by have:=h3 (by simpa using hq);simpa using this)]
  rfl
theorem news_take {w:World} {g cap:Nat} {l:List Int} (h:RdI w (.slice (some ⟨g,0,none⟩) l.length cap) l) (q:Nat):∀ j u,((l.take q).map (Value.int .i64))[j]? = some u->w.cell? ((⟨g,0,none⟩:Addr).add j)=some u:=by
 intro j u hj
 rw [List.getElem?_map] at hj
 obtain ⟨y,hy,rfl⟩:=Option.map_eq_some_iff.1 hj
 obtain ⟨hjl,hy⟩:=List.getElem?_eq_some_iff.1 hy
 obtain ⟨a',c',e,ha⟩:=h
 cases e
 have hj':j < l.length:=by rw [List.length_take] at hjl;omega
 obtain ⟨b',o',e,hc⟩:=ha j hj'
 cases e
 rw [Addr.add_lit,hc,getElem!_pos l j hj',<- hy];simp
theorem news_drop {w:World} {g cap:Nat} {l:List Int} (h:RdI w (.slice (some ⟨g,0,none⟩) l.length cap) l) (q:Nat):∀ j u,((l.drop q).map (Value.int .i64))[j]? = some u->w.cell? ((⟨g,q,none⟩:Addr).add j)=some u:=by
 intro j u hj
 rw [List.getElem?_map] at hj
 obtain ⟨y,hy,rfl⟩:=Option.map_eq_some_iff.1 hj
 obtain ⟨hjl,hy⟩:=List.getElem?_eq_some_iff.1 hy
 obtain ⟨a',c',e,ha⟩:=h
 cases e
 have hj':q + j < l.length:=by rw [List.length_drop] at hjl;omega
 obtain ⟨b',o',e,hc⟩:=ha (q + j) hj'
 cases e
 rw [Nat.zero_add] at hc
 rw [Addr.add_lit,hc,getElem!_pos l (q + j) hj',<- hy];simp
theorem rwith_gb {w W w1 w2:World} {o:Obj} {v1:Value} {n:Nat} {xs:List Value} (G:Gb w W) (h1:W.grownBy w1 (Value.ownBlock (.slice none 0 0))) (ho:w1.ownsRow w.heap.size 3 1 v1 n xs) (h2:(w1.alloc o).grownBy w2 v1.ownBlock):Gb w w2:=by
 have g1:Gb w w1:=below_grown G h1 (fun k e=>by cases e) G.size
 exact below_grown (gb_alloc g1 o) h2 (fun k e=>(ho.lt k e).1) (gb_alloc g1 o).size
theorem rwith_fin {w w2 w3:World} {v2 v3:Value} {n m q:Nat} {xs:List Value} {x:Int} {l:List Int} (G:Gb w w2) (h3:w3.ownsRow w.heap.size 3 1 v3 (n + m) ([] ++ (l.take q).map (Value.int .i64) ++ [.int .i64 x] ++ (l.drop q).map (Value.int .i64)))
  (h2:w2.ownsRow w.heap.size 3 1 v2 n xs) (hg:w2.grownBy w3 v2.ownBlock) (hi:insI x l=l.take q ++ [x] ++ l.drop q) (hs:n + m=l.length + 1):Own w3 w.heap.size v3 (insI x l)/\Gb w w3:=by
 refine ⟨?_,below_grown G hg (fun k e=>(h2.lt k e).1) G.size⟩
 unfold Own
 rw [insI_len,<- hs,hi]
 simpa using h3
theorem rwith_c {w:World} {B:Nat} {v:Value} {l:List Int} (h:Own w B v l) (hn:l.length<=4000) (x:Int) :
  Calls Tryz.prog 120 #[v,.int .i64 x] w fun e w'=>∃ v',e=.returned v'/\Own w' w.heap.size v' (insI x l)/\Gb w w':=by
 obtain ⟨i0,hi,hz0,hz1,hz2⟩:=info_parts Tryz.info3
 have II:Hid (Tryz.prog.info? 3=some i0/\i0.zero=some (.int .i64 0)/\i0.size=1/\i0.bytes=8):=⟨hi,hz0,hz1,hz2⟩
 clear hi hz0 hz1 hz2
 rcases h.2 with ⟨rfl,h0⟩ | ⟨g,cap,cur,rfl,_,_,hnc,_⟩
 ·have D:Hid (l=[]):=List.eq_nil_of_length_eq_zero h0
  clear h h0 hn
  go_enter Tryz.func120,Tryz.ntmps120
  go_wp2
  refine wp_loop_rounds 1 ?_
  rw [rounds_succ]
  go_wp2_with (first
   | (at_builtin;refine wpList_append_own _ rfl _ _ 37 rfl w.heap.size 3 i0 (.int .i64 0) 1 8 Tryz.underlying37 II.out.1 II.out.2.1 II.out.2.2.1 II.out.2.2.2 rfl (by decide) (.slice none 0 0) 0 [] rfl (World.ownsRow_nil _ _ _ _) ⟨w.heap.size,0,none⟩ 1 1 [.int .i64 x] rfl rfl (cell_one_new _ _ _) (by simp [Value.oneCell']) (by decide) (by omega) (by rw [World.size_alloc];omega) ?_;intro v1 w1 ho1 hg1 _)
   | (at_builtin;refine wpList_append_own_none rfl _ _ 37 rfl w.heap.size 3 i0 1 Tryz.underlying37 II.out.1 v1 _ _ rfl ho1 rfl ?_))
  go_ret
  refine ⟨v1,rfl,?_,?_⟩
  ·rw [D.out];exact ho1
  ·exact below_grown (gb_alloc (Below.refl _ _) _) hg1 (fun k e=>by cases e) (by simp)
 ·have LL:Hid (RdI w (.slice (some ⟨g,0,none⟩) l.length cap) l):=h.rd
  obtain ⟨n,hN⟩:∃ n,n=l.length:=⟨_,rfl⟩
  have N:Hid (n=l.length):=hN
  have CC:n<=cap:=by rw [hN];exact hnc
  rw [<- hN] at hn ⊢
  clear h hN hnc
  go_enter Tryz.func120,Tryz.ntmps120
  go_wp2
  go_loopw [5] (fun iv w'=>∃ q:Nat,iv=.int .i64 (q:Int)/\q<=n/\Hid ((∀ i,i < q->l[i]! < x)/\Gb w w')) (fun iv _=>n - (intOf iv).toNat)
  case atStart=>exact ⟨0,rfl,Nat.zero_le _,⟨fun i hi=>absurd hi (Nat.not_lt_zero _),Below.refl _ _⟩⟩
  case round =>
   obtain ⟨q,rfl,hq,X⟩:=hrel
   by_cases hqn:q < n
   ·have hqi:(q:Int) < (n:Int):=by omega
    obtain ⟨_,_,e,hc⟩:=LL.out
    cases e
    obtain ⟨_,_,e,hc⟩:=hc q (by have:=N.out;omega)
    cases e
    rw [Nat.zero_add] at hc
    replace hc:=gb_keeps X.out.2 hc
    by_cases hlt:l[q]! < x
    ·have R:Hid (∀ i,i < q + 1->l[i]! < x):=fun i hi=>by
      by_cases e:i=q
      ·rw [e];exact hlt
      ·exact X.out.1 i (by omega)
     generalize l[q]! = y at *
     go_wp2
     go_roundw
     case rel=>exact ⟨q + 1,by simp,hqn,R.out,X.out.2⟩
     case measure=>simp [intOf];omega
    ·have IA:Hid (insI x l=l.take q ++ [x] ++ l.drop q):=insI_at x _ q X.out.1 (by have:=N.out;omega) (fun _=>hlt)
     generalize l[q]! = y at *
     have GW:Hid (Gb w wr):=X.out.2
     have hqc:q<=cap:=by omega
     have hq0:(0:Int)<=(q:Int):=by omega
     have hq1:(q:Int)<=(cap:Int):=by omega
     have hq2:(q:Int)<=(n:Int):=by omega
     have hq3:(n:Int)<=(cap:Int):=by omega
     clear X
     go_wp2_with (first
      | (at_builtin;refine wpList_append_own _ rfl _ _ 37 rfl w.heap.size 3 i0 (.int .i64 0) 1 8 Tryz.underlying37 II.out.1 II.out.2.1 II.out.2.2.1 II.out.2.2.2 rfl (by decide) (.slice none 0 0) 0 [] rfl (World.ownsRow_nil _ _ _ _) ⟨g,0,none⟩ q cap ((l.take q).map (Value.int .i64)) rfl (by rw [List.length_map,List.length_take];have:=N.out;omega) (news_take (LL.out.gb GW.out) q) (ints_oneCell .i64 _) (by simp only [maxLen];omega) (by omega) GW.out.size ?_;intro v1 w1 ho1 hg1 _)
      | (at_builtin;refine wpList_append_own _ rfl _ _ 37 rfl w.heap.size 3 i0 (.int .i64 0) 1 8 Tryz.underlying37 II.out.1 II.out.2.1 II.out.2.2.1 II.out.2.2.2 rfl (by decide) v1 (0 + q) ([] ++ (l.take q).map (Value.int .i64)) rfl (ho1.alloc _) ⟨w1.heap.size,0,none⟩ 1 1 [.int .i64 x] rfl rfl (cell_one_new _ _ _) (by simp [Value.oneCell']) (by simp only [maxLen];omega) (by omega) (by have h1:=GW.out.size;have h2:=hg1.size;simp <;> omega) ?_;intro v2 w2 ho2 hg2 _)
      | (at_builtin;refine wpList_append_own _ rfl _ _ 37 rfl w.heap.size 3 i0 (.int .i64 0) 1 8 Tryz.underlying37 II.out.1 II.out.2.1 II.out.2.2.1 II.out.2.2.2 rfl (by decide) v2 (0 + q + 1) ([] ++ (l.take q).map (Value.int .i64) ++ [.int .i64 x]) rfl ho2 ⟨g,q,none⟩ (n - q) (cap - q) ((l.drop q).map (Value.int .i64)) rfl (by rw [List.length_map,List.length_drop];have:=N.out;omega) (news_drop (LL.out.gb (rwith_gb GW.out hg1 ho1 hg2)) q) (ints_oneCell .i64 _) (by simp only [maxLen];omega) (by omega) (rwith_gb GW.out hg1 ho1 hg2).size ?_;intro v3 w3 ho3 hg3 _)
      | go_in)
     go_ret
     exact ⟨v3,rfl,rwith_fin (rwith_gb GW.out hg1 ho1 hg2) ho3 ho2 hg3 IA.out (by have:=N.out;omega)⟩
   ·have hqi:¬ (q:Int) < (n:Int):=by omega
    have IA:Hid (insI x l=l.take q ++ [x] ++ l.drop q):=insI_at x _ q X.out.1 (by have:=N.out;omega) (fun h=>by have:=N.out;omega)
    by_cases hcap:q < cap
    ·have hcap':(q:Int) < (cap:Int):=by omega
     have GW:Hid (Gb w wr):=X.out.2
     have hqc:q<=cap:=by omega
     have hq0:(0:Int)<=(q:Int):=by omega
     have hq1:(q:Int)<=(cap:Int):=by omega
     have hq2:(q:Int)<=(n:Int):=by omega
     have hq3:(n:Int)<=(cap:Int):=by omega
     clear X
     go_wp2_with (first
      | (at_builtin;refine wpList_append_own _ rfl _ _ 37 rfl w.heap.size 3 i0 (.int .i64 0) 1 8 Tryz.underlying37 II.out.1 II.out.2.1 II.out.2.2.1 II.out.2.2.2 rfl (by decide) (.slice none 0 0) 0 [] rfl (World.ownsRow_nil _ _ _ _) ⟨g,0,none⟩ q cap ((l.take q).map (Value.int .i64)) rfl (by rw [List.length_map,List.length_take];have:=N.out;omega) (news_take (LL.out.gb GW.out) q) (ints_oneCell .i64 _) (by simp only [maxLen];omega) (by omega) GW.out.size ?_;intro v1 w1 ho1 hg1 _)
      | (at_builtin;refine wpList_append_own _ rfl _ _ 37 rfl w.heap.size 3 i0 (.int .i64 0) 1 8 Tryz.underlying37 II.out.1 II.out.2.1 II.out.2.2.1 II.out.2.2.2 rfl (by decide) v1 (0 + q) ([] ++ (l.take q).map (Value.int .i64)) rfl (ho1.alloc _) ⟨w1.heap.size,0,none⟩ 1 1 [.int .i64 x] rfl rfl (cell_one_new _ _ _) (by simp [Value.oneCell']) (by simp only [maxLen];omega) (by omega) (by have h1:=GW.out.size;have h2:=hg1.size;simp <;> omega) ?_;intro v2 w2 ho2 hg2 _)
      | (at_builtin;refine wpList_append_own _ rfl _ _ 37 rfl w.heap.size 3 i0 (.int .i64 0) 1 8 Tryz.underlying37 II.out.1 II.out.2.1 II.out.2.2.1 II.out.2.2.2 rfl (by decide) v2 (0 + q + 1) ([] ++ (l.take q).map (Value.int .i64) ++ [.int .i64 x]) rfl ho2 ⟨g,q,none⟩ (n - q) (cap - q) ((l.drop q).map (Value.int .i64)) rfl (by rw [List.length_map,List.length_drop];have:=N.out;omega) (news_drop (LL.out.gb (rwith_gb GW.out hg1 ho1 hg2)) q) (ints_oneCell .i64 _) (by simp only [maxLen];omega) (by omega) (rwith_gb GW.out hg1 ho1 hg2).size ?_;intro v3 w3 ho3 hg3 _)
      | go_in)
     go_ret
     exact ⟨v3,rfl,rwith_fin (rwith_gb GW.out hg1 ho1 hg2) ho3 ho2 hg3 IA.out (by have:=N.out;omega)⟩
    ·have hce:q=cap:=by omega
     have DR:Hid ((l.drop q).map (Value.int .i64)=[]):=by
      have:=N.out
      unfold Hid
      rw [List.drop_of_length_le (by omega)];rfl
     have hne':q=n:=by omega
     subst hce
     subst hne'
     clear hcap
     have GW:Hid (Gb w wr):=X.out.2
     have hqc:q<=q:=by omega
     have hq0:(0:Int)<=(q:Int):=by omega
     have hq1:(q:Int)<=(q:Int):=by omega
     have hq2:(q:Int)<=(q:Int):=by omega
     have hq3:(q:Int)<=(q:Int):=by omega
     clear X
     go_wp2_with (first
      | (at_builtin;refine wpList_append_own _ rfl _ _ 37 rfl w.heap.size 3 i0 (.int .i64 0) 1 8 Tryz.underlying37 II.out.1 II.out.2.1 II.out.2.2.1 II.out.2.2.2 rfl (by decide) (.slice none 0 0) 0 [] rfl (World.ownsRow_nil _ _ _ _) ⟨g,0,none⟩ q q ((l.take q).map (Value.int .i64)) rfl (by rw [List.length_map,List.length_take];have:=N.out;omega) (news_take (LL.out.gb GW.out) q) (ints_oneCell .i64 _) (by simp only [maxLen];omega) (by omega) GW.out.size ?_;intro v1 w1 ho1 hg1 _)
      | (at_builtin;refine wpList_append_own _ rfl _ _ 37 rfl w.heap.size 3 i0 (.int .i64 0) 1 8 Tryz.underlying37 II.out.1 II.out.2.1 II.out.2.2.1 II.out.2.2.2 rfl (by decide) v1 (0 + q) ([] ++ (l.take q).map (Value.int .i64)) rfl (ho1.alloc _) ⟨w1.heap.size,0,none⟩ 1 1 [.int .i64 x] rfl rfl (cell_one_new _ _ _) (by simp [Value.oneCell']) (by simp only [maxLen];omega) (by omega) (by have h1:=GW.out.size;have h2:=hg1.size;simp <;> omega) ?_;intro v2 w2 ho2 hg2 _)
      | (at_builtin;refine wpList_append_own _ rfl _ _ 37 rfl w.heap.size 3 i0 (.int .i64 0) 1 8 Tryz.underlying37 II.out.1 II.out.2.1 II.out.2.2.1 II.out.2.2.2 rfl (by decide) v2 (0 + q + 1) ([] ++ (l.take q).map (Value.int .i64) ++ [.int .i64 x]) rfl ho2 _ 0 _ [] rfl (by simp) (by simp) (by simp) (by simp only [maxLen];omega) (by omega) (rwith_gb GW.out hg1 ho1 hg2).size ?_;intro v3 w3 ho3 hg3 _)
      | go_in)
     go_ret
     exact ⟨v3,rfl,rwith_fin (rwith_gb GW.out hg1 ho1 hg2) (by rw [DR.out];exact ho3) ho2 hg3 IA.out (by have:=N.out;omega)⟩
end Go.Proofs.YtgbgejflmbhigaaGreat

namespace Go.Proofs.YtgbgejflmbhigaaGreat
theorem gap_abs (x y:Int):gap x x y=(x - y).natAbs:=by unfold gap;split <;> (try split) <;> omega
theorem gap_comm (x y:Int):gap x x y=gap y y x:=by rw [gap_abs,gap_abs];omega
theorem sumN_ext {f g:Nat->Nat} {n:Nat} (h:∀ i,i < n->f i=g i):sumN f n=sumN g n:=by
 induction n with
 | zero=>rfl
 | succ n ih=>simp only [sumN];rw [ih (fun i hi=>h i (by omega)),h n (by omega)]
theorem sumN_mono {f g:Nat->Nat} {n:Nat} (h:∀ i,i < n->f i<=g i):sumN f n<=sumN g n:=by
 induction n with
 | zero=>exact Nat.le_refl _
 | succ n ih =>
  have:=ih (fun i hi=>h i (by omega))
  have:=h n (by omega)
  simp only [sumN];omega
theorem sumN_zero {f:Nat->Nat} {n:Nat} (h:sumN f n=0) {i:Nat} (hi:i < n):f i=0:=by
 induction n with
 | zero=>omega
 | succ n ih =>
  simp only [sumN] at h
  by_cases e:i=n
  ·subst e;omega
  ·exact ih (by omega) (by omega)
theorem sumN_mul (f:Nat->Nat) (c n:Nat):sumN (fun i=>c * f i) n=c * sumN f n:=by
 induction n with
 | zero=>rfl
 | succ n ih=>simp only [sumN];rw [ih,Nat.mul_add]
theorem sumN_add (f g:Nat->Nat) (n:Nat):sumN (fun i=>f i + g i) n=sumN f n + sumN g n:=by
 induction n with
 | zero=>rfl
 | succ n ih=>simp only [sumN];rw [ih];omega
theorem dst_comm {a b:List Int} (h:a.length=b.length):dst a b=dst b a:=by
 unfold dst;rw [h]
 exact sumN_ext (fun i _=>by rw [gap_comm])
theorem tri_one (x y z:Int) (t u:Nat):t * u * (gap x x z * gap x x z)<=u * (t + u) * (gap x x y * gap x x y) + t * (t + u) * (gap y y z * gap y y z):=by
 rw [gap_abs,gap_abs,gap_abs]
 have e1:((x - z).natAbs:Int) * ((x - z).natAbs:Int)=(x - z) * (x - z):=by rw [Int.natAbs_mul_self' (x - z)]
 have e2:((x - y).natAbs:Int) * ((x - y).natAbs:Int)=(x - y) * (x - y):=by rw [Int.natAbs_mul_self' (x - y)]
 have e3:((y - z).natAbs:Int) * ((y - z).natAbs:Int)=(y - z) * (y - z):=by rw [Int.natAbs_mul_self' (y - z)]
 apply Int.ofNat_le.1
 simp only [Int.natCast_mul,Int.natCast_add]
 rw [e1,e2,e3]
 have h:0<=((u:Int) * (x - y) - (t:Int) * (y - z)) * ((u:Int) * (x - y) - (t:Int) * (y - z)):=by
  rcases Int.le_total 0 ((u:Int) * (x - y) - (t:Int) * (y - z)) with h | h
  ·exact Int.mul_nonneg h h
  ·exact Int.mul_nonneg_of_nonpos_of_nonpos h h
 have h2:(t:Int) * u * ((x - z) * (x - z)) + ((u:Int) * (x - y) - (t:Int) * (y - z)) * ((u:Int) * (x - y) - (t:Int) * (y - z))=(u:Int) * (t + u) * ((x - y) * (x - y)) + (t:Int) * (t + u) * ((y - z) * (y - z)):=by
  grind
 omega
theorem tri_sum (a b c:List Int) (hab:a.length=b.length) (t u:Nat):t * u * dst a c<=u * (t + u) * dst a b + t * (t + u) * dst b c:=by
 unfold dst
 rw [<- hab,<- sumN_mul,<- sumN_mul,<- sumN_mul,<- sumN_add]
 exact sumN_mono (fun i _=>tri_one _ _ _ t u)
theorem tri_lt {a b c:List Int} (hab:a.length=b.length) {t u:Nat} (h1:dst a b<=t * t) (h2:dst b c < u * u):dst a c < (t + u) * (t + u):=by
 by_cases ht:t=0
 ·subst ht
  have hA:dst a b=0:=by omega
  have h:=tri_sum a b c hab 1 (dst b c + 1)
  rw [hA] at h
  apply Nat.lt_of_le_of_lt _ (show dst b c < (0 + u) * (0 + u) by simpa using h2)
  apply Nat.le_of_not_lt
  intro hc
  have h3:(dst b c + 1) * (dst b c + 1)<=(dst b c + 1) * dst a c:=Nat.mul_le_mul_left _ hc
  simp only [Nat.one_mul,Nat.mul_zero,Nat.zero_add] at h
  have h4:(dst b c + 1) * (dst b c + 1)<=(1 + (dst b c + 1)) * dst b c:=Nat.le_trans h3 h
  rw [Nat.add_mul 1,Nat.mul_add] at h4
  omega
 ·have hu:u ≠ 0:=by rintro rfl;simp at h2
  have h:=tri_sum a b c hab t u
  have k1:u * (t + u) * dst a b<=u * (t + u) * (t * t):=Nat.mul_le_mul_left _ h1
  have k2:t * (t + u) * dst b c < t * (t + u) * (u * u):=Nat.mul_lt_mul_of_pos_left h2 (Nat.mul_pos (by omega) (by omega))
  have k3:u * (t + u) * (t * t) + t * (t + u) * (u * u)=t * u * ((t + u) * (t + u)):=by grind
  exact Nat.lt_of_mul_lt_mul_left (a:=t * u) (by omega)
theorem ball_bound {l v q:List Int} (hlv:l.length=v.length) {R:Nat} (h:dst l v<=R):ballV (dst l q) R<=dst v q:=by
 unfold ballV
 split
 ·exact Nat.zero_le _
 ·rename_i h0
  apply Nat.le_of_not_lt
  intro hc
  have hR:R<=rup R * rup R:=by
   unfold rup;split
   ·rename_i e;omega
   ·have:=(rt_is R).2;omega
  have hu:rup R < rt (dst l q):=by
   apply Nat.lt_of_not_le;intro hle
   rw [Nat.sub_eq_zero_of_le hle] at hc;simp at hc
  have:=tri_lt (c:=q) hlv (t:=rup R) (u:=rt (dst l q) - rup R) (by omega) hc
  rw [Nat.add_sub_cancel' (by omega)] at this
  have:=(rt_is (dst l q)).1
  omega
theorem gap_out {l h x y:Int} (h1:gap l h x=0):gap l h y<=gap x x y:=by
 unfold gap at *;split at h1 <;> (try split at h1) <;> split <;> (try split) <;> (try split) <;> (try split) <;> omega
theorem bound_le {r:Reg} {v q:List Int} (h1:ckB r v=0) (h2:ckB r q=0) (hin:inV r v=true):bdV r q<=dst v q:=by
 unfold bdV
 unfold inV at hin
 split
 ·rename_i s
  rw [if_pos s] at hin
  obtain ⟨a1,a2,a3,a4,a5,a6,a7⟩:=box_ok h1 s
  obtain ⟨b1,b2,b3,b4,b5,b6,b7⟩:=box_ok h2 s
  have h0:bx r.L r.H v=0:=by simpa using hin
  have e:v.length=q.length:=by omega
  unfold bx bxN at h0 ⊢
  unfold dst
  rw [e] at h0 ⊢
  refine sumN_mono (fun i hi=>?_)
  have h3:=sumN_zero h0 hi
  have h4:gap r.L[i]! r.H[i]! v[i]! = 0:=by
   rcases Nat.mul_eq_zero.1 h3 with h | h <;> exact h
  exact Nat.mul_le_mul (gap_out h4) (gap_out h4)
 ·rename_i s
  rw [if_neg s] at hin
  split
  ·rename_i s3
   rw [if_pos s3] at hin
   obtain ⟨a1,_⟩:=ball_ok h1 s3
   exact ball_bound a1 (by simpa using hin)
  ·exact Nat.zero_le _
end Go.Proofs.YtgbgejflmbhigaaGreat

namespace Go.Proofs.YtgbgejflmbhigaaGreat
open Go.RowKit Go.Sort Go.Maps
theorem Tryz.infoW:(Tryz.prog.info? 39).map (fun i=>(i.zero,i.size,i.bytes))=some (some (.agg #[.int .i64 0,.slice none 0 0]),2,32):=by kernel_rfl
theorem info_partsW:∃ i0,Tryz.prog.info? 39=some i0/\i0.zero=some (.agg #[.int .i64 0,.slice none 0 0])/\i0.size=2/\i0.bytes=32:=by
 obtain ⟨i,hi,hzz⟩:=Option.map_eq_some_iff.1 Tryz.infoW
 simp only [Prod.mk.injEq] at hzz
 exact ⟨i,hi,hzz.1,hzz.2.1,hzz.2.2⟩
def CellsW (w:World) (xs:List Value) (rs:List Rw):Prop:=∀ i,i < rs.length->xs[i * 2]? = some (.int .i64 rs[i]!.1)/\∃ u,xs[i * 2 + 1]? = some u/\RdI w u rs[i]!.2
theorem CellsW.gb {w w':World} {xs:List Value} {rs:List Rw} (h:CellsW w xs rs) (g:Gb w w'):CellsW w' xs rs:=fun i hi=>by
 obtain ⟨h1,u,h2,h3⟩:=h i hi
 exact ⟨h1,u,h2,h3.gb g⟩
theorem CellsW.snoc {w:World} {xs:List Value} {rs:List Rw} {r:Rw} {u:Value} (h:CellsW w xs rs) (hl:xs.length=rs.length * 2) (hu:RdI w u r.2):CellsW w (xs ++ [.int .i64 r.1,u]) (rs ++ [r]):=fun i hi=>by
 rw [List.length_append] at hi
 by_cases e:i < rs.length
 ·rw [getElem!_pos (rs ++ [r]) i (by rw [List.length_append];exact hi),List.getElem_append_left e,<- getElem!_pos rs i e,List.getElem?_append_left (by omega),List.getElem?_append_left (by omega)]
  exact h i e
 ·have e':i=rs.length:=by simp at hi;omega
  subst e'
  have e2:(rs ++ [r])[rs.length]! = r:=by rw [getElem!_pos _ _ (by simp)];simp
  rw [e2,List.getElem?_append_right (by omega),List.getElem?_append_right (by omega),hl]
  exact ⟨by simp,u,by rw [show rs.length * 2 + 1 - rs.length * 2=1 by omega];rfl,hu⟩
def OwnW (w W:World) (B:Nat) (v:Value) (rs:List Rw):Prop:=∃ xs,W.ownsRow B 39 2 v rs.length xs/\CellsW w xs rs
theorem ownW_nil (w W:World) (B:Nat):OwnW w W B (.slice none 0 0) []:=⟨[],World.ownsRow_nil W B _ _,fun _ hi=>absurd hi (Nat.not_lt_zero _)⟩
theorem OwnW.kept {w W W':World} {B:Nat} {v:Value} {rs:List Rw} {row:Option Nat} (h:OwnW w W B v rs) (hg:W.grownBy W' row) (hne:v.ownBlock=none ∨ v.ownBlock ≠ row):OwnW w W' B v rs:=by
 obtain ⟨xs,h1,h2⟩:=h
 exact ⟨xs,h1.kept hg hne,h2⟩
theorem OwnW.gb {w W W':World} {B:Nat} {v:Value} {rs:List Rw} (h:OwnW w W B v rs) (g:Gb W W'):OwnW w W' B v rs :=
 h.kept (row:=none) ⟨g.os,g.tape,g.output,g.size,fun k hk _=>g.block k hk⟩ (by cases hv:v.ownBlock <;> simp)
theorem OwnW.rdw {w W:World} {B:Nat} {v:Value} {rs:List Rw} (h:OwnW w W B v rs) (g:Gb w W):RdW W v rs:=by
 obtain ⟨xs,h,hx⟩:=h
 rcases h.2 with ⟨rfl,h0⟩ | ⟨b,cap,cur,rfl,_⟩
 ·have:rs=[]:=List.eq_nil_of_length_eq_zero h0
  subst this
  exact ⟨none,0,rfl,fun i hi=>absurd hi (Nat.not_lt_zero _)⟩
 ·refine ⟨_,cap,rfl,fun i hi=>?_⟩
  obtain ⟨h1,u,h2,h3⟩:=hx i hi
  have c1:=World.ownsRow.cells h (g:=b) rfl (i * 2) _ h1
  have c2:=World.ownsRow.cells h (g:=b) rfl (i * 2 + 1) _ h2
  rw [Addr.add_lit] at c1 c2
  exact ⟨b,0,u,rfl,c1,by rw [Nat.add_assoc];exact c2,h3.gb g⟩
theorem OwnW.form {w W:World} {B:Nat} {v:Value} {rs:List Rw} (h:OwnW w W B v rs):∃ a cap,v=.slice a rs.length cap:=by
 obtain ⟨xs,h,_⟩:=h
 rcases h.2 with ⟨rfl,h0⟩ | ⟨b,cap,cur,rfl,_⟩
 ·exact ⟨none,0,by rw [h0]⟩
 ·exact ⟨_,cap,rfl⟩
theorem two_cells (w:World) (x y:Value) (t:TypeId):∀ j u,[x,y][j]? = some u->(w.alloc (.cells #[x,y] t)).cell? ((⟨w.heap.size,0,none⟩:Addr).add j)=some u:=by
 intro j u hj
 rw [Addr.add_lit]
 rcases j with _ | _ | j <;> simp at hj
 ·subst hj;simp [go_sem]
 ·subst hj;simp [go_sem]
theorem own_neW {w W:World} {B B':Nat} {u v:Value} {x:List Int} {rs:List Rw} (h:Own W B u x) (r:OwnW w W B' v rs):u.ownBlock=none ∨ u.ownBlock ≠ v.ownBlock:=by
 obtain ⟨xs,r,_⟩:=r
 rcases h.2 with ⟨rfl,_⟩ | ⟨g,cap,cur,rfl,_,hh,_⟩
 ·exact .inl rfl
 ·refine .inr fun e=>?_
  rcases r.2 with ⟨rfl,_⟩ | ⟨g',cap',cur',rfl,_,hh',_⟩
  ·cases e
  ·cases e
   rw [hh] at hh'
   simp at hh'
end Go.Proofs.YtgbgejflmbhigaaGreat

namespace Go.Proofs.YtgbgejflmbhigaaGreat.Tk
open Go.RowKit Go.Sort
def Has (w:World) (hb k:Nat) (v:Value) (m:List Ht):Prop :=
 ∃ d,Hp w hb (k:Int) v d/\MaxH d/\d.toList.Perm m/\Srtd m/\m.length<=k/\1<=k/\k<=64
theorem Has.gr {w w':World} {hb k:Nat} {v:Value} {m:List Ht} (h:Has w hb k v m) (g:Gr w w'):Has w' hb k v m:=by
 obtain ⟨d,h1,r⟩:=h;exact ⟨d,h1.gr g,r⟩
theorem Has.kp {S:Nat->Prop} {w w':World} {hb k:Nat} {v:Value} {m:List Ht} (h:Has w hb k v m) (K:Kp S w w') (h1:¬ S hb) (h2:∀ g,v.ownBlock=some g->¬ S g):Has w' hb k v m:=by
 obtain ⟨d,hd,r⟩:=h;exact ⟨d,hd.kp K h1 h2,r⟩
theorem Has.lt {w:World} {hb k:Nat} {v:Value} {m:List Ht} (h:Has w hb k v m):hb < w.heap.size:=by obtain ⟨d,h1,_⟩:=h;exact h1.lt
theorem Has.own_lt {w:World} {hb k:Nat} {v:Value} {m:List Ht} (h:Has w hb k v m) {g:Nat} (hg:v.ownBlock=some g):g < w.heap.size:=by
 obtain ⟨d,h1,_⟩:=h;exact YtgbgejflmbhigaaGreat.Tk.own_lt h1.own hg
theorem new_has (k:Nat) (h1:1<=k) (h2:k<=64) (w:World):Has (w.alloc (.cells #[.int .i64 (k:Int),.slice none 0 0] 113)) w.heap.size k (.slice none 0 0) [] :=
 ⟨#[],new_hp _ w,fun _ _ h=>absurd h (Nat.not_lt_zero _),List.Perm.refl _,List.Pairwise.nil,Nat.zero_le _,h1,h2⟩
theorem root_last {d:Array Ht} {m:List Ht} (hm:MaxH d) (p:d.toList.Perm m) (hs:Srtd m) {k:Nat} (hk:m.length=k) (h0:0 < k):d[0]! = m[k - 1]! := by
 have hd:d.size=k:=by have:=p.length_eq;simp at this;omega
 have a1:d[0]! ∈ m:=p.subset (by rw [getElem!_pos d 0 (by omega)];exact Array.mem_toList_iff.2 (Array.getElem_mem _))
 have a2:m[k - 1]! ∈ d.toList:=p.symm.subset (by rw [getElem!_pos m (k - 1) (by omega)];exact List.getElem_mem _)
 have b1:=last_worst hs k hk _ a1
 obtain ⟨i,hi,e⟩:=List.mem_iff_getElem.1 a2
 have b2:=maxh_root hm i (by simpa using hi)
 rw [getElem!_pos d i (by simpa using hi)] at b2
 simp only [Array.getElem_toList] at e
 rw [e] at b2
 exact hlt_tot b2 b1
def Offered (w w':World) (hb k:Nat) (v:Value) (m:List Ht) (x:Ht):Prop :=
 ∃ v',Has w' hb k v' (keep k m x)/\Kp (fun b=>b=hb ∨ some b=v.ownBlock) w w'/\(v'.ownBlock=v.ownBlock ∨ ∀ g,v'.ownBlock=some g->w.heap.size<=g)
theorem offer_has {w:World} {hb k:Nat} {v:Value} {m:List Ht} (h:Has w hb k v m) (x:Ht) :
  Calls Tryz.prog 108 #[.pointer (some ⟨hb,0,none⟩),hv x] w fun e w'=>e=.returned (.bool (kept k m x))/\Offered w w' hb k v m x:=by
 have h':=h
 obtain ⟨d,hp,hm,pm,hs,hl,k1,k2⟩:=h
 have hd:d.size=m.length:=by have:=pm.length_eq;simpa using this
 by_cases c:m.length < k
 ·have e:kept k m x=true:=by unfold kept;rw [decide_eq_true c];rfl
  rw [e]
  refine (offer_more hp hm (by omega) (by omega) x).mono ?_
  rintro e w' ⟨rfl,g,cap,d',p1,p2,p3,p4,p5⟩
  refine ⟨rfl,_,⟨d',p3,p2,?_,keep_srtd k x hs,by unfold keep;rw [List.length_take];omega,k1,k2⟩,p4,?_⟩
  ·rw [keep_more x c]
   refine p1.trans ((List.perm_append_singleton x d.toList).trans ((pm.cons x).trans (ins_perm x m).symm))
  ·rcases p5 with p5 | p5
   ·exact .inl p5.symm
   ·right;intro g' hg';simp [Value.ownBlock] at hg';omega
 have hk:m.length=k:=by omega
 have er:=root_last hm pm hs hk (by omega)
 by_cases cx:hlt x m[k - 1]! = true
 ·have e:kept k m x=true:=by unfold kept;rw [cx];simp
  rw [e]
  refine (offer_repl hp hm (by omega) (by omega) (by omega) x (by rw [er];exact cx)).mono ?_
  rintro e w' ⟨rfl,d',p1,p2,p3,p4⟩
  refine ⟨rfl,v,⟨d',p3,p2,?_,keep_srtd k x hs,by unfold keep;rw [List.length_take];omega,k1,k2⟩,p4,.inl rfl⟩
  refine (p1.trans ?_).trans (keep_repl (by omega) hk cx).symm
  have hne:m ≠ []:=by intro e0;subst e0;simp at hk;omega
  obtain ⟨a,z,rfl⟩:∃ a z,m=a ++ [z]:=⟨m.dropLast,m.getLast hne,(List.dropLast_concat_getLast hne).symm⟩
  have ez:(a ++ [z])[k - 1]! = z:=by
   simp only [List.length_append,List.length_cons,List.length_nil] at hk
   rw [getElem!_pos (a ++ [z]) (k - 1) (by simp;omega),List.getElem_append_right (by omega)]
   simp
  rw [ez] at er
  rw [List.dropLast_concat]
  cases hdl:d.toList with
  | nil =>
   have q0:d.toList.length=0:=by rw [hdl];rfl
   rw [Array.length_toList] at q0;omega
  | cons y r =>
   have hy:d[0]! = y:=by
    have hz:0 < d.size:=by omega
    rw [getElem!_pos d 0 hz,<- Array.getElem_toList hz]
    simp [hdl]
   rw [Array.toList_setIfInBounds,hdl,List.set_cons_zero]
   refine List.Perm.cons x ?_
   have q:(y :: r).Perm (z :: a):=by rw [<- hdl];exact pm.trans (List.perm_append_singleton z a)
   rw [<- hy,er] at q
   exact List.Perm.cons_inv q
 ·have cx':hlt x m[k - 1]! = false:=by simpa using cx
  have e:kept k m x=false:=by unfold kept;rw [cx',decide_eq_false c];rfl
  rw [e]
  refine (offer_no hp (by omega) (by omega) (by omega) x (by rw [er];exact cx')).mono ?_
  rintro e w' ⟨rfl,g⟩
  refine ⟨rfl,v,?_,Kp.of_gr g,.inl rfl⟩
  rw [keep_no hs hk cx']
  exact h'.gr g
theorem len_has {w:World} {hb k:Nat} {v:Value} {m:List Ht} (h:Has w hb k v m):Calls Tryz.prog 141 #[.pointer (some ⟨hb,0,none⟩)] w fun e w'=>e=.returned (.int .i64 (m.length:Nat))/\w'=w:=by
 obtain ⟨d,hp,hm,pm,hs,hl,k1,k2⟩:=h
 have:=len17 hp
 rwa [show d.size=m.length by have:=pm.length_eq;simpa using this] at this
theorem worst_has {w:World} {hb k:Nat} {v:Value} {m:List Ht} (h:Has w hb k v m) (h0:0 < m.length):Calls Tryz.prog 105 #[.pointer (some ⟨hb,0,none⟩)] w fun e w'=>e=.returned (.tuple #[hv m[m.length - 1]!,.bool true])/\Gr w w':=by
 obtain ⟨d,hp,hm,pm,hs,hl,k1,k2⟩:=h
 have hd:d.size=m.length:=by have:=pm.length_eq;simpa using this
 have:=worst15 hp (by omega) (by omega)
 rwa [root_last hm pm hs rfl h0] at this
theorem worst_has_none {w:World} {hb k:Nat} {v:Value} {m:List Ht} (h:Has w hb k v m) (h0:m.length=0):Calls Tryz.prog 105 #[.pointer (some ⟨hb,0,none⟩)] w fun e w'=>e=.returned (.tuple #[hv ⟨0,0,0⟩,.bool false])/\Gr w w':=by
 refine worst15_none _ w fun W g=>?_
 have:=len_has (h.gr g)
 rwa [h0] at this
theorem list_has {w:World} {hb k:Nat} {v:Value} {m:List Ht} (h:Has w hb k v m):Calls Tryz.prog 72 #[.pointer (some ⟨hb,0,none⟩)] w fun e w'=>∃ v',e=.returned v'/\Out w w' v' m:=by
 obtain ⟨d,hp,hm,pm,hs,hl,k1,k2⟩:=h
 have hd:d.size=m.length:=by have:=pm.length_eq;simpa using this
 have:=list16 hp (by omega)
 rwa [srt_of_perm hs pm] at this
end Go.Proofs.YtgbgejflmbhigaaGreat.Tk

namespace Go.Proofs.YtgbgejflmbhigaaGreat
open Go.RowKit Go.Shelf
attribute [local go_sem] Oper.semAt_some
theorem grown_of_gb {a b:World} (h:Gb a b):a.grownBy b none:=⟨h.os,h.tape,h.output,h.size,fun k hk _=>h.block k hk⟩
theorem gb_same {a b:World} (h:Gb a b) {k:Nat} {o:Obj} (hk:a.heap[k]? = some o):b.heap[k]? = some o :=
 (h.block k (Array.getElem?_eq_some_iff.1 hk).1).trans hk
def leftOn (I:Nat->World->Prop) (k:Nat) (W:World):Exit->Act->World->Prop
 | .normal,_,W'=>KeepsOthers W W'/\I k W'
 | _,_,_=>False
end Go.Proofs.YtgbgejflmbhigaaGreat
