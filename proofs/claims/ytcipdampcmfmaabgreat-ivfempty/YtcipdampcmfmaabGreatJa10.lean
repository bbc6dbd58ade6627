import Derived.Test.YtcipdampcmfmaabGreatJa6
import Derived.Test.YtcipdampcmfmaabGreatJa9
import Derived.RangeFuncNested
import Derived.RangeFuncBound
import Derived.RangeFuncCalls
import Derived.RangeFuncLeaves
import Derived.Shelf.Abstract
import Derived.Shelf.RegionOpen
import Derived.WalkKit
import Derived.OwnWalkIn
import Derived.TacticsInMore
import Derived.LoopNIn
import Derived.LoopIn
namespace Go.Proofs.YtcipdampcmfmaabGreat
open Go.RowKit Go.Sort
abbrev hitOf (q:List Int) (r:Rw):Tk.Ht:=(r.1,hi (dst q r.2),lo (dst q r.2))
def hitsOf (q:List Int) (rs:List Rw):List Tk.Ht:=rs.map (hitOf q)
def flatE (rs:List Rw) (d:Int):Int:=if 1<=d/\d<=64 then idsE rs d else 30
def askE (rs:List Rw) (q:List Int):Int:=if chk q (q.length:Int)=0 then flatE rs (q.length:Int) else chk q (q.length:Int)
def topE (rs:List Rw) (q:List Int) (k:Int):Int:=if askE rs q=0 then (if 1<=k/\k<=64 then 0 else 1) else askE rs q
theorem chk_is (l:List Int) (d:Int):chk l d=0 ∨ chk l d=30 ∨ chk l d=31:=by
 unfold chk vErr;(repeat' split) <;> simp
theorem rowE_is (rs:List Rw) (d:Int) (i:Nat):rowE rs d i=0 ∨ rowE rs d i=30 ∨ rowE rs d i=31 ∨ rowE rs d i=50:=by
 unfold rowE
 split
 ·rcases chk_is rs[i]!.2 d with h | h | h
  ·exact .inl h
  ·exact .inr (.inl h)
  ·exact .inr (.inr (.inl h))
 ·exact .inr (.inr (.inr rfl))
theorem rowsTo_is (rs:List Rw) (d:Int):∀ q,rowsTo rs d q=0 ∨ rowsTo rs d q=30 ∨ rowsTo rs d q=31 ∨ rowsTo rs d q=50
 | 0=>.inl rfl
 | q + 1=>by
  rw [rowsTo]
  split
  ·exact rowE_is rs d q
  ·exact rowsTo_is rs d q
theorem idsE_ne (rs:List Rw) (d:Int):idsE rs d ≠ 1:=by
 unfold idsE
 split
 ·rcases rowsTo_is rs d rs.length with h | h | h | h <;> rw [h] <;> decide
 ·decide
theorem idsE_nil (d:Int):idsE [] d=0:=rfl
theorem flatE_box (rs:List Rw) (d:Int):flatE rs d=if boxE rs d=1 then 0 else boxE rs d:=by
 unfold flatE boxE
 by_cases h:1<=d/\d<=64
 ·rw [if_pos h,if_pos h]
  by_cases h0:rs.length=0
  ·obtain rfl:=List.length_eq_zero_iff.1 h0
   rw [if_pos h0];simp [idsE_nil]
  ·rw [if_neg h0,if_neg (idsE_ne rs d)]
 ·rw [if_neg h,if_neg h];decide
theorem rowsTo_zero {rs:List Rw} {d:Int}:∀ q,rowsTo rs d q=0 ↔ ∀ i,i < q->rowE rs d i=0
 | 0=>⟨fun _ i hi=>absurd hi (Nat.not_lt_zero _),fun _=>rfl⟩
 | q + 1=>by
  rw [rowsTo]
  constructor
  ·intro h
   split at h
   ·rename_i h0
    intro i hi
    by_cases e:i=q
    ·subst e;exact h
    ·exact (rowsTo_zero q).1 h0 i (by omega)
   ·rename_i h0;exact absurd h h0
  ·intro h
   rw [if_pos ((rowsTo_zero q).2 fun i hi=>h i (by omega))]
   exact h q (by omega)
structure RowsOk (rs:List Rw) (d:Int):Prop where
 few:rs.length<=512
 ids:(idsOf rs).Pairwise (· ≠ ·)
 row:∀ r ∈ rs,okId r.1=true/\chk r.2 d=0
theorem rowE_zero {rs:List Rw} {d:Int} {i:Nat}:rowE rs d i=0 ↔ ((idsOf rs).take i).contains rs[i]!.1=false/\okId rs[i]!.1=true/\chk rs[i]!.2 d=0:=by
 unfold rowE
 split
 ·rename_i h;exact ⟨fun e=>⟨h.1,h.2,e⟩,fun e=>e.2.2⟩
 ·rename_i h;exact ⟨fun e=>by simp at e,fun e=>absurd ⟨e.1,e.2.1⟩ h⟩
theorem ids_get {rs:List Rw} {i:Nat} (hi:i < rs.length):(idsOf rs)[i]'(by simpa [idsOf] using hi)=rs[i]!.1:=by
 rw [getElem!_pos rs i hi];simp [idsOf]
theorem idsE_zero {rs:List Rw} {d:Int}:idsE rs d=0 ↔ RowsOk rs d:=by
 unfold idsE
 constructor
 ·intro h
  split at h
  ·rename_i hn
   have h1:=(rowsTo_zero _).1 h
   refine ⟨hn,?_,fun r hr=>?_⟩
   ·rw [List.pairwise_iff_getElem]
    intro i j hi hj hij e
    have hi':i < rs.length:=by simpa [idsOf] using hi
    have hj':j < rs.length:=by simpa [idsOf] using hj
    have h2:=(rowE_zero.1 (h1 j hj')).1
    rw [<- ids_get hj',<- e] at h2
    have:((idsOf rs).take j).contains (idsOf rs)[i]=true:=by
     rw [List.contains_iff_mem]
     exact List.mem_iff_getElem.2 ⟨i,by simp [idsOf];omega,by simp⟩
    rw [this] at h2;cases h2
   ·obtain ⟨i,hi,rfl⟩:=List.mem_iff_getElem.1 hr
    have h2:=rowE_zero.1 (h1 i hi)
    rw [getElem!_pos rs i hi] at h2
    exact h2.2
  ·cases h
 ·rintro ⟨h1,h2,h3⟩
  rw [if_pos h1,rowsTo_zero]
  intro i hi
  have h4:=h3 rs[i] (List.getElem_mem hi)
  rw [rowE_zero,getElem!_pos rs i hi]
  refine ⟨?_,h4⟩
  rw [<- Bool.not_eq_true,List.contains_iff_mem]
  intro hm
  obtain ⟨j,hj,e⟩:=List.mem_iff_getElem.1 hm
  have hji:j < i:=by have:=hj;simp at this;omega
  have:=List.pairwise_iff_getElem.1 h2 j i (by simp [idsOf];omega) (by simp [idsOf];omega) hji
  apply this
  rw [List.getElem_take] at e
  rw [e,ids_get hi,getElem!_pos rs i hi]
theorem RowsOk.perm {rs rs':List Rw} {d:Int} (h:RowsOk rs d) (p:rs.Perm rs'):RowsOk rs' d :=
 ⟨by rw [<- p.length_eq];exact h.few,(List.Perm.pairwise_iff (fun h=>Ne.symm h) (p.map _)).1 h.ids,fun r hr=>h.row r (p.mem_iff.2 hr)⟩
theorem RowsOk.sub {rs rs':List Rw} {d:Int} (h:RowsOk rs d) (p:rs'.Sublist rs):RowsOk rs' d :=
 ⟨Nat.le_trans p.length_le h.few,h.ids.sublist (p.map _),fun r hr=>h.row r (p.subset hr)⟩
theorem flatE_zero {rs:List Rw} {d:Int}:flatE rs d=0 ↔ (1<=d/\d<=64)/\RowsOk rs d:=by
 unfold flatE
 split
 ·rename_i h;rw [idsE_zero];exact ⟨fun e=>⟨h,e⟩,fun e=>e.2⟩
 ·rename_i h;exact ⟨fun e=>by simp at e,fun e=>absurd e.1 h⟩
theorem askE_zero {rs:List Rw} {q:List Int}:askE rs q=0 ↔ chk q (q.length:Int)=0/\RowsOk rs (q.length:Int):=by
 unfold askE
 split
 ·rename_i h
  have:=chk_ok h
  rw [flatE_zero]
  exact ⟨fun e=>⟨h,e.2⟩,fun e=>⟨⟨by omega,by omega⟩,e.2⟩⟩
 ·rename_i h;exact ⟨fun e=>absurd e h,fun e=>absurd e.1 h⟩
theorem topE_zero {rs:List Rw} {q:List Int} {k:Int}:topE rs q k=0 ↔ askE rs q=0/\1<=k/\k<=64:=by
 unfold topE
 split
 ·rename_i h
  split
  ·rename_i h1;simp [h,h1]
  ·rename_i h1;simp [h];omega
 ·rename_i h;exact ⟨fun e=>absurd e h,fun e=>absurd e.1 h⟩
theorem row_dist {rs:List Rw} {q:List Int} (h:askE rs q=0) {r:Rw} (hr:r ∈ rs):distE q r.2=0/\distV q r.2=dst q r.2:=by
 obtain ⟨h1,h2⟩:=askE_zero.1 h
 have e:distE q r.2=0:=by unfold distE;rw [if_pos h1];exact (h2.row r hr).2
 exact ⟨e,by unfold distV;rw [if_pos e]⟩
theorem hlt_hit (i j:Int) (m n:Nat):Tk.hlt (i,hi m,lo m) (j,hi n,lo n)=true ↔ m < n ∨ m=n/\i < j:=by
 rw [Tk.hlt_iff]
 unfold Tk.Ht.hi Tk.Ht.lo Tk.Ht.id hi lo
 dsimp only
 omega
theorem hitsOf_len (q:List Int) (rs:List Rw):(hitsOf q rs).length=rs.length:=by simp [hitsOf]
theorem hitsOf_perm (q:List Int) {rs rs':List Rw} (p:rs.Perm rs'):(hitsOf q rs).Perm (hitsOf q rs'):=p.map _
theorem hitsOf_app (q:List Int) (a b:List Rw):hitsOf q (a ++ b)=hitsOf q a ++ hitsOf q b:=by simp [hitsOf]
theorem hitsOf_snoc (q:List Int) {rs:List Rw} {i:Nat} (hi':i < rs.length):hitsOf q (rs.take (i + 1))=hitsOf q (rs.take i) ++ [hitOf q rs[i]!]:=by
 rw [List.take_succ_eq_append_getElem hi',hitsOf_app,getElem!_pos rs i hi'];rfl
end Go.Proofs.YtcipdampcmfmaabGreat

namespace Go.Proofs.YtcipdampcmfmaabGreat
open Go.RowKit Go.Shelf
attribute [local go_sem] Oper.semAt_some
theorem grown_of_gb {a b:World} (h:Gb a b):a.grownBy b none:=⟨h.os,h.tape,h.output,h.size,fun k hk _=>h.block k hk⟩
theorem gb_same {a b:World} (h:Gb a b) {k:Nat} {o:Obj} (hk:a.heap[k]? = some o):b.heap[k]? = some o :=
 (h.block k (Array.getElem?_eq_some_iff.1 hk).1).trans hk
def leftOn (I:Nat->World->Prop) (k:Nat) (W:World):Exit->Act->World->Prop
 | .normal,_,W'=>KeepsOthers W W'/\I k W'
 | _,_,_=>False
def Gives (n:Nat) (P:Program) (gf:Nat) (lb:Array Value) (N:Nat) (arg:Nat->Value) (I:Nat->World->Prop):Prop :=
 ∀ (l:Nat) (J:Nat->World->Prop) (W:World),(∀ k W,J k W->I k W) ->
  (∀ k W W',J k W->Gb W W'->J k W') ->
  (∀ k W,k < N->J k W->YieldAt Fence.wide (n - 1) P l #[arg k] W fun e W'=>e=.returned (.bool true)/\J (k + 1) W') ->
  J 0 W ->
  CallsIn Fence.wide n P gf (#[.func (.yield l) #[] #[]] ++ lb) W fun e W'=>(∃ v,e=.returned v)/\J N W'
theorem range_c {n:Nat} {P:Program} {g:Operand} {ps:Array Tmp} {assign body:Code} {Q:Exit->Act->World->Prop} {a:Act} {w:World}
  {gf:Nat} {lb:Array Value} (hg:a.eval g=.func (.func gf) #[] lb) (eg:∀ args w,(callFunc gf args).run P w=.ok (.enter gf args) w)
  (hps:ps.size=1) (N:Nat) (arg:Nat->Value) (I:Nat->World->Prop) (I1:Nat->Nat->World->Prop) (ob:Nat->Obj)
  (hI:OwnFrom w.heap.size I) (hI1:∀ p,OwnFrom w.heap.size (fun k=>I1 k p)) (h0:I 0 w) (hst:∀ k W,k < N->I k W->I1 k W.heap.size (W.alloc (ob k)))
  (hit:Gives (n - 1) P gf lb N arg I) (a₁:Nat->Nat->Act)
  (hassign:∀ (l k:Nat) (W:World) (K:Act->World->Prop),K (a₁ k W.heap.size) (W.alloc (ob k)) ->
   assign.wpIn (Fence.wide.inRound l) (n - 1 - 1) P (Exit.then K (fun _ _ _=>False)) { tmps:=(ps.zip #[arg k]).foldl (fun t (p,v)=>t.setIfInBounds p v) a.tmps,defers:=[] } W)
  (hbody:∀ (l k p:Nat) (W:World),k < N->I1 k p W->body.wpIn (Fence.wide.inRound l) (n - 1 - 1) P (leftOn I (k + 1) W) (a₁ k p) W)
  (hdone:∀ (D:Nat) (W:World),w.heap.size<=D->I N W->W.heap[D]? = some (.deferred (some []))->Q .normal { a with defers:={ target:=.collected D,args:=#[] } :: a.defers } W) :
  (Code.rangeFunc g ps assign body).wpIn Fence.wide n P Q a w:=by
 refine wpIn_rangeFunc fun fn hfn=>?_
 obtain ⟨rc,hrc⟩:∃ rc:LoopState->Option Code->Loop,rc=fun s p=>{ state:=s,pending:=p,fn:=fn,tmps:=a.tmps,params:=ps,assign:=assign,body:=body,defers:=w.heap.size }:=⟨_,rfl⟩
 obtain ⟨V,hV⟩:∃ V,(w.alloc (.deferred (some []))).alloc (.loop (rc .ready none))=V:=⟨_,rfl⟩
 have hlV:V.heap[w.heap.size + 1]? = some (.loop (rc .ready none)):=by
  rw [<- hV];have:=World.alloc_heap_new (w.alloc (.deferred (some []))) (.loop (rc .ready none));rwa [World.size_alloc] at this
 have hdV:V.heap[w.heap.size]? = some (.deferred (some [])):=by
  rw [<- hV];exact (Below.heap_alloc _ _ _ (by simp)).trans (World.alloc_heap_new w _)
 have hIV:I 0 V:=by rw [<- hV];exact hI.alloc _ (hI.alloc _ h0)
 refine ⟨w.heap.size + 1,[{ target:=.collected w.heap.size,args:=#[] }],V,{ target:=.fn (.func gf) lb,args:=#[.func (.yield (w.heap.size + 1)) #[] #[]] },V,gf,
  #[.func (.yield (w.heap.size + 1)) #[] #[]] ++ lb,V,?_,?_,fun _ _=>trivial,?_,fun h=>by simp [Fence.wide] at h,?_⟩
 ·rw [<- hV,hrc];exact run_enterLoop_outer _ _ _ _ _
 ·simp only [resolve,hg]
  simp [go_sem]
 ·simp [invoke,go_sem,eg]
 refine (hit (w.heap.size + 1)
  (fun k W=>I k W/\W.heap[w.heap.size + 1]? = some (.loop (rc .ready none))/\W.heap[w.heap.size]? = some (.deferred (some [])))
  V (fun _ _ h=>h.1) (fun k W W' h g=>⟨hI k W W' none h.1 (grown_of_gb g) (fun r e=>by cases e),gb_same g h.2.1,gb_same g h.2.2⟩) ?_ ⟨hIV,hlV,hdV⟩).mono ?_
 ·-- one round
  rintro k W hk ⟨hi,hl,hd⟩
  have hlt:w.heap.size + 1 < W.heap.size:=(Array.getElem?_eq_some_iff.1 hl).1
  have hy:=run_yield (P:=P) (args:=#[arg k]) hl (by rw [hrc];simp [hps])
  rw [hrc] at hy
  obtain ⟨p,hp0⟩:∃ p,p=W.heap.size:=⟨_,rfl⟩
  obtain ⟨Wa,hWa⟩:∃ Wa,W.alloc (ob k)=Wa:=⟨_,rfl⟩
  have gA:Gb W Wa:=by rw [<- hWa];exact gb_alloc (Below.refl _ _) _
  have hla:=gb_same gA hl
  have hda:=gb_same gA hd
  have hlta:w.heap.size + 1 < Wa.heap.size:=(Array.getElem?_eq_some_iff.1 hla).1
  have hia:I1 k p Wa:=by rw [<- hWa,hp0];exact hst k W hk hi
  refine ⟨fn,_,assign,body,hy,roundIn_of_wpIn hfn (hassign _ k W _ ?_)⟩
  rw [hWa,<- hp0]
  refine ⟨_,run_beginRound hla (by rw [hrc]),?_⟩
  clear hy hi hl hd hlt
  obtain ⟨W2,hW2⟩:∃ W2,Wa.putObj (w.heap.size + 1) (.loop { rc .ready none with state:=.busy })=W2:=⟨_,rfl⟩
  rw [hW2]
  have hl2:W2.heap[w.heap.size + 1]? = some (.loop { rc .ready none with state:=.busy }):=by rw [<- hW2];exact World.putObj_heap_same hlta
  have hd2:W2.heap[w.heap.size]? = some (.deferred (some [])):=by rw [<- hW2];exact (World.putObj_heap_other (by omega)).trans hda
  have hi2:I1 k p W2:=by rw [<- hW2];exact (hI1 p).putObj _ hia (by omega) hla rfl
  refine wpIn_mono (hbody _ k p W2 hk hi2) ?_
  have fin:∀ (j:Option Code) (W3:World),KeepsOthers W2 W3 ->
    (Instr.endRound (w.heap.size + 1) j).run P W3=.ok (.bool j.isNone) (W3.putObj (w.heap.size + 1) (.loop (rc (if j.isNone then .ready else .done) j))) /\
    W3.heap[w.heap.size + 1]? = some (.loop { rc .ready none with state:=.busy }) /\
    (W3.putObj (w.heap.size + 1) (.loop (rc (if j.isNone then .ready else .done) j))).heap[w.heap.size + 1]? = some (.loop (rc (if j.isNone then .ready else .done) j)) /\
    (W3.putObj (w.heap.size + 1) (.loop (rc (if j.isNone then .ready else .done) j))).heap[w.heap.size]? = some (.deferred (some [])):=fun j W3 hk3=>by
   have hl3:=hk3.same _ _ hl2 rfl
   have:=run_endRound (P:=P) j hl3
   rw [hrc] at this ⊢
   exact ⟨this,by rw [hrc] at hl3;exact hl3,World.putObj_heap_same (Array.getElem?_eq_some_iff.1 hl3).1,(World.putObj_heap_other (by omega)).trans (hk3.same _ _ hd2 rfl)⟩
  rintro e a3 W3 hp
  cases e with
  | normal =>
   obtain ⟨hk3,hi3⟩:=hp
   obtain ⟨hr,hl3,hl4,hd4⟩:=fin none W3 hk3
   exact ⟨_,_,hr,rfl,hI.putObj _ hi3 (by omega) hl3 rfl,hl4,hd4⟩
  | ret=>exact hp.elim
  | exit id=>exact hp.elim
  | goto t=>exact hp.elim
  | panic ch=>exact hp.elim
  | outgrown=>exact hp.elim
 ·-- behind it
  rintro e W2 ⟨⟨v,rfl⟩,hi,hl,hd⟩
  exact ⟨none,_,by have:=run_endLoop (P:=P) hl (by rw [hrc];simp);rw [hrc] at this;exact this,hdone _ _ (Nat.le_refl _) (hI.putObj _ hi (by omega) hl rfl) ((World.putObj_heap_other (by omega)).trans hd)⟩
end Go.Proofs.YtcipdampcmfmaabGreat

namespace Go.Proofs.YtcipdampcmfmaabGreat
open Go.RowKit Go.Sort
set_option maxHeartbeats 1000000
def Wf (rs:List Rw):Prop:=rs.length<=4611686018427387904/\∀ i,i < rs.length->(Lit.int .i64 rs[i]!.1).wf=true
theorem fcheck_c {w:World} {v:Value} {rs:List Rw} (h:RdW w v rs) (hwf:Wf rs) (d:Int) :
  Calls Tryz.prog 47 #[v,.int .i64 d] w fun e w'=>e=.returned (.int .i64 (flatE rs d))/\Gb w w':=by
 have hb:=box_c h d hwf.1 hwf.2
 have E:=flatE_box rs d
 obtain ⟨a,cap,rfl,_⟩:=h
 generalize boxR rs d=R at *
 generalize boxE rs d=x at *
 generalize flatE rs d=y at *
 generalize rs.length=n at *
 by_cases hx:x=1
 ·rw [if_pos hx] at E
  subst hx;subst E
  go_enter Tryz.func47,Tryz.ntmps47
  go_wp2_with fail
  refine hb.mono ?_
  rintro e w' ⟨vl,vh,vi,rfl,g,o1,o2,o3,_⟩
  obtain ⟨p1,c1,rfl,_⟩:=o1.rd
  obtain ⟨p2,c2,rfl,_⟩:=o2.rd
  obtain ⟨p3,c3,rfl,_⟩:=o3.rd
  clear hb o1 o2 o3
  go_wp2
  go_ret
  exact ⟨rfl,by refine gb_trans g ?_;go_grown⟩
 ·rw [if_neg hx] at E
  subst E
  have hx':(y == 1)=false:=by rw [beq_eq_false_iff_ne];exact hx
  go_enter Tryz.func47,Tryz.ntmps47
  go_wp2_with fail
  refine hb.mono ?_
  rintro e w' ⟨vl,vh,vi,rfl,g,o1,o2,o3,_⟩
  obtain ⟨p1,c1,rfl,_⟩:=o1.rd
  obtain ⟨p2,c2,rfl,_⟩:=o2.rd
  obtain ⟨p3,c3,rfl,_⟩:=o3.rd
  clear hb o1 o2 o3
  go_wp2
  go_ret
  exact ⟨rfl,by refine gb_trans g ?_;go_grown⟩
theorem ask_c {w:World} {v u:Value} {rs:List Rw} {q:List Int} (h:RdW w v rs) (hu:RdI w u q) (hwf:Wf rs) :
  Calls Tryz.prog 73 #[v,u] w fun e w'=>e=.returned (.int .i64 (askE rs q))/\Gb w w':=by
 have c1:=check_c hu (q.length:Int)
 have c2:=fcheck_c h hwf (q.length:Int)
 have E:askE rs q=if chk q (q.length:Int)=0 then flatE rs (q.length:Int) else chk q (q.length:Int):=rfl
 obtain ⟨a,cap,rfl,_⟩:=h
 obtain ⟨a',cap',rfl,_⟩:=hu
 generalize askE rs q=z at *
 generalize flatE rs (q.length:Int)=y at *
 generalize chk q (q.length:Int)=x at *
 generalize rs.length=n at *
 generalize q.length=m at *
 by_cases hx:x=0
 ·rw [if_pos hx] at E
  subst hx;subst E
  go_enter Tryz.func73,Tryz.ntmps73
  go_wp2_with fail
  refine c1.mono ?_
  rintro e w' ⟨rfl,e2⟩
  subst e2
  clear c1
  go_wp2_with fail
  refine c2.mono ?_
  rintro e w' ⟨rfl,g⟩
  clear c2
  go_wp2
  go_ret
  exact ⟨rfl,g⟩
 ·rw [if_neg hx] at E
  subst E
  have hx':(z == 0)=false:=by rw [beq_eq_false_iff_ne];exact hx
  go_enter Tryz.func73,Tryz.ntmps73
  go_wp2_with fail
  refine c1.mono ?_
  rintro e w' ⟨rfl,e2⟩
  subst e2
  clear c1 c2
  go_wp2
  go_ret
  exact ⟨rfl,Below.refl _ _⟩
def Begun (w w':World) (p:Value) (rs:List Rw) (q:List Int) (k:Int):Prop :=
 Gb w w'/\(topE rs q k ≠ 0->p=.pointer none)/\(topE rs q k=0->∃ hb,p=.pointer (some ⟨hb,0,none⟩)/\w.heap.size<=hb/\Tk.Has w' hb k.toNat (.slice none 0 0) [])
theorem begin_c {w:World} {v u:Value} {rs:List Rw} {q:List Int} (h:RdW w v rs) (hu:RdI w u q) (hwf:Wf rs) (k:Int) :
  Calls Tryz.prog 45 #[v,u,.int .i64 k] w fun e w'=>∃ p,e=.returned (.tuple #[p,.int .i64 (topE rs q k)])/\Begun w w' p rs q k:=by
 have c1:=ask_c h hu hwf
 have E:topE rs q k=if askE rs q=0 then (if 1<=k/\k<=64 then 0 else 1) else askE rs q:=rfl
 unfold Begun
 obtain ⟨a,cap,rfl,_⟩:=h
 obtain ⟨a',cap',rfl,_⟩:=hu
 generalize topE rs q k=z at *
 generalize askE rs q=x at *
 generalize rs.length=n at *
 generalize q.length=m at *
 by_cases hx:x=0
 ·rw [if_pos hx] at E
  subst hx
  by_cases hk:1<=k/\k<=64
  ·rw [if_pos hk] at E
   subst E
   go_enter Tryz.func45,Tryz.ntmps45
   go_wp2_with fail
   refine c1.mono ?_
   rintro e w' ⟨rfl,g⟩
   clear c1
   have cN:=Tk.new_ok k hk.1 hk.2 w'
   go_wp2_with fail
   refine cN.mono ?_
   rintro e w2 ⟨rfl,e2⟩
   subst e2
   clear cN
   go_wp2
   go_ret2
   refine ⟨_,rfl,gb_alloc g _,fun e=>absurd rfl e,fun _=>⟨_,rfl,g.size,?_⟩⟩
   have hh:=Tk.new_has k.toNat (by omega) (by omega) w'
   rwa [show ((k.toNat:Nat):Int)=k by omega] at hh
  ·rw [if_neg hk] at E
   subst E
   have hk':k < 1 ∨ 64 < k:=by omega
   clear hk
   go_enter Tryz.func45,Tryz.ntmps45
   go_wp2_with fail
   refine c1.mono ?_
   rintro e w' ⟨rfl,g⟩
   clear c1
   have cN:Calls Tryz.prog 36 #[.int .i64 k] w' fun e w''=>e=.returned (.tuple #[.pointer none,.int .i64 1])/\w''=w':=by
    rcases hk' with h | h
    ·exact Tk.new_lo k h w'
    ·exact Tk.new_hi k h w'
   go_wp2_with fail
   refine cN.mono ?_
   rintro e w2 ⟨rfl,e2⟩
   subst e2
   clear cN
   go_wp2
   go_ret2
   exact ⟨_,rfl,g,fun _=>rfl,fun e=>absurd e (by decide)⟩
 ·rw [if_neg hx] at E
  subst E
  have hx':(z == 0)=false:=by rw [beq_eq_false_iff_ne];exact hx
  go_enter Tryz.func45,Tryz.ntmps45
  go_wp2_with fail
  refine c1.mono ?_
  rintro e w' ⟨rfl,g⟩
  clear c1
  go_wp2
  go_ret2
  exact ⟨_,rfl,g,fun _=>rfl,fun e=>absurd e hx⟩
end Go.Proofs.YtcipdampcmfmaabGreat

namespace Go.Proofs.YtcipdampcmfmaabGreat
open Go.RowKit Go.Shelf
set_option maxHeartbeats 2000000
attribute [local go_sem] Oper.semAt_some
theorem hits_c (a a':Option Addr) (n n' c c':Nat) (w:World) :
  Calls Tryz.prog 74 #[.slice a n c,.slice a' n' c'] w fun e w'=>e=.returned (.func (.func 113) #[] #[.pointer (some ⟨w.heap.size,0,none⟩),.pointer (some ⟨w.heap.size + 1,0,none⟩)])/\(w.alloc (.cells #[.slice a n c] 22)).alloc (.cells #[.slice a' n' c'] 26)=w':=by
 go_enter Tryz.func74,Tryz.ntmps74
 go_wp2
 go_ret
 exact ⟨rfl,rfl⟩
structure HitsAt (W:World) (Br Bq:Nat) (v u:Value) (rs:List Rw) (q:List Int):Prop where
 br:Boxed W Br 22 v
 bq:Boxed W Bq 26 u
 rows:RdW W v rs
 q:RdI W u q
theorem hits1_gives (n:Nat) (hn:1<=n) (Br Bq:Nat) (v u:Value) (rs:List Rw) (q:List Int) (hask:askE rs q=0) (I:Nat->World->Prop)
  (hr:∀ k W,I k W->HitsAt W Br Bq v u rs q) :
  Gives n Tryz.prog 113 #[.pointer (some ⟨Br,0,none⟩),.pointer (some ⟨Bq,0,none⟩)] rs.length (fun k=>Tk.hv (hitOf q rs[k]!)) I:=by
 intro l J W hJI hgr hY h0
 refine callsIn_of_wp Tryz.func113 rfl trivial ?_ rfl
 simp only [Tryz.ntmps113,List.size_toArray,List.length_cons,List.length_nil,Nat.reduceAdd,Nat.reduceSub,Array.replicate_succ,Array.replicate_zero,List.push_toArray,List.append_toArray,List.nil_append,List.cons_append]
 obtain ⟨r1,r2,r3,_⟩:=hr 0 W (hJI 0 W h0)
 obtain ⟨a,cap,rfl,_⟩:=r3
 have hlen:rs.length<=512:=(askE_zero.1 hask).2.few
 have c1:=r1.cell
 obtain ⟨N,hN⟩:∃ N,N=rs.length:=⟨_,rfl⟩
 have NH:Hid (N=rs.length):=hN
 rw [<- hN] at hlen hr hY c1 ⊢
 clear hN
 gi_wp2
 clear c1 r1 r2
 gi_loopw [10] (fun v wr=>∃ k:Nat,v=.int .i64 k/\k<=N/\J k wr) (fun v _=>N - (intOf v).toNat)
 case atStart=>exact ⟨0,rfl,Nat.zero_le _,h0⟩
 case round =>
  obtain ⟨k,rfl,hk,hj⟩:=hrel
  by_cases hlt:k < N
  ·have hlt':(k:Int) < N:=by omega
   obtain ⟨r1,r2,r3,r4⟩:=hr k wr (hJI k wr hj)
   have hkr:k < rs.length:=by have:=NH.out;omega
   obtain ⟨a',cap',ev,ha⟩:=r3
   obtain ⟨b,o,x,ea,e1,e2,e3⟩:=ha k hkr
   injection ev with ev1 ev2 ev3
   subst ev1;subst ev3;subst ea
   clear ha ev2
   have c1:=r1.cell
   have c2:=r2.cell
   obtain ⟨hd1,hd2⟩:=row_dist hask (List.getElem_mem hkr)
   rw [<- getElem!_pos rs k hkr] at hd1 hd2
   have X:Hid (RdI wr x rs[k]!.2):=e3
   have U:Hid (RdI wr u q):=r4
   obtain ⟨pa,ca,rfl,_⟩:=e3
   obtain ⟨pb,cb,rfl,_⟩:=r4
   have hY':=fun W=>hY k W hlt
   have cD:=fun W (g:Gb wr W)=>dist_c (U.out.gb g) (X.out.gb g)
   rw [hd1,hd2] at cD
   obtain ⟨y,hy⟩:∃ y,y=rs[k]!.1:=⟨_,rfl⟩
   obtain ⟨m,hm⟩:∃ m,m=rs[k]!.2.length:=⟨_,rfl⟩
   obtain ⟨D,hD⟩:∃ D,D=dst q rs[k]!.2:=⟨_,rfl⟩
   have Y:Hid (y=rs[k]!.1/\D=dst q rs[k]!.2):=⟨hy,hD⟩
   rw [<- hm] at e2
   rw [<- hy] at e1
   rw [<- hD,<- hm] at cD
   have hY2:∀ W,J k W->YieldAt Fence.wide (n - 1) Tryz.prog l #[.agg #[.int .i64 y,.int .u64 (hi D),.int .u64 (lo D)]] W fun e W'=>e=.returned (.bool true)/\J (k + 1) W':=by
    rw [hy,hD];exact hY'
   clear hY' hd1 hd2 hy hm hD hY hr
   have G1:Gb wr (wr.alloc (.cells #[.int .i64 y,.slice pa m ca] 45)):=by go_grown
   have cD1:=cD _ G1
   clear cD
   have c3:=(r2.alloc (.cells #[.int .i64 y,.slice pa m ca] 45)).cell
   have k0:(wr.alloc (.cells #[.int .i64 y,.slice pa m ca] 45)).cell? ⟨wr.heap.size,0,none⟩=some (.int .i64 y):=by simp [go_sem]
   gi_wp2_with (refine ⟨trivial,?_⟩;gi_at_call 51;refine (callsIn_wide.2 cD1).mono ?_;rintro e w1 ⟨rfl,g1⟩;have k1:=gb_keeps g1.gb k0;have k2:=gb_keeps (gb_alloc (Below.refl _ w1) (.cells #[.int .u64 (hi D),.int .u64 (lo D)] 40)) k1;obtain ⟨fn,tmps,assign,body,hy,hR⟩:=hY2 (w1.alloc (.cells #[.int .u64 (hi D),.int .u64 (lo D)] 40)) (hgr k _ _ hj (gb_alloc (gb_trans G1 g1.gb) _)))
   refine hR.mono ?_
   rintro e W3 ⟨rfl,hJ3⟩
   clear hR hy k2 k1 k0 g1 cD1 G1 c3
   gi_wp2
   go_roundw
   case rel=>exact ⟨k + 1,by simp,by omega,hJ3⟩
   case measure=>simp [intOf];omega
  ·have hlt':¬ (k:Int) < N:=by omega
   gi_wp2
   go_end0
   obtain rfl:k=N:=by omega
   exact ⟨⟨_,rfl⟩,hj⟩
end Go.Proofs.YtcipdampcmfmaabGreat

namespace Go.Proofs.YtcipdampcmfmaabGreat
open Go.RowKit Go.Shelf
set_option maxRecDepth 100000
set_option maxHeartbeats 2000000
attribute [local go_sem] Oper.semAt_some
theorem Boxed.kp {S:Nat->Prop} {W W':World} {B:Nat} {t:TypeId} {v:Value} (h:Boxed W B t v) (k:Tk.Kp S W W') (hn:¬ S B):Boxed W' B t v :=
 (k.block B h.lt hn).trans h
theorem keeps_of_kp {S:Nat->Prop} {W W':World} (k:Tk.Kp S W W') (hS:∀ b,S b->∃ o:Obj,W.heap[b]? = some o/\o.isCells=true):KeepsOthers W W':=by
 refine ⟨k.size,fun b o hb ho=>?_⟩
 rw [k.block b (Array.getElem?_eq_some_iff.1 hb).1,hb]
 intro hs
 obtain ⟨o',e,h'⟩:=hS b hs
 rw [hb] at e
 injection e with e
 rw [e,h'] at ho
 cases ho
theorem Has.cells {W:World} {hb k:Nat} {v:Value} {m:List Tk.Ht} (h:Tk.Has W hb k v m):∃ cs,W.heap[hb]? = some (.cells cs 131 (0,0)):=by
 obtain ⟨d,h1,_⟩:=h;exact ⟨_,h1.blk⟩
theorem Has.own {W:World} {hb k:Nat} {v:Value} {m:List Tk.Ht} (h:Tk.Has W hb k v m) {g:Nat} (hg:v.ownBlock=some g):∃ cs,W.heap[g]? = some (.cells cs 58 (0,0)):=by
 obtain ⟨d,h1,_⟩:=h
 rcases h1.own.2 with ⟨rfl,_⟩ | ⟨g',cap',cur,rfl,_,hh,_⟩
 ·cases hg
 ·simp only [Value.ownBlock,Option.some.injEq] at hg
  exact ⟨cur,by rw [<- hg];exact hh⟩
theorem ownFrom_has {B hb k:Nat} {vh:Value} {m:Nat->List Tk.Ht}:OwnFrom B (fun (j:Nat) W=>Tk.Has W hb k vh (m j)):=fun j W W' row h hg hr=>by
 refine h.kp (Tk.Kp.grown hg) ?_ ?_
 ·intro e
  obtain ⟨_,o,ho,hc⟩:=hr hb e.symm
  obtain ⟨cs,h1⟩:=Has.cells h
  rw [h1] at ho;injection ho with ho;subst ho;cases hc
 ·intro g hg' e
  obtain ⟨_,o,ho,hc⟩:=hr g e.symm
  obtain ⟨cs,h1⟩:=Has.own h hg'
  rw [h1] at ho;injection ho with ho;subst ho;cases hc
theorem box_ne {W:World} {hb k:Nat} {vh:Value} {m:List Tk.Ht} (h:Tk.Has W hb k vh m) {B:Nat} {t:TypeId} {v:Value} (b:Boxed W B t v) (h1:t ≠ 131) (h2:t ≠ 58):¬ (B=hb ∨ some B=vh.ownBlock):=by
 have e:W.heap[B]? = some (.cells #[v] t (0,0)):=b
 rintro (rfl | e2)
 ·obtain ⟨cs,e3⟩:=Has.cells h
  rw [e] at e3;simp at e3;exact h1 e3.2
 ·obtain ⟨cs,e3⟩:=Has.own h e2.symm
  rw [e] at e3;simp at e3;exact h2 e3.2
theorem gb_trans' {a b c:World} {B:Nat} (h:Below B a b) (k:Gb b c) (hB:B<=b.heap.size):Below B a c:=h.trans (k.mono hB)
theorem below_putObj {a b:World} {B D:Nat} (h:Below B a b) (hD:B<=D) (o:Obj):Below B a (b.putObj D o) :=
 ⟨h.os,h.tape,h.output,by simpa [World.putObj] using h.size,fun k hk=>(World.putObj_heap_other (by omega)).trans (h.block k hk)⟩
theorem own_putObj {w:World} {v:Value} {d:Array Tk.Ht} {D:Nat} {o:Obj} (h:Tk.Own w v d) (hK:w.heap[D]? = some o) (hc:o.isCells=false) (o':Obj):Tk.Own (w.putObj D o') v d:=by
 refine Tk.own_kp h (Tk.Kp.grown (grownBy_putObj' w D o')) fun g hg e=>?_
 rcases h.2 with ⟨rfl,_⟩ | ⟨g',cap',cur,rfl,_,hh,_⟩
 ·cases hg
 ·simp only [Value.ownBlock,Option.some.injEq] at hg e
  subst hg;subst e
  rw [hh] at hK;injection hK with hK;subst hK;cases hc
def NearAt (w0:World) (hb k Bb Br Bq:Nat) (v u:Value) (rs:List Rw) (q:List Int) (j:Nat) (W:World):Prop :=
 ∃ vh,Tk.Has W hb k vh (Tk.firsts k (hitsOf q (rs.take j)))/\(∀ g,vh.ownBlock=some g->w0.heap.size<=g)/\Below w0.heap.size w0 W/\Boxed W Bb 90 (.pointer (some ⟨hb,0,none⟩))/\Boxed W Br 22 v/\Boxed W Bq 26 u
theorem ownFrom_ex {β γ:Type} {B:Nat} {I:γ->β->World->Prop} (h:∀ x,OwnFrom B (I x)):OwnFrom B (fun s W=>∃ x,I x s W):=fun s W W' row hs hg hr=>by
 obtain ⟨x,hx⟩:=hs;exact ⟨x,h x s W W' row hx hg hr⟩
theorem ownFrom_box {β:Type} {B b:Nat} {t:TypeId} {v:β->Value}:OwnFrom B (fun (k:β) W=>Boxed W b t (v k)):=(boxed_own b t v).from B
theorem ownFrom_near {w0:World} {B hb k Bb Br Bq:Nat} {v u:Value} {rs:List Rw} {q:List Int} (hB:w0.heap.size<=B):OwnFrom B (NearAt w0 hb k Bb Br Bq v u rs q) :=
 ownFrom_ex fun _=>ownFrom_has.and ((ownFrom_pure B _).and ((ownFrom_below (Nat.le_refl _) hB).and (ownFrom_box.and (ownFrom_box.and ownFrom_box))))
abbrev hitObj (x:Tk.Ht):Obj:=.cells #[.int .i64 x.1,.int .u64 x.2.1,.int .u64 x.2.2] 58
def HitBox (W:World) (p:Nat) (x:Tk.Ht):Prop:=W.heap[p]? = some (hitObj x)
theorem hitBox_new (W:World) (x:Tk.Ht):HitBox (W.alloc (hitObj x)) W.heap.size x:=World.alloc_heap_new W _
theorem HitBox.cells {W:World} {p:Nat} {x:Tk.Ht} (h:HitBox W p x):W.cell? ⟨p,0,none⟩=some (.int .i64 x.1)/\W.cell? ⟨p,1,none⟩=some (.int .u64 x.2.1)/\W.cell? ⟨p,2,none⟩=some (.int .u64 x.2.2):=by
 have e:W.heap[p]? = some (hitObj x):=h
 refine ⟨?_,?_,?_⟩ <;> simp [World.cell?,e]
theorem ownFrom_hitBox {B p:Nat} {x:Nat->Tk.Ht}:OwnFrom B (fun (j:Nat) W=>HitBox W p (x j)):=fun j W W' row h hg hr=>by
 have e:W.heap[p]? = some (hitObj (x j)):=h
 refine (hg.block p (Array.getElem?_eq_some_iff.1 e).1 ?_).trans e
 intro e2
 obtain ⟨_,o,ho,hc⟩:=hr p e2.symm
 rw [e] at ho;injection ho with ho;subst ho;cases hc
theorem offer_has' {w:World} {hb k:Nat} {v:Value} {m:List Tk.Ht} (h:Tk.Has w hb k v m) (x:Tk.Ht) :
  Calls Tryz.prog 75 #[.pointer (some ⟨hb,0,none⟩),Tk.hv x] w fun e w'=>(∃ b,e=.returned (.bool b))/\∃ v',Tk.Has w' hb k v' (Tk.keep k m x)/\Tk.Kp (fun b=>b=hb ∨ some b=v.ownBlock) w w'/\(v'.ownBlock=v.ownBlock ∨ ∀ g,v'.ownBlock=some g->w.heap.size<=g):=by
 refine (Tk.offer_has h x).mono ?_
 rintro e w' ⟨rfl,v',h1,h2,h3⟩
 exact ⟨⟨_,rfl⟩,v',h1,h2,h3⟩
def OutH (w0 w':World) (v:Value) (l:List Tk.Ht):Prop:=Tk.Own w' v l.toArray/\Below w0.heap.size w0 w'/\∀ g,v.ownBlock=some g->w0.heap.size<=g
theorem nearest_c {w0 w:World} {hb k:Nat} {v u:Value} {rs:List Rw} {q:List Int} (hH:Tk.Has w hb k (.slice none 0 0) []) (hh:w0.heap.size<=hb) (hv:RdW w0 v rs) (hu:RdI w0 u q) (g0:Below w0.heap.size w0 w) (hask:askE rs q=0) :
  Calls Tryz.prog 46 #[.pointer (some ⟨hb,0,none⟩),v,u] w fun e w'=>∃ v',e=.returned v'/\OutH w0 w' v' (Tk.firsts k (hitsOf q rs)):=by
 have V:Hid (RdW w0 v rs):=hv
 have U:Hid (RdI w0 u q):=hu
 obtain ⟨av,cv,rfl,_⟩:=hv
 obtain ⟨au,cu,rfl,_⟩:=hu
 obtain ⟨m,hm⟩:∃ m,m=q.length:=⟨_,rfl⟩
 obtain ⟨n,hn⟩:∃ n,n=rs.length:=⟨_,rfl⟩
 have NH:Hid (n=rs.length):=hn
 rw [<- hm] at U
 rw [<- hn] at V
 rw [<- hm,<- hn]
 clear hm hn
 have hits:=fun W=>hits_c av au n m cv cu W
 refine (callsIn_wide (n:=4)).1 ?_
 refine callsIn_of_wp_marks Tryz.func46 rfl trivial ?_ rfl
 simp only [Tryz.ntmps46,List.size_toArray,List.length_cons,List.length_nil,Nat.reduceAdd,Nat.reduceSub,Array.replicate_succ,Array.replicate_zero,List.push_toArray,List.append_toArray,List.nil_append,List.cons_append]
 gi_wp2_with (refine ⟨trivial,?_⟩;gi_at_call 74;refine (callsIn_wide.2 (hits _)).mono ?_;rintro e w1 ⟨rfl,hw1⟩)
 have V1:Hid ((((w.alloc (.cells #[.pointer (some ⟨hb,0,none⟩)] 90)).alloc (.cells #[.slice av n cv] 22)).alloc (.cells #[.slice au m cu] 26))=w1):=hw1
 have N0:NearAt w0 hb k w.heap.size (w.heap.size + 1) (w.heap.size + 1 + 1) (.slice av n cv) (.slice au m cu) rs q 0 w1:=by
  rw [<- hw1]
  have b1:=((Boxed.new w 90 (.pointer (some ⟨hb,0,none⟩))).alloc (.cells #[.slice av n cv] 22)).alloc (.cells #[.slice au m cu] 26)
  have b2:=(Boxed.new (w.alloc (.cells #[.pointer (some ⟨hb,0,none⟩)] 90)) 22 (.slice av n cv)).alloc (.cells #[.slice au m cu] 26)
  have b3:=Boxed.new ((w.alloc (.cells #[.pointer (some ⟨hb,0,none⟩)] 90)).alloc (.cells #[.slice av n cv] 22)) 26 (.slice au m cu)
  simp only [World.size_alloc] at b2 b3
  refine ⟨.slice none 0 0,?_,fun g e=>by simp [Value.ownBlock] at e,?_,b1,b2,b3⟩
  ·rw [List.take_zero]
   show Tk.Has _ hb k _ (Tk.firsts k [])
   rw [Tk.firsts_nil]
   exact hH.gr (gb_alloc (gb_alloc (gb_alloc (Below.refl _ _) _) _) _)
  ·exact ((g0.alloc g0.size _).alloc (by rw [World.size_alloc];exact Nat.le_succ_of_le g0.size) _).alloc (by rw [World.size_alloc,World.size_alloc];have:=g0.size;omega) _
 have s1:w.heap.size + 3=w1.heap.size:=by rw [<- hw1];simp
 have s0:=g0.size
 clear hw1 hits V1
 have hrd:∀ j W,NearAt w0 hb k w.heap.size (w.heap.size + 1) (w.heap.size + 1 + 1) (.slice av n cv) (.slice au m cu) rs q j W->HitsAt W (w.heap.size + 1) (w.heap.size + 1 + 1) (.slice av n cv) (.slice au m cu) rs q:=fun j W h=>by
  obtain ⟨vh,h1,h2,h3,h4,h5,h6⟩:=h
  exact ⟨h5,h6,V.out.gb h3,U.out.gb h3⟩
 refine range_c (gf:=113) (lb:=#[.pointer (some ⟨w.heap.size + 1,0,none⟩),.pointer (some ⟨w.heap.size + 1 + 1,0,none⟩)]) rfl (enters_of Tryz.func113 (by kernel_rfl) rfl) rfl
  n (fun j=>Tk.hv (hitOf q rs[j]!)) (NearAt w0 hb k w.heap.size (w.heap.size + 1) (w.heap.size + 1 + 1) (.slice av n cv) (.slice au m cu) rs q)
  (fun j p W=>NearAt w0 hb k w.heap.size (w.heap.size + 1) (w.heap.size + 1 + 1) (.slice av n cv) (.slice au m cu) rs q j W/\HitBox W p (hitOf q rs[j]!))
  (fun j=>hitObj (hitOf q rs[j]!))
  (ownFrom_near (by omega)) (fun p=>(ownFrom_near (by omega)).and ownFrom_hitBox) N0
  (fun j W _ h=>⟨ownFrom_near (B:=0 + w0.heap.size) (by omega) j W _ none h (grown_of_gb (gb_alloc (Below.refl _ _) _)) (fun r e=>by cases e),hitBox_new W _⟩)
  (by
    have:=hits1_gives 3 (by decide) (w.heap.size + 1) (w.heap.size + 1 + 1) (.slice av n cv) (.slice au m cu) rs q hask _ hrd
    rwa [<- NH.out] at this)
  (fun j p=>{ tmps:=#[.pointer (some ⟨hb,0,none⟩),.slice av n cv,.slice au m cu,.pointer (some ⟨w.heap.size,0,none⟩),undef,undef,.slice none 0 0,.pointer (some ⟨p,0,none⟩),.slice av n cv,.slice au m cu,
   .func (.func 113) #[] #[.pointer (some ⟨w.heap.size + 1,0,none⟩),.pointer (some ⟨w.heap.size + 1 + 1,0,none⟩)],Tk.hv (hitOf q rs[j]!),undef,undef,undef,undef,undef],defers:=[] }) ?assign ?body ?done
 case assign =>
  intro l j W K hK
  generalize rs[j]! = r at *
  gi_wp2
  exact hK
 case body =>
  clear N0
  rintro l j p W hj ⟨⟨vh,h1,h2,h3,h4,h5,h6⟩,hp⟩
  have hjr:j < rs.length:=by have:=NH.out;omega
  have hm:=hitsOf_snoc q hjr
  have hoff:=offer_has' h1 (hitOf q rs[j]!)
  rw [<- Tk.firsts_snoc,<- hm] at hoff
  generalize hitOf q rs[j]! = x at *
  obtain ⟨x0,x1,x2⟩:=x
  have cB:=h4.cell
  obtain ⟨y0,y1,y2⟩:=hp.cells
  gi_wp2_with (refine ⟨trivial,?_⟩;gi_at_call 75;refine (CallsIn.inRound l (callsIn_wide.2 hoff)).mono ?_;rintro e w5 ⟨⟨b,rfl⟩,v',q1,q2,q3⟩)
  refine ⟨keeps_of_kp q2 ?_,v',q1,?_,?_,Boxed.kp h4 q2 (box_ne h1 h4 (by decide) (by decide)),Boxed.kp h5 q2 (box_ne h1 h5 (by decide) (by decide)),Boxed.kp h6 q2 (box_ne h1 h6 (by decide) (by decide))⟩
  ·rintro b (rfl | e)
   ·obtain ⟨cs,e⟩:=Has.cells h1;exact ⟨_,e,rfl⟩
   ·obtain ⟨cs,e⟩:=Has.own h1 e.symm;exact ⟨_,e,rfl⟩
  ·intro g e
   rcases q3 with q3 | q3
   ·exact h2 g (by rw [<- q3];exact e)
   ·have:=q3 g e;have:=h3.size;omega
  ·refine h3.trans (q2.gr h3.size ?_)
   rintro b (rfl | e)
   ·exact hh
   ·exact h2 b e.symm
 case done =>
  clear N0
  rintro D W hD ⟨vh,h1,h2,h3,h4,h5,h6⟩ hK
  have cB:=h4.cell
  have hl:=Tk.list_has h1
  rw [List.take_of_length_le (by have:=NH.out;omega)] at hl
  gi_wp2_with (refine ⟨trivial,?_⟩;gi_at_call 65;refine (callsIn_wide.2 hl).mono ?_;rintro e w5 ⟨v',rfl,o1,o2,o3⟩)
  have hK':=gb_same o2 hK
  refine ⟨by simp,.inl ⟨_,_,rfl,run_takeDeferred hK',?_⟩⟩
  exact ⟨v',by simp [results,Tryz.results46,go_sem],v',rfl,own_putObj o1 hK' rfl _,below_putObj (gb_trans' h3 o2 h3.size) (by omega) _,fun g e=>by have:=o3 g e;have:=h3.size;omega⟩
theorem topk_c {w:World} {v u:Value} {rs:List Rw} {q:List Int} (hv:RdW w v rs) (hu:RdI w u q) (hwf:Wf rs) (k:Int) :
  Calls Tryz.prog 22 #[v,u,.int .i64 k] w fun e w'=>∃ v',e=.returned (.tuple #[v',.int .i64 (topE rs q k)])/\Gb w w' /\
   (topE rs q k ≠ 0->v'=.slice none 0 0)/\(topE rs q k=0->OutH w w' v' (Tk.firsts k.toNat (hitsOf q rs))):=by
 have cb:=begin_c hv hu hwf k
 have V:Hid (RdW w v rs):=hv
 have U:Hid (RdI w u q):=hu
 obtain ⟨av,cv,rfl,_⟩:=hv
 obtain ⟨au,cu,rfl,_⟩:=hu
 obtain ⟨n,hn⟩:∃ n,n=rs.length:=⟨_,rfl⟩
 obtain ⟨m,hm⟩:∃ m,m=q.length:=⟨_,rfl⟩
 rw [<- hn] at V cb ⊢
 rw [<- hm] at U cb ⊢
 clear hn hm
 by_cases hz:topE rs q k=0
 ·have hask:=(topE_zero.1 hz).1
  have ZH:Hid (topE rs q k=0):=hz
  rw [hz] at cb ⊢
  go_enter Tryz.func22,Tryz.ntmps22
  go_wp2_with fail
  refine cb.mono ?_
  rintro e w1 ⟨p,rfl,g1,_,hp⟩
  obtain ⟨hb,rfl,hhb,hH⟩:=hp ZH.out
  have cn:=nearest_c hH hhb V.out U.out g1 hask
  clear cb hp
  go_wp2_with fail
  refine cn.mono ?_
  rintro e w2 ⟨v',rfl,o⟩
  clear cn
  go_wp2
  go_ret2
  exact ⟨_,rfl,o.2.1,fun e=>absurd rfl e,fun _=>o⟩
 ·have ZH:Hid (topE rs q k ≠ 0):=hz
  have hz':(topE rs q k == 0)=false:=by rw [beq_eq_false_iff_ne];exact hz
  generalize topE rs q k=z at *
  go_enter Tryz.func22,Tryz.ntmps22
  go_wp2_with fail
  refine cb.mono ?_
  rintro e w1 ⟨p,rfl,g1,hp⟩
  clear cb hp
  go_wp2
  go_ret2
  exact ⟨_,rfl,g1,fun _=>rfl,fun e=>absurd e ZH.out⟩
end Go.Proofs.YtcipdampcmfmaabGreat
