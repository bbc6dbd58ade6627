import Derived.Test.YtcipdampcmfmaaaGreatIa12
import Derived.Test.YtcipdampcmfmaaaGreatIa6
import Derived.RangeFuncNested
import Derived.RangeFuncBound
import Derived.RangeFuncCalls
import Derived.RangeFuncLeaves
import Derived.Shelf.Abstract
import Derived.Shelf.RegionOpen
import Derived.WalkKit
import Derived.OwnWalkIn
import Derived.TacticsInMore
import Derived.LoopNIn
import Derived.LoopIn
import Derived.Test.YtcipdampcmfmaaaGreatIa13
namespace Go.Proofs.YtcipdampcmfmaaaGreat
open Go.RowKit Go.Sort
abbrev hitOf (q:List Int) (r:Rw):Tk.Ht:=(r.1,hi (dst q r.2),lo (dst q r.2))
def hitsOf (q:List Int) (rs:List Rw):List Tk.Ht:=rs.map (hitOf q)
def flatE (rs:List Rw) (d:Int):Int:=if 1<=d/\d<=64 then idsE rs d else 30
def askE (rs:List Rw) (q:List Int):Int:=if chk q (q.length:Int)=0 then flatE rs (q.length:Int) else chk q (q.length:Int)
def topE (rs:List Rw) (q:List Int) (k:Int):Int:=if askE rs q=0 then (if 1<=k/\k<=64 then 0 else 1) else askE rs q
theorem chk_is (l:List Int) (d:Int):chk l d=0 ∨ chk l d=30 ∨ chk l d=31:=by
 unfold chk vErr;(repeat' split) <;> simp
theorem rowE_is (rs:List Rw) (d:Int) (i:Nat):rowE rs d i=0 ∨ rowE rs d i=30 ∨ rowE rs d i=31 ∨ rowE rs d i=50:=by
 unfold rowE
 split
 ·rcases chk_is rs[i]!.2 d with h | h | h
  ·exact .inl h
  ·exact .inr (.inl h)
  ·exact .inr (.inr (.inl h))
 ·exact .inr (.inr (.inr rfl))
theorem rowsTo_is (rs:List Rw) (d:Int):∀ q,rowsTo rs d q=0 ∨ rowsTo rs d q=30 ∨ rowsTo rs d q=31 ∨ rowsTo rs d q=50
 | 0=>.inl rfl
 | q + 1=>by
  rw [rowsTo]
  split
  ·exact rowE_is rs d q
  ·exact rowsTo_is rs d q
theorem idsE_ne (rs:List Rw) (d:Int):idsE rs d ≠ 1:=by
 unfold idsE
 split
 ·rcases rowsTo_is rs d rs.length with h | h | h | h <;> rw [h] <;> decide
 ·decide
theorem idsE_nil (d:Int):idsE [] d=0:=rfl
theorem flatE_box (rs:List Rw) (d:Int):flatE rs d=if boxE rs d=1 then 0 else boxE rs d:=by
 unfold flatE boxE
 by_cases h:1<=d/\d<=64
 ·rw [if_pos h,if_pos h]
  by_cases h0:rs.length=0
  ·obtain rfl:=List.length_eq_zero_iff.1 h0
   rw [if_pos h0];simp [idsE_nil]
  ·rw [if_neg h0,if_neg (idsE_ne rs d)]
 ·rw [if_neg h,if_neg h];decide
theorem rowsTo_zero {rs:List Rw} {d:Int}:∀ q,rowsTo rs d q=0 ↔ ∀ i,i < q->rowE rs d i=0
 | 0=>⟨fun _ i hi=>absurd hi (Nat.not_lt_zero _),fun _=>rfl⟩
 | q + 1=>by
  rw [rowsTo]
  constructor
  ·intro h
   split at h
   ·rename_i h0
    intro i hi
    by_cases e:i=q
    ·subst e;exact h
    ·exact (rowsTo_zero q).1 h0 i (by omega)
   ·rename_i h0;exact absurd h h0
  ·intro h
   rw [if_pos ((rowsTo_zero q).2 fun i hi=>h i (by omega))]
   exact h q (by omega)
structure RowsOk (rs:List Rw) (d:Int):Prop where
 few:rs.length<=512
 ids:(idsOf rs).Pairwise (· ≠ ·)
 row:∀ r ∈ rs,okId r.1=true/\chk r.2 d=0
theorem rowE_zero {rs:List Rw} {d:Int} {i:Nat}:rowE rs d i=0 ↔ ((idsOf rs).take i).contains rs[i]!.1=false/\okId rs[i]!.1=true/\chk rs[i]!.2 d=0:=by
 unfold rowE
 split
 ·rename_i h;exact ⟨fun e=>⟨h.1,h.2,e⟩,fun e=>e.2.2⟩
 ·rename_i h;exact ⟨fun e=>by simp at e,fun e=>absurd ⟨e.1,e.2.1⟩ h⟩
theorem ids_get {rs:List Rw} {i:Nat} (hi:i < rs.length):(idsOf rs)[i]'(by simpa [idsOf] using hi)=rs[i]!.1:=by
 rw [getElem!_pos rs i hi];simp [idsOf]
theorem idsE_zero {rs:List Rw} {d:Int}:idsE rs d=0 ↔ RowsOk rs d:=by
 unfold idsE
 constructor
 ·intro h
  split at h
  ·rename_i hn
   have h1:=(rowsTo_zero _).1 h
   refine ⟨hn,?_,fun r hr=>?_⟩
   ·rw [List.pairwise_iff_getElem]
    intro i j hi hj hij e
    have hi':i < rs.length:=by simpa [idsOf] using hi
    have hj':j < rs.length:=by simpa [idsOf] using hj
    have h2:=(rowE_zero.1 (h1 j hj')).1
    rw [<- ids_get hj',<- e] at h2
    have:((idsOf rs).take j).contains (idsOf rs)[i]=true:=by
     rw [List.contains_iff_mem]
     exact List.mem_iff_getElem.2 ⟨i,by simp [idsOf];omega,by simp⟩
    rw [this] at h2;cases h2
   ·obtain ⟨i,hi,rfl⟩:=List.mem_iff_getElem.1 hr
    have h2:=rowE_zero.1 (h1 i hi)
    rw [getElem!_pos rs i hi] at h2
    exact h2.2
  ·cases h
 ·rintro ⟨h1,h2,h3⟩
  rw [if_pos h1,rowsTo_zero]
  intro i hi
  have h4:=h3 rs[i] (List.getElem_mem hi)
  rw [rowE_zero,getElem!_pos rs i hi]
  refine ⟨?_,h4⟩
  rw [<- Bool.not_eq_true,List.contains_iff_mem]
  intro hm
  obtain ⟨j,hj,e⟩:=List.mem_iff_getElem.1 hm
  have hji:j < i:=by have:=hj;simp at this;omega
  have:=List.pairwise_iff_getElem.1 h2 j i (by simp [idsOf];omega) (by simp [idsOf];omega) hji
  apply this
  rw [List.getElem_take] at e
  rw [e,ids_get hi,getElem!_pos rs i hi]
theorem RowsOk.perm {rs rs':List Rw} {d:Int} (h:RowsOk rs d) (p:rs.Perm rs'):RowsOk rs' d :=
 ⟨by rw [<- p.length_eq];exact h.few,(List.Perm.pairwise_iff (fun h=>Ne.symm h) (p.map _)).1 h.ids,fun r hr=>h.row r (p.mem_iff.2 hr)⟩
theorem RowsOk.sub {rs rs':List Rw} {d:Int} (h:RowsOk rs d) (p:rs'.Sublist rs):RowsOk rs' d :=
 ⟨Nat.le_trans p.length_le h.few,h.ids.sublist (p.map _),fun r hr=>h.row r (p.subset hr)⟩
theorem flatE_zero {rs:List Rw} {d:Int}:flatE rs d=0 ↔ (1<=d/\d<=64)/\RowsOk rs d:=by
 unfold flatE
 split
 ·rename_i h;rw [idsE_zero];exact ⟨fun e=>⟨h,e⟩,fun e=>e.2⟩
 ·rename_i h;exact ⟨fun e=>by simp at e,fun e=>absurd e.1 h⟩
theorem askE_zero {rs:List Rw} {q:List Int}:askE rs q=0 ↔ chk q (q.length:Int)=0/\RowsOk rs (q.length:Int):=by
 unfold askE
 split
 ·rename_i h
  have:=chk_ok h
  rw [flatE_zero]
  exact ⟨fun e=>⟨h,e.2⟩,fun e=>⟨⟨by omega,by omega⟩,e.2⟩⟩
 ·rename_i h;exact ⟨fun e=>absurd e h,fun e=>absurd e.1 h⟩
theorem topE_zero {rs:List Rw} {q:List Int} {k:Int}:topE rs q k=0 ↔ askE rs q=0/\1<=k/\k<=64:=by
 unfold topE
 split
 ·rename_i h
  split
  ·rename_i h1;simp [h,h1]
  ·rename_i h1;simp [h];omega
 ·rename_i h;exact ⟨fun e=>absurd e h,fun e=>absurd e.1 h⟩
theorem row_dist {rs:List Rw} {q:List Int} (h:askE rs q=0) {r:Rw} (hr:r ∈ rs):distE q r.2=0/\distV q r.2=dst q r.2:=by
 obtain ⟨h1,h2⟩:=askE_zero.1 h
 have e:distE q r.2=0:=by unfold distE;rw [if_pos h1];exact (h2.row r hr).2
 exact ⟨e,by unfold distV;rw [if_pos e]⟩
theorem hlt_hit (i j:Int) (m n:Nat):Tk.hlt (i,hi m,lo m) (j,hi n,lo n)=true ↔ m < n ∨ m=n/\i < j:=by
 rw [Tk.hlt_iff]
 unfold Tk.Ht.hi Tk.Ht.lo Tk.Ht.id hi lo
 dsimp only
 omega
theorem hitsOf_len (q:List Int) (rs:List Rw):(hitsOf q rs).length=rs.length:=by simp [hitsOf]
theorem hitsOf_perm (q:List Int) {rs rs':List Rw} (p:rs.Perm rs'):(hitsOf q rs).Perm (hitsOf q rs'):=p.map _
theorem hitsOf_app (q:List Int) (a b:List Rw):hitsOf q (a ++ b)=hitsOf q a ++ hitsOf q b:=by simp [hitsOf]
theorem hitsOf_snoc (q:List Int) {rs:List Rw} {i:Nat} (hi':i < rs.length):hitsOf q (rs.take (i + 1))=hitsOf q (rs.take i) ++ [hitOf q rs[i]!]:=by
 rw [List.take_succ_eq_append_getElem hi',hitsOf_app,getElem!_pos rs i hi'];rfl
end Go.Proofs.YtcipdampcmfmaaaGreat

namespace Go.Proofs.YtcipdampcmfmaaaGreat
open Go.RowKit Go.Shelf
attribute [local go_sem] Oper.semAt_some
theorem grown_of_gb {a b:World} (h:Gb a b):a.grownBy b none:=⟨h.os,h.tape,h.output,h.size,fun k hk _=>h.block k hk⟩
theorem gb_same {a b:World} (h:Gb a b) {k:Nat} {o:Obj} (hk:a.heap[k]? = some o):b.heap[k]? = some o :=
 (h.block k (Array.getElem?_eq_some_iff.1 hk).1).trans hk
def leftOn (I:Nat->World->Prop) (k:Nat) (W:World):Exit->Act->World->Prop
 | .normal,_,W'=>KeepsOthers W W'/\I k W'
 | _,_,_=>False
def Gives (n:Nat) (P:Program) (gf:Nat) (lb:Array Value) (N:Nat) (arg:Nat->Value) (I:Nat->World->Prop):Prop :=
 ∀ (l:Nat) (J:Nat->World->Prop) (W:World),(∀ k W,J k W->I k W) ->
  (∀ k W W',J k W->Gb W W'->J k W') ->
  (∀ k W,k < N->J k W->YieldAt Fence.wide (n - 1) P l #[arg k] W fun e W'=>e=.returned (.bool true)/\J (k + 1) W') ->
  J 0 W ->
  CallsIn Fence.wide n P gf (#[.func (.yield l) #[] #[]] ++ lb) W fun e W'=>(∃ v,e=.returned v)/\J N W'
theorem range_c {n:Nat} {P:Program} {g:Operand} {ps:Array Tmp} {assign body:Code} {Q:Exit->Act->World->Prop} {a:Act} {w:World}
  {gf:Nat} {lb:Array Value} (hg:a.eval g=.func (.func gf) #[] lb) (eg:∀ args w,(callFunc gf args).run P w=.ok (.enter gf args) w)
  (hps:ps.size=1) (N:Nat) (arg:Nat->Value) (I:Nat->World->Prop) (I1:Nat->Nat->World->Prop) (ob:Nat->Obj)
  (hI:OwnFrom w.heap.size I) (hI1:∀ p,OwnFrom w.heap.size (fun k=>I1 k p)) (h0:I 0 w) (hst:∀ k W,k < N->I k W->I1 k W.heap.size (W.alloc (ob k)))
  (hit:Gives (n - 1) P gf lb N arg I) (a₁:Nat->Nat->Act)
  (hassign:∀ (l k:Nat) (W:World) (K:Act->World->Prop),K (a₁ k W.heap.size) (W.alloc (ob k)) ->
   assign.wpIn (Fence.wide.inRound l) (n - 1 - 1) P (Exit.then K (fun _ _ _=>False)) { tmps:=(ps.zip #[arg k]).foldl (fun t (p,v)=>t.setIfInBounds p v) a.tmps,defers:=[] } W)
  (hbody:∀ (l k p:Nat) (W:World),k < N->I1 k p W->body.wpIn (Fence.wide.inRound l) (n - 1 - 1) P (leftOn I (k + 1) W) (a₁ k p) W)
  (hdone:∀ (D:Nat) (W:World),w.heap.size<=D->I N W->W.heap[D]? = some (.deferred (some []))->Q .normal { a with defers:={ target:=.collected D,args:=#[] } :: a.defers } W) :
  (Code.rangeFunc g ps assign body).wpIn Fence.wide n P Q a w:=by
 refine wpIn_rangeFunc fun fn hfn=>?_
 obtain ⟨rc,hrc⟩:∃ rc:LoopState->Option Code->Loop,rc=fun s p=>{ state:=s,pending:=p,fn:=fn,tmps:=a.tmps,params:=ps,assign:=assign,body:=body,defers:=w.heap.size }:=⟨_,rfl⟩
 obtain ⟨V,hV⟩:∃ V,(w.alloc (.deferred (some []))).alloc (.loop (rc .ready none))=V:=⟨_,rfl⟩
 have hlV:V.heap[w.heap.size + 1]? = some (.loop (rc .ready none)):=by
  rw [<- hV];have:=World.alloc_heap_new (w.alloc (.deferred (some []))) (.loop (rc .ready none));rwa [World.size_alloc] at this
 have hdV:V.heap[w.heap.size]? = some (.deferred (some [])):=by
  rw [<- hV];exact (Below.heap_alloc _ _ _ (by simp)).trans (World.alloc_heap_new w _)
 have hIV:I 0 V:=by rw [<- hV];exact hI.alloc _ (hI.alloc _ h0)
 refine ⟨w.heap.size + 1,[{ target:=.collected w.heap.size,args:=#[] }],V,{ target:=.fn (.func gf) lb,args:=#[.func (.yield (w.heap.size + 1)) #[] #[]] },V,gf,
  #[.func (.yield (w.heap.size + 1)) #[] #[]] ++ lb,V,?_,?_,fun _ _=>trivial,?_,fun h=>by simp [Fence.wide] at h,?_⟩
 ·rw [<- hV,hrc];exact run_enterLoop_outer _ _ _ _ _
 ·simp only [resolve,hg]
  simp [go_sem]
 ·simp [invoke,go_sem,eg]
 refine (hit (w.heap.size + 1)
  (fun k W=>I k W/\W.heap[w.heap.size + 1]? = some (.loop (rc .ready none))/\W.heap[w.heap.size]? = some (.deferred (some [])))
  V (fun _ _ h=>h.1) (fun k W W' h g=>⟨hI k W W' none h.1 (grown_of_gb g) (fun r e=>by cases e),gb_same g h.2.1,gb_same g h.2.2⟩) ?_ ⟨hIV,hlV,hdV⟩).mono ?_
 ·-- one round
  rintro k W hk ⟨hi,hl,hd⟩
  have hlt:w.heap.size + 1 < W.heap.size:=(Array.getElem?_eq_some_iff.1 hl).1
  have hy:=run_yield (P:=P) (args:=#[arg k]) hl (by rw [hrc];simp [hps])
  rw [hrc] at hy
  obtain ⟨p,hp0⟩:∃ p,p=W.heap.size:=⟨_,rfl⟩
  obtain ⟨Wa,hWa⟩:∃ Wa,W.alloc (ob k)=Wa:=⟨_,rfl⟩
  have gA:Gb W Wa:=by rw [<- hWa];exact gb_alloc (Below.refl _ _) _
  have hla:=gb_same gA hl
  have hda:=gb_same gA hd
  have hlta:w.heap.size + 1 < Wa.heap.size:=(Array.getElem?_eq_some_iff.1 hla).1
  have hia:I1 k p Wa:=by rw [<- hWa,hp0];exact hst k W hk hi
  refine ⟨fn,_,assign,body,hy,roundIn_of_wpIn hfn (hassign _ k W _ ?_)⟩
  rw [hWa,<- hp0]
  refine ⟨_,run_beginRound hla (by rw [hrc]),?_⟩
  clear hy hi hl hd hlt
  obtain ⟨W2,hW2⟩:∃ W2,Wa.putObj (w.heap.size + 1) (.loop { rc .ready none with state:=.busy })=W2:=⟨_,rfl⟩
  rw [hW2]
  have hl2:W2.heap[w.heap.size + 1]? = some (.loop { rc .ready none with state:=.busy }):=by rw [<- hW2];exact World.putObj_heap_same hlta
  have hd2:W2.heap[w.heap.size]? = some (.deferred (some [])):=by rw [<- hW2];exact (World.putObj_heap_other (by omega)).trans hda
  have hi2:I1 k p W2:=by rw [<- hW2];exact (hI1 p).putObj _ hia (by omega) hla rfl
  refine wpIn_mono (hbody _ k p W2 hk hi2) ?_
  have fin:∀ (j:Option Code) (W3:World),KeepsOthers W2 W3 ->
    (Instr.endRound (w.heap.size + 1) j).run P W3=.ok (.bool j.isNone) (W3.putObj (w.heap.size + 1) (.loop (rc (if j.isNone then .ready else .done) j))) /\
    W3.heap[w.heap.size + 1]? = some (.loop { rc .ready none with state:=.busy }) /\
    (W3.putObj (w.heap.size + 1) (.loop (rc (if j.isNone then .ready else .done) j))).heap[w.heap.size + 1]? = some (.loop (rc (if j.isNone then .ready else .done) j)) /\
    (W3.putObj (w.heap.size + 1) (.loop (rc (if j.isNone then .ready else .done) j))).heap[w.heap.size]? = some (.deferred (some [])):=fun j W3 hk3=>by
   have hl3:=hk3.same _ _ hl2 rfl
   have:=run_endRound (P:=P) j hl3
   rw [hrc] at this ⊢
   exact ⟨this,by rw [hrc] at hl3;exact hl3,World.putObj_heap_same (Array.getElem?_eq_some_iff.1 hl3).1,(World.putObj_heap_other (by omega)).trans (hk3.same _ _ hd2 rfl)⟩
  rintro e a3 W3 hp
  cases e with
  | normal =>
   obtain ⟨hk3,hi3⟩:=hp
   obtain ⟨hr,hl3,hl4,hd4⟩:=fin none W3 hk3
   exact ⟨_,_,hr,rfl,hI.putObj _ hi3 (by omega) hl3 rfl,hl4,hd4⟩
  | ret=>exact hp.elim
  | exit id=>exact hp.elim
  | goto t=>exact hp.elim
  | panic ch=>exact hp.elim
  | outgrown=>exact hp.elim
 ·-- behind it
  rintro e W2 ⟨⟨v,rfl⟩,hi,hl,hd⟩
  exact ⟨none,_,by have:=run_endLoop (P:=P) hl (by rw [hrc];simp);rw [hrc] at this;exact this,hdone _ _ (Nat.le_refl _) (hI.putObj _ hi (by omega) hl rfl) ((World.putObj_heap_other (by omega)).trans hd)⟩
end Go.Proofs.YtcipdampcmfmaaaGreat

namespace Go.Proofs.YtcipdampcmfmaaaGreat
open Go.RowKit Go.Sort
set_option maxRecDepth 100000
set_option maxHeartbeats 4000000
def CmpR (w0:World) (g bf:Nat) (l:List El) (c:El->El->Prop):Prop:=∀ W,Tk.Kp (fun k=>k=g) w0 W->∀ x y,x ∈ l->y ∈ l ->
 Calls Tryz.prog 100 #[.agg #[.int .i64 x.1,sl x],.agg #[.int .i64 y.1,sl y],.pointer (some ⟨bf,0,none⟩)] W fun e w'=>∃ z:Int,e=.returned (.int .i64 z)/\(z < 0 ↔ c x y)/\Tk.Gw W w'
theorem get_memR {l:List El} {i:Nat} (h:i < l.length):l[i]! ∈ l:=by
 have e:l[i]! = l[i]:=by simp [h]
 rw [e];exact List.getElem_mem h
theorem CmpR.later {w0 w1:World} {g bf:Nat} {l l1:List El} {c:El->El->Prop} (h:CmpR w0 g bf l c) (k:Tk.Kp (fun k=>k=g) w0 w1) (hp:l1.Perm l):CmpR w1 g bf l1 c :=
 fun W hW x y hx hy=>h W (k.trans hW) x y (hp.mem_iff.1 hx) (hp.mem_iff.1 hy)
theorem Rot.pushR {l l1:List El} {a k:Nat} (h:Rot l l1 a (a + 1) (k + 1)) (hk:a<=k) (hk2:k + 1 < l.length):Rot l (sws l1 k (k + 1)) a (a + 1) (k + 2):=by
 have hl:=h.perm.length_eq
 have g:=fun i=>sws_get l1 k (k + 1) i (by omega) (by omega)
 refine ⟨(sws_perm _ _ _ (by omega) (by omega)).trans h.perm,fun i hi=>?_,fun i hi=>?_,fun i hi=>?_⟩
 ·rw [g,if_neg (by omega)]
  by_cases hik:a + i=k
  ·rw [if_pos hik,h.out (k + 1) (by omega)]
   congr 1;omega
  ·rw [if_neg hik]
   exact h.fst i (by omega)
 ·obtain rfl:i=0:=by omega
  rw [g,if_pos (by omega)]
  have:=h.snd 0 (by omega)
  rw [show a + (k + 1 - (a + 1)) + 0=k by omega] at this
  rw [this]
 ·rw [g,if_neg (by omega),if_neg (by omega)]
  exact h.out i (by omega)
theorem Rot.pullR {l l1:List El} {k m:Nat} (h:Rot l l1 k m (m + 1)) (hk:0 < k) (hkm:k<=m) (hm:m < l.length):Rot l (sws l1 k (k - 1)) (k - 1) m (m + 1):=by
 have hl:=h.perm.length_eq
 have g:=fun i=>sws_get l1 k (k - 1) i (by omega) (by omega)
 refine ⟨(sws_perm _ _ _ (by omega) (by omega)).trans h.perm,fun i hi=>?_,fun i hi=>?_,fun i hi=>?_⟩
 ·obtain rfl:i=0:=by omega
  rw [g,if_pos (by omega)]
  have:=h.fst 0 (by omega)
  simpa using this
 ·rw [g,if_neg (by omega)]
  by_cases hi0:i=0
  ·subst hi0
   rw [if_pos (by omega),h.out (k - 1) (by omega)]
   congr 1
  ·rw [if_neg (by omega)]
   have:=h.snd (i - 1) (by omega)
   rw [show k + (m + 1 - m) + (i - 1)=k - 1 + (m + 1 - m) + i by omega,show k + (i - 1)=k - 1 + i by omega] at this
   exact this
 ·rw [g,if_neg (by omega),if_neg (by omega)]
  exact h.out i (by omega)
theorem symR_one {w:World} {g o cap bf a m b:Nat} {l:List El} {c lt:El->El->Prop} (ht:∀ x y z,lt x y->lt y z->lt x z) (h:SRA w g o l) (hl:l.length<=4000) (hb:b<=l.length) (hP:PreM c lt l a m b) (hc:CmpR w g bf l c) (hm:m=a + 1) (hmb:m < b) :
  Calls Tryz.prog 188 #[.slice (some ⟨g,o,none⟩) l.length cap,.int .i64 (a:Int),.int .i64 (m:Int),.int .i64 (b:Int),.func (.func 100) #[] #[.pointer (some ⟨bf,0,none⟩)]] w fun e w'=>e=.returned (.tuple #[])/\∃ l',Seg l l' a b/\Ri lt l' a b/\SRA w' g o l'/\Tk.Kp (fun k=>k=g) w w':=by
 have H0:Hid (SRA w g o l):=h
 have CC:Hid (CmpR w g bf l c):=hc
 have PM:Hid (m=a + 1/\PreM c lt l a m b/\∀ x y z,lt x y->lt y z->lt x z):=⟨hm,hP,ht⟩
 have em:(m:Int) - (a:Int)=1:=by omega
 have ha:a < l.length:=by omega
 have hai:(a:Int) < (l.length:Int):=by omega
 have ma:a < m:=by omega
 clear h hc hP ht hm
 go_enter Tryz.func188,Tryz.ntmps188
 go_wp2
 go_loopw [10,11] (fun iv jv W0=>∃ (W:World) (_:W=W0) (i j:Nat),iv=.int .i64 (i:Int)/\jv=.int .i64 (j:Int)/\m<=i/\i<=j/\j<=b/\Hid ((i=m ∨ c l[i - 1]! l[a]!)/\(j=b ∨ ¬ c l[j]! l[a]!)/\Tk.Gw w W)) (fun iv jv _=>(intOf jv).toNat - (intOf iv).toNat)
 case atStart=>exact ⟨_,rfl,m,b,rfl,rfl,Nat.le_refl _,Nat.le_of_lt hmb,Nat.le_refl _,Or.inl rfl,Or.inl rfl,Tk.Gw.refl _⟩
 case round =>
  obtain ⟨W,hW,i,j,rfl,rfl,hmi,hij,hjb,X⟩:=hrel
  subst hW
  by_cases hlt:i < j
  ·have hlti:(i:Int) < (j:Int):=by omega
   obtain ⟨q,hq⟩:∃ q,q=(i + j) / 2:=⟨_,rfl⟩
   have eh:((i:Int) + (j:Int)) / 2=(q:Int):=by omega
   have hiq:i<=q:=by omega
   have hqj:q < j:=by omega
   clear hq
   have hh:q < l.length:=by omega
   have hhi:(q:Int) < (l.length:Int):=by omega
   obtain ⟨x,y,⟨c1,c1b⟩,⟨c2,c2b⟩,E1,E2,XL⟩:∃ x y:El,(W.cell? ⟨g,o + q * 2,none⟩=some (.int .i64 x.1)/\W.cell? ⟨g,o + q * 2 + 1,none⟩=some (sl x))/\(W.cell? ⟨g,o + a * 2,none⟩=some (.int .i64 y.1)/\W.cell? ⟨g,o + a * 2 + 1,none⟩=some (sl y))/\Hid (x ∈ l)/\Hid (y ∈ l)/\Hid (∀ z:Int,(z < 0 ↔ c x y)->(z < 0->c l[q + 1 - 1]! l[a]!)/\(¬ z < 0->¬ c l[q]! l[a]!)) :=
    ⟨l[q]!,l[a]!,⟨gwk X.out.2.2 (H0.out.cell hh).1,gwk X.out.2.2 (H0.out.cell hh).2⟩,⟨gwk X.out.2.2 (H0.out.cell ha).1,gwk X.out.2.2 (H0.out.cell ha).2⟩,get_memR hh,get_memR ha,fun z hz=>⟨fun h=>by rw [Nat.add_sub_cancel];exact hz.1 h,fun h h'=>h (hz.2 h')⟩⟩
   have KW:Hid (Tk.Kp (fun k=>k=g) w W):=Tk.Kp.of_gr X.out.2.2.gr
   obtain ⟨x1,x2,x3,x4⟩:=x
   obtain ⟨y1,y2,y3,y4⟩:=y
   simp only [sl] at c1 c1b c2 c2b
   go_wp2
   refine wp_region_held_drew (S:=fun W2=>Tk.Gw W W2) (by kernel_rfl) ((Tk.Gw.refl W).drew) (fun hHeld=>?_)
   refine tkn 0 ?_ rfl ?_ ?_;rotate_left;·(intro w hSw;(have s1:=gwk hSw c1;have s2:=gwk hSw c2;have s3:=gwk hSw c1b;have s4:=gwk hSw c2b);go_simp;try rfl)
   try simp only [pt]
   refine tkn 1 ?_ rfl ?_ ?_;rotate_left;·(intro w hSw;(have s1:=gwk hSw c1;have s2:=gwk hSw c2;have s3:=gwk hSw c1b;have s4:=gwk hSw c2b);go_simp;try rfl)
   try simp only [pt]
   refine tkn 2 ?_ rfl ?_ ?_;rotate_left;·(intro w hSw;(have s1:=gwk hSw c1;have s2:=gwk hSw c2;have s3:=gwk hSw c1b;have s4:=gwk hSw c2b);go_simp;try rfl)
   try simp only [pt]
   refine tkn 3 ?_ rfl ?_ ?_;rotate_left;·(intro w hSw;(have s1:=gwk hSw c1;have s2:=gwk hSw c2;have s3:=gwk hSw c1b;have s4:=gwk hSw c2b);go_simp;try rfl)
   try simp only [pt]
   refine tkn 4 ?_ rfl ?_ ?_;rotate_left;·(intro w hSw;(have s1:=gwk hSw c1;have s2:=gwk hSw c2;have s3:=gwk hSw c1b;have s4:=gwk hSw c2b);go_simp;try rfl)
   try simp only [pt]
   refine tkn 5 ?_ rfl ?_ ?_;rotate_left;·(intro w hSw;(have s1:=gwk hSw c1;have s2:=gwk hSw c2;have s3:=gwk hSw c1b;have s4:=gwk hSw c2b);go_simp;try rfl)
   try simp only [pt]
   refine tkn 6 ?_ rfl ?_ ?_;rotate_left;·(intro w hSw;(have s1:=gwk hSw c1;have s2:=gwk hSw c2;have s3:=gwk hSw c1b;have s4:=gwk hSw c2b);go_simp;try rfl)
   try simp only [pt]
   refine tkn 7 ?_ rfl ?_ ?_;rotate_left;·(intro w hSw;(have s1:=gwk hSw c1;have s2:=gwk hSw c2;have s3:=gwk hSw c1b;have s4:=gwk hSw c2b);go_simp;try rfl)
   try simp only [pt]
   refine tkn 8 ?_ rfl ?_ ?_;rotate_left;·(intro w hSw;(have s1:=gwk hSw c1;have s2:=gwk hSw c2;have s3:=gwk hSw c1b;have s4:=gwk hSw c2b);go_simp;try rfl)
   try simp only [pt]
   refine rdn 9 rfl (fun K hK=>?_)
   go_simp
   refine (CC.out _ (KW.out.trans (Tk.Kp.of_gr hHeld.gr)) _ _ E1.out E2.out).mono ?_
   rintro e wa ⟨z,rfl,hz,ga⟩
   refine hK.out _ _ (hHeld.trans ga) (fun hHeld=>?_)
   clear hK K
   try simp only [pt]
   refine tkn 10 ?_ rfl ?_ ?_;rotate_left;·(intro w hSw;(have s1:=gwk hSw c1;have s2:=gwk hSw c2;have s3:=gwk hSw c1b;have s4:=gwk hSw c2b);go_simp;try rfl)
   try simp only [pt]
   refine wpAnyH_done (by kernel_rfl) ?_ _
   have XZ:=XL.out z hz
   by_cases hz0:z < 0
   ·have Y:Hid ((q + 1=m ∨ c l[q + 1 - 1]! l[a]!)/\(j=b ∨ ¬ c l[j]! l[a]!)/\Tk.Gw w _):=⟨Or.inr (XZ.1 hz0),X.out.2.1,X.out.2.2.trans hHeld⟩
    clear XZ hz X XL
    go_wp2
    go_roundw
    case rel=>exact ⟨_,rfl,q + 1,j,by go_num,rfl,by omega,by omega,hjb,Y.out⟩
    case measure=>simp [intOf];omega
   ·have Y:Hid ((i=m ∨ c l[i - 1]! l[a]!)/\(q=b ∨ ¬ c l[q]! l[a]!)/\Tk.Gw w _):=⟨X.out.1,Or.inr (XZ.2 (by omega)),X.out.2.2.trans hHeld⟩
    clear XZ hz X XL
    go_wp2
    go_roundw
    case rel=>exact ⟨_,rfl,i,q,rfl,rfl,hmi,hiq,by omega,Y.out⟩
    case measure=>simp [intOf];omega
  ·obtain rfl:i=j:=by omega
   have ib:i<=l.length:=by omega
   have HI:Hid (SRA W g o l/\Tk.Kp (fun k=>k=g) w W):=⟨H0.out.same (X.out.2.2.gr.block _ H0.out.lt),Tk.Kp.of_gr X.out.2.2.gr⟩
   have FIN:Hid (∀ l1,Rot l l1 a (a + 1) i->Seg l l1 a b/\Ri lt l1 a b):=fun l1 hr=>by
    obtain ⟨hm,hP,ht⟩:=PM.out
    rw [hm] at hP
    exact ⟨hr.seg.mono (Nat.le_refl _) hjb,merge_one c lt ht hP ⟨by omega,hjb⟩ (by rcases X.out.1 with h | h;exact Or.inl (by omega);exact Or.inr h) X.out.2.1 hr⟩
   have im:a + 1<=i:=by have:=PM.out.1;omega
   clear X H0 CC PM em hmi hij
   go_wp2
   go_loopw [13] (fun kv W0=>∃ (W:World) (_:W=W0) (k:Nat) (l1:List El),kv=.int .i64 (k:Int)/\a<=k/\k + 1<=i/\Hid (Rot l l1 a (a + 1) (k + 1)/\SRA W g o l1/\Tk.Kp (fun k=>k=g) w W)) (fun kv _=>i - (intOf kv).toNat)
   case atStart=>exact ⟨_,rfl,a,l,rfl,Nat.le_refl _,im,Rot.none l (Or.inr rfl) ⟨by omega,by omega⟩,HI.out⟩
   case round =>
    obtain ⟨W,hW,k,l1,rfl,hak,hki,Y⟩:=hrel
    subst hW
    by_cases hk:k + 1 < i
    ·have hki':(k:Int) < (i:Int) - 1:=by omega
     have hl1:l1.length=l.length:=Y.out.1.perm.length_eq
     have k1:(k:Int) < (l.length:Int):=by omega
     have k2:(k:Int) + 1 < (l.length:Int):=by omega
     obtain ⟨c1,c1b⟩:=Y.out.2.1.cell (i:=k) (by omega)
     obtain ⟨c2,c2b⟩:=Y.out.2.1.cell (i:=k + 1) (by omega)
     have f1:W.frozen? ⟨g,o + k * 2,none⟩=false:=Y.out.2.1.froz _
     have f1b:W.frozen? ⟨g,o + k * 2 + 1,none⟩=false:=Y.out.2.1.froz _
     have f2:W.frozen? ⟨g,o + (k + 1) * 2,none⟩=false:=Y.out.2.1.froz _
     have f2b:W.frozen? ⟨g,o + (k + 1) * 2 + 1,none⟩=false:=Y.out.2.1.froz _
     have N:Hid (Rot l (sws l1 k (k + 1)) a (a + 1) (k + 2)):=Y.out.1.pushR hak (by omega)
     have M:Hid (SRA ((((W.setCell ⟨g,o + k * 2,none⟩ (.int .i64 l1[k + 1]!.1)).setCell ⟨g,o + k * 2 + 1,none⟩ (sl l1[k + 1]!)).setCell ⟨g,o + (k + 1) * 2,none⟩ (.int .i64 l1[k]!.1)).setCell ⟨g,o + (k + 1) * 2 + 1,none⟩ (sl l1[k]!)) g o (sws l1 k (k + 1))):=Y.out.2.1.sws (by omega) (by omega)
     generalize l1[k]! = x at *
     generalize l1[k + 1]! = y at *
     obtain ⟨x1,x2,x3,x4⟩:=x
     obtain ⟨y1,y2,y3,y4⟩:=y
     simp only [sl] at c1 c1b c2 c2b M
     clear hl1
     go_wp2
     go_region
     go_wp2
     go_roundw
     case rel=>exact ⟨_,rfl,k + 1,sws l1 k (k + 1),by go_num,by omega,hk,N.out,M.out.same rfl,Y.out.2.2.trans (kp_swr W g _ _ _ _ _ _ _ _)⟩
     case measure=>simp [intOf];omega
    ·have hki':¬ (k:Int) < (i:Int) - 1:=by omega
     obtain rfl:k + 1=i:=by omega
     go_wp2
     (try simp only [Exit.inBlock,Exit.then])
     refine bodyPost_ret (results_none rfl _ _ _) rfl ?_
     have q:=FIN.out l1 Y.out.1
     exact ⟨rfl,l1,q.1,q.2,Y.out.2.1,Y.out.2.2⟩
end Go.Proofs.YtcipdampcmfmaaaGreat
