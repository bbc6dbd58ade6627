import Derived.Test.YtepjbdklljlecaaGreatVr4
import Derived.Laws.AppendOwnNone
import Derived.Test.YtepjbdklljlecaaGreatVr15
import Derived.Test.YtepjbdklljlecaaGreatVrBoxY
import Derived.RangeFuncNested
import Derived.RangeFuncBound
import Derived.RangeFuncCalls
import Derived.RangeFuncLeaves
import Derived.Shelf.Abstract
import Derived.Shelf.RegionOpen
import Derived.WalkKit
import Derived.OwnWalkIn
import Derived.TacticsInMore
import Derived.LoopNIn
import Derived.LoopIn
import Derived.Test.YtepjbdklljlecaaGreatVrFar
import Derived.Deep.OwnRows
import Derived.Laws.CopyOwn
import Derived.Laws.OwnMore
import Derived.Test.YtepjbdklljlecaaGreatVr11
import Derived.Test.YtepjbdklljlecaaGreatVr14
namespace Go.Proofs.YtepjbdklljlecaaGreat
open Go.RowKit Go.Sort Go.Maps
theorem Tryz.infoW:(Tryz.prog.info? 43).map (fun i=>(i.zero,i.size,i.bytes))=some (some (.agg #[.int .i64 0,.slice none 0 0]),2,32):=by kernel_rfl
theorem info_partsW:∃ i0,Tryz.prog.info? 43=some i0/\i0.zero=some (.agg #[.int .i64 0,.slice none 0 0])/\i0.size=2/\i0.bytes=32:=by
 obtain ⟨i,hi,hzz⟩:=Option.map_eq_some_iff.1 Tryz.infoW
 simp only [Prod.mk.injEq] at hzz
 exact ⟨i,hi,hzz.1,hzz.2.1,hzz.2.2⟩
def CellsW (w:World) (xs:List Value) (rs:List Rw):Prop:=∀ i,i < rs.length->xs[i * 2]? = some (.int .i64 rs[i]!.1)/\∃ u,xs[i * 2 + 1]? = some u/\RdI w u rs[i]!.2
theorem CellsW.gb {w w':World} {xs:List Value} {rs:List Rw} (h:CellsW w xs rs) (g:Gb w w'):CellsW w' xs rs:=fun i hi=>by
 obtain ⟨h1,u,h2,h3⟩:=h i hi
 exact ⟨h1,u,h2,h3.gb g⟩
theorem CellsW.snoc {w:World} {xs:List Value} {rs:List Rw} {r:Rw} {u:Value} (h:CellsW w xs rs) (hl:xs.length=rs.length * 2) (hu:RdI w u r.2):CellsW w (xs ++ [.int .i64 r.1,u]) (rs ++ [r]):=fun i hi=>by
 rw [List.length_append] at hi
 by_cases e:i < rs.length
 ·rw [getElem!_pos (rs ++ [r]) i (by rw [List.length_append];exact hi),List.getElem_append_left e,<- getElem!_pos rs i e,List.getElem?_append_left (by omega),List.getElem?_append_left (by omega)]
  exact h i e
 ·have e':i=rs.length:=by simp at hi;omega
  subst e'
  have e2:(rs ++ [r])[rs.length]! = r:=by rw [getElem!_pos _ _ (by simp)];simp
  rw [e2,List.getElem?_append_right (by omega),List.getElem?_append_right (by omega),hl]
  exact ⟨by simp,u,by rw [show rs.length * 2 + 1 - rs.length * 2=1 by omega];rfl,hu⟩
def OwnW (w W:World) (B:Nat) (v:Value) (rs:List Rw):Prop:=∃ xs,W.ownsRow B 43 2 v rs.length xs/\CellsW w xs rs
theorem ownW_nil (w W:World) (B:Nat):OwnW w W B (.slice none 0 0) []:=⟨[],World.ownsRow_nil W B _ _,fun _ hi=>absurd hi (Nat.not_lt_zero _)⟩
theorem OwnW.kept {w W W':World} {B:Nat} {v:Value} {rs:List Rw} {row:Option Nat} (h:OwnW w W B v rs) (hg:W.grownBy W' row) (hne:v.ownBlock=none ∨ v.ownBlock ≠ row):OwnW w W' B v rs:=by
 obtain ⟨xs,h1,h2⟩:=h
 exact ⟨xs,h1.kept hg hne,h2⟩
theorem OwnW.gb {w W W':World} {B:Nat} {v:Value} {rs:List Rw} (h:OwnW w W B v rs) (g:Gb W W'):OwnW w W' B v rs :=
 h.kept (row:=none) ⟨g.os,g.tape,g.output,g.size,fun k hk _=>g.block k hk⟩ (by cases hv:v.ownBlock <;> simp)
theorem OwnW.rdw {w W:World} {B:Nat} {v:Value} {rs:List Rw} (h:OwnW w W B v rs) (g:Gb w W):RdW W v rs:=by
 obtain ⟨xs,h,hx⟩:=h
 rcases h.2 with ⟨rfl,h0⟩ | ⟨b,cap,cur,rfl,_⟩
 ·have:rs=[]:=List.eq_nil_of_length_eq_zero h0
  subst this
  exact ⟨none,0,rfl,fun i hi=>absurd hi (Nat.not_lt_zero _)⟩
 ·refine ⟨_,cap,rfl,fun i hi=>?_⟩
  obtain ⟨h1,u,h2,h3⟩:=hx i hi
  have c1:=World.ownsRow.cells h (g:=b) rfl (i * 2) _ h1
  have c2:=World.ownsRow.cells h (g:=b) rfl (i * 2 + 1) _ h2
  rw [Addr.add_lit] at c1 c2
  exact ⟨b,0,u,rfl,c1,by rw [Nat.add_assoc];exact c2,h3.gb g⟩
theorem OwnW.form {w W:World} {B:Nat} {v:Value} {rs:List Rw} (h:OwnW w W B v rs):∃ a cap,v=.slice a rs.length cap:=by
 obtain ⟨xs,h,_⟩:=h
 rcases h.2 with ⟨rfl,h0⟩ | ⟨b,cap,cur,rfl,_⟩
 ·exact ⟨none,0,by rw [h0]⟩
 ·exact ⟨_,cap,rfl⟩
theorem two_cells (w:World) (x y:Value) (t:TypeId):∀ j u,[x,y][j]? = some u->(w.alloc (.cells #[x,y] t)).cell? ((⟨w.heap.size,0,none⟩:Addr).add j)=some u:=by
 intro j u hj
 rw [Addr.add_lit]
 rcases j with _ | _ | j <;> simp at hj
 ·subst hj;simp [go_sem]
 ·subst hj;simp [go_sem]
theorem own_neW {w W:World} {B B':Nat} {u v:Value} {x:List Int} {rs:List Rw} (h:Own W B u x) (r:OwnW w W B' v rs):u.ownBlock=none ∨ u.ownBlock ≠ v.ownBlock:=by
 obtain ⟨xs,r,_⟩:=r
 rcases h.2 with ⟨rfl,_⟩ | ⟨g,cap,cur,rfl,_,hh,_⟩
 ·exact .inl rfl
 ·refine .inr fun e=>?_
  rcases r.2 with ⟨rfl,_⟩ | ⟨g',cap',cur',rfl,_,hh',_⟩
  ·cases e
  ·cases e
   rw [hh] at hh'
   simp at hh'
end Go.Proofs.YtepjbdklljlecaaGreat

namespace Go.Proofs.YtepjbdklljlecaaGreat.Rn
open Go.RowKit Go.Shelf
attribute [local go_sem] Oper.semAt_some
def leftBy (I:Nat->World->Prop) (Ir:Nat->World->Prop) (k:Nat) (W:World):Exit->Act->World->Prop
 | .normal,_,W'=>KeepsOthers W W'/\I k W'
 | .ret,_,W'=>KeepsOthers W W'/\Ir k W'
 | _,_,_=>False
def Gives (n:Nat) (P:Program) (gf:Nat) (lb:Array Value) (N b:Nat) (put arg:Nat->Value) (I:Nat->World->Prop):Prop :=
 ∀ (l:Nat) (J J1 Jx:Nat->World->Prop) (W:World),(∀ k W,J k W->I k W) ->
  (∀ k W,k < N->J k W->J1 k (W.setCell ⟨b,0,none⟩ (put k))) ->
  (∀ k W,k < N->J1 k W->YieldAt Fence.wide (n - 1) P l #[arg k] W fun e W' =>
   (e=.returned (.bool true)/\J (k + 1) W') ∨ (e=.returned (.bool false)/\Jx (k + 1) W')) ->
  J 0 W ->
  CallsIn Fence.wide n P gf (#[.func (.yield l) #[] #[]] ++ lb) W fun e W'=>(∃ v,e=.returned v)/\(J N W' ∨ ∃ k,k < N/\Jx (k + 1) W')
theorem range_c {n:Nat} {P:Program} {g:Operand} {ps:Array Tmp} {assign body:Code} {Q:Exit->Act->World->Prop} {a:Act} {w:World}
  {gf:Nat} {lb:Array Value} (hg:a.eval g=.func (.func gf) #[] lb) (eg:∀ args w,(callFunc gf args).run P w=.ok (.enter gf args) w)
  (hps:ps.size=1) (N b:Nat) (put arg:Nat->Value) (I I1 Ir:Nat->World->Prop)
  (hI:OwnFrom w.heap.size I) (hI1:OwnFrom w.heap.size I1) (hIr:OwnFrom w.heap.size Ir) (h0:I 0 w)
  (hst:∀ k W,k < N->I k W->I1 k (W.setCell ⟨b,0,none⟩ (put k)))
  (hit:Gives (n - 1) P gf lb N b put arg I) (a₁:Nat->Act)
  (hassign:∀ (l k:Nat) (W:World) (K:Act->World->Prop),K (a₁ k) W ->
   assign.wpIn (Fence.wide.inRound l) (n - 1 - 1) P (Exit.then K (fun _ _ _=>False)) { tmps:=(ps.zip #[arg k]).foldl (fun t (p,v)=>t.setIfInBounds p v) a.tmps,defers:=[] } W)
  (hbody:∀ (l k:Nat) (W:World),k < N->I1 k W->body.wpIn (Fence.wide.inRound l) (n - 1 - 1) P (leftBy I Ir (k + 1) W) (a₁ k) W)
  (hdone:∀ (D:Nat) (W:World),w.heap.size<=D->I N W->W.heap[D]? = some (.deferred (some []))->Q .normal { a with defers:={ target:=.collected D,args:=#[] } :: a.defers } W)
  (hstop:∀ (D k:Nat) (W:World),w.heap.size<=D->k < N->Ir (k + 1) W->W.heap[D]? = some (.deferred (some []))->Code.ret.wpIn Fence.wide n P Q { a with defers:={ target:=.collected D,args:=#[] } :: a.defers } W) :
  (Code.rangeFunc g ps assign body).wpIn Fence.wide n P Q a w:=by
 refine wpIn_rangeFunc fun fn hfn=>?_
 obtain ⟨rc,hrc⟩:∃ rc:LoopState->Option Code->Loop,rc=fun s p=>{ state:=s,pending:=p,fn:=fn,tmps:=a.tmps,params:=ps,assign:=assign,body:=body,defers:=w.heap.size }:=⟨_,rfl⟩
 obtain ⟨V,hV⟩:∃ V,(w.alloc (.deferred (some []))).alloc (.loop (rc .ready none))=V:=⟨_,rfl⟩
 have hlV:V.heap[w.heap.size + 1]? = some (.loop (rc .ready none)):=by
  rw [<- hV];have:=World.alloc_heap_new (w.alloc (.deferred (some []))) (.loop (rc .ready none));rwa [World.size_alloc] at this
 have hdV:V.heap[w.heap.size]? = some (.deferred (some [])):=by
  rw [<- hV];exact (Below.heap_alloc _ _ _ (by simp)).trans (World.alloc_heap_new w _)
 have hIV:I 0 V:=by rw [<- hV];exact hI.alloc _ (hI.alloc _ h0)
 refine ⟨w.heap.size + 1,[{ target:=.collected w.heap.size,args:=#[] }],V,{ target:=.fn (.func gf) lb,args:=#[.func (.yield (w.heap.size + 1)) #[] #[]] },V,gf,
  #[.func (.yield (w.heap.size + 1)) #[] #[]] ++ lb,V,?_,?_,fun _ _=>trivial,?_,fun h=>by simp [Fence.wide] at h,?_⟩
 ·rw [<- hV,hrc];exact run_enterLoop_outer _ _ _ _ _
 ·simp only [resolve,hg]
  simp [go_sem]
 ·simp [invoke,go_sem,eg]
 refine (hit (w.heap.size + 1)
  (fun k W=>I k W/\W.heap[w.heap.size + 1]? = some (.loop (rc .ready none))/\W.heap[w.heap.size]? = some (.deferred (some [])))
  (fun k W=>I1 k W/\W.heap[w.heap.size + 1]? = some (.loop (rc .ready none))/\W.heap[w.heap.size]? = some (.deferred (some [])))
  (fun k W=>Ir k W/\W.heap[w.heap.size + 1]? = some (.loop (rc .done (some .ret)))/\W.heap[w.heap.size]? = some (.deferred (some [])))
  V (fun _ _ h=>h.1) (fun k W hk h=>⟨hst k W hk h.1,(KeepsOthers.setCell W _ _).same _ _ h.2.1 rfl,(KeepsOthers.setCell W _ _).same _ _ h.2.2 rfl⟩) ?_ ⟨hIV,hlV,hdV⟩).mono ?_
 ·-- one round
  rintro k W hk ⟨hi,hl,hd⟩
  have hlt:w.heap.size + 1 < W.heap.size:=(Array.getElem?_eq_some_iff.1 hl).1
  have hy:=run_yield (P:=P) (args:=#[arg k]) hl (by rw [hrc];simp [hps])
  rw [hrc] at hy
  refine ⟨fn,_,assign,body,hy,roundIn_of_wpIn hfn (hassign _ k W _ ⟨_,run_beginRound hl (by rw [hrc]),?_⟩)⟩
  obtain ⟨W2,hW2⟩:∃ W2,W.putObj (w.heap.size + 1) (.loop { rc .ready none with state:=.busy })=W2:=⟨_,rfl⟩
  rw [hW2]
  have hl2:W2.heap[w.heap.size + 1]? = some (.loop { rc .ready none with state:=.busy }):=by rw [<- hW2];exact World.putObj_heap_same hlt
  have hd2:W2.heap[w.heap.size]? = some (.deferred (some [])):=by rw [<- hW2];exact (World.putObj_heap_other (by omega)).trans hd
  have hi2:I1 k W2:=by rw [<- hW2];exact hI1.putObj _ hi (by omega) hl rfl
  refine wpIn_mono (hbody _ k W2 hk hi2) ?_
  have fin:∀ (j:Option Code) (W3:World),KeepsOthers W2 W3 ->
    (Instr.endRound (w.heap.size + 1) j).run P W3=.ok (.bool j.isNone) (W3.putObj (w.heap.size + 1) (.loop (rc (if j.isNone then .ready else .done) j))) /\
    W3.heap[w.heap.size + 1]? = some (.loop { rc .ready none with state:=.busy }) /\
    (W3.putObj (w.heap.size + 1) (.loop (rc (if j.isNone then .ready else .done) j))).heap[w.heap.size + 1]? = some (.loop (rc (if j.isNone then .ready else .done) j)) /\
    (W3.putObj (w.heap.size + 1) (.loop (rc (if j.isNone then .ready else .done) j))).heap[w.heap.size]? = some (.deferred (some [])):=fun j W3 hk3=>by
   have hl3:=hk3.same _ _ hl2 rfl
   have:=run_endRound (P:=P) j hl3
   rw [hrc] at this ⊢
   exact ⟨this,by rw [hrc] at hl3;exact hl3,World.putObj_heap_same (Array.getElem?_eq_some_iff.1 hl3).1,(World.putObj_heap_other (by omega)).trans (hk3.same _ _ hd2 rfl)⟩
  rintro e a3 W3 hp
  cases e with
  | normal =>
   obtain ⟨hk3,hi3⟩:=hp
   obtain ⟨hr,hl3,hl4,hd4⟩:=fin none W3 hk3
   exact ⟨_,_,hr,.inl ⟨rfl,hI.putObj _ hi3 (by omega) hl3 rfl,hl4,hd4⟩⟩
  | ret =>
   obtain ⟨hk3,hi3⟩:=hp
   obtain ⟨hr,hl3,hl4,hd4⟩:=fin (some .ret) W3 hk3
   exact ⟨_,_,hr,.inr ⟨rfl,hIr.putObj _ hi3 (by omega) hl3 rfl,hl4,hd4⟩⟩
  | exit id=>exact hp.elim
  | goto t=>exact hp.elim
  | panic ch=>exact hp.elim
  | outgrown=>exact hp.elim
 ·-- behind it
  rintro e W2 ⟨⟨v,rfl⟩,⟨hi,hl,hd⟩ | ⟨k,hk,hi,hl,hd⟩⟩
  ·exact ⟨none,_,by have:=run_endLoop (P:=P) hl (by rw [hrc];simp);rw [hrc] at this;exact this,hdone _ _ (Nat.le_refl _) (hI.putObj _ hi (by omega) hl rfl) ((World.putObj_heap_other (by omega)).trans hd)⟩
  ·exact ⟨some .ret,_,by have:=run_endLoop (P:=P) hl (by rw [hrc];simp);rw [hrc] at this;exact this,hstop _ k _ (Nat.le_refl _) hk (hIr.putObj _ hi (by omega) hl rfl) ((World.putObj_heap_other (by omega)).trans hd)⟩
end Go.Proofs.YtepjbdklljlecaaGreat.Rn

namespace Go.Proofs.YtepjbdklljlecaaGreat.Rn
open Go.RowKit Go.Shelf
set_option maxHeartbeats 1000000
attribute [local go_sem] Oper.semAt_some
theorem Boxed.ne {W:World} {A B:Nat} {t u:TypeId} {v v':Value} (h:Boxed W A t v) (k:Boxed W B u v') (hn:t ≠ u):A ≠ B:=by
 rintro rfl
 have:=(show W.heap[A]? = _ from h).symm.trans k
 simp at this
 exact hn this.2
theorem Boxed.past {W:World} {A B:Nat} {t:TypeId} {v:Value} (h:Boxed W A t v) (hn:A ≠ B) (u:Value):Boxed (W.setCell ⟨B,0,none⟩ u) A t v :=
 h.kept (grownBy_setCell' W B u) (by simpa using hn)
theorem draws1_gives (n:Nat) (hn:1<=n) (Bs Bc b:Nat) (c x:Int) (_hx:U x) (hc:c<=1000000) (I:Nat->World->Prop)
  (hr:∀ k W,I k W->Boxed W Bs 81 (.pointer (some ⟨b,0,none⟩))/\Boxed W Bc 3 (.int .i64 c)/\Boxed W b 144 (.int .u64 (stN x k))) :
  Gives n Tryz.prog 226 #[.pointer (some ⟨Bs,0,none⟩),.pointer (some ⟨Bc,0,none⟩)] c.toNat b (fun k=>.int .u64 (stN x (k + 1))) (fun k=>.int .u64 (mx (stN x (k + 1)))) I:=by
 intro l J J1 Jx W hJI hst hY h0
 refine callsIn_of_wp Tryz.func226 rfl trivial ?_ rfl
 simp only [Tryz.ntmps226,List.size_toArray,List.length_cons,List.length_nil,Nat.reduceAdd,Nat.reduceSub,Array.replicate_succ,Array.replicate_zero,List.push_toArray,List.append_toArray,List.nil_append,List.cons_append]
 obtain ⟨r1,r2,r3⟩:=hr 0 W (hJI 0 W h0)
 have c1:=r1.cell
 have c2:=r2.cell
 gi_wp2
 clear c1 c2 r1 r2 r3
 gi_loopw [7] (fun v wr=>∃ k:Nat,v=.int .i64 k/\k<=c.toNat/\J k wr) (fun v _=>c.toNat - (intOf v).toNat)
 case atStart=>exact ⟨0,rfl,Nat.zero_le _,h0⟩
 case round =>
  obtain ⟨k,rfl,hk,hj⟩:=hrel
  by_cases hlt:k < c.toNat
  ·have hlt':(k:Int) < c:=by omega
   obtain ⟨r1,r2,r3⟩:=hr k wr (hJI k wr hj)
   have n1:=Boxed.ne r1 r3 (by decide)
   have c1:=r1.cell
   have c3:=r3.cell
   have f3:=r3.frozen
   have c4:=(Boxed.past r1 n1 (.int .u64 (IntKind.u64.wrap (stN x k + 11400714819323198485)))).cell
   have c5:=(r3.set (.int .u64 (IntKind.u64.wrap (stN x k + 11400714819323198485)))).cell
   obtain ⟨fn,tmps,assign,body,hy,hR⟩:=hY k _ hlt (hst k wr hlt hj)
   simp only [stN_succ] at hy hR
   gi_wp2_with (refine ⟨trivial,?_⟩;gi_at_call 227;refine (callsIn_wide.2 (mix_c _ _ (u_wrap _))).mono ?_;rintro e w1 ⟨rfl,rfl⟩)
   refine hR.mono ?_
   rintro e W3 (⟨rfl,hJ3⟩ | ⟨rfl,hJx3⟩)
   ·gi_wp2
    go_roundw
    case rel=>exact ⟨k + 1,by simp,by omega,hJ3⟩
    case measure=>simp [intOf];omega
   ·gi_wp2
    refine bodyPost_ret (results_none rfl _ _ _) rfl ?_
    exact ⟨⟨_,rfl⟩,.inr ⟨k,hlt,hJx3⟩⟩
  ·have hlt':¬ (k:Int) < c:=by omega
   gi_wp2
   go_end0
   obtain rfl:k=c.toNat:=by omega
   exact ⟨⟨_,rfl⟩,.inl hj⟩
end Go.Proofs.YtepjbdklljlecaaGreat.Rn

namespace Go.Proofs.YtepjbdklljlecaaGreat.Rn
open Go.RowKit Go.Shelf
set_option maxRecDepth 100000
set_option maxHeartbeats 2000000
attribute [local go_sem] Oper.semAt_some
theorem ownFrom_grown {B:Nat} {w:World} {r:Option Nat} (hB:w.heap.size<=B):OwnFrom B (fun (_:Nat) W=>w.grownBy W r) :=
 fun _ A C row hs hg hr=>⟨hg.os.trans hs.os,hg.tape.trans hs.tape,hg.output.trans hs.output,Nat.le_trans hs.size hg.size,fun k hk hn =>
  (hg.block k (Nat.lt_of_lt_of_le hk hs.size) (fun e=>by have:=(hr k e.symm).1;omega)).trans (hs.block k hk hn)⟩
theorem ownFrom_boxed {B b:Nat} {t:TypeId} {v:Nat->Value}:OwnFrom B (fun (k:Nat) W=>Boxed W b t (v k)) :=
 fun k A C row hs hg hr=>hs.kept hg (fun e=>by obtain ⟨_,o,ho,hc⟩:=hr b e.symm;rw [show A.heap[b]? = _ from hs] at ho;cases ho;cases hc)
theorem ownFrom_pure' {B:Nat} {p:Nat->Prop}:OwnFrom B (fun (k:Nat) (_:World)=>p k):=fun _ _ _ _ hs _ _=>hs
theorem grownBy_refl (w:World) (r:Option Nat):w.grownBy w r:=⟨rfl,rfl,rfl,Nat.le_refl _,fun _ _ _=>rfl⟩
theorem grownBy_al {w V:World} {r:Option Nat} (h:w.grownBy V r) (o:Obj):w.grownBy (V.alloc o) r :=
 ⟨h.os,h.tape,h.output,by have:=h.size;simp;omega,fun k hk hn=>(Below.heap_alloc V o k (Nat.lt_of_lt_of_le hk h.size)).trans (h.block k hk hn)⟩
theorem grownBy_set {w V:World} {b:Nat} (h:w.grownBy V (some b)) {p:Addr} (hp:p.block=b ∨ w.heap.size<=p.block) (u:Value):w.grownBy (V.setCell p u) (some b) :=
 ⟨h.os,h.tape,h.output,Nat.le_trans h.size (KeepsWalks.setCell V p u).size,fun k hk hn=>(Below.heap_setCell V p u k (fun e=>by
  rcases hp with hp | hp
  ·exact hn (by rw [e,hp])
  ·omega)).trans (h.block k hk hn)⟩
theorem grownBy_put {w V:World} {r:Option Nat} (h:w.grownBy V r) {D:Nat} (hD:w.heap.size<=D) (o:Obj):w.grownBy (V.putObj D o) r :=
 ⟨h.os,h.tape,h.output,by have:=h.size;simp;omega,fun k hk hn=>(World.putObj_heap_other (by omega)).trans (h.block k hk hn)⟩
theorem Boxed.put {W:World} {B D:Nat} {t:TypeId} {v:Value} {o:Obj} (h:Boxed W B t v) (hD:W.heap[D]? = some o) (ho:o.isCells=false) (o':Obj):Boxed (W.putObj D o') B t v :=
 h.kept (grownBy_putObj' W D o') (fun e=>by cases e;rw [show W.heap[B]? = _ from h] at hD;cases hD;cases ho)
theorem next_c (b:Nat) (x:Int) (w:World) (hb:Boxed w b 144 (.int .u64 x)) (hx:U x) :
  Calls Tryz.prog 176 #[.pointer (some ⟨b,0,none⟩)] w fun e w'=>e=.returned (.int .u64 (mx (stp x)))/\Boxed w' b 144 (.int .u64 (stp x))/\w.grownBy w' (some b):=by
 refine (callsIn_wide (n:=4)).1 ?_
 refine callsIn_of_wp_marks Tryz.func176 rfl trivial ?_ rfl
 simp only [Tryz.ntmps176,List.size_toArray,List.length_cons,List.length_nil,Nat.reduceAdd,Nat.reduceSub,Array.replicate_succ,Array.replicate_zero,List.push_toArray,List.append_toArray,List.nil_append,List.cons_append]
 gi_wp2_with (refine ⟨trivial,?_⟩;gi_at_call 208;refine (callsIn_wide.2 (draws_c _ _ _)).mono ?_;rintro e w1 ⟨rfl,rfl⟩)
 obtain ⟨V,hV⟩:∃ V,(((w.alloc (.cells #[.int .u64 0] 23)).alloc (.cells #[.pointer (some ⟨b,0,none⟩)] 81)).alloc (.cells #[.int .i64 1] 3))=V:=⟨_,rfl⟩
 have hbl:=hb.lt
 have bR:Boxed V w.heap.size 23 (.int .u64 0):=by rw [<- hV];exact ((Boxed.new w _ _).alloc _).alloc _
 have bS:Boxed V (w.heap.size + 1) 81 (.pointer (some ⟨b,0,none⟩)):=by
  rw [<- hV];have:=(Boxed.new (w.alloc (.cells #[.int .u64 0] 23)) 81 (.pointer (some ⟨b,0,none⟩))).alloc (.cells #[.int .i64 1] 3);rwa [World.size_alloc] at this
 have bC:Boxed V (w.heap.size + 1 + 1) 3 (.int .i64 1):=by
  rw [<- hV];have:=Boxed.new ((w.alloc (.cells #[.int .u64 0] 23)).alloc (.cells #[.pointer (some ⟨b,0,none⟩)] 81)) 3 (.int .i64 1);rwa [World.size_alloc,World.size_alloc] at this
 have bB:Boxed V b 144 (.int .u64 x):=by rw [<- hV];exact ((hb.alloc _).alloc _).alloc _
 have gV:w.grownBy V (some b):=by rw [<- hV];exact grownBy_al (grownBy_al (grownBy_al (grownBy_refl _ _) _) _) _
 have sV:w.heap.size + 3=V.heap.size:=by rw [<- hV];simp
 rw [hV]
 refine range_c (gf:=226) (lb:=#[.pointer (some ⟨w.heap.size + 1,0,none⟩),.pointer (some ⟨w.heap.size + 1 + 1,0,none⟩)]) rfl (enters_of Tryz.func226 (by kernel_rfl) rfl) rfl
  1 b (fun k=>.int .u64 (stN x (k + 1))) (fun k=>.int .u64 (mx (stN x (k + 1))))
  (fun k W=>k=0/\Boxed W b 144 (.int .u64 (stN x k))/\Boxed W w.heap.size 23 (.int .u64 0)/\Boxed W (w.heap.size + 1) 81 (.pointer (some ⟨b,0,none⟩))/\Boxed W (w.heap.size + 1 + 1) 3 (.int .i64 1)/\w.grownBy W (some b))
  (fun k W=>k=0/\Boxed W b 144 (.int .u64 (stN x (k + 1)))/\Boxed W w.heap.size 23 (.int .u64 0)/\w.grownBy W (some b))
  (fun _ W=>Boxed W b 144 (.int .u64 (stp x))/\Boxed W w.heap.size 23 (.int .u64 (mx (stp x)))/\w.grownBy W (some b))
  (ownFrom_pure'.and (ownFrom_boxed.and (ownFrom_boxed.and (ownFrom_boxed.and (ownFrom_boxed.and (ownFrom_grown gV.size))))))
  (ownFrom_pure'.and (ownFrom_boxed.and (ownFrom_boxed.and (ownFrom_grown gV.size))))
  (ownFrom_boxed.and (ownFrom_boxed.and (ownFrom_grown gV.size)))
  ⟨rfl,bB,bR,bS,bC,gV⟩
  (fun k W _ h=>⟨h.1,h.2.1.set _,h.2.2.1.other (by omega) _,grownBy_set h.2.2.2.2.2 (.inl rfl) _⟩)
  (draws1_gives 3 (by decide) _ _ b 1 x hx (by decide) _ (fun k W h=>⟨h.2.2.2.1,h.2.2.2.2.1,h.2.1⟩))
  (fun k=>{ tmps:=#[.pointer (some ⟨b,0,none⟩),undef,.pointer (some ⟨w.heap.size,0,none⟩),.int .u64 (mx (stN x (k + 1))),.pointer (some ⟨b,0,none⟩),
   .func (.func 226) #[] #[.pointer (some ⟨w.heap.size + 1,0,none⟩),.pointer (some ⟨w.heap.size + 1 + 1,0,none⟩)],.int .u64 (mx (stN x (k + 1))),undef],defers:=[] }) ?assign ?body ?done ?stop
 case assign =>
  intro l k W K hK
  gi_wp2
  exact hK
 case body =>
  rintro l k W hk ⟨rfl,h1,h2,hg⟩
  have c2:=h2.cell
  have f2:=h2.frozen
  gi_wp2
  exact ⟨KeepsOthers.setCell _ _ _,h1.other (by omega) _,h2.set _,grownBy_set hg (.inr (Nat.le_refl _)) _⟩
 case done =>
  rintro D W hD ⟨h,_⟩ _
  cases h
 case stop =>
  rintro D k W hD hk ⟨h1,h2,hg⟩ hK
  gi_wp2
  refine ⟨by simp,.inl ⟨_,_,rfl,run_takeDeferred hK,?_⟩⟩
  have c2:=(Boxed.put h2 hK rfl (.deferred none)).cell
  refine ⟨.int .u64 (mx (stp x)),?_,rfl,Boxed.put h1 hK rfl _,grownBy_put hg (by omega) _⟩
  simp [results,Tryz.f176,go_sem,c2]
end Go.Proofs.YtepjbdklljlecaaGreat.Rn

namespace Go.Proofs.YtepjbdklljlecaaGreat.Rn
open Go.RowKit Go.Shelf
set_option maxHeartbeats 400000
abbrev ckOk (n lo hi:Int):Prop:=lo<=n/\n<=hi
theorem ckE_ok {n lo hi:Int} (h:ckOk n lo hi):ckE n lo hi=0:=if_neg (by have:=h.1;have:=h.2;omega)
theorem below_ok (b:Nat) (x n:Int) (w:World) (hb:Boxed w b 144 (.int .u64 x)) (hx:U x) (h:ckOk n 1 1000000000) :
  Calls Tryz.prog 132 #[.pointer (some ⟨b,0,none⟩),.int .i64 n] w fun e w'=>e=.returned (.tuple #[.int .i64 (mx (stp x) % n),.int .i64 0])/\Boxed w' b 144 (.int .u64 (stp x))/\w.grownBy w' (some b):=by
 have hck:=check_c ⟨b,0,none⟩ n 1 1000000000 w
 rw [ckE_ok h] at hck
 have hn:=next_c b x w hb hx
 have hr:=fun W=>rest_c (mx (stp x)) n W (u_mx _) h.1 h.2
 generalize mx (stp x)=z at *
 clear h
 go_enter Tryz.func132,Tryz.ntmps132
 go_wp2_with first | (go_at_call 174;refine hck.mono ?_;rintro e w1 ⟨rfl,rfl⟩) | (go_at_call 176;refine hn.mono ?_;rintro e w2 ⟨rfl,hb2,g2⟩) | (go_at_call 175;refine (hr _).mono ?_;rintro e w3 ⟨rfl,rfl⟩)
 exact bodyPost_ret (v:=.tuple #[.int .i64 (z % n),.int .i64 0]) (by simp [results,Tryz.results132,go_sem]) rfl ⟨rfl,hb2,g2⟩
end Go.Proofs.YtepjbdklljlecaaGreat.Rn

namespace Go.Proofs.YtepjbdklljlecaaGreat.Tk
open Go.RowKit Go.Sort
def Has (w:World) (hb k:Nat) (v:Value) (m:List Ht):Prop :=
 ∃ d,Hp w hb (k:Int) v d/\MaxH d/\d.toList.Perm m/\Srtd m/\m.length<=k/\1<=k/\k<=64
theorem Has.gr {w w':World} {hb k:Nat} {v:Value} {m:List Ht} (h:Has w hb k v m) (g:Gr w w'):Has w' hb k v m:=by
 obtain ⟨d,h1,r⟩:=h;exact ⟨d,h1.gr g,r⟩
theorem Has.kp {S:Nat->Prop} {w w':World} {hb k:Nat} {v:Value} {m:List Ht} (h:Has w hb k v m) (K:Kp S w w') (h1:¬ S hb) (h2:∀ g,v.ownBlock=some g->¬ S g):Has w' hb k v m:=by
 obtain ⟨d,hd,r⟩:=h;exact ⟨d,hd.kp K h1 h2,r⟩
theorem Has.lt {w:World} {hb k:Nat} {v:Value} {m:List Ht} (h:Has w hb k v m):hb < w.heap.size:=by obtain ⟨d,h1,_⟩:=h;exact h1.lt
theorem Has.own_lt {w:World} {hb k:Nat} {v:Value} {m:List Ht} (h:Has w hb k v m) {g:Nat} (hg:v.ownBlock=some g):g < w.heap.size:=by
 obtain ⟨d,h1,_⟩:=h;exact YtepjbdklljlecaaGreat.Tk.own_lt h1.own hg
theorem new_has (k:Nat) (h1:1<=k) (h2:k<=64) (w:World):Has (w.alloc (.cells #[.int .i64 (k:Int),.slice none 0 0] 113)) w.heap.size k (.slice none 0 0) [] :=
 ⟨#[],new_hp _ w,fun _ _ h=>absurd h (Nat.not_lt_zero _),List.Perm.refl _,List.Pairwise.nil,Nat.zero_le _,h1,h2⟩
theorem root_last {d:Array Ht} {m:List Ht} (hm:MaxH d) (p:d.toList.Perm m) (hs:Srtd m) {k:Nat} (hk:m.length=k) (h0:0 < k):d[0]! = m[k - 1]! := by
 have hd:d.size=k:=by have:=p.length_eq;simp at this;omega
 have a1:d[0]! ∈ m:=p.subset (by rw [getElem!_pos d 0 (by omega)];exact Array.mem_toList_iff.2 (Array.getElem_mem _))
 have a2:m[k - 1]! ∈ d.toList:=p.symm.subset (by rw [getElem!_pos m (k - 1) (by omega)];exact List.getElem_mem _)
 have b1:=last_worst hs k hk _ a1
 obtain ⟨i,hi,e⟩:=List.mem_iff_getElem.1 a2
 have b2:=maxh_root hm i (by simpa using hi)
 rw [getElem!_pos d i (by simpa using hi)] at b2
 simp only [Array.getElem_toList] at e
 rw [e] at b2
 exact hlt_tot b2 b1
def Offered (w w':World) (hb k:Nat) (v:Value) (m:List Ht) (x:Ht):Prop :=
 ∃ v',Has w' hb k v' (keep k m x)/\Kp (fun b=>b=hb ∨ some b=v.ownBlock) w w'/\(v'.ownBlock=v.ownBlock ∨ ∀ g,v'.ownBlock=some g->w.heap.size<=g)
theorem offer_has {w:World} {hb k:Nat} {v:Value} {m:List Ht} (h:Has w hb k v m) (x:Ht) :
  Calls Tryz.prog 81 #[.pointer (some ⟨hb,0,none⟩),hv x] w fun e w'=>e=.returned (.bool (kept k m x))/\Offered w w' hb k v m x:=by
 have h':=h
 obtain ⟨d,hp,hm,pm,hs,hl,k1,k2⟩:=h
 have hd:d.size=m.length:=by have:=pm.length_eq;simpa using this
 by_cases c:m.length < k
 ·have e:kept k m x=true:=by unfold kept;rw [decide_eq_true c];rfl
  rw [e]
  refine (offer_more hp hm (by omega) (by omega) x).mono ?_
  rintro e w' ⟨rfl,g,cap,d',p1,p2,p3,p4,p5⟩
  refine ⟨rfl,_,⟨d',p3,p2,?_,keep_srtd k x hs,by unfold keep;rw [List.length_take];omega,k1,k2⟩,p4,?_⟩
  ·rw [keep_more x c]
   refine p1.trans ((List.perm_append_singleton x d.toList).trans ((pm.cons x).trans (ins_perm x m).symm))
  ·rcases p5 with p5 | p5
   ·exact .inl p5.symm
   ·right;intro g' hg';simp [Value.ownBlock] at hg';omega
 have hk:m.length=k:=by omega
 have er:=root_last hm pm hs hk (by omega)
 by_cases cx:hlt x m[k - 1]! = true
 ·have e:kept k m x=true:=by unfold kept;rw [cx];simp
  rw [e]
  refine (offer_repl hp hm (by omega) (by omega) (by omega) x (by rw [er];exact cx)).mono ?_
  rintro e w' ⟨rfl,d',p1,p2,p3,p4⟩
  refine ⟨rfl,v,⟨d',p3,p2,?_,keep_srtd k x hs,by unfold keep;rw [List.length_take];omega,k1,k2⟩,p4,.inl rfl⟩
  refine (p1.trans ?_).trans (keep_repl (by omega) hk cx).symm
  have hne:m ≠ []:=by intro e0;subst e0;simp at hk;omega
  obtain ⟨a,z,rfl⟩:∃ a z,m=a ++ [z]:=⟨m.dropLast,m.getLast hne,(List.dropLast_concat_getLast hne).symm⟩
  have ez:(a ++ [z])[k - 1]! = z:=by
   simp only [List.length_append,List.length_cons,List.length_nil] at hk
   rw [getElem!_pos (a ++ [z]) (k - 1) (by simp;omega),List.getElem_append_right (by omega)]
   simp
  rw [ez] at er
  rw [List.dropLast_concat]
  cases hdl:d.toList with
  | nil =>
   have q0:d.toList.length=0:=by rw [hdl];rfl
   rw [Array.length_toList] at q0;omega
  | cons y r =>
   have hy:d[0]! = y:=by
    have hz:0 < d.size:=by omega
    rw [getElem!_pos d 0 hz,<- Array.getElem_toList hz]
    simp [hdl]
   rw [Array.toList_setIfInBounds,hdl,List.set_cons_zero]
   refine List.Perm.cons x ?_
   have q:(y :: r).Perm (z :: a):=by rw [<- hdl];exact pm.trans (List.perm_append_singleton z a)
   rw [<- hy,er] at q
   exact List.Perm.cons_inv q
 ·have cx':hlt x m[k - 1]! = false:=by simpa using cx
  have e:kept k m x=false:=by unfold kept;rw [cx',decide_eq_false c];rfl
  rw [e]
  refine (offer_no hp (by omega) (by omega) (by omega) x (by rw [er];exact cx')).mono ?_
  rintro e w' ⟨rfl,g⟩
  refine ⟨rfl,v,?_,Kp.of_gr g,.inl rfl⟩
  rw [keep_no hs hk cx']
  exact h'.gr g
theorem len_has {w:World} {hb k:Nat} {v:Value} {m:List Ht} (h:Has w hb k v m):Calls Tryz.prog 152 #[.pointer (some ⟨hb,0,none⟩)] w fun e w'=>e=.returned (.int .i64 (m.length:Nat))/\w'=w:=by
 obtain ⟨d,hp,hm,pm,hs,hl,k1,k2⟩:=h
 have:=len17 hp
 rwa [show d.size=m.length by have:=pm.length_eq;simpa using this] at this
theorem worst_has {w:World} {hb k:Nat} {v:Value} {m:List Ht} (h:Has w hb k v m) (h0:0 < m.length):Calls Tryz.prog 104 #[.pointer (some ⟨hb,0,none⟩)] w fun e w'=>e=.returned (.tuple #[hv m[m.length - 1]!,.bool true])/\Gr w w':=by
 obtain ⟨d,hp,hm,pm,hs,hl,k1,k2⟩:=h
 have hd:d.size=m.length:=by have:=pm.length_eq;simpa using this
 have:=worst15 hp (by omega) (by omega)
 rwa [root_last hm pm hs rfl h0] at this
theorem worst_has_none {w:World} {hb k:Nat} {v:Value} {m:List Ht} (h:Has w hb k v m) (h0:m.length=0):Calls Tryz.prog 104 #[.pointer (some ⟨hb,0,none⟩)] w fun e w'=>e=.returned (.tuple #[hv ⟨0,0,0⟩,.bool false])/\Gr w w':=by
 refine worst15_none _ w fun W g=>?_
 have:=len_has (h.gr g)
 rwa [h0] at this
theorem list_has {w:World} {hb k:Nat} {v:Value} {m:List Ht} (h:Has w hb k v m):Calls Tryz.prog 78 #[.pointer (some ⟨hb,0,none⟩)] w fun e w'=>∃ v',e=.returned v'/\Out w w' v' m:=by
 obtain ⟨d,hp,hm,pm,hs,hl,k1,k2⟩:=h
 have hd:d.size=m.length:=by have:=pm.length_eq;simpa using this
 have:=list16 hp (by omega)
 rwa [srt_of_perm hs pm] at this
end Go.Proofs.YtepjbdklljlecaaGreat.Tk

namespace Go.Proofs.YtepjbdklljlecaaGreat
open Go.RowKit Go.Sort
set_option maxHeartbeats 1000000
def Wf (rs:List Rw):Prop:=rs.length<=4611686018427387904/\∀ i,i < rs.length->(Lit.int .i64 rs[i]!.1).wf=true
theorem fcheck_c {w:World} {v:Value} {rs:List Rw} (h:RdW w v rs) (hwf:Wf rs) (d:Int) :
  Calls Tryz.prog 54 #[v,.int .i64 d] w fun e w'=>e=.returned (.int .i64 (flatE rs d))/\Gb w w':=by
 have hb:=box_c h d hwf.1 hwf.2
 have E:=flatE_box rs d
 obtain ⟨a,cap,rfl,_⟩:=h
 generalize boxR rs d=R at *
 generalize boxE rs d=x at *
 generalize flatE rs d=y at *
 generalize rs.length=n at *
 by_cases hx:x=1
 ·rw [if_pos hx] at E
  subst hx;subst E
  go_enter Tryz.func54,Tryz.ntmps54
  go_wp2_with fail
  refine hb.mono ?_
  rintro e w' ⟨vl,vh,vi,rfl,g,o1,o2,o3,_⟩
  obtain ⟨p1,c1,rfl,_⟩:=o1.rd
  obtain ⟨p2,c2,rfl,_⟩:=o2.rd
  obtain ⟨p3,c3,rfl,_⟩:=o3.rd
  clear hb o1 o2 o3
  go_wp2
  go_ret
  exact ⟨rfl,by refine gb_trans g ?_;go_grown⟩
 ·rw [if_neg hx] at E
  subst E
  have hx':(y == 1)=false:=by rw [beq_eq_false_iff_ne];exact hx
  go_enter Tryz.func54,Tryz.ntmps54
  go_wp2_with fail
  refine hb.mono ?_
  rintro e w' ⟨vl,vh,vi,rfl,g,o1,o2,o3,_⟩
  obtain ⟨p1,c1,rfl,_⟩:=o1.rd
  obtain ⟨p2,c2,rfl,_⟩:=o2.rd
  obtain ⟨p3,c3,rfl,_⟩:=o3.rd
  clear hb o1 o2 o3
  go_wp2
  go_ret
  exact ⟨rfl,by refine gb_trans g ?_;go_grown⟩
end Go.Proofs.YtepjbdklljlecaaGreat

namespace Go.Proofs.YtepjbdklljlecaaGreat
open Go.RowKit Go.Shelf
attribute [local go_sem] Oper.semAt_some
theorem grown_of_gb {a b:World} (h:Gb a b):a.grownBy b none:=⟨h.os,h.tape,h.output,h.size,fun k hk _=>h.block k hk⟩
theorem gb_same {a b:World} (h:Gb a b) {k:Nat} {o:Obj} (hk:a.heap[k]? = some o):b.heap[k]? = some o :=
 (h.block k (Array.getElem?_eq_some_iff.1 hk).1).trans hk
def leftOn (I:Nat->World->Prop) (k:Nat) (W:World):Exit->Act->World->Prop
 | .normal,_,W'=>KeepsOthers W W'/\I k W'
 | _,_,_=>False
def Gives (n:Nat) (P:Program) (gf:Nat) (lb:Array Value) (N:Nat) (arg:Nat->Value) (I:Nat->World->Prop):Prop :=
 ∀ (l:Nat) (J:Nat->World->Prop) (W:World),(∀ k W,J k W->I k W) ->
  (∀ k W W',J k W->Gb W W'->J k W') ->
  (∀ k W,k < N->J k W->YieldAt Fence.wide (n - 1) P l #[arg k] W fun e W'=>e=.returned (.bool true)/\J (k + 1) W') ->
  J 0 W ->
  CallsIn Fence.wide n P gf (#[.func (.yield l) #[] #[]] ++ lb) W fun e W'=>(∃ v,e=.returned v)/\J N W'
theorem range_c {n:Nat} {P:Program} {g:Operand} {ps:Array Tmp} {assign body:Code} {Q:Exit->Act->World->Prop} {a:Act} {w:World}
  {gf:Nat} {lb:Array Value} (hg:a.eval g=.func (.func gf) #[] lb) (eg:∀ args w,(callFunc gf args).run P w=.ok (.enter gf args) w)
  (hps:ps.size=1) (N:Nat) (arg:Nat->Value) (I:Nat->World->Prop) (I1:Nat->Nat->World->Prop) (ob:Nat->Obj)
  (hI:OwnFrom w.heap.size I) (hI1:∀ p,OwnFrom w.heap.size (fun k=>I1 k p)) (h0:I 0 w) (hst:∀ k W,k < N->I k W->I1 k W.heap.size (W.alloc (ob k)))
  (hit:Gives (n - 1) P gf lb N arg I) (a₁:Nat->Nat->Act)
  (hassign:∀ (l k:Nat) (W:World) (K:Act->World->Prop),K (a₁ k W.heap.size) (W.alloc (ob k)) ->
   assign.wpIn (Fence.wide.inRound l) (n - 1 - 1) P (Exit.then K (fun _ _ _=>False)) { tmps:=(ps.zip #[arg k]).foldl (fun t (p,v)=>t.setIfInBounds p v) a.tmps,defers:=[] } W)
  (hbody:∀ (l k p:Nat) (W:World),k < N->I1 k p W->body.wpIn (Fence.wide.inRound l) (n - 1 - 1) P (leftOn I (k + 1) W) (a₁ k p) W)
  (hdone:∀ (D:Nat) (W:World),w.heap.size<=D->I N W->W.heap[D]? = some (.deferred (some []))->Q .normal { a with defers:={ target:=.collected D,args:=#[] } :: a.defers } W) :
  (Code.rangeFunc g ps assign body).wpIn Fence.wide n P Q a w:=by
 refine wpIn_rangeFunc fun fn hfn=>?_
 obtain ⟨rc,hrc⟩:∃ rc:LoopState->Option Code->Loop,rc=fun s p=>{ state:=s,pending:=p,fn:=fn,tmps:=a.tmps,params:=ps,assign:=assign,body:=body,defers:=w.heap.size }:=⟨_,rfl⟩
 obtain ⟨V,hV⟩:∃ V,(w.alloc (.deferred (some []))).alloc (.loop (rc .ready none))=V:=⟨_,rfl⟩
 have hlV:V.heap[w.heap.size + 1]? = some (.loop (rc .ready none)):=by
  rw [<- hV];have:=World.alloc_heap_new (w.alloc (.deferred (some []))) (.loop (rc .ready none));rwa [World.size_alloc] at this
 have hdV:V.heap[w.heap.size]? = some (.deferred (some [])):=by
  rw [<- hV];exact (Below.heap_alloc _ _ _ (by simp)).trans (World.alloc_heap_new w _)
 have hIV:I 0 V:=by rw [<- hV];exact hI.alloc _ (hI.alloc _ h0)
 refine ⟨w.heap.size + 1,[{ target:=.collected w.heap.size,args:=#[] }],V,{ target:=.fn (.func gf) lb,args:=#[.func (.yield (w.heap.size + 1)) #[] #[]] },V,gf,
  #[.func (.yield (w.heap.size + 1)) #[] #[]] ++ lb,V,?_,?_,fun _ _=>trivial,?_,fun h=>by simp [Fence.wide] at h,?_⟩
 ·rw [<- hV,hrc];exact run_enterLoop_outer _ _ _ _ _
 ·simp only [resolve,hg]
  simp [go_sem]
 ·simp [invoke,go_sem,eg]
 refine (hit (w.heap.size + 1)
  (fun k W=>I k W/\W.heap[w.heap.size + 1]? = some (.loop (rc .ready none))/\W.heap[w.heap.size]? = some (.deferred (some [])))
  V (fun _ _ h=>h.1) (fun k W W' h g=>⟨hI k W W' none h.1 (grown_of_gb g) (fun r e=>by cases e),gb_same g h.2.1,gb_same g h.2.2⟩) ?_ ⟨hIV,hlV,hdV⟩).mono ?_
 ·-- one round
  rintro k W hk ⟨hi,hl,hd⟩
  have hlt:w.heap.size + 1 < W.heap.size:=(Array.getElem?_eq_some_iff.1 hl).1
  have hy:=run_yield (P:=P) (args:=#[arg k]) hl (by rw [hrc];simp [hps])
  rw [hrc] at hy
  obtain ⟨p,hp0⟩:∃ p,p=W.heap.size:=⟨_,rfl⟩
  obtain ⟨Wa,hWa⟩:∃ Wa,W.alloc (ob k)=Wa:=⟨_,rfl⟩
  have gA:Gb W Wa:=by rw [<- hWa];exact gb_alloc (Below.refl _ _) _
  have hla:=gb_same gA hl
  have hda:=gb_same gA hd
  have hlta:w.heap.size + 1 < Wa.heap.size:=(Array.getElem?_eq_some_iff.1 hla).1
  have hia:I1 k p Wa:=by rw [<- hWa,hp0];exact hst k W hk hi
  refine ⟨fn,_,assign,body,hy,roundIn_of_wpIn hfn (hassign _ k W _ ?_)⟩
  rw [hWa,<- hp0]
  refine ⟨_,run_beginRound hla (by rw [hrc]),?_⟩
  clear hy hi hl hd hlt
  obtain ⟨W2,hW2⟩:∃ W2,Wa.putObj (w.heap.size + 1) (.loop { rc .ready none with state:=.busy })=W2:=⟨_,rfl⟩
  rw [hW2]
  have hl2:W2.heap[w.heap.size + 1]? = some (.loop { rc .ready none with state:=.busy }):=by rw [<- hW2];exact World.putObj_heap_same hlta
  have hd2:W2.heap[w.heap.size]? = some (.deferred (some [])):=by rw [<- hW2];exact (World.putObj_heap_other (by omega)).trans hda
  have hi2:I1 k p W2:=by rw [<- hW2];exact (hI1 p).putObj _ hia (by omega) hla rfl
  refine wpIn_mono (hbody _ k p W2 hk hi2) ?_
  have fin:∀ (j:Option Code) (W3:World),KeepsOthers W2 W3 ->
    (Instr.endRound (w.heap.size + 1) j).run P W3=.ok (.bool j.isNone) (W3.putObj (w.heap.size + 1) (.loop (rc (if j.isNone then .ready else .done) j))) /\
    W3.heap[w.heap.size + 1]? = some (.loop { rc .ready none with state:=.busy }) /\
    (W3.putObj (w.heap.size + 1) (.loop (rc (if j.isNone then .ready else .done) j))).heap[w.heap.size + 1]? = some (.loop (rc (if j.isNone then .ready else .done) j)) /\
    (W3.putObj (w.heap.size + 1) (.loop (rc (if j.isNone then .ready else .done) j))).heap[w.heap.size]? = some (.deferred (some [])):=fun j W3 hk3=>by
   have hl3:=hk3.same _ _ hl2 rfl
   have:=run_endRound (P:=P) j hl3
   rw [hrc] at this ⊢
   exact ⟨this,by rw [hrc] at hl3;exact hl3,World.putObj_heap_same (Array.getElem?_eq_some_iff.1 hl3).1,(World.putObj_heap_other (by omega)).trans (hk3.same _ _ hd2 rfl)⟩
  rintro e a3 W3 hp
  cases e with
  | normal =>
   obtain ⟨hk3,hi3⟩:=hp
   obtain ⟨hr,hl3,hl4,hd4⟩:=fin none W3 hk3
   exact ⟨_,_,hr,rfl,hI.putObj _ hi3 (by omega) hl3 rfl,hl4,hd4⟩
  | ret=>exact hp.elim
  | exit id=>exact hp.elim
  | goto t=>exact hp.elim
  | panic ch=>exact hp.elim
  | outgrown=>exact hp.elim
 ·-- behind it
  rintro e W2 ⟨⟨v,rfl⟩,hi,hl,hd⟩
  exact ⟨none,_,by have:=run_endLoop (P:=P) hl (by rw [hrc];simp);rw [hrc] at this;exact this,hdone _ _ (Nat.le_refl _) (hI.putObj _ hi (by omega) hl rfl) ((World.putObj_heap_other (by omega)).trans hd)⟩
end Go.Proofs.YtepjbdklljlecaaGreat

namespace Go.Proofs.YtepjbdklljlecaaGreat
open Go.RowKit Go.Sort
set_option maxRecDepth 100000
set_option maxHeartbeats 2000000
theorem take_snoc {l:List Int} {q:Nat} (h:q < l.length):l.take (q + 1)=l.take q ++ [l[q]!]:=by
 rw [List.take_succ_eq_append_getElem h,getElem!_pos l q h]
theorem ints_c {w:World} {u v:Value} {l m:List Int} (hu:RdI w u l) (hv:RdI w v m) (hlen:l.length<=4611686018427387904) :
  Calls Tryz.prog 51 #[u,v] w fun e w'=>e=.returned (.bool (decide (l=m)))/\Gr w w':=by
 obtain ⟨a,ca,rfl,ha⟩:=hu
 obtain ⟨b,cb,rfl,hb⟩:=hv
 by_cases hlm:l.length=m.length
 ·have A:Hid (∀ i,i < l.length->∃ b o,a=some ⟨b,o,none⟩/\w.cell? ⟨b,o + i,none⟩=some (.int .i64 l[i]!)):=ha
  have B:Hid (∀ i,i < m.length->∃ b' o,b=some ⟨b',o,none⟩/\w.cell? ⟨b',o + i,none⟩=some (.int .i64 m[i]!)):=hb
  have L:Hid (l.length=m.length):=hlm
  rw [<- hlm]
  obtain ⟨n,hN⟩:∃ n,n=l.length:=⟨_,rfl⟩
  have N:Hid (n=l.length):=hN
  rw [<- hN] at hlen ⊢
  clear ha hb hlm hN
  go_enter Tryz.func51,Tryz.ntmps51
  go_wp2
  go_loopw [5] (fun iv w'=>∃ q:Nat,iv=.int .i64 (q:Int)/\q<=n/\Hid (l.take q=m.take q/\Gr w w')) (fun iv _=>n - (intOf iv).toNat)
  case atStart=>exact ⟨0,rfl,Nat.zero_le _,⟨by simp,Gr.refl _⟩⟩
  case round =>
   obtain ⟨q,rfl,hq,X⟩:=hrel
   by_cases hqn:q < n
   ·have hql:q < l.length:=by have:=N.out;omega
    have hqm:q < m.length:=by have:=L.out;omega
    obtain ⟨b1,o1,ea,h1⟩:=A.out q hql
    obtain ⟨b2,o2,eb,h2⟩:=B.out q hqm
    subst ea;subst eb
    have h1:=X.out.2.keeps h1
    have h2:=X.out.2.keeps h2
    by_cases hxy:l[q]! = m[q]!
    ·have R:Hid (l.take (q + 1)=m.take (q + 1)):=by unfold Hid;rw [take_snoc hql,take_snoc hqm,X.out.1,hxy]
     rw [hxy] at h1
     generalize m[q]! = x at *
     clear hxy hql hqm
     go_wp2
     go_quiet (fail)
     go_wp2
     go_roundw
     case rel=>exact ⟨q + 1,by simp,hqn,R.out,X.out.2.drewN _⟩
     case measure=>simp [intOf];omega
    ·have R:Hid (decide (l=m)=false):=decide_eq_false (fun e=>hxy (by rw [e]))
     have hne:(l[q]! == m[q]!)=false:=by rw [beq_eq_false_iff_ne];exact hxy
     generalize l[q]! = x at *
     generalize m[q]! = y at *
     clear hxy hql hqm
     go_wp2
     go_quiet (fail)
     go_wp2
     go_ret
     exact ⟨by rw [R.out];rfl,X.out.2.drewN _⟩
   ·have R:Hid (decide (l=m)=true):=by
     have e:=X.out.1
     have h1:=N.out
     have h2:=L.out
     rw [List.take_of_length_le (by omega),List.take_of_length_le (by omega)] at e
     exact decide_eq_true e
    go_wp2
    go_ret
    exact ⟨by rw [R.out];rfl,X.out.2⟩
 ·have R:Hid (decide (l=m)=false):=decide_eq_false (fun e=>hlm (by rw [e]))
  have hne:((l.length:Int) == (m.length:Int))=false:=by rw [beq_eq_false_iff_ne];omega
  generalize l.length=n1 at *
  generalize m.length=n2 at *
  clear ha hb hlm
  go_enter Tryz.func51,Tryz.ntmps51
  go_wp2
  go_ret
  exact ⟨by rw [R.out];rfl,Gr.refl _⟩
theorem ints_v {w:World} {u v:Value} {l m:List Int} (hu:RdI w u l) (hv:RdI w v m) (hlen:l.length<=4611686018427387904) (r:Bool) (hr:decide (l=m)=r) :
  Calls Tryz.prog 51 #[u,v] w fun e w'=>e=.returned (.bool r)/\Gr w w':=by
 subst hr;exact ints_c hu hv hlen
end Go.Proofs.YtepjbdklljlecaaGreat

namespace Go.Proofs.YtepjbdklljlecaaGreat
open Go.RowKit Go.Sort Go.Maps
set_option maxRecDepth 100000
set_option maxHeartbeats 2000000
def Lent (W:World) (B g:Nat) (l:List Int):Prop:=B<=g/\W.heap[g]? = some (.cells (l.map (Value.int .i64) ++ [Value.int .i64 (-77)]).toArray 3 (0,0))
theorem Lent.gb {W W':World} {B g:Nat} {l:List Int} (h:Lent W B g l) (k:Gb W W'):Lent W' B g l :=
 ⟨h.1,by rw [k.block g (Array.getElem?_eq_some_iff.1 h.2).1];exact h.2⟩
theorem Lent.far {W W':World} {B g g':Nat} {l:List Int} (h:Lent W B g l) (k:W.grownBy W' (some g')) (hne:g ≠ g'):Lent W' B g l :=
 ⟨h.1,by rw [k.block g (Array.getElem?_eq_some_iff.1 h.2).1 (by simpa using hne)];exact h.2⟩
theorem Lent.rd {W:World} {B g:Nat} {l:List Int} (h:Lent W B g l):RdI W (.slice (some ⟨g,0,none⟩) l.length (l.length + 1)) l:=by
 refine ⟨_,_,rfl,fun i hi=>⟨g,0,rfl,?_⟩⟩
 simp only [World.cell?,h.2,Nat.zero_add]
 simp only [Option.isSome_none,Bool.false_eq_true,if_false,List.getElem?_toArray]
 rw [List.getElem?_append_left (by simpa using hi)]
 simp [hi]
theorem Lent.mark {W:World} {B g:Nat} {l:List Int} (h:Lent W B g l):W.cell? ⟨g,l.length,none⟩=some (.int .i64 (-77)):=by
 simp only [World.cell?,h.2]
 simp
theorem Lent.own {W:World} {B g:Nat} {l:List Int} (h:Lent W B g l) (hl:l.length<=65536):Own W B (.slice (some ⟨g,0,none⟩) (l.length + 1) (l.length + 1)) (tab (fun i=>if i < l.length then l[i]! else -77) (l.length + 1)):=by
 unfold Own
 rw [tab_len]
 refine ⟨by simp [tab],.inr ⟨g,_,_,rfl,h.1,h.2,Nat.le_refl _,by simp only [maxLen];omega,by simp,?_⟩⟩
 apply List.ext_getElem?
 intro t
 by_cases ht:t < l.length + 1
 ·rw [Nat.mul_one,List.getElem?_take_of_lt ht]
  by_cases h2:t < l.length
  ·simp [tab,ht,h2]
  ·have e:t=l.length:=by omega
   subst e
   simp [tab]
 ·rw [List.getElem?_eq_none (by simp;omega),List.getElem?_eq_none (by simp [tab];omega)]
theorem lend_c {w:World} {u:Value} {l:List Int} (hu:RdI w u l) (hn:l.length<=65536) :
  Calls Tryz.prog 31 #[u] w fun e w'=>∃ g,e=.returned (.slice (some ⟨g,0,none⟩) l.length (l.length + 1))/\Lent w' w.heap.size g l/\Gb w w':=by
 obtain ⟨a,cap,rfl,ha⟩:=hu
 obtain ⟨n,hN⟩:∃ n,n=l.length:=⟨_,rfl⟩
 have N:Hid (n=l.length):=hN
 obtain ⟨m,hM⟩:∃ m,m=n + 1:=⟨_,rfl⟩
 have M:Hid (m=n + 1):=hM
 have hm:(n:Int) + 1=(m:Int):=by omega
 have hnm:(n:Int) < (m:Int):=by omega
 have hnm2:n<=m:=by omega
 have hmb:m<=65537:=by omega
 have hmk:=run_make_row' (P:=Tryz.prog) 41 3 (.int .i64 0) 8 Tryz.underlying41 Tryz.info3 rfl .i64 .i64 m (by omega) (by omega) w
 have hsz:(Tryz.prog.info? 3).map (·.size)=some 1:=by kernel_rfl
 have HR:Hid (∀ V:World,V.heap[w.heap.size]? = some (.cells (l.map (Value.int .i64) ++ [Value.int .i64 0]).toArray 3 (0,0))->Gb w V->V.cell? ⟨w.heap.size,n,none⟩=some (.int .i64 0)/\V.frozen? ⟨w.heap.size,n,none⟩=false/\Lent (V.setCell ⟨w.heap.size,n,none⟩ (.int .i64 (-77))) w.heap.size w.heap.size l/\Gb w (V.setCell ⟨w.heap.size,n,none⟩ (.int .i64 (-77)))):=by
  intro V hV hg
  refine ⟨?_,by simp [World.frozen?,hV],⟨Nat.le_refl _,?_⟩,gb_set hg (Nat.le_refl _) _⟩
  ·rw [hN];simp only [World.cell?,hV];simp
  ·rw [hN]
   simp only [World.setCell,Array.getElem?_modify,hV]
   simp
 have hmc:madeCells #[Value.int .i64 0] (0 + 1)=#[Value.int .i64 0]:=by apply Array.ext';rw [toList_madeCells_one];rfl
 have G0:Gb w (w.alloc (.cells (madeCells #[Value.int .i64 0] m) 3)):=gb_alloc (Below.refl _ _) _
 by_cases h0:l.length=0
 ·have hl:l=[]:=List.eq_nil_of_length_eq_zero h0
  have hnz:n=0:=by omega
  have hVV:=HR.out (w.alloc (.cells (madeCells #[Value.int .i64 0] m) 3)) (by rw [heap_alloc_new,hl,hM,hnz,hmc];rfl) G0
  obtain ⟨c0,f0,L0,G1⟩:=hVV
  have F:Hid (Lent ((w.alloc (.cells (madeCells #[Value.int .i64 0] m) 3)).setCell ⟨w.heap.size,n,none⟩ (.int .i64 (-77))) w.heap.size w.heap.size l/\Gb w ((w.alloc (.cells (madeCells #[Value.int .i64 0] m) 3)).setCell ⟨w.heap.size,n,none⟩ (.int .i64 (-77)))):=⟨L0,G1⟩
  rw [<- hN,<- hM]
  have hmin:Nat.min n m=0:=by rw [hnz];exact Nat.zero_min _
  have hcp:=run_copy_none (P:=Tryz.prog) (w.alloc (.cells (madeCells #[Value.int .i64 0] m) 3)) 41 41 3 3 (some ⟨w.heap.size,0,none⟩) a m m n cap Tryz.underlying41 hsz hmin
  clear HR L0 G1 G0 ha hN hM hn h0 hl hnz hmc hmin hsz
  generalize w.alloc (.cells (madeCells #[Value.int .i64 0] m) 3)=V at *
  go_enter Tryz.func31,Tryz.ntmps31
  go_wp2
  go_ret
  exact ⟨w.heap.size,rfl,F.out.1,F.out.2⟩
 ·obtain ⟨b,o,ea,_⟩:=ha 0 (by omega)
  subst ea
  have hcs:(l.map (Value.int .i64)).length=Nat.min n m:=by rw [List.length_map,<- hN];exact (Nat.min_eq_left hnm2).symm
  have hsrc:∀ j v,(l.map (Value.int .i64))[j]? = some v->(w.alloc (.cells (madeCells #[Value.int .i64 0] m) 3)).cell? ((⟨b,o,none⟩:Addr).add j)=some v:=by
   intro j v hj
   rw [List.getElem?_map] at hj
   obtain ⟨y,hy,rfl⟩:=Option.map_eq_some_iff.1 hj
   obtain ⟨hjl,hy⟩:=List.getElem?_eq_some_iff.1 hy
   obtain ⟨b',o',e,hc⟩:=ha j hjl
   cases e
   rw [Addr.add_lit]
   have:=gb_keeps G0 hc
   rw [this,getElem!_pos l j hjl,hy]
  have hblk:(w.alloc (.cells (madeCells #[Value.int .i64 0] m) 3)).heap[w.heap.size]? = some (.cells (madeCells #[Value.int .i64 0] m) 3 (0,0)):=heap_alloc_new _ _
  have hVV:=HR.out ((w.alloc (.cells (madeCells #[Value.int .i64 0] m) 3)).setRow w.heap.size ((madeCells #[Value.int .i64 0] m).toList.take 0 ++ l.map (Value.int .i64) ++ (madeCells #[Value.int .i64 0] m).toList.drop (0 + (l.map (Value.int .i64)).length)).toArray) (by
   rw [setRow_heap _ _ _ _ _ _ hblk]
   congr 2
   rw [toList_madeCells_one,List.length_map,Nat.zero_add,<- hN,hM]
   simp) (below_setRow G0 (Nat.le_refl _) _)
  obtain ⟨c0,f0,L0,G1⟩:=hVV
  have hcp:=run_copy_row (P:=Tryz.prog) (w.alloc (.cells (madeCells #[Value.int .i64 0] m) 3)) 41 41 3 3 w.heap.size 0 m m ⟨b,o,none⟩ n cap _ 3 (l.map (Value.int .i64)) Tryz.underlying41 hsz hblk hcs hsrc (by rw [size_madeCells,List.length_map];omega) (ints_oneCell .i64 l)
  generalize hV:(w.alloc (.cells (madeCells #[Value.int .i64 0] m) 3)).setRow w.heap.size ((madeCells #[Value.int .i64 0] m).toList.take 0 ++ l.map (Value.int .i64) ++ (madeCells #[Value.int .i64 0] m).toList.drop (0 + (l.map (Value.int .i64)).length)).toArray=V at *
  rw [List.length_map,<- hN] at hcp
  have F:Hid (Lent (V.setCell ⟨w.heap.size,n,none⟩ (.int .i64 (-77))) w.heap.size w.heap.size l/\Gb w (V.setCell ⟨w.heap.size,n,none⟩ (.int .i64 (-77)))):=⟨L0,G1⟩
  rw [<- hN,<- hM]
  clear HR L0 G1 G0 ha hN hM hn h0 hcs hsrc hblk hmc hV hsz
  go_enter Tryz.func31,Tryz.ntmps31
  go_wp2
  go_ret
  exact ⟨w.heap.size,rfl,F.out.1,F.out.2⟩
end Go.Proofs.YtepjbdklljlecaaGreat

namespace Go.Proofs.YtepjbdklljlecaaGreat
open Go.RowKit Go.Sort Go.Maps
def RA (W:World) (g n:Nat) (f:Nat->Value × Value):Prop :=
 ∃ cur:Array Value,W.heap[g]? = some (.cells cur 43 (0,0))/\cur.size=n * 2/\∀ i,i < n->cur[i * 2]? = some (f i).1/\cur[i * 2 + 1]? = some (f i).2
theorem RA.lt {W:World} {g n:Nat} {f:Nat->Value × Value} (h:RA W g n f):g < W.heap.size:=by
 obtain ⟨cur,h1,_⟩:=h;exact (Array.getElem?_eq_some_iff.1 h1).1
theorem RA.cell {W:World} {g n:Nat} {f:Nat->Value × Value} (h:RA W g n f) {i:Nat} (hi:i < n):W.cell? ⟨g,i * 2,none⟩=some (f i).1/\W.cell? ⟨g,i * 2 + 1,none⟩=some (f i).2:=by
 obtain ⟨cur,h1,_,h4⟩:=h
 obtain ⟨a,b⟩:=h4 i hi
 simp [World.cell?,h1,a,b]
theorem RA.frozen {W:World} {g n:Nat} {f:Nat->Value × Value} (h:RA W g n f) (o:Nat):W.frozen? ⟨g,o,none⟩=false:=by
 obtain ⟨cur,h1,_⟩:=h
 simp [World.frozen?,h1]
theorem RA.block {W W':World} {g n:Nat} {f:Nat->Value × Value} (h:RA W g n f) (e:W'.heap[g]? = W.heap[g]?):RA W' g n f:=by
 obtain ⟨cur,h1,h2⟩:=h
 exact ⟨cur,e.trans h1,h2⟩
theorem RA.set {W:World} {g n:Nat} {f:Nat->Value × Value} (h:RA W g n f) {i:Nat} (hi:i < n) (x y:Value) :
  RA ((W.setCell ⟨g,i * 2,none⟩ x).setCell ⟨g,i * 2 + 1,none⟩ y) g n (fun t=>if t=i then (x,y) else f t):=by
 obtain ⟨cur,h1,h2,h5⟩:=h
 refine ⟨(cur.setIfInBounds (i * 2) x).setIfInBounds (i * 2 + 1) y,?_,by simpa using h2,fun t ht=>?_⟩
 ·simp [World.setCell,Array.getElem?_modify,h1]
 ·by_cases e:t=i
  ·subst e
   simp only [if_true]
   refine ⟨?_,?_⟩
   ·rw [Array.getElem?_setIfInBounds_ne (by omega),Array.getElem?_setIfInBounds_self_of_lt (by omega)]
   ·rw [Array.getElem?_setIfInBounds_self_of_lt (by simp;omega)]
  ·simp only [if_neg e]
   obtain ⟨a,b⟩:=h5 t ht
   refine ⟨?_,?_⟩
   ·rw [Array.getElem?_setIfInBounds_ne (by omega),Array.getElem?_setIfInBounds_ne (by omega)];exact a
   ·rw [Array.getElem?_setIfInBounds_ne (by omega),Array.getElem?_setIfInBounds_ne (by omega)];exact b
structure Lr (w W:World) (G n:Nat) (rs:List Rw) (p:Nat) (z:Prop) (f:Nat->Value × Value):Prop where
 gb:Gb w W
 hG:w.heap.size<=G
 arr:RA W G n f
 lent:∃ gs:Nat->Nat,∀ i,i < p->f i=(.int .i64 rs[i]!.1,.slice (some ⟨gs i,0,none⟩) rs[i]!.2.length (rs[i]!.2.length + 1))/\Lent W (G + 1) (gs i) rs[i]!.2/\∀ j,j < i->gs j ≠ gs i
 end':z
theorem Lr.gr {w W W':World} {G n p:Nat} {rs:List Rw} {z:Prop} {f:Nat->Value × Value} (h:Lr w W G n rs p z f) (g:Gb W W'):Lr w W' G n rs p z f:=by
 obtain ⟨gs,hl⟩:=h.lent
 exact ⟨gb_trans h.gb g,h.hG,h.arr.block (g.block _ h.arr.lt),⟨gs,fun i hi=>⟨(hl i hi).1,(hl i hi).2.1.gb g,(hl i hi).2.2⟩⟩,h.end'⟩
theorem two_far {g b:Nat} {W:World} (hn:b ≠ g) (o1 o2:Nat) (x y:Value):((W.setCell ⟨g,o1,none⟩ x).setCell ⟨g,o2,none⟩ y).heap[b]? = W.heap[b]? :=
 (Below.heap_setCell _ _ _ _ (by dsimp only;exact hn)).trans (Below.heap_setCell _ _ _ _ (by dsimp only;exact hn))
theorem two_gb {g:Nat} {w W:World} (h:Gb w W) (hg:w.heap.size<=g) (o1 o2:Nat) (x y:Value):Gb w ((W.setCell ⟨g,o1,none⟩ x).setCell ⟨g,o2,none⟩ y) :=
 gb_set (gb_set h (by dsimp only;exact hg) _) (by dsimp only;exact hg) _
theorem Lent.block {W W':World} {B g:Nat} {l:List Int} (h:Lent W B g l) (e:W'.heap[g]? = W.heap[g]?):Lent W' B g l:=⟨h.1,e.trans h.2⟩
theorem Lent.lt {W:World} {B g:Nat} {l:List Int} (h:Lent W B g l):g < W.heap.size:=(Array.getElem?_eq_some_iff.1 h.2).1
theorem Lr.step {w W W2:World} {G n p g:Nat} {rs:List Rw} {f:Nat->Value × Value} (h:Lr w W G n rs p True f) (hp:p < n) (g2:Gb W W2) (L:Lent W2 W.heap.size g rs[p]!.2) :
  ∃ f',Lr w ((W2.setCell ⟨G,p * 2,none⟩ (.int .i64 rs[p]!.1)).setCell ⟨G,p * 2 + 1,none⟩ (.slice (some ⟨g,0,none⟩) rs[p]!.2.length (rs[p]!.2.length + 1))) G n rs (p + 1) True f':=by
 have hGW:=h.arr.lt
 have h2:=h.gr g2
 obtain ⟨gs,hl⟩:=h2.lent
 obtain ⟨gs0,hl0⟩:=h.lent
 have hgs:∀ i,i < p->gs i < W.heap.size:=fun i hi=>by
  have e:=(hl i hi).1.symm.trans (hl0 i hi).1
  simp at e
  rw [e]
  exact (hl0 i hi).2.1.lt
 have hg:=L.1
 refine ⟨_,two_gb h2.gb h2.hG _ _ _ _,h.hG,h2.arr.set hp _ _,⟨fun i=>if i=p then g else gs i,fun i hi=>?_⟩,trivial⟩
 by_cases e:i=p
 ·subst e
  simp only [if_true]
  refine ⟨trivial,⟨by omega,(two_far (by omega) _ _ _ _).trans L.2⟩,fun j hj=>?_⟩
  rw [if_neg (by omega)]
  have:=hgs j hj
  omega
 ·simp only [if_neg e]
  obtain ⟨a,b,c⟩:=hl i (by omega)
  refine ⟨a,b.block (two_far (by have:=b.1;omega) _ _ _ _),fun j hj=>?_⟩
  rw [if_neg (by omega)]
  exact c j hj
def LentR (w W:World) (G:Nat) (rs:List Rw):Prop:=∃ f,Lr w W G (rs.length + 1) rs rs.length (f rs.length=(.int .i64 (-77),.slice none 0 0)) f
theorem Lr.mark {w W:World} {G n:Nat} {rs:List Rw} {f:Nat->Value × Value} (h:Lr w W G (n + 1) rs n True f) (hn:n=rs.length) :
  LentR w ((W.setCell ⟨G,n * 2,none⟩ (.int .i64 (-77))).setCell ⟨G,n * 2 + 1,none⟩ (.slice none 0 0)) G rs:=by
 subst hn
 obtain ⟨gs,hl⟩:=h.lent
 refine ⟨_,two_gb h.gb h.hG _ _ _ _,h.hG,h.arr.set (Nat.lt_succ_self _) _ _,⟨gs,fun i hi=>?_⟩,by simp⟩
 obtain ⟨a,b,c⟩:=hl i hi
 exact ⟨by rw [if_neg (by omega)];exact a,b.block (two_far (by have:=b.1;omega) _ _ _ _),c⟩
theorem LentR.gr {w W W':World} {G:Nat} {rs:List Rw} (h:LentR w W G rs) (g:Gb W W'):LentR w W' G rs:=by
 obtain ⟨f,h⟩:=h
 exact ⟨f,h.gr g⟩
theorem LentR.rd {w W:World} {G:Nat} {rs:List Rw} (h:LentR w W G rs):RdW W (.slice (some ⟨G,0,none⟩) rs.length (rs.length + 1)) rs:=by
 obtain ⟨f,h⟩:=h
 obtain ⟨gs,hl⟩:=h.lent
 refine ⟨_,_,rfl,fun i hi=>?_⟩
 obtain ⟨a,b,_⟩:=hl i hi
 have hc:=h.arr.cell (i:=i) (by omega)
 rw [a] at hc
 exact ⟨G,0,_,rfl,by rw [Nat.zero_add];exact hc.1,by rw [Nat.zero_add];exact hc.2,b.rd⟩
structure Rs (w W:World) (a b:Addr) (u v:Value):Prop where
 gb:Gb w W
 ca:W.cell? a=some u
 cb:W.cell? b=some v
 la:a.block < w.heap.size
 lb:b.block < w.heap.size
theorem Rs.gr {w W W':World} {a b:Addr} {u v:Value} (h:Rs w W a b u v) (g:Gb W W'):Rs w W' a b u v:=⟨gb_trans h.gb g,gb_keeps g h.ca,gb_keeps g h.cb,h.la,h.lb⟩
theorem Rs.set {w W:World} {a b:Addr} {u v:Value} {B:Nat} (h:Rs w W a b u v) (hB:w.heap.size<=B) (o1 o2:Nat) (x y:Value):Rs w ((W.setCell ⟨B,o1,none⟩ x).setCell ⟨B,o2,none⟩ y) a b u v:=by
 have ha:=h.la
 have hb:=h.lb
 exact ⟨two_gb h.gb hB _ _ _ _,(World.cell?_of_block (two_far (by omega) _ _ _ _)).trans h.ca,(World.cell?_of_block (two_far (by omega) _ _ _ _)).trans h.cb,h.la,h.lb⟩
end Go.Proofs.YtepjbdklljlecaaGreat

namespace Go.Proofs.YtepjbdklljlecaaGreat
open Go.RowKit Go.Sort Go.Maps
set_option maxRecDepth 100000
set_option maxHeartbeats 4000000
theorem grown_set {w W:World} {g i:Nat} (h:w.grownBy W (some g)) (u:Value):w.grownBy (W.setCell ⟨g,i,none⟩ u) (some g) :=
 ⟨h.os,h.tape,h.output,by simpa [World.setCell] using h.size,fun k hk hn=>(Below.heap_setCell _ _ _ _ (fun e=>hn (by rw [e]))).trans (h.block k hk hn)⟩
theorem grown_gb {w W:World} {g:Nat} (h:Gb w W):w.grownBy W (some g):=⟨h.os,h.tape,h.output,h.size,fun k hk _=>h.block k hk⟩
theorem back_c {w:World} {B g:Nat} {v:Value} {l:List Int} (hg:Lent w B g l) (hv:RdI w v l) (hn:l.length<=65536) :
  Calls Tryz.prog 33 #[.slice (some ⟨g,0,none⟩) l.length (l.length + 1),v] w fun e w'=>e=.returned (.bool true)/\w.grownBy w' (some g):=by
 have c32:=ints_v hg.rd hv (by omega) true (by simp)
 have mk:=hg.mark
 have HG:Hid (Lent w B g l):=hg
 obtain ⟨a,cap,rfl,_⟩:=hv
 have OW:Hid (∀ W,Gb w W->Own W B (.slice (some ⟨g,0,none⟩) (l.length + 1) (l.length + 1)) (tab (fun i=>if i < l.length then l[i]! else -77) (l.length + 1))):=fun W k=>(HG.out.gb k).own hn
 obtain ⟨n,hN⟩:∃ n,n=l.length:=⟨_,rfl⟩
 rw [<- hN] at c32 mk hn OW ⊢
 obtain ⟨m,hM⟩:∃ m,m=n + 1:=⟨_,rfl⟩
 have hm:(n:Int) + 1=(m:Int):=by omega
 have hnm:(n:Int) < (m:Int):=by omega
 have hnm2:n < m:=by omega
 have hmb:m<=65537:=by omega
 rw [<- hM] at c32 OW ⊢
 clear HG hN hg hM
 go_enter Tryz.func33,Tryz.ntmps33
 go_wp2_with fail
 refine c32.mono ?_
 rintro e w1 ⟨rfl,g1⟩
 have mk1:=gb_keeps g1.gb mk
 clear mk c32
 go_wp2
 go_loopw [6] (fun iv w'=>∃ q:Nat,∃ f:Nat->Int,iv=.int .i64 (q:Int)/\q<=m/\Hid (Own w' B (.slice (some ⟨g,0,none⟩) m m) (tab f m)/\w.grownBy w' (some g))) (fun iv _=>m - (intOf iv).toNat)
 case atStart=>exact ⟨0,_,rfl,Nat.zero_le _,OW.out w1 g1.gb,grown_gb g1.gb⟩
 case round =>
  clear mk1 OW g1
  obtain ⟨q,f,rfl,hq,X⟩:=hrel
  by_cases hqm:q < m
  ·have hqi:(q:Int) < (m:Int):=by omega
   obtain ⟨c0,f0⟩:=X.out.1.at hqm
   go_wp2
   refine ⟨⟨q + 1,_,by go_num,hqm,own_set X.out.1 hqm _,grown_set X.out.2 _⟩,by simp [intOf];omega⟩
  ·have hqi:¬ (q:Int) < (m:Int):=by omega
   go_wp2
   go_ret
   exact ⟨rfl,X.out.2⟩
end Go.Proofs.YtepjbdklljlecaaGreat

namespace Go.Proofs.YtepjbdklljlecaaGreat
open Go.RowKit Go.Sort Go.Maps
structure Mid (B T:Nat) (w W:World):Prop where
 os:W.os=w.os
 tape:W.tape=w.tape
 output:W.output=w.output
 size:w.heap.size<=W.heap.size
 block:∀ k,k < w.heap.size->(k < B ∨ T<=k)->W.heap[k]? = w.heap[k]?
theorem Mid.refl (B T:Nat) (w:World):Mid B T w w:=⟨rfl,rfl,rfl,Nat.le_refl _,fun _ _ _=>rfl⟩
theorem Mid.gb {B T:Nat} {w0 w W:World} (h:Mid B T w W) (g:Gb w0 w) (hB:w0.heap.size<=B):Gb w0 W:=by
 have hs:=g.size
 exact ⟨h.os.trans g.os,h.tape.trans g.tape,h.output.trans g.output,Nat.le_trans g.size h.size,fun k hk=>(h.block k (by omega) (.inl (by omega))).trans (g.block k hk)⟩
theorem Mid.drew {B T:Nat} {w W:World} (h:Mid B T w W):Mid B T w W.drew:=⟨h.os,h.tape,h.output,h.size,h.block⟩
theorem Mid.grown {B T g:Nat} {w W W':World} (h:Mid B T w W) (k:W.grownBy W' (some g)) (h1:B<=g) (h2:g < T):Mid B T w W' :=
 ⟨k.os.trans h.os,k.tape.trans h.tape,k.output.trans h.output,Nat.le_trans h.size k.size,fun j hj hb=>(k.block j (Nat.lt_of_lt_of_le hj h.size) (by simp;omega)).trans (h.block j hj hb)⟩
theorem Mid.set {B T g:Nat} {w W:World} (h:Mid B T w W) (h1:B<=g) (h2:g < T) (o1 o2:Nat) (x y:Value):Mid B T w ((W.setCell ⟨g,o1,none⟩ x).setCell ⟨g,o2,none⟩ y) :=
 ⟨h.os,h.tape,h.output,by simpa [World.setCell] using h.size,fun j hj hb=>(two_far (by omega) _ _ _ _).trans (h.block j hj hb)⟩
structure LT (B T:Nat) (W:World) (G:Nat) (rs:List Rw) (f:Nat->Value × Value) (gs:Nat->Nat):Prop where
 lo:B<=G
 hi:G < T
 arr:RA W G (rs.length + 1) f
 mark:f rs.length=(.int .i64 (-77),.slice none 0 0)
 row:∀ i,i < rs.length->f i=(.int .i64 rs[i]!.1,.slice (some ⟨gs i,0,none⟩) rs[i]!.2.length (rs[i]!.2.length + 1))/\Lent W (G + 1) (gs i) rs[i]!.2/\gs i < T/\∀ j,j < i->gs j ≠ gs i
theorem LentR.lt {w W:World} {G:Nat} {rs:List Rw} (h:LentR w W G rs):∃ f gs,LT w.heap.size W.heap.size W G rs f gs:=by
 obtain ⟨f,h⟩:=h
 obtain ⟨gs,hl⟩:=h.lent
 exact ⟨f,gs,h.hG,h.arr.lt,h.arr,h.end',fun i hi=>⟨(hl i hi).1,(hl i hi).2.1,(hl i hi).2.1.lt,(hl i hi).2.2⟩⟩
theorem LT.keep {B T G:Nat} {W W':World} {rs:List Rw} {f:Nat->Value × Value} {gs:Nat->Nat} (h:LT B T W G rs f gs) (e:∀ k,B<=k->k < T->W'.heap[k]? = W.heap[k]?):LT B T W' G rs f gs :=
 ⟨h.lo,h.hi,h.arr.block (e _ h.lo h.hi),h.mark,fun i hi=>by
  obtain ⟨a,b,c,d⟩:=h.row i hi
  exact ⟨a,b.block (e _ (by have:=b.1;have:=h.lo;omega) c),c,d⟩⟩
structure Bk (B T:Nat) (w W:World) (G:Nat) (rs:List Rw) (f:Nat->Value × Value) (gs:Nat->Nat) (p:Nat):Prop where
 mid:Mid B T w W
 arr:∃ f',RA W G (rs.length + 1) f'/\∀ i,p<=i->f' i=f i
 lent:∀ i,p<=i->i < rs.length->Lent W (G + 1) (gs i) rs[i]!.2
theorem Bk.drew {B T G p:Nat} {w W:World} {rs:List Rw} {f:Nat->Value × Value} {gs:Nat->Nat} (h:Bk B T w W G rs f gs p):Bk B T w W.drew G rs f gs p :=
 ⟨h.mid.drew,h.arr,h.lent⟩
theorem Bk.step {B T G p:Nat} {w W W2:World} {rs:List Rw} {f:Nat->Value × Value} {gs:Nat->Nat} (h:Bk B T w W G rs f gs p) (L:LT B T w G rs f gs) (hp:p < rs.length) (k:W.grownBy W2 (some (gs p))) (x y:Value) :
  Bk B T w ((W2.setCell ⟨G,p * 2,none⟩ x).setCell ⟨G,p * 2 + 1,none⟩ y) G rs f gs (p + 1):=by
 obtain ⟨_,b,c,_⟩:=L.row p hp
 have hb:=b.1
 have hlo:=L.lo
 obtain ⟨f',h1,h2⟩:=h.arr
 refine ⟨(h.mid.grown k (by omega) c).set L.lo L.hi _ _ _ _,⟨_,(h1.block (k.block G h1.lt (by simp;omega))).set (i:=p) (by omega) x y,fun i hi=>?_⟩,fun i hi hl=>?_⟩
 ·rw [if_neg (by omega)];exact h2 i (by omega)
 ·have h3:=h.lent i (by omega) hl
  have hne:=(L.row i hl).2.2.2 p (by omega)
  exact h3.block ((two_far (by have:=h3.1;omega) _ _ _ _).trans (k.block _ h3.lt (by simp;omega)))
structure Qs (W:World) (a b c d:Addr) (u v x y:Value):Prop where
 ca:W.cell? a=some u
 cb:W.cell? b=some v
 cc:W.cell? c=some x
 cd:W.cell? d=some y
theorem Qs.grown {W W':World} {a b c d:Addr} {u v x y:Value} {g:Nat} (h:Qs W a b c d u v x y) (k:W.grownBy W' (some g)) (ha:a.block ≠ g) (hb:b.block ≠ g) (hc:c.block ≠ g) (hd:d.block ≠ g):Qs W' a b c d u v x y:=by
 have far:∀ {p:Addr} {q:Value},p.block ≠ g->W.cell? p=some q->W'.cell? p=some q:=fun {p q} hp hq =>
  (World.cell?_of_block (k.block _ (World.block_lt_of_cell? W _ hq) (by simp;omega))).trans hq
 exact ⟨far ha h.ca,far hb h.cb,far hc h.cc,far hd h.cd⟩
end Go.Proofs.YtepjbdklljlecaaGreat

namespace Go.Proofs.YtepjbdklljlecaaGreat
open Go.RowKit
set_option maxHeartbeats 2000000
theorem rid_c (x:Int) (w:World):Calls Tryz.prog 60 #[.int .i64 x] w fun e w'=>e=.returned (.bool (okId x))/\w=w':=by
 by_cases h:1<=x
 ·by_cases h2:x<=1000000000
  ·have E:Hid (okId x=true):=(okId_iff x).2 ⟨h,h2⟩
   go_enter Tryz.func60,Tryz.ntmps60
   go_wp2
   go_ret
   exact ⟨by rw [E.out];rfl,rfl⟩
  ·have E:Hid (okId x=false):=by unfold Hid;rw [<- Bool.not_eq_true,okId_iff];omega
   go_enter Tryz.func60,Tryz.ntmps60
   go_wp2
   go_ret
   exact ⟨by rw [E.out];rfl,rfl⟩
 ·have E:Hid (okId x=false):=by unfold Hid;rw [<- Bool.not_eq_true,okId_iff];omega
  go_enter Tryz.func60,Tryz.ntmps60
  go_wp2
  go_ret
  exact ⟨by rw [E.out];rfl,rfl⟩
theorem rid_v (x:Int) (b:Bool) (h:okId x=b) (w:World):Calls Tryz.prog 60 #[.int .i64 x] w fun e w'=>e=.returned (.bool b)/\w=w':=by
 subst h;exact rid_c x w
theorem form_c {w:World} {v:Value} {r:Reg} (h:RdR w v r) :
  Calls Tryz.prog 217 #[v] w fun e w'=>e=.returned (.bool (uses r))/\Gr w w':=by
 obtain ⟨vl,vh,vi,rfl,⟨pl,cl,rfl,_⟩,⟨ph,ch,rfl,_⟩,h3⟩:=h
 clear h3
 have E:Hid (uses r=if r.S=1 then decide (r.L.length=0) && decide (r.H.length=0) && decide (r.R=0) else if r.S=2 then decide (r.R=0) else if r.S=3 then decide (r.H.length=0) else false):=rfl
 generalize uses r=res at *
 obtain ⟨S,L,H,R,I⟩:=r
 dsimp only at *
 generalize L.length=nl at *
 generalize H.length=nh at *
 by_cases s1:S=1
 ·subst s1
  rw [if_pos rfl] at E
  by_cases k1:nl=0
  ·subst k1
   by_cases k2:nh=0
   ·subst k2
    have hz:=fun W=>wd_eq0 R res (by have:=E.out;simpa using this.symm) W
    go_enter Tryz.func217,Tryz.ntmps217
    go_wp2
    go_ret
    exact ⟨rfl,((Gr.refl _).alloc _ _).alloc _ _⟩
   ·have e:res=false:=by have:=E.out;rw [this];simp [k2]
    subst e
    have k2':((nh:Int) == 0)=false:=by rw [beq_eq_false_iff_ne];omega
    clear k2 E
    go_enter Tryz.func217,Tryz.ntmps217
    go_wp2
    go_ret
    exact ⟨rfl,((Gr.refl _).alloc _ _).alloc _ _⟩
  ·have e:res=false:=by have:=E.out;rw [this];simp [k1]
   subst e
   have k2':((nl:Int) == 0)=false:=by rw [beq_eq_false_iff_ne];omega
   clear k1 E
   go_enter Tryz.func217,Tryz.ntmps217
   go_wp2
   go_ret
   exact ⟨rfl,((Gr.refl _).alloc _ _).alloc _ _⟩
 ·have s1':(S == 1)=false:=by rw [beq_eq_false_iff_ne];exact s1
  by_cases s2:S=2
  ·subst s2
   have hz:=fun W=>wd_eq0 R res (by have:=E.out;simpa using this.symm) W
   clear E s1
   go_enter Tryz.func217,Tryz.ntmps217
   go_wp2
   go_ret
   exact ⟨rfl,((Gr.refl _).alloc _ _).alloc _ _⟩
  ·have s2':(S == 2)=false:=by rw [beq_eq_false_iff_ne];exact s2
   by_cases s3:S=3
   ·subst s3
    have e:Hid (res=((nh:Int) == 0)):=by
     have:=E.out
     unfold Hid
     rw [this]
     by_cases k:nh=0
     ·simp [k]
     ·have:((nh:Int) == 0)=false:=by rw [beq_eq_false_iff_ne];omega
      rw [this];simp [k]
    clear E s1 s2
    go_enter Tryz.func217,Tryz.ntmps217
    go_wp2
    go_ret
    exact ⟨by rw [e.out];rfl,((Gr.refl _).alloc _ _).alloc _ _⟩
   ·have s3':(S == 3)=false:=by rw [beq_eq_false_iff_ne];exact s3
    have e:res=false:=by have:=E.out;rw [this,if_neg s1,if_neg s2,if_neg s3]
    subst e
    clear E s1 s2 s3
    go_enter Tryz.func217,Tryz.ntmps217
    go_wp2
    go_ret
    exact ⟨rfl,((Gr.refl _).alloc _ _).alloc _ _⟩
theorem form_v {w:World} {v:Value} {r:Reg} (h:RdR w v r) (b:Bool) (hb:uses r=b) :
  Calls Tryz.prog 217 #[v] w fun e w'=>e=.returned (.bool b)/\Gr w w':=by
 subst hb;exact form_c h
end Go.Proofs.YtepjbdklljlecaaGreat

namespace Go.Proofs.YtepjbdklljlecaaGreat
open Go.RowKit Go.Sort
set_option maxRecDepth 100000
set_option maxHeartbeats 1000000
def Fnd (rs:List Rw) (x z:Int):Prop:=(z=-1/\∀ i,i < rs.length->rs[i]!.1 ≠ x) ∨ ∃ i:Nat,z=(i:Int)/\i < rs.length/\rs[i]!.1=x
theorem rfind_c {w:World} {v:Value} {rs:List Rw} (h:RdW w v rs) (hlen:rs.length<=4611686018427387904) (x:Int) :
  Calls Tryz.prog 62 #[v,.int .i64 x] w fun e w'=>(∃ z:Int,e=.returned (.int .i64 z)/\Fnd rs x z)/\w=w':=by
 obtain ⟨a,cap,rfl,ha⟩:=h
 have A:Hid (∀ i,i < rs.length->∃ b o u,a=some ⟨b,o,none⟩/\w.cell? ⟨b,o + i * 2,none⟩=some (.int .i64 rs[i]!.1)/\w.cell? ⟨b,o + i * 2 + 1,none⟩=some u/\RdI w u rs[i]!.2):=ha
 obtain ⟨n,hN⟩:∃ n,n=rs.length:=⟨_,rfl⟩
 have N:Hid (n=rs.length):=hN
 rw [<- hN] at hlen ⊢
 clear ha hN
 go_enter Tryz.func62,Tryz.ntmps62
 go_wp2
 go_loopw [5] (fun iv w'=>∃ q:Nat,iv=.int .i64 (q:Int)/\q<=n/\Hid (∀ i,i < q->rs[i]!.1 ≠ x)/\w=w') (fun iv _=>n - (intOf iv).toNat)
 case atStart=>exact ⟨0,rfl,Nat.zero_le _,fun i hi=>absurd hi (Nat.not_lt_zero _),rfl⟩
 case round =>
  obtain ⟨q,rfl,hq,X,rfl⟩:=hrel
  by_cases hqn:q < n
  ·have hqi:(q:Int) < (n:Int):=by omega
   have hql:q < rs.length:=by have:=N.out;omega
   obtain ⟨b,o,u,ea,hc,_,_⟩:=A.out q hql
   subst ea
   by_cases hx:rs[q]!.1=x
   ·have F:Hid (Fnd rs x (q:Int)):=.inr ⟨q,rfl,hql,hx⟩
    rw [hx] at hc
    clear hql X hx
    go_wp2
    go_ret
    exact ⟨⟨_,rfl,F.out⟩,by first | rfl | trivial⟩
   ·have R:Hid (∀ i,i < q + 1->rs[i]!.1 ≠ x):=fun i hi=>by
     by_cases e:i=q
     ·rw [e];exact hx
     ·exact X.out i (by omega)
    have hx':(rs[q]!.1 == x)=false:=by rw [beq_eq_false_iff_ne];exact hx
    generalize rs[q]!.1=y at hc hx hx'
    clear hql X
    go_wp2
    go_roundw
    case rel=>exact ⟨q + 1,by simp,hqn,R,by first | rfl | trivial⟩
    case measure=>simp [intOf];omega
  ·have hqi:¬ (q:Int) < (n:Int):=by omega
   have F:Hid (Fnd rs x (-1)):=.inl ⟨rfl,fun i hi=>X.out i (by have:=N.out;omega)⟩
   clear X
   go_wp2
   go_ret
   exact ⟨⟨_,rfl,F.out⟩,by first | rfl | trivial⟩
end Go.Proofs.YtepjbdklljlecaaGreat

namespace Go.Proofs.YtepjbdklljlecaaGreat
open Go.RowKit
set_option maxRecDepth 100000
set_option maxHeartbeats 4000000
theorem rid_q (x:Int) (b:Bool) (h:okId x=b) (w:World):Calls Tryz.prog 60 #[.int .i64 x] w fun e w'=>e=.returned (.bool b)/\∃ n,w'=w.drewN n :=
 (rid_v x b h w).mono fun _ _ ⟨h1,h2⟩=>⟨h1,0,h2.symm⟩
theorem rids_c {w:World} {v:Value} {l:List Int} (h:RdI w v l) (hlen:l.length<=4611686018427387904) :
  Calls Tryz.prog 218 #[v] w fun e w'=>e=.returned (.bool (rise l))/\Gr w w':=by
 obtain ⟨a,cap,rfl,ha⟩:=h
 have A:Hid (∀ i,i < l.length->∃ b o,a=some ⟨b,o,none⟩/\w.cell? ⟨b,o + i,none⟩=some (.int .i64 l[i]!)):=ha
 obtain ⟨n,hN⟩:∃ n,n=l.length:=⟨_,rfl⟩
 have N:Hid (n=l.length):=hN
 rw [<- hN] at hlen ⊢
 clear ha hN
 go_enter Tryz.func218,Tryz.ntmps218
 go_wp2
 go_loopw [3] (fun iv w'=>∃ q:Nat,iv=.int .i64 (q:Int)/\q<=n/\Gr w w'/\Hid (riseTo l q=true)) (fun iv _=>n - (intOf iv).toNat)
 case atStart=>exact ⟨0,rfl,Nat.zero_le _,Gr.refl _,rfl⟩
 case round =>
  obtain ⟨q,rfl,hq,G,X⟩:=hrel
  by_cases hqn:q < n
  ·have hqi:(q:Int) < (n:Int):=by omega
   have hql:q < l.length:=by have:=N.out;omega
   obtain ⟨b,o,ea,hc⟩:=A.out q hql
   replace hc:=G.keeps hc
   by_cases hid:okId l[q]! = true
   ·have c:=fun W=>rid_q l[q]! true hid W
    by_cases h0:q=0
    ·have R:Hid (riseTo l (q + 1)=true):=by unfold Hid;simp only [riseTo,okAt];rw [X.out,hid,h0];rfl
     subst ea
     have h0':decide (0 < q)=false:=by rw [decide_eq_false_iff_not];omega
     generalize l[q]! = x at *
     clear X hid hql h0
     go_wp2
     go_quiet (first | (go_at_call 60;exact Calls.quiet_of (c _)))
     go_wp2
     go_roundw
     case rel=>exact ⟨q + 1,by simp,hqn,G.drewN _,R⟩
     case measure=>simp [intOf];omega
    ·obtain ⟨p,hp⟩:∃ p,q=p + 1:=⟨q - 1,by omega⟩
     obtain ⟨b',o',ea',hc'⟩:=A.out p (by omega)
     rw [ea] at ea'
     cases ea'
     replace hc':=G.keeps hc'
     have hpi:(q:Int) - 1=(p:Int):=by omega
     have hpn:(p:Int) < (n:Int):=by omega
     have hp0:decide (0 < q)=true:=by rw [decide_eq_true_eq];omega
     have hqp:q - 1=p:=by omega
     by_cases hlt:l[p]! < l[q]!
     ·have R:Hid (riseTo l (q + 1)=true):=by
       have x1:=X.out
       unfold Hid
       rw [riseTo,x1,okAt,hid,hqp,decide_eq_true hlt];simp
      have hlt':decide (l[q]! <= l[p]!)=false:=by rw [decide_eq_false_iff_not];omega
      subst ea
      generalize l[q]! = x at *
      generalize l[p]! = y at *
      clear X hid hql h0 hlt hqp hp
      go_wp2
      go_quiet (first | (go_at_call 60;exact Calls.quiet_of (c _)))
      go_wp2
      go_roundw
      case rel=>exact ⟨q + 1,by simp,hqn,G.drewN _,R⟩
      case measure=>simp [intOf];omega
     ·have R:Hid (rise l=false):=rise_no hql (by rw [okAt,hid,hqp,decide_eq_false hlt];simp;omega)
      have hlt':decide (l[q]! <= l[p]!)=true:=by rw [decide_eq_true_eq];omega
      subst ea
      generalize l[q]! = x at *
      generalize l[p]! = y at *
      clear X hid hql h0 hlt hqp hp
      go_wp2
      go_quiet (first | (go_at_call 60;exact Calls.quiet_of (c _)))
      go_wp2
      go_ret
      exact ⟨by rw [R.out];rfl,G.drewN _⟩
   ·have c:=fun W=>rid_q l[q]! false (by simpa using hid) W
    have R:Hid (rise l=false):=rise_no hql (by rw [okAt,show okId l[q]! = false by simpa using hid];rfl)
    subst ea
    generalize l[q]! = x at *
    clear X hid hql
    go_wp2
    go_quiet (first | (go_at_call 60;exact Calls.quiet_of (c _)))
    go_wp2
    go_ret
    exact ⟨by rw [R.out];rfl,G.drewN _⟩
  ·have hqi:¬ (q:Int) < (n:Int):=by omega
   have R:Hid (rise l=true):=by
    have h1:=X.out
    have h2:q=l.length:=by have:=N.out;omega
    rw [h2] at h1;exact h1
   go_wp2
   go_ret
   exact ⟨by rw [R.out];rfl,G⟩
end Go.Proofs.YtepjbdklljlecaaGreat
