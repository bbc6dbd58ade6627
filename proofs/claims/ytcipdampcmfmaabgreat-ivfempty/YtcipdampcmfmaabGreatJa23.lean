import Derived.Test.YtcipdampcmfmaabGreatJa5
import Derived.ProofKit
import Derived.Carry
import Derived.Deep.Slices
import Derived.Lib.SmallJoins
import Derived.Test.YtcipdampcmfmaabGreatJa20
import Derived.Test.YtcipdampcmfmaabGreatJa11
import Derived.Test.YtcipdampcmfmaabGreatJaRNear
import Derived.Test.YtcipdampcmfmaabGreatJa18
import Derived.Test.YtcipdampcmfmaabGreatJaRwL
import Derived.Test.YtcipdampcmfmaabGreatJa4
namespace Go.Proofs.YtcipdampcmfmaabGreat
open Go.ChangeShapes Go.WideShapes Go.ChangeAt Go.RowKit Go.Joins Go.Deep
set_option maxRecDepth 100000
theorem Tryz.own:ownKnob Tryz.prog.godebug=none:=by kernel_rfl
theorem Tryz.cells3:Tryz.prog.cellsOf 3=1:=by kernel_rfl
theorem Tryz.cells26:Tryz.prog.cellsOf 26=1:=by kernel_rfl
theorem Tryz.cells23:Tryz.prog.cellsOf 23=1:=by kernel_rfl
theorem Tryz.cells45:Tryz.prog.cellsOf 45=2:=by kernel_rfl
theorem below_trodAll {H:Type} {enc:TypeId × Value->H} {W W':World} (g:Gb W W'):∀ (ts:List TypeId) (vs:List Value) (ds:List (DataW H)) (p:List MemPlace),
  (∀ t ∈ ts,Tryz.prog.readableRec t=true/\t < Tryz.prog.types.size)->(∀ x ∈ p,x.block < W.heap.size)->DataW.TrodAll enc Tryz.prog W 0 (fun _=>true) true ts vs ds p ->
  DataW.TrodAll enc Tryz.prog W' 0 (fun b=>decide (b < W.heap.size)) true ts vs ds p
 | [],vs,ds,p,_,_,h=>by
  obtain ⟨rfl,rfl,rfl⟩:=trodAll_nil h
  rfl
 | t :: ts,vs,ds,p,hr,hl,h=>by
  obtain ⟨v,vs1,d,ds1,a,b,rfl,rfl,rfl,h1,h2⟩:=trodAll_cons h
  exact ⟨a,b,Below.trod (by kernel_rfl) (hr t List.mem_cons_self).1 (hr t List.mem_cons_self).2 h1 g (fun x hx=>hl x (List.mem_append_left _ hx)),
   below_trodAll g ts vs1 ds1 b (fun t' ht'=>hr t' (List.mem_cons_of_mem _ ht')) (fun x hx=>hl x (List.mem_append_right _ hx)) h2,rfl⟩
theorem law_post {H:Type} {enc:TypeId × Value->H} {s:ChangeSpec} {f:Func} {W W':World} {args:Array Value} {ds gs:List (DataW H)} {before:List MemPlace}
  (hW:DataW.Whole enc Tryz.prog f.params.toList s.vars false W args.toList ds gs before) (hv:s.vars=[]) (hr:f.resultTypes=#[4])
  (hf:s.fn H (ds ++ gs)={ results:=[.lit (.bool true)],args:=ds }) (hread:∀ t ∈ f.params.toList,Tryz.prog.readableRec t=true/\t < Tryz.prog.types.size) (g:Gb W W') :
  s.post enc Tryz.prog f false true false false W args (.bool true) W':=by
 have hlt:=hW.lt
 have hW2:=hW
 obtain ⟨p,q,hA,hV,rfl,_,_⟩:=hW2
 rw [hv] at hV
 obtain ⟨rfl,rfl⟩:=trodVars_none hV
 rw [List.append_nil] at hlt
 refine ⟨ds,[],p ++ [],[],p,[],hW,?_,?_,?_,Below.frame g _,fun h=>by cases h⟩
 ·rw [hf,hr]
  exact trodAll_mk1 (shut_bool Tryz.underlying4 _)
 ·rw [hf]
  exact below_trodAll g _ _ _ _ hread hlt hA
 ·rw [hf,hv]
  exact rfl
theorem spot_none {w:World} {a:Addr} {v:Value} (h:w.cell? a=some v):a=⟨a.block,a.off,none⟩:=by
 obtain ⟨b,o,s⟩:=a
 cases s with
 | none=>rfl
 | some s =>
  simp only [World.cell?] at h
  split at h <;> simp at h
theorem word_of_wf {a:Int} (h:(Lit.int .u64 a).wf=true):0<=a/\a < 18446744073709551616:=by
 simp [Lit.wf,IntKind.min,IntKind.max,IntKind.signed,IntKind.bits] at h
 exact ⟨by omega,by omega⟩
theorem trod22 {H:Type} {enc:TypeId × Value->H} {W:World} {base fuel:Nat} {hd:Bool} {cs:List Value} {x:DataW H × List MemPlace}
  (h:DataW.trod enc Tryz.prog W base (fun _=>true) hd fuel 26 cs=some x):∃ v l,cs=[v]/\RdI W v l/\l.length<=maxLen:=by
 rcases open_slice1 Tryz.underlying26 Tryz.cells3 h with ⟨rfl,_⟩ | ⟨a,len,cap,m,n,V,D,Pl,rfl,_,hlc,hcm,hm,_,hx⟩
 ·exact ⟨_,[],rfl,rdi_nil _,Nat.zero_le _⟩
 ·rw [if_pos rfl] at hm
  subst hm
  have hy:∀ i,i < len->∃ y:Int,W.cell? (a.add i)=some (.int .i64 y):=by
   intro i hi
   obtain ⟨hc,ht⟩:=hx i (by omega)
   obtain ⟨y,e,_⟩:=DataW.trod_int Tryz.underlying3 ht
   simp at e
   exact ⟨y,by rw [hc,e]⟩
  obtain ⟨Y,hY⟩:=choose_lt (α:=Int) (p:=fun i y=>W.cell? (a.add i)=some (.int .i64 y)) hy
  refine ⟨_,(List.range len).map Y,rfl,⟨some a,m,by simp,fun i hi=>?_⟩,by simp;omega⟩
  have hi':i < len:=by simpa using hi
  have ha:a=⟨a.block,a.off,none⟩:=spot_none (by simpa [Addr.add] using hY 0 (by omega))
  refine ⟨a.block,a.off,by rw [<- ha],?_⟩
  have e:((List.range len).map Y)[i]! = Y i:=by rw [getElem!_pos _ i hi];simp
  rw [e]
  have:=hY i hi'
  rwa [ha,Addr.add_lit] at this
theorem open_ints {H:Type} {enc:TypeId × Value->H} {W:World} {b0:Nat} {r:Reach} {v:Value} {d:DataW H} {p:List MemPlace}
  (hv':Value.okWide Tryz.prog W r b0 26 v) (h:DataW.Trod enc Tryz.prog W 0 (fun _=>true) true 26 v d p):∃ l,RdI W v l/\l.length<=maxLen:=by
 obtain ⟨a0,len,cap,rfl⟩:=okWide_slice Tryz.underlying26 hv'
 obtain ⟨fuel,hf⟩:=h
 obtain ⟨v,l,e,hr⟩:=trod22 (by simpa [Value.cells] using hf)
 cases e
 exact ⟨l,hr⟩
end Go.Proofs.YtcipdampcmfmaabGreat

namespace Go.Proofs.YtcipdampcmfmaabGreat
open Go.RowKit Go.Sort Go.Maps
theorem ins_at (x:Tk.Ht):∀ (l:List Tk.Ht) (q:Nat),(∀ i,i < q->Tk.hlt x l[i]! = false)->q<=l.length->(q < l.length->Tk.hlt x l[q]! = true)->Tk.ins x l=l.take q ++ x :: l.drop q
 | [],q,_,hq,_=>by
  obtain rfl:q=0:=by simpa using hq
  rfl
 | y :: r,0,_,_,h=>by
  have:=h (by simp)
  simp only [List.getElem!_cons_zero] at this
  unfold Tk.ins
  rw [if_pos this];rfl
 | y :: r,q + 1,h1,h2,h3=>by
  have h0:=h1 0 (by omega)
  simp only [List.getElem!_cons_zero] at h0
  unfold Tk.ins
  rw [if_neg (by rw [h0];simp),ins_at x r q (fun i hi=>by have:=h1 (i + 1) (by omega);simpa using this) (by simpa using h2) (fun hq=>by have:=h3 (by simpa using hq);simpa using this)]
  rfl
structure H3 (W:World) (b:Nat) (x:Tk.Ht):Prop where
 c0:W.cell? ⟨b,0,none⟩=some (.int .i64 x.1)
 c1:W.cell? ⟨b,1,none⟩=some (.int .u64 x.2.1)
 c2:W.cell? ⟨b,2,none⟩=some (.int .u64 x.2.2)
theorem H3.gb {W W':World} {b:Nat} {x:Tk.Ht} (h:H3 W b x) (g:Gb W W'):H3 W' b x:=⟨gb_keeps g h.c0,gb_keeps g h.c1,gb_keeps g h.c2⟩
theorem H3.new (W:World) (x:Tk.Ht) (t:TypeId):H3 (W.alloc (.cells #[.int .i64 x.1,.int .u64 x.2.1,.int .u64 x.2.2] t)) W.heap.size x:=⟨by simp [go_sem],by simp [go_sem],by simp [go_sem]⟩
theorem H3.block {W W':World} {b:Nat} {x:Tk.Ht} (h:H3 W b x) (e:W'.heap[b]? = W.heap[b]?):H3 W' b x :=
 ⟨(World.cell?_of_block (a:=⟨b,0,none⟩) e).trans h.c0,(World.cell?_of_block (a:=⟨b,1,none⟩) e).trans h.c1,(World.cell?_of_block (a:=⟨b,2,none⟩) e).trans h.c2⟩
structure Hs (w W:World) (a b:Addr) (u v:Value):Prop where
 gb:Gb w W
 ca:W.cell? a=some u
 cb:W.cell? b=some v
 la:a.block < w.heap.size
 lb:b.block < w.heap.size
theorem Hs.gr {w W W':World} {a b:Addr} {u v:Value} (h:Hs w W a b u v) (g:Gb W W'):Hs w W' a b u v:=⟨gb_trans h.gb g,gb_keeps g h.ca,gb_keeps g h.cb,h.la,h.lb⟩
theorem Hs.set {w W:World} {a b:Addr} {u v:Value} {B:Nat} (h:Hs w W a b u v) (hB:w.heap.size<=B) (x y z:Value):Hs w (((W.setCell ⟨B,0,none⟩ x).setCell ⟨B,1,none⟩ y).setCell ⟨B,2,none⟩ z) a b u v:=by
 have far:∀ {p:Addr} {q:Value},p.block ≠ B->W.cell? p=some q->(((W.setCell ⟨B,0,none⟩ x).setCell ⟨B,1,none⟩ y).setCell ⟨B,2,none⟩ z).cell? p=some q:=fun {p q} hp hc=>by
  refine (World.cell?_of_block (Below.heap_setCell _ _ _ _ (by dsimp only;exact hp))).trans ?_
  refine (World.cell?_of_block (Below.heap_setCell _ _ _ _ (by dsimp only;exact hp))).trans ?_
  exact (World.cell?_of_block (Below.heap_setCell _ _ _ _ (by dsimp only;exact hp))).trans hc
 have ha:=h.la
 have hb:=h.lb
 exact ⟨gb_set (gb_set (gb_set h.gb (by dsimp only;exact hB) _) (by dsimp only;exact hB) _) (by dsimp only;exact hB) _,far (by omega) h.ca,far (by omega) h.cb,h.la,h.lb⟩
structure Lay (w W:World) (g n cap Bh k:Nat) (L:List Tk.Ht) (x:Tk.Ht):Prop where
 arr:∃ f,HA W g (n + 1) cap f/\(∀ t,t < k->f t=L[t]!)/\∀ t,k < t->t<=n->f t=L[t - 1]!
 box:H3 W Bh x
 gb:Gb w W
 hg:w.heap.size<=g
 ne:Bh ≠ g
 more:∀ t,k<=t->t < n->Tk.hlt x L[t]! = true
theorem Lay.gr {w W W':World} {g n cap Bh k:Nat} {L:List Tk.Ht} {x:Tk.Ht} (h:Lay w W g n cap Bh k L x) (g':Gb W W'):Lay w W' g n cap Bh k L x:=by
 obtain ⟨f,h1,h2⟩:=h.arr
 exact ⟨⟨f,h1.block (g'.block _ h1.lt),h2⟩,h.box.gb g',gb_trans h.gb g',h.hg,h.ne,h.more⟩
theorem three_gb {g:Nat} {w W:World} (h:Gb w W) (hg:w.heap.size<=g) (o1 o2 o3:Nat) (x y z:Value):Gb w (((W.setCell ⟨g,o1,none⟩ x).setCell ⟨g,o2,none⟩ y).setCell ⟨g,o3,none⟩ z) :=
 gb_set (gb_set (gb_set h (by dsimp only;exact hg) _) (by dsimp only;exact hg) _) (by dsimp only;exact hg) _
theorem three_far {g b:Nat} {W:World} (hn:b ≠ g) (o1 o2 o3:Nat) (x y z:Value):(((W.setCell ⟨g,o1,none⟩ x).setCell ⟨g,o2,none⟩ y).setCell ⟨g,o3,none⟩ z).heap[b]? = W.heap[b]? :=
 (Below.heap_setCell _ _ _ _ (by dsimp only;exact hn)).trans ((Below.heap_setCell _ _ _ _ (by dsimp only;exact hn)).trans (Below.heap_setCell _ _ _ _ (by dsimp only;exact hn)))
theorem Lay.down {w W:World} {g n cap Bh k:Nat} {L:List Tk.Ht} {x:Tk.Ht} (h:Lay w W g n cap Bh (k + 1) L x) (hk:k + 1<=n) (hx:Tk.hlt x L[k]! = true) :
  Lay w (((W.setCell ⟨g,(k + 1) * 3,none⟩ (.int .i64 L[k]!.1)).setCell ⟨g,(k + 1) * 3 + 1,none⟩ (.int .u64 L[k]!.2.1)).setCell ⟨g,(k + 1) * 3 + 2,none⟩ (.int .u64 L[k]!.2.2)) g n cap Bh k L x:=by
 obtain ⟨f,h1,h2,h3⟩:=h.arr
 refine ⟨⟨_,h1.set (i:=k + 1) (by omega) L[k]!,fun t ht=>?_,fun t ht1 ht2=>?_⟩,h.box.block (three_far h.ne _ _ _ _ _ _),three_gb h.gb h.hg _ _ _ _ _ _,h.hg,h.ne,fun t ht1 ht2=>?_⟩
 ·rw [if_neg (by omega)];exact h2 t (by omega)
 ·by_cases e:t=k + 1
  ·subst e;rw [if_pos rfl];rfl
  ·rw [if_neg e];exact h3 t (by omega) ht2
 ·by_cases e:t=k
  ·subst e;exact hx
  ·exact h.more t (by omega) ht2
theorem Lay.done {w W:World} {g n cap Bh k:Nat} {L:List Tk.Ht} {x:Tk.Ht} (h:Lay w W g n cap Bh k L x) (hk:k<=n) (hn:L.length=n) (hS:Tk.Srtd L) (hx:k=0 ∨ Tk.hlt x L[k - 1]! = false) :
  OutH w (((W.setCell ⟨g,k * 3,none⟩ (.int .i64 x.1)).setCell ⟨g,k * 3 + 1,none⟩ (.int .u64 x.2.1)).setCell ⟨g,k * 3 + 2,none⟩ (.int .u64 x.2.2)) (.slice (some ⟨g,0,none⟩) (n + 1) cap) (Tk.ins x L):=by
 obtain ⟨f,h1,h2,h3⟩:=h.arr
 have hahead:∀ i,i < k->Tk.hlt x L[i]! = false:=fun i hi=>by
  rcases hx with e | e
  ·omega
  ·by_cases e2:i=k - 1
   ·rw [e2];exact e
   ·have:=List.pairwise_iff_getElem.1 hS i (k - 1) (by omega) (by omega) (by omega)
    rw [<- getElem!_pos L i (by omega),<- getElem!_pos L (k - 1) (by omega)] at this
    exact Tk.hlt_ntrans e this
 have hins:=ins_at x L k hahead (by omega) (fun hq=>h.more k (Nat.le_refl _) (by omega))
 have hl:(Tk.ins x L).length=n + 1:=by rw [Tk.ins_len,hn]
 refine ⟨?_,three_gb h.gb h.hg _ _ _ _ _ _,fun b e=>by cases e;exact h.hg⟩
 have h4:=h1.set (i:=k) (by omega) x
 rw [<- hl] at h4 ⊢
 refine own_of_ha h4 (fun i hi=>?_)
 rw [getElem!_pos (Tk.ins x L) i hi]
 have:∀ (M:List Tk.Ht) (hM:M=Tk.ins x L) (hi':i < M.length),(Tk.ins x L)[i]=M[i]:=fun M hM _=>by subst hM;rfl
 rw [this _ hins.symm (by rw [<- hins];exact hi)]
 by_cases e:i=k
 ·subst e;rw [if_pos rfl,List.getElem_append_right (by rw [List.length_take];omega)]
  simp only [List.length_take]
  rw [List.getElem_cons]
  simp
  omega
 ·rw [if_neg e]
  by_cases e2:i < k
  ·rw [h2 i e2,List.getElem_append_left (by rw [List.length_take];omega),List.getElem_take,getElem!_pos L i (by omega)]
  ·rw [h3 i (by omega) (by omega),List.getElem_append_right (by rw [List.length_take];omega)]
   rw [getElem!_pos L (i - 1) (by omega)]
   rw [List.getElem_cons]
   have e3:¬ (i - (List.take k L).length=0):=by rw [List.length_take];omega
   rw [dif_neg e3,List.getElem_drop]
   congr 1
   rw [List.length_take];omega
end Go.Proofs.YtcipdampcmfmaabGreat

namespace Go.Proofs.YtcipdampcmfmaabGreat
open Go.RowKit Go.Sort
structure Ans where
 hits:List Tk.Ht
 seen:List Int
 rest:List Reg
structure RdA (w:World) (vh vs vr:Value) (a:Ans):Prop where
 hits:Tk.Rd w vh a.hits
 seen:RdI w vs a.seen
 rest:RdL w vr a.rest
theorem RdA.gb {w w':World} {vh vs vr:Value} {a:Ans} (h:RdA w vh vs vr a) (g:Gb w w'):RdA w' vh vs vr a:=⟨h.hits.gr g,h.seen.gb g,h.rest.gb g⟩
def allIds (a:Ans):List Int:=a.seen ++ a.rest.flatMap (·.I)
structure SoundP (rs:List Rw) (q:List Int) (k:Nat) (a:Ans) (srs:List Rw):Prop where
 ids:idsOf srs=a.seen
 mem:∀ r ∈ srs,r ∈ rs
 rise:∀ i,i + 1 < a.seen.length->a.seen[i]! < a.seen[i + 1]!
 reg:∀ r ∈ a.rest,ckR r (q.length:Int)=0/\r.I ≠ []/\r.R < 340282366920938463463374607431768211456/\∀ x ∈ r.I,∃ row ∈ rs,row.1=x/\inV r row.2=true
 hits:a.hits=Tk.firsts k (hitsOf q srs)
 all:(allIds a).Perm (idsOf rs)
end Go.Proofs.YtcipdampcmfmaabGreat

namespace Go.Proofs.YtcipdampcmfmaabGreat
open Go.RowKit
theorem rnear_c {w:World} {v u:Value} {r:Reg} {a:List Int} (hv:RdR w v r) (hu:RdI w u a) (h0:ckB r a=0) (hR:r.R < 340282366920938463463374607431768211456) :
  Calls Tryz.prog 44 #[v,u] w fun e w'=>e=.returned (Wd (bdV r a))/\Gr w w':=by
 by_cases s2:r.S=2
 ·exact rnear_box hv hu h0 s2
 by_cases s3:r.S=3
 ·exact rnear_ball hv hu h0 hR s3
 ·exact rnear_all hv hu s2 s3
end Go.Proofs.YtcipdampcmfmaabGreat

namespace Go.Proofs.YtcipdampcmfmaabGreat
open Go.RowKit Go.Sort
theorem symR {g o cap bf:Nat} {c lt:El->El->Prop} (ht:∀ x y z,lt x y->lt y z->lt x z):∀ (N a m b:Nat) (l:List El) (w:World),b - a<=N->a < m->m < b->b<=l.length->l.length<=4000->SRA w g o l->PreM c lt l a m b->CmpR w g bf l c ->
  Calls Tryz.prog 160 #[.slice (some ⟨g,o,none⟩) l.length cap,.int .i64 (a:Int),.int .i64 (m:Int),.int .i64 (b:Int),.func (.func 79) #[] #[.pointer (some ⟨bf,0,none⟩)]] w fun e w'=>e=.returned (.tuple #[])/\∃ l',Seg l l' a b/\Ri lt l' a b/\SRA w' g o l'/\Tk.Kp (fun k=>k=g) w w'
 | 0,a,m,b,l,w,h0,h1,h2,_,_,_,_,_=>by omega
 | N + 1,a,m,b,l,w,h0,h1,h2,hb,hl,hI,hP,hC=>by
  by_cases e1:m=a + 1
  ·exact symR_one ht hI hl hb hP hC e1 h2
  ·by_cases e2:b=m + 1
   ·exact symR_last ht hI hl hb hP hC e2 (by omega)
   ·have RE:Hid (∀ (a' m' b':Nat) (l':List El) (W:World),b' - a' < b - a->a' < m'->m' < b'->b'<=l.length->l'.length=l.length->SRA W g o l'->PreM c lt l' a' m' b'->CmpR W g bf l' c->Calls Tryz.prog 160 #[.slice (some ⟨g,o,none⟩) l.length cap,.int .i64 (a':Int),.int .i64 (m':Int),.int .i64 (b':Int),.func (.func 79) #[] #[.pointer (some ⟨bf,0,none⟩)]] W fun e w'=>e=.returned (.tuple #[])/\∃ l2,Seg l' l2 a' b'/\Ri lt l2 a' b'/\SRA w' g o l2/\Tk.Kp (fun k=>k=g) W w'):=by
     intro a' m' b' l' W q1 q2 q3 q4 q5 q6 q7 q8
     have:=symR (cap:=cap) ht N a' m' b' l' W (by omega) q2 q3 (by omega) (by omega) q6 q7 q8
     rw [q5] at this
     exact this
    by_cases e3:(a + b) / 2 < m
    ·exact symR_cutA ht hI hl hb hP hC (by omega) (by omega) rfl e3 RE
    ·exact symR_cutB ht hI hl hb hP hC (by omega) (by omega) rfl e3 RE
def TagR (c lt:El->El->Prop) (l:List El) (a b:Nat):Prop:=∀ i j,a<=i->i < j->j < b->(c l[j]! l[i]! ↔ lt l[j]! l[i]!)/\(lt l[i]! l[j]! ∨ lt l[j]! l[i]!)
structure InsR (c lt:El->El->Prop) (l l1:List El) (a i j:Nat):Prop where
 seg:Seg l l1 a (i + 1)
 lo:Ri lt l1 a j
 hi:Ri lt l1 j (i + 1)
 crs:∀ x y,a<=x->x < j->j < y->y < i + 1->lt l1[x]! l1[y]!
 tag:∀ x,a<=x->x < j->(c l1[j]! l1[x]! ↔ lt l1[j]! l1[x]!)/\(lt l1[x]! l1[j]! ∨ lt l1[j]! l1[x]!)
theorem InsR.down {c lt:El->El->Prop} {l l1:List El} {a i j:Nat} (h:InsR c lt l l1 a i j) (haj:a < j) (hji:j<=i) (hil:i < l.length) (hlt:lt l1[j]! l1[j - 1]!):InsR c lt l (sws l1 j (j - 1)) a i (j - 1):=by
 have hl:=h.seg.len
 have g:=fun k=>sws_get l1 j (j - 1) k (by omega) (by omega)
 refine ⟨h.seg.sws ⟨by omega,by omega⟩ ⟨by omega,by omega⟩ (by omega),fun x y h1 h2 h3=>?_,fun x y h1 h2 h3=>?_,fun x y h1 h2 h3 h4=>?_,fun x h1 h2=>?_⟩
 ·rw [g,g,if_neg (by omega),if_neg (by omega),if_neg (by omega),if_neg (by omega)]
  exact h.lo x y h1 h2 (by omega)
 ·rw [g,g]
  by_cases hx:x=j - 1
  ·rw [if_pos hx,if_neg (by omega)]
   by_cases hy:y=j
   ·rw [if_pos hy];exact hlt
   ·rw [if_neg hy];exact h.hi j y (Nat.le_refl _) (by omega) h3
  ·rw [if_neg hx,if_neg (show ¬ y=j - 1 by omega),if_neg (show ¬ y=j by omega)]
   by_cases hxj:x=j
   ·rw [if_pos hxj];exact h.crs (j - 1) y (by omega) (by omega) (by omega) h3
   ·rw [if_neg hxj];exact h.hi x y (by omega) h2 h3
 ·rw [g,g,if_neg (by omega),if_neg (by omega),if_neg (by omega)]
  by_cases hyj:y=j
  ·rw [if_pos hyj];exact h.lo x (j - 1) h1 h2 (by omega)
  ·rw [if_neg hyj];exact h.crs x y h1 (by omega) (by omega) h4
 ·rw [g,g,if_pos rfl,if_neg (by omega),if_neg (by omega)]
  exact h.tag x h1 (by omega)
theorem InsR.fin {c lt:El->El->Prop} (ht:∀ x y z,lt x y->lt y z->lt x z) {l l1:List El} {a i j:Nat} (h:InsR c lt l l1 a i j) (haj:a<=j) (hji:j<=i) (hd:j=a ∨ ¬ c l1[j]! l1[j - 1]!):Ri lt l1 a (i + 1):=by
 refine ri_join lt h.lo h.hi (fun x y h1 h2 h3 h4=>?_)
 by_cases hy:y=j
 ·subst hy
  have q:=h.tag (y - 1) (by omega) (by omega)
  have n:¬ lt l1[y]! l1[y - 1]! := fun e=>by
   rcases hd with hd | hd
   ·omega
   ·exact hd (q.1.2 e)
  exact ri_trans lt ht h.lo h1 (show x<=y - 1 by omega) (by omega) (q.2.resolve_right n)
 ·exact h.crs x y h1 h2 (by omega) h4
theorem InsR.start {c lt:El->El->Prop} {l:List El} {a b i:Nat} (hr:Ri lt l a i) (ht:TagR c lt l a b) (hib:i < b) (_hai:a<=i):InsR c lt l l a i i :=
 ⟨Seg.refl _ _ _,hr,fun x y h1 h2 h3=>by omega,fun x y h1 h2 h3 h4=>by omega,fun x h1 h2=>ht x i h1 h2 hib⟩
end Go.Proofs.YtcipdampcmfmaabGreat

namespace Go.Proofs.YtcipdampcmfmaabGreat
open Go.RowKit Go.Sort
set_option maxRecDepth 100000
set_option maxHeartbeats 8000000
theorem tag_nextR {c lt:El->El->Prop} {l l1:List El} {a b i:Nat} (h:TagR c lt l a b) (hs:Seg l l1 a i) (hr:Ri lt l1 a i) (hai:a<=i) (hib:i < b) (hb:b<=l.length):InsR c lt l1 l1 a i i:=by
 refine ⟨Seg.refl _ _ _,hr,fun x y h1 h2 h3=>by omega,fun x y h1 h2 h3 h4=>by omega,fun x h1 h2=>?_⟩
 obtain ⟨y,hy,e⟩:=hs.mem hai (by omega) (i:=x) ⟨h1,h2⟩
 rw [e,hs.out i (Or.inr (Nat.le_refl _))]
 exact h y i hy.1 hy.2 hib
theorem insR {w:World} {g o cap bf a b:Nat} {l:List El} {c lt:El->El->Prop} (ht:∀ x y z,lt x y->lt y z->lt x z) (h:SRA w g o l) (hl:l.length<=4000) (hab:a<=b) (hb:b<=l.length) (hT:TagR c lt l a b) (hc:CmpR w g bf l c) :
  Calls Tryz.prog 97 #[.slice (some ⟨g,o,none⟩) l.length cap,.int .i64 (a:Int),.int .i64 (b:Int),.func (.func 79) #[] #[.pointer (some ⟨bf,0,none⟩)]] w fun e w'=>e=.returned (.tuple #[])/\∃ l',Seg l l' a b/\Ri lt l' a b/\SRA w' g o l'/\Tk.Kp (fun k=>k=g) w w':=by
 have H0:Hid (SRA w g o l):=h
 have CC:Hid (CmpR w g bf l c):=hc
 have PM:Hid (TagR c lt l a b/\∀ x y z,lt x y->lt y z->lt x z):=⟨hT,ht⟩
 clear h hc hT ht
 go_enter Tryz.func97,Tryz.ntmps97
 go_wp2
 go_loopw [8] (fun iv W0=>∃ (W:World) (_:W=W0) (i:Nat) (l1:List El),iv=.int .i64 (i:Int)/\a + 1<=i/\(i<=b ∨ (i=a + 1/\l1=l))/\Hid (Seg l l1 a i/\Ri lt l1 a i/\SRA W g o l1/\Tk.Kp (fun k=>k=g) w W)) (fun iv _=>b - (intOf iv).toNat)
 case atStart=>exact ⟨_,rfl,a + 1,l,by go_num,Nat.le_refl _,Or.inr ⟨rfl,rfl⟩,Seg.refl _ _ _,fun x y h1 h2 h3=>by omega,H0.out,Tk.Kp.refl _ _⟩
 case round =>
  obtain ⟨W0,hW0,i,l1,rfl,hai,hib,X⟩:=hrel
  subst hW0
  by_cases hi:i < b
  ·have hii:(i:Int) < (b:Int):=by omega
   have hl1:Hid (l1.length=l.length):=X.out.1.len
   have I0:Hid (InsR c lt l1 l1 a i i):=tag_nextR PM.out.1 X.out.1 X.out.2.1 (by omega) hi hb
   go_wp2
   go_loopw [9] (fun jv W1=>∃ (W:World) (_:W=W1) (j:Nat) (l2:List El),jv=.int .i64 (j:Int)/\a<=j/\j<=i/\Hid (InsR c lt l1 l2 a i j/\SRA W g o l2/\Tk.Kp (fun k=>k=g) w W)) (fun jv _=>(intOf jv).toNat)
   case atStart=>exact ⟨_,rfl,i,l1,rfl,by omega,Nat.le_refl _,I0.out,X.out.2.2.1,X.out.2.2.2⟩
   case round =>
    obtain ⟨W,hW,j,l2,rfl,haj,hji,Y⟩:=hrel
    subst hW
    have DN:Hid (∀ (W2:World),Tk.Gw W W2->(j=a ∨ ¬ c l2[j]! l2[j - 1]!)->Seg l l2 a (i + 1)/\Ri lt l2 a (i + 1)/\SRA W2 g o l2/\Tk.Kp (fun k=>k=g) w W2):=fun W2 hg hd =>
     ⟨(X.out.1.mono (Nat.le_refl _) (Nat.le_succ _)).trans Y.out.1.seg,Y.out.1.fin PM.out.2 haj hji hd,Y.out.2.1.same (hg.gr.block _ Y.out.2.1.lt),Y.out.2.2.trans (Tk.Kp.of_gr hg.gr)⟩
    by_cases hja:a < j
    ·obtain ⟨k,hjk⟩:∃ k,k + 1=j:=⟨j - 1,by omega⟩
     have ek:(j:Int) - 1=(k:Int):=by omega
     have haji:(a:Int) < (j:Int):=by omega
     have hl2:l2.length=l.length:=Y.out.1.seg.len.trans hl1.out
     have k1:(j:Int) < (l.length:Int):=by omega
     have k2:(k:Int) < (l.length:Int):=by omega
     have wk:IntKind.i64.wrap (k:Int)=(k:Int):=wrap_small (by omega)
     obtain ⟨x,y,⟨c1,c1b⟩,⟨c2,c2b⟩,E1,E2,XL⟩:∃ x y:El,(W.cell? ⟨g,o + j * 2,none⟩=some (.int .i64 x.1)/\W.cell? ⟨g,o + j * 2 + 1,none⟩=some (sl x))/\(W.cell? ⟨g,o + k * 2,none⟩=some (.int .i64 y.1)/\W.cell? ⟨g,o + k * 2 + 1,none⟩=some (sl y))/\Hid (x ∈ l)/\Hid (y ∈ l)/\Hid (∀ z:Int,(z < 0 ↔ c x y)->(z < 0->InsR c lt l1 (sws l2 j k) a i k/\∀ W2,Tk.Gw W W2->SRA ((((W2.setCell ⟨g,o + j * 2,none⟩ (.int .i64 y.1)).setCell ⟨g,o + j * 2 + 1,none⟩ (sl y)).setCell ⟨g,o + k * 2,none⟩ (.int .i64 x.1)).setCell ⟨g,o + k * 2 + 1,none⟩ (sl x)) g o (sws l2 j k))/\(¬ z < 0->¬ c l2[j]! l2[j - 1]!)):=by
      have hm:∀ t,t < l2.length->l2[t]! ∈ l:=fun t ht=>X.out.1.perm.mem_iff.1 (Y.out.1.seg.perm.mem_iff.1 (get_memR ht))
      refine ⟨l2[j]!,l2[k]!,Y.out.2.1.cell (by omega),Y.out.2.1.cell (by omega),hm j (by omega),hm k (by omega),fun z hz=>⟨fun h=>⟨?_,fun W2 hg=>(Y.out.2.1.same (hg.gr.block _ Y.out.2.1.lt)).sws (by omega) (by omega)⟩,fun h h'=>h (hz.2 (by rw [show j - 1=k by omega] at h';exact h'))⟩⟩
      have hlt:lt l2[j]! l2[j - 1]! := (Y.out.1.tag (j - 1) (by omega) (by omega)).1.1 (by rw [show j - 1=k by omega];exact hz.1 h)
      have q:=Y.out.1.down hja hji (by have:=hl1.out;omega) hlt
      rw [show j - 1=k by omega] at q
      exact q
     have KW:Hid (Tk.Kp (fun k=>k=g) w W):=Y.out.2.2
     obtain ⟨x1,x2,x3,x4⟩:=x
     obtain ⟨y1,y2,y3,y4⟩:=y
     simp only [sl] at c1 c1b c2 c2b
     have F1:Hid (∀ W2,Tk.Gw W W2->W2.frozen? ⟨g,o + j * 2,none⟩=false/\W2.frozen? ⟨g,o + j * 2 + 1,none⟩=false/\W2.frozen? ⟨g,o + k * 2,none⟩=false/\W2.frozen? ⟨g,o + k * 2 + 1,none⟩=false/\W2.cell? ⟨g,o + j * 2,none⟩=some (.int .i64 x1)/\W2.cell? ⟨g,o + j * 2 + 1,none⟩=some (.slice x2 x3 x4)/\W2.cell? ⟨g,o + k * 2,none⟩=some (.int .i64 y1)/\W2.cell? ⟨g,o + k * 2 + 1,none⟩=some (.slice y2 y3 y4)/\g < W2.heap.size):=fun W2 hg=>by
      have q:=Y.out.2.1.same (hg.gr.block _ Y.out.2.1.lt)
      exact ⟨q.froz _,q.froz _,q.froz _,q.froz _,gwk hg c1,gwk hg c1b,gwk hg c2,gwk hg c2b,q.lt⟩
     have hne:j ≠ k:=by omega
     have JK:Hid (k + 1=j):=hjk
     clear hl2 hjk
     go_wp2
     refine wp_region_held_drew (S:=fun W2=>Tk.Gw W W2) (by kernel_rfl) ((Tk.Gw.refl W).drew) (fun hHeld=>?_)
     refine tkn 0 ?_ rfl ?_ ?_;rotate_left;·(intro w hSw;(have s1:=gwk hSw c1;have s2:=gwk hSw c2;have s3:=gwk hSw c1b;have s4:=gwk hSw c2b);go_simp;try rfl)
     try simp only [pt]
     refine tkn 1 ?_ rfl ?_ ?_;rotate_left;·(intro w hSw;(have s1:=gwk hSw c1;have s2:=gwk hSw c2;have s3:=gwk hSw c1b;have s4:=gwk hSw c2b);go_simp;try rfl)
     try simp only [pt]
     refine tkn 2 ?_ rfl ?_ ?_;rotate_left;·(intro w hSw;(have s1:=gwk hSw c1;have s2:=gwk hSw c2;have s3:=gwk hSw c1b;have s4:=gwk hSw c2b);go_simp;try rfl)
     try simp only [pt]
     refine tkn 3 ?_ rfl ?_ ?_;rotate_left;·(intro w hSw;(have s1:=gwk hSw c1;have s2:=gwk hSw c2;have s3:=gwk hSw c1b;have s4:=gwk hSw c2b);go_simp;try rfl)
     try simp only [pt]
     refine tkn 4 ?_ rfl ?_ ?_;rotate_left;·(intro w hSw;(have s1:=gwk hSw c1;have s2:=gwk hSw c2;have s3:=gwk hSw c1b;have s4:=gwk hSw c2b);go_simp;try rfl)
     try simp only [pt]
     refine tkn 5 ?_ rfl ?_ ?_;rotate_left;·(intro w hSw;(have s1:=gwk hSw c1;have s2:=gwk hSw c2;have s3:=gwk hSw c1b;have s4:=gwk hSw c2b);go_simp;try rfl)
     try simp only [pt]
     refine tkn 6 ?_ rfl ?_ ?_;rotate_left;·(intro w hSw;(have s1:=gwk hSw c1;have s2:=gwk hSw c2;have s3:=gwk hSw c1b;have s4:=gwk hSw c2b);go_simp;try rfl)
     try simp only [pt]
     refine tkn 7 ?_ rfl ?_ ?_;rotate_left;·(intro w hSw;(have s1:=gwk hSw c1;have s2:=gwk hSw c2;have s3:=gwk hSw c1b;have s4:=gwk hSw c2b);go_simp;try rfl)
     try simp only [pt]
     refine tkn 8 ?_ rfl ?_ ?_;rotate_left;·(intro w hSw;(have s1:=gwk hSw c1;have s2:=gwk hSw c2;have s3:=gwk hSw c1b;have s4:=gwk hSw c2b);go_simp;try rfl)
     try simp only [pt]
     refine tkn 9 ?_ rfl ?_ ?_;rotate_left;·(intro w hSw;(have s1:=gwk hSw c1;have s2:=gwk hSw c2;have s3:=gwk hSw c1b;have s4:=gwk hSw c2b);go_simp;try rfl)
     try simp only [pt]
     refine tkn 10 ?_ rfl ?_ ?_;rotate_left;·(intro w hSw;(have s1:=gwk hSw c1;have s2:=gwk hSw c2;have s3:=gwk hSw c1b;have s4:=gwk hSw c2b);go_simp;try rfl)
     try simp only [pt]
     refine tkn 11 ?_ rfl ?_ ?_;rotate_left;·(intro w hSw;(have s1:=gwk hSw c1;have s2:=gwk hSw c2;have s3:=gwk hSw c1b;have s4:=gwk hSw c2b);go_simp;try rfl)
     try simp only [pt]
     refine tkn 12 ?_ rfl ?_ ?_;rotate_left;·(intro w hSw;(have s1:=gwk hSw c1;have s2:=gwk hSw c2;have s3:=gwk hSw c1b;have s4:=gwk hSw c2b);go_simp;try rfl)
     try simp only [pt]
     refine tkn 13 ?_ rfl ?_ ?_;rotate_left;·(intro w hSw;(have s1:=gwk hSw c1;have s2:=gwk hSw c2;have s3:=gwk hSw c1b;have s4:=gwk hSw c2b);go_simp;try rfl)
     try simp only [pt]
     refine rdn 14 rfl (fun K hK=>?_)
     go_simp
     refine (CC.out _ (KW.out.trans (Tk.Kp.of_gr hHeld.gr)) _ _ E1.out E2.out).mono ?_
     rintro e wa ⟨z,rfl,hz,ga⟩
     refine hK.out _ _ (hHeld.trans ga) (fun hHeld=>?_)
     clear hK K
     try simp only [pt]
     refine tkn 15 ?_ rfl ?_ ?_;rotate_left;·(intro w hSw;(have s1:=gwk hSw c1;have s2:=gwk hSw c2;have s3:=gwk hSw c1b;have s4:=gwk hSw c2b);go_simp;try rfl)
     try simp only [pt]
     refine tkn 16 ?_ rfl ?_ ?_;rotate_left;·(intro w hSw;(have s1:=gwk hSw c1;have s2:=gwk hSw c2;have s3:=gwk hSw c1b;have s4:=gwk hSw c2b);go_simp;try rfl)
     try simp only [pt]
     refine wpAnyH_done (by kernel_rfl) ?_ _
     have XZ:Hid _:=XL.out z hz
     obtain ⟨f1,f1b,f2,f2b,c3,c3b,c4,c4b,lt4⟩:=F1.out _ hHeld
     clear hz XL F1
     by_cases hz0:z < 0
     ·have N:=(XZ.out.1 hz0).1
      have N':Hid (InsR c lt l1 (sws l2 j k) a i k):=N
      have M:Hid (SRA ((((wa.setCell ⟨g,o + j * 2,none⟩ (.int .i64 y1)).setCell ⟨g,o + j * 2 + 1,none⟩ (.slice y2 y3 y4)).setCell ⟨g,o + k * 2,none⟩ (.int .i64 x1)).setCell ⟨g,o + k * 2 + 1,none⟩ (.slice x2 x3 x4)) g o (sws l2 j k)):=(XZ.out.1 hz0).2 _ hHeld
      clear N XZ
      go_wp2
      go_region
      go_wp2
      go_roundw
      case rel=>exact ⟨_,rfl,k,sws l2 j k,rfl,by have:=JK.out;omega,by have:=JK.out;omega,N'.out,M.out.same rfl,KW.out.trans ((Tk.Kp.of_gr hHeld.gr).trans (kp_swr _ g _ _ _ _ _ _ _ _))⟩
      case measure=>have:=JK.out;simp [intOf];omega
     ·have D:=DN.out _ hHeld (Or.inr (XZ.out.2 (by omega)))
      have D':Hid _:=D
      clear D XZ
      go_wp2
      go_roundw
      case rel=>exact ⟨_,rfl,i + 1,l2,by go_num,by omega,Or.inl hi,D'.out⟩
      case measure=>simp [intOf];omega
    ·obtain rfl:j=a:=by omega
     have haji:¬ (j:Int) < (j:Int):=by omega
     have JA:Hid (∀ W2,Tk.Gw W W2->Seg l l2 j (i + 1)/\Ri lt l2 j (i + 1)/\SRA W2 g o l2/\Tk.Kp (fun k=>k=g) w W2):=fun W2 hg=>DN.out W2 hg (Or.inl rfl)
     clear DN Y I0 X
     go_wp2
     refine wp_region_held_drew (S:=fun W2=>Tk.Gw W W2) (by kernel_rfl) ((Tk.Gw.refl W).drew) (fun hHeld=>?_)
     refine tkn 0 ?_ rfl ?_ ?_;rotate_left;·(intro w hSw;(try dsimp only at hSw);go_simp;try rfl)
     try simp only [pt]
     refine tkn 1 ?_ rfl ?_ ?_;rotate_left;·(intro w hSw;(try dsimp only at hSw);go_simp;try rfl)
     try simp only [pt]
     refine tkn 2 ?_ rfl ?_ ?_;rotate_left;·(intro w hSw;(try dsimp only at hSw);go_simp;try rfl)
     try simp only [pt]
     refine tkn 3 ?_ rfl ?_ ?_;rotate_left;·(intro w hSw;(try dsimp only at hSw);go_simp;try rfl)
     try simp only [pt]
     refine wpAnyH_take (i:=4) (v:=undef) rfl (by kernel_rfl) (by kernel_rfl) (by kernel_rfl) (fun _ _ _ h=>h) (Or.inr ⟨by rfl,rfl⟩) (by assumption) ?_
     try simp only [pt]
     refine wpAnyH_take (i:=5) (v:=undef) rfl (by kernel_rfl) (by kernel_rfl) (by kernel_rfl) (fun _ _ _ h=>h) (Or.inr ⟨by rfl,rfl⟩) (by assumption) ?_
     try simp only [pt]
     refine wpAnyH_take (i:=6) (v:=undef) rfl (by kernel_rfl) (by kernel_rfl) (by kernel_rfl) (fun _ _ _ h=>h) (Or.inr ⟨by rfl,rfl⟩) (by assumption) ?_
     try simp only [pt]
     refine wpAnyH_take (i:=7) (v:=undef) rfl (by kernel_rfl) (by kernel_rfl) (by kernel_rfl) (fun _ _ _ h=>h) (Or.inr ⟨by rfl,rfl⟩) (by assumption) ?_
     try simp only [pt]
     refine wpAnyH_take (i:=8) (v:=undef) rfl (by kernel_rfl) (by kernel_rfl) (by kernel_rfl) (fun _ _ _ h=>h) (Or.inr ⟨by rfl,rfl⟩) (by assumption) ?_
     try simp only [pt]
     refine wpAnyH_take (i:=9) (v:=undef) rfl (by kernel_rfl) (by kernel_rfl) (by kernel_rfl) (fun _ _ _ h=>h) (Or.inr ⟨by rfl,rfl⟩) (by assumption) ?_
     try simp only [pt]
     refine wpAnyH_take (i:=10) (v:=undef) rfl (by kernel_rfl) (by kernel_rfl) (by kernel_rfl) (fun _ _ _ h=>h) (Or.inr ⟨by rfl,rfl⟩) (by assumption) ?_
     try simp only [pt]
     refine wpAnyH_take (i:=11) (v:=undef) rfl (by kernel_rfl) (by kernel_rfl) (by kernel_rfl) (fun _ _ _ h=>h) (Or.inr ⟨by rfl,rfl⟩) (by assumption) ?_
     try simp only [pt]
     refine wpAnyH_take (i:=12) (v:=undef) rfl (by kernel_rfl) (by kernel_rfl) (by kernel_rfl) (fun _ _ _ h=>h) (Or.inr ⟨by rfl,rfl⟩) (by assumption) ?_
     try simp only [pt]
     refine wpAnyH_take (i:=13) (v:=undef) rfl (by kernel_rfl) (by kernel_rfl) (by kernel_rfl) (fun _ _ _ h=>h) (Or.inr ⟨by rfl,rfl⟩) (by assumption) ?_
     try simp only [pt]
     refine wpAnyH_take (i:=14) (v:=undef) rfl (by kernel_rfl) (by kernel_rfl) (by kernel_rfl) (fun _ _ _ h=>h) (Or.inr ⟨by rfl,rfl⟩) (by assumption) ?_
     try simp only [pt]
     refine wpAnyH_take (i:=15) (v:=undef) rfl (by kernel_rfl) (by kernel_rfl) (by kernel_rfl) (fun _ _ _ h=>h) (Or.inr ⟨by rfl,rfl⟩) (by assumption) ?_
     try simp only [pt]
     refine tkn 16 ?_ rfl ?_ ?_;rotate_left;·(intro w hSw;(try dsimp only at hSw);go_simp;try rfl)
     try simp only [pt]
     refine wpAnyH_done (by kernel_rfl) ?_ _
     have D':Hid _:=JA.out _ hHeld
     clear JA
     go_wp2
     go_roundw
     case rel=>exact ⟨_,rfl,i + 1,l2,by go_num,by omega,Or.inl hi,D'.out⟩
     case measure=>simp [intOf];omega
  ·have hii:¬ (i:Int) < (b:Int):=by omega
   go_wp2
   go_end0
   refine ⟨rfl,l1,?_,?_,X.out.2.2⟩
   ·rcases hib with h1 | ⟨h1,h2⟩
    ·have e:i=b:=by omega
     have q:=X.out.1;rw [e] at q;exact q
    ·rw [h2];exact Seg.refl _ _ _
   ·intro p q h1 h2 h3
    exact X.out.2.1 p q h1 h2 (by omega)
end Go.Proofs.YtcipdampcmfmaabGreat
