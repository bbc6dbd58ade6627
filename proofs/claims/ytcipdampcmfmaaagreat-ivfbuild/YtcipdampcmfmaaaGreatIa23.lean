import Derived.Test.YtcipdampcmfmaaaGreatIa2
import Derived.Test.YtcipdampcmfmaaaGreatIa5
import Derived.Test.YtcipdampcmfmaaaGreatIa17
import Derived.BigQuiet
import Derived.Deep.RegionWith
import Derived.Test.YtcipdampcmfmaaaGreatIa8
import Derived.Test.YtcipdampcmfmaaaGreatIa9
import Derived.Test.YtcipdampcmfmaaaGreatIa20
import Derived.Maps.OwnIn
import Derived.Test.YtcipdampcmfmaaaGreatIa11
namespace Go.Proofs.YtcipdampcmfmaaaGreat
open Go.RowKit Go.Sort
end Go.Proofs.YtcipdampcmfmaaaGreat

namespace Go.Proofs.YtcipdampcmfmaaaGreat
open Go.RowKit
end Go.Proofs.YtcipdampcmfmaaaGreat

namespace Go.Proofs.YtcipdampcmfmaaaGreat
open Go.RowKit
end Go.Proofs.YtcipdampcmfmaaaGreat

namespace Go.Proofs.YtcipdampcmfmaaaGreat
open Go.RowKit
theorem NumAt.zero (w:World) (t:TypeId):NumAt (w.alloc (.cells #[.int .i64 0,.int .i64 0,.int .i64 0,.int .i64 0,.int .i64 0,.int .i64 0,.int .i64 0,.int .i64 0,.bool false] t)) w.heap.size 0 false:=NumAt.new w 0 false t
theorem NumAt.drew {w:World} {B n:Nat} {o:Bool} (h:NumAt w B n o):NumAt w.drew B n o:=h.call (Gr.refl _).drew
end Go.Proofs.YtcipdampcmfmaaaGreat

namespace Go.Proofs.YtcipdampcmfmaaaGreat
open Go.RowKit
end Go.Proofs.YtcipdampcmfmaaaGreat

namespace Go.Proofs.YtcipdampcmfmaaaGreat
open Go.RowKit
end Go.Proofs.YtcipdampcmfmaaaGreat

namespace Go.Proofs.YtcipdampcmfmaaaGreat
open Go.RowKit
end Go.Proofs.YtcipdampcmfmaaaGreat

namespace Go.Proofs.YtcipdampcmfmaaaGreat
open Go.RowKit
end Go.Proofs.YtcipdampcmfmaaaGreat

namespace Go.Proofs.YtcipdampcmfmaaaGreat
open Go.RowKit Go.Sort
end Go.Proofs.YtcipdampcmfmaaaGreat

namespace Go.Proofs.YtcipdampcmfmaaaGreat
open Go.RowKit Go.Shelf
set_option maxRecDepth 100000
set_option maxHeartbeats 2000000
attribute [local go_sem] Oper.semAt_some
theorem Boxed.kp {S:Nat->Prop} {W W':World} {B:Nat} {t:TypeId} {v:Value} (h:Boxed W B t v) (k:Tk.Kp S W W') (hn:¬ S B):Boxed W' B t v :=
 (k.block B h.lt hn).trans h
theorem keeps_of_kp {S:Nat->Prop} {W W':World} (k:Tk.Kp S W W') (hS:∀ b,S b->∃ o:Obj,W.heap[b]? = some o/\o.isCells=true):KeepsOthers W W':=by
 refine ⟨k.size,fun b o hb ho=>?_⟩
 rw [k.block b (Array.getElem?_eq_some_iff.1 hb).1,hb]
 intro hs
 obtain ⟨o',e,h'⟩:=hS b hs
 rw [hb] at e
 injection e with e
 rw [e,h'] at ho
 cases ho
theorem Has.cells {W:World} {hb k:Nat} {v:Value} {m:List Tk.Ht} (h:Tk.Has W hb k v m):∃ cs,W.heap[hb]? = some (.cells cs 122 (0,0)):=by
 obtain ⟨d,h1,_⟩:=h;exact ⟨_,h1.blk⟩
theorem Has.own {W:World} {hb k:Nat} {v:Value} {m:List Tk.Ht} (h:Tk.Has W hb k v m) {g:Nat} (hg:v.ownBlock=some g):∃ cs,W.heap[g]? = some (.cells cs 81 (0,0)):=by
 obtain ⟨d,h1,_⟩:=h
 rcases h1.own.2 with ⟨rfl,_⟩ | ⟨g',cap',cur,rfl,_,hh,_⟩
 ·cases hg
 ·simp only [Value.ownBlock,Option.some.injEq] at hg
  exact ⟨cur,by rw [<- hg];exact hh⟩
theorem ownFrom_has {B hb k:Nat} {vh:Value} {m:Nat->List Tk.Ht}:OwnFrom B (fun (j:Nat) W=>Tk.Has W hb k vh (m j)):=fun j W W' row h hg hr=>by
 refine h.kp (Tk.Kp.grown hg) ?_ ?_
 ·intro e
  obtain ⟨_,o,ho,hc⟩:=hr hb e.symm
  obtain ⟨cs,h1⟩:=Has.cells h
  rw [h1] at ho;injection ho with ho;subst ho;cases hc
 ·intro g hg' e
  obtain ⟨_,o,ho,hc⟩:=hr g e.symm
  obtain ⟨cs,h1⟩:=Has.own h hg'
  rw [h1] at ho;injection ho with ho;subst ho;cases hc
theorem box_ne {W:World} {hb k:Nat} {vh:Value} {m:List Tk.Ht} (h:Tk.Has W hb k vh m) {B:Nat} {t:TypeId} {v:Value} (b:Boxed W B t v) (h1:t ≠ 122) (h2:t ≠ 81):¬ (B=hb ∨ some B=vh.ownBlock):=by
 have e:W.heap[B]? = some (.cells #[v] t (0,0)):=b
 rintro (rfl | e2)
 ·obtain ⟨cs,e3⟩:=Has.cells h
  rw [e] at e3;simp at e3;exact h1 e3.2
 ·obtain ⟨cs,e3⟩:=Has.own h e2.symm
  rw [e] at e3;simp at e3;exact h2 e3.2
theorem gb_trans' {a b c:World} {B:Nat} (h:Below B a b) (k:Gb b c) (hB:B<=b.heap.size):Below B a c:=h.trans (k.mono hB)
theorem below_putObj {a b:World} {B D:Nat} (h:Below B a b) (hD:B<=D) (o:Obj):Below B a (b.putObj D o) :=
 ⟨h.os,h.tape,h.output,by simpa [World.putObj] using h.size,fun k hk=>(World.putObj_heap_other (by omega)).trans (h.block k hk)⟩
theorem own_putObj {w:World} {v:Value} {d:Array Tk.Ht} {D:Nat} {o:Obj} (h:Tk.Own w v d) (hK:w.heap[D]? = some o) (hc:o.isCells=false) (o':Obj):Tk.Own (w.putObj D o') v d:=by
 refine Tk.own_kp h (Tk.Kp.grown (grownBy_putObj' w D o')) fun g hg e=>?_
 rcases h.2 with ⟨rfl,_⟩ | ⟨g',cap',cur,rfl,_,hh,_⟩
 ·cases hg
 ·simp only [Value.ownBlock,Option.some.injEq] at hg e
  subst hg;subst e
  rw [hh] at hK;injection hK with hK;subst hK;cases hc
def NearAt (w0:World) (hb k Bb Br Bq:Nat) (v u:Value) (rs:List Rw) (q:List Int) (j:Nat) (W:World):Prop :=
 ∃ vh,Tk.Has W hb k vh (Tk.firsts k (hitsOf q (rs.take j)))/\(∀ g,vh.ownBlock=some g->w0.heap.size<=g)/\Below w0.heap.size w0 W/\Boxed W Bb 91 (.pointer (some ⟨hb,0,none⟩))/\Boxed W Br 22 v/\Boxed W Bq 41 u
theorem ownFrom_ex {β γ:Type} {B:Nat} {I:γ->β->World->Prop} (h:∀ x,OwnFrom B (I x)):OwnFrom B (fun s W=>∃ x,I x s W):=fun s W W' row hs hg hr=>by
 obtain ⟨x,hx⟩:=hs;exact ⟨x,h x s W W' row hx hg hr⟩
theorem ownFrom_box {β:Type} {B b:Nat} {t:TypeId} {v:β->Value}:OwnFrom B (fun (k:β) W=>Boxed W b t (v k)):=(boxed_own b t v).from B
theorem ownFrom_near {w0:World} {B hb k Bb Br Bq:Nat} {v u:Value} {rs:List Rw} {q:List Int} (hB:w0.heap.size<=B):OwnFrom B (NearAt w0 hb k Bb Br Bq v u rs q) :=
 ownFrom_ex fun _=>ownFrom_has.and ((ownFrom_pure B _).and ((ownFrom_below (Nat.le_refl _) hB).and (ownFrom_box.and (ownFrom_box.and ownFrom_box))))
abbrev hitObj (x:Tk.Ht):Obj:=.cells #[.int .i64 x.1,.int .u64 x.2.1,.int .u64 x.2.2] 81
def HitBox (W:World) (p:Nat) (x:Tk.Ht):Prop:=W.heap[p]? = some (hitObj x)
theorem hitBox_new (W:World) (x:Tk.Ht):HitBox (W.alloc (hitObj x)) W.heap.size x:=World.alloc_heap_new W _
theorem HitBox.cells {W:World} {p:Nat} {x:Tk.Ht} (h:HitBox W p x):W.cell? ⟨p,0,none⟩=some (.int .i64 x.1)/\W.cell? ⟨p,1,none⟩=some (.int .u64 x.2.1)/\W.cell? ⟨p,2,none⟩=some (.int .u64 x.2.2):=by
 have e:W.heap[p]? = some (hitObj x):=h
 refine ⟨?_,?_,?_⟩ <;> simp [World.cell?,e]
theorem ownFrom_hitBox {B p:Nat} {x:Nat->Tk.Ht}:OwnFrom B (fun (j:Nat) W=>HitBox W p (x j)):=fun j W W' row h hg hr=>by
 have e:W.heap[p]? = some (hitObj (x j)):=h
 refine (hg.block p (Array.getElem?_eq_some_iff.1 e).1 ?_).trans e
 intro e2
 obtain ⟨_,o,ho,hc⟩:=hr p e2.symm
 rw [e] at ho;injection ho with ho;subst ho;cases hc
theorem offer_has' {w:World} {hb k:Nat} {v:Value} {m:List Tk.Ht} (h:Tk.Has w hb k v m) (x:Tk.Ht) :
  Calls Tryz.prog 83 #[.pointer (some ⟨hb,0,none⟩),Tk.hv x] w fun e w'=>(∃ b,e=.returned (.bool b))/\∃ v',Tk.Has w' hb k v' (Tk.keep k m x)/\Tk.Kp (fun b=>b=hb ∨ some b=v.ownBlock) w w'/\(v'.ownBlock=v.ownBlock ∨ ∀ g,v'.ownBlock=some g->w.heap.size<=g):=by
 refine (Tk.offer_has h x).mono ?_
 rintro e w' ⟨rfl,v',h1,h2,h3⟩
 exact ⟨⟨_,rfl⟩,v',h1,h2,h3⟩
def OutH (w0 w':World) (v:Value) (l:List Tk.Ht):Prop:=Tk.Own w' v l.toArray/\Below w0.heap.size w0 w'/\∀ g,v.ownBlock=some g->w0.heap.size<=g
theorem nearest_c {w0 w:World} {hb k:Nat} {v u:Value} {rs:List Rw} {q:List Int} (hH:Tk.Has w hb k (.slice none 0 0) []) (hh:w0.heap.size<=hb) (hv:RdW w0 v rs) (hu:RdI w0 u q) (g0:Below w0.heap.size w0 w) (hask:askE rs q=0) :
  Calls Tryz.prog 51 #[.pointer (some ⟨hb,0,none⟩),v,u] w fun e w'=>∃ v',e=.returned v'/\OutH w0 w' v' (Tk.firsts k (hitsOf q rs)):=by
 have V:Hid (RdW w0 v rs):=hv
 have U:Hid (RdI w0 u q):=hu
 obtain ⟨av,cv,rfl,_⟩:=hv
 obtain ⟨au,cu,rfl,_⟩:=hu
 obtain ⟨m,hm⟩:∃ m,m=q.length:=⟨_,rfl⟩
 obtain ⟨n,hn⟩:∃ n,n=rs.length:=⟨_,rfl⟩
 have NH:Hid (n=rs.length):=hn
 rw [<- hm] at U
 rw [<- hn] at V
 rw [<- hm,<- hn]
 clear hm hn
 have hits:=fun W=>hits_c av au n m cv cu W
 refine (callsIn_wide (n:=4)).1 ?_
 refine callsIn_of_wp_marks Tryz.func51 rfl trivial ?_ rfl
 simp only [Tryz.ntmps51,List.size_toArray,List.length_cons,List.length_nil,Nat.reduceAdd,Nat.reduceSub,Array.replicate_succ,Array.replicate_zero,List.push_toArray,List.append_toArray,List.nil_append,List.cons_append]
 gi_wp2_with (refine ⟨trivial,?_⟩;gi_at_call 82;refine (callsIn_wide.2 (hits _)).mono ?_;rintro e w1 ⟨rfl,hw1⟩)
 have V1:Hid ((((w.alloc (.cells #[.pointer (some ⟨hb,0,none⟩)] 91)).alloc (.cells #[.slice av n cv] 22)).alloc (.cells #[.slice au m cu] 41))=w1):=hw1
 have N0:NearAt w0 hb k w.heap.size (w.heap.size + 1) (w.heap.size + 1 + 1) (.slice av n cv) (.slice au m cu) rs q 0 w1:=by
  rw [<- hw1]
  have b1:=((Boxed.new w 91 (.pointer (some ⟨hb,0,none⟩))).alloc (.cells #[.slice av n cv] 22)).alloc (.cells #[.slice au m cu] 41)
  have b2:=(Boxed.new (w.alloc (.cells #[.pointer (some ⟨hb,0,none⟩)] 91)) 22 (.slice av n cv)).alloc (.cells #[.slice au m cu] 41)
  have b3:=Boxed.new ((w.alloc (.cells #[.pointer (some ⟨hb,0,none⟩)] 91)).alloc (.cells #[.slice av n cv] 22)) 41 (.slice au m cu)
  simp only [World.size_alloc] at b2 b3
  refine ⟨.slice none 0 0,?_,fun g e=>by simp [Value.ownBlock] at e,?_,b1,b2,b3⟩
  ·rw [List.take_zero]
   show Tk.Has _ hb k _ (Tk.firsts k [])
   rw [Tk.firsts_nil]
   exact hH.gr (gb_alloc (gb_alloc (gb_alloc (Below.refl _ _) _) _) _)
  ·exact ((g0.alloc g0.size _).alloc (by rw [World.size_alloc];exact Nat.le_succ_of_le g0.size) _).alloc (by rw [World.size_alloc,World.size_alloc];have:=g0.size;omega) _
 have s1:w.heap.size + 3=w1.heap.size:=by rw [<- hw1];simp
 have s0:=g0.size
 clear hw1 hits V1
 have hrd:∀ j W,NearAt w0 hb k w.heap.size (w.heap.size + 1) (w.heap.size + 1 + 1) (.slice av n cv) (.slice au m cu) rs q j W->HitsAt W (w.heap.size + 1) (w.heap.size + 1 + 1) (.slice av n cv) (.slice au m cu) rs q:=fun j W h=>by
  obtain ⟨vh,h1,h2,h3,h4,h5,h6⟩:=h
  exact ⟨h5,h6,V.out.gb h3,U.out.gb h3⟩
 refine range_c (gf:=112) (lb:=#[.pointer (some ⟨w.heap.size + 1,0,none⟩),.pointer (some ⟨w.heap.size + 1 + 1,0,none⟩)]) rfl (enters_of Tryz.func112 (by kernel_rfl) rfl) rfl
  n (fun j=>Tk.hv (hitOf q rs[j]!)) (NearAt w0 hb k w.heap.size (w.heap.size + 1) (w.heap.size + 1 + 1) (.slice av n cv) (.slice au m cu) rs q)
  (fun j p W=>NearAt w0 hb k w.heap.size (w.heap.size + 1) (w.heap.size + 1 + 1) (.slice av n cv) (.slice au m cu) rs q j W/\HitBox W p (hitOf q rs[j]!))
  (fun j=>hitObj (hitOf q rs[j]!))
  (ownFrom_near (by omega)) (fun p=>(ownFrom_near (by omega)).and ownFrom_hitBox) N0
  (fun j W _ h=>⟨ownFrom_near (B:=0 + w0.heap.size) (by omega) j W _ none h (grown_of_gb (gb_alloc (Below.refl _ _) _)) (fun r e=>by cases e),hitBox_new W _⟩)
  (by
    have:=hits1_gives 3 (by decide) (w.heap.size + 1) (w.heap.size + 1 + 1) (.slice av n cv) (.slice au m cu) rs q hask _ hrd
    rwa [<- NH.out] at this)
  (fun j p=>{ tmps:=#[.pointer (some ⟨hb,0,none⟩),.slice av n cv,.slice au m cu,.pointer (some ⟨w.heap.size,0,none⟩),undef,undef,.slice none 0 0,.pointer (some ⟨p,0,none⟩),.slice av n cv,.slice au m cu,
   .func (.func 112) #[] #[.pointer (some ⟨w.heap.size + 1,0,none⟩),.pointer (some ⟨w.heap.size + 1 + 1,0,none⟩)],Tk.hv (hitOf q rs[j]!),undef,undef,undef,undef,undef],defers:=[] }) ?assign ?body ?done
 case assign =>
  intro l j W K hK
  generalize rs[j]! = r at *
  gi_wp2
  exact hK
 case body =>
  clear N0
  rintro l j p W hj ⟨⟨vh,h1,h2,h3,h4,h5,h6⟩,hp⟩
  have hjr:j < rs.length:=by have:=NH.out;omega
  have hm:=hitsOf_snoc q hjr
  have hoff:=offer_has' h1 (hitOf q rs[j]!)
  rw [<- Tk.firsts_snoc,<- hm] at hoff
  generalize hitOf q rs[j]! = x at *
  obtain ⟨x0,x1,x2⟩:=x
  have cB:=h4.cell
  obtain ⟨y0,y1,y2⟩:=hp.cells
  gi_wp2_with (refine ⟨trivial,?_⟩;gi_at_call 83;refine (CallsIn.inRound l (callsIn_wide.2 hoff)).mono ?_;rintro e w5 ⟨⟨b,rfl⟩,v',q1,q2,q3⟩)
  refine ⟨keeps_of_kp q2 ?_,v',q1,?_,?_,Boxed.kp h4 q2 (box_ne h1 h4 (by decide) (by decide)),Boxed.kp h5 q2 (box_ne h1 h5 (by decide) (by decide)),Boxed.kp h6 q2 (box_ne h1 h6 (by decide) (by decide))⟩
  ·rintro b (rfl | e)
   ·obtain ⟨cs,e⟩:=Has.cells h1;exact ⟨_,e,rfl⟩
   ·obtain ⟨cs,e⟩:=Has.own h1 e.symm;exact ⟨_,e,rfl⟩
  ·intro g e
   rcases q3 with q3 | q3
   ·exact h2 g (by rw [<- q3];exact e)
   ·have:=q3 g e;have:=h3.size;omega
  ·refine h3.trans (q2.gr h3.size ?_)
   rintro b (rfl | e)
   ·exact hh
   ·exact h2 b e.symm
 case done =>
  clear N0
  rintro D W hD ⟨vh,h1,h2,h3,h4,h5,h6⟩ hK
  have cB:=h4.cell
  have hl:=Tk.list_has h1
  rw [List.take_of_length_le (by have:=NH.out;omega)] at hl
  gi_wp2_with (refine ⟨trivial,?_⟩;gi_at_call 80;refine (callsIn_wide.2 hl).mono ?_;rintro e w5 ⟨v',rfl,o1,o2,o3⟩)
  have hK':=gb_same o2 hK
  refine ⟨by simp,.inl ⟨_,_,rfl,run_takeDeferred hK',?_⟩⟩
  exact ⟨v',by simp [results,Tryz.results51,go_sem],v',rfl,own_putObj o1 hK' rfl _,below_putObj (gb_trans' h3 o2 h3.size) (by omega) _,fun g e=>by have:=o3 g e;have:=h3.size;omega⟩
theorem topk_c {w:World} {v u:Value} {rs:List Rw} {q:List Int} (hv:RdW w v rs) (hu:RdI w u q) (hwf:Wf rs) (k:Int) :
  Calls Tryz.prog 20 #[v,u,.int .i64 k] w fun e w'=>∃ v',e=.returned (.tuple #[v',.int .i64 (topE rs q k)])/\Gb w w' /\
   (topE rs q k ≠ 0->v'=.slice none 0 0)/\(topE rs q k=0->OutH w w' v' (Tk.firsts k.toNat (hitsOf q rs))):=by
 have cb:=begin_c hv hu hwf k
 have V:Hid (RdW w v rs):=hv
 have U:Hid (RdI w u q):=hu
 obtain ⟨av,cv,rfl,_⟩:=hv
 obtain ⟨au,cu,rfl,_⟩:=hu
 obtain ⟨n,hn⟩:∃ n,n=rs.length:=⟨_,rfl⟩
 obtain ⟨m,hm⟩:∃ m,m=q.length:=⟨_,rfl⟩
 rw [<- hn] at V cb ⊢
 rw [<- hm] at U cb ⊢
 clear hn hm
 by_cases hz:topE rs q k=0
 ·have hask:=(topE_zero.1 hz).1
  have ZH:Hid (topE rs q k=0):=hz
  rw [hz] at cb ⊢
  go_enter Tryz.func20,Tryz.ntmps20
  go_wp2_with fail
  refine cb.mono ?_
  rintro e w1 ⟨p,rfl,g1,_,hp⟩
  obtain ⟨hb,rfl,hhb,hH⟩:=hp ZH.out
  have cn:=nearest_c hH hhb V.out U.out g1 hask
  clear cb hp
  go_wp2_with fail
  refine cn.mono ?_
  rintro e w2 ⟨v',rfl,o⟩
  clear cn
  go_wp2
  go_ret2
  exact ⟨_,rfl,o.2.1,fun e=>absurd rfl e,fun _=>o⟩
 ·have ZH:Hid (topE rs q k ≠ 0):=hz
  have hz':(topE rs q k == 0)=false:=by rw [beq_eq_false_iff_ne];exact hz
  generalize topE rs q k=z at *
  go_enter Tryz.func20,Tryz.ntmps20
  go_wp2_with fail
  refine cb.mono ?_
  rintro e w1 ⟨p,rfl,g1,hp⟩
  clear cb hp
  go_wp2
  go_ret2
  exact ⟨_,rfl,g1,fun _=>rfl,fun e=>absurd e ZH.out⟩
end Go.Proofs.YtcipdampcmfmaaaGreat

namespace Go.Proofs.YtcipdampcmfmaaaGreat
open Go.RowKit Go.Sort
def HA (W:World) (g n cap:Nat) (f:Nat->Tk.Ht):Prop :=
 ∃ cur:Array Value,W.heap[g]? = some (.cells cur 81 (0,0))/\cur.size=cap * 3/\n<=cap/\cap<=maxLen/\∀ i,i < n->cur[i * 3]? = some (.int .i64 (f i).1)/\cur[i * 3 + 1]? = some (.int .u64 (f i).2.1)/\cur[i * 3 + 2]? = some (.int .u64 (f i).2.2)
theorem HA.lt {W:World} {g n cap:Nat} {f:Nat->Tk.Ht} (h:HA W g n cap f):g < W.heap.size:=by
 obtain ⟨cur,h1,_⟩:=h;exact (Array.getElem?_eq_some_iff.1 h1).1
theorem HA.cell {W:World} {g n cap:Nat} {f:Nat->Tk.Ht} (h:HA W g n cap f) {i:Nat} (hi:i < n):W.cell? ⟨g,i * 3,none⟩=some (.int .i64 (f i).1)/\W.cell? ⟨g,i * 3 + 1,none⟩=some (.int .u64 (f i).2.1)/\W.cell? ⟨g,i * 3 + 2,none⟩=some (.int .u64 (f i).2.2):=by
 obtain ⟨cur,h1,_,_,_,h4⟩:=h
 obtain ⟨a,b,c⟩:=h4 i hi
 simp [World.cell?,h1,a,b,c]
theorem HA.frozen {W:World} {g n cap:Nat} {f:Nat->Tk.Ht} (h:HA W g n cap f) (o:Nat):W.frozen? ⟨g,o,none⟩=false:=by
 obtain ⟨cur,h1,_⟩:=h
 simp [World.frozen?,h1]
theorem HA.block {W W':World} {g n cap:Nat} {f:Nat->Tk.Ht} (h:HA W g n cap f) (e:W'.heap[g]? = W.heap[g]?):HA W' g n cap f:=by
 obtain ⟨cur,h1,h2⟩:=h
 exact ⟨cur,e.trans h1,h2⟩
theorem HA.congr {W:World} {g n cap:Nat} {f f':Nat->Tk.Ht} (h:HA W g n cap f) (e:∀ i,i < n->f i=f' i):HA W g n cap f':=by
 obtain ⟨cur,h1,h2,h3,h4,h5⟩:=h
 exact ⟨cur,h1,h2,h3,h4,fun i hi=>by rw [<- e i hi];exact h5 i hi⟩
theorem HA.set {W:World} {g n cap:Nat} {f:Nat->Tk.Ht} (h:HA W g n cap f) {i:Nat} (hi:i < n) (x:Tk.Ht) :
  HA (((W.setCell ⟨g,i * 3,none⟩ (.int .i64 x.1)).setCell ⟨g,i * 3 + 1,none⟩ (.int .u64 x.2.1)).setCell ⟨g,i * 3 + 2,none⟩ (.int .u64 x.2.2)) g n cap (fun t=>if t=i then x else f t):=by
 obtain ⟨cur,h1,h2,h3,h4,h5⟩:=h
 refine ⟨((cur.setIfInBounds (i * 3) (.int .i64 x.1)).setIfInBounds (i * 3 + 1) (.int .u64 x.2.1)).setIfInBounds (i * 3 + 2) (.int .u64 x.2.2),?_,by simpa using h2,h3,h4,fun t ht=>?_⟩
 ·simp [World.setCell,Array.getElem?_modify,h1]
 ·by_cases e:t=i
  ·subst e
   simp only [if_true]
   refine ⟨?_,?_,?_⟩
   ·rw [Array.getElem?_setIfInBounds_ne (by omega),Array.getElem?_setIfInBounds_ne (by omega),Array.getElem?_setIfInBounds_self_of_lt (by omega)]
   ·rw [Array.getElem?_setIfInBounds_ne (by omega),Array.getElem?_setIfInBounds_self_of_lt (by simp;omega)]
   ·rw [Array.getElem?_setIfInBounds_self_of_lt (by simp;omega)]
  ·simp only [if_neg e]
   obtain ⟨a,b,c⟩:=h5 t ht
   refine ⟨?_,?_,?_⟩
   ·rw [Array.getElem?_setIfInBounds_ne (by omega),Array.getElem?_setIfInBounds_ne (by omega),Array.getElem?_setIfInBounds_ne (by omega)];exact a
   ·rw [Array.getElem?_setIfInBounds_ne (by omega),Array.getElem?_setIfInBounds_ne (by omega),Array.getElem?_setIfInBounds_ne (by omega)];exact b
   ·rw [Array.getElem?_setIfInBounds_ne (by omega),Array.getElem?_setIfInBounds_ne (by omega),Array.getElem?_setIfInBounds_ne (by omega)];exact c
theorem own_of_ha {W:World} {g cap:Nat} {l:List Tk.Ht} {f:Nat->Tk.Ht} (h:HA W g l.length cap f) (e:∀ i,i < l.length->f i=l[i]!):Tk.Own W (.slice (some ⟨g,0,none⟩) l.length cap) l.toArray:=by
 obtain ⟨cur,h1,h2,h3,h4,h5⟩:=h
 refine ⟨by rw [Tk.fl_len];simp,.inr ⟨g,cap,cur,by simp,Nat.zero_le _,h1,by simpa using h3,h4,h2,?_⟩⟩
 simp only [List.size_toArray]
 apply List.ext_getElem?
 intro j
 by_cases hj:j < l.length * 3
 ·obtain ⟨i,c,hc,rfl⟩:∃ i c,c < 3/\j=i * 3 + c:=⟨j / 3,j % 3,by omega,by omega⟩
  have hi:i < l.length:=by omega
  rw [List.getElem?_take_of_lt hj,Array.getElem?_toList,Tk.fl_get l i c hi hc]
  obtain ⟨a,b,d⟩:=h5 i hi
  rw [e i hi,getElem!_pos l i hi] at a b d
  rcases c with _ | _ | _ | c
  ·rw [Nat.add_zero];exact a
  ·exact b
  ·exact d
  ·omega
 ·rw [List.getElem?_eq_none (by rw [List.length_take];omega),List.getElem?_eq_none (by rw [Tk.fl_len];simpa using hj)]
end Go.Proofs.YtcipdampcmfmaaaGreat

namespace Go.Proofs.YtcipdampcmfmaaaGreat
open Go.RowKit Go.Shelf Go.Sort Go.Lib
attribute [local go_sem] Oper.semAt_some
end Go.Proofs.YtcipdampcmfmaaaGreat

namespace Go.Proofs.YtcipdampcmfmaaaGreat
open Go.RowKit Go.Shelf Go.Sort Go.Lib
attribute [local go_sem] Oper.semAt_some
def RadBox (W:World) (p:Nat) (rh rl:Int):Prop:=W.heap[p]? = some (.cells #[.int .u64 rh,.int .u64 rl] 79 (0,0))
theorem RadBox.cells {W:World} {p:Nat} {rh rl:Int} (h:RadBox W p rh rl):W.cell? ⟨p,0,none⟩=some (.int .u64 rh)/\W.cell? ⟨p,1,none⟩=some (.int .u64 rl):=by
 have e:W.heap[p]? = _:=h
 refine ⟨?_,?_⟩ <;> simp [World.cell?,e]
theorem RadBox.gb {W W':World} {p:Nat} {rh rl:Int} (h:RadBox W p rh rl) (g:Gb W W'):RadBox W' p rh rl:=gb_same g h
theorem Boxed.gb {W W':World} {B:Nat} {t:TypeId} {v:Value} (h:Boxed W B t v) (g:Gb W W'):Boxed W' B t v:=gb_same g h
end Go.Proofs.YtcipdampcmfmaaaGreat

namespace Go.Proofs.YtcipdampcmfmaaaGreat
open Go.RowKit Go.Sort
structure UpSt (w W:World) (v:Value) (l:List Int):Prop where
 row:Own W w.heap.size v l
 gb:Gb w W
theorem UpSt.alloc {w W:World} {v:Value} {l:List Int} (h:UpSt w W v l) (o:Obj):UpSt w (W.alloc o) v l :=
 ⟨World.ownsRow.alloc h.row o,gb_alloc h.gb o⟩
theorem UpSt.next {w W W2:World} {v v':Value} {l:List Int} {x:Int} (h:UpSt w W v l)
  (hr:W2.ownsRow w.heap.size 3 1 v' (l.length + 1) (l.map (Value.int .i64) ++ [.int .i64 x])) (hg2:W.grownBy W2 v.ownBlock):UpSt w W2 v' (l ++ [x]):=by
 refine ⟨?_,below_grown h.gb hg2 (fun k e=>(World.ownsRow.lt h.row k e).1) h.gb.size⟩
 unfold Own
 rw [List.length_append,List.map_append]
 exact hr
end Go.Proofs.YtcipdampcmfmaaaGreat

namespace Go.Proofs.YtcipdampcmfmaaaGreat
open Go.RowKit Go.Sort
theorem grown_setCell (w:World) (p:Addr) (u:Value):w.grownBy (w.setCell p u) (some p.block) :=
 ⟨rfl,rfl,rfl,by simp [World.setCell],fun k _ hn=>Below.heap_setCell _ _ _ _ (by rintro rfl;exact hn rfl)⟩
def RestAt (w:World) (B:Nat) (v:Value) (rs:List Rw):Prop:=(rs=[]/\v=.slice none 0 0) ∨ rs ≠ []/\∃ vi g,v=.slice (some ⟨g,0,none⟩) 1 1/\B<=g /\
 w.heap[g]? = some (.cells #[.int .i64 1,.slice none 0 0,.slice none 0 0,.int .u64 0,.int .u64 0,vi] 99 (0,0))/\Own w B vi (srt (idsOf rs))
theorem RestAt.grown {w w':World} {B:Nat} {v:Value} {rs:List Rw} {b:Nat} (h:RestAt w B v rs) (g:w.grownBy w' (some b)) (hb:b < B):RestAt w' B v rs:=by
 rcases h with h | ⟨h0,vi,x,h1,h2,h3,h4⟩
 ·exact .inl h
 ·refine .inr ⟨h0,vi,x,h1,h2,(g.block x (Array.getElem?_eq_some_iff.1 h3).1 (by simp;omega)).trans h3,h4.kept g (.inr fun e=>?_)⟩
  have:=(World.ownsRow.lt h4 b e).1
  omega
def AnsB (w w':World) (B1 B2:Nat) (vh vs vr:Value) (rs:List Rw) (q:List Int) (k c:Nat):Prop:=w.heap.size<=B1/\B1<=B2/\B2<=w'.heap.size/\Gb w w'/\Tk.Own w' vh (Tk.firsts k (hitsOf q (rs.take c))).toArray /\
 (∀ g,vh.ownBlock=some g->w.heap.size<=g/\g < B1)/\Own w' B1 vs (srt (idsOf (rs.take c)))/\(∀ g,vs.ownBlock=some g->g < B2)/\RestAt w' B2 vr (rs.drop c)
theorem AnsB.set {w w':World} {B1 B2:Nat} {vh vs vr:Value} {rs:List Rw} {q:List Int} {k c:Nat} (h:AnsB w w' B1 B2 vh vs vr rs q k c) (hne:vh.ownBlock ≠ some w.heap.size) (h1:vs.ownBlock ≠ some w.heap.size) (h2:w.heap.size < B2) (o:Nat) (u:Value) :
  AnsB w (w'.setCell ⟨w.heap.size,o,none⟩ u) B1 B2 vh vs vr rs q k c:=by
 obtain ⟨b1,b2,b3,g,t,b4,b5,b6,b7⟩:=h
 have gs:=grown_setCell w' ⟨w.heap.size,o,none⟩ u
 refine ⟨b1,b2,by have:=gs.size;omega,gb_set g (Nat.le_refl _) u,?_,b4,b5.kept gs (.inr h1),b6,b7.grown gs h2⟩
 exact Tk.own_kp t (Tk.Kp.grown gs) fun x hx e=>hne (by rw [hx,e])
end Go.Proofs.YtcipdampcmfmaaaGreat

namespace Go.Proofs.YtcipdampcmfmaaaGreat
open Go.RowKit Go.Sort
end Go.Proofs.YtcipdampcmfmaaaGreat

namespace Go.Proofs.YtcipdampcmfmaaaGreat
open Go.RowKit Go.Sort Go.Maps
theorem ins_at (x:Tk.Ht):∀ (l:List Tk.Ht) (q:Nat),(∀ i,i < q->Tk.hlt x l[i]! = false)->q<=l.length->(q < l.length->Tk.hlt x l[q]! = true)->Tk.ins x l=l.take q ++ x :: l.drop q
 | [],q,_,hq,_=>by
  obtain rfl:q=0:=by simpa using hq
  rfl
 | y :: r,0,_,_,h=>by
  have:=h (by simp)
  simp only [List.getElem!_cons_zero] at this
  unfold Tk.ins
  rw [if_pos this];rfl
 | y :: r,q + 1,h1,h2,h3=>by
  have h0:=h1 0 (by omega)
  simp only [List.getElem!_cons_zero] at h0
  unfold Tk.ins
  rw [if_neg (by rw [h0];simp),ins_at x r q (fun i hi=>by have:=h1 (i + 1) (by omega);simpa using this) (by simpa using h2) (fun hq=>by have:=h3 (by simpa using hq);simpa using this)]
  rfl
structure H3 (W:World) (b:Nat) (x:Tk.Ht):Prop where
 c0:W.cell? ⟨b,0,none⟩=some (.int .i64 x.1)
 c1:W.cell? ⟨b,1,none⟩=some (.int .u64 x.2.1)
 c2:W.cell? ⟨b,2,none⟩=some (.int .u64 x.2.2)
theorem H3.gb {W W':World} {b:Nat} {x:Tk.Ht} (h:H3 W b x) (g:Gb W W'):H3 W' b x:=⟨gb_keeps g h.c0,gb_keeps g h.c1,gb_keeps g h.c2⟩
theorem H3.new (W:World) (x:Tk.Ht) (t:TypeId):H3 (W.alloc (.cells #[.int .i64 x.1,.int .u64 x.2.1,.int .u64 x.2.2] t)) W.heap.size x:=⟨by simp [go_sem],by simp [go_sem],by simp [go_sem]⟩
theorem H3.block {W W':World} {b:Nat} {x:Tk.Ht} (h:H3 W b x) (e:W'.heap[b]? = W.heap[b]?):H3 W' b x :=
 ⟨(World.cell?_of_block (a:=⟨b,0,none⟩) e).trans h.c0,(World.cell?_of_block (a:=⟨b,1,none⟩) e).trans h.c1,(World.cell?_of_block (a:=⟨b,2,none⟩) e).trans h.c2⟩
structure Hs (w W:World) (a b:Addr) (u v:Value):Prop where
 gb:Gb w W
 ca:W.cell? a=some u
 cb:W.cell? b=some v
 la:a.block < w.heap.size
 lb:b.block < w.heap.size
theorem Hs.gr {w W W':World} {a b:Addr} {u v:Value} (h:Hs w W a b u v) (g:Gb W W'):Hs w W' a b u v:=⟨gb_trans h.gb g,gb_keeps g h.ca,gb_keeps g h.cb,h.la,h.lb⟩
theorem Hs.set {w W:World} {a b:Addr} {u v:Value} {B:Nat} (h:Hs w W a b u v) (hB:w.heap.size<=B) (x y z:Value):Hs w (((W.setCell ⟨B,0,none⟩ x).setCell ⟨B,1,none⟩ y).setCell ⟨B,2,none⟩ z) a b u v:=by
 have far:∀ {p:Addr} {q:Value},p.block ≠ B->W.cell? p=some q->(((W.setCell ⟨B,0,none⟩ x).setCell ⟨B,1,none⟩ y).setCell ⟨B,2,none⟩ z).cell? p=some q:=fun {p q} hp hc=>by
  refine (World.cell?_of_block (Below.heap_setCell _ _ _ _ (by dsimp only;exact hp))).trans ?_
  refine (World.cell?_of_block (Below.heap_setCell _ _ _ _ (by dsimp only;exact hp))).trans ?_
  exact (World.cell?_of_block (Below.heap_setCell _ _ _ _ (by dsimp only;exact hp))).trans hc
 have ha:=h.la
 have hb:=h.lb
 exact ⟨gb_set (gb_set (gb_set h.gb (by dsimp only;exact hB) _) (by dsimp only;exact hB) _) (by dsimp only;exact hB) _,far (by omega) h.ca,far (by omega) h.cb,h.la,h.lb⟩
structure Lay (w W:World) (g n cap Bh k:Nat) (L:List Tk.Ht) (x:Tk.Ht):Prop where
 arr:∃ f,HA W g (n + 1) cap f/\(∀ t,t < k->f t=L[t]!)/\∀ t,k < t->t<=n->f t=L[t - 1]!
 box:H3 W Bh x
 gb:Gb w W
 hg:w.heap.size<=g
 ne:Bh ≠ g
 more:∀ t,k<=t->t < n->Tk.hlt x L[t]! = true
theorem Lay.gr {w W W':World} {g n cap Bh k:Nat} {L:List Tk.Ht} {x:Tk.Ht} (h:Lay w W g n cap Bh k L x) (g':Gb W W'):Lay w W' g n cap Bh k L x:=by
 obtain ⟨f,h1,h2⟩:=h.arr
 exact ⟨⟨f,h1.block (g'.block _ h1.lt),h2⟩,h.box.gb g',gb_trans h.gb g',h.hg,h.ne,h.more⟩
theorem three_gb {g:Nat} {w W:World} (h:Gb w W) (hg:w.heap.size<=g) (o1 o2 o3:Nat) (x y z:Value):Gb w (((W.setCell ⟨g,o1,none⟩ x).setCell ⟨g,o2,none⟩ y).setCell ⟨g,o3,none⟩ z) :=
 gb_set (gb_set (gb_set h (by dsimp only;exact hg) _) (by dsimp only;exact hg) _) (by dsimp only;exact hg) _
theorem three_far {g b:Nat} {W:World} (hn:b ≠ g) (o1 o2 o3:Nat) (x y z:Value):(((W.setCell ⟨g,o1,none⟩ x).setCell ⟨g,o2,none⟩ y).setCell ⟨g,o3,none⟩ z).heap[b]? = W.heap[b]? :=
 (Below.heap_setCell _ _ _ _ (by dsimp only;exact hn)).trans ((Below.heap_setCell _ _ _ _ (by dsimp only;exact hn)).trans (Below.heap_setCell _ _ _ _ (by dsimp only;exact hn)))
theorem Lay.down {w W:World} {g n cap Bh k:Nat} {L:List Tk.Ht} {x:Tk.Ht} (h:Lay w W g n cap Bh (k + 1) L x) (hk:k + 1<=n) (hx:Tk.hlt x L[k]! = true) :
  Lay w (((W.setCell ⟨g,(k + 1) * 3,none⟩ (.int .i64 L[k]!.1)).setCell ⟨g,(k + 1) * 3 + 1,none⟩ (.int .u64 L[k]!.2.1)).setCell ⟨g,(k + 1) * 3 + 2,none⟩ (.int .u64 L[k]!.2.2)) g n cap Bh k L x:=by
 obtain ⟨f,h1,h2,h3⟩:=h.arr
 refine ⟨⟨_,h1.set (i:=k + 1) (by omega) L[k]!,fun t ht=>?_,fun t ht1 ht2=>?_⟩,h.box.block (three_far h.ne _ _ _ _ _ _),three_gb h.gb h.hg _ _ _ _ _ _,h.hg,h.ne,fun t ht1 ht2=>?_⟩
 ·rw [if_neg (by omega)];exact h2 t (by omega)
 ·by_cases e:t=k + 1
  ·subst e;rw [if_pos rfl];rfl
  ·rw [if_neg e];exact h3 t (by omega) ht2
 ·by_cases e:t=k
  ·subst e;exact hx
  ·exact h.more t (by omega) ht2
theorem Lay.done {w W:World} {g n cap Bh k:Nat} {L:List Tk.Ht} {x:Tk.Ht} (h:Lay w W g n cap Bh k L x) (hk:k<=n) (hn:L.length=n) (hS:Tk.Srtd L) (hx:k=0 ∨ Tk.hlt x L[k - 1]! = false) :
  OutH w (((W.setCell ⟨g,k * 3,none⟩ (.int .i64 x.1)).setCell ⟨g,k * 3 + 1,none⟩ (.int .u64 x.2.1)).setCell ⟨g,k * 3 + 2,none⟩ (.int .u64 x.2.2)) (.slice (some ⟨g,0,none⟩) (n + 1) cap) (Tk.ins x L):=by
 obtain ⟨f,h1,h2,h3⟩:=h.arr
 have hahead:∀ i,i < k->Tk.hlt x L[i]! = false:=fun i hi=>by
  rcases hx with e | e
  ·omega
  ·by_cases e2:i=k - 1
   ·rw [e2];exact e
   ·have:=List.pairwise_iff_getElem.1 hS i (k - 1) (by omega) (by omega) (by omega)
    rw [<- getElem!_pos L i (by omega),<- getElem!_pos L (k - 1) (by omega)] at this
    exact Tk.hlt_ntrans e this
 have hins:=ins_at x L k hahead (by omega) (fun hq=>h.more k (Nat.le_refl _) (by omega))
 have hl:(Tk.ins x L).length=n + 1:=by rw [Tk.ins_len,hn]
 refine ⟨?_,three_gb h.gb h.hg _ _ _ _ _ _,fun b e=>by cases e;exact h.hg⟩
 have h4:=h1.set (i:=k) (by omega) x
 rw [<- hl] at h4 ⊢
 refine own_of_ha h4 (fun i hi=>?_)
 rw [getElem!_pos (Tk.ins x L) i hi]
 have:∀ (M:List Tk.Ht) (hM:M=Tk.ins x L) (hi':i < M.length),(Tk.ins x L)[i]=M[i]:=fun M hM _=>by subst hM;rfl
 rw [this _ hins.symm (by rw [<- hins];exact hi)]
 by_cases e:i=k
 ·subst e;rw [if_pos rfl,List.getElem_append_right (by rw [List.length_take];omega)]
  simp only [List.length_take]
  rw [List.getElem_cons]
  simp
  omega
 ·rw [if_neg e]
  by_cases e2:i < k
  ·rw [h2 i e2,List.getElem_append_left (by rw [List.length_take];omega),List.getElem_take,getElem!_pos L i (by omega)]
  ·rw [h3 i (by omega) (by omega),List.getElem_append_right (by rw [List.length_take];omega)]
   rw [getElem!_pos L (i - 1) (by omega)]
   rw [List.getElem_cons]
   have e3:¬ (i - (List.take k L).length=0):=by rw [List.length_take];omega
   rw [dif_neg e3,List.getElem_drop]
   congr 1
   rw [List.length_take];omega
end Go.Proofs.YtcipdampcmfmaaaGreat

namespace Go.Proofs.YtcipdampcmfmaaaGreat
open Go.RowKit Go.Sort
def RdL (w:World) (v:Value) (l:List Reg):Prop:=∃ a cap,v=.slice a l.length cap/\∀ i (hi':i < l.length),∃ b o vl vh vi,a=some ⟨b,o,none⟩ /\
 w.cell? ⟨b,o + i * 6,none⟩=some (.int .i64 l[i].S)/\w.cell? ⟨b,o + i * 6 + 1,none⟩=some vl/\w.cell? ⟨b,o + i * 6 + 2,none⟩=some vh/\w.cell? ⟨b,o + i * 6 + 3,none⟩=some (.int .u64 (hi l[i].R)) /\
 w.cell? ⟨b,o + i * 6 + 4,none⟩=some (.int .u64 (lo l[i].R))/\w.cell? ⟨b,o + i * 6 + 5,none⟩=some vi/\RdI w vl l[i].L/\RdI w vh l[i].H/\RdI w vi l[i].I
theorem RdL.gb {w w':World} {v:Value} {l:List Reg} (h:RdL w v l) (g:Gb w w'):RdL w' v l:=by
 obtain ⟨a,cap,e,h⟩:=h
 refine ⟨a,cap,e,fun i hi'=>?_⟩
 obtain ⟨b,o,vl,vh,vi,e0,c0,c1,c2,c3,c4,c5,r1,r2,r3⟩:=h i hi'
 exact ⟨b,o,vl,vh,vi,e0,gb_keeps g c0,gb_keeps g c1,gb_keeps g c2,gb_keeps g c3,gb_keeps g c4,gb_keeps g c5,r1.gb g,r2.gb g,r3.gb g⟩
theorem rdl_nil (w:World):RdL w (.slice none 0 0) []:=⟨none,0,rfl,fun _ hi'=>absurd hi' (Nat.not_lt_zero _)⟩
end Go.Proofs.YtcipdampcmfmaaaGreat

namespace Go.Proofs.YtcipdampcmfmaaaGreat
open Go.RowKit Go.Sort
structure Ans where
 hits:List Tk.Ht
 seen:List Int
 rest:List Reg
structure RdA (w:World) (vh vs vr:Value) (a:Ans):Prop where
 hits:Tk.Rd w vh a.hits
 seen:RdI w vs a.seen
 rest:RdL w vr a.rest
theorem RdA.gb {w w':World} {vh vs vr:Value} {a:Ans} (h:RdA w vh vs vr a) (g:Gb w w'):RdA w' vh vs vr a:=⟨h.hits.gr g,h.seen.gb g,h.rest.gb g⟩
def allIds (a:Ans):List Int:=a.seen ++ a.rest.flatMap (·.I)
structure SoundP (rs:List Rw) (q:List Int) (k:Nat) (a:Ans) (srs:List Rw):Prop where
 ids:idsOf srs=a.seen
 mem:∀ r ∈ srs,r ∈ rs
 rise:∀ i,i + 1 < a.seen.length->a.seen[i]! < a.seen[i + 1]!
 reg:∀ r ∈ a.rest,ckR r (q.length:Int)=0/\r.I ≠ []/\r.R < 340282366920938463463374607431768211456/\∀ x ∈ r.I,∃ row ∈ rs,row.1=x/\inV r row.2=true
 hits:a.hits=Tk.firsts k (hitsOf q srs)
 all:(allIds a).Perm (idsOf rs)
end Go.Proofs.YtcipdampcmfmaaaGreat

namespace Go.Proofs.YtcipdampcmfmaaaGreat
open Go.RowKit
end Go.Proofs.YtcipdampcmfmaaaGreat

namespace Go.Proofs.YtcipdampcmfmaaaGreat
open Go.RowKit
end Go.Proofs.YtcipdampcmfmaaaGreat

namespace Go.Proofs.YtcipdampcmfmaaaGreat
open Go.RowKit
end Go.Proofs.YtcipdampcmfmaaaGreat

namespace Go.Proofs.YtcipdampcmfmaaaGreat
open Go.RowKit Go.Shelf Go.Sort Go.Lib
attribute [local go_sem] Oper.semAt_some
end Go.Proofs.YtcipdampcmfmaaaGreat

namespace Go.Proofs.YtcipdampcmfmaaaGreat
open Go.RowKit Go.Sort Go.Maps
set_option maxHeartbeats 1000000
theorem rflat_c {w:World} {v:Value} {rs:List Rw} (hv:RdW w v rs) (hlen:rs.length<=4611686018427387904) (d:Int) :
  Calls Tryz.prog 35 #[v,.int .i64 d] w fun e w'=>e=.returned (.int .i64 (flatE rs d))/\Gr w w':=by
 have c:=rrows_c hv d hlen
 obtain ⟨a,cap,rfl,_⟩:=hv
 unfold flatE
 generalize rs.length=n at *
 generalize idsE rs d=z at *
 by_cases h1:d < 1
 ·rw [if_neg (by omega)]
  go_enter Tryz.func35,Tryz.ntmps35
  go_wp2
  go_ret
  exact ⟨rfl,Gr.refl _⟩
 ·by_cases h2:64 < d
  ·rw [if_neg (by omega)]
   go_enter Tryz.func35,Tryz.ntmps35
   go_wp2
   go_ret
   exact ⟨rfl,Gr.refl _⟩
  ·rw [if_pos (by omega)]
   go_enter Tryz.func35,Tryz.ntmps35
   go_wp2_with (go_at_call 62;refine c.mono ?_;rintro e w' ⟨rfl,g⟩)
   go_ret
   exact ⟨rfl,g⟩
end Go.Proofs.YtcipdampcmfmaaaGreat

namespace Go.Proofs.YtcipdampcmfmaaaGreat
open Go.RowKit Go.Sort Go.Maps
end Go.Proofs.YtcipdampcmfmaaaGreat

namespace Go.Proofs.YtcipdampcmfmaaaGreat
open Go.RowKit Go.Sort Go.Maps
end Go.Proofs.YtcipdampcmfmaaaGreat

namespace Go.Proofs.YtcipdampcmfmaaaGreat
open Go.RowKit Go.Sort Go.Maps
theorem ids_nd {rs:List Rw} {q:List Int} (h:askE rs q=0) {i j:Nat} (hi':i < rs.length) (hj:j < rs.length) (e:rs[i]!.1=rs[j]!.1):rs[i]! = rs[j]! := by
 have hp:=(askE_zero.1 h).2.ids
 rw [List.pairwise_iff_getElem] at hp
 by_cases hij:i=j
 ·rw [hij]
 ·exfalso
  have hi2:i < (idsOf rs).length:=by simpa [idsOf] using hi'
  have hj2:j < (idsOf rs).length:=by simpa [idsOf] using hj
  rcases Nat.lt_or_gt_of_ne hij with hlt | hlt
  ·exact hp i j hi2 hj2 hlt (by rw [ids_get hi',ids_get hj];exact e)
  ·exact hp j i hj2 hi2 hlt (by rw [ids_get hi',ids_get hj];exact e.symm)
theorem SoundP.ask {rs srs:List Rw} {q:List Int} {k:Nat} {a:Ans} (h:SoundP rs q k a srs) (hask:askE rs q=0):askE srs q=0:=by
 obtain ⟨h1,h2⟩:=askE_zero.1 hask
 have hl:a.seen.length<=rs.length:=by
  have:=h.all.length_eq
  unfold allIds at this
  rw [List.length_append] at this
  simp only [idsOf,List.length_map] at this
  omega
 have hsl:srs.length=a.seen.length:=by rw [<- h.ids];simp [idsOf]
 refine askE_zero.2 ⟨h1,⟨by have:=h2.few;omega,?_,fun r hr=>h2.row r (h.mem r hr)⟩⟩
 rw [h.ids]
 have hp:(allIds a).Pairwise (· ≠ ·):=(List.Perm.pairwise_iff (fun e=>Ne.symm e) h.all).2 h2.ids
 unfold allIds at hp
 exact (List.pairwise_append.1 hp).1
end Go.Proofs.YtcipdampcmfmaaaGreat

namespace Go.Proofs.YtcipdampcmfmaaaGreat
open Go.RowKit Go.Sort
def dnH (x:Tk.Ht):Nat:=(x.2.1 * 18446744073709551616 + x.2.2).toNat
def certB (q:List Int) (k:Nat) (a:Ans):Bool:=a.rest.isEmpty || (decide (k<=a.hits.length) && a.rest.all fun r=>decide (dnH a.hits[k - 1]! < bdV r q))
end Go.Proofs.YtcipdampcmfmaaaGreat

namespace Go.Proofs.YtcipdampcmfmaaaGreat
open Go.RowKit Go.Sort
def srtR (rs:List Rw):List Rw:=rs.mergeSort fun a b=>decide (a.1<=b.1)
theorem srtR_perm (rs:List Rw):(srtR rs).Perm rs:=List.mergeSort_perm rs _
theorem srtR_ids (rs:List Rw):idsOf (srtR rs)=srt (idsOf rs):=by
 refine srtI_unique _ _ ?_ (srt_srtI _) (((srtR_perm rs).map _).trans (srt_perm _).symm)
 have h:=List.pairwise_mergeSort (le:=fun a b:Rw=>decide (a.1<=b.1)) (fun a b c h1 h2=>by simp at *;omega) (fun a b=>by simp;omega) rs
 unfold SrtI idsOf srtR
 rw [List.pairwise_map]
 exact h.imp fun h=>by simpa using h
theorem srt_lt {l:List Int} (h:l.Pairwise (· ≠ ·)):∀ i,i + 1 < (srt l).length->(srt l)[i]! < (srt l)[i + 1]! := fun i hi=>by
 have h1:=srt_srtI l
 have h2:(srt l).Pairwise (· ≠ ·):=(List.Perm.pairwise_iff (fun e=>Ne.symm e) (srt_perm l)).2 h
 unfold SrtI at h1
 have a:=List.pairwise_iff_getElem.1 h1 i (i + 1) (by omega) hi (by omega)
 have b:=List.pairwise_iff_getElem.1 h2 i (i + 1) (by omega) hi (by omega)
 rw [getElem!_pos (srt l) i (by omega),getElem!_pos (srt l) (i + 1) hi]
 omega
theorem rise_of {l:List Int} (h:l.Pairwise (· ≠ ·)) (hok:∀ x ∈ l,okId x=true):rise (srt l)=true:=by
 unfold rise
 have key:∀ q,q<=(srt l).length->riseTo (srt l) q=true:=by
  intro q
  induction q with
  | zero=>intro _;rfl
  | succ q ih =>
   intro hq
   rw [riseTo,ih (by omega),Bool.true_and]
   unfold okAt
   have h1:okId (srt l)[q]! = true:=by
    rw [getElem!_pos (srt l) q (by omega)]
    exact hok _ ((srt_perm l).subset (List.getElem_mem _))
   rw [h1,Bool.true_and]
   cases q with
   | zero=>rfl
   | succ j =>
    have:=srt_lt h j (by omega)
    rw [Bool.or_eq_true]
    exact .inr (decide_eq_true (by rw [Nat.add_sub_cancel];exact this))
 exact key _ (Nat.le_refl _)
end Go.Proofs.YtcipdampcmfmaaaGreat
