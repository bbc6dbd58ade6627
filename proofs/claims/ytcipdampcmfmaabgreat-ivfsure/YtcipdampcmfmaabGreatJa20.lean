import Derived.Test.YtcipdampcmfmaabGreatJa18
import Derived.Test.YtcipdampcmfmaabGreatJa10
import Derived.Test.YtcipdampcmfmaabGreatJa9
import Derived.Maps.OwnIn
import Derived.Test.YtcipdampcmfmaabGreatJa0
import Derived.Test.YtcipdampcmfmaabGreatJa1
import Derived.Test.YtcipdampcmfmaabGreatJa8
import Derived.Test.YtcipdampcmfmaabGreatJa17
import Derived.Maps.AppendAt
import Derived.Test.YtcipdampcmfmaabGreatJa4
namespace Go.Proofs.YtcipdampcmfmaabGreat
open Go.RowKit Go.Sort
end Go.Proofs.YtcipdampcmfmaabGreat

namespace Go.Proofs.YtcipdampcmfmaabGreat
open Go.RowKit Go.Sort
def HA (W:World) (g n cap:Nat) (f:Nat->Tk.Ht):Prop :=
 ∃ cur:Array Value,W.heap[g]? = some (.cells cur 58 (0,0))/\cur.size=cap * 3/\n<=cap/\cap<=maxLen/\∀ i,i < n->cur[i * 3]? = some (.int .i64 (f i).1)/\cur[i * 3 + 1]? = some (.int .u64 (f i).2.1)/\cur[i * 3 + 2]? = some (.int .u64 (f i).2.2)
theorem HA.lt {W:World} {g n cap:Nat} {f:Nat->Tk.Ht} (h:HA W g n cap f):g < W.heap.size:=by
 obtain ⟨cur,h1,_⟩:=h;exact (Array.getElem?_eq_some_iff.1 h1).1
theorem HA.cell {W:World} {g n cap:Nat} {f:Nat->Tk.Ht} (h:HA W g n cap f) {i:Nat} (hi:i < n):W.cell? ⟨g,i * 3,none⟩=some (.int .i64 (f i).1)/\W.cell? ⟨g,i * 3 + 1,none⟩=some (.int .u64 (f i).2.1)/\W.cell? ⟨g,i * 3 + 2,none⟩=some (.int .u64 (f i).2.2):=by
 obtain ⟨cur,h1,_,_,_,h4⟩:=h
 obtain ⟨a,b,c⟩:=h4 i hi
 simp [World.cell?,h1,a,b,c]
theorem HA.frozen {W:World} {g n cap:Nat} {f:Nat->Tk.Ht} (h:HA W g n cap f) (o:Nat):W.frozen? ⟨g,o,none⟩=false:=by
 obtain ⟨cur,h1,_⟩:=h
 simp [World.frozen?,h1]
theorem HA.block {W W':World} {g n cap:Nat} {f:Nat->Tk.Ht} (h:HA W g n cap f) (e:W'.heap[g]? = W.heap[g]?):HA W' g n cap f:=by
 obtain ⟨cur,h1,h2⟩:=h
 exact ⟨cur,e.trans h1,h2⟩
theorem HA.congr {W:World} {g n cap:Nat} {f f':Nat->Tk.Ht} (h:HA W g n cap f) (e:∀ i,i < n->f i=f' i):HA W g n cap f':=by
 obtain ⟨cur,h1,h2,h3,h4,h5⟩:=h
 exact ⟨cur,h1,h2,h3,h4,fun i hi=>by rw [<- e i hi];exact h5 i hi⟩
theorem HA.set {W:World} {g n cap:Nat} {f:Nat->Tk.Ht} (h:HA W g n cap f) {i:Nat} (hi:i < n) (x:Tk.Ht) :
  HA (((W.setCell ⟨g,i * 3,none⟩ (.int .i64 x.1)).setCell ⟨g,i * 3 + 1,none⟩ (.int .u64 x.2.1)).setCell ⟨g,i * 3 + 2,none⟩ (.int .u64 x.2.2)) g n cap (fun t=>if t=i then x else f t):=by
 obtain ⟨cur,h1,h2,h3,h4,h5⟩:=h
 refine ⟨((cur.setIfInBounds (i * 3) (.int .i64 x.1)).setIfInBounds (i * 3 + 1) (.int .u64 x.2.1)).setIfInBounds (i * 3 + 2) (.int .u64 x.2.2),?_,by simpa using h2,h3,h4,fun t ht=>?_⟩
 ·simp [World.setCell,Array.getElem?_modify,h1]
 ·by_cases e:t=i
  ·subst e
   simp only [if_true]
   refine ⟨?_,?_,?_⟩
   ·rw [Array.getElem?_setIfInBounds_ne (by omega),Array.getElem?_setIfInBounds_ne (by omega),Array.getElem?_setIfInBounds_self_of_lt (by omega)]
   ·rw [Array.getElem?_setIfInBounds_ne (by omega),Array.getElem?_setIfInBounds_self_of_lt (by simp;omega)]
   ·rw [Array.getElem?_setIfInBounds_self_of_lt (by simp;omega)]
  ·simp only [if_neg e]
   obtain ⟨a,b,c⟩:=h5 t ht
   refine ⟨?_,?_,?_⟩
   ·rw [Array.getElem?_setIfInBounds_ne (by omega),Array.getElem?_setIfInBounds_ne (by omega),Array.getElem?_setIfInBounds_ne (by omega)];exact a
   ·rw [Array.getElem?_setIfInBounds_ne (by omega),Array.getElem?_setIfInBounds_ne (by omega),Array.getElem?_setIfInBounds_ne (by omega)];exact b
   ·rw [Array.getElem?_setIfInBounds_ne (by omega),Array.getElem?_setIfInBounds_ne (by omega),Array.getElem?_setIfInBounds_ne (by omega)];exact c
theorem own_of_ha {W:World} {g cap:Nat} {l:List Tk.Ht} {f:Nat->Tk.Ht} (h:HA W g l.length cap f) (e:∀ i,i < l.length->f i=l[i]!):Tk.Own W (.slice (some ⟨g,0,none⟩) l.length cap) l.toArray:=by
 obtain ⟨cur,h1,h2,h3,h4,h5⟩:=h
 refine ⟨by rw [Tk.fl_len];simp,.inr ⟨g,cap,cur,by simp,Nat.zero_le _,h1,by simpa using h3,h4,h2,?_⟩⟩
 simp only [List.size_toArray]
 apply List.ext_getElem?
 intro j
 by_cases hj:j < l.length * 3
 ·obtain ⟨i,c,hc,rfl⟩:∃ i c,c < 3/\j=i * 3 + c:=⟨j / 3,j % 3,by omega,by omega⟩
  have hi:i < l.length:=by omega
  rw [List.getElem?_take_of_lt hj,Array.getElem?_toList,Tk.fl_get l i c hi hc]
  obtain ⟨a,b,d⟩:=h5 i hi
  rw [e i hi,getElem!_pos l i hi] at a b d
  rcases c with _ | _ | _ | c
  ·rw [Nat.add_zero];exact a
  ·exact b
  ·exact d
  ·omega
 ·rw [List.getElem?_eq_none (by rw [List.length_take];omega),List.getElem?_eq_none (by rw [Tk.fl_len];simpa using hj)]
end Go.Proofs.YtcipdampcmfmaabGreat

namespace Go.Proofs.YtcipdampcmfmaabGreat
open Go.RowKit Go.Shelf Go.Sort Go.Lib
attribute [local go_sem] Oper.semAt_some
end Go.Proofs.YtcipdampcmfmaabGreat

namespace Go.Proofs.YtcipdampcmfmaabGreat
open Go.RowKit Go.Shelf Go.Sort Go.Lib
attribute [local go_sem] Oper.semAt_some
def RadBox (W:World) (p:Nat) (rh rl:Int):Prop:=W.heap[p]? = some (.cells #[.int .u64 rh,.int .u64 rl] 40 (0,0))
theorem RadBox.cells {W:World} {p:Nat} {rh rl:Int} (h:RadBox W p rh rl):W.cell? ⟨p,0,none⟩=some (.int .u64 rh)/\W.cell? ⟨p,1,none⟩=some (.int .u64 rl):=by
 have e:W.heap[p]? = _:=h
 refine ⟨?_,?_⟩ <;> simp [World.cell?,e]
theorem RadBox.gb {W W':World} {p:Nat} {rh rl:Int} (h:RadBox W p rh rl) (g:Gb W W'):RadBox W' p rh rl:=gb_same g h
theorem Boxed.gb {W W':World} {B:Nat} {t:TypeId} {v:Value} (h:Boxed W B t v) (g:Gb W W'):Boxed W' B t v:=gb_same g h
end Go.Proofs.YtcipdampcmfmaabGreat

namespace Go.Proofs.YtcipdampcmfmaabGreat
open Go.RowKit Go.Sort
structure UpSt (w W:World) (v:Value) (l:List Int):Prop where
 row:Own W w.heap.size v l
 gb:Gb w W
theorem UpSt.alloc {w W:World} {v:Value} {l:List Int} (h:UpSt w W v l) (o:Obj):UpSt w (W.alloc o) v l :=
 ⟨World.ownsRow.alloc h.row o,gb_alloc h.gb o⟩
theorem UpSt.next {w W W2:World} {v v':Value} {l:List Int} {x:Int} (h:UpSt w W v l)
  (hr:W2.ownsRow w.heap.size 3 1 v' (l.length + 1) (l.map (Value.int .i64) ++ [.int .i64 x])) (hg2:W.grownBy W2 v.ownBlock):UpSt w W2 v' (l ++ [x]):=by
 refine ⟨?_,below_grown h.gb hg2 (fun k e=>(World.ownsRow.lt h.row k e).1) h.gb.size⟩
 unfold Own
 rw [List.length_append,List.map_append]
 exact hr
end Go.Proofs.YtcipdampcmfmaabGreat

namespace Go.Proofs.YtcipdampcmfmaabGreat
open Go.RowKit Go.Sort
theorem grown_setCell (w:World) (p:Addr) (u:Value):w.grownBy (w.setCell p u) (some p.block) :=
 ⟨rfl,rfl,rfl,by simp [World.setCell],fun k _ hn=>Below.heap_setCell _ _ _ _ (by rintro rfl;exact hn rfl)⟩
def RestAt (w:World) (B:Nat) (v:Value) (rs:List Rw):Prop:=(rs=[]/\v=.slice none 0 0) ∨ rs ≠ []/\∃ vi g,v=.slice (some ⟨g,0,none⟩) 1 1/\B<=g /\
 w.heap[g]? = some (.cells #[.int .i64 1,.slice none 0 0,.slice none 0 0,.int .u64 0,.int .u64 0,vi] 98 (0,0))/\Own w B vi (srt (idsOf rs))
theorem RestAt.grown {w w':World} {B:Nat} {v:Value} {rs:List Rw} {b:Nat} (h:RestAt w B v rs) (g:w.grownBy w' (some b)) (hb:b < B):RestAt w' B v rs:=by
 rcases h with h | ⟨h0,vi,x,h1,h2,h3,h4⟩
 ·exact .inl h
 ·refine .inr ⟨h0,vi,x,h1,h2,(g.block x (Array.getElem?_eq_some_iff.1 h3).1 (by simp;omega)).trans h3,h4.kept g (.inr fun e=>?_)⟩
  have:=(World.ownsRow.lt h4 b e).1
  omega
def AnsB (w w':World) (B1 B2:Nat) (vh vs vr:Value) (rs:List Rw) (q:List Int) (k c:Nat):Prop:=w.heap.size<=B1/\B1<=B2/\B2<=w'.heap.size/\Gb w w'/\Tk.Own w' vh (Tk.firsts k (hitsOf q (rs.take c))).toArray /\
 (∀ g,vh.ownBlock=some g->w.heap.size<=g/\g < B1)/\Own w' B1 vs (srt (idsOf (rs.take c)))/\(∀ g,vs.ownBlock=some g->g < B2)/\RestAt w' B2 vr (rs.drop c)
theorem AnsB.set {w w':World} {B1 B2:Nat} {vh vs vr:Value} {rs:List Rw} {q:List Int} {k c:Nat} (h:AnsB w w' B1 B2 vh vs vr rs q k c) (hne:vh.ownBlock ≠ some w.heap.size) (h1:vs.ownBlock ≠ some w.heap.size) (h2:w.heap.size < B2) (o:Nat) (u:Value) :
  AnsB w (w'.setCell ⟨w.heap.size,o,none⟩ u) B1 B2 vh vs vr rs q k c:=by
 obtain ⟨b1,b2,b3,g,t,b4,b5,b6,b7⟩:=h
 have gs:=grown_setCell w' ⟨w.heap.size,o,none⟩ u
 refine ⟨b1,b2,by have:=gs.size;omega,gb_set g (Nat.le_refl _) u,?_,b4,b5.kept gs (.inr h1),b6,b7.grown gs h2⟩
 exact Tk.own_kp t (Tk.Kp.grown gs) fun x hx e=>hne (by rw [hx,e])
end Go.Proofs.YtcipdampcmfmaabGreat

namespace Go.Proofs.YtcipdampcmfmaabGreat
open Go.RowKit Go.Sort
end Go.Proofs.YtcipdampcmfmaabGreat

namespace Go.Proofs.YtcipdampcmfmaabGreat
open Go.RowKit Go.Sort
def RdL (w:World) (v:Value) (l:List Reg):Prop:=∃ a cap,v=.slice a l.length cap/\∀ i (hi':i < l.length),∃ b o vl vh vi,a=some ⟨b,o,none⟩ /\
 w.cell? ⟨b,o + i * 6,none⟩=some (.int .i64 l[i].S)/\w.cell? ⟨b,o + i * 6 + 1,none⟩=some vl/\w.cell? ⟨b,o + i * 6 + 2,none⟩=some vh/\w.cell? ⟨b,o + i * 6 + 3,none⟩=some (.int .u64 (hi l[i].R)) /\
 w.cell? ⟨b,o + i * 6 + 4,none⟩=some (.int .u64 (lo l[i].R))/\w.cell? ⟨b,o + i * 6 + 5,none⟩=some vi/\RdI w vl l[i].L/\RdI w vh l[i].H/\RdI w vi l[i].I
theorem RdL.gb {w w':World} {v:Value} {l:List Reg} (h:RdL w v l) (g:Gb w w'):RdL w' v l:=by
 obtain ⟨a,cap,e,h⟩:=h
 refine ⟨a,cap,e,fun i hi'=>?_⟩
 obtain ⟨b,o,vl,vh,vi,e0,c0,c1,c2,c3,c4,c5,r1,r2,r3⟩:=h i hi'
 exact ⟨b,o,vl,vh,vi,e0,gb_keeps g c0,gb_keeps g c1,gb_keeps g c2,gb_keeps g c3,gb_keeps g c4,gb_keeps g c5,r1.gb g,r2.gb g,r3.gb g⟩
theorem rdl_nil (w:World):RdL w (.slice none 0 0) []:=⟨none,0,rfl,fun _ hi'=>absurd hi' (Nat.not_lt_zero _)⟩
end Go.Proofs.YtcipdampcmfmaabGreat

namespace Go.Proofs.YtcipdampcmfmaabGreat
open Go.RowKit Go.Sort Go.Maps
end Go.Proofs.YtcipdampcmfmaabGreat

namespace Go.Proofs.YtcipdampcmfmaabGreat
open Go.RowKit Go.Shelf Go.Sort Go.Lib
attribute [local go_sem] Oper.semAt_some
end Go.Proofs.YtcipdampcmfmaabGreat

namespace Go.Proofs.YtcipdampcmfmaabGreat
open Go.RowKit Go.Sort
def srtR (rs:List Rw):List Rw:=rs.mergeSort fun a b=>decide (a.1<=b.1)
theorem srtR_perm (rs:List Rw):(srtR rs).Perm rs:=List.mergeSort_perm rs _
theorem srtR_ids (rs:List Rw):idsOf (srtR rs)=srt (idsOf rs):=by
 refine srtI_unique _ _ ?_ (srt_srtI _) (((srtR_perm rs).map _).trans (srt_perm _).symm)
 have h:=List.pairwise_mergeSort (le:=fun a b:Rw=>decide (a.1<=b.1)) (fun a b c h1 h2=>by simp at *;omega) (fun a b=>by simp;omega) rs
 unfold SrtI idsOf srtR
 rw [List.pairwise_map]
 exact h.imp fun h=>by simpa using h
theorem srt_lt {l:List Int} (h:l.Pairwise (· ≠ ·)):∀ i,i + 1 < (srt l).length->(srt l)[i]! < (srt l)[i + 1]! := fun i hi=>by
 have h1:=srt_srtI l
 have h2:(srt l).Pairwise (· ≠ ·):=(List.Perm.pairwise_iff (fun e=>Ne.symm e) (srt_perm l)).2 h
 unfold SrtI at h1
 have a:=List.pairwise_iff_getElem.1 h1 i (i + 1) (by omega) hi (by omega)
 have b:=List.pairwise_iff_getElem.1 h2 i (i + 1) (by omega) hi (by omega)
 rw [getElem!_pos (srt l) i (by omega),getElem!_pos (srt l) (i + 1) hi]
 omega
theorem rise_of {l:List Int} (h:l.Pairwise (· ≠ ·)) (hok:∀ x ∈ l,okId x=true):rise (srt l)=true:=by
 unfold rise
 have key:∀ q,q<=(srt l).length->riseTo (srt l) q=true:=by
  intro q
  induction q with
  | zero=>intro _;rfl
  | succ q ih =>
   intro hq
   rw [riseTo,ih (by omega),Bool.true_and]
   unfold okAt
   have h1:okId (srt l)[q]! = true:=by
    rw [getElem!_pos (srt l) q (by omega)]
    exact hok _ ((srt_perm l).subset (List.getElem_mem _))
   rw [h1,Bool.true_and]
   cases q with
   | zero=>rfl
   | succ j =>
    have:=srt_lt h j (by omega)
    rw [Bool.or_eq_true]
    exact .inr (decide_eq_true (by rw [Nat.add_sub_cancel];exact this))
 exact key _ (Nat.le_refl _)
end Go.Proofs.YtcipdampcmfmaabGreat

namespace Go.Proofs.YtcipdampcmfmaabGreat
structure SBk (lt:Int->Int->Prop) (l l1:List Int) (n s:Nat):Prop where
 perm:l1.Perm l
 run:∀ p,s ∣ p->Ri lt l1 p (min (p + s) n)
 loc:∀ p,s ∣ p->∀ i,p<=i->i < min (p + s) n->∃ j,(p<=j/\j < min (p + s) n)/\l1[i]! = l[j]!
structure Pa (lt:Int->Int->Prop) (l l0 l1:List Int) (n t a:Nat):Prop where
 perm:l1.Perm l
 run:∀ p,t ∣ p->p < a->Ri lt l1 p (min (p + t) n)
 loc:∀ p,t ∣ p->p < a->∀ i,p<=i->i < min (p + t) n->∃ j,(p<=j/\j < min (p + t) n)/\l1[i]! = l[j]!
 rest:∀ i,a<=i->l1[i]! = l0[i]!
theorem Pa.start {lt:Int->Int->Prop} {l l0:List Int} {n t:Nat} (h:l0.Perm l):Pa lt l l0 l0 n t 0 :=
 ⟨h,fun _p _ h=>absurd h (Nat.not_lt_zero _),fun _p _ h=>absurd h (Nat.not_lt_zero _),fun _ _=>rfl⟩
theorem dvd_next {t p a:Nat} (hp:t ∣ p) (ha:t ∣ a) (h:a < p):a + t<=p:=by
 have h1:t ∣ p - a:=Nat.dvd_sub hp ha
 have:=Nat.le_of_dvd (by omega) h1
 omega
theorem Pa.step {lt:Int->Int->Prop} {l l0 l1 l2:List Int} {n t a:Nat} (h:Pa lt l l0 l1 n t a) (ht:0 < t) (hta:t ∣ a) (han:a<=n) (hn:n<=l.length) (hs:Seg l1 l2 a (min (a + t) n)) (hr:Ri lt l2 a (min (a + t) n))
  (hl:∀ i,a<=i->i < min (a + t) n->∃ j,(a<=j/\j < min (a + t) n)/\l0[i]! = l[j]!):Pa lt l l0 l2 n t (a + t):=by
 have hlen:=h.perm.length_eq
 have old:∀ p,t ∣ p->p < a->∀ i,i < min (p + t) n->l2[i]! = l1[i]! := fun p hp hpa i hi=>hs.out i (Or.inl (by have:=dvd_next hta hp hpa;omega))
 have one:∀ p,t ∣ p->p < a + t->¬ p < a->p=a:=fun p hp h1 h2=>by
  by_cases h3:a < p
  ·have:=dvd_next hp hta h3;omega
  ·omega
 refine ⟨hs.perm.trans h.perm,fun p hp hpa=>?_,fun p hp hpa i h1 h2=>?_,fun i hi=>(hs.out i (by omega)).trans (h.rest i (by omega))⟩
 ·by_cases hlt:p < a
  ·intro i j h1 h2 h3
   rw [old p hp hlt i (by omega),old p hp hlt j h3]
   exact h.run p hp hlt i j h1 h2 h3
  ·obtain rfl:=one p hp hpa hlt
   exact hr
 ·by_cases hlt:p < a
  ·rw [old p hp hlt i h2]
   exact h.loc p hp hlt i h1 h2
  ·obtain rfl:=one p hp hpa hlt
   obtain ⟨k,hk,e⟩:=hs.mem (by omega) (by omega) (i:=i) ⟨h1,h2⟩
   rw [e,h.rest k hk.1]
   exact hl k hk.1 hk.2
theorem Pa.fin {lt:Int->Int->Prop} {l l0 l1:List Int} {n t a:Nat} (h:Pa lt l l0 l1 n t a) (hna:n<=a):SBk lt l l1 n t:=by
 refine ⟨h.perm,fun p hp=>?_,fun p hp i h1 h2=>?_⟩
 ·by_cases hpa:p < a
  ·exact h.run p hp hpa
  ·intro i j h1 h2 h3;omega
 ·by_cases hpa:p < a
  ·exact h.loc p hp hpa i h1 h2
  ·omega
theorem SBk.pre {c lt:Int->Int->Prop} {l l0 l1:List Int} {n s a b:Nat} (h:SBk lt l l0 n s) (hT:Tag c lt l 0 n) (hs:0 < s) (hsa:s ∣ a) (hb:b=min (a + 2 * s) n) (hmn:a + s < n) (hrest:∀ i,a<=i->l1[i]! = l0[i]!):PreM c lt l1 a (a + s) b:=by
 have r1:=h.run a hsa
 have r2:=h.run (a + s) (Nat.dvd_add hsa (Nat.dvd_refl s))
 have q1:=h.loc a hsa
 have q2:=h.loc (a + s) (Nat.dvd_add hsa (Nat.dvd_refl s))
 refine ⟨fun i j h1 h2 h3=>?_,fun i j h1 h2 h3=>?_,fun i j h1 h2 h3 h4=>?_⟩
 ·rw [hrest i h1,hrest j (by omega)]
  exact r1 i j h1 h2 (by omega)
 ·rw [hrest i (by omega),hrest j (by omega)]
  exact r2 i j h1 h2 (by omega)
 ·rw [hrest i h1,hrest j (by omega)]
  obtain ⟨i',hi',e1⟩:=q1 i h1 (by omega)
  obtain ⟨j',hj',e2⟩:=q2 j h3 (by omega)
  rw [e1,e2]
  exact hT i' j' (Nat.zero_le _) (by omega) (by omega)
theorem SBk.two {lt:Int->Int->Prop} {l l0:List Int} {n s a:Nat} (h:SBk lt l l0 n s) (hsa:s ∣ a) (i:Nat) (h1:a<=i) (h2:i < min (a + 2 * s) n):∃ j,(a<=j/\j < min (a + 2 * s) n)/\l0[i]! = l[j]! := by
 by_cases hi:i < a + s
 ·obtain ⟨j,hj,e⟩:=h.loc a hsa i h1 (by omega)
  exact ⟨j,by omega,e⟩
 ·obtain ⟨j,hj,e⟩:=h.loc (a + s) (Nat.dvd_add hsa (Nat.dvd_refl s)) i (by omega) (by omega)
  exact ⟨j,by omega,e⟩
theorem SBk.alone {lt:Int->Int->Prop} {l l0 l1:List Int} {n s a:Nat} (h:SBk lt l l0 n s) (hsa:s ∣ a) (hmn:n<=a + s) (hrest:∀ i,a<=i->l1[i]! = l0[i]!):Ri lt l1 a (min (a + 2 * s) n):=by
 intro i j h1 h2 h3
 rw [hrest i h1,hrest j (by omega)]
 exact h.run a hsa i j h1 h2 (by omega)
theorem SBk.done {lt:Int->Int->Prop} {l l0:List Int} {n s:Nat} (h:SBk lt l l0 n s) (hn:n<=s):Ri lt l0 0 n:=by
 have:=h.run 0 (Nat.dvd_zero s)
 rw [show min (0 + s) n=n by omega] at this
 exact this
end Go.Proofs.YtcipdampcmfmaabGreat

namespace Go.Proofs.YtcipdampcmfmaabGreat
open Go.RowKit Go.Sort
set_option maxRecDepth 100000
set_option maxHeartbeats 8000000
theorem Tag.part {c lt:Int->Int->Prop} {l l1:List Int} {a b n:Nat} (h:Tag c lt l 0 n) (he:∀ i,a<=i->l1[i]! = l[i]!) (hb:b<=n):Tag c lt l1 a b:=fun i j h1 h2 h3=>by
 rw [he i h1,he j (by omega)]
 exact h i j (Nat.zero_le _) h2 (by omega)
theorem stableI {w:World} {g o cap bf:Nat} {l:List Int} {c lt:Int->Int->Prop} (ht:∀ x y z,lt x y->lt y z->lt x z) (h:IA w g o l) (hl:l.length<=4000) (hT:Tag c lt l 0 l.length) (hc:CmpI w g bf l c) :
  Calls Tryz.prog 81 #[.slice (some ⟨g,o,none⟩) l.length cap,.int .i64 (l.length:Int),.func (.func 53) #[] #[.pointer (some ⟨bf,0,none⟩)]] w fun e w'=>e=.returned (.tuple #[])/\∃ l',l'.Perm l/\Ri lt l' 0 l.length/\IA w' g o l'/\Tk.Kp (fun k=>k=g) w w':=by
 obtain ⟨n,hn⟩:∃ n,n=l.length:=⟨_,rfl⟩
 have N:Hid (n=l.length):=hn
 have INS:Hid (∀ (W:World) (l1:List Int) (a b:Nat),l1.Perm l->a<=b->b<=n->IA W g o l1->Tk.Kp (fun k=>k=g) w W->Tag c lt l1 a b->Calls Tryz.prog 124 #[.slice (some ⟨g,o,none⟩) n cap,.int .i64 (a:Int),.int .i64 (b:Int),.func (.func 53) #[] #[.pointer (some ⟨bf,0,none⟩)]] W fun e w'=>e=.returned (.tuple #[])/\∃ l',Seg l1 l' a b/\Ri lt l' a b/\IA w' g o l'/\Tk.Kp (fun k=>k=g) W w'):=fun W l1 a b hp h1 h2 h3 h4 h5=>by
  have q:=smInsI (cap:=cap) ht h3 (by rw [hp.length_eq];exact hl) h1 (by rw [hp.length_eq];omega) h5 (hc.later h4 hp)
  rw [hp.length_eq,<- hn] at q
  exact q
 have SYM:Hid (∀ (W:World) (l1:List Int) (a m b:Nat),l1.Perm l->a < m->m < b->b<=n->IA W g o l1->Tk.Kp (fun k=>k=g) w W->PreM c lt l1 a m b->Calls Tryz.prog 125 #[.slice (some ⟨g,o,none⟩) n cap,.int .i64 (a:Int),.int .i64 (m:Int),.int .i64 (b:Int),.func (.func 53) #[] #[.pointer (some ⟨bf,0,none⟩)]] W fun e w'=>e=.returned (.tuple #[])/\∃ l',Seg l1 l' a b/\Ri lt l' a b/\IA w' g o l'/\Tk.Kp (fun k=>k=g) W w'):=fun W l1 a m b hp h1 h2 h3 h4 h5 h6=>by
  have q:=symI (cap:=cap) ht (b - a) a m b l1 W (Nat.le_refl _) h1 h2 (by rw [hp.length_eq];omega) (by rw [hp.length_eq];exact hl) h4 h6 (hc.later h5 hp)
  rw [hp.length_eq,<- hn] at q
  exact q
 have TG:Hid (Tag c lt l 0 n):=by unfold Hid;rw [hn];exact hT
 have H0:Hid (IA w g o l):=h
 rw [<- hn] at hl ⊢
 have hnl:Hid (n<=l.length):=Nat.le_of_eq hn
 clear h hc hT ht hn
 go_enter Tryz.func81,Tryz.ntmps81
 go_wp2
 go_loopw [7,8] (fun av bv W0=>∃ (W:World) (_:W=W0) (a b:Nat) (l1:List Int),av=.int .i64 (a:Int)/\bv=.int .i64 (b:Int)/\a<=n/\b<=n + 20/\Hid (b=a + 20/\20 ∣ a/\Pa lt l l l1 n 20 a/\IA W g o l1/\Tk.Kp (fun k=>k=g) w W)) (fun av _ _=>n + 1 - (intOf av).toNat)
 case atStart=>exact ⟨_,rfl,0,20,l,rfl,rfl,Nat.zero_le _,by omega,rfl,⟨0,rfl⟩,Pa.start (List.Perm.refl _),H0.out,Tk.Kp.refl _ _⟩
 case round =>
  obtain ⟨W,hW,a,b,l1,rfl,rfl,han,hbn,X⟩:=hrel
  subst hW
  by_cases hb:b<=n
  ·have hbi:(b:Int)<=(n:Int):=by omega
   have S:=INS.out W l1 a b X.out.2.2.1.perm (by have:=X.out.1;omega) hb X.out.2.2.2.1 X.out.2.2.2.2 (TG.out.part X.out.2.2.1.rest hb)
   go_wp2_with fail
   refine S.mono ?_
   rintro e w1 ⟨rfl,l2,s2,i2,a2,k2⟩
   have Y:Hid (20 ∣ b/\Pa lt l l l2 n 20 b/\IA w1 g o l2/\Tk.Kp (fun k=>k=g) w w1):=by
    have e1:=X.out.1
    have e2:min (a + 20) n=b:=by omega
    have q:=X.out.2.2.1.step (by decide) X.out.2.1 han hnl.out (by rw [e2];exact s2) (by rw [e2];exact i2) (fun i h1 h2=>⟨i,⟨h1,h2⟩,rfl⟩)
    rw [<- e1] at q
    exact ⟨by rw [e1];exact Nat.dvd_add X.out.2.1 (Nat.dvd_refl _),q,a2,X.out.2.2.2.2.trans k2⟩
   have hab:Hid (a < b):=by have:=X.out.1;unfold Hid;omega
   clear S s2 i2 a2 k2 X
   go_wp2
   go_roundw
   case rel=>exact ⟨_,rfl,b,b + 20,l2,rfl,by go_num,hb,by omega,rfl,Y.out⟩
   case measure=>have:=hab.out;simp [intOf];omega
  ·have hbi:¬ (b:Int)<=(n:Int):=by omega
   have S:=INS.out W l1 a n X.out.2.2.1.perm han (Nat.le_refl _) X.out.2.2.2.1 X.out.2.2.2.2 (TG.out.part X.out.2.2.1.rest (Nat.le_refl _))
   go_wp2_with fail
   refine S.mono ?_
   rintro e w1 ⟨rfl,l2,s2,i2,a2,k2⟩
   have Y:Hid (SBk lt l l2 n 20/\IA w1 g o l2/\Tk.Kp (fun k=>k=g) w w1):=by
    have e1:=X.out.1
    have e2:min (a + 20) n=n:=by omega
    have q:=X.out.2.2.1.step (by decide) X.out.2.1 han hnl.out (by rw [e2];exact s2) (by rw [e2];exact i2) (fun i h1 h2=>⟨i,⟨h1,h2⟩,rfl⟩)
    exact ⟨q.fin (by omega),a2,X.out.2.2.2.2.trans k2⟩
   clear S s2 i2 a2 k2 X
   go_wp2
   go_loopw [6] (fun sv W0=>∃ (W:World) (_:W=W0) (s:Nat) (l3:List Int),sv=.int .i64 (s:Int)/\0 < s/\s<=2 * n + 20/\Hid (SBk lt l l3 n s/\IA W g o l3/\Tk.Kp (fun k=>k=g) w W)) (fun sv _=>n - (intOf sv).toNat)
   case atStart=>exact ⟨_,rfl,20,l2,rfl,by decide,by omega,Y.out⟩
   case round =>
    obtain ⟨W2,hW2,s,l3,rfl,hs0,hsn,Z⟩:=hrel
    subst hW2
    by_cases hsl:s < n
    ·have hsi:(s:Int) < (n:Int):=by omega
     obtain ⟨t,hte⟩:∃ t,t=2 * s:=⟨_,rfl⟩
     have et:2 * (s:Int)=(t:Int):=by omega
     have TT:Hid (t=2 * s):=hte
     have htn:t < 2 * n:=by omega
     have hst:s < t:=by omega
     clear hte
     go_wp2
     go_loopw [7,8] (fun av bv W0=>∃ (W:World) (_:W=W0) (a b:Nat) (l4:List Int),av=.int .i64 (a:Int)/\bv=.int .i64 (b:Int)/\a<=n/\b<=n + t/\Hid (b=a + t/\t ∣ a/\Pa lt l l3 l4 n t a/\IA W g o l4/\Tk.Kp (fun k=>k=g) w W)) (fun av _ _=>n + 1 - (intOf av).toNat)
     case atStart=>exact ⟨_,rfl,0,t,l3,rfl,rfl,Nat.zero_le _,by omega,by omega,Nat.dvd_zero _,Pa.start Z.out.1.perm,Z.out.2.1,Z.out.2.2⟩
     case round =>
      obtain ⟨W3,hW3,a,b,l4,rfl,rfl,han,hbn,V⟩:=hrel
      subst hW3
      have sa:Hid (s ∣ a):=by have q:=V.out.2.1;have e:=TT.out;rw [e] at q;exact Nat.dvd_trans ⟨2,by omega⟩ q
      obtain ⟨m,hme⟩:∃ m,m=a + s:=⟨_,rfl⟩
      have em:(a:Int) + (s:Int)=(m:Int):=by omega
      have MM:Hid (m=a + s):=hme
      have ham:a < m:=by omega
      clear hme
      by_cases hb:b<=n
      ·have hbi:(b:Int)<=(n:Int):=by omega
       have hmb:m < b:=by have:=V.out.1;have:=MM.out;omega
       have S:=SYM.out W3 l4 a m b V.out.2.2.1.perm ham hmb hb V.out.2.2.2.1 V.out.2.2.2.2 (by have e:=MM.out;rw [e];exact Z.out.1.pre TG.out hs0 sa.out (by have:=V.out.1;have:=TT.out;omega) (by omega) V.out.2.2.1.rest)
       go_wp2_with fail
       refine S.mono ?_
       rintro e w1 ⟨rfl,l5,s5,i5,a5,k5⟩
       have Y2:Hid (t ∣ b/\Pa lt l l3 l5 n t b/\IA w1 g o l5/\Tk.Kp (fun k=>k=g) w w1):=by
        have e1:=V.out.1
        have e2:min (a + t) n=b:=by omega
        have q:=V.out.2.2.1.step (by omega) V.out.2.1 han hnl.out (by rw [e2];exact s5) (by rw [e2];exact i5) (fun i h1 h2=>by have e:=TT.out;rw [e] at h2 ⊢;exact Z.out.1.two sa.out i h1 h2)
        rw [<- e1] at q
        exact ⟨by rw [e1];exact Nat.dvd_add V.out.2.1 (Nat.dvd_refl _),q,a5,V.out.2.2.2.2.trans k5⟩
       have hab:Hid (a < b):=by unfold Hid;omega
       clear S s5 i5 a5 k5 V
       go_wp2
       go_roundw
       case rel=>exact ⟨_,rfl,b,b + t,l5,rfl,by first | rfl | go_num,hb,by omega,rfl,Y2.out⟩
       case measure=>have:=hab.out;simp [intOf];omega
      ·have hbi:¬ (b:Int)<=(n:Int):=by omega
       have es:(s:Int) * 2=(t:Int):=by omega
       by_cases hm:m < n
       ·have hmi:(m:Int) < (n:Int):=by omega
        have S:=SYM.out W3 l4 a m n V.out.2.2.1.perm ham hm (Nat.le_refl _) V.out.2.2.2.1 V.out.2.2.2.2 (by have e:=MM.out;rw [e];exact Z.out.1.pre TG.out hs0 sa.out (by have:=V.out.1;have:=TT.out;omega) (by omega) V.out.2.2.1.rest)
        go_wp2_with fail
        refine S.mono ?_
        rintro e w1 ⟨rfl,l5,s5,i5,a5,k5⟩
        have Y2:Hid (SBk lt l l5 n t/\IA w1 g o l5/\Tk.Kp (fun k=>k=g) w w1):=by
         have e1:=V.out.1
         have e2:min (a + t) n=n:=by omega
         have q:=V.out.2.2.1.step (by omega) V.out.2.1 han hnl.out (by rw [e2];exact s5) (by rw [e2];exact i5) (fun i h1 h2=>by have e:=TT.out;rw [e] at h2 ⊢;exact Z.out.1.two sa.out i h1 h2)
         exact ⟨q.fin (by omega),a5,V.out.2.2.2.2.trans k5⟩
        clear S s5 i5 a5 k5 V
        go_wp2
        go_roundw
        case rel=>exact ⟨_,rfl,t,l5,by first | rfl | go_num,by omega,by omega,Y2.out⟩
        case measure=>simp [intOf];omega
       ·have hmi:¬ (m:Int) < (n:Int):=by omega
        have Y2:Hid (SBk lt l l4 n t/\IA W3 g o l4/\Tk.Kp (fun k=>k=g) w W3):=by
         have e1:=V.out.1
         have e0:=MM.out
         have e2:min (a + t) n=n:=by omega
         have rr:=Z.out.1.alone (l1:=l4) sa.out (by omega) V.out.2.2.1.rest
         rw [<- TT.out] at rr
         have q:=V.out.2.2.1.step (by omega) V.out.2.1 han hnl.out (Seg.refl _ _ _) rr (fun i h1 h2=>by have e:=TT.out;rw [e] at h2 ⊢;exact Z.out.1.two sa.out i h1 h2)
         exact ⟨q.fin (by omega),V.out.2.2.2.1,V.out.2.2.2.2⟩
        clear V
        go_wp2
        go_roundw
        case rel=>exact ⟨_,rfl,t,l4,by first | rfl | go_num,by omega,by omega,Y2.out⟩
        case measure=>simp [intOf];omega
    ·have hsi:¬ (s:Int) < (n:Int):=by omega
     go_wp2
     go_end0
     exact ⟨rfl,l3,Z.out.1.perm,Z.out.1.done (by omega),Z.out.2.1,Z.out.2.2⟩
theorem sortStableI {w:World} {g o cap bf:Nat} {l:List Int} {c lt:Int->Int->Prop} (ht:∀ x y z,lt x y->lt y z->lt x z) (h:IA w g o l) (hl:l.length<=4000) (hT:Tag c lt l 0 l.length) (hc:CmpI w g bf l c) :
  Calls Tryz.prog 52 #[.slice (some ⟨g,o,none⟩) l.length cap,.func (.func 53) #[] #[.pointer (some ⟨bf,0,none⟩)]] w fun e w'=>e=.returned (.tuple #[])/\∃ l',l'.Perm l/\Ri lt l' 0 l.length/\IA w' g o l'/\Tk.Kp (fun k=>k=g) w w':=by
 have S:=stableI (cap:=cap) ht h hl hT hc
 go_enter Tryz.func52,Tryz.ntmps52
 go_wp2_with fail
 refine S.mono ?_
 rintro e w1 ⟨rfl,q⟩
 go_wp2
 go_end0
 exact ⟨rfl,q⟩
end Go.Proofs.YtcipdampcmfmaabGreat

namespace Go.Proofs.YtcipdampcmfmaabGreat
open Go.RowKit Go.Sort Go.Maps
set_option maxRecDepth 100000
set_option maxHeartbeats 1000000
theorem app_run {o:Oper} {a:Act} {w:World} {K:Act->World->Prop} {Q:Exit->Act->World->Prop} (_hgd:o.guard=none) (s x:Operand) (t:TypeId)
  (ho:o.op=.call { callee:=.builtin .append,args:=#[s,x],argTypes:=#[t,t] }) (h:∃ v1 v2 v' w',a.eval s=v1/\a.eval x=v2/\(Builtin.append_ #[t,t] o.type #[v1,v2]).run Tryz.prog w=.ok v' w'/\K (a.put o.dst v') w') :
  Oper.wp Tryz.prog o a w K Q:=by
 obtain ⟨v1,v2,v',w',hs,hx,hr,h⟩:=h
 unfold Oper.wp execOp
 simp only [ho,resolve,invoke,builtin,Sem.run_bind,Sem.run_pure,Result.andThen_ok,List.map_toArray,List.map_cons,List.map_nil,hs,hx,hr]
 exact h
def OwnC (W:World) (B:Nat) (v:Value) (rs:List Rw):Prop:=v ≠ .slice none 0 0/\∃ xs,W.ownsRow B 45 2 v rs.length xs/\∀ i,i < rs.length->xs[i * 2]? = some (.int .i64 rs[i]!.1)/\∃ u,xs[i * 2 + 1]? = some u/\Own W B u rs[i]!.2
theorem OwnC.gb {W W':World} {B:Nat} {v:Value} {rs:List Rw} (h:OwnC W B v rs) (g:Gb W W'):OwnC W' B v rs:=by
 obtain ⟨hn,xs,h1,h2⟩:=h
 refine ⟨hn,xs,h1.kept (row:=none) ⟨g.os,g.tape,g.output,g.size,fun k hk _=>g.block k hk⟩ (by cases hv:v.ownBlock <;> simp),fun i hi=>?_⟩
 obtain ⟨a,u,b,c⟩:=h2 i hi
 exact ⟨a,u,b,c.gb g⟩
theorem OwnC.form {W:World} {B:Nat} {v:Value} {rs:List Rw} (h:OwnC W B v rs):∃ g cap,v=.slice (some ⟨g,0,none⟩) rs.length cap:=by
 obtain ⟨hn,xs,h,_⟩:=h
 rcases h.2 with ⟨e,h0⟩ | ⟨b,cap,cur,rfl,_⟩
 ·exact absurd e hn
 ·exact ⟨_,cap,rfl⟩
theorem OwnC.ownW {W:World} {B:Nat} {v:Value} {rs:List Rw} (h:OwnC W B v rs):OwnW W W B v rs:=by
 obtain ⟨_,xs,h1,h2⟩:=h
 refine ⟨xs,h1,fun i hi=>?_⟩
 obtain ⟨a,u,b,c⟩:=h2 i hi
 exact ⟨a,u,b,c.rd⟩
theorem OwnC.rdw {W:World} {B:Nat} {v:Value} {rs:List Rw} (h:OwnC W B v rs):RdW W v rs:=h.ownW.rdw (Below.refl _ _)
theorem own_neR {W:World} {B B' n:Nat} {u v:Value} {x:List Int} {xs:List Value} (h:Own W B u x) (r:W.ownsRow B' 45 2 v n xs):u.ownBlock=none ∨ u.ownBlock ≠ v.ownBlock:=by
 rcases h.2 with ⟨rfl,_⟩ | ⟨g,cap,cur,rfl,_,hh,_⟩
 ·exact .inl rfl
 ·refine .inr fun e=>?_
  rcases r.2 with ⟨rfl,_⟩ | ⟨g',cap',cur',rfl,_,hh',_⟩
  ·cases e
  ·cases e
   rw [hh] at hh'
   simp at hh'
theorem grown_cellC {W W':World} {row:Option Nat} (h:W.grownBy W' row) {p:Addr} {v:Value} (hc:W.cell? p=some v) (hne:row ≠ some p.block):W'.cell? p=some v:=by
 rw [World.cell?_of_block (h.block p.block (World.block_lt_of_cell? W p hc) (fun e=>hne e.symm))];exact hc
theorem OwnC.next {w W:World} {pv:Option Addr} {nv cv:Nat} {rs:List Rw} {x:Int} {l:List Int} {u:Value} (h:OwnC W w.heap.size (.slice pv nv cv) rs) (hn:rs.length<=4000) (g:Gb w W) (ho:Own W w.heap.size u l) :
  ∃ v' W',(Builtin.append_ #[22,22] 22 #[.slice pv nv cv,.slice (some ⟨W.heap.size,0,none⟩) 1 1]).run Tryz.prog (W.alloc (.cells #[.int .i64 x,u] 45))=.ok v' W'/\OwnC W' w.heap.size v' (rs ++ [(x,l)])/\Gb w W'/\∀ (p:Addr) (y:Value),(Value.slice pv nv cv).ownBlock ≠ some p.block->(W.alloc (.cells #[.int .i64 x,u] 45)).cell? p=some y->W'.cell? p=some y:=by
 obtain ⟨_,xs,h1,h2⟩:=h
 obtain ⟨i0,hi,hz0,hz1,hz2⟩:=info_partsW
 have hu:u.oneCell'=true:=by obtain ⟨a,c,rfl,_⟩:=ho.rd;rfl
 obtain ⟨v',W',hr,hown,hgrow,hnn,_⟩:=run_append_own_at (P:=Tryz.prog) (W.alloc (.cells #[.int .i64 x,u] 45)) w.heap.size 22 22 45 i0 (.agg #[.int .i64 0,.slice none 0 0]) 2 32 Tryz.underlying22 hi hz0 hz1 hz2 rfl (by decide)
  (.slice pv nv cv) rs.length xs (World.ownsRow.alloc h1 _) ⟨W.heap.size,0,none⟩ 1 1 [.int .i64 x,u] rfl (two_cells _ _ _ _) (by simp [Value.oneCell'];try exact hu) (by simp only [maxLen];omega) (by omega) (by rw [World.size_alloc];have:=g.size;omega)
 refine ⟨v',W',hr,⟨fun e=>absurd (hnn.1 e).2 (by decide),xs ++ [.int .i64 x,u],by rw [List.length_append];exact hown,fun i hi=>?_⟩,?_,fun p y hp hc=>grown_cellC hgrow hc hp⟩
 ·have kp:∀ {u':Value} {y:List Int},Own W w.heap.size u' y->Own W' w.heap.size u' y:=fun {u' y} ho'=>(ho'.gb (gb_alloc (Below.refl _ _) _)).kept hgrow (own_neR ho' h1)
  rw [List.length_append] at hi
  by_cases e:i < rs.length
  ·rw [getElem!_pos (rs ++ [(x,l)]) i (by rw [List.length_append];exact hi),List.getElem_append_left e,<- getElem!_pos rs i e,List.getElem?_append_left (by have:=h1.1;omega),List.getElem?_append_left (by have:=h1.1;omega)]
   obtain ⟨a,u',b,c⟩:=h2 i e
   exact ⟨a,u',b,kp c⟩
  ·have e':i=rs.length:=by simp at hi;omega
   subst e'
   have e2:(rs ++ [(x,l)])[rs.length]! = (x,l):=by rw [getElem!_pos _ _ (by simp)];simp
   have hl:=h1.1
   rw [e2,List.getElem?_append_right (by omega),List.getElem?_append_right (by omega),hl]
   exact ⟨by simp,u,by rw [show rs.length * 2 + 1 - rs.length * 2=1 by omega];rfl,kp ho⟩
 ·refine below_grown (gb_alloc g _) hgrow (fun k e=>?_) (gb_alloc g _).size
  have:=(h1.lt k e).1
  omega
theorem copies_c {w:World} {v:Value} {rs:List Rw} (h:RdW w v rs) (hn:rs.length<=4000) (hv:∀ i,i < rs.length->1<=rs[i]!.2.length/\rs[i]!.2.length<=100000) :
  Calls Tryz.prog 39 #[v] w fun e w'=>∃ v',e=.returned v'/\OwnC w' w.heap.size v' rs/\Gb w w':=by
 have A:Hid (RdW w v rs):=h
 have VL:Hid (∀ i,i < rs.length->1<=rs[i]!.2.length/\rs[i]!.2.length<=100000):=hv
 obtain ⟨a,cap,rfl,_⟩:=h
 obtain ⟨n,hN⟩:∃ n,n=rs.length:=⟨_,rfl⟩
 have N:Hid (n=rs.length):=hN
 rw [<- hN] at A hn ⊢
 clear hN hv
 obtain ⟨i0,hi,hz0,hz1,hz2⟩:=info_partsW
 obtain ⟨w1,hmk,ho,hg⟩:=run_make_own (P:=Tryz.prog) w w.heap.size 22 45 i0 (.agg #[.int .i64 0,.slice none 0 0]) 2 Tryz.underlying22 hi hz0 hz1 .i64 .i64 n (by rw [hz2];omega) (by simp only [maxLen];omega) (Nat.le_refl _)
 have O:Hid (OwnC w1 w.heap.size (.slice (some ⟨w.heap.size,0,none⟩) 0 n) (rs.take 0)/\Gb w w1):=⟨⟨by simp,[],ho,fun i hi=>absurd hi (by simp)⟩,below_grown (Below.refl _ _) hg (fun k e=>by cases e) (Nat.le_refl _)⟩
 clear hi hz0 hz1 hz2 ho hg
 go_enter Tryz.func39,Tryz.ntmps39
 go_wp2
 clear hmk
 go_loopw [3,11] (fun ov iv W=>∃ q:Nat,iv=.int .i64 (q:Int)/\q<=n/\Hid (OwnC W w.heap.size ov (rs.take q)/\Gb w W)) (fun _ iv _=>n - (intOf iv).toNat)
 case atStart=>exact ⟨0,rfl,Nat.zero_le _,O.out⟩
 case round =>
  clear O
  obtain ⟨q,rfl,hq,X⟩:=hrel
  by_cases hqn:q < n
  ·have hqi:(q:Int) < (n:Int):=by omega
   have hql:q < rs.length:=by have:=N.out;omega
   obtain ⟨_,_,e1,hA⟩:=A.out
   obtain ⟨b,o,u,ea,k1,k2,k3⟩:=hA q hql
   injection e1 with e2 e3 e4
   subst e2
   subst ea
   have NX:Hid (rs.take (q + 1)=rs.take q ++ [(rs[q]!.1,rs[q]!.2)]):=by unfold Hid;rw [List.take_succ_eq_append_getElem hql,getElem!_pos rs q hql]
   have NL:Hid ((rs.take q).length=q):=by unfold Hid;rw [List.length_take];omega
   have VB:=VL.out q hql
   generalize rs[q]!.1=x at *
   generalize rs[q]!.2=V at *
   have x0:=gb_keeps X.out.2 k1
   have x1:=gb_keeps X.out.2 k2
   have G1:Hid (Gb w (wr.alloc (.cells #[.int .i64 x,u] 45)).drew):=(gb_alloc X.out.2 _).drew
   have cC:=clone_c (k3.gb G1.out) VB.2 VB.1
   obtain ⟨pu,cu,eu,_⟩:=k3
   subst eu
   obtain ⟨gv,cv,ev⟩:=X.out.1.form
   obtain ⟨pv,hpv⟩:∃ pv,pv=some (⟨gv,0,none⟩:Addr):=⟨_,rfl⟩
   rw [<- hpv] at ev
   subst ev
   rw [NL.out]
   have XO:Hid (OwnC wr w.heap.size (.slice pv q cv) (rs.take q)):=by unfold Hid;have:=X.out.1;rwa [NL.out] at this
   obtain ⟨nu,hnu⟩:∃ nu,nu=V.length:=⟨_,rfl⟩
   rw [<- hnu] at x1 G1 cC
   have FS0:(wr.alloc (.cells #[.int .i64 x,.slice pu nu cu] 45)).drew.cell? ⟨wr.heap.size,0,none⟩=some (.int .i64 x)/\(wr.alloc (.cells #[.int .i64 x,.slice pu nu cu] 45)).drew.cell? ⟨wr.heap.size,1,none⟩=some (.slice pu nu cu):=⟨by simp [go_sem],by simp [go_sem]⟩
   have FIN:Hid (∀ w4 u4,Gb (wr.alloc (.cells #[.int .i64 x,.slice pu nu cu] 45)).drew w4->Own w4 (wr.alloc (.cells #[.int .i64 x,.slice pu nu cu] 45)).drew.heap.size u4 V ->
     ∃ v' W',(Builtin.append_ #[22,22] 22 #[.slice pv q cv,.slice (some ⟨w4.heap.size,0,none⟩) 1 1]).run Tryz.prog (w4.alloc (.cells #[.int .i64 x,u4] 45))=.ok v' W'/\(OwnC W' w.heap.size v' (rs.take (q + 1))/\Gb w W')/\∀ i y,(w4.alloc (.cells #[.int .i64 x,u4] 45)).cell? ⟨wr.heap.size,i,none⟩=some y->W'.cell? ⟨wr.heap.size,i,none⟩=some y):=by
    intro w4 u4 g4 o4
    rw [NX.out]
    obtain ⟨v',W',h1,h2,h3,h4⟩:=OwnC.next (x:=x) (u:=u4) (l:=V) (XO.out.gb (gb_trans (Below.drew (gb_alloc (Below.refl _ _) _)) g4)) (by rw [NL.out];omega) (gb_trans G1.out g4) (o4.mono G1.out.size)
    refine ⟨v',W',h1,⟨h2,h3⟩,fun i y hy=>h4 _ _ (fun e=>?_) hy⟩
    obtain ⟨_,xs,hx,_⟩:=XO.out
    have:=(hx.lt _ e).2
    dsimp only at this
    omega
   have KX:Hid (1<=V.length/\V.length<=100000):=VB
   clear hA e3 e4 k1 k2 hql X XO VB hnu
   go_wp2_with fail
   refine wp_region_held_drew (S:=fun W=>W.cell? ⟨wr.heap.size,0,none⟩=some (.int .i64 x)/\W.cell? ⟨wr.heap.size,1,none⟩=some (.slice pu nu cu)) (by kernel_rfl) (FS0) (fun hHeld=>?_)
   refine tkn 0 ?_ rfl ?_ ?_;rotate_left;·(rintro w ⟨s0,s1⟩;go_simp;try rfl)
   try simp only [pt]
   refine tkn 1 ?_ rfl ?_ ?_;rotate_left;·(rintro w ⟨s0,s1⟩;go_simp;try rfl)
   try simp only [pt]
   refine tkn 2 ?_ rfl ?_ ?_;rotate_left;·(rintro w ⟨s0,s1⟩;go_simp;try rfl)
   try simp only [pt]
   refine tkn 3 ?_ rfl ?_ ?_;rotate_left;·(rintro w ⟨s0,s1⟩;go_simp;try rfl)
   try simp only [pt]
   refine tkn 4 ?_ rfl ?_ ?_;rotate_left;·(rintro w ⟨s0,s1⟩;go_simp;try rfl)
   try simp only [pt]
   refine rdn 5 rfl (fun K hK=>?_)
   go_simp
   go_fit cC
   rintro e w4 ⟨v4,rfl,o4,g4⟩
   obtain ⟨a4,c4,e4,_⟩:=o4.rd
   subst e4
   refine hK.out _ _ (⟨gb_keeps g4 hHeld.1,gb_keeps g4 hHeld.2⟩) (fun hHeld=>?_)
   clear hK K
   try simp only [pt]
   refine tkn 6 ?_ rfl ?_ ?_;rotate_left;·(rintro w ⟨s0,s1⟩;go_simp;try rfl)
   try simp only [pt]
   have F4:=FIN.out w4 _ g4 o4
   obtain ⟨v5,w5,hrun,XN,S5⟩:=F4
   generalize V.length=nV at *
   clear o4 FIN
   refine rdn 7 rfl (fun K hK=>?_)
   go_simp
   refine hK.out _ _ (⟨gb_keeps (gb_alloc (Below.refl _ _) _) hHeld.1,gb_keeps (gb_alloc (Below.refl _ _) _) hHeld.2⟩) (fun hHeld=>?_)
   clear hK K
   try simp only [pt]
   refine rdn 8 rfl (fun K hK=>?_)
   refine app_run (by rfl) _ _ _ (by rfl) ⟨.slice pv q cv,.slice (some ⟨w4.heap.size,0,none⟩) 1 1,_,_,(by go_simp),(by go_simp),hrun,?_⟩
   refine hK.out _ _ ⟨S5 _ _ hHeld.1,S5 _ _ hHeld.2⟩ (fun hHeld=>?_)
   clear hK K
   try simp only [pt]
   refine tkn 9 ?_ rfl ?_ ?_;rotate_left;·(rintro w ⟨s0,s1⟩;go_simp;try rfl)
   try simp only [pt]
   refine wpAnyH_done (by kernel_rfl) ?_ _
   clear hrun hHeld S5
   go_wp2
   go_roundw
   case rel=>exact ⟨q + 1,by first | rfl | go_num,hqn,XN⟩
   case measure=>simp [intOf];omega
  ·have hqi:¬ (q:Int) < (n:Int):=by omega
   have e:q=n:=by omega
   subst e
   have XE:Hid (OwnC wr w.heap.size u3 rs/\Gb w wr):=by
    have:=X.out
    rwa [List.take_of_length_le (by have:=N.out;omega)] at this
   clear X
   go_wp2
   go_ret
   exact ⟨_,rfl,XE.out⟩
end Go.Proofs.YtcipdampcmfmaabGreat
