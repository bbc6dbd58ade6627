import Derived.Test.YtgbgejflmbhigaaGreatKw22
import Derived.Test.YtgbgejflmbhigaaGreatKw16
import Derived.Test.YtgbgejflmbhigaaGreatKwBoxY
import Derived.Test.YtgbgejflmbhigaaGreatKwFar
import Derived.Deep.OwnRows
import Derived.Laws.CopyOwn
import Derived.Laws.OwnMore
import Derived.Test.YtgbgejflmbhigaaGreatKw4
import Derived.Test.YtgbgejflmbhigaaGreatKw13
import Derived.Test.YtgbgejflmbhigaaGreatKw15
import Derived.Test.YtgbgejflmbhigaaGreatKw3
namespace Go.Proofs.YtgbgejflmbhigaaGreat
open Go.RowKit Go.Shelf
attribute [local go_sem] Oper.semAt_some
theorem Boxed.kp {S:Nat->Prop} {W W':World} {B:Nat} {t:TypeId} {v:Value} (h:Boxed W B t v) (k:Tk.Kp S W W') (hn:¬ S B):Boxed W' B t v :=
 (k.block B h.lt hn).trans h
theorem Has.cells {W:World} {hb k:Nat} {v:Value} {m:List Tk.Ht} (h:Tk.Has W hb k v m):∃ cs,W.heap[hb]? = some (.cells cs 113 (0,0)):=by
 obtain ⟨d,h1,_⟩:=h;exact ⟨_,h1.blk⟩
theorem Has.own {W:World} {hb k:Nat} {v:Value} {m:List Tk.Ht} (h:Tk.Has W hb k v m) {g:Nat} (hg:v.ownBlock=some g):∃ cs,W.heap[g]? = some (.cells cs 60 (0,0)):=by
 obtain ⟨d,h1,_⟩:=h
 rcases h1.own.2 with ⟨rfl,_⟩ | ⟨g',cap',cur,rfl,_,hh,_⟩
 ·cases hg
 ·simp only [Value.ownBlock,Option.some.injEq] at hg
  exact ⟨cur,by rw [<- hg];exact hh⟩
theorem below_putObj {a b:World} {B D:Nat} (h:Below B a b) (hD:B<=D) (o:Obj):Below B a (b.putObj D o) :=
 ⟨h.os,h.tape,h.output,by simpa [World.putObj] using h.size,fun k hk=>(World.putObj_heap_other (by omega)).trans (h.block k hk)⟩
theorem own_putObj {w:World} {v:Value} {d:Array Tk.Ht} {D:Nat} {o:Obj} (h:Tk.Own w v d) (hK:w.heap[D]? = some o) (hc:o.isCells=false) (o':Obj):Tk.Own (w.putObj D o') v d:=by
 refine Tk.own_kp h (Tk.Kp.grown (grownBy_putObj' w D o')) fun g hg e=>?_
 rcases h.2 with ⟨rfl,_⟩ | ⟨g',cap',cur,rfl,_,hh,_⟩
 ·cases hg
 ·simp only [Value.ownBlock,Option.some.injEq] at hg e
  subst hg;subst e
  rw [hh] at hK;injection hK with hK;subst hK;cases hc
abbrev hitObj (x:Tk.Ht):Obj:=.cells #[.int .i64 x.1,.int .u64 x.2.1,.int .u64 x.2.2] 60
def HitBox (W:World) (p:Nat) (x:Tk.Ht):Prop:=W.heap[p]? = some (hitObj x)
theorem HitBox.cells {W:World} {p:Nat} {x:Tk.Ht} (h:HitBox W p x):W.cell? ⟨p,0,none⟩=some (.int .i64 x.1)/\W.cell? ⟨p,1,none⟩=some (.int .u64 x.2.1)/\W.cell? ⟨p,2,none⟩=some (.int .u64 x.2.2):=by
 have e:W.heap[p]? = some (hitObj x):=h
 refine ⟨?_,?_,?_⟩ <;> simp [World.cell?,e]
theorem offer_has' {w:World} {hb k:Nat} {v:Value} {m:List Tk.Ht} (h:Tk.Has w hb k v m) (x:Tk.Ht) :
  Calls Tryz.prog 108 #[.pointer (some ⟨hb,0,none⟩),Tk.hv x] w fun e w'=>(∃ b,e=.returned (.bool b))/\∃ v',Tk.Has w' hb k v' (Tk.keep k m x)/\Tk.Kp (fun b=>b=hb ∨ some b=v.ownBlock) w w'/\(v'.ownBlock=v.ownBlock ∨ ∀ g,v'.ownBlock=some g->w.heap.size<=g):=by
 refine (Tk.offer_has h x).mono ?_
 rintro e w' ⟨rfl,v',h1,h2,h3⟩
 exact ⟨⟨_,rfl⟩,v',h1,h2,h3⟩
def OutH (w0 w':World) (v:Value) (l:List Tk.Ht):Prop:=Tk.Own w' v l.toArray/\Below w0.heap.size w0 w'/\∀ g,v.ownBlock=some g->w0.heap.size<=g
end Go.Proofs.YtgbgejflmbhigaaGreat

namespace Go.Proofs.YtgbgejflmbhigaaGreat
open Go.RowKit Go.Sort
set_option maxRecDepth 100000
set_option maxHeartbeats 2000000
theorem take_snoc {l:List Int} {q:Nat} (h:q < l.length):l.take (q + 1)=l.take q ++ [l[q]!]:=by
 rw [List.take_succ_eq_append_getElem h,getElem!_pos l q h]
theorem ints_c {w:World} {u v:Value} {l m:List Int} (hu:RdI w u l) (hv:RdI w v m) (hlen:l.length<=4611686018427387904) :
  Calls Tryz.prog 46 #[u,v] w fun e w'=>e=.returned (.bool (decide (l=m)))/\Gr w w':=by
 obtain ⟨a,ca,rfl,ha⟩:=hu
 obtain ⟨b,cb,rfl,hb⟩:=hv
 by_cases hlm:l.length=m.length
 ·have A:Hid (∀ i,i < l.length->∃ b o,a=some ⟨b,o,none⟩/\w.cell? ⟨b,o + i,none⟩=some (.int .i64 l[i]!)):=ha
  have B:Hid (∀ i,i < m.length->∃ b' o,b=some ⟨b',o,none⟩/\w.cell? ⟨b',o + i,none⟩=some (.int .i64 m[i]!)):=hb
  have L:Hid (l.length=m.length):=hlm
  rw [<- hlm]
  obtain ⟨n,hN⟩:∃ n,n=l.length:=⟨_,rfl⟩
  have N:Hid (n=l.length):=hN
  rw [<- hN] at hlen ⊢
  clear ha hb hlm hN
  go_enter Tryz.func46,Tryz.ntmps46
  go_wp2
  go_loopw [5] (fun iv w'=>∃ q:Nat,iv=.int .i64 (q:Int)/\q<=n/\Hid (l.take q=m.take q/\Gr w w')) (fun iv _=>n - (intOf iv).toNat)
  case atStart=>exact ⟨0,rfl,Nat.zero_le _,⟨by simp,Gr.refl _⟩⟩
  case round =>
   obtain ⟨q,rfl,hq,X⟩:=hrel
   by_cases hqn:q < n
   ·have hql:q < l.length:=by have:=N.out;omega
    have hqm:q < m.length:=by have:=L.out;omega
    obtain ⟨b1,o1,ea,h1⟩:=A.out q hql
    obtain ⟨b2,o2,eb,h2⟩:=B.out q hqm
    subst ea;subst eb
    have h1:=X.out.2.keeps h1
    have h2:=X.out.2.keeps h2
    by_cases hxy:l[q]! = m[q]!
    ·have R:Hid (l.take (q + 1)=m.take (q + 1)):=by unfold Hid;rw [take_snoc hql,take_snoc hqm,X.out.1,hxy]
     rw [hxy] at h1
     generalize m[q]! = x at *
     clear hxy hql hqm
     go_wp2
     go_quiet (fail)
     go_wp2
     go_roundw
     case rel=>exact ⟨q + 1,by simp,hqn,R.out,X.out.2.drewN _⟩
     case measure=>simp [intOf];omega
    ·have R:Hid (decide (l=m)=false):=decide_eq_false (fun e=>hxy (by rw [e]))
     have hne:(l[q]! == m[q]!)=false:=by rw [beq_eq_false_iff_ne];exact hxy
     generalize l[q]! = x at *
     generalize m[q]! = y at *
     clear hxy hql hqm
     go_wp2
     go_quiet (fail)
     go_wp2
     go_ret
     exact ⟨by rw [R.out];rfl,X.out.2.drewN _⟩
   ·have R:Hid (decide (l=m)=true):=by
     have e:=X.out.1
     have h1:=N.out
     have h2:=L.out
     rw [List.take_of_length_le (by omega),List.take_of_length_le (by omega)] at e
     exact decide_eq_true e
    go_wp2
    go_ret
    exact ⟨by rw [R.out];rfl,X.out.2⟩
 ·have R:Hid (decide (l=m)=false):=decide_eq_false (fun e=>hlm (by rw [e]))
  have hne:((l.length:Int) == (m.length:Int))=false:=by rw [beq_eq_false_iff_ne];omega
  generalize l.length=n1 at *
  generalize m.length=n2 at *
  clear ha hb hlm
  go_enter Tryz.func46,Tryz.ntmps46
  go_wp2
  go_ret
  exact ⟨by rw [R.out];rfl,Gr.refl _⟩
theorem ints_v {w:World} {u v:Value} {l m:List Int} (hu:RdI w u l) (hv:RdI w v m) (hlen:l.length<=4611686018427387904) (r:Bool) (hr:decide (l=m)=r) :
  Calls Tryz.prog 46 #[u,v] w fun e w'=>e=.returned (.bool r)/\Gr w w':=by
 subst hr;exact ints_c hu hv hlen
end Go.Proofs.YtgbgejflmbhigaaGreat

namespace Go.Proofs.YtgbgejflmbhigaaGreat
open Go.RowKit Go.Sort Go.Maps
set_option maxRecDepth 100000
set_option maxHeartbeats 2000000
def Lent (W:World) (B g:Nat) (l:List Int):Prop:=B<=g/\W.heap[g]? = some (.cells (l.map (Value.int .i64) ++ [Value.int .i64 (-77)]).toArray 3 (0,0))
theorem Lent.gb {W W':World} {B g:Nat} {l:List Int} (h:Lent W B g l) (k:Gb W W'):Lent W' B g l :=
 ⟨h.1,by rw [k.block g (Array.getElem?_eq_some_iff.1 h.2).1];exact h.2⟩
theorem Lent.far {W W':World} {B g g':Nat} {l:List Int} (h:Lent W B g l) (k:W.grownBy W' (some g')) (hne:g ≠ g'):Lent W' B g l :=
 ⟨h.1,by rw [k.block g (Array.getElem?_eq_some_iff.1 h.2).1 (by simpa using hne)];exact h.2⟩
theorem Lent.rd {W:World} {B g:Nat} {l:List Int} (h:Lent W B g l):RdI W (.slice (some ⟨g,0,none⟩) l.length (l.length + 1)) l:=by
 refine ⟨_,_,rfl,fun i hi=>⟨g,0,rfl,?_⟩⟩
 simp only [World.cell?,h.2,Nat.zero_add]
 simp only [Option.isSome_none,Bool.false_eq_true,if_false,List.getElem?_toArray]
 rw [List.getElem?_append_left (by simpa using hi)]
 simp [hi]
theorem Lent.mark {W:World} {B g:Nat} {l:List Int} (h:Lent W B g l):W.cell? ⟨g,l.length,none⟩=some (.int .i64 (-77)):=by
 simp only [World.cell?,h.2]
 simp
theorem Lent.own {W:World} {B g:Nat} {l:List Int} (h:Lent W B g l) (hl:l.length<=65536):Own W B (.slice (some ⟨g,0,none⟩) (l.length + 1) (l.length + 1)) (tab (fun i=>if i < l.length then l[i]! else -77) (l.length + 1)):=by
 unfold Own
 rw [tab_len]
 refine ⟨by simp [tab],.inr ⟨g,_,_,rfl,h.1,h.2,Nat.le_refl _,by simp only [maxLen];omega,by simp,?_⟩⟩
 apply List.ext_getElem?
 intro t
 by_cases ht:t < l.length + 1
 ·rw [Nat.mul_one,List.getElem?_take_of_lt ht]
  by_cases h2:t < l.length
  ·simp [tab,ht,h2]
  ·have e:t=l.length:=by omega
   subst e
   simp [tab]
 ·rw [List.getElem?_eq_none (by simp;omega),List.getElem?_eq_none (by simp [tab];omega)]
theorem lend_c {w:World} {u:Value} {l:List Int} (hu:RdI w u l) (hn:l.length<=65536) :
  Calls Tryz.prog 21 #[u] w fun e w'=>∃ g,e=.returned (.slice (some ⟨g,0,none⟩) l.length (l.length + 1))/\Lent w' w.heap.size g l/\Gb w w':=by
 obtain ⟨a,cap,rfl,ha⟩:=hu
 obtain ⟨n,hN⟩:∃ n,n=l.length:=⟨_,rfl⟩
 have N:Hid (n=l.length):=hN
 obtain ⟨m,hM⟩:∃ m,m=n + 1:=⟨_,rfl⟩
 have M:Hid (m=n + 1):=hM
 have hm:(n:Int) + 1=(m:Int):=by omega
 have hnm:(n:Int) < (m:Int):=by omega
 have hnm2:n<=m:=by omega
 have hmb:m<=65537:=by omega
 have hmk:=run_make_row' (P:=Tryz.prog) 37 3 (.int .i64 0) 8 Tryz.underlying37 Tryz.info3 rfl .i64 .i64 m (by omega) (by omega) w
 have hsz:(Tryz.prog.info? 3).map (·.size)=some 1:=by kernel_rfl
 have HR:Hid (∀ V:World,V.heap[w.heap.size]? = some (.cells (l.map (Value.int .i64) ++ [Value.int .i64 0]).toArray 3 (0,0))->Gb w V->V.cell? ⟨w.heap.size,n,none⟩=some (.int .i64 0)/\V.frozen? ⟨w.heap.size,n,none⟩=false/\Lent (V.setCell ⟨w.heap.size,n,none⟩ (.int .i64 (-77))) w.heap.size w.heap.size l/\Gb w (V.setCell ⟨w.heap.size,n,none⟩ (.int .i64 (-77)))):=by
  intro V hV hg
  refine ⟨?_,by simp [World.frozen?,hV],⟨Nat.le_refl _,?_⟩,gb_set hg (Nat.le_refl _) _⟩
  ·rw [hN];simp only [World.cell?,hV];simp
  ·rw [hN]
   simp only [World.setCell,Array.getElem?_modify,hV]
   simp
 have hmc:madeCells #[Value.int .i64 0] (0 + 1)=#[Value.int .i64 0]:=by apply Array.ext';rw [toList_madeCells_one];rfl
 have G0:Gb w (w.alloc (.cells (madeCells #[Value.int .i64 0] m) 3)):=gb_alloc (Below.refl _ _) _
 by_cases h0:l.length=0
 ·have hl:l=[]:=List.eq_nil_of_length_eq_zero h0
  have hnz:n=0:=by omega
  have hVV:=HR.out (w.alloc (.cells (madeCells #[Value.int .i64 0] m) 3)) (by rw [heap_alloc_new,hl,hM,hnz,hmc];rfl) G0
  obtain ⟨c0,f0,L0,G1⟩:=hVV
  have F:Hid (Lent ((w.alloc (.cells (madeCells #[Value.int .i64 0] m) 3)).setCell ⟨w.heap.size,n,none⟩ (.int .i64 (-77))) w.heap.size w.heap.size l/\Gb w ((w.alloc (.cells (madeCells #[Value.int .i64 0] m) 3)).setCell ⟨w.heap.size,n,none⟩ (.int .i64 (-77)))):=⟨L0,G1⟩
  rw [<- hN,<- hM]
  have hmin:Nat.min n m=0:=by rw [hnz];exact Nat.zero_min _
  have hcp:=run_copy_none (P:=Tryz.prog) (w.alloc (.cells (madeCells #[Value.int .i64 0] m) 3)) 37 37 3 3 (some ⟨w.heap.size,0,none⟩) a m m n cap Tryz.underlying37 hsz hmin
  clear HR L0 G1 G0 ha hN hM hn h0 hl hnz hmc hmin hsz
  generalize w.alloc (.cells (madeCells #[Value.int .i64 0] m) 3)=V at *
  go_enter Tryz.func21,Tryz.ntmps21
  go_wp2
  go_ret
  exact ⟨w.heap.size,rfl,F.out.1,F.out.2⟩
 ·obtain ⟨b,o,ea,_⟩:=ha 0 (by omega)
  subst ea
  have hcs:(l.map (Value.int .i64)).length=Nat.min n m:=by rw [List.length_map,<- hN];exact (Nat.min_eq_left hnm2).symm
  have hsrc:∀ j v,(l.map (Value.int .i64))[j]? = some v->(w.alloc (.cells (madeCells #[Value.int .i64 0] m) 3)).cell? ((⟨b,o,none⟩:Addr).add j)=some v:=by
   intro j v hj
   rw [List.getElem?_map] at hj
   obtain ⟨y,hy,rfl⟩:=Option.map_eq_some_iff.1 hj
   obtain ⟨hjl,hy⟩:=List.getElem?_eq_some_iff.1 hy
   obtain ⟨b',o',e,hc⟩:=ha j hjl
   cases e
   rw [Addr.add_lit]
   have:=gb_keeps G0 hc
   rw [this,getElem!_pos l j hjl,hy]
  have hblk:(w.alloc (.cells (madeCells #[Value.int .i64 0] m) 3)).heap[w.heap.size]? = some (.cells (madeCells #[Value.int .i64 0] m) 3 (0,0)):=heap_alloc_new _ _
  have hVV:=HR.out ((w.alloc (.cells (madeCells #[Value.int .i64 0] m) 3)).setRow w.heap.size ((madeCells #[Value.int .i64 0] m).toList.take 0 ++ l.map (Value.int .i64) ++ (madeCells #[Value.int .i64 0] m).toList.drop (0 + (l.map (Value.int .i64)).length)).toArray) (by
   rw [setRow_heap _ _ _ _ _ _ hblk]
   congr 2
   rw [toList_madeCells_one,List.length_map,Nat.zero_add,<- hN,hM]
   simp) (below_setRow G0 (Nat.le_refl _) _)
  obtain ⟨c0,f0,L0,G1⟩:=hVV
  have hcp:=run_copy_row (P:=Tryz.prog) (w.alloc (.cells (madeCells #[Value.int .i64 0] m) 3)) 37 37 3 3 w.heap.size 0 m m ⟨b,o,none⟩ n cap _ 3 (l.map (Value.int .i64)) Tryz.underlying37 hsz hblk hcs hsrc (by rw [size_madeCells,List.length_map];omega) (ints_oneCell .i64 l)
  generalize hV:(w.alloc (.cells (madeCells #[Value.int .i64 0] m) 3)).setRow w.heap.size ((madeCells #[Value.int .i64 0] m).toList.take 0 ++ l.map (Value.int .i64) ++ (madeCells #[Value.int .i64 0] m).toList.drop (0 + (l.map (Value.int .i64)).length)).toArray=V at *
  rw [List.length_map,<- hN] at hcp
  have F:Hid (Lent (V.setCell ⟨w.heap.size,n,none⟩ (.int .i64 (-77))) w.heap.size w.heap.size l/\Gb w (V.setCell ⟨w.heap.size,n,none⟩ (.int .i64 (-77)))):=⟨L0,G1⟩
  rw [<- hN,<- hM]
  clear HR L0 G1 G0 ha hN hM hn h0 hcs hsrc hblk hmc hV hsz
  go_enter Tryz.func21,Tryz.ntmps21
  go_wp2
  go_ret
  exact ⟨w.heap.size,rfl,F.out.1,F.out.2⟩
end Go.Proofs.YtgbgejflmbhigaaGreat

namespace Go.Proofs.YtgbgejflmbhigaaGreat
open Go.RowKit Go.Sort Go.Maps
def RA (W:World) (g n:Nat) (f:Nat->Value × Value):Prop :=
 ∃ cur:Array Value,W.heap[g]? = some (.cells cur 39 (0,0))/\cur.size=n * 2/\∀ i,i < n->cur[i * 2]? = some (f i).1/\cur[i * 2 + 1]? = some (f i).2
theorem RA.lt {W:World} {g n:Nat} {f:Nat->Value × Value} (h:RA W g n f):g < W.heap.size:=by
 obtain ⟨cur,h1,_⟩:=h;exact (Array.getElem?_eq_some_iff.1 h1).1
theorem RA.cell {W:World} {g n:Nat} {f:Nat->Value × Value} (h:RA W g n f) {i:Nat} (hi:i < n):W.cell? ⟨g,i * 2,none⟩=some (f i).1/\W.cell? ⟨g,i * 2 + 1,none⟩=some (f i).2:=by
 obtain ⟨cur,h1,_,h4⟩:=h
 obtain ⟨a,b⟩:=h4 i hi
 simp [World.cell?,h1,a,b]
theorem RA.frozen {W:World} {g n:Nat} {f:Nat->Value × Value} (h:RA W g n f) (o:Nat):W.frozen? ⟨g,o,none⟩=false:=by
 obtain ⟨cur,h1,_⟩:=h
 simp [World.frozen?,h1]
theorem RA.block {W W':World} {g n:Nat} {f:Nat->Value × Value} (h:RA W g n f) (e:W'.heap[g]? = W.heap[g]?):RA W' g n f:=by
 obtain ⟨cur,h1,h2⟩:=h
 exact ⟨cur,e.trans h1,h2⟩
theorem RA.set {W:World} {g n:Nat} {f:Nat->Value × Value} (h:RA W g n f) {i:Nat} (hi:i < n) (x y:Value) :
  RA ((W.setCell ⟨g,i * 2,none⟩ x).setCell ⟨g,i * 2 + 1,none⟩ y) g n (fun t=>if t=i then (x,y) else f t):=by
 obtain ⟨cur,h1,h2,h5⟩:=h
 refine ⟨(cur.setIfInBounds (i * 2) x).setIfInBounds (i * 2 + 1) y,?_,by simpa using h2,fun t ht=>?_⟩
 ·simp [World.setCell,Array.getElem?_modify,h1]
 ·by_cases e:t=i
  ·subst e
   simp only [if_true]
   refine ⟨?_,?_⟩
   ·rw [Array.getElem?_setIfInBounds_ne (by omega),Array.getElem?_setIfInBounds_self_of_lt (by omega)]
   ·rw [Array.getElem?_setIfInBounds_self_of_lt (by simp;omega)]
  ·simp only [if_neg e]
   obtain ⟨a,b⟩:=h5 t ht
   refine ⟨?_,?_⟩
   ·rw [Array.getElem?_setIfInBounds_ne (by omega),Array.getElem?_setIfInBounds_ne (by omega)];exact a
   ·rw [Array.getElem?_setIfInBounds_ne (by omega),Array.getElem?_setIfInBounds_ne (by omega)];exact b
structure Lr (w W:World) (G n:Nat) (rs:List Rw) (p:Nat) (z:Prop) (f:Nat->Value × Value):Prop where
 gb:Gb w W
 hG:w.heap.size<=G
 arr:RA W G n f
 lent:∃ gs:Nat->Nat,∀ i,i < p->f i=(.int .i64 rs[i]!.1,.slice (some ⟨gs i,0,none⟩) rs[i]!.2.length (rs[i]!.2.length + 1))/\Lent W (G + 1) (gs i) rs[i]!.2/\∀ j,j < i->gs j ≠ gs i
 end':z
theorem Lr.gr {w W W':World} {G n p:Nat} {rs:List Rw} {z:Prop} {f:Nat->Value × Value} (h:Lr w W G n rs p z f) (g:Gb W W'):Lr w W' G n rs p z f:=by
 obtain ⟨gs,hl⟩:=h.lent
 exact ⟨gb_trans h.gb g,h.hG,h.arr.block (g.block _ h.arr.lt),⟨gs,fun i hi=>⟨(hl i hi).1,(hl i hi).2.1.gb g,(hl i hi).2.2⟩⟩,h.end'⟩
theorem two_far {g b:Nat} {W:World} (hn:b ≠ g) (o1 o2:Nat) (x y:Value):((W.setCell ⟨g,o1,none⟩ x).setCell ⟨g,o2,none⟩ y).heap[b]? = W.heap[b]? :=
 (Below.heap_setCell _ _ _ _ (by dsimp only;exact hn)).trans (Below.heap_setCell _ _ _ _ (by dsimp only;exact hn))
theorem two_gb {g:Nat} {w W:World} (h:Gb w W) (hg:w.heap.size<=g) (o1 o2:Nat) (x y:Value):Gb w ((W.setCell ⟨g,o1,none⟩ x).setCell ⟨g,o2,none⟩ y) :=
 gb_set (gb_set h (by dsimp only;exact hg) _) (by dsimp only;exact hg) _
theorem Lent.block {W W':World} {B g:Nat} {l:List Int} (h:Lent W B g l) (e:W'.heap[g]? = W.heap[g]?):Lent W' B g l:=⟨h.1,e.trans h.2⟩
theorem Lent.lt {W:World} {B g:Nat} {l:List Int} (h:Lent W B g l):g < W.heap.size:=(Array.getElem?_eq_some_iff.1 h.2).1
theorem Lr.step {w W W2:World} {G n p g:Nat} {rs:List Rw} {f:Nat->Value × Value} (h:Lr w W G n rs p True f) (hp:p < n) (g2:Gb W W2) (L:Lent W2 W.heap.size g rs[p]!.2) :
  ∃ f',Lr w ((W2.setCell ⟨G,p * 2,none⟩ (.int .i64 rs[p]!.1)).setCell ⟨G,p * 2 + 1,none⟩ (.slice (some ⟨g,0,none⟩) rs[p]!.2.length (rs[p]!.2.length + 1))) G n rs (p + 1) True f':=by
 have hGW:=h.arr.lt
 have h2:=h.gr g2
 obtain ⟨gs,hl⟩:=h2.lent
 obtain ⟨gs0,hl0⟩:=h.lent
 have hgs:∀ i,i < p->gs i < W.heap.size:=fun i hi=>by
  have e:=(hl i hi).1.symm.trans (hl0 i hi).1
  simp at e
  rw [e]
  exact (hl0 i hi).2.1.lt
 have hg:=L.1
 refine ⟨_,two_gb h2.gb h2.hG _ _ _ _,h.hG,h2.arr.set hp _ _,⟨fun i=>if i=p then g else gs i,fun i hi=>?_⟩,trivial⟩
 by_cases e:i=p
 ·subst e
  simp only [if_true]
  refine ⟨trivial,⟨by omega,(two_far (by omega) _ _ _ _).trans L.2⟩,fun j hj=>?_⟩
  rw [if_neg (by omega)]
  have:=hgs j hj
  omega
 ·simp only [if_neg e]
  obtain ⟨a,b,c⟩:=hl i (by omega)
  refine ⟨a,b.block (two_far (by have:=b.1;omega) _ _ _ _),fun j hj=>?_⟩
  rw [if_neg (by omega)]
  exact c j hj
def LentR (w W:World) (G:Nat) (rs:List Rw):Prop:=∃ f,Lr w W G (rs.length + 1) rs rs.length (f rs.length=(.int .i64 (-77),.slice none 0 0)) f
theorem Lr.mark {w W:World} {G n:Nat} {rs:List Rw} {f:Nat->Value × Value} (h:Lr w W G (n + 1) rs n True f) (hn:n=rs.length) :
  LentR w ((W.setCell ⟨G,n * 2,none⟩ (.int .i64 (-77))).setCell ⟨G,n * 2 + 1,none⟩ (.slice none 0 0)) G rs:=by
 subst hn
 obtain ⟨gs,hl⟩:=h.lent
 refine ⟨_,two_gb h.gb h.hG _ _ _ _,h.hG,h.arr.set (Nat.lt_succ_self _) _ _,⟨gs,fun i hi=>?_⟩,by simp⟩
 obtain ⟨a,b,c⟩:=hl i hi
 exact ⟨by rw [if_neg (by omega)];exact a,b.block (two_far (by have:=b.1;omega) _ _ _ _),c⟩
theorem LentR.gr {w W W':World} {G:Nat} {rs:List Rw} (h:LentR w W G rs) (g:Gb W W'):LentR w W' G rs:=by
 obtain ⟨f,h⟩:=h
 exact ⟨f,h.gr g⟩
theorem LentR.rd {w W:World} {G:Nat} {rs:List Rw} (h:LentR w W G rs):RdW W (.slice (some ⟨G,0,none⟩) rs.length (rs.length + 1)) rs:=by
 obtain ⟨f,h⟩:=h
 obtain ⟨gs,hl⟩:=h.lent
 refine ⟨_,_,rfl,fun i hi=>?_⟩
 obtain ⟨a,b,_⟩:=hl i hi
 have hc:=h.arr.cell (i:=i) (by omega)
 rw [a] at hc
 exact ⟨G,0,_,rfl,by rw [Nat.zero_add];exact hc.1,by rw [Nat.zero_add];exact hc.2,b.rd⟩
structure Rs (w W:World) (a b:Addr) (u v:Value):Prop where
 gb:Gb w W
 ca:W.cell? a=some u
 cb:W.cell? b=some v
 la:a.block < w.heap.size
 lb:b.block < w.heap.size
theorem Rs.gr {w W W':World} {a b:Addr} {u v:Value} (h:Rs w W a b u v) (g:Gb W W'):Rs w W' a b u v:=⟨gb_trans h.gb g,gb_keeps g h.ca,gb_keeps g h.cb,h.la,h.lb⟩
theorem Rs.set {w W:World} {a b:Addr} {u v:Value} {B:Nat} (h:Rs w W a b u v) (hB:w.heap.size<=B) (o1 o2:Nat) (x y:Value):Rs w ((W.setCell ⟨B,o1,none⟩ x).setCell ⟨B,o2,none⟩ y) a b u v:=by
 have ha:=h.la
 have hb:=h.lb
 exact ⟨two_gb h.gb hB _ _ _ _,(World.cell?_of_block (two_far (by omega) _ _ _ _)).trans h.ca,(World.cell?_of_block (two_far (by omega) _ _ _ _)).trans h.cb,h.la,h.lb⟩
end Go.Proofs.YtgbgejflmbhigaaGreat

namespace Go.Proofs.YtgbgejflmbhigaaGreat
open Go.RowKit Go.Sort Go.Maps
set_option maxRecDepth 100000
set_option maxHeartbeats 4000000
theorem grown_set {w W:World} {g i:Nat} (h:w.grownBy W (some g)) (u:Value):w.grownBy (W.setCell ⟨g,i,none⟩ u) (some g) :=
 ⟨h.os,h.tape,h.output,by simpa [World.setCell] using h.size,fun k hk hn=>(Below.heap_setCell _ _ _ _ (fun e=>hn (by rw [e]))).trans (h.block k hk hn)⟩
theorem grown_gb {w W:World} {g:Nat} (h:Gb w W):w.grownBy W (some g):=⟨h.os,h.tape,h.output,h.size,fun k hk _=>h.block k hk⟩
theorem back_c {w:World} {B g:Nat} {v:Value} {l:List Int} (hg:Lent w B g l) (hv:RdI w v l) (hn:l.length<=65536) :
  Calls Tryz.prog 22 #[.slice (some ⟨g,0,none⟩) l.length (l.length + 1),v] w fun e w'=>e=.returned (.bool true)/\w.grownBy w' (some g):=by
 have c32:=ints_v hg.rd hv (by omega) true (by simp)
 have mk:=hg.mark
 have HG:Hid (Lent w B g l):=hg
 obtain ⟨a,cap,rfl,_⟩:=hv
 have OW:Hid (∀ W,Gb w W->Own W B (.slice (some ⟨g,0,none⟩) (l.length + 1) (l.length + 1)) (tab (fun i=>if i < l.length then l[i]! else -77) (l.length + 1))):=fun W k=>(HG.out.gb k).own hn
 obtain ⟨n,hN⟩:∃ n,n=l.length:=⟨_,rfl⟩
 rw [<- hN] at c32 mk hn OW ⊢
 obtain ⟨m,hM⟩:∃ m,m=n + 1:=⟨_,rfl⟩
 have hm:(n:Int) + 1=(m:Int):=by omega
 have hnm:(n:Int) < (m:Int):=by omega
 have hnm2:n < m:=by omega
 have hmb:m<=65537:=by omega
 rw [<- hM] at c32 OW ⊢
 clear HG hN hg hM
 go_enter Tryz.func22,Tryz.ntmps22
 go_wp2_with fail
 refine c32.mono ?_
 rintro e w1 ⟨rfl,g1⟩
 have mk1:=gb_keeps g1.gb mk
 clear mk c32
 go_wp2
 go_loopw [6] (fun iv w'=>∃ q:Nat,∃ f:Nat->Int,iv=.int .i64 (q:Int)/\q<=m/\Hid (Own w' B (.slice (some ⟨g,0,none⟩) m m) (tab f m)/\w.grownBy w' (some g))) (fun iv _=>m - (intOf iv).toNat)
 case atStart=>exact ⟨0,_,rfl,Nat.zero_le _,OW.out w1 g1.gb,grown_gb g1.gb⟩
 case round =>
  clear mk1 OW g1
  obtain ⟨q,f,rfl,hq,X⟩:=hrel
  by_cases hqm:q < m
  ·have hqi:(q:Int) < (m:Int):=by omega
   obtain ⟨c0,f0⟩:=X.out.1.at hqm
   go_wp2
   refine ⟨⟨q + 1,_,by go_num,hqm,own_set X.out.1 hqm _,grown_set X.out.2 _⟩,by simp [intOf];omega⟩
  ·have hqi:¬ (q:Int) < (m:Int):=by omega
   go_wp2
   go_ret
   exact ⟨rfl,X.out.2⟩
end Go.Proofs.YtgbgejflmbhigaaGreat

namespace Go.Proofs.YtgbgejflmbhigaaGreat
open Go.RowKit Go.Sort Go.Maps
structure Mid (B T:Nat) (w W:World):Prop where
 os:W.os=w.os
 tape:W.tape=w.tape
 output:W.output=w.output
 size:w.heap.size<=W.heap.size
 block:∀ k,k < w.heap.size->(k < B ∨ T<=k)->W.heap[k]? = w.heap[k]?
theorem Mid.refl (B T:Nat) (w:World):Mid B T w w:=⟨rfl,rfl,rfl,Nat.le_refl _,fun _ _ _=>rfl⟩
theorem Mid.gb {B T:Nat} {w0 w W:World} (h:Mid B T w W) (g:Gb w0 w) (hB:w0.heap.size<=B):Gb w0 W:=by
 have hs:=g.size
 exact ⟨h.os.trans g.os,h.tape.trans g.tape,h.output.trans g.output,Nat.le_trans g.size h.size,fun k hk=>(h.block k (by omega) (.inl (by omega))).trans (g.block k hk)⟩
theorem Mid.drew {B T:Nat} {w W:World} (h:Mid B T w W):Mid B T w W.drew:=⟨h.os,h.tape,h.output,h.size,h.block⟩
theorem Mid.grown {B T g:Nat} {w W W':World} (h:Mid B T w W) (k:W.grownBy W' (some g)) (h1:B<=g) (h2:g < T):Mid B T w W' :=
 ⟨k.os.trans h.os,k.tape.trans h.tape,k.output.trans h.output,Nat.le_trans h.size k.size,fun j hj hb=>(k.block j (Nat.lt_of_lt_of_le hj h.size) (by simp;omega)).trans (h.block j hj hb)⟩
theorem Mid.set {B T g:Nat} {w W:World} (h:Mid B T w W) (h1:B<=g) (h2:g < T) (o1 o2:Nat) (x y:Value):Mid B T w ((W.setCell ⟨g,o1,none⟩ x).setCell ⟨g,o2,none⟩ y) :=
 ⟨h.os,h.tape,h.output,by simpa [World.setCell] using h.size,fun j hj hb=>(two_far (by omega) _ _ _ _).trans (h.block j hj hb)⟩
structure LT (B T:Nat) (W:World) (G:Nat) (rs:List Rw) (f:Nat->Value × Value) (gs:Nat->Nat):Prop where
 lo:B<=G
 hi:G < T
 arr:RA W G (rs.length + 1) f
 mark:f rs.length=(.int .i64 (-77),.slice none 0 0)
 row:∀ i,i < rs.length->f i=(.int .i64 rs[i]!.1,.slice (some ⟨gs i,0,none⟩) rs[i]!.2.length (rs[i]!.2.length + 1))/\Lent W (G + 1) (gs i) rs[i]!.2/\gs i < T/\∀ j,j < i->gs j ≠ gs i
theorem LentR.lt {w W:World} {G:Nat} {rs:List Rw} (h:LentR w W G rs):∃ f gs,LT w.heap.size W.heap.size W G rs f gs:=by
 obtain ⟨f,h⟩:=h
 obtain ⟨gs,hl⟩:=h.lent
 exact ⟨f,gs,h.hG,h.arr.lt,h.arr,h.end',fun i hi=>⟨(hl i hi).1,(hl i hi).2.1,(hl i hi).2.1.lt,(hl i hi).2.2⟩⟩
theorem LT.keep {B T G:Nat} {W W':World} {rs:List Rw} {f:Nat->Value × Value} {gs:Nat->Nat} (h:LT B T W G rs f gs) (e:∀ k,B<=k->k < T->W'.heap[k]? = W.heap[k]?):LT B T W' G rs f gs :=
 ⟨h.lo,h.hi,h.arr.block (e _ h.lo h.hi),h.mark,fun i hi=>by
  obtain ⟨a,b,c,d⟩:=h.row i hi
  exact ⟨a,b.block (e _ (by have:=b.1;have:=h.lo;omega) c),c,d⟩⟩
structure Bk (B T:Nat) (w W:World) (G:Nat) (rs:List Rw) (f:Nat->Value × Value) (gs:Nat->Nat) (p:Nat):Prop where
 mid:Mid B T w W
 arr:∃ f',RA W G (rs.length + 1) f'/\∀ i,p<=i->f' i=f i
 lent:∀ i,p<=i->i < rs.length->Lent W (G + 1) (gs i) rs[i]!.2
theorem Bk.drew {B T G p:Nat} {w W:World} {rs:List Rw} {f:Nat->Value × Value} {gs:Nat->Nat} (h:Bk B T w W G rs f gs p):Bk B T w W.drew G rs f gs p :=
 ⟨h.mid.drew,h.arr,h.lent⟩
theorem Bk.step {B T G p:Nat} {w W W2:World} {rs:List Rw} {f:Nat->Value × Value} {gs:Nat->Nat} (h:Bk B T w W G rs f gs p) (L:LT B T w G rs f gs) (hp:p < rs.length) (k:W.grownBy W2 (some (gs p))) (x y:Value) :
  Bk B T w ((W2.setCell ⟨G,p * 2,none⟩ x).setCell ⟨G,p * 2 + 1,none⟩ y) G rs f gs (p + 1):=by
 obtain ⟨_,b,c,_⟩:=L.row p hp
 have hb:=b.1
 have hlo:=L.lo
 obtain ⟨f',h1,h2⟩:=h.arr
 refine ⟨(h.mid.grown k (by omega) c).set L.lo L.hi _ _ _ _,⟨_,(h1.block (k.block G h1.lt (by simp;omega))).set (i:=p) (by omega) x y,fun i hi=>?_⟩,fun i hi hl=>?_⟩
 ·rw [if_neg (by omega)];exact h2 i (by omega)
 ·have h3:=h.lent i (by omega) hl
  have hne:=(L.row i hl).2.2.2 p (by omega)
  exact h3.block ((two_far (by have:=h3.1;omega) _ _ _ _).trans (k.block _ h3.lt (by simp;omega)))
structure Qs (W:World) (a b c d:Addr) (u v x y:Value):Prop where
 ca:W.cell? a=some u
 cb:W.cell? b=some v
 cc:W.cell? c=some x
 cd:W.cell? d=some y
theorem Qs.grown {W W':World} {a b c d:Addr} {u v x y:Value} {g:Nat} (h:Qs W a b c d u v x y) (k:W.grownBy W' (some g)) (ha:a.block ≠ g) (hb:b.block ≠ g) (hc:c.block ≠ g) (hd:d.block ≠ g):Qs W' a b c d u v x y:=by
 have far:∀ {p:Addr} {q:Value},p.block ≠ g->W.cell? p=some q->W'.cell? p=some q:=fun {p q} hp hq =>
  (World.cell?_of_block (k.block _ (World.block_lt_of_cell? W _ hq) (by simp;omega))).trans hq
 exact ⟨far ha h.ca,far hb h.cb,far hc h.cc,far hd h.cd⟩
end Go.Proofs.YtgbgejflmbhigaaGreat

namespace Go.Proofs.YtgbgejflmbhigaaGreat
open Go.RowKit
set_option maxHeartbeats 2000000
theorem rid_c (x:Int) (w:World):Calls Tryz.prog 44 #[.int .i64 x] w fun e w'=>e=.returned (.bool (okId x))/\w=w':=by
 by_cases h:1<=x
 ·by_cases h2:x<=1000000000
  ·have E:Hid (okId x=true):=(okId_iff x).2 ⟨h,h2⟩
   go_enter Tryz.func44,Tryz.ntmps44
   go_wp2
   go_ret
   exact ⟨by rw [E.out];rfl,rfl⟩
  ·have E:Hid (okId x=false):=by unfold Hid;rw [<- Bool.not_eq_true,okId_iff];omega
   go_enter Tryz.func44,Tryz.ntmps44
   go_wp2
   go_ret
   exact ⟨by rw [E.out];rfl,rfl⟩
 ·have E:Hid (okId x=false):=by unfold Hid;rw [<- Bool.not_eq_true,okId_iff];omega
  go_enter Tryz.func44,Tryz.ntmps44
  go_wp2
  go_ret
  exact ⟨by rw [E.out];rfl,rfl⟩
theorem rid_v (x:Int) (b:Bool) (h:okId x=b) (w:World):Calls Tryz.prog 44 #[.int .i64 x] w fun e w'=>e=.returned (.bool b)/\w=w':=by
 subst h;exact rid_c x w
theorem form_c {w:World} {v:Value} {r:Reg} (h:RdR w v r) :
  Calls Tryz.prog 189 #[v] w fun e w'=>e=.returned (.bool (uses r))/\Gr w w':=by
 obtain ⟨vl,vh,vi,rfl,⟨pl,cl,rfl,_⟩,⟨ph,ch,rfl,_⟩,h3⟩:=h
 clear h3
 have E:Hid (uses r=if r.S=1 then decide (r.L.length=0) && decide (r.H.length=0) && decide (r.R=0) else if r.S=2 then decide (r.R=0) else if r.S=3 then decide (r.H.length=0) else false):=rfl
 generalize uses r=res at *
 obtain ⟨S,L,H,R,I⟩:=r
 dsimp only at *
 generalize L.length=nl at *
 generalize H.length=nh at *
 by_cases s1:S=1
 ·subst s1
  rw [if_pos rfl] at E
  by_cases k1:nl=0
  ·subst k1
   by_cases k2:nh=0
   ·subst k2
    have hz:=fun W=>wd_eq0 R res (by have:=E.out;simpa using this.symm) W
    go_enter Tryz.func189,Tryz.ntmps189
    go_wp2
    go_ret
    exact ⟨rfl,((Gr.refl _).alloc _ _).alloc _ _⟩
   ·have e:res=false:=by have:=E.out;rw [this];simp [k2]
    subst e
    have k2':((nh:Int) == 0)=false:=by rw [beq_eq_false_iff_ne];omega
    clear k2 E
    go_enter Tryz.func189,Tryz.ntmps189
    go_wp2
    go_ret
    exact ⟨rfl,((Gr.refl _).alloc _ _).alloc _ _⟩
  ·have e:res=false:=by have:=E.out;rw [this];simp [k1]
   subst e
   have k2':((nl:Int) == 0)=false:=by rw [beq_eq_false_iff_ne];omega
   clear k1 E
   go_enter Tryz.func189,Tryz.ntmps189
   go_wp2
   go_ret
   exact ⟨rfl,((Gr.refl _).alloc _ _).alloc _ _⟩
 ·have s1':(S == 1)=false:=by rw [beq_eq_false_iff_ne];exact s1
  by_cases s2:S=2
  ·subst s2
   have hz:=fun W=>wd_eq0 R res (by have:=E.out;simpa using this.symm) W
   clear E s1
   go_enter Tryz.func189,Tryz.ntmps189
   go_wp2
   go_ret
   exact ⟨rfl,((Gr.refl _).alloc _ _).alloc _ _⟩
  ·have s2':(S == 2)=false:=by rw [beq_eq_false_iff_ne];exact s2
   by_cases s3:S=3
   ·subst s3
    have e:Hid (res=((nh:Int) == 0)):=by
     have:=E.out
     unfold Hid
     rw [this]
     by_cases k:nh=0
     ·simp [k]
     ·have:((nh:Int) == 0)=false:=by rw [beq_eq_false_iff_ne];omega
      rw [this];simp [k]
    clear E s1 s2
    go_enter Tryz.func189,Tryz.ntmps189
    go_wp2
    go_ret
    exact ⟨by rw [e.out];rfl,((Gr.refl _).alloc _ _).alloc _ _⟩
   ·have s3':(S == 3)=false:=by rw [beq_eq_false_iff_ne];exact s3
    have e:res=false:=by have:=E.out;rw [this,if_neg s1,if_neg s2,if_neg s3]
    subst e
    clear E s1 s2 s3
    go_enter Tryz.func189,Tryz.ntmps189
    go_wp2
    go_ret
    exact ⟨rfl,((Gr.refl _).alloc _ _).alloc _ _⟩
theorem form_v {w:World} {v:Value} {r:Reg} (h:RdR w v r) (b:Bool) (hb:uses r=b) :
  Calls Tryz.prog 189 #[v] w fun e w'=>e=.returned (.bool b)/\Gr w w':=by
 subst hb;exact form_c h
end Go.Proofs.YtgbgejflmbhigaaGreat

namespace Go.Proofs.YtgbgejflmbhigaaGreat
open Go.RowKit Go.Sort
set_option maxRecDepth 100000
set_option maxHeartbeats 1000000
def Fnd (rs:List Rw) (x z:Int):Prop:=(z=-1/\∀ i,i < rs.length->rs[i]!.1 ≠ x) ∨ ∃ i:Nat,z=(i:Int)/\i < rs.length/\rs[i]!.1=x
theorem rfind_c {w:World} {v:Value} {rs:List Rw} (h:RdW w v rs) (hlen:rs.length<=4611686018427387904) (x:Int) :
  Calls Tryz.prog 47 #[v,.int .i64 x] w fun e w'=>(∃ z:Int,e=.returned (.int .i64 z)/\Fnd rs x z)/\w=w':=by
 obtain ⟨a,cap,rfl,ha⟩:=h
 have A:Hid (∀ i,i < rs.length->∃ b o u,a=some ⟨b,o,none⟩/\w.cell? ⟨b,o + i * 2,none⟩=some (.int .i64 rs[i]!.1)/\w.cell? ⟨b,o + i * 2 + 1,none⟩=some u/\RdI w u rs[i]!.2):=ha
 obtain ⟨n,hN⟩:∃ n,n=rs.length:=⟨_,rfl⟩
 have N:Hid (n=rs.length):=hN
 rw [<- hN] at hlen ⊢
 clear ha hN
 go_enter Tryz.func47,Tryz.ntmps47
 go_wp2
 go_loopw [5] (fun iv w'=>∃ q:Nat,iv=.int .i64 (q:Int)/\q<=n/\Hid (∀ i,i < q->rs[i]!.1 ≠ x)/\w=w') (fun iv _=>n - (intOf iv).toNat)
 case atStart=>exact ⟨0,rfl,Nat.zero_le _,fun i hi=>absurd hi (Nat.not_lt_zero _),rfl⟩
 case round =>
  obtain ⟨q,rfl,hq,X,rfl⟩:=hrel
  by_cases hqn:q < n
  ·have hqi:(q:Int) < (n:Int):=by omega
   have hql:q < rs.length:=by have:=N.out;omega
   obtain ⟨b,o,u,ea,hc,_,_⟩:=A.out q hql
   subst ea
   by_cases hx:rs[q]!.1=x
   ·have F:Hid (Fnd rs x (q:Int)):=.inr ⟨q,rfl,hql,hx⟩
    rw [hx] at hc
    clear hql X hx
    go_wp2
    go_ret
    exact ⟨⟨_,rfl,F.out⟩,by first | rfl | trivial⟩
   ·have R:Hid (∀ i,i < q + 1->rs[i]!.1 ≠ x):=fun i hi=>by
     by_cases e:i=q
     ·rw [e];exact hx
     ·exact X.out i (by omega)
    have hx':(rs[q]!.1 == x)=false:=by rw [beq_eq_false_iff_ne];exact hx
    generalize rs[q]!.1=y at hc hx hx'
    clear hql X
    go_wp2
    go_roundw
    case rel=>exact ⟨q + 1,by simp,hqn,R,by first | rfl | trivial⟩
    case measure=>simp [intOf];omega
  ·have hqi:¬ (q:Int) < (n:Int):=by omega
   have F:Hid (Fnd rs x (-1)):=.inl ⟨rfl,fun i hi=>X.out i (by have:=N.out;omega)⟩
   clear X
   go_wp2
   go_ret
   exact ⟨⟨_,rfl,F.out⟩,by first | rfl | trivial⟩
end Go.Proofs.YtgbgejflmbhigaaGreat

namespace Go.Proofs.YtgbgejflmbhigaaGreat
open Go.RowKit Go.Sort
def srtR (rs:List Rw):List Rw:=rs.mergeSort fun a b=>decide (a.1<=b.1)
theorem srtR_perm (rs:List Rw):(srtR rs).Perm rs:=List.mergeSort_perm rs _
theorem srtR_ids (rs:List Rw):idsOf (srtR rs)=srt (idsOf rs):=by
 refine srtI_unique _ _ ?_ (srt_srtI _) (((srtR_perm rs).map _).trans (srt_perm _).symm)
 have h:=List.pairwise_mergeSort (le:=fun a b:Rw=>decide (a.1<=b.1)) (fun a b c h1 h2=>by simp at *;omega) (fun a b=>by simp;omega) rs
 unfold SrtI idsOf srtR
 rw [List.pairwise_map]
 exact h.imp fun h=>by simpa using h
theorem srt_lt {l:List Int} (h:l.Pairwise (· ≠ ·)):∀ i,i + 1 < (srt l).length->(srt l)[i]! < (srt l)[i + 1]! := fun i hi=>by
 have h1:=srt_srtI l
 have h2:(srt l).Pairwise (· ≠ ·):=(List.Perm.pairwise_iff (fun e=>Ne.symm e) (srt_perm l)).2 h
 unfold SrtI at h1
 have a:=List.pairwise_iff_getElem.1 h1 i (i + 1) (by omega) hi (by omega)
 have b:=List.pairwise_iff_getElem.1 h2 i (i + 1) (by omega) hi (by omega)
 rw [getElem!_pos (srt l) i (by omega),getElem!_pos (srt l) (i + 1) hi]
 omega
theorem rise_of {l:List Int} (h:l.Pairwise (· ≠ ·)) (hok:∀ x ∈ l,okId x=true):rise (srt l)=true:=by
 unfold rise
 have key:∀ q,q<=(srt l).length->riseTo (srt l) q=true:=by
  intro q
  induction q with
  | zero=>intro _;rfl
  | succ q ih =>
   intro hq
   rw [riseTo,ih (by omega),Bool.true_and]
   unfold okAt
   have h1:okId (srt l)[q]! = true:=by
    rw [getElem!_pos (srt l) q (by omega)]
    exact hok _ ((srt_perm l).subset (List.getElem_mem _))
   rw [h1,Bool.true_and]
   cases q with
   | zero=>rfl
   | succ j =>
    have:=srt_lt h j (by omega)
    rw [Bool.or_eq_true]
    exact .inr (decide_eq_true (by rw [Nat.add_sub_cancel];exact this))
 exact key _ (Nat.le_refl _)
end Go.Proofs.YtgbgejflmbhigaaGreat

namespace Go.Proofs.YtgbgejflmbhigaaGreat
open Go.RowKit
set_option maxRecDepth 100000
set_option maxHeartbeats 4000000
theorem rid_q (x:Int) (b:Bool) (h:okId x=b) (w:World):Calls Tryz.prog 44 #[.int .i64 x] w fun e w'=>e=.returned (.bool b)/\∃ n,w'=w.drewN n :=
 (rid_v x b h w).mono fun _ _ ⟨h1,h2⟩=>⟨h1,0,h2.symm⟩
theorem rids_c {w:World} {v:Value} {l:List Int} (h:RdI w v l) (hlen:l.length<=4611686018427387904) :
  Calls Tryz.prog 190 #[v] w fun e w'=>e=.returned (.bool (rise l))/\Gr w w':=by
 obtain ⟨a,cap,rfl,ha⟩:=h
 have A:Hid (∀ i,i < l.length->∃ b o,a=some ⟨b,o,none⟩/\w.cell? ⟨b,o + i,none⟩=some (.int .i64 l[i]!)):=ha
 obtain ⟨n,hN⟩:∃ n,n=l.length:=⟨_,rfl⟩
 have N:Hid (n=l.length):=hN
 rw [<- hN] at hlen ⊢
 clear ha hN
 go_enter Tryz.func190,Tryz.ntmps190
 go_wp2
 go_loopw [3] (fun iv w'=>∃ q:Nat,iv=.int .i64 (q:Int)/\q<=n/\Gr w w'/\Hid (riseTo l q=true)) (fun iv _=>n - (intOf iv).toNat)
 case atStart=>exact ⟨0,rfl,Nat.zero_le _,Gr.refl _,rfl⟩
 case round =>
  obtain ⟨q,rfl,hq,G,X⟩:=hrel
  by_cases hqn:q < n
  ·have hqi:(q:Int) < (n:Int):=by omega
   have hql:q < l.length:=by have:=N.out;omega
   obtain ⟨b,o,ea,hc⟩:=A.out q hql
   replace hc:=G.keeps hc
   by_cases hid:okId l[q]! = true
   ·have c:=fun W=>rid_q l[q]! true hid W
    by_cases h0:q=0
    ·have R:Hid (riseTo l (q + 1)=true):=by unfold Hid;simp only [riseTo,okAt];rw [X.out,hid,h0];rfl
     subst ea
     have h0':decide (0 < q)=false:=by rw [decide_eq_false_iff_not];omega
     generalize l[q]! = x at *
     clear X hid hql h0
     go_wp2
     go_quiet (first | (go_at_call 44;exact Calls.quiet_of (c _)))
     go_wp2
     go_roundw
     case rel=>exact ⟨q + 1,by simp,hqn,G.drewN _,R⟩
     case measure=>simp [intOf];omega
    ·obtain ⟨p,hp⟩:∃ p,q=p + 1:=⟨q - 1,by omega⟩
     obtain ⟨b',o',ea',hc'⟩:=A.out p (by omega)
     rw [ea] at ea'
     cases ea'
     replace hc':=G.keeps hc'
     have hpi:(q:Int) - 1=(p:Int):=by omega
     have hpn:(p:Int) < (n:Int):=by omega
     have hp0:decide (0 < q)=true:=by rw [decide_eq_true_eq];omega
     have hqp:q - 1=p:=by omega
     by_cases hlt:l[p]! < l[q]!
     ·have R:Hid (riseTo l (q + 1)=true):=by
       have x1:=X.out
       unfold Hid
       rw [riseTo,x1,okAt,hid,hqp,decide_eq_true hlt];simp
      have hlt':decide (l[q]! <= l[p]!)=false:=by rw [decide_eq_false_iff_not];omega
      subst ea
      generalize l[q]! = x at *
      generalize l[p]! = y at *
      clear X hid hql h0 hlt hqp hp
      go_wp2
      go_quiet (first | (go_at_call 44;exact Calls.quiet_of (c _)))
      go_wp2
      go_roundw
      case rel=>exact ⟨q + 1,by simp,hqn,G.drewN _,R⟩
      case measure=>simp [intOf];omega
     ·have R:Hid (rise l=false):=rise_no hql (by rw [okAt,hid,hqp,decide_eq_false hlt];simp;omega)
      have hlt':decide (l[q]! <= l[p]!)=true:=by rw [decide_eq_true_eq];omega
      subst ea
      generalize l[q]! = x at *
      generalize l[p]! = y at *
      clear X hid hql h0 hlt hqp hp
      go_wp2
      go_quiet (first | (go_at_call 44;exact Calls.quiet_of (c _)))
      go_wp2
      go_ret
      exact ⟨by rw [R.out];rfl,G.drewN _⟩
   ·have c:=fun W=>rid_q l[q]! false (by simpa using hid) W
    have R:Hid (rise l=false):=rise_no hql (by rw [okAt,show okId l[q]! = false by simpa using hid];rfl)
    subst ea
    generalize l[q]! = x at *
    clear X hid hql
    go_wp2
    go_quiet (first | (go_at_call 44;exact Calls.quiet_of (c _)))
    go_wp2
    go_ret
    exact ⟨by rw [R.out];rfl,G.drewN _⟩
  ·have hqi:¬ (q:Int) < (n:Int):=by omega
   have R:Hid (rise l=true):=by
    have h1:=X.out
    have h2:q=l.length:=by have:=N.out;omega
    rw [h2] at h1;exact h1
   go_wp2
   go_ret
   exact ⟨by rw [R.out];rfl,G⟩
end Go.Proofs.YtgbgejflmbhigaaGreat

namespace Go.Proofs.YtgbgejflmbhigaaGreat
open Go.RowKit
set_option maxRecDepth 100000
set_option maxHeartbeats 8000000
theorem rids_v {w:World} {v:Value} {l:List Int} (h:RdI w v l) (hlen:l.length<=4611686018427387904) (b:Bool) (hb:rise l=b) :
  Calls Tryz.prog 190 #[v] w fun e w'=>e=.returned (.bool b)/\Gr w w':=by
 subst hb;exact rids_c h hlen
theorem uses_S {r:Reg} (h:uses r=true):r.S=1 ∨ r.S=2 ∨ r.S=3:=by
 unfold uses at h
 by_cases s1:r.S=1
 ·exact .inl s1
 by_cases s2:r.S=2
 ·exact .inr (.inl s2)
 by_cases s3:r.S=3
 ·exact .inr (.inr s3)
 rw [if_neg s1,if_neg s2,if_neg s3] at h
 cases h
theorem rckR_c {w:World} {v:Value} {r:Reg} (h:RdR w v r) (hlen:r.I.length<=4611686018427387904) (d:Int) :
  Calls Tryz.prog 157 #[v,.int .i64 d] w fun e w'=>e=.returned (.int .i64 (ckR r d))/\Gr w w':=by
 have HR:Hid (RdR w v r):=h
 obtain ⟨vl,vh,vi,rfl,hL,hH,hI⟩:=h
 have G0:Gr w (w.alloc (rc r vl vh vi)):=(Gr.refl _).alloc _ _
 have RA:Hid (RegAt (w.alloc (rc r vl vh vi)) w.heap.size r vl vh vi):=RegAt.new w r vl vh vi
 have CU:=fun b hb=>form_v (HR.out.gb G0.gb) b hb
 have CI:=fun W' (g:Gr (w.alloc (rc r vl vh vi)) W') b hb=>rids_v (hI.gb (G0.trans g).gb) hlen b hb
 have CL:=fun W' (g:Gr (w.alloc (rc r vl vh vi)) W') e he=>rcheck_v (hL.gb (G0.trans g).gb) d e he
 have CH:=fun W' (g:Gr (w.alloc (rc r vl vh vi)) W') e he=>rcheck_v (hH.gb (G0.trans g).gb) d e he
 have E:Hid (ckR r d=if 1<=d/\d<=64 then (if uses r=true/\rise r.I=true then (if r.S=2 then cornE r.L r.H d else if r.S=3 then chk r.L d else 0) else 32) else 30):=rfl
 obtain ⟨pl,cl,rfl,aL⟩:=hL
 obtain ⟨ph,ch,rfl,aH⟩:=hH
 obtain ⟨pi,ci,rfl,_⟩:=hI
 generalize ckR r d=res at *
 by_cases d1:d < 1
 ·rw [if_neg (by omega)] at E
  have e:=E.out
  subst e
  clear CU CI CL CH HR E RA aL aH
  go_enter Tryz.func157,Tryz.ntmps157
  go_wp2
  go_ret
  exact ⟨rfl,G0⟩
 by_cases d2:64 < d
 ·rw [if_neg (by omega)] at E
  have e:=E.out
  subst e
  clear CU CI CL CH HR E RA aL aH
  go_enter Tryz.func157,Tryz.ntmps157
  go_wp2
  go_ret
  exact ⟨rfl,G0⟩
 rw [if_pos (by omega)] at E
 by_cases hu:uses r=true
 ·have c2:=CU _ hu
  by_cases hi':rise r.I=true
  ·rw [if_pos ⟨hu,hi'⟩] at E
   have c3:=fun W' g=>CI W' g true hi'
   have hS:=uses_S hu
   clear CU hu CI hi' HR hlen
   by_cases s1:r.S=1
   ·rw [if_neg (by omega),if_neg (by omega)] at E
    have e:=E.out
    subst e
    clear CL CH E aL aH hS
    obtain ⟨S,L,H,R,I⟩:=r
    dsimp only at *
    subst s1
    generalize L.length=nl at *
    generalize H.length=nh at *
    generalize I.length=ni at *
    go_enter Tryz.func157,Tryz.ntmps157
    go_wp2_with fail
    refine c2.mono ?_
    rintro e w1 ⟨rfl,g1⟩
    obtain ⟨q0,q1,q2,q3,q4,q5⟩:=RA.out.gb g1.gb
    go_wp2_with fail
    refine (c3 _ g1).mono ?_
    rintro e w2 ⟨rfl,g2⟩
    replace g1:=g1.trans g2
    clear q0 q1 q2 q3 q4 q5
    obtain ⟨q0,q1,q2,q3,q4,q5⟩:=RA.out.gb g1.gb
    go_wp2
    go_ret
    exact ⟨rfl,G0.trans g1⟩
   ·have s1':(r.S == 1)=false:=by rw [beq_eq_false_iff_ne];exact s1
    by_cases s3:r.S=3
    ·rw [if_neg (by omega),if_pos s3] at E
     have c4:=fun W' g=>CL W' g res E.out.symm
     clear CL CH E aL aH hS s1 s1'
     by_cases hz:res=0
     ·subst hz
      obtain ⟨S,L,H,R,I⟩:=r
      dsimp only at *
      subst s3
      generalize L.length=nl at *
      generalize H.length=nh at *
      generalize I.length=ni at *
      go_enter Tryz.func157,Tryz.ntmps157
      go_wp2_with fail
      refine c2.mono ?_
      rintro e w1 ⟨rfl,g1⟩
      obtain ⟨q0,q1,q2,q3,q4,q5⟩:=RA.out.gb g1.gb
      go_wp2_with fail
      refine (c3 _ g1).mono ?_
      rintro e w2 ⟨rfl,g2⟩
      replace g1:=g1.trans g2
      clear q0 q1 q2 q3 q4 q5
      obtain ⟨q0,q1,q2,q3,q4,q5⟩:=RA.out.gb g1.gb
      go_wp2_with fail
      refine (c4 _ g1).mono ?_
      rintro e w' ⟨rfl,e2⟩
      subst e2
      go_wp2
      go_ret
      exact ⟨rfl,G0.trans g1⟩
     ·have hz':(res == 0)=false:=by rw [beq_eq_false_iff_ne];exact hz
      obtain ⟨S,L,H,R,I⟩:=r
      dsimp only at *
      subst s3
      generalize L.length=nl at *
      generalize H.length=nh at *
      generalize I.length=ni at *
      go_enter Tryz.func157,Tryz.ntmps157
      go_wp2_with fail
      refine c2.mono ?_
      rintro e w1 ⟨rfl,g1⟩
      obtain ⟨q0,q1,q2,q3,q4,q5⟩:=RA.out.gb g1.gb
      go_wp2_with fail
      refine (c3 _ g1).mono ?_
      rintro e w2 ⟨rfl,g2⟩
      replace g1:=g1.trans g2
      clear q0 q1 q2 q3 q4 q5
      obtain ⟨q0,q1,q2,q3,q4,q5⟩:=RA.out.gb g1.gb
      go_wp2_with fail
      refine (c4 _ g1).mono ?_
      rintro e w' ⟨rfl,e2⟩
      subst e2
      go_wp2
      go_ret
      exact ⟨rfl,G0.trans g1⟩
    ·have s2:r.S=2:=by omega
     rw [if_pos s2] at E
     have s3':(r.S == 3)=false:=by rw [beq_eq_false_iff_ne];exact s3
     by_cases k1:chk r.L d=0
     ·have c4:=fun W' g=>CL W' g 0 k1
      by_cases k2:chk r.H d=0
      ·have c5:=fun W' g=>CH W' g 0 k2
       have E2:Hid (res=if below r.L r.H r.L.length=true then 0 else 32):=by have:=E.out;unfold cornE at this;rw [if_pos k1,if_pos k2] at this;exact this
       obtain ⟨m1,m2,m3,_⟩:=chk_ok k1
       obtain ⟨_,_,m4,_⟩:=chk_ok k2
       have A:Hid (∀ i,i < r.L.length->∃ b o,pl=some ⟨b,o,none⟩/\w.cell? ⟨b,o + i,none⟩=some (.int .i64 r.L[i]!)):=aL
       have B:Hid (∀ i,i < r.L.length->∃ b o,ph=some ⟨b,o,none⟩/\w.cell? ⟨b,o + i,none⟩=some (.int .i64 r.H[i]!)):=fun i hi=>aH i (by omega)
       obtain ⟨S,L,H,R,I⟩:=r
       dsimp only at *
       clear aL aH CL CH E k1 k2
       generalize H.length=nh at *
       have hnh:nh=L.length:=by omega
       subst hnh
       subst m3
       obtain ⟨n,hN⟩:∃ n,n=L.length:=⟨_,rfl⟩
       have N:Hid (n=L.length):=hN
       simp only [<- hN] at *
       clear hN m4 hS s1 s3 d1 d2
       subst s2
       generalize I.length=ni at *
       go_enter Tryz.func157,Tryz.ntmps157
       go_wp2_with fail
       refine c2.mono ?_
       rintro e w1 ⟨rfl,g1⟩
       obtain ⟨q0,q1,q2,q3,q4,q5⟩:=RA.out.gb g1.gb
       go_wp2_with fail
       refine (c3 _ g1).mono ?_
       rintro e w2 ⟨rfl,g2⟩
       replace g1:=g1.trans g2
       clear q0 q1 q2 q3 q4 q5
       obtain ⟨q0,q1,q2,q3,q4,q5⟩:=RA.out.gb g1.gb
       go_wp2_with fail
       refine (c4 _ g1).mono ?_
       rintro e w' ⟨rfl,e2⟩
       subst e2
       go_wp2_with fail
       refine (c5 _ g1).mono ?_
       rintro e w' ⟨rfl,e2⟩
       subst e2
       clear c2 c3 c4 c5
       go_wp2
       go_loopw [6] (fun iv w'=>∃ q:Nat,iv=.int .i64 (q:Int)/\q<=n/\Gr (w.alloc (rc ⟨2,L,H,R,I⟩ (.slice pl n cl) (.slice ph n ch) (.slice pi ni ci))) w'/\Hid (below L H q=true)) (fun iv _=>n - (intOf iv).toNat)
       case atStart=>exact ⟨0,rfl,Nat.zero_le _,g1,rfl⟩
       case round =>
        clear q0 q1 q2 q3 q4 q5 g1
        obtain ⟨q,rfl,hq,g1,X⟩:=hrel
        obtain ⟨q0,q1,q2,q3,q4,q5⟩:=RA.out.gb g1.gb
        by_cases hqn:q < n
        ·have hqi:(q:Int) < (n:Int):=by omega
         obtain ⟨b1,o1,ea,hc1⟩:=A.out q hqn
         obtain ⟨b2,o2,eb,hc2⟩:=B.out q hqn
         subst ea;subst eb
         replace hc1:=(G0.trans g1).keeps hc1
         replace hc2:=(G0.trans g1).keeps hc2
         by_cases hle:L[q]! <= H[q]!
         ·have R1:Hid (below L H (q + 1)=true):=by unfold Hid;rw [below,X.out,decide_eq_true hle];rfl
          have hle':¬ H[q]! < L[q]! := by omega
          generalize L[q]! = x at *
          generalize H[q]! = y at *
          clear X hle
          go_wp2
          go_quiet (fail)
          go_wp2
          go_roundw
          case rel=>exact ⟨q + 1,by simp,hqn,g1.drewN _,R1⟩
          case measure=>simp [intOf];omega
         ·have R1:Hid (res=32):=by
           have:below L H n=false:=below_le (p:=q + 1) (by omega) (by rw [below,decide_eq_false hle,Bool.and_false])
           unfold Hid;rw [E2.out,this];rfl
          have hle':H[q]! < L[q]! := by omega
          generalize L[q]! = x at *
          generalize H[q]! = y at *
          clear X hle
          go_wp2
          go_quiet (fail)
          go_wp2
          go_ret
          exact ⟨by rw [R1.out];rfl,(G0.trans g1).drewN _⟩
        ·have hqi:¬ (q:Int) < (n:Int):=by omega
         have R1:Hid (res=0):=by
          have h2:q=n:=by omega
          unfold Hid;rw [E2.out,<- h2,X.out];rfl
         go_wp2
         go_ret
         exact ⟨by rw [R1.out];rfl,G0.trans g1⟩
      ·have c5:=fun W' g=>CH W' g res (by have:=E.out;unfold cornE at this;rw [if_pos k1,if_neg k2] at this;exact this.symm)
       have hz:¬ res=0:=by have:=E.out;unfold cornE at this;rw [if_pos k1,if_neg k2] at this;rw [this];exact k2
       have hz':(res == 0)=false:=by rw [beq_eq_false_iff_ne];exact hz
       clear CL CH E aL aH hS s1 s3 k1 k2
       obtain ⟨S,L,H,R,I⟩:=r
       dsimp only at *
       subst s2
       generalize L.length=nl at *
       generalize H.length=nh at *
       generalize I.length=ni at *
       go_enter Tryz.func157,Tryz.ntmps157
       go_wp2_with fail
       refine c2.mono ?_
       rintro e w1 ⟨rfl,g1⟩
       obtain ⟨q0,q1,q2,q3,q4,q5⟩:=RA.out.gb g1.gb
       go_wp2_with fail
       refine (c3 _ g1).mono ?_
       rintro e w2 ⟨rfl,g2⟩
       replace g1:=g1.trans g2
       clear q0 q1 q2 q3 q4 q5
       obtain ⟨q0,q1,q2,q3,q4,q5⟩:=RA.out.gb g1.gb
       go_wp2_with fail
       refine (c4 _ g1).mono ?_
       rintro e w' ⟨rfl,e2⟩
       subst e2
       go_wp2_with fail
       refine (c5 _ g1).mono ?_
       rintro e w' ⟨rfl,e2⟩
       subst e2
       go_wp2
       go_ret
       exact ⟨rfl,G0.trans g1⟩
     ·have c4:=fun W' g=>CL W' g res (by have:=E.out;unfold cornE at this;rw [if_neg k1] at this;exact this.symm)
      have hz:¬ res=0:=by have:=E.out;unfold cornE at this;rw [if_neg k1] at this;rw [this];exact k1
      have hz':(res == 0)=false:=by rw [beq_eq_false_iff_ne];exact hz
      clear CL CH E aL aH hS s1 s3 k1
      obtain ⟨S,L,H,R,I⟩:=r
      dsimp only at *
      subst s2
      generalize L.length=nl at *
      generalize H.length=nh at *
      generalize I.length=ni at *
      go_enter Tryz.func157,Tryz.ntmps157
      go_wp2_with fail
      refine c2.mono ?_
      rintro e w1 ⟨rfl,g1⟩
      obtain ⟨q0,q1,q2,q3,q4,q5⟩:=RA.out.gb g1.gb
      go_wp2_with fail
      refine (c3 _ g1).mono ?_
      rintro e w2 ⟨rfl,g2⟩
      replace g1:=g1.trans g2
      clear q0 q1 q2 q3 q4 q5
      obtain ⟨q0,q1,q2,q3,q4,q5⟩:=RA.out.gb g1.gb
      go_wp2_with fail
      refine (c4 _ g1).mono ?_
      rintro e w' ⟨rfl,e2⟩
      subst e2
      go_wp2
      go_ret
      exact ⟨rfl,G0.trans g1⟩
  ·rw [if_neg (fun h=>hi' h.2)] at E
   have c3:=fun W' g=>CI W' g false (by simpa using hi')
   have e:=E.out
   subst e
   clear CU hu CI hi' HR hlen CL CH E aL aH
   obtain ⟨S,L,H,R,I⟩:=r
   dsimp only at *
   generalize L.length=nl at *
   generalize H.length=nh at *
   generalize I.length=ni at *
   go_enter Tryz.func157,Tryz.ntmps157
   go_wp2_with fail
   refine c2.mono ?_
   rintro e w1 ⟨rfl,g1⟩
   obtain ⟨q0,q1,q2,q3,q4,q5⟩:=RA.out.gb g1.gb
   go_wp2_with fail
   refine (c3 _ g1).mono ?_
   rintro e w2 ⟨rfl,g2⟩
   replace g1:=g1.trans g2
   clear q0 q1 q2 q3 q4 q5
   obtain ⟨q0,q1,q2,q3,q4,q5⟩:=RA.out.gb g1.gb
   go_wp2
   go_ret
   exact ⟨rfl,G0.trans g1⟩
 ·rw [if_neg (fun h=>hu h.1)] at E
  have c2:=CU false (by simpa using hu)
  have e:=E.out
  subst e
  clear CU hu CI HR hlen CL CH E aL aH
  obtain ⟨S,L,H,R,I⟩:=r
  dsimp only at *
  generalize L.length=nl at *
  generalize H.length=nh at *
  generalize I.length=ni at *
  go_enter Tryz.func157,Tryz.ntmps157
  go_wp2_with fail
  refine c2.mono ?_
  rintro e w1 ⟨rfl,g1⟩
  obtain ⟨q0,q1,q2,q3,q4,q5⟩:=RA.out.gb g1.gb
  go_wp2
  go_ret
  exact ⟨rfl,G0.trans g1⟩
theorem rckR_v {w:World} {v:Value} {r:Reg} (h:RdR w v r) (hlen:r.I.length<=4611686018427387904) (d x:Int) (hx:ckR r d=x) :
  Calls Tryz.prog 157 #[v,.int .i64 d] w fun e w'=>e=.returned (.int .i64 x)/\Gr w w':=by
 subst hx;exact rckR_c h hlen d
end Go.Proofs.YtgbgejflmbhigaaGreat
