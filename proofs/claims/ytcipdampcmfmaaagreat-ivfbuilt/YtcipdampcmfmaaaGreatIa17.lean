import Derived.Test.YtcipdampcmfmaaaGreatIa11
import Derived.Test.YtcipdampcmfmaaaGreatIa8
import Derived.Test.YtcipdampcmfmaaaGreatIa9
import Derived.Test.YtcipdampcmfmaaaGreatIa12
import Derived.Test.YtcipdampcmfmaaaGreatIa1
import Derived.Deep.RegionHeld3
import Derived.Test.YtcipdampcmfmaaaGreatIa5
import Derived.Test.YtcipdampcmfmaaaGreatIa6
namespace Go.Proofs.YtcipdampcmfmaaaGreat.Rn
open Go.RowKit Go.Shelf
def Per (n:Nat) (f:Nat->Int):Prop:=(∀ i,i < n->0<=f i/\f i < n)/\∀ i j,i < n->j < n->f i=f j->i=j
theorem per_id (n:Nat):Per n (fun t=>(t:Int)):=⟨fun i hi=>⟨Int.natCast_nonneg i,by dsimp only;omega⟩,fun i j _ _ h=>by dsimp only at h;omega⟩
def sg (i j t:Nat):Nat:=if t=j then i else if t=i then j else t
theorem swp_sg (f:Nat->Int) (i j t:Nat):swp f i j t=f (sg i j t):=by
 unfold swp sg
 split
 ·rfl
 ·split <;> rfl
theorem sg_lt {n i j t:Nat} (hi:i < n) (hj:j < n) (ht:t < n):sg i j t < n:=by
 unfold sg;split
 ·exact hi
 ·split
  ·exact hj
  ·exact ht
theorem sg_inj {i j a b:Nat} (h:sg i j a=sg i j b):a=b:=by
 unfold sg at h
 by_cases a1:a=j <;> by_cases a2:a=i <;> by_cases b1:b=j <;> by_cases b2:b=i <;> simp only [if_pos,if_neg,a1,a2,b1,b2,not_false_eq_true] at h <;> (try split at h) <;> omega
theorem Per.swp {n:Nat} {f:Nat->Int} (h:Per n f) {i j:Nat} (hi:i < n) (hj:j < n):Per n (swp f i j) :=
 ⟨fun t ht=>by rw [swp_sg];exact h.1 _ (sg_lt hi hj ht),fun a b ha hb e=>by
  rw [swp_sg,swp_sg] at e
  exact sg_inj (h.2 _ _ (sg_lt hi hj ha) (sg_lt hi hj hb) e)⟩
theorem per_pS (x:Int) (n:Nat):∀ k,k<=n - 1->Per n (pS x n k)
 | 0,_=>per_id n
 | k + 1,hk=>by
  have hz:=u_mx (stN x (k + 1))
  have r1:=Int.emod_nonneg (mx (stN x (k + 1))) (b:=((n - 1 - k:Nat):Int) + 1) (by omega)
  have r2:=Int.emod_lt_of_pos (mx (stN x (k + 1))) (b:=((n - 1 - k:Nat):Int) + 1) (by omega)
  exact Per.swp (per_pS x n k (by omega)) (by omega) (by omega)
def Bl (w:World) (g n:Nat) (f:Nat->Bool):Prop :=
 ∃ cur:Array Value,w.heap[g]? = some (.cells cur 4 (0,0))/\cur.size=n/\∀ i,i < n->cur[i]? = some (.bool (f i))
theorem Bl.cell {w:World} {g n:Nat} {f:Nat->Bool} (h:Bl w g n f) {i:Nat} (hi:i < n):w.cell? ⟨g,i,none⟩=some (.bool (f i)):=by
 obtain ⟨cur,h1,_,h4⟩:=h
 simp [World.cell?,h1,h4 i hi]
theorem Bl.frozen {w:World} {g n:Nat} {f:Nat->Bool} (h:Bl w g n f) (i:Nat):w.frozen? ⟨g,i,none⟩=false:=by
 obtain ⟨cur,h1,_⟩:=h
 simp [World.frozen?,h1]
theorem Bl.set {w:World} {g n:Nat} {f:Nat->Bool} (h:Bl w g n f) {i:Nat} (hi:i < n) (x:Bool) :
  Bl (w.setCell ⟨g,i,none⟩ (.bool x)) g n (fun t=>if t=i then x else f t):=by
 obtain ⟨cur,h1,h2,h4⟩:=h
 refine ⟨cur.setIfInBounds i (.bool x),?_,by simpa using h2,fun t ht=>?_⟩
 ·simp [World.setCell,Array.getElem?_modify,h1]
 ·by_cases e:t=i
  ·subst e;simp [Array.getElem?_setIfInBounds];omega
  ·rw [Array.getElem?_setIfInBounds_ne (Ne.symm e),h4 t ht];simp only [if_neg e]
end Go.Proofs.YtcipdampcmfmaaaGreat.Rn

namespace Go.Proofs.YtcipdampcmfmaaaGreat
open Go.RowKit
theorem rid_c (x:Int) (w:World):Calls Tryz.prog 66 #[.int .i64 x] w fun e w'=>e=.returned (.bool (okId x))/\w=w':=by
 by_cases h:1<=x
 ·by_cases h2:x<=1000000000
  ·have E:Hid (okId x=true):=(okId_iff x).2 ⟨h,h2⟩
   go_enter Tryz.func66,Tryz.ntmps66
   go_wp2
   go_ret
   exact ⟨by rw [E.out];rfl,rfl⟩
  ·have E:Hid (okId x=false):=by unfold Hid;rw [<- Bool.not_eq_true,okId_iff];omega
   go_enter Tryz.func66,Tryz.ntmps66
   go_wp2
   go_ret
   exact ⟨by rw [E.out];rfl,rfl⟩
 ·have E:Hid (okId x=false):=by unfold Hid;rw [<- Bool.not_eq_true,okId_iff];omega
  go_enter Tryz.func66,Tryz.ntmps66
  go_wp2
  go_ret
  exact ⟨by rw [E.out];rfl,rfl⟩
theorem rid_v (x:Int) (b:Bool) (h:okId x=b) (w:World):Calls Tryz.prog 66 #[.int .i64 x] w fun e w'=>e=.returned (.bool b)/\w=w':=by
 subst h;exact rid_c x w
end Go.Proofs.YtcipdampcmfmaaaGreat

namespace Go.Proofs.YtcipdampcmfmaaaGreat
open Go.RowKit Go.Sort
set_option maxRecDepth 100000
set_option maxHeartbeats 2000000
theorem take_snoc {l:List Int} {q:Nat} (h:q < l.length):l.take (q + 1)=l.take q ++ [l[q]!]:=by
 rw [List.take_succ_eq_append_getElem h,getElem!_pos l q h]
theorem ints_c {w:World} {u v:Value} {l m:List Int} (hu:RdI w u l) (hv:RdI w v m) (hlen:l.length<=4611686018427387904) :
  Calls Tryz.prog 33 #[u,v] w fun e w'=>e=.returned (.bool (decide (l=m)))/\Gr w w':=by
 obtain ⟨a,ca,rfl,ha⟩:=hu
 obtain ⟨b,cb,rfl,hb⟩:=hv
 by_cases hlm:l.length=m.length
 ·have A:Hid (∀ i,i < l.length->∃ b o,a=some ⟨b,o,none⟩/\w.cell? ⟨b,o + i,none⟩=some (.int .i64 l[i]!)):=ha
  have B:Hid (∀ i,i < m.length->∃ b' o,b=some ⟨b',o,none⟩/\w.cell? ⟨b',o + i,none⟩=some (.int .i64 m[i]!)):=hb
  have L:Hid (l.length=m.length):=hlm
  rw [<- hlm]
  obtain ⟨n,hN⟩:∃ n,n=l.length:=⟨_,rfl⟩
  have N:Hid (n=l.length):=hN
  rw [<- hN] at hlen ⊢
  clear ha hb hlm hN
  go_enter Tryz.func33,Tryz.ntmps33
  go_wp2
  go_loopw [5] (fun iv w'=>∃ q:Nat,iv=.int .i64 (q:Int)/\q<=n/\Hid (l.take q=m.take q/\Gr w w')) (fun iv _=>n - (intOf iv).toNat)
  case atStart=>exact ⟨0,rfl,Nat.zero_le _,⟨by simp,Gr.refl _⟩⟩
  case round =>
   obtain ⟨q,rfl,hq,X⟩:=hrel
   by_cases hqn:q < n
   ·have hql:q < l.length:=by have:=N.out;omega
    have hqm:q < m.length:=by have:=L.out;omega
    obtain ⟨b1,o1,ea,h1⟩:=A.out q hql
    obtain ⟨b2,o2,eb,h2⟩:=B.out q hqm
    subst ea;subst eb
    have h1:=X.out.2.keeps h1
    have h2:=X.out.2.keeps h2
    by_cases hxy:l[q]! = m[q]!
    ·have R:Hid (l.take (q + 1)=m.take (q + 1)):=by unfold Hid;rw [take_snoc hql,take_snoc hqm,X.out.1,hxy]
     rw [hxy] at h1
     generalize m[q]! = x at *
     clear hxy hql hqm
     go_wp2
     go_quiet (fail)
     go_wp2
     go_roundw
     case rel=>exact ⟨q + 1,by simp,hqn,R.out,X.out.2.drewN _⟩
     case measure=>simp [intOf];omega
    ·have R:Hid (decide (l=m)=false):=decide_eq_false (fun e=>hxy (by rw [e]))
     have hne:(l[q]! == m[q]!)=false:=by rw [beq_eq_false_iff_ne];exact hxy
     generalize l[q]! = x at *
     generalize m[q]! = y at *
     clear hxy hql hqm
     go_wp2
     go_quiet (fail)
     go_wp2
     go_ret
     exact ⟨by rw [R.out];rfl,X.out.2.drewN _⟩
   ·have R:Hid (decide (l=m)=true):=by
     have e:=X.out.1
     have h1:=N.out
     have h2:=L.out
     rw [List.take_of_length_le (by omega),List.take_of_length_le (by omega)] at e
     exact decide_eq_true e
    go_wp2
    go_ret
    exact ⟨by rw [R.out];rfl,X.out.2⟩
 ·have R:Hid (decide (l=m)=false):=decide_eq_false (fun e=>hlm (by rw [e]))
  have hne:((l.length:Int) == (m.length:Int))=false:=by rw [beq_eq_false_iff_ne];omega
  generalize l.length=n1 at *
  generalize m.length=n2 at *
  clear ha hb hlm
  go_enter Tryz.func33,Tryz.ntmps33
  go_wp2
  go_ret
  exact ⟨by rw [R.out];rfl,Gr.refl _⟩
theorem ints_v {w:World} {u v:Value} {l m:List Int} (hu:RdI w u l) (hv:RdI w v m) (hlen:l.length<=4611686018427387904) (r:Bool) (hr:decide (l=m)=r) :
  Calls Tryz.prog 33 #[u,v] w fun e w'=>e=.returned (.bool r)/\Gr w w':=by
 subst hr;exact ints_c hu hv hlen
end Go.Proofs.YtcipdampcmfmaaaGreat

namespace Go.Proofs.YtcipdampcmfmaaaGreat
open Go.RowKit
end Go.Proofs.YtcipdampcmfmaaaGreat

namespace Go.Proofs.YtcipdampcmfmaaaGreat
open Go.RowKit
end Go.Proofs.YtcipdampcmfmaaaGreat

namespace Go.Proofs.YtcipdampcmfmaaaGreat
open Go.RowKit
end Go.Proofs.YtcipdampcmfmaaaGreat

namespace Go.Proofs.YtcipdampcmfmaaaGreat
open Go.RowKit
end Go.Proofs.YtcipdampcmfmaaaGreat

namespace Go.Proofs.YtcipdampcmfmaaaGreat.Tk
open Go.RowKit Go.Sort
set_option maxRecDepth 100000
set_option maxHeartbeats 2000000
attribute [local go_sem ↓] Go.wp_at_zero Go.wp_at_succ
def Lies (w:World) (b o:Nat) (l:List Ht):Prop:=∀ i,i < l.length ->
 w.cell? ⟨b,o + i * 3,none⟩=some (.int .i64 l[i]!.id)/\w.cell? ⟨b,o + i * 3 + 1,none⟩=some (.int .u64 l[i]!.hi)/\w.cell? ⟨b,o + i * 3 + 2,none⟩=some (.int .u64 l[i]!.lo)
def Rd (w:World) (v:Value) (l:List Ht):Prop:=(v=.slice none 0 0/\l=[]) ∨ (∃ a cap,v=.slice (some a) 0 cap/\l=[]) ∨ ∃ b o cap,v=.slice (some ⟨b,o,none⟩) l.length cap/\Lies w b o l
theorem Lies.gr {w w':World} {b o:Nat} {l:List Ht} (h:Lies w b o l) (g:Gr w w'):Lies w' b o l:=fun i hi=>by
 obtain ⟨h0,h1,h2⟩:=h i hi;exact ⟨gr_keeps g h0,gr_keeps g h1,gr_keeps g h2⟩
theorem Lies.kp {S:Nat->Prop} {w w':World} {b o:Nat} {l:List Ht} (h:Lies w b o l) (g:Kp S w w') (hn:¬ S b):Lies w' b o l:=fun i hi=>by
 obtain ⟨h0,h1,h2⟩:=h i hi;exact ⟨g.cell h0 hn,g.cell h1 hn,g.cell h2 hn⟩
theorem Rd.gr {w w':World} {v:Value} {l:List Ht} (h:Rd w v l) (g:Gr w w'):Rd w' v l:=by
 rcases h with h | h | ⟨b,o,cap,e2,h⟩
 ·exact .inl h
 ·exact .inr (.inl h)
 ·exact .inr (.inr ⟨b,o,cap,e2,h.gr g⟩)
theorem own_lies {w:World} {g n cap:Nat} {d:Array Ht} (h:Own w (.slice (some ⟨g,0,none⟩) n cap) d):Lies w g 0 d.toList:=fun i hi=>by
 have hi':i < d.size:=by simpa using hi
 have:=own_cell h hi'
 rw [Nat.zero_add]
 have e:d.toList[i]! = d[i]! := by rw [getElem!_pos d.toList i hi,getElem!_pos d i hi'];simp
 rw [e];exact this
theorem Rd.form {w:World} {v:Value} {l:List Ht} (h:Rd w v l):∃ a cap,v=.slice a l.length cap/\∀ i,i < l.length->∃ b o,a=some ⟨b,o,none⟩/\Lies w b o l:=by
 rcases h with ⟨rfl,rfl⟩ | ⟨a,cap,rfl,rfl⟩ | ⟨b,o,cap,rfl,h⟩
 ·exact ⟨none,0,rfl,fun i hi=>absurd hi (Nat.not_lt_zero _)⟩
 ·exact ⟨_,cap,rfl,fun i hi=>absurd hi (Nat.not_lt_zero _)⟩
 ·exact ⟨_,cap,rfl,fun _ _=>⟨b,o,rfl,h⟩⟩
theorem hv_in (x y:Ht) (W:World):(Op.equalIn 10000 81 (hv x) (hv y)).run Tryz.prog W=.ok (decide (x=y)) W:=by
 have u3:=Tryz.underlying3
 have a3:=Tryz.isAgg3
 have z3:=Tryz.sizeOf3
 have u22:=Tryz.underlying23
 have a22:=Tryz.isAgg23
 have z22:=Tryz.sizeOf23
 have a24:=Tryz.isAgg79
 have z24:=Tryz.sizeOf79
 have hS:Tryz.prog.underlying 81=some (.struct (Tryz.prog.fieldsOf 81)):=by kernel_rfl
 have hp:Tryz.prog.stoodInHeld 81=false:=by kernel_rfl
 have hS2:Tryz.prog.underlying 79=some (.struct (Tryz.prog.fieldsOf 79)):=by kernel_rfl
 have hp2:Tryz.prog.stoodInHeld 79=false:=by kernel_rfl
 have h24:∀ (a b c d:Int) W,(Op.equalIn 9999 79 (.agg #[.int .u64 a,.int .u64 b]) (.agg #[.int .u64 c,.int .u64 d])).run Tryz.prog W=.ok (a == c && b == d) W:=by
  intro a b c d W
  rw [show (9999:Nat)=9998 + 1 from rfl,run_equalIn_agg W 9998 79 _ _ hS2 hp2]
  simp only [Program.fieldsOf,Tryz.underlying79]
  go_simp
  by_cases h1:a=c <;> by_cases h2:b=d <;> simp [h1,h2]
 rw [show (10000:Nat)=9999 + 1 from rfl,run_equalIn_agg W 9999 81 _ _ hS hp]
 simp only [Program.fieldsOf,Tryz.underlying81]
 go_simp
 obtain ⟨a,b,c⟩:=x
 obtain ⟨a',b',c'⟩:=y
 by_cases h1:a=a' <;> by_cases h2:b=b' <;> by_cases h3:c=c' <;> simp [h1,h2,h3]
theorem hv_ne (x y:Ht) (W:World):(binOp .neq 81 (hv x) (hv y)).run Tryz.prog W=.ok (.bool (!decide (x=y))) W:=by
 rw [run_neq_struct,hv_in];rfl
theorem same_c {w:World} {u v:Value} {l m:List Ht} (hu:Rd w u l) (hv':Rd w v m) (hlen:l.length<=4000) :
  Calls Tryz.prog 22 #[u,v] w fun e w'=>e=.returned (.bool (decide (l=m)))/\Gr w w':=by
 obtain ⟨a,ca,rfl,ha⟩:=hu.form
 obtain ⟨b,cb,rfl,hb⟩:=hv'.form
 clear hu hv'
 by_cases hlm:l.length=m.length
 ·have A:Hid (∀ i,i < l.length->∃ b o,a=some ⟨b,o,none⟩/\Lies w b o l):=ha
  have B:Hid (∀ i,i < m.length->∃ b' o,b=some ⟨b',o,none⟩/\Lies w b' o m):=hb
  have L:Hid (l.length=m.length):=hlm
  rw [<- hlm]
  obtain ⟨n,hN⟩:∃ n,n=l.length:=⟨_,rfl⟩
  have N:Hid (n=l.length):=hN
  rw [<- hN] at hlen ⊢
  clear ha hb hlm hN
  go_enter Tryz.func22,Tryz.ntmps22
  go_wp2
  go_loopw [5] (fun iv w'=>∃ q:Nat,iv=.int .i64 (q:Int)/\q<=n/\Hid (l.take q=m.take q/\Gr w w')) (fun iv _=>n - (intOf iv).toNat)
  case atStart=>exact ⟨0,rfl,Nat.zero_le _,⟨by simp,Below.refl _ _⟩⟩
  case round =>
   obtain ⟨q,rfl,hq,X⟩:=hrel
   by_cases hqn:q < n
   ·obtain ⟨b1,o1,ea,h1⟩:=A.out q (by have:=N.out;omega)
    obtain ⟨b2,o2,eb,h2⟩:=B.out q (by have:=L.out;have:=N.out;omega)
    obtain ⟨x0,x1,x2⟩:=(h1.gr X.out.2) q (by have:=N.out;omega)
    obtain ⟨y0,y1,y2⟩:=(h2.gr X.out.2) q (by have:=L.out;have:=N.out;omega)
    subst ea;subst eb
    have Q:Hid (q < l.length/\q < m.length):=⟨by have:=N.out;omega,by have:=L.out;have:=N.out;omega⟩
    obtain ⟨x,hx⟩:∃ x,x=l[q]! := ⟨_,rfl⟩
    obtain ⟨y,hy⟩:∃ y,y=m[q]! := ⟨_,rfl⟩
    have XY:Hid (x=l[q]! /\ y=m[q]!):=⟨hx,hy⟩
    rw [<- hx] at x0 x1 x2
    rw [<- hy] at y0 y1 y2
    clear hx hy h1 h2
    have hne:=fun W=>hv_ne x y W
    by_cases hxy:x=y
    ·have E:Hid (x=y):=hxy
     rw [decide_eq_true hxy] at hne
     clear hxy
     go_wp2
     go_quiet (fail)
     go_wp2
     go_roundw
     case rel =>
      refine ⟨q + 1,by simp,hqn,⟨?_,X.out.2.trans (below_drewN (Below.refl _ _) _)⟩⟩
      obtain ⟨e1,e2⟩:=XY.out
      have e3:=E.out
      rw [e1,e2,getElem!_pos l q Q.out.1,getElem!_pos m q Q.out.2] at e3
      rw [List.take_succ_eq_append_getElem Q.out.1,List.take_succ_eq_append_getElem Q.out.2,X.out.1,e3]
     case measure=>simp [intOf];omega
    ·have E:Hid (l ≠ m):=by
      intro e
      obtain ⟨e1,e2⟩:=XY.out
      exact hxy (by rw [e1,e2,e])
     rw [decide_eq_false hxy] at hne
     have R:Hid (decide (l=m)=false):=decide_eq_false E.out
     clear hxy
     go_wp2
     go_quiet (fail)
     go_wp2
     go_ret
     exact ⟨by rw [R.out];rfl,X.out.2.trans (below_drewN (Below.refl _ _) _)⟩
   ·have R:Hid (decide (l=m)=true):=by
     have e:=X.out.1
     have h1:=N.out
     have h2:=L.out
     rw [List.take_of_length_le (by omega),List.take_of_length_le (by omega)] at e
     exact decide_eq_true e
    go_wp2
    go_ret
    exact ⟨by rw [R.out];rfl,X.out.2⟩
 ·have R:Hid (decide (l=m)=false):=decide_eq_false (fun e=>hlm (by rw [e]))
  have hne:((l.length:Int) == (m.length:Int))=false:=by rw [beq_eq_false_iff_ne];omega
  generalize l.length=n1 at *
  generalize m.length=n2 at *
  clear ha hb hlm
  go_enter Tryz.func22,Tryz.ntmps22
  go_wp2
  go_ret
  exact ⟨by rw [R.out];rfl,Below.refl _ _⟩
end Go.Proofs.YtcipdampcmfmaaaGreat.Tk

namespace Go.Proofs.YtcipdampcmfmaaaGreat
open Go.RowKit Go.Sort Go.Maps
set_option maxRecDepth 100000
set_option maxHeartbeats 8000000
theorem contains_take {l:List Int} {x:Int} {q:Nat} (hq:q<=l.length):(l.take q).contains x=true ↔ ∃ k,k < q/\l[k]! = x:=by
 rw [List.contains_iff_mem,List.mem_iff_getElem]
 constructor
 ·rintro ⟨k,hk,e⟩
  have h1:k < q:=by rw [List.length_take] at hk;omega
  refine ⟨k,h1,?_⟩
  rw [getElem!_pos l k (by omega),<- e];simp
 ·rintro ⟨k,hk,e⟩
  refine ⟨k,by rw [List.length_take];omega,?_⟩
  rw [getElem!_pos l k (by omega)] at e
  rw [<- e];simp
theorem rrows_c {w:World} {v:Value} {rs:List Rw} (h:RdW w v rs) (d:Int) (hlen:rs.length<=4611686018427387904) :
  Calls Tryz.prog 62 #[v,.int .i64 d] w fun e w'=>e=.returned (.int .i64 (idsE rs d))/\Gr w w':=by
 obtain ⟨a,cap,rfl,ha⟩:=h
 have A:Hid (∀ i,i < rs.length->∃ b o u,a=some ⟨b,o,none⟩/\w.cell? ⟨b,o + i * 2,none⟩=some (.int .i64 rs[i]!.1)/\w.cell? ⟨b,o + i * 2 + 1,none⟩=some u/\RdI w u rs[i]!.2):=ha
 obtain ⟨n,hN⟩:∃ n,n=rs.length:=⟨_,rfl⟩
 have N:Hid (n=rs.length):=hN
 rw [<- hN] at hlen ⊢
 clear ha
 by_cases hn:n<=512
 ·have E:Hid (idsE rs d=rowsTo rs d rs.length):=by unfold Hid idsE;rw [if_pos (by omega)]
  clear hN
  go_enter Tryz.func62,Tryz.ntmps62
  go_wp2
  go_loopw [5] (fun iv w'=>∃ q:Nat,iv=.int .i64 (q:Int)/\q<=n/\Hid (rowsTo rs d q=0/\Gr w w')) (fun iv _=>n - (intOf iv).toNat)
  case atStart=>exact ⟨0,rfl,Nat.zero_le _,rfl,Gr.refl _⟩
  case round =>
   obtain ⟨q,rfl,hq,X⟩:=hrel
   by_cases hqn:q < n
   ·have hqi:(q:Int) < (n:Int):=by omega
    have hql:q < rs.length:=by have:=N.out;omega
    obtain ⟨b,o,u,ea,h1,h2,h3⟩:=A.out q hql
    have EE:Hid (rowE rs d q=if ((idsOf rs).take q).contains rs[q]!.1=false/\okId rs[q]!.1=true then chk rs[q]!.2 d else 50):=rfl
    have hE:Hid (rowE rs d q ≠ 0->idsE rs d=rowE rs d q):=fun h=>rowsTo_err hql X.out.1 h (by have:=N.out;omega)
    have hNext:Hid (rowE rs d q=0->rowsTo rs d (q + 1)=0):=fun h=>rowsTo_next X.out.1 h
    replace h1:=X.out.2.keeps h1
    replace h2:=X.out.2.keeps h2
    have h3:=h3.gb X.out.2.gb
    subst ea
    cases hok:okId rs[q]!.1 with
    | false =>
     have c66:=fun W=>rid_v rs[q]!.1 false hok W
     have R:Hid (idsE rs d=50/\Gr w wr):=by
      have e1:=EE.out
      rw [if_neg (by rw [hok];simp)] at e1
      exact ⟨by rw [hE.out (by omega),e1],X.out.2⟩
     generalize rs[q]!.1=x at *
     clear EE hE hNext hok h3
     go_wp2_with (go_at_call 66;refine (c66 _).mono ?_;rintro e w' ⟨rfl,e2⟩;subst e2)
     go_ret
     exact ⟨by rw [R.out.1];rfl,R.out.2⟩
    | true =>
     have c66:=fun W=>rid_v rs[q]!.1 true hok W
     have c15:=fun W (g:Gr wr W) r h=>rcheck_v (h3.gb g.gb) d r h
     have IDS:Hid (∀ k,k < rs.length->(idsOf rs)[k]! = rs[k]!.1):=fun k hk=>by
      unfold idsOf
      rw [getElem!_pos _ k (by simpa using hk),getElem!_pos rs k hk];simp
     have CT:Hid (((idsOf rs).take q).contains rs[q]!.1=true ↔ ∃ k,k < q/\rs[k]!.1=rs[q]!.1):=by
      unfold Hid
      rw [contains_take (by unfold idsOf;rw [List.length_map];omega)]
      exact ⟨fun ⟨k,hk,e⟩=>⟨k,hk,by rw [<- IDS.out k (by omega)];exact e⟩,fun ⟨k,hk,e⟩=>⟨k,hk,by rw [IDS.out k (by omega)];exact e⟩⟩
     obtain ⟨a1,c1,rfl,_⟩:=h3
     obtain ⟨x,hx⟩:∃ x,x=rs[q]!.1:=⟨_,rfl⟩
     obtain ⟨m,hm⟩:∃ m,m=rs[q]!.2.length:=⟨_,rfl⟩
     rw [<- hx] at h1 c66 CT EE
     rw [<- hm] at h2 c15
     have XM:Hid (x=rs[q]!.1/\m=rs[q]!.2.length/\q < rs.length/\okId x=true):=⟨hx,hm,hql,by rw [hx];exact hok⟩
     clear hql hx hm hok
     go_wp2_with (go_at_call 66;refine (c66 _).mono ?_;rintro e w' ⟨rfl,e2⟩;subst e2)
     clear c66
     go_loopw [6] (fun iv w'=>∃ p:Nat,iv=.int .i64 (p:Int)/\p<=q/\Hid ((∀ i,i < p->rs[i]!.1 ≠ x)/\Gr wr w')) (fun iv _=>q - (intOf iv).toNat)
     case atStart=>exact ⟨0,rfl,Nat.zero_le _,fun i hi=>absurd hi (Nat.not_lt_zero _),Gr.refl _⟩
     case round =>
      obtain ⟨p,rfl,hp,Y⟩:=hrel
      by_cases hpq:p < q
      ·have hpi:(p:Int) < (q:Int):=by omega
       have hpn:(p:Int) < (n:Int):=by omega
       obtain ⟨b',o',u',ea,y1,_,_⟩:=A.out p (by have:=N.out;omega)
       cases ea
       replace y1:=(X.out.2.trans Y.out.2).keeps y1
       have z1:=Y.out.2.keeps h1
       by_cases hxy:rs[p]!.1=x
       ·have R:Hid (idsE rs d=50/\Gr w wr):=by
         have e1:=EE.out
         rw [if_neg (by rw [CT.out.2 ⟨p,hpq,hxy⟩];simp)] at e1
         exact ⟨by rw [hE.out (by omega),e1],X.out.2.trans Y.out.2⟩
        rw [hxy] at y1
        clear EE hE hNext hxy CT IDS c15
        go_wp2
        go_quiet (fail)
        go_wp2
        go_ret
        exact ⟨by rw [R.out.1];rfl,R.out.2.drewN _⟩
       ·have R:Hid (∀ i,i < p + 1->rs[i]!.1 ≠ x):=fun i hi=>by
         by_cases e:i=p
         ·rw [e];exact hxy
         ·exact Y.out.1 i (by omega)
        have hxy':(rs[p]!.1 == x)=false:=by rw [beq_eq_false_iff_ne];exact hxy
        generalize rs[p]!.1=y at *
        clear EE hE hNext CT IDS c15
        go_wp2
        go_quiet (fail)
        go_wp2
        go_roundw
        case rel=>exact ⟨p + 1,by simp,hpq,R.out,Y.out.2.drewN _⟩
        case measure=>simp [intOf];omega
      ·have hpi:¬ (p:Int) < (q:Int):=by omega
       have EE2:Hid (rowE rs d q=chk rs[q]!.2 d):=by
        have e1:=EE.out
        rw [if_pos ⟨by
         cases hc:((idsOf rs).take q).contains x with
         | false=>rfl
         | true =>
          obtain ⟨k,hk,e⟩:=CT.out.1 hc
          exact absurd e (Y.out.1 k (by omega)),XM.out.2.2.2⟩] at e1
        exact e1
       have z2:=Y.out.2.keeps h2
       have GG:Hid (Gr w wr):=X.out.2.trans Y.out.2
       by_cases hv:chk rs[q]!.2 d=0
       ·have c:=c15 _ Y.out.2 0 hv
        have R:Hid (rowsTo rs d (q + 1)=0):=hNext.out (by rw [EE2.out,hv])
        clear EE hE hNext CT IDS c15 EE2 hv Y X
        go_wp2_with (go_at_call 67;refine c.mono ?_;rintro e w' ⟨rfl,e2⟩;subst e2)
        go_roundw
        case rel=>exact ⟨q + 1,by simp,hqn,R.out,GG.out⟩
        case measure=>simp [intOf];omega
       ·have c:=c15 _ Y.out.2 _ rfl
        have R:Hid (idsE rs d=chk rs[q]!.2 d):=by
         have:=hE.out (by rw [EE2.out];exact hv)
         rw [EE2.out] at this;exact this
        have hv':(chk rs[q]!.2 d == 0)=false:=by rw [beq_eq_false_iff_ne];exact hv
        generalize chk rs[q]!.2 d=ce at *
        clear EE hE hNext CT IDS c15 EE2 Y X
        go_wp2_with (go_at_call 67;refine c.mono ?_;rintro e w' ⟨rfl,e2⟩;subst e2)
        go_ret
        exact ⟨by rw [R.out];rfl,GG.out⟩
   ·have hqi:¬ (q:Int) < (n:Int):=by omega
    have R:Hid (idsE rs d=0/\Gr w wr):=by
     have h1:=X.out.1
     rw [show q=rs.length by have:=N.out;omega,<- E.out] at h1
     exact ⟨h1,X.out.2⟩
    clear X E
    go_wp2
    go_ret
    exact ⟨by rw [R.out.1];rfl,R.out.2⟩
 ·have E:Hid (idsE rs d=2):=by unfold Hid idsE;rw [if_neg (by omega)]
  have hn':(n:Int) > 512:=by omega
  clear hN
  go_enter Tryz.func62,Tryz.ntmps62
  go_wp2
  go_ret
  exact ⟨by rw [E.out];rfl,Gr.refl _⟩
end Go.Proofs.YtcipdampcmfmaaaGreat

namespace Go.Proofs.YtcipdampcmfmaaaGreat
open Go.RowKit Go.Sort Go.Maps
theorem wd_same (a b:Int) (W:World):(binOp .eql 79 (.agg #[.int .u64 a,.int .u64 b]) (.agg #[.int .u64 a,.int .u64 b])).run Tryz.prog W=.ok (.bool true) W:=by
 rw [wd_run];simp
end Go.Proofs.YtcipdampcmfmaaaGreat

namespace Go.Proofs.YtcipdampcmfmaaaGreat
open Go.RowKit Go.Sort
set_option maxRecDepth 100000
set_option maxHeartbeats 2000000
theorem krsame_c {w:World} {u v:Value} {l:List Rw} (hu:RdW w u l) (hv:RdW w v l) (hn:l.length<=4611686018427387904) (hr:∀ r ∈ l,r.2.length<=4611686018427387904) :
  Calls Tryz.prog 25 #[u,v] w fun e w'=>e=.returned (.bool true)/\Gb w w':=by
 have A:Hid (RdW w u l):=hu
 have B:Hid (RdW w v l):=hv
 have R:Hid (∀ r ∈ l,r.2.length<=4611686018427387904):=hr
 obtain ⟨au,cu,eu,_⟩:=hu
 obtain ⟨av,cv,ev,_⟩:=hv
 subst eu ev
 obtain ⟨n,hN⟩:∃ n,n=l.length:=⟨_,rfl⟩
 have N:Hid (n=l.length):=hN
 rw [<- hN] at A B hn ⊢
 clear hN hr
 go_enter Tryz.func25,Tryz.ntmps25
 go_wp2
 go_loopw [5] (fun iv W=>∃ p:Nat,iv=.int .i64 (p:Int)/\p<=n/\Hid (Gb w W)) (fun iv _=>n - (intOf iv).toNat)
 case atStart=>exact ⟨0,rfl,Nat.zero_le _,Below.refl _ _⟩
 case round =>
  obtain ⟨p,rfl,hp,X⟩:=hrel
  by_cases hpn:p < n
  ·have hpi:(p:Int) < (n:Int):=by omega
   have hpl:p < l.length:=by have:=N.out;omega
   obtain ⟨_,_,ea,hA⟩:=A.out
   obtain ⟨b1,o1,x1,e1,a0,a1,r1⟩:=hA p hpl
   obtain ⟨_,_,eb,hB⟩:=B.out
   obtain ⟨b2,o2,y1,e2,k0,k1,t1⟩:=hB p hpl
   injection ea with ea1 ea2 ea3
   injection eb with eb1 eb2 eb3
   subst ea1;subst eb1;subst e1;subst e2
   clear hA hB ea2 ea3 eb2 eb3
   have fw:=R.out l[p]! (by rw [getElem!_pos l p hpl];exact List.getElem_mem hpl)
   have ci:=fun W (g:Gb w W)=>ints_v (r1.gb g) (t1.gb g) fw true (by simp)
   have a0:=gb_keeps X.out a0
   have a1:=gb_keeps X.out a1
   have k0:=gb_keeps X.out k0
   have k1:=gb_keeps X.out k1
   obtain ⟨u1,u2,e,z0⟩:=r1;subst e
   obtain ⟨u3,u4,e,z1⟩:=t1;subst e
   have GD:Gb wr wr.drew:=⟨rfl,rfl,rfl,Nat.le_refl _,fun _ _=>rfl⟩
   generalize l[p]!.2.length=z at *
   generalize l[p]!.1=x at *
   clear z0 z1 fw hpl
   go_wp2_with fail
   refine wp_region_held_drew (S:=fun W=>Gb wr W) (by kernel_rfl) (GD) (fun hHeld=>?_)
   refine tkn 0 ?_ rfl ?_ ?_;rotate_left;·(intro w hSw;obtain ⟨s0,s1,s2,s3⟩:=kp4 hSw a0 a1 k0 k1;go_simp;try rfl)
   try simp only [pt]
   refine tkn 1 ?_ rfl ?_ ?_;rotate_left;·(intro w hSw;obtain ⟨s0,s1,s2,s3⟩:=kp4 hSw a0 a1 k0 k1;go_simp;try rfl)
   try simp only [pt]
   refine tkn 2 ?_ rfl ?_ ?_;rotate_left;·(intro w hSw;obtain ⟨s0,s1,s2,s3⟩:=kp4 hSw a0 a1 k0 k1;go_simp;try rfl)
   try simp only [pt]
   refine tkn 3 ?_ rfl ?_ ?_;rotate_left;·(intro w hSw;obtain ⟨s0,s1,s2,s3⟩:=kp4 hSw a0 a1 k0 k1;go_simp;try rfl)
   try simp only [pt]
   refine tkn 4 ?_ rfl ?_ ?_;rotate_left;·(intro w hSw;obtain ⟨s0,s1,s2,s3⟩:=kp4 hSw a0 a1 k0 k1;go_simp;try rfl)
   try simp only [pt]
   refine tkn 5 ?_ rfl ?_ ?_;rotate_left;·(intro w hSw;obtain ⟨s0,s1,s2,s3⟩:=kp4 hSw a0 a1 k0 k1;go_simp;try rfl)
   try simp only [pt]
   refine tkn 6 ?_ rfl ?_ ?_;rotate_left;·(intro w hSw;obtain ⟨s0,s1,s2,s3⟩:=kp4 hSw a0 a1 k0 k1;go_simp;try rfl)
   try simp only [pt]
   refine tkn 7 ?_ rfl ?_ ?_;rotate_left;·(intro w hSw;obtain ⟨s0,s1,s2,s3⟩:=kp4 hSw a0 a1 k0 k1;go_simp;try rfl)
   try simp only [pt]
   refine tkn 8 ?_ rfl ?_ ?_;rotate_left;·(intro w hSw;obtain ⟨s0,s1,s2,s3⟩:=kp4 hSw a0 a1 k0 k1;go_simp;try rfl)
   try simp only [pt]
   refine tkn 9 ?_ rfl ?_ ?_;rotate_left;·(intro w hSw;obtain ⟨s0,s1,s2,s3⟩:=kp4 hSw a0 a1 k0 k1;go_simp;try rfl)
   try simp only [pt]
   refine tkn 10 ?_ rfl ?_ ?_;rotate_left;·(intro w hSw;obtain ⟨s0,s1,s2,s3⟩:=kp4 hSw a0 a1 k0 k1;go_simp;try rfl)
   try simp only [pt]
   refine tkn 11 ?_ rfl ?_ ?_;rotate_left;·(intro w hSw;obtain ⟨s0,s1,s2,s3⟩:=kp4 hSw a0 a1 k0 k1;go_simp;try rfl)
   try simp only [pt]
   refine tkn 12 ?_ rfl ?_ ?_;rotate_left;·(intro w hSw;obtain ⟨s0,s1,s2,s3⟩:=kp4 hSw a0 a1 k0 k1;go_simp;try rfl)
   try simp only [pt]
   refine tkn 13 ?_ rfl ?_ ?_;rotate_left;·(intro w hSw;obtain ⟨s0,s1,s2,s3⟩:=kp4 hSw a0 a1 k0 k1;go_simp;try rfl)
   try simp only [pt]
   refine tkn 14 ?_ rfl ?_ ?_;rotate_left;·(intro w hSw;obtain ⟨s0,s1,s2,s3⟩:=kp4 hSw a0 a1 k0 k1;go_simp;try rfl)
   try simp only [pt]
   refine tkn 15 ?_ rfl ?_ ?_;rotate_left;·(intro w hSw;obtain ⟨s0,s1,s2,s3⟩:=kp4 hSw a0 a1 k0 k1;go_simp;try rfl)
   try simp only [pt]
   refine tkn 16 ?_ rfl ?_ ?_;rotate_left;·(intro w hSw;obtain ⟨s0,s1,s2,s3⟩:=kp4 hSw a0 a1 k0 k1;go_simp;try rfl)
   try simp only [pt]
   refine tkn 17 ?_ rfl ?_ ?_;rotate_left;·(intro w hSw;obtain ⟨s0,s1,s2,s3⟩:=kp4 hSw a0 a1 k0 k1;go_simp;try rfl)
   try simp only [pt]
   refine tkn 18 ?_ rfl ?_ ?_;rotate_left;·(intro w hSw;obtain ⟨s0,s1,s2,s3⟩:=kp4 hSw a0 a1 k0 k1;go_simp;try rfl)
   try simp only [pt]
   refine tkn 19 ?_ rfl ?_ ?_;rotate_left;·(intro w hSw;obtain ⟨s0,s1,s2,s3⟩:=kp4 hSw a0 a1 k0 k1;go_simp;try rfl)
   try simp only [pt]
   refine tkn 20 ?_ rfl ?_ ?_;rotate_left;·(intro w hSw;obtain ⟨s0,s1,s2,s3⟩:=kp4 hSw a0 a1 k0 k1;go_simp;try rfl)
   try simp only [pt]
   refine tkn 21 ?_ rfl ?_ ?_;rotate_left;·(intro w hSw;obtain ⟨s0,s1,s2,s3⟩:=kp4 hSw a0 a1 k0 k1;go_simp;try rfl)
   try simp only [pt]
   refine rdn 22 rfl (fun K hK=>?_)
   go_simp
   refine (ci _ (gb_trans X.out hHeld)).mono ?_
   rintro e w4 ⟨rfl,g4⟩
   refine hK.out _ _ (gb_trans hHeld g4.gb) (fun hHeld=>?_)
   clear hK K
   try simp only [pt]
   refine tkn 23 ?_ rfl ?_ ?_;rotate_left;·(intro w hSw;obtain ⟨s0,s1,s2,s3⟩:=kp4 hSw a0 a1 k0 k1;go_simp;try rfl)
   try simp only [pt]
   refine tkn 24 ?_ rfl ?_ ?_;rotate_left;·(intro w hSw;obtain ⟨s0,s1,s2,s3⟩:=kp4 hSw a0 a1 k0 k1;go_simp;try rfl)
   try simp only [pt]
   refine wpAnyH_done (by kernel_rfl) ?_ _
   have X4:Hid (Gb w w4):=gb_trans X.out hHeld
   clear hHeld ci a0 a1 k0 k1 X GD
   go_wp2
   go_roundw
   case rel=>exact ⟨p + 1,by first | rfl | go_num,hpn,X4⟩
   case measure=>simp [intOf];omega
  ·have hpi:¬ (p:Int) < (n:Int):=by omega
   go_wp2
   go_ret
   exact ⟨rfl,X.out⟩
end Go.Proofs.YtcipdampcmfmaaaGreat
