import Derived.Test.YtcipdampcmfmaaaGreatIa1
import Derived.Test.YtcipdampcmfmaaaGreatIa17
import Derived.Test.YtcipdampcmfmaaaGreatIa2
namespace Go.Proofs.YtcipdampcmfmaaaGreat
open Go.RowKit
abbrev Vs:Type:=List (List Int)
def vecsTo (vs:Vs) (d:Int):Nat->Int
 | 0=>0
 | q + 1=>if vecsTo vs d q=0 then chk vs[q]! d else vecsTo vs d q
def vecsE (vs:Vs) (d:Int):Int:=vecsTo vs d vs.length
theorem vecsTo_stay {vs:Vs} {d:Int} {p q:Nat} (hpq:p<=q) (h:vecsTo vs d p ≠ 0):vecsTo vs d q=vecsTo vs d p:=by
 induction q with
 | zero =>
   have:p=0:=by omega
   subst this;rfl
 | succ q ih =>
  by_cases e:p=q + 1
  ·subst e;rfl
  ·have h1:=ih (by omega)
   rw [vecsTo,h1,if_neg h]
theorem vecsTo_err {vs:Vs} {d:Int} {q:Nat} (hq:q < vs.length) (h0:vecsTo vs d q=0) (h:chk vs[q]! d ≠ 0):vecsE vs d=chk vs[q]! d:=by
 have h1:vecsTo vs d (q + 1)=chk vs[q]! d:=by rw [vecsTo,if_pos h0]
 rw [vecsE,vecsTo_stay (p:=q + 1) (by omega) (by rw [h1];exact h),h1]
theorem vecsTo_next {vs:Vs} {d:Int} {q:Nat} (h0:vecsTo vs d q=0) (h:chk vs[q]! d=0):vecsTo vs d (q + 1)=0:=by rw [vecsTo,if_pos h0,h]
theorem vecsTo_zero {vs:Vs} {d:Int}:∀ q,vecsTo vs d q=0 ↔ ∀ i,i < q->chk vs[i]! d=0
 | 0=>⟨fun _ i hi=>absurd hi (Nat.not_lt_zero _),fun _=>rfl⟩
 | q + 1=>by
  rw [vecsTo]
  constructor
  ·intro h
   split at h
   ·rename_i h0
    intro i hi
    by_cases e:i=q
    ·subst e;exact h
    ·exact (vecsTo_zero q).1 h0 i (by omega)
   ·rename_i h0;exact absurd h h0
  ·intro h
   rw [if_pos ((vecsTo_zero q).2 fun i hi=>h i (by omega))]
   exact h q (by omega)
def VsOk (vs:Vs) (d:Int):Prop:=∀ i,i < vs.length->chk vs[i]! d=0
theorem vecsE_zero {vs:Vs} {d:Int}:vecsE vs d=0 ↔ VsOk vs d:=vecsTo_zero _
theorem VsOk.get {vs:Vs} {d:Int} (h:VsOk vs d) {i:Nat} (hi:i < vs.length):1<=vs[i]!.length/\vs[i]!.length<=64/\d=(vs[i]!.length:Int)/\allR vs[i]! = true:=chk_ok (h i hi)
def nearTo (cs:Vs) (v:List Int):Nat->Nat × Nat
 | 0=>(0,dst cs[0]! v)
 | q + 1=>if dst cs[q + 1]! v < (nearTo cs v q).2 then (q + 1,dst cs[q + 1]! v) else nearTo cs v q
def nearP (cs:Vs) (v:List Int):Nat × Nat:=nearTo cs v (cs.length - 1)
theorem nearTo_le (cs:Vs) (v:List Int):∀ q,(nearTo cs v q).1<=q
 | 0=>Nat.le_refl _
 | q + 1=>by
  rw [nearTo];split
  ·exact Nat.le_refl _
  ·exact Nat.le_succ_of_le (nearTo_le cs v q)
theorem nearP_lt {cs:Vs} (h:1<=cs.length) (v:List Int):(nearP cs v).1 < cs.length:=by
 have:=nearTo_le cs v (cs.length - 1)
 unfold nearP;omega
theorem near_dist {cs:Vs} {v:List Int} {d:Int} (h:VsOk cs d) (hv:chk v d=0) {i:Nat} (hi:i < cs.length):distE cs[i]! v=0/\distV cs[i]! v=dst cs[i]! v:=by
 have h1:=h.get hi
 have e:distE cs[i]! v=0:=by unfold distE;rw [<- h1.2.2.1,if_pos (h i hi)];exact hv
 exact ⟨e,by unfold distV;rw [if_pos e]⟩
theorem dst_le {a b:List Int} {d:Int} (ha:chk a d=0) (hb:chk b d=0):dst a b<=1180591619617899675904:=by
 have h1:=chk_ok ha
 have h2:=chk_ok hb
 have h3:=dstN_le h1.2.2.2 h2.2.2.2 (by omega) a.length (Nat.le_refl _)
 have h4:dst a b=dstN a b a.length:=rfl
 omega
def belTo (cs l:Vs) (i:Nat) (q:Nat):List Nat:=(List.range q).filter fun j=>decide ((nearP cs l[j]!).1=i)
theorem belTo_next (cs l:Vs) (i q:Nat):belTo cs l i (q + 1)=if (nearP cs l[q]!).1=i then belTo cs l i q ++ [q] else belTo cs l i q:=by
 unfold belTo
 rw [List.range_succ,List.filter_append]
 by_cases h:(nearP cs l[q]!).1=i
 ·rw [if_pos h,List.filter_cons_of_pos (by rw [h];exact decide_eq_true rfl)];rfl
 ·rw [if_neg h,List.filter_cons_of_neg (by rw [decide_eq_true_eq];exact h),List.filter_nil,List.append_nil]
theorem belTo_len (cs l:Vs) (i q:Nat):(belTo cs l i q).length<=q:=by
 unfold belTo
 refine Nat.le_trans (List.length_filter_le _ _) ?_
 simp
theorem belTo_lt {cs l:Vs} {i q j:Nat} (h:j ∈ belTo cs l i q):j < q:=by
 unfold belTo at h
 exact List.mem_range.1 (List.mem_filter.1 h).1
def sumTo (l:Vs) (ps:List Nat) (t:Nat):Nat->Int
 | 0=>0
 | n + 1=>sumTo l ps t n + l[ps[n]!]![t]!
def middle (l:Vs) (c:List Int) (ps:List Nat):List Int:=if ps.length=0 then c else (List.range c.length).map fun t=>sumTo l ps t ps.length / ps.length
def roundV (l cs:Vs):Vs:=(List.range cs.length).map fun i=>middle l cs[i]! (belTo cs l i l.length)
def roundsV (l cs:Vs):Nat->Vs
 | 0=>cs
 | q + 1=>roundV l (roundsV l cs q)
def drawnV (l:Vs) (k:Nat) (x:Int):Vs:=(List.range k).map fun i=>l[(Rn.pS x l.length (l.length - 1) i).toNat]!
def trainV (l:Vs) (k r:Nat) (x:Int):Vs:=roundsV l (drawnV l k x) r
def trainE (l:Vs) (k r:Int):Int :=
 if 1<=k/\k<=64/\0<=r/\r<=20 then (if l.length<=512 then (if (l.length:Int) < k then 60 else vecsE l (l[0]!.length:Int)) else 2) else 1
theorem trainE_zero {l:Vs} {k r:Int}:trainE l k r=0 ↔ (1<=k/\k<=64/\0<=r/\r<=20)/\l.length<=512/\k<=(l.length:Int)/\VsOk l (l[0]!.length:Int):=by
 unfold trainE
 split
 ·rename_i h1
  split
  ·rename_i h2
   split
   ·rename_i h3;exact ⟨fun e=>by simp at e,fun e=>by omega⟩
   ·rename_i h3;rw [vecsE_zero];exact ⟨fun e=>⟨h1,h2,by omega,e⟩,fun e=>e.2.2.2⟩
  ·rename_i h2;exact ⟨fun e=>by simp at e,fun e=>absurd e.2.1 h2⟩
 ·rename_i h1;exact ⟨fun e=>by simp at e,fun e=>absurd e.1 h1⟩
theorem middle_len (l:Vs) (c:List Int) (ps:List Nat):(middle l c ps).length=c.length:=by unfold middle;split <;> simp
theorem middle_get {l:Vs} {c:List Int} {ps:List Nat} (h:ps.length ≠ 0) {t:Nat} (ht:t < c.length):(middle l c ps)[t]! = sumTo l ps t ps.length / ps.length:=by
 unfold middle
 rw [if_neg h,getElem!_pos _ t (by simpa using ht)];simp
theorem roundV_len (l cs:Vs):(roundV l cs).length=cs.length:=by simp [roundV]
theorem roundV_get (l:Vs) {cs:Vs} {i:Nat} (hi:i < cs.length):(roundV l cs)[i]! = middle l cs[i]! (belTo cs l i l.length):=by
 rw [getElem!_pos _ i (by rw [roundV_len];exact hi)];simp [roundV]
theorem drawnV_len (l:Vs) (k:Nat) (x:Int):(drawnV l k x).length=k:=by simp [drawnV]
theorem drawnV_get (l:Vs) {k:Nat} (x:Int) {i:Nat} (hi:i < k):(drawnV l k x)[i]! = l[(Rn.pS x l.length (l.length - 1) i).toNat]! := by
 rw [getElem!_pos _ i (by rw [drawnV_len];exact hi)];simp [drawnV]
theorem roundsV_len (l cs:Vs):∀ r,(roundsV l cs r).length=cs.length
 | 0=>rfl
 | r + 1=>by rw [roundsV,roundV_len,roundsV_len l cs r]
theorem sumTo_within (l:Vs) (ps:List Nat) (t:Nat) (lo hi:Int):∀ n,n<=ps.length->(∀ i,i < n->lo<=l[ps[i]!]![t]! /\ l[ps[i]!]![t]! <= hi)->lo * n<=sumTo l ps t n/\sumTo l ps t n<=hi * n
 | 0,_,_=>by simp [sumTo]
 | n + 1,hn,h=>by
  have h1:=sumTo_within l ps t lo hi n (by omega) (fun i hi=>h i (by omega))
  have h2:=h n (by omega)
  rw [sumTo]
  have e1:lo * ((n + 1:Nat):Int)=lo * n + lo:=by rw [Int.natCast_add,Int.mul_add];simp
  have e2:hi * ((n + 1:Nat):Int)=hi * n + hi:=by rw [Int.natCast_add,Int.mul_add];simp
  omega
theorem div_within {s lo hi:Int} {n:Nat} (hn:n ≠ 0) (h1:lo * n<=s) (h2:s<=hi * n):lo<=s / n/\s / n<=hi:=by
 have hp:(0:Int) < n:=by omega
 refine ⟨(Int.le_ediv_iff_mul_le hp).2 h1,?_⟩
 have h3:s / n < hi + 1:=Int.ediv_lt_of_lt_mul hp (by rw [Int.add_mul];omega)
 omega
theorem middle_within {l:Vs} {c:List Int} {ps:List Nat} {t:Nat} {lo hi:Int} (ht:t < c.length) (hc:lo<=c[t]! /\ c[t]! <= hi) (h:∀ j ∈ ps,lo<=l[j]![t]! /\ l[j]![t]! <= hi):lo<=(middle l c ps)[t]! /\ (middle l c ps)[t]! <= hi:=by
 by_cases h0:ps.length=0
 ·unfold middle;rw [if_pos h0];exact hc
 ·rw [middle_get h0 ht]
  have:=sumTo_within l ps t lo hi ps.length (Nat.le_refl _) (fun i hi=>h _ (by rw [getElem!_pos ps i hi];exact List.getElem_mem hi))
  exact div_within h0 this.1 this.2
def Within (l cs:Vs) (d:Nat):Prop:=∀ i,i < cs.length->cs[i]!.length=d/\∀ t,t < d->∀ lo hi:Int,(∀ j,j < l.length->lo<=l[j]![t]! /\ l[j]![t]! <= hi)->lo<=cs[i]![t]! /\ cs[i]![t]! <= hi
theorem within_drawn {l:Vs} {k:Nat} {x:Int} {d:Nat} (hk:k<=l.length) (hl:∀ j,j < l.length->l[j]!.length=d):Within l (drawnV l k x) d:=by
 intro i hi
 rw [drawnV_len] at hi
 have hp:=(Rn.per_pS x l.length (l.length - 1) (Nat.le_refl _)).1 i (by omega)
 rw [drawnV_get l x hi]
 have hj:(Rn.pS x l.length (l.length - 1) i).toNat < l.length:=by omega
 exact ⟨hl _ hj,fun t _ lo hi h=>h _ hj⟩
theorem within_round {l cs:Vs} {d:Nat} (h:Within l cs d):Within l (roundV l cs) d:=by
 intro i hi
 rw [roundV_len] at hi
 rw [roundV_get l hi,middle_len]
 obtain ⟨h1,h2⟩:=h i hi
 exact ⟨h1,fun t ht lo hi' hb=>middle_within (by omega) (h2 t ht lo hi' hb) (fun j hj=>hb j (belTo_lt hj))⟩
theorem within_rounds {l cs:Vs} {d:Nat} (h:Within l cs d):∀ r,Within l (roundsV l cs r) d
 | 0=>h
 | r + 1=>within_round (within_rounds h r)
theorem Within.ok {l cs:Vs} {d:Nat} (h:Within l cs d) (h1:1<=d) (h2:d<=64) (hl:VsOk l (d:Int)):VsOk cs (d:Int):=by
 intro i hi
 obtain ⟨h3,h4⟩:=h i hi
 unfold chk
 rw [if_pos ⟨by omega,by omega,by omega⟩]
 have:allR cs[i]! = true:=by
  unfold allR
  rw [List.all_eq_true]
  intro y hy
  obtain ⟨t,ht,rfl⟩:=List.mem_iff_getElem.1 hy
  rw [inR_iff,<- getElem!_pos cs[i]! t ht]
  refine h4 t (by omega) _ _ (fun j hj=>?_)
  have h5:=hl.get hj
  exact allR_get h5.2.2.2 (by omega)
 unfold vErr;rw [this];rfl
theorem train_ok {l:Vs} {k r:Int} (h:trainE l k r=0) (x:Int) (q:Nat):Within l (roundsV l (drawnV l k.toNat x) q) l[0]!.length/\VsOk (roundsV l (drawnV l k.toNat x) q) (l[0]!.length:Int)/\(roundsV l (drawnV l k.toNat x) q).length=k.toNat:=by
 obtain ⟨h1,h2,h3,h4⟩:=trainE_zero.1 h
 have h5:=h4.get (i:=0) (by omega)
 have hw:Within l (roundsV l (drawnV l k.toNat x) q) l[0]!.length:=within_rounds (within_drawn (by omega) fun j hj=>by have:=h4.get hj;omega) q
 exact ⟨hw,hw.ok h5.1 h5.2.1 h4,by rw [roundsV_len,drawnV_len]⟩
end Go.Proofs.YtcipdampcmfmaaaGreat

namespace Go.Proofs.YtcipdampcmfmaaaGreat
open Go.RowKit
set_option maxRecDepth 100000
set_option maxHeartbeats 2000000
def RdV (w:World) (v:Value) (vs:Vs):Prop:=∃ a cap,v=.slice a vs.length cap/\∀ i,i < vs.length->∃ b o u,a=some ⟨b,o,none⟩/\w.cell? ⟨b,o + i,none⟩=some u/\RdI w u vs[i]!
theorem RdV.gb {w w':World} {v:Value} {vs:Vs} (h:RdV w v vs) (g:Gb w w'):RdV w' v vs:=by
 obtain ⟨a,cap,e,h⟩:=h
 refine ⟨a,cap,e,fun i hi=>?_⟩
 obtain ⟨b,o,u,e1,e2,e3⟩:=h i hi
 exact ⟨b,o,u,e1,gb_keeps g e2,e3.gb g⟩
theorem checkAll_c {w:World} {v:Value} {vs:Vs} (h:RdV w v vs) (d:Int) (hlen:vs.length<=4611686018427387904) :
  Calls Tryz.prog 182 #[v,.int .i64 d] w fun e w'=>e=.returned (.int .i64 (vecsE vs d))/\w=w':=by
 obtain ⟨a,cap,rfl,ha⟩:=h
 have A:Hid (∀ i,i < vs.length->∃ b o u,a=some ⟨b,o,none⟩/\w.cell? ⟨b,o + i,none⟩=some u/\RdI w u vs[i]!):=ha
 obtain ⟨n,hN⟩:∃ n,n=vs.length:=⟨_,rfl⟩
 have N:Hid (n=vs.length):=hN
 rw [<- hN] at hlen ⊢
 clear ha hN
 go_enter Tryz.func182,Tryz.ntmps182
 go_wp2
 go_loopw [10] (fun iv w'=>∃ q:Nat,iv=.int .i64 (q:Int)/\q<=n/\w=w'/\Hid (vecsTo vs d q=0)) (fun iv _=>n - (intOf iv).toNat)
 case atStart=>exact ⟨0,rfl,Nat.zero_le _,rfl,rfl⟩
 case round =>
  obtain ⟨q,rfl,hq,rfl,X⟩:=hrel
  by_cases hqn:q < n
  ·have hqi:(q:Int) < (n:Int):=by omega
   have hql:q < vs.length:=by have:=N.out;omega
   obtain ⟨b,o,u,ea,h1,h2⟩:=A.out q hql
   subst ea
   have c:=check_v h2 d _ rfl
   obtain ⟨pu,cu,rfl,_⟩:=h2
   by_cases hz:chk vs[q]! d=0
   ·have R:Hid (vecsTo vs d (q + 1)=0):=vecsTo_next X.out hz
    rw [hz] at c
    generalize vs[q]!.length=m at *
    clear hz X hql
    go_wp2_with (go_at_call 45;refine c.mono ?_;rintro e w' ⟨rfl,e2⟩;subst e2)
    go_roundw
    case rel=>exact ⟨q + 1,by simp,hqn,by first | rfl | trivial,R⟩
    case measure=>simp [intOf];omega
   ·have hz':(chk vs[q]! d == 0)=false:=by rw [beq_eq_false_iff_ne];exact hz
    have R:Hid (vecsE vs d=chk vs[q]! d):=vecsTo_err hql X.out hz
    generalize chk vs[q]! d=ce at *
    generalize vs[q]!.length=m at *
    clear X hql
    go_wp2_with (go_at_call 45;refine c.mono ?_;rintro e w' ⟨rfl,e2⟩;subst e2)
    go_ret
    exact ⟨by rw [R.out];rfl,by first | rfl | trivial⟩
  ·have hqi:¬ (q:Int) < (n:Int):=by omega
   have R:Hid (vecsE vs d=0):=by
    have h1:=X.out
    have h2:q=vs.length:=by have:=N.out;omega
    rw [h2] at h1;exact h1
   go_wp2
   go_ret
   exact ⟨by rw [R.out];rfl,by first | rfl | trivial⟩
def cenE (cs:Vs):Int:=if 1<=cs.length/\cs.length<=64 then vecsE cs (cs[0]!.length:Int) else 1
theorem cenE_zero {cs:Vs}:cenE cs=0 ↔ (1<=cs.length/\cs.length<=64)/\VsOk cs (cs[0]!.length:Int):=by
 unfold cenE
 split
 ·rename_i h;rw [vecsE_zero];exact ⟨fun e=>⟨h,e⟩,fun e=>e.2⟩
 ·rename_i h;exact ⟨fun e=>by simp at e,fun e=>absurd e.1 h⟩
theorem checkCentres_c {w:World} {v:Value} {cs:Vs} (h:RdV w v cs) :
  Calls Tryz.prog 177 #[v] w fun e w'=>e=.returned (.int .i64 (cenE cs))/\w=w':=by
 unfold cenE
 by_cases h1:cs.length < 1
 ·rw [if_neg (by omega)]
  obtain ⟨a,cap,rfl,ha⟩:=h
  generalize cs.length=n at *
  clear ha
  go_enter Tryz.func177,Tryz.ntmps177
  go_wp2
  go_ret
  exact ⟨rfl,rfl⟩
 ·by_cases h2:64 < cs.length
  ·rw [if_neg (by omega)]
   obtain ⟨a,cap,rfl,ha⟩:=h
   generalize cs.length=n at *
   clear ha
   go_enter Tryz.func177,Tryz.ntmps177
   go_wp2
   go_ret
   exact ⟨rfl,rfl⟩
  ·rw [if_pos (by omega)]
   have c:=checkAll_c h (cs[0]!.length:Int) (by omega)
   obtain ⟨a,cap,rfl,ha⟩:=h
   obtain ⟨b,o,u,ea,k1,k2⟩:=ha 0 (by omega)
   subst ea
   rw [Nat.add_zero] at k1
   obtain ⟨pu,cu,rfl,_⟩:=k2
   generalize cs.length=n at *
   generalize cs[0]!.length=m at *
   generalize vecsE cs m=z at *
   clear ha
   go_enter Tryz.func177,Tryz.ntmps177
   go_wp2_with (go_at_call 182;refine c.mono ?_;rintro e w' ⟨rfl,e2⟩;subst e2)
   go_ret
   exact ⟨rfl,rfl⟩
theorem checkTraining_c {w:World} {v:Value} {l:Vs} (h:RdV w v l) (k r:Int) :
  Calls Tryz.prog 141 #[v,.int .i64 k,.int .i64 r] w fun e w'=>e=.returned (.int .i64 (trainE l k r))/\w=w':=by
 by_cases h1:1<=k/\k<=64/\0<=r/\r<=20
 ·by_cases h2:l.length<=512
  ·by_cases h3:(l.length:Int) < k
   ·have e:trainE l k r=60:=by unfold trainE;rw [if_pos h1,if_pos h2,if_pos h3]
    rw [e]
    obtain ⟨a,cap,rfl,ha⟩:=h
    obtain ⟨k1,k2,k3,k4⟩:=h1
    generalize l.length=n at *
    clear ha e
    go_enter Tryz.func141,Tryz.ntmps141
    go_wp2
    go_ret
    exact ⟨rfl,rfl⟩
   ·have e:trainE l k r=vecsE l (l[0]!.length:Int):=by unfold trainE;rw [if_pos h1,if_pos h2,if_neg h3]
    rw [e]
    have c:=checkAll_c h (l[0]!.length:Int) (by omega)
    obtain ⟨a,cap,rfl,ha⟩:=h
    obtain ⟨k1,k2,k3,k4⟩:=h1
    obtain ⟨b,o,u,ea,m1,m2⟩:=ha 0 (by omega)
    subst ea
    rw [Nat.add_zero] at m1
    obtain ⟨pu,cu,rfl,_⟩:=m2
    generalize vecsE l (l[0]!.length:Int)=z at *
    generalize l.length=n at *
    generalize l[0]!.length=m at *
    clear ha e
    go_enter Tryz.func141,Tryz.ntmps141
    go_wp2_with (go_at_call 182;refine c.mono ?_;rintro e w' ⟨rfl,e2⟩;subst e2)
    go_ret
    exact ⟨rfl,rfl⟩
  ·have e:trainE l k r=2:=by unfold trainE;rw [if_pos h1,if_neg h2]
   rw [e]
   obtain ⟨a,cap,rfl,ha⟩:=h
   obtain ⟨k1,k2,k3,k4⟩:=h1
   generalize l.length=n at *
   clear ha e
   go_enter Tryz.func141,Tryz.ntmps141
   go_wp2
   go_ret
   exact ⟨rfl,rfl⟩
 ·have e:trainE l k r=1:=by unfold trainE;rw [if_neg h1]
  rw [e]
  obtain ⟨a,cap,rfl,ha⟩:=h
  generalize l.length=n at *
  clear ha e
  by_cases k1:k < 1
  ·go_enter Tryz.func141,Tryz.ntmps141
   go_wp2
   go_ret
   exact ⟨rfl,rfl⟩
  by_cases k2:64 < k
  ·go_enter Tryz.func141,Tryz.ntmps141
   go_wp2
   go_ret
   exact ⟨rfl,rfl⟩
  by_cases k3:r < 0
  ·go_enter Tryz.func141,Tryz.ntmps141
   go_wp2
   go_ret
   exact ⟨rfl,rfl⟩
  have k4:20 < r:=by omega
  go_enter Tryz.func141,Tryz.ntmps141
  go_wp2
  go_ret
  exact ⟨rfl,rfl⟩
end Go.Proofs.YtcipdampcmfmaaaGreat

namespace Go.Proofs.YtcipdampcmfmaaaGreat
open Go.RowKit
set_option maxRecDepth 100000
set_option maxHeartbeats 4000000
structure Kp (S:Nat->Prop) (w w':World):Prop where
 os:w'.os=w.os
 tape:w'.tape=w.tape
 output:w'.output=w.output
 size:w.heap.size<=w'.heap.size
 block:∀ b,b < w.heap.size->¬ S b->w'.heap[b]? = w.heap[b]?
theorem Kp.refl (S:Nat->Prop) (w:World):Kp S w w:=⟨rfl,rfl,rfl,Nat.le_refl _,fun _ _ _=>rfl⟩
theorem Kp.trans {S:Nat->Prop} {a b c:World} (h:Kp S a b) (k:Kp S b c):Kp S a c :=
 ⟨k.os.trans h.os,k.tape.trans h.tape,k.output.trans h.output,Nat.le_trans h.size k.size,fun i hi hn=>(k.block i (Nat.lt_of_lt_of_le hi h.size) hn).trans (h.block i hi hn)⟩
theorem Kp.set {S:Nat->Prop} {a w:World} (h:Kp S a w) {p:Addr} (hp:S p.block ∨ a.heap.size<=p.block) (u:Value):Kp S a (w.setCell p u) :=
 ⟨h.os,h.tape,h.output,Nat.le_trans h.size (KeepsWalks.setCell w p u).size,fun k hk hn=>(Below.heap_setCell w p u k (fun e=>by
  rcases hp with hp | hp
  ·exact hn (by rw [e];exact hp)
  ·omega)).trans (h.block k hk hn)⟩
theorem Kp.below {S:Nat->Prop} {w0 w w':World} (h:Kp S w w') (g:Gb w0 w) (hS:∀ b,S b->w0.heap.size<=b):Gb w0 w' :=
 ⟨h.os.trans g.os,h.tape.trans g.tape,h.output.trans g.output,Nat.le_trans g.size h.size,fun k hk=>(h.block k (Nat.lt_of_lt_of_le hk g.size) (fun e=>by have:=hS k e;omega)).trans (g.block k hk)⟩
theorem Kp.mono {S T:Nat->Prop} {w w':World} (h:Kp S w w') (hS:∀ b,S b->T b):Kp T w w':=⟨h.os,h.tape,h.output,h.size,fun b hb hn=>h.block b hb (fun e=>hn (hS b e))⟩
theorem Kp.gb {S:Nat->Prop} {w w':World} (g:Gb w w'):Kp S w w':=⟨g.os,g.tape,g.output,g.size,fun b hb _=>g.block b hb⟩
theorem Kp.cell {S:Nat->Prop} {w w':World} (h:Kp S w w') {p:Addr} {v:Value} (hc:w.cell? p=some v) (hn:¬ S p.block):w'.cell? p=some v :=
 (World.cell?_of_block (h.block p.block (World.block_lt_of_cell? w p hc) hn)).trans hc
theorem arr_kp {S:Nat->Prop} {w w':World} {g n cap:Nat} {f:Nat->Int} (h:Rn.Arr w g n cap f) (k:Kp S w w') (hn:¬ S g):Rn.Arr w' g n cap f:=by
 have hl:=h.lt
 obtain ⟨cur,h1,h2⟩:=h
 exact ⟨cur,(k.block g hl hn).trans h1,h2⟩
theorem own_kp {S:Nat->Prop} {w w':World} {B:Nat} {v:Value} {l:List Int} (h:Own w B v l) (k:Kp S w w') (hn:∀ g,v.ownBlock=some g->¬ S g):Own w' B v l:=by
 refine ⟨h.1,?_⟩
 rcases h.2 with h | ⟨g,cap,cur,rfl,h1,h2,r⟩
 ·exact .inl h
 ·exact .inr ⟨g,cap,cur,rfl,h1,(k.block g (Array.getElem?_eq_some_iff.1 h2).1 (hn g rfl)).trans h2,r⟩
theorem arr_rd {w:World} {g n cap:Nat} {f:Nat->Int} {l:List Int} (h:Rn.Arr w g n cap f) (hn:l.length=n) (hf:∀ i,i < n->f i=l[i]!):RdI w (.slice (some ⟨g,0,none⟩) n cap) l :=
 ⟨some ⟨g,0,none⟩,cap,by rw [hn],fun i hi=>⟨g,0,rfl,by rw [Nat.zero_add,h.cell (by omega),hf i (by omega)]⟩⟩
theorem ediv_uniq {a b q:Int} (hb:0 < b) (h1:q * b<=a) (h2:a < (q + 1) * b):a / b=q:=by
 have h3:=(Int.le_ediv_iff_mul_le hb).2 h1
 have h4:=Int.ediv_lt_of_lt_mul hb h2
 omega
theorem div_neg {a:Int} {b:Nat} (hb:0 < b) (h:a.tmod b < 0):a.tdiv b - 1=a / b:=by
 have h1:=Int.tmod_add_mul_tdiv a b
 have h2:=Int.lt_tmod_of_pos a (b:=(b:Int)) (by omega)
 refine (ediv_uniq (by omega) ?_ ?_).symm
 ·rw [Int.sub_mul,Int.mul_comm];omega
 ·rw [Int.sub_add_cancel,Int.mul_comm];omega
theorem div_pos {a:Int} {b:Nat} (hb:0 < b) (h:¬ a.tmod b < 0):a.tdiv b=a / b:=by
 have h1:=Int.tmod_add_mul_tdiv a b
 have h2:=Int.tmod_lt_of_pos a (b:=(b:Int)) (by omega)
 refine (ediv_uniq (by omega) ?_ ?_).symm
 ·rw [Int.mul_comm];omega
 ·rw [Int.add_mul,Int.mul_comm];omega
theorem divide_c (a:Int) (b:Nat) (hb:0 < b) (ha:-4611686018427387904<=a/\a<=4611686018427387904) (w:World) :
  Calls Tryz.prog 217 #[.int .i64 a,.int .i64 (b:Int)] w fun e w'=>e=.returned (.int .i64 (a / b))/\w=w':=by
 have hq:-4611686018427387904<=a / b/\a / b<=4611686018427387904:=by
  refine div_within (by omega) ?_ ?_
  ·have:(-4611686018427387904:Int) * b<=-4611686018427387904:=by omega
   omega
  ·have:(4611686018427387904:Int)<=4611686018427387904 * b:=by omega
   omega
 have hb0:((b:Int) == 0)=false:=by rw [beq_eq_false_iff_ne];omega
 have hb1:¬ (b:Int)=0:=by omega
 have hb2:¬ (b:Int)=-1:=by omega
 by_cases h:a.tmod b < 0
 ·have e:=div_neg hb h
  have hq2:-4611686018427387904<=a.tdiv b/\a.tdiv b<=4611686018427387905:=by omega
  obtain ⟨q1,q2⟩:=hq2
  have w1:IntKind.i64.wrap (a.tdiv b)=a.tdiv b:=by rw [IntKind.wrap_i64];omega
  have w2:IntKind.i64.wrap (a.tdiv b - 1)=a.tdiv b - 1:=by rw [IntKind.wrap_i64];omega
  rw [<- e]
  go_enter Tryz.func217,Tryz.ntmps217
  go_wp2
  go_ret
  exact ⟨by simp;exact e.symm,rfl⟩
 ·have e:=div_pos hb h
  have hq2:-4611686018427387904<=a.tdiv b/\a.tdiv b<=4611686018427387905:=by omega
  obtain ⟨q1,q2⟩:=hq2
  have w1:IntKind.i64.wrap (a.tdiv b)=a.tdiv b:=by rw [IntKind.wrap_i64];omega
  rw [<- e]
  go_enter Tryz.func217,Tryz.ntmps217
  go_wp2
  go_ret
  exact ⟨by simp,rfl⟩
theorem coord_at {w:World} {a:Option Addr} {n cap:Nat} {l:Vs} (h:RdV w (.slice a n cap) l) {j t:Nat} (hj:j < l.length) (ht:t < l[j]!.length):∃ b o b' o' c',a=some ⟨b,o,none⟩/\w.cell? ⟨b,o + j,none⟩=some (.slice (some ⟨b',o',none⟩) l[j]!.length c')/\w.cell? ⟨b',o' + t,none⟩=some (.int .i64 l[j]![t]!):=by
 obtain ⟨_,_,e,h⟩:=h
 cases e
 obtain ⟨b,o,u,e1,h1,pu,cu,rfl,h2⟩:=h j hj
 obtain ⟨b',o',e2,h3⟩:=h2 t ht
 subst e2
 exact ⟨b,o,b',o',cu,e1,h1,h3⟩
def midF (l:Vs) (f:Nat->Int) (ps:List Nat):Nat->Int:=if ps.length=0 then f else fun t=>sumTo l ps t ps.length / (ps.length:Int)
theorem place_at {w:World} {a:Option Addr} {n cap:Nat} {ps:List Nat} (h:RdI w (.slice a n cap) (ps.map Int.ofNat)) {i:Nat} (hi:i < ps.length):∃ b o,a=some ⟨b,o,none⟩/\w.cell? ⟨b,o + i,none⟩=some (.int .i64 (ps[i]! : Nat)):=by
 obtain ⟨_,_,e,h⟩:=h
 cases e
 obtain ⟨b,o,e1,h1⟩:=h i (by simpa using hi)
 refine ⟨b,o,e1,?_⟩
 rw [h1,getElem!_pos _ i (by simpa using hi),getElem!_pos ps i hi];simp
theorem move_c {w:World} {lv pv:Value} {l:Vs} {g d cap:Nat} {f:Nat->Int} {ps:List Nat} (hl:∀ W,Kp (fun b=>b=g) w W->RdV W lv l) (hp:∀ W,Kp (fun b=>b=g) w W->RdI W pv (ps.map Int.ofNat))
  (hA:Rn.Arr w g d cap f) (hd:d<=64) (hps:∀ i,i < ps.length->ps[i]! < l.length) (hlen:ps.length<=512) (hok:∀ j,j < l.length->l[j]!.length=d/\allR l[j]! = true) :
  Calls Tryz.prog 187 #[.slice (some ⟨g,0,none⟩) d cap,lv,pv] w fun e w'=>e=.returned (.tuple #[])/\Rn.Arr w' g d cap (midF l f ps)/\Kp (fun b=>b=g) w w':=by
 have L:Hid (∀ W,Kp (fun b=>b=g) w W->RdV W lv l):=hl
 have P:Hid (∀ W,Kp (fun b=>b=g) w W->RdI W pv (ps.map Int.ofNat)):=hp
 have O:Hid ((∀ i,i < ps.length->ps[i]! < l.length)/\∀ j,j < l.length->l[j]!.length=d/\allR l[j]! = true):=⟨hps,hok⟩
 obtain ⟨al,cl,rfl,_⟩:=hl w (Kp.refl _ _)
 obtain ⟨ap,cp,rfl,_⟩:=hp w (Kp.refl _ _)
 rw [List.length_map] at P ⊢
 obtain ⟨n,hN⟩:∃ n,n=ps.length:=⟨_,rfl⟩
 have N:Hid (n=ps.length):=hN
 rw [<- hN] at P hlen ⊢
 clear hl hp hps hok
 by_cases hn:n=0
 ·have E:Hid (midF l f ps=f):=by unfold Hid midF;rw [if_pos (by omega)]
  subst hn
  clear hN
  go_enter Tryz.func187,Tryz.ntmps187
  go_wp2
  refine bodyPost_ret (results_none rfl _ _ _) rfl ?_
  exact ⟨rfl,by rw [E.out];exact hA,Kp.refl _ _⟩
 ·have E:Hid (midF l f ps=fun t=>sumTo l ps t n / (n:Int)):=by unfold Hid midF;rw [if_neg (by omega),hN]
  have hn':((n:Int) == 0)=false:=by rw [beq_eq_false_iff_ne];omega
  have hn0:0 < n:=by omega
  clear hN hn
  go_enter Tryz.func187,Tryz.ntmps187
  go_wp2
  go_loopw [14] (fun iv W=>∃ q:Nat,iv=.int .i64 (q:Int)/\q<=d/\Kp (fun b=>b=g) w W/\Rn.Arr W g d cap (fun t=>if t < q then sumTo l ps t n / (n:Int) else f t)) (fun iv _=>d - (intOf iv).toNat)
  case atStart=>exact ⟨0,rfl,Nat.zero_le _,Kp.refl _ _,hA.congr (fun i _=>by simp)⟩
  case round =>
   obtain ⟨q,rfl,hq,hK,hB⟩:=hrel
   by_cases hqn:q < d
   ·have hqi:decide ((q:Int) < (d:Int))=true:=by rw [decide_eq_true_eq];omega
    have LW:=L.out wr hK
    have PW:=P.out wr hK
    have bd:∀ r,r<=n->-4611686018427387904<=sumTo l ps q r/\sumTo l ps q r<=4611686018427387904:=by
     intro r hr
     have hr':r<=512:=by omega
     have:=sumTo_within l ps q (-2147483647) 2147483647 r (by have:=N.out;omega) (fun i hi=>by
      have h1:=O.out.1 i (by have:=N.out;omega)
      have h2:=O.out.2 _ h1
      exact allR_get h2.2 (by omega))
     omega
    have BD:Hid (∀ r,r<=n->-4611686018427387904<=sumTo l ps q r/\sumTo l ps q r<=4611686018427387904):=bd
    have LW':Hid (RdV wr (.slice al l.length cl) l):=LW
    have PW':Hid (RdI wr (.slice ap n cp) (ps.map Int.ofNat)):=PW
    clear LW PW bd
    go_wp2
    go_loopw [7,19] (fun sv iv W=>∃ r:Nat,iv=.int .i64 (r:Int)/\r<=n/\sv=.int .i64 (sumTo l ps q r)/\wr=W) (fun _ iv _=>n - (intOf iv).toNat)
    case atStart=>exact ⟨0,rfl,Nat.zero_le _,rfl,rfl⟩
    case round =>
     obtain ⟨r,rfl,hr,rfl,rfl⟩:=hrel
     by_cases hrn:r < n
     ·have hri:(r:Int) < (n:Int):=by omega
      have hrl:r < ps.length:=by have:=N.out;omega
      obtain ⟨b1,o1,ea,k1⟩:=place_at PW'.out hrl
      have hj:=O.out.1 r hrl
      have hjd:=O.out.2 _ hj
      obtain ⟨b2,o2,b3,o3,c3,eb,k2,k3⟩:=coord_at LW'.out (j:=ps[r]!) (t:=q) hj (by omega)
      rw [hjd.1] at k2
      have NX:Hid (sumTo l ps q (r + 1)=sumTo l ps q r + l[ps[r]!]![q]!):=rfl
      have hb1:=BD.out r hr
      have hb2:=BD.out (r + 1) hrn
      rw [NX.out] at hb2
      generalize sumTo l ps q r=s at *
      generalize l[ps[r]!]![q]! = y at *
      generalize ps[r]! = j at *
      obtain ⟨nl,hnl⟩:∃ nl,nl=l.length:=⟨_,rfl⟩
      rw [<- hnl] at hj
      have hji:(j:Int) < (nl:Int):=by omega
      have hqd:(q:Int) < (d:Int):=by omega
      subst ea
      subst eb
      obtain ⟨m1,m2⟩:=hb1
      obtain ⟨m3,m4⟩:=hb2
      have ww:IntKind.i64.wrap (s + y)=s + y:=by rw [IntKind.wrap_i64];omega
      clear hjd L P LW' PW' O BD
      rw [<- hnl]
      clear hnl
      go_wp2
      go_roundw
      case rel=>exact ⟨r + 1,by go_num,hrn,by rw [NX.out],by first | rfl | trivial⟩
      case measure=>simp [intOf];omega
     ·have hri:¬ (r:Int) < (n:Int):=by omega
      have hrn':r=n:=by omega
      subst hrn'
      have hb:=BD.out r (Nat.le_refl _)
      have cd:=fun W=>divide_c (sumTo l ps q r) r hn0 hb W
      have cA:=hB.cell hqn
      have fA:=hB.frozen q
      have hqd:(q:Int) < (d:Int):=by omega
      have HB:=(hB.set hqn (sumTo l ps q r / (r:Int))).congr (f':=fun t=>if t < q + 1 then sumTo l ps t r / (r:Int) else f t) (fun i hi=>by
       by_cases e:i=q
       ·subst e;simp
       ·simp only [if_neg e];by_cases e2:i < q
        ·rw [if_pos e2,if_pos (by omega)]
        ·rw [if_neg e2,if_neg (by omega)])
      have HK:=hK.set (p:=⟨g,q,none⟩) (.inl rfl) (.int .i64 (sumTo l ps q r / (r:Int)))
      generalize sumTo l ps q r / (r:Int)=z at *
      generalize sumTo l ps q r=s at *
      clear L P LW' PW' O BD hb hB hK
      go_wp2_with (go_at_call 217;refine (cd _).mono ?_;rintro e w' ⟨rfl,e2⟩;subst e2)
      go_roundw
      case rel=>exact ⟨q + 1,by go_num,hqn,HK,HB⟩
      case measure=>simp [intOf];omega
   ·have hqi:¬ (q:Int) < (d:Int):=by omega
    go_wp2
    refine bodyPost_end (results_none rfl _ _ _) rfl ?_
    exact ⟨rfl,by rw [E.out];exact hB.congr (fun i hi=>by rw [if_pos (by omega)]),hK⟩
end Go.Proofs.YtcipdampcmfmaaaGreat
