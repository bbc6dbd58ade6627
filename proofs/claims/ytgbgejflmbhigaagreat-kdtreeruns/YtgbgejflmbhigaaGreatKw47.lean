import Derived.Test.YtgbgejflmbhigaaGreatKw42
import Derived.Test.YtgbgejflmbhigaaGreatKw44
import Derived.Test.YtgbgejflmbhigaaGreatKwRNear
import Derived.Test.YtgbgejflmbhigaaGreatKwRNearB
import Derived.Test.YtgbgejflmbhigaaGreatKw41
import Derived.Test.YtgbgejflmbhigaaGreatKw33
import Derived.Test.YtgbgejflmbhigaaGreatKw16
import Derived.BigQuiet
import Derived.Test.YtgbgejflmbhigaaGreatKw12
import Derived.Test.YtgbgejflmbhigaaGreatKw3
import Derived.Test.YtgbgejflmbhigaaGreatKw4
namespace Go.Proofs.YtgbgejflmbhigaaGreat
open Go.RowKit Go.Sort
structure Ans where
 hits:List Tk.Ht
 seen:List Int
 rest:List Reg
def RdL (w:World) (v:Value) (l:List Reg):Prop:=∃ a cap,v=.slice a l.length cap/\∀ i (hi':i < l.length),∃ b o vl vh vi,a=some ⟨b,o,none⟩ /\
 w.cell? ⟨b,o + i * 6,none⟩=some (.int .i64 l[i].S)/\w.cell? ⟨b,o + i * 6 + 1,none⟩=some vl/\w.cell? ⟨b,o + i * 6 + 2,none⟩=some vh/\w.cell? ⟨b,o + i * 6 + 3,none⟩=some (.int .u64 (hi l[i].R)) /\
 w.cell? ⟨b,o + i * 6 + 4,none⟩=some (.int .u64 (lo l[i].R))/\w.cell? ⟨b,o + i * 6 + 5,none⟩=some vi/\RdI w vl l[i].L/\RdI w vh l[i].H/\RdI w vi l[i].I
theorem RdL.gb {w w':World} {v:Value} {l:List Reg} (h:RdL w v l) (g:Gb w w'):RdL w' v l:=by
 obtain ⟨a,cap,e,h⟩:=h
 refine ⟨a,cap,e,fun i hi'=>?_⟩
 obtain ⟨b,o,vl,vh,vi,e0,c0,c1,c2,c3,c4,c5,r1,r2,r3⟩:=h i hi'
 exact ⟨b,o,vl,vh,vi,e0,gb_keeps g c0,gb_keeps g c1,gb_keeps g c2,gb_keeps g c3,gb_keeps g c4,gb_keeps g c5,r1.gb g,r2.gb g,r3.gb g⟩
theorem rdl_nil (w:World):RdL w (.slice none 0 0) []:=⟨none,0,rfl,fun _ hi'=>absurd hi' (Nat.not_lt_zero _)⟩
structure RdA (w:World) (vh vs vr:Value) (a:Ans):Prop where
 hits:Tk.Rd w vh a.hits
 seen:RdI w vs a.seen
 rest:RdL w vr a.rest
theorem RdA.gb {w w':World} {vh vs vr:Value} {a:Ans} (h:RdA w vh vs vr a) (g:Gb w w'):RdA w' vh vs vr a:=⟨h.hits.gr g,h.seen.gb g,h.rest.gb g⟩
def allIds (a:Ans):List Int:=a.seen ++ a.rest.flatMap (·.I)
structure SoundP (rs:List Rw) (q:List Int) (k:Nat) (a:Ans) (srs:List Rw):Prop where
 ids:idsOf srs=a.seen
 mem:∀ r ∈ srs,r ∈ rs
 rise:∀ i,i + 1 < a.seen.length->a.seen[i]! < a.seen[i + 1]!
 reg:∀ r ∈ a.rest,ckR r (q.length:Int)=0/\r.I ≠ []/\r.R < 340282366920938463463374607431768211456/\∀ x ∈ r.I,∃ row ∈ rs,row.1=x/\inV r row.2=true
 hits:a.hits=Tk.firsts k (hitsOf q srs)
 all:(allIds a).Perm (idsOf rs)
end Go.Proofs.YtgbgejflmbhigaaGreat

namespace Go.Proofs.YtgbgejflmbhigaaGreat
open Go.RowKit
theorem rnear_c {w:World} {v u:Value} {r:Reg} {a:List Int} (hv:RdR w v r) (hu:RdI w u a) (h0:ckB r a=0) (hR:r.R < 340282366920938463463374607431768211456) :
  Calls Tryz.prog 127 #[v,u] w fun e w'=>e=.returned (Wd (bdV r a))/\Gr w w':=by
 by_cases s2:r.S=2
 ·exact rnear_box hv hu h0 s2
 by_cases s3:r.S=3
 ·exact rnear_ball hv hu h0 hR s3
 ·exact rnear_all hv hu s2 s3
end Go.Proofs.YtgbgejflmbhigaaGreat

namespace Go.Proofs.YtgbgejflmbhigaaGreat
open Go.RowKit Go.Sort Go.Maps
set_option maxHeartbeats 1000000
theorem rflat_c {w:World} {v:Value} {rs:List Rw} (hv:RdW w v rs) (hlen:rs.length<=4611686018427387904) (d:Int) :
  Calls Tryz.prog 18 #[v,.int .i64 d] w fun e w'=>e=.returned (.int .i64 (flatE rs d))/\Gr w w':=by
 have c:=rrows_c hv d hlen
 obtain ⟨a,cap,rfl,_⟩:=hv
 unfold flatE
 generalize rs.length=n at *
 generalize idsE rs d=z at *
 by_cases h1:d < 1
 ·rw [if_neg (by omega)]
  go_enter Tryz.func18,Tryz.ntmps18
  go_wp2
  go_ret
  exact ⟨rfl,Gr.refl _⟩
 ·by_cases h2:64 < d
  ·rw [if_neg (by omega)]
   go_enter Tryz.func18,Tryz.ntmps18
   go_wp2
   go_ret
   exact ⟨rfl,Gr.refl _⟩
  ·rw [if_pos (by omega)]
   go_enter Tryz.func18,Tryz.ntmps18
   go_wp2_with (go_at_call 43;refine c.mono ?_;rintro e w' ⟨rfl,g⟩)
   go_ret
   exact ⟨rfl,g⟩
end Go.Proofs.YtgbgejflmbhigaaGreat

namespace Go.Proofs.YtgbgejflmbhigaaGreat
open Go.RowKit Go.Sort Go.Maps
end Go.Proofs.YtgbgejflmbhigaaGreat

namespace Go.Proofs.YtgbgejflmbhigaaGreat
open Go.RowKit Go.Sort Go.Maps
set_option maxHeartbeats 1000000
theorem rfirst_c {w:World} {v:Value} {L:List Tk.Ht} (ho:Tk.Own w v L.toArray) (hL:L.length<=4000) (k:Nat) (hk:k<=64) :
  Calls Tryz.prog 122 #[v,.int .i64 (k:Int)] w fun e w'=>∃ v',e=.returned v'/\Tk.Rd w' v' (L.take k)/\Gb w w':=by
 by_cases h:k < L.length
 ·obtain ⟨g,cap,rfl,hcap,lies⟩:=own_sl ho (by omega)
  have RD:Hid (Tk.Rd w (.slice (some ⟨g,0,none⟩) k cap) (L.take k)):=rd_take lies rfl (Nat.le_of_lt h)
  generalize L.length=n at *
  have hi:(k:Int) < (n:Int):=by omega
  have hc:k<=cap:=by omega
  have hci:(k:Int)<=(cap:Int):=by omega
  clear ho lies
  go_enter Tryz.func122,Tryz.ntmps122
  go_wp2
  go_ret
  exact ⟨_,rfl,RD.out,Below.refl _ _⟩
 ·have RD:Hid (Tk.Rd w v (L.take k)):=by
   rw [List.take_of_length_le (by omega)]
   exact Tk.own_rd ho
  obtain ⟨a,c,rfl⟩:=own_fm ho rfl
  generalize L.length=n at *
  have hi:¬ (k:Int) < (n:Int):=by omega
  clear ho
  go_enter Tryz.func122,Tryz.ntmps122
  go_wp2
  go_ret
  exact ⟨_,rfl,RD.out,Below.refl _ _⟩
end Go.Proofs.YtgbgejflmbhigaaGreat

namespace Go.Proofs.YtgbgejflmbhigaaGreat
open Go.RowKit Go.Sort Go.Maps
set_option maxRecDepth 100000
set_option maxHeartbeats 2000000
theorem rints_c {w:World} {u v:Value} {l m:List Int} (hu:RdI w u l) (hv:RdI w v m) (hlen:l.length<=4611686018427387904) :
  Calls Tryz.prog 124 #[u,v] w fun e w'=>e=.returned (.bool (decide (l=m)))/\Gr w w':=by
 obtain ⟨a,ca,rfl,ha⟩:=hu
 obtain ⟨b,cb,rfl,hb⟩:=hv
 by_cases hlm:l.length=m.length
 ·have A:Hid (∀ i,i < l.length->∃ b o,a=some ⟨b,o,none⟩/\w.cell? ⟨b,o + i,none⟩=some (.int .i64 l[i]!)):=ha
  have B:Hid (∀ i,i < m.length->∃ b' o,b=some ⟨b',o,none⟩/\w.cell? ⟨b',o + i,none⟩=some (.int .i64 m[i]!)):=hb
  have L:Hid (l.length=m.length):=hlm
  rw [<- hlm]
  obtain ⟨n,hN⟩:∃ n,n=l.length:=⟨_,rfl⟩
  have N:Hid (n=l.length):=hN
  rw [<- hN] at hlen ⊢
  clear ha hb hlm hN
  go_enter Tryz.func124,Tryz.ntmps124
  go_wp2
  go_loopw [5] (fun iv w'=>∃ q:Nat,iv=.int .i64 (q:Int)/\q<=n/\Hid (l.take q=m.take q/\Gr w w')) (fun iv _=>n - (intOf iv).toNat)
  case atStart=>exact ⟨0,rfl,Nat.zero_le _,⟨by simp,Gr.refl _⟩⟩
  case round =>
   obtain ⟨q,rfl,hq,X⟩:=hrel
   by_cases hqn:q < n
   ·have hql:q < l.length:=by have:=N.out;omega
    have hqm:q < m.length:=by have:=L.out;omega
    obtain ⟨b1,o1,ea,h1⟩:=A.out q hql
    obtain ⟨b2,o2,eb,h2⟩:=B.out q hqm
    subst ea;subst eb
    have h1:=X.out.2.keeps h1
    have h2:=X.out.2.keeps h2
    by_cases hxy:l[q]! = m[q]!
    ·have R:Hid (l.take (q + 1)=m.take (q + 1)):=by unfold Hid;rw [take_snoc hql,take_snoc hqm,X.out.1,hxy]
     rw [hxy] at h1
     generalize m[q]! = x at *
     clear hxy hql hqm
     go_wp2
     go_quiet (fail)
     go_wp2
     go_roundw
     case rel=>exact ⟨q + 1,by simp,hqn,R.out,X.out.2.drewN _⟩
     case measure=>simp [intOf];omega
    ·have R:Hid (decide (l=m)=false):=decide_eq_false (fun e=>hxy (by rw [e]))
     have hne:(l[q]! == m[q]!)=false:=by rw [beq_eq_false_iff_ne];exact hxy
     generalize l[q]! = x at *
     generalize m[q]! = y at *
     clear hxy hql hqm
     go_wp2
     go_quiet (fail)
     go_wp2
     go_ret
     exact ⟨by rw [R.out];rfl,X.out.2.drewN _⟩
   ·have R:Hid (decide (l=m)=true):=by
     have e:=X.out.1
     have h1:=N.out
     have h2:=L.out
     rw [List.take_of_length_le (by omega),List.take_of_length_le (by omega)] at e
     exact decide_eq_true e
    go_wp2
    go_ret
    exact ⟨by rw [R.out];rfl,X.out.2⟩
 ·have R:Hid (decide (l=m)=false):=decide_eq_false (fun e=>hlm (by rw [e]))
  have hne:((l.length:Int) == (m.length:Int))=false:=by rw [beq_eq_false_iff_ne];omega
  generalize l.length=n1 at *
  generalize m.length=n2 at *
  clear ha hb hlm
  go_enter Tryz.func124,Tryz.ntmps124
  go_wp2
  go_ret
  exact ⟨by rw [R.out];rfl,Gr.refl _⟩
theorem rints_v {w:World} {u v:Value} {l m:List Int} (hu:RdI w u l) (hv:RdI w v m) (hlen:l.length<=4611686018427387904) (r:Bool) (hr:decide (l=m)=r) :
  Calls Tryz.prog 124 #[u,v] w fun e w'=>e=.returned (.bool r)/\Gr w w':=by
 subst hr;exact rints_c hu hv hlen
theorem wd_same (a b:Int) (W:World):(binOp .eql 58 (.agg #[.int .u64 a,.int .u64 b]) (.agg #[.int .u64 a,.int .u64 b])).run Tryz.prog W=.ok (.bool true) W:=by
 rw [wd_run];simp
end Go.Proofs.YtgbgejflmbhigaaGreat

namespace Go.Proofs.YtgbgejflmbhigaaGreat
open Go.RowKit Go.Sort Go.Maps
set_option maxRecDepth 100000
set_option maxHeartbeats 1000000
theorem wrapN {n:Nat} (h:n < 9223372036854775808):IntKind.i64.wrap (n:Int)=(n:Int):=by
 unfold IntKind.wrap IntKind.signed IntKind.bits
 simp
 omega
def restTo (a:Ans) (p:Nat):List Int:=(a.rest.take p).flatMap (·.I)
theorem restTo_succ {a:Ans} {p:Nat} (h:p < a.rest.length):restTo a (p + 1)=restTo a p ++ (a.rest[p]).I:=by
 unfold restTo
 rw [List.take_succ_eq_append_getElem h,List.flatMap_append]
 simp
theorem restTo_le {a:Ans} (p:Nat):(a.seen ++ restTo a p).length<=(allIds a).length:=by
 have e:a.rest=a.rest.take p ++ a.rest.drop p:=(List.take_append_drop p _).symm
 have h:(a.rest.flatMap (·.I)).length=(restTo a p).length + ((a.rest.drop p).flatMap (·.I)).length:=by
  conv=>lhs;rw [e]
  rw [List.flatMap_append,List.length_append];rfl
 unfold allIds
 rw [List.length_append,List.length_append,h]
 omega
theorem restTo_all (a:Ans):a.seen ++ restTo a a.rest.length=allIds a:=by unfold restTo allIds;rw [List.take_length]
theorem ids_nd {rs:List Rw} {q:List Int} (h:askE rs q=0) {i j:Nat} (hi':i < rs.length) (hj:j < rs.length) (e:rs[i]!.1=rs[j]!.1):rs[i]! = rs[j]! := by
 have hp:=(askE_zero.1 h).2.ids
 rw [List.pairwise_iff_getElem] at hp
 by_cases hij:i=j
 ·rw [hij]
 ·exfalso
  have hi2:i < (idsOf rs).length:=by simpa [idsOf] using hi'
  have hj2:j < (idsOf rs).length:=by simpa [idsOf] using hj
  rcases Nat.lt_or_gt_of_ne hij with hlt | hlt
  ·exact hp i j hi2 hj2 hlt (by rw [ids_get hi',ids_get hj];exact e)
  ·exact hp j i hj2 hi2 hlt (by rw [ids_get hi',ids_get hj];exact e.symm)
theorem SoundP.ask {rs srs:List Rw} {q:List Int} {k:Nat} {a:Ans} (h:SoundP rs q k a srs) (hask:askE rs q=0):askE srs q=0:=by
 obtain ⟨h1,h2⟩:=askE_zero.1 hask
 have hl:a.seen.length<=rs.length:=by
  have:=h.all.length_eq
  unfold allIds at this
  rw [List.length_append] at this
  simp only [idsOf,List.length_map] at this
  omega
 have hsl:srs.length=a.seen.length:=by rw [<- h.ids];simp [idsOf]
 refine askE_zero.2 ⟨h1,⟨by have:=h2.few;omega,?_,fun r hr=>h2.row r (h.mem r hr)⟩⟩
 rw [h.ids]
 have hp:(allIds a).Pairwise (· ≠ ·):=(List.Perm.pairwise_iff (fun e=>Ne.symm e) h.all).2 h2.ids
 unfold allIds at hp
 exact (List.pairwise_append.1 hp).1
theorem snd_row {rs srs:List Rw} {q:List Int} {k:Nat} {a:Ans} (h:SoundP rs q k a srs) (hask:askE rs q=0) {p i:Nat} (hp:p < a.seen.length) (hi':i < rs.length) (e:rs[i]!.1=a.seen[p]!):p < srs.length/\rs[i]! = srs[p]! := by
 have hsl:srs.length=a.seen.length:=by rw [<- h.ids];simp [idsOf]
 have hps:p < srs.length:=by omega
 have hm:=h.mem srs[p]! (by rw [getElem!_pos srs p hps];exact List.getElem_mem hps)
 obtain ⟨j,hj,e2⟩:=List.mem_iff_getElem.1 hm
 have e3:rs[j]! = srs[p]! := by rw [getElem!_pos rs j hj];exact e2
 have e4:a.seen[p]! = srs[p]!.1:=by
  rw [getElem!_pos a.seen p hp,<- ids_get hps]
  simp only [h.ids]
 exact ⟨hps,(ids_nd hask hi' hj (by rw [e,e4,e3])).trans e3⟩
theorem append_new {w W w1:World} {v:Value} {rs:List Rw} {o:Obj} {B:Nat} {xs:List Value} (g:Gb w W) (hB:w.heap.size<=B) (h1:W.ownsRow B 39 2 v rs.length xs) (hg:(W.alloc o).grownBy w1 v.ownBlock):Gb w w1:=by
 refine below_grown (gb_alloc g o) hg (fun k e=>?_) (gb_alloc g o).size
 have:=(h1.lt k e).1
 omega
theorem flat_len:∀ l:List Reg,(∀ r ∈ l,r.I ≠ [])->l.length<=(l.flatMap (·.I)).length
 | [],_=>Nat.le_refl _
 | x :: r,h=>by
  have h1:=flat_len r fun y hy=>h y (List.mem_cons_of_mem _ hy)
  have h2:=List.length_pos_iff.2 (h x (List.mem_cons_self ..))
  rw [List.flatMap_cons,List.length_append,List.length_cons]
  omega
theorem rsound_c {w:World} {v u vh vs vr:Value} {rs srs:List Rw} {q:List Int} {k:Nat} {a:Ans} (hv:RdW w v rs) (hu:RdI w u q) (ha:RdA w vh vs vr a) (hask:askE rs q=0) (hk:k<=64) (h:SoundP rs q k a srs) :
  Calls Tryz.prog 84 #[v,u,.int .i64 (k:Int),.agg #[vh,vs,vr]] w fun e w'=>e=.returned (.bool true)/\Gb w w':=by
 have V:Hid (RdW w v rs):=hv
 have U:Hid (RdI w u q):=hu
 have A:Hid (RdA w vh vs vr a):=ha
 have AK:Hid (askE rs q=0):=hask
 have SP:Hid (SoundP rs q k a srs):=h
 have AS:Hid (askE srs q=0):=h.ask hask
 have FEW:Hid (rs.length<=512/\(allIds a).length<=512):=by
  have h1:=(askE_zero.1 hask).2.few
  refine ⟨h1,?_⟩
  rw [h.all.length_eq]
  simpa [idsOf] using h1
 obtain ⟨av,cv,rfl,_⟩:=hv
 obtain ⟨au,cu,rfl,_⟩:=hu
 obtain ⟨ah,ch,evh,_⟩:=ha.hits.form
 obtain ⟨sa,cs,evs,aS⟩:=ha.seen
 obtain ⟨ar,cr,evr,aR⟩:=ha.rest
 have ASN:Hid (∀ i,i < a.seen.length->∃ b o,sa=some ⟨b,o,none⟩/\w.cell? ⟨b,o + i,none⟩=some (.int .i64 a.seen[i]!)):=aS
 subst evh;subst evs;subst evr
 clear aS aR ha hask h
 obtain ⟨n,hn⟩:∃ n,n=rs.length:=⟨_,rfl⟩
 obtain ⟨m,hm⟩:∃ m,m=q.length:=⟨_,rfl⟩
 obtain ⟨nh,hnh⟩:∃ nh,nh=a.hits.length:=⟨_,rfl⟩
 obtain ⟨ns,hns⟩:∃ ns,ns=a.seen.length:=⟨_,rfl⟩
 obtain ⟨nr,hnr⟩:∃ nr,nr=a.rest.length:=⟨_,rfl⟩
 have NN:Hid (n=rs.length/\m=q.length/\nh=a.hits.length/\ns=a.seen.length/\nr=a.rest.length):=⟨hn,hm,hnh,hns,hnr⟩
 rw [<- hn] at V ⊢
 rw [<- hm] at U ⊢
 rw [<- hnh,<- hns,<- hnr] at A ⊢
 have hnsb:ns<=512:=by
  have h1:=FEW.out.2
  unfold allIds at h1
  rw [List.length_append] at h1
  omega
 have hnrb:nr<=512:=by
  have h1:=FEW.out.2
  have h2:=flat_len a.rest fun r hr=>(SP.out.reg r hr).2.1
  unfold allIds at h1
  rw [List.length_append] at h1
  omega
 clear hn hm hnh hns hnr
 obtain ⟨W1,hW1⟩:∃ W1,W1=w.alloc (.cells #[.slice ah nh ch,.slice sa ns cs,.slice ar nr cr] 51):=⟨_,rfl⟩
 have G0:Hid (Gb w W1):=by unfold Hid;rw [hW1];exact gb_alloc (Below.refl _ _) _
 have SZ:Hid (W1.heap.size=w.heap.size + 1):=by unfold Hid;rw [hW1,World.size_alloc]
 have BX:Hid (W1.cell? ⟨w.heap.size,0,none⟩=some (.slice ah nh ch)/\W1.cell? ⟨w.heap.size,1,none⟩=some (.slice sa ns cs)/\W1.cell? ⟨w.heap.size,2,none⟩=some (.slice ar nr cr)):=by
  unfold Hid;rw [hW1];exact ⟨by simp [go_sem],by simp [go_sem],by simp [go_sem]⟩
 obtain ⟨i0,hi0,hz0,hz1,hz2⟩:=info_partsW
 have II:Hid (Tryz.prog.info? 39=some i0/\i0.zero=some (.agg #[.int .i64 0,.slice none 0 0])/\i0.size=2/\i0.bytes=32):=⟨hi0,hz0,hz1,hz2⟩
 clear hi0 hz0 hz1 hz2
 go_enter Tryz.func84,Tryz.ntmps84
 go_wp2_with fail
 rw [<- hW1]
 clear hW1
 go_loopw [9,10,11] (fun lv sv iv W=>∃ p:Nat,iv=.int .i64 (p:Int)/\p<=ns/\Hid (Gb W1 W/\Own W W1.heap.size lv (srt (a.seen.take p))/\OwnW w W W1.heap.size sv (srs.take p))) (fun _ _ iv _=>ns - (intOf iv).toNat)
 case atStart=>exact ⟨0,rfl,Nat.zero_le _,Below.refl _ _,by simp [srt];exact own_nil _ _,by rw [List.take_zero];exact ownW_nil _ _ _⟩
 case round =>
  obtain ⟨p,rfl,hp,X⟩:=hrel
  obtain ⟨x0,x1,x2⟩:=BX.out
  have x1:=gb_keeps X.out.1 x1
  clear x0 x2
  by_cases hpn:p < ns
  ·have hpi:(p:Int) < (ns:Int):=by omega
   have hpl:p < a.seen.length:=by have:=NN.out;omega
   have GX:Hid (Gb w wr):=gb_trans G0.out X.out.1
   obtain ⟨b,o,eas,hc⟩:=ASN.out p hpl
   subst eas
   have hc:=gb_keeps GX.out hc
   have cf:=rfind_c (V.out.gb GX.out) (by have:=FEW.out;omega) a.seen[p]!
   obtain ⟨x,hx⟩:∃ x,x=a.seen[p]! := ⟨_,rfl⟩
   have HX:Hid (x=a.seen[p]! /\ p < a.seen.length):=⟨hx,hpl⟩
   rw [<- hx] at hc cf
   clear hx hpl
   go_wp2_with fail
   refine cf.mono ?_
   rintro e w3 ⟨⟨z,rfl,hz⟩,e3⟩
   subst e3
   clear cf
   obtain ⟨hx,hpl⟩:=HX.out
   rw [hx] at hz
   obtain ⟨i,hzi,hil,hix⟩:∃ i:Nat,z=(i:Int)/\i < rs.length/\rs[i]!.1=a.seen[p]! := by
    rcases hz with ⟨_,h⟩ | h
    ·exfalso
     have hps:p < srs.length:=by rw [<- SP.out.ids] at hpl;simpa [idsOf] using hpl
     have hm:=SP.out.mem srs[p]! (by rw [getElem!_pos srs p hps];exact List.getElem_mem hps)
     obtain ⟨j,hj,e2⟩:=List.mem_iff_getElem.1 hm
     refine h j hj ?_
     rw [getElem!_pos rs j hj,e2,getElem!_pos a.seen p hpl,<- ids_get hps]
     simp only [SP.out.ids]
    ·exact h
   subst hzi
   clear hz
   obtain ⟨hps,hrow⟩:=snd_row SP.out AK.out hpl hil hix
   obtain ⟨_,_,ev,hA⟩:=V.out
   obtain ⟨b',o',ur,ea,k1,k2,k3⟩:=hA i hil
   injection ev with ev1 ev2 ev3
   subst ev1
   subst ea
   clear hA ev2 ev3
   have k1:=gb_keeps GX.out k1
   have k2:=gb_keeps GX.out k2
   rw [hrow] at k1 k3
   have hii:(i:Int) < (n:Int):=by have:=NN.out;omega
   have hi0:decide ((i:Int) < 0)=false:=by rw [decide_eq_false_iff_not];omega
   have hsx:srs[p]!.1=a.seen[p]! := by rw [<- hrow];exact hix
   have NX:Hid (srt (a.seen.take (p + 1))=insI a.seen[p]! (srt (a.seen.take p))):=by unfold Hid;rw [take_snoc hpl,srt_snocI]
   have NS:Hid (srs.take (p + 1)=srs.take p ++ [srs[p]!]/\(srs.take p).length=p):=⟨by rw [List.take_succ_eq_append_getElem hps,getElem!_pos srs p hps],by rw [List.length_take];omega⟩
   have HL:Hid ((srt (a.seen.take p)).length<=4000/\p<=512):=by
    have h1:=FEW.out.2
    unfold allIds at h1
    rw [List.length_append] at h1
    exact ⟨by rw [srt_len,List.length_take];omega,by omega⟩
   rw [hsx,<- hx] at k1
   have K3:Hid (RdI w ur srs[p]!.2):=k3
   have HY:Hid (srs[p]!.1=x):=hsx.trans hx.symm
   obtain ⟨pu,cu',eu,_⟩:=k3
   subst eu
   generalize srs[p]!.2.length=nu at *
   clear hix hrow hsx hps hpl hil hx
   by_cases hp0:p=0
   ·subst hp0
    rw [Nat.add_zero] at hc
    go_wp2_with fail
    go_quiet (fail)
    have GV:Hid (Gb wr (wr.drewN nq)):=below_drewN (Below.refl _ _) nq
    generalize wr.drewN nq=V2 at GV ⊢
    have x1:=gb_keeps GV.out x1
    have hc:=gb_keeps GV.out hc
    have cw:=rwith_c (X.out.2.1.gb GV.out) HL.out.1 x
    have XW:Hid (OwnW w V2 W1.heap.size u10 (srs.take 0)):=X.out.2.2.gb GV.out
    have XG:Hid (Gb W1 V2):=gb_trans X.out.1 GV.out
    have k1:=gb_keeps GV.out k1
    have k2:=gb_keeps GV.out k2
    clear X GV
    go_wp2_with fail
    refine cw.mono ?_
    rintro e w4 ⟨v4,rfl,o4,g4⟩
    have O4:Hid (Own w4 W1.heap.size v4 (srt (a.seen.take (0 + 1)))):=by unfold Hid;rw [NX.out,<- HX.out.1];exact o4.mono XG.out.size
    have k1:=gb_keeps g4 k1
    have k2:=gb_keeps g4 k2
    obtain ⟨xs,hown,hcells⟩:=XW.out.gb g4
    rw [NS.out.2] at hown
    have CW:Hid (CellsW w xs (srs.take 0)):=hcells
    have OW4:Hid (OwnW w w4 W1.heap.size u10 (srs.take 0)):=XW.out.gb g4
    have G4:Hid (Gb W1 w4):=gb_trans XG.out g4
    clear cw o4 g4 XW XG hcells x1 hc
    go_wp2_with (first
     | (at_builtin;refine wpList_append_own_at _ rfl _ _ 22 rfl W1.heap.size 39 i0 (.agg #[.int .i64 0,.slice none 0 0]) 2 32 Tryz.underlying22 II.out.1 II.out.2.1 II.out.2.2.1 II.out.2.2.2 rfl (by decide) u10 0 xs rfl (hown.alloc _) ⟨w4.heap.size,0,none⟩ 1 1 [.int .i64 x,.slice pu nu cu'] rfl rfl (two_cells _ _ _ _) (by simp [Value.oneCell']) (by have:=HL.out;simp only [maxLen];omega) (by have:=HL.out;omega) (by rw [World.size_alloc];have:=G4.out.size;omega) ?_;intro v5 w5 hown5 hgrow5 hnil5 hloc5)
     | go_in)
    have XN:Hid (Gb W1 w5/\Own w5 W1.heap.size v4 (srt (a.seen.take (0 + 1)))/\OwnW w w5 W1.heap.size v5 (srs.take (0 + 1))):=by
     refine ⟨append_new (rs:=srs.take 0) G4.out (Nat.le_refl _) (by rw [NS.out.2];exact hown) hgrow5,?_,?_⟩
     ·exact (O4.out.gb (gb_alloc (Below.refl _ _) _)).kept hgrow5 (own_neW O4.out OW4.out)
     ·refine ⟨xs ++ [.int .i64 srs[0]!.1,.slice pu nu cu'],?_,?_⟩
      ·rw [NS.out.1,List.length_append,NS.out.2,HY.out];exact hown5
      ·rw [NS.out.1];exact CW.out.snoc (by have:=hown.1;rw [NS.out.2];exact this) K3.out
    clear hown hown5 hgrow5 hnil5 hloc5 k1 k2 CW O4 OW4 G4
    go_wp2
    go_roundw
    case rel=>exact ⟨0 + 1,by simp,hpn,XN⟩
    case measure=>simp [intOf];omega
   ·obtain ⟨j,hj⟩:∃ j,p=j + 1:=⟨p - 1,by omega⟩
    have hj1:(p:Int) - 1=(j:Int):=by omega
    have hj2:IntKind.i64.wrap (j:Int)=(j:Int):=wrapN (by have:=HL.out.2;omega)
    have hj3:decide (0 < p)=true:=by rw [decide_eq_true_eq];omega
    obtain ⟨_,_,e,hcj⟩:=ASN.out j (by have:=HX.out.2;omega)
    cases e
    have hcj:=gb_keeps GX.out hcj
    have hlt:¬ x<=a.seen[j]! := by
     have:=SP.out.rise j (by have:=HX.out.2;omega)
     rw [HX.out.1,hj];omega
    have hji:(j:Int) < (ns:Int):=by omega
    generalize a.seen[j]! = y at *
    clear hj
    go_wp2_with fail
    go_quiet (fail)
    clear hcj
    have GV:Hid (Gb wr (wr.drewN nq)):=below_drewN (Below.refl _ _) nq
    generalize wr.drewN nq=V2 at GV ⊢
    have x1:=gb_keeps GV.out x1
    have hc:=gb_keeps GV.out hc
    have cw:=rwith_c (X.out.2.1.gb GV.out) HL.out.1 x
    have XW:Hid (OwnW w V2 W1.heap.size u10 (srs.take p)):=X.out.2.2.gb GV.out
    have XG:Hid (Gb W1 V2):=gb_trans X.out.1 GV.out
    have k1:=gb_keeps GV.out k1
    have k2:=gb_keeps GV.out k2
    clear X GV
    go_wp2_with fail
    refine cw.mono ?_
    rintro e w4 ⟨v4,rfl,o4,g4⟩
    have O4:Hid (Own w4 W1.heap.size v4 (srt (a.seen.take (p + 1)))):=by unfold Hid;rw [NX.out,<- HX.out.1];exact o4.mono XG.out.size
    have k1:=gb_keeps g4 k1
    have k2:=gb_keeps g4 k2
    obtain ⟨xs,hown,hcells⟩:=XW.out.gb g4
    rw [NS.out.2] at hown
    have CW:Hid (CellsW w xs (srs.take p)):=hcells
    have OW4:Hid (OwnW w w4 W1.heap.size u10 (srs.take p)):=XW.out.gb g4
    have G4:Hid (Gb W1 w4):=gb_trans XG.out g4
    clear cw o4 g4 XW XG hcells x1 hc
    go_wp2_with (first
     | (at_builtin;refine wpList_append_own_at _ rfl _ _ 22 rfl W1.heap.size 39 i0 (.agg #[.int .i64 0,.slice none 0 0]) 2 32 Tryz.underlying22 II.out.1 II.out.2.1 II.out.2.2.1 II.out.2.2.2 rfl (by decide) u10 p xs rfl (hown.alloc _) ⟨w4.heap.size,0,none⟩ 1 1 [.int .i64 x,.slice pu nu cu'] rfl rfl (two_cells _ _ _ _) (by simp [Value.oneCell']) (by have:=HL.out;simp only [maxLen];omega) (by have:=HL.out;omega) (by rw [World.size_alloc];have:=G4.out.size;omega) ?_;intro v5 w5 hown5 hgrow5 hnil5 hloc5)
     | go_in)
    have XN:Hid (Gb W1 w5/\Own w5 W1.heap.size v4 (srt (a.seen.take (p + 1)))/\OwnW w w5 W1.heap.size v5 (srs.take (p + 1))):=by
     refine ⟨append_new (rs:=srs.take p) G4.out (Nat.le_refl _) (by rw [NS.out.2];exact hown) hgrow5,?_,?_⟩
     ·exact (O4.out.gb (gb_alloc (Below.refl _ _) _)).kept hgrow5 (own_neW O4.out OW4.out)
     ·refine ⟨xs ++ [.int .i64 srs[p]!.1,.slice pu nu cu'],?_,?_⟩
      ·rw [NS.out.1,List.length_append,NS.out.2,HY.out];exact hown5
      ·rw [NS.out.1];exact CW.out.snoc (by have:=hown.1;rw [NS.out.2];exact this) K3.out
    clear hown hown5 hgrow5 hnil5 hloc5 k1 k2 CW O4 OW4 G4
    clear hj1 hj2 hj3 hlt
    go_wp2
    go_roundw
    case rel=>exact ⟨p + 1,by first | rfl | go_num | simp,hpn,XN⟩
    case measure=>simp [intOf];omega
  ·have hpi:¬ (p:Int) < (ns:Int):=by omega
   have XE:Hid (Gb W1 wr/\Own wr W1.heap.size u9 (srt (a.seen ++ restTo a 0))/\OwnW w wr W1.heap.size u10 srs):=by
    have h1:=X.out
    have hl:srs.length=a.seen.length:=by rw [<- SP.out.ids];simp [idsOf]
    rw [List.take_of_length_le (by have:=NN.out;omega),List.take_of_length_le (by have:=NN.out;omega)] at h1
    refine ⟨h1.1,?_,h1.2.2⟩
    rw [show restTo a 0=[] by simp [restTo],List.append_nil]
    exact h1.2.1
   clear X
   go_wp2
   clear x1
   go_loopw [9,13] (fun lv iv W=>∃ t:Nat,iv=.int .i64 (t:Int)/\t<=nr/\Hid (Gb W1 W/\Own W W1.heap.size lv (srt (a.seen ++ restTo a t))/\OwnW w W W1.heap.size u10 srs)) (fun _ iv _=>nr - (intOf iv).toNat)
   case atStart=>exact ⟨0,rfl,Nat.zero_le _,XE⟩
   case round =>
    clear XE
    obtain ⟨t,rfl,ht,X⟩:=hrel
    obtain ⟨x0,x1,x2⟩:=BX.out
    have x2:=gb_keeps X.out.1 x2
    clear x0 x1
    by_cases htn:t < nr
    ·have hti:decide ((t:Int) < (nr:Int))=true:=by rw [decide_eq_true_eq];omega
     have htt:(t:Int) < (nr:Int):=by omega
     have htl:t < a.rest.length:=by have:=NN.out;omega
     have GX:Hid (Gb w wr):=gb_trans G0.out X.out.1
     obtain ⟨_,_,ea,hA⟩:=A.out.rest
     obtain ⟨b1,o1,y1,y2,y3,e1,c0,c1,c2,c3,c4,c5,r1,r2,r3⟩:=hA t htl
     injection ea with ea1 ea2 ea3
     subst ea1;subst e1
     clear hA ea2 ea3
     have hrg:=SP.out.reg _ (List.getElem_mem htl)
     have hmr:=fun (row:Rw) (hr:row ∈ rs)=>((askE_zero.1 AK.out).2.row row hr).2
     have hIl:(a.rest[t]).I.length<=512:=by
      have h1:=restTo_le (a:=a) (t + 1)
      rw [restTo_succ htl,List.length_append,List.length_append] at h1
      have:=FEW.out
      omega
     have cr':=rregion_c (r:=a.rest[t]) (V.out.gb GX.out) ⟨y1,y2,y3,rfl,r1.gb GX.out,r2.gb GX.out,r3.gb GX.out⟩ (by have:=FEW.out;omega) (by omega) (q.length:Int) hrg.1 hrg.2.1 hrg.2.2.1 hmr
      (fun x hx=>by obtain ⟨row,h1,h2,_⟩:=hrg.2.2.2 x hx;exact ⟨row,h1,h2⟩)
      (fun row hr hx=>by
       obtain ⟨row',h1,h2,h3⟩:=hrg.2.2.2 _ hx
       obtain ⟨i,hi',e⟩:=List.mem_iff_getElem.1 hr
       obtain ⟨j,hj,e'⟩:=List.mem_iff_getElem.1 h1
       have:=ids_nd AK.out hi' hj (by rw [getElem!_pos rs i hi',getElem!_pos rs j hj,e,e'];exact h2.symm)
       rw [getElem!_pos rs i hi',getElem!_pos rs j hj,e,e'] at this
       rw [this];exact h3)
     rw [<- NN.out.2.1] at cr'
     have a0:=gb_keeps GX.out c0
     have a1:=gb_keeps GX.out c1
     have a2:=gb_keeps GX.out c2
     have a3:=gb_keeps GX.out c3
     have a4:=gb_keeps GX.out c4
     have a5:=gb_keeps GX.out c5
     have NX:Hid (restTo a (t + 1)=restTo a t ++ (a.rest[t]).I):=restTo_succ htl
     have RI:Hid (RdI w y3 (a.rest[t]).I):=r3
     obtain ⟨l,hl⟩:∃ l,l=(a.rest[t]).I:=⟨_,rfl⟩
     have RL:Hid (l.length<=512/\(a.seen ++ restTo a t).length + l.length<=512):=by
      have h1:=restTo_le (a:=a) (t + 1)
      rw [NX.out,<- hl,<- List.append_assoc,List.length_append] at h1
      have:=FEW.out
      exact ⟨by rw [hl];exact hIl,by omega⟩
     rw [<- hl] at NX RI
     obtain ⟨u1,u2,e,z1⟩:=r1;subst e
     obtain ⟨u3,u4,e,z2⟩:=r2;subst e
     obtain ⟨u5,u6,e,hc3⟩:=r3;subst e
     rw [<- hl] at a5 c5 RI
     dsimp only [rv] at cr'
     rw [<- hl] at cr'
     generalize (a.rest[t]).L.length=d1 at *
     generalize (a.rest[t]).H.length=d2 at *
     generalize (a.rest[t]).S=d3 at *
     generalize hi (a.rest[t]).R=d4 at *
     generalize lo (a.rest[t]).R=d5 at *
     obtain ⟨nl,hnl⟩:∃ nl,nl=l.length:=⟨_,rfl⟩
     have NL:Hid (nl=l.length):=hnl
     rw [<- hnl] at a5 c5 RI cr'
     have A5:Hid (w.cell? ⟨b1,o1 + t * 6 + 5,none⟩=some (.slice u5 nl u6)):=c5
     have hnlb:nl<=512:=by have:=RL.out.1;omega
     clear z1 z2 hrg hmr hIl hc3 c0 c1 c2 c3 c4 c5 hl hnl htl
     go_wp2_with fail
     refine cr'.mono ?_
     rintro e w4 ⟨rfl,g4⟩
     have X4:Hid (Gb W1 w4/\Own w4 W1.heap.size u9 (srt (a.seen ++ restTo a t ++ l.take 0))/\OwnW w w4 W1.heap.size u10 srs):=⟨gb_trans X.out.1 g4,by rw [List.take_zero,List.append_nil];exact X.out.2.1.gb g4,X.out.2.2.gb g4⟩
     clear cr' a0 a1 a2 a3 a4 a5 x2 g4 X
     go_wp2
     go_loopw [9,14] (fun lv iv W=>∃ y:Nat,iv=.int .i64 (y:Int)/\y<=nl/\Hid (Gb W1 W/\Own W W1.heap.size lv (srt (a.seen ++ restTo a t ++ l.take y))/\OwnW w W W1.heap.size u10 srs)) (fun _ iv _=>nl - (intOf iv).toNat)
     case atStart=>exact ⟨0,rfl,Nat.zero_le _,X4⟩
     case round =>
      clear X4
      obtain ⟨y,rfl,hy,X⟩:=hrel
      obtain ⟨x0,x1,x2⟩:=BX.out
      have x2:=gb_keeps X.out.1 x2
      have GX:Hid (Gb w wr):=gb_trans G0.out X.out.1
      have a5:=gb_keeps GX.out A5.out
      clear x0 x1
      by_cases hyn:y < nl
      ·have hyi:(y:Int) < (nl:Int):=by omega
       obtain ⟨_,_,e,hI⟩:=RI.out
       obtain ⟨b2,o2,e2,hc⟩:=hI y (by have:=NL.out;omega)
       injection e with e3 e4 e5
       subst e3;subst e2
       clear hI e4 e5
       have hc:=gb_keeps GX.out hc
       have NY:Hid (srt (a.seen ++ restTo a t ++ l.take (y + 1))=insI l[y]! (srt (a.seen ++ restTo a t ++ l.take y))):=by
        unfold Hid;rw [take_snoc (by have:=NL.out;omega),<- List.append_assoc,srt_snocI]
       have cw:=rwith_c X.out.2.1 (by rw [srt_len,List.length_append,List.length_take];have:=RL.out.2;omega) l[y]!
       generalize l[y]! = x at *
       go_wp2_with fail
       refine cw.mono ?_
       rintro e w5 ⟨v5,rfl,o5,g5⟩
       have XN:Hid (Gb W1 w5/\Own w5 W1.heap.size v5 (srt (a.seen ++ restTo a t ++ l.take (y + 1)))/\OwnW w w5 W1.heap.size u10 srs):=⟨gb_trans X.out.1 g5,by rw [NY.out];exact o5.mono X.out.1.size,X.out.2.2.gb g5⟩
       clear cw o5 g5 X NY hc a5 x2 GX
       go_wp2
       go_roundw
       case rel=>exact ⟨y + 1,by first | rfl | go_num | simp,hyn,XN⟩
       case measure=>simp [intOf];omega
      ·have hyi:¬ (y:Int) < (nl:Int):=by omega
       have XN:Hid (Gb W1 wr/\Own wr W1.heap.size u9 (srt (a.seen ++ restTo a (t + 1)))/\OwnW w wr W1.heap.size u10 srs):=by
        have h1:=X.out
        rw [List.take_of_length_le (by have:=NL.out;omega),List.append_assoc,<- NX.out] at h1
        exact h1
       clear X
       go_wp2
       go_roundw
       case rel=>exact ⟨t + 1,by first | rfl | go_num | simp,htn,XN⟩
       case measure=>simp [intOf];omega
    ·have hti:¬ (t:Int) < (nr:Int):=by omega
     have XE:Hid (Gb W1 wr/\Own wr W1.heap.size u9 (srt (allIds a))/\OwnW w wr W1.heap.size u10 srs):=by
      have h1:=X.out
      rw [show t=a.rest.length by have:=NN.out;omega,restTo_all] at h1
      exact h1
     have GX:Hid (Gb w wr):=gb_trans G0.out X.out.1
     have ch:=rhits_c (XE.out.2.2.rdw GX.out) (U.out.gb GX.out) AS.out
     have HL:Hid ((Tk.srt (hitsOf q srs)).length<=4000):=by
      unfold Hid
      rw [Tk.srt_len,hitsOf_len]
      have:=(askE_zero.1 AS.out).2.few
      omega
     clear X
     go_wp2_with fail
     clear x2
     refine ch.mono ?_
     rintro e w5 ⟨vl,rfl,o5,g5,_⟩
     have G5:Hid (Gb wr w5):=g5
     have cf:=rfirst_c o5 HL.out k hk
     obtain ⟨xa,xc,exv⟩:∃ xa xc,vl=.slice xa (Tk.srt (hitsOf q srs)).length xc:=own_fm o5 rfl
     subst exv
     clear ch o5 g5
     generalize (Tk.srt (hitsOf q srs)).length=nL at *
     go_wp2_with fail
     refine cf.mono ?_
     rintro e w6 ⟨v6,rfl,rd6,g6⟩
     have RD:Hid (Tk.Rd w6 v6 a.hits):=by unfold Hid;rw [SP.out.hits];exact rd6
     have G6:Hid (Gb W1 w6):=gb_trans XE.out.1 (gb_trans G5.out g6)
     have O6:Hid (Own w6 W1.heap.size u9 (srt (allIds a))):=XE.out.2.1.gb (gb_trans G5.out g6)
     obtain ⟨x6,c6,e6,hl6⟩:=RD.out.form
     subst e6
     have L6:Hid (∀ i,i < a.hits.length->∃ b o,x6=some ⟨b,o,none⟩/\Tk.Lies w6 b o a.hits):=hl6
     rw [<- NN.out.2.2.1] at RD ⊢
     clear cf rd6 g6 G5 GX XE hl6
     obtain ⟨x0,x1,x2⟩:=BX.out
     have x0:=gb_keeps G6.out x0
     clear x1 x2
     have hnhb:nh<=64:=by
      rw [NN.out.2.2.1,SP.out.hits,Tk.firsts_len]
      omega
     go_wp2
     clear x0
     go_loopw [16] (fun iv W=>∃ y:Nat,iv=.int .i64 (y:Int)/\y<=nh/\Hid (Gb w6 W)) (fun iv _=>nh - (intOf iv).toNat)
     case atStart=>exact ⟨0,rfl,Nat.zero_le _,Below.refl _ _⟩
     case round =>
      obtain ⟨y,rfl,hy,X⟩:=hrel
      obtain ⟨x0,x1,x2⟩:=BX.out
      have G7:Hid (Gb W1 wr):=gb_trans G6.out X.out
      have x0:=gb_keeps G7.out x0
      clear x1 x2
      by_cases hyn:y < nh
      ·have hyi:(y:Int) < (nh:Int):=by omega
       obtain ⟨_,_,e1,hH⟩:=A.out.hits.form
       obtain ⟨b1,o1,ea,h1⟩:=hH y (by have:=NN.out;omega)
       injection e1 with e2 e3 e4
       subst e2;subst ea
       obtain ⟨b2,o2,eb,h2⟩:=L6.out y (by have:=NN.out;omega)
       subst eb
       obtain ⟨p0,p1,p2⟩:=(h1.gr (gb_trans G0.out G7.out)) y (by have:=NN.out;omega)
       obtain ⟨q0,q1,q2⟩:=(h2.gr X.out) y (by have:=NN.out;omega)
       generalize a.hits[y]! = z at *
       have hne:=fun W=>Tk.hv_ne z z W
       simp only [decide_true,Bool.not_true] at hne
       clear h1 h2 hH e3 e4
       go_wp2
       go_quiet (fail)
       go_wp2
       go_roundw
       case rel=>exact ⟨y + 1,by first | rfl | go_num | simp,hyn,X.out.trans (below_drewN (Below.refl _ _) _)⟩
       case measure=>simp [intOf];omega
      ·have hyi:¬ (y:Int) < (nh:Int):=by omega
       have ci:=rIds_c (V.out.gb (gb_trans G0.out G7.out)) (by have:=FEW.out;omega)
       have O7:Hid (Own wr W1.heap.size u9 (srt (allIds a))):=O6.out.gb X.out
       clear X
       go_wp2_with fail
       refine ci.mono ?_
       rintro e w8 ⟨v8,rfl,o8,g8⟩
       have ct:=rints_v (O7.out.gb g8).rd o8.rd (by rw [srt_len];have:=FEW.out;omega) true (by rw [decide_eq_true_eq];exact srtI_unique _ _ (srt_srtI _) (srt_srtI _) ((srt_perm _).trans (SP.out.all.trans (srt_perm _).symm)))
       have G8:Hid (Gb w w8):=gb_trans G0.out (gb_trans G7.out g8)
       obtain ⟨p9,c9,e9,_⟩:=(O7.out.gb g8).rd
       subst e9
       obtain ⟨p10,c10,e10,_⟩:=o8.rd
       subst e10
       generalize (srt (allIds a)).length=n9 at *
       generalize (srt (idsOf rs)).length=n10 at *
       clear ci o8 g8
       go_wp2_with fail
       refine ct.mono ?_
       rintro e w9 ⟨rfl,g9⟩
       go_wp2
       go_ret
       exact ⟨rfl,gb_trans G8.out g9.gb⟩
end Go.Proofs.YtgbgejflmbhigaaGreat

namespace Go.Proofs.YtgbgejflmbhigaaGreat
open Go.RowKit Go.Sort
set_option maxRecDepth 100000
set_option maxHeartbeats 4000000
theorem kregion_c {w:World} {u v:Value} {r:Reg} (hu:RdR w u r) (hv:RdR w v r) (hL:r.L.length<=4611686018427387904) (hH:r.H.length<=4611686018427387904) (hI:r.I.length<=4611686018427387904) :
  Calls Tryz.prog 83 #[u,v] w fun e w'=>e=.returned (.bool true)/\Gr w w':=by
 obtain ⟨l1,h1,i1,rfl,a1,b1,d1⟩:=hu
 obtain ⟨l2,h2,i2,rfl,a2,b2,d2⟩:=hv
 have cL:=fun W (g:Gr w W)=>ints_v (a1.gb g.gb) (a2.gb g.gb) hL true (by simp)
 have cH:=fun W (g:Gr w W)=>ints_v (b1.gb g.gb) (b2.gb g.gb) hH true (by simp)
 have cI:=fun W (g:Gr w W)=>ints_v (d1.gb g.gb) (d2.gb g.gb) hI true (by simp)
 have hw:=fun W=>wd_same (hi r.R) (lo r.R) W
 have G0:Gr w ((w.alloc (.cells #[.int .i64 r.S,l1,h1,.int .u64 (hi r.R),.int .u64 (lo r.R),i1] 97)).alloc (.cells #[.int .i64 r.S,l2,h2,.int .u64 (hi r.R),.int .u64 (lo r.R),i2] 97)):=((Gr.refl _).alloc _ _).alloc _ _
 obtain ⟨p1,q1,rfl,_⟩:=a1
 obtain ⟨p2,q2,rfl,_⟩:=a2
 obtain ⟨p3,q3,rfl,_⟩:=b1
 obtain ⟨p4,q4,rfl,_⟩:=b2
 obtain ⟨p5,q5,rfl,_⟩:=d1
 obtain ⟨p6,q6,rfl,_⟩:=d2
 generalize r.L.length=nl at *
 generalize r.H.length=nh at *
 generalize r.I.length=ni at *
 go_enter Tryz.func83,Tryz.ntmps83
 go_wp2_with fail
 refine (cL _ G0).mono ?_
 rintro e w1 ⟨rfl,g1⟩
 have k2:=g1.keeps (p:=⟨w.heap.size,2,none⟩) (v:=.slice p3 nh q3) (by simp [go_sem])
 have k3:=g1.keeps (p:=⟨w.heap.size + 1,2,none⟩) (v:=.slice p4 nh q4) (by simp [go_sem])
 have k4:=g1.keeps (p:=⟨w.heap.size,5,none⟩) (v:=.slice p5 ni q5) (by simp [go_sem])
 have k5:=g1.keeps (p:=⟨w.heap.size + 1,5,none⟩) (v:=.slice p6 ni q6) (by simp [go_sem])
 have G1:=G0.trans g1
 clear G0 g1
 go_wp2_with fail
 refine (cH _ G1).mono ?_
 rintro e w2 ⟨rfl,g2⟩
 replace k4:=g2.keeps k4
 replace k5:=g2.keeps k5
 have G2:=G1.trans g2
 clear G1 g2
 go_wp2_with fail
 refine (cI _ G2).mono ?_
 rintro e w3 ⟨rfl,g3⟩
 go_wp2
 go_ret
 exact ⟨rfl,G2.trans g3⟩
structure Tw (W:World) (B:Nat) (va vb:Value) (p r:Addr) (S x1 x2 x3 y1 y2 y3 R1 R2:Value):Prop where
 v0:W.cell? ⟨B,2,none⟩=some va
 v1:W.cell? ⟨B + 1,2,none⟩=some vb
 a0:W.cell? p=some S
 a1:W.cell? ⟨p.block,p.off + 1,none⟩=some x1
 a2:W.cell? ⟨p.block,p.off + 2,none⟩=some x2
 a3:W.cell? ⟨p.block,p.off + 3,none⟩=some R1
 a4:W.cell? ⟨p.block,p.off + 4,none⟩=some R2
 a5:W.cell? ⟨p.block,p.off + 5,none⟩=some x3
 b0:W.cell? r=some S
 b1:W.cell? ⟨r.block,r.off + 1,none⟩=some y1
 b2:W.cell? ⟨r.block,r.off + 2,none⟩=some y2
 b3:W.cell? ⟨r.block,r.off + 3,none⟩=some R1
 b4:W.cell? ⟨r.block,r.off + 4,none⟩=some R2
 b5:W.cell? ⟨r.block,r.off + 5,none⟩=some y3
theorem Tw.gb {W W':World} {B:Nat} {va vb:Value} {p r:Addr} {S x1 x2 x3 y1 y2 y3 R1 R2:Value} (h:Tw W B va vb p r S x1 x2 x3 y1 y2 y3 R1 R2) (g:Gb W W'):Tw W' B va vb p r S x1 x2 x3 y1 y2 y3 R1 R2 :=
 ⟨gb_keeps g h.v0,gb_keeps g h.v1,gb_keeps g h.a0,gb_keeps g h.a1,gb_keeps g h.a2,gb_keeps g h.a3,gb_keeps g h.a4,gb_keeps g h.a5,gb_keeps g h.b0,gb_keeps g h.b1,gb_keeps g h.b2,gb_keeps g h.b3,gb_keeps g h.b4,gb_keeps g h.b5⟩
structure Few (a:Ans):Prop where
 hits:a.hits.length<=4000
 seen:a.seen.length<=4611686018427387904
 rest:a.rest.length<=4611686018427387904
 reg:∀ r ∈ a.rest,r.L.length<=4611686018427387904/\r.H.length<=4611686018427387904/\r.I.length<=4611686018427387904
theorem kanswer_c {w:World} {vh vs vr uh us ur:Value} {a:Ans} (ha:RdA w vh vs vr a) (hb:RdA w uh us ur a) (few:Few a) :
  Calls Tryz.prog 49 #[.agg #[vh,vs,vr],.agg #[uh,us,ur]] w fun e w'=>e=.returned (.bool true)/\Gb w w':=by
 have A:Hid (RdA w vh vs vr a):=ha
 have B:Hid (RdA w uh us ur a):=hb
 have FW:Hid (Few a):=few
 obtain ⟨W1,hW1⟩:∃ W1,W1=(w.alloc (.cells #[vh,vs,vr] 51)).alloc (.cells #[uh,us,ur] 51):=⟨_,rfl⟩
 have G0:Hid (Gb w W1):=by unfold Hid;rw [hW1];exact gb_alloc (gb_alloc (Below.refl _ _) _) _
 have BX:Hid ((W1.cell? ⟨w.heap.size,0,none⟩=some vh/\W1.cell? ⟨w.heap.size,1,none⟩=some vs/\W1.cell? ⟨w.heap.size,2,none⟩=some vr)/\W1.cell? ⟨w.heap.size + 1,0,none⟩=some uh/\W1.cell? ⟨w.heap.size + 1,1,none⟩=some us/\W1.cell? ⟨w.heap.size + 1,2,none⟩=some ur):=by
  unfold Hid;rw [hW1];exact ⟨⟨by simp [go_sem],by simp [go_sem],by simp [go_sem]⟩,by simp [go_sem],by simp [go_sem],by simp [go_sem]⟩
 have ch:=Tk.same_c (ha.hits.gr G0.out) (hb.hits.gr G0.out) few.hits
 have ci:=fun W (g:Gb w W)=>ints_v (ha.seen.gb g) (hb.seen.gb g) few.seen true (by simp)
 simp only [decide_true] at ch
 obtain ⟨ah,c1,evh,_⟩:=ha.hits.form
 obtain ⟨sa,c2,evs,_⟩:=ha.seen
 obtain ⟨ar,cr,evr,_⟩:=ha.rest
 obtain ⟨bh,d1,euh,_⟩:=hb.hits.form
 obtain ⟨bs,d2,eus,_⟩:=hb.seen
 obtain ⟨br,er,eur,_⟩:=hb.rest
 subst evh;subst evs;subst evr;subst euh;subst eus;subst eur
 clear ha hb few
 obtain ⟨nh,hnh⟩:∃ nh,nh=a.hits.length:=⟨_,rfl⟩
 obtain ⟨ns,hns⟩:∃ ns,ns=a.seen.length:=⟨_,rfl⟩
 obtain ⟨nr,hnr⟩:∃ nr,nr=a.rest.length:=⟨_,rfl⟩
 have NR:Hid (nr=a.rest.length):=hnr
 rw [<- hnh,<- hns,<- hnr] at A B BX hW1 ⊢
 rw [<- hnh] at ch
 simp only [<- hns] at ci
 have hrl:nr<=4611686018427387904:=by rw [hnr];exact FW.out.rest
 clear hnh hns hnr
 go_enter Tryz.func49,Tryz.ntmps49
 go_wp2_with fail
 rw [<- hW1]
 clear hW1
 obtain ⟨⟨x0,x1,x2⟩,y0,y1,y2⟩:=BX.out
 go_wp2_with fail
 refine ch.mono ?_
 rintro e w2 ⟨rfl,g2⟩
 have G2:Hid (Gb W1 w2):=g2
 clear ch g2 x0 x1 x2 y0 y1 y2
 obtain ⟨⟨x0,x1,x2⟩,y0,y1,y2⟩:=BX.out
 have x1:=gb_keeps G2.out x1
 have y1:=gb_keeps G2.out y1
 clear x0 x2 y0 y2
 go_wp2_with fail
 refine (ci _ (gb_trans G0.out G2.out)).mono ?_
 rintro e w3 ⟨rfl,g3⟩
 have G3:Hid (Gb W1 w3):=gb_trans G2.out g3.gb
 clear ci g3 x1 y1 G2
 obtain ⟨⟨x0,x1,x2⟩,y0,y1,y2⟩:=BX.out
 have x2:=gb_keeps G3.out x2
 have y2:=gb_keeps G3.out y2
 clear x0 x1 y0 y1
 go_wp2
 clear x2 y2
 go_loopw [5] (fun iv W=>∃ p:Nat,iv=.int .i64 (p:Int)/\p<=nr/\Hid (Gb W1 W)) (fun iv _=>nr - (intOf iv).toNat)
 case atStart=>exact ⟨0,rfl,Nat.zero_le _,G3⟩
 case round =>
  obtain ⟨p,rfl,hp,X⟩:=hrel
  obtain ⟨⟨x0,x1,x2⟩,y0,y1,y2⟩:=BX.out
  have x2:=gb_keeps X.out x2
  have y2:=gb_keeps X.out y2
  clear x0 x1 y0 y1
  by_cases hpn:p < nr
  ·have hpi:(p:Int) < (nr:Int):=by omega
   have hpl:p < a.rest.length:=by have:=NR.out;omega
   obtain ⟨_,_,ea,hA⟩:=A.out.rest
   obtain ⟨b1,o1,x1,x2',x3,e1,a0,a1,a2,a3,a4,a5,r1,r2,r3⟩:=hA p hpl
   obtain ⟨_,_,eb,hB⟩:=B.out.rest
   obtain ⟨b2,o2,y1,y2',y3,e2,k0,k1,k2,k3,k4,k5,t1,t2,t3⟩:=hB p hpl
   injection ea with ea1 ea2 ea3
   injection eb with eb1 eb2 eb3
   subst ea1;subst eb1;subst e1;subst e2
   clear hA hB ea2 ea3 eb2 eb3
   have fw:=FW.out.reg _ (List.getElem_mem hpl)
   have GX:Hid (Gb w wr.drew):=(gb_trans G0.out X.out).drew
   have cr':=fun W (g:Gb w W)=>kregion_c (r:=a.rest[p]) ⟨x1,x2',x3,rfl,r1.gb g,r2.gb g,r3.gb g⟩ ⟨y1,y2',y3,rfl,t1.gb g,t2.gb g,t3.gb g⟩ fw.1 fw.2.1 fw.2.2
   have FS0:Tw wr.drew w.heap.size (.slice (some ⟨b1,o1,none⟩) nr cr) (.slice (some ⟨b2,o2,none⟩) nr er) ⟨b1,o1 + p * 6,none⟩ ⟨b2,o2 + p * 6,none⟩ (.int .i64 a.rest[p].S) x1 x2' x3 y1 y2' y3 (.int .u64 (hi a.rest[p].R)) (.int .u64 (lo a.rest[p].R)) :=
    ⟨x2,y2,gb_keeps GX.out a0,gb_keeps GX.out a1,gb_keeps GX.out a2,gb_keeps GX.out a3,gb_keeps GX.out a4,gb_keeps GX.out a5,gb_keeps GX.out k0,gb_keeps GX.out k1,gb_keeps GX.out k2,gb_keeps GX.out k3,gb_keeps GX.out k4,gb_keeps GX.out k5⟩
   obtain ⟨u1,u2,e,z0⟩:=r1;subst e
   obtain ⟨u3,u4,e,z1⟩:=r2;subst e
   obtain ⟨u5,u6,e,z2⟩:=r3;subst e
   obtain ⟨u7,u8,e,z3⟩:=t1;subst e
   obtain ⟨u9,u10,e,z4⟩:=t2;subst e
   obtain ⟨u11,u12,e,z5⟩:=t3;subst e
   dsimp only [rv] at cr'
   generalize Value.slice u1 _ u2=x1 at *
   generalize Value.slice u3 _ u4=x2' at *
   generalize Value.slice u5 _ u6=x3 at *
   generalize Value.slice u7 _ u8=y1 at *
   generalize Value.slice u9 _ u10=y2' at *
   generalize Value.slice u11 _ u12=y3 at *
   generalize Value.int .i64 a.rest[p].S=S at *
   generalize Value.int .u64 (hi a.rest[p].R)=R1 at *
   generalize Value.int .u64 (lo a.rest[p].R)=R2 at *
   clear z0 z1 z2 z3 z4 z5 a0 a1 a2 a3 a4 a5 k0 k1 k2 k3 k4 k5 fw hpl
   go_wp2_with fail
   refine wp_region_held_drew (S:=fun W=>Tw W w.heap.size (.slice (some ⟨b1,o1,none⟩) nr cr) (.slice (some ⟨b2,o2,none⟩) nr er) ⟨b1,o1 + p * 6,none⟩ ⟨b2,o2 + p * 6,none⟩ S x1 x2' x3 y1 y2' y3 R1 R2) (by kernel_rfl) (FS0) (fun hHeld=>?_)
   refine tkn 0 ?_ rfl ?_ ?_;rotate_left;·(rintro w ⟨s0,s1,s2,s3,s4,s5,s6,s7,s8,s9,s10,s11,s12,s13⟩;go_simp;try rfl)
   try simp only [Act.put,List.getElem_toArray,List.getElem_cons_zero,List.setIfInBounds_toArray,List.set_cons_zero,List.set_cons_succ]
   refine tkn 1 ?_ rfl ?_ ?_;rotate_left;·(rintro w ⟨s0,s1,s2,s3,s4,s5,s6,s7,s8,s9,s10,s11,s12,s13⟩;go_simp;try rfl)
   try simp only [Act.put,List.getElem_toArray,List.getElem_cons_zero,List.getElem_cons_succ,List.setIfInBounds_toArray,List.set_cons_zero,List.set_cons_succ]
   refine tkn 2 ?_ rfl ?_ ?_;rotate_left;·(rintro w ⟨s0,s1,s2,s3,s4,s5,s6,s7,s8,s9,s10,s11,s12,s13⟩;go_simp;try rfl)
   try simp only [Act.put,List.getElem_toArray,List.getElem_cons_zero,List.getElem_cons_succ,List.setIfInBounds_toArray,List.set_cons_zero,List.set_cons_succ]
   refine tkn 3 ?_ rfl ?_ ?_;rotate_left;·(rintro w ⟨s0,s1,s2,s3,s4,s5,s6,s7,s8,s9,s10,s11,s12,s13⟩;go_simp;try rfl)
   try simp only [Act.put,List.getElem_toArray,List.getElem_cons_zero,List.getElem_cons_succ,List.setIfInBounds_toArray,List.set_cons_zero,List.set_cons_succ]
   refine tkn 4 ?_ rfl ?_ ?_;rotate_left;·(rintro w ⟨s0,s1,s2,s3,s4,s5,s6,s7,s8,s9,s10,s11,s12,s13⟩;go_simp;try rfl)
   try simp only [Act.put,List.getElem_toArray,List.getElem_cons_zero,List.getElem_cons_succ,List.setIfInBounds_toArray,List.set_cons_zero,List.set_cons_succ]
   refine tkn 5 ?_ rfl ?_ ?_;rotate_left;·(rintro w ⟨s0,s1,s2,s3,s4,s5,s6,s7,s8,s9,s10,s11,s12,s13⟩;go_simp;try rfl)
   try simp only [Act.put,List.getElem_toArray,List.getElem_cons_zero,List.getElem_cons_succ,List.setIfInBounds_toArray,List.set_cons_zero,List.set_cons_succ]
   refine tkn 6 ?_ rfl ?_ ?_;rotate_left;·(rintro w ⟨s0,s1,s2,s3,s4,s5,s6,s7,s8,s9,s10,s11,s12,s13⟩;go_simp;try rfl)
   try simp only [Act.put,List.getElem_toArray,List.getElem_cons_zero,List.getElem_cons_succ,List.setIfInBounds_toArray,List.set_cons_zero,List.set_cons_succ]
   refine tkn 7 ?_ rfl ?_ ?_;rotate_left;·(rintro w ⟨s0,s1,s2,s3,s4,s5,s6,s7,s8,s9,s10,s11,s12,s13⟩;go_simp;try rfl)
   try simp only [Act.put,List.getElem_toArray,List.getElem_cons_zero,List.getElem_cons_succ,List.setIfInBounds_toArray,List.set_cons_zero,List.set_cons_succ]
   refine tkn 8 ?_ rfl ?_ ?_;rotate_left;·(rintro w ⟨s0,s1,s2,s3,s4,s5,s6,s7,s8,s9,s10,s11,s12,s13⟩;go_simp;try rfl)
   try simp only [Act.put,List.getElem_toArray,List.getElem_cons_zero,List.getElem_cons_succ,List.setIfInBounds_toArray,List.set_cons_zero,List.set_cons_succ]
   refine tkn 9 ?_ rfl ?_ ?_;rotate_left;·(rintro w ⟨s0,s1,s2,s3,s4,s5,s6,s7,s8,s9,s10,s11,s12,s13⟩;go_simp;try rfl)
   try simp only [Act.put,List.getElem_toArray,List.getElem_cons_zero,List.getElem_cons_succ,List.setIfInBounds_toArray,List.set_cons_zero,List.set_cons_succ]
   refine rdn 10 rfl (fun K hK=>?_)
   go_simp
   refine (cr' _ GX.out).mono ?_
   rintro e w4 ⟨rfl,g4⟩
   refine hK.out _ _ (hHeld.gb g4.gb) (fun hHeld=>?_)
   clear hK K
   try simp only [Act.put,List.getElem_toArray,List.getElem_cons_zero,List.getElem_cons_succ,List.setIfInBounds_toArray,List.set_cons_zero,List.set_cons_succ]
   refine tkn 11 ?_ rfl ?_ ?_;rotate_left;·(rintro w ⟨s0,s1,s2,s3,s4,s5,s6,s7,s8,s9,s10,s11,s12,s13⟩;go_simp;try rfl)
   try simp only [Act.put,List.getElem_toArray,List.getElem_cons_zero,List.getElem_cons_succ,List.setIfInBounds_toArray,List.set_cons_zero,List.set_cons_succ]
   refine wpAnyH_done (by kernel_rfl) ?_ _
   go_wp2
   go_roundw
   case rel=>exact ⟨p + 1,by first | rfl | go_num | simp,hpn,gb_trans X.out.drew g4.gb⟩
   case measure=>simp [intOf];omega
  ·have hpi:¬ (p:Int) < (nr:Int):=by omega
   have G:Hid (Gb w wr):=gb_trans G0.out X.out
   go_wp2
   go_ret
   exact ⟨rfl,G.out⟩
end Go.Proofs.YtgbgejflmbhigaaGreat

namespace Go.Proofs.YtgbgejflmbhigaaGreat
open Go.RowKit Go.Sort
set_option maxRecDepth 100000
set_option maxHeartbeats 1000000
structure Shp (P:TypeId->Prop) (W W':World):Prop where
 keep:∀ (k:Nat) (cur:Array Value) (t:TypeId) (f:Nat × Nat),W.heap[k]? = some (.cells cur t f)->¬ P t->W'.heap[k]? = W.heap[k]?
 size:∀ (k:Nat) (cur:Array Value) (t:TypeId) (f:Nat × Nat),W.heap[k]? = some (.cells cur t f)->∃ cur',W'.heap[k]? = some (.cells cur' t f)/\cur'.size=cur.size/\(t=3->∀ (i:Nat) (x:Int),cur[i]? = some (.int .i64 x)->∃ y:Int,cur'[i]? = some (.int .i64 y))
theorem Shp.refl (P:TypeId->Prop) (W:World):Shp P W W:=⟨fun _ _ _ _ _ _=>rfl,fun _ cur _ _ h=>⟨cur,h,rfl,fun _ _ x hx=>⟨x,hx⟩⟩⟩
theorem Shp.trans {P:TypeId->Prop} {a b c:World} (h:Shp P a b) (g:Shp P b c):Shp P a c:=by
 refine ⟨fun k cur t f e n=>?_,fun k cur t f e=>?_⟩
 ·have h1:=h.keep k cur t f e n
  exact (g.keep k cur t f (h1.trans e) n).trans h1
 ·obtain ⟨c1,e1,s1,i1⟩:=h.size k cur t f e
  obtain ⟨c2,e2,s2,i2⟩:=g.size k c1 t f e1
  refine ⟨c2,e2,s2.trans s1,fun e3 i x hx=>?_⟩
  obtain ⟨y,hy⟩:=i1 e3 i x hx
  exact i2 e3 i y hy
theorem Shp.mono {P Q:TypeId->Prop} {a b:World} (h:Shp P a b) (hp:∀ t,P t->Q t):Shp Q a b:=⟨fun k cur t f e n=>h.keep k cur t f e fun p=>n (hp t p),h.size⟩
theorem Shp.gb {P:TypeId->Prop} {a b:World} (g:Gb a b):Shp P a b :=
 ⟨fun k _ _ _ e _=>g.block k (Array.getElem?_eq_some_iff.1 e).1,fun k cur _ _ e=>⟨cur,(g.block k (Array.getElem?_eq_some_iff.1 e).1).trans e,rfl,fun _ _ x hx=>⟨x,hx⟩⟩⟩
theorem heap_set {W:World} {g o:Nat} {x:Value} {cur:Array Value} {t:TypeId} {f:Nat × Nat} (h:W.heap[g]? = some (.cells cur t f)):(W.setCell ⟨g,o,none⟩ x).heap[g]? = some (.cells (cur.setIfInBounds o x) t f):=by
 simp [World.setCell,Array.getElem?_modify,h]
theorem Shp.set {P:TypeId->Prop} {W:World} {g:Nat} {cur:Array Value} {t:TypeId} {f:Nat × Nat} (h:W.heap[g]? = some (.cells cur t f)) (hp:P t) (o:Nat) (x:Value) (hx:t=3->∃ y:Int,x=.int .i64 y):Shp P W (W.setCell ⟨g,o,none⟩ x):=by
 refine ⟨fun k cur' t' f' e n=>?_,fun k cur' t' f' e=>?_⟩
 ·by_cases hk:k=g
  ·subst hk;rw [h] at e;cases e;exact absurd hp n
  ·exact Below.heap_setCell _ _ _ _ (by dsimp only;exact hk)
 ·by_cases hk:k=g
  ·subst hk
   rw [h] at e;cases e
   refine ⟨_,heap_set h,by simp,fun e3 i z hz=>?_⟩
   by_cases hi:i=o
   ·subst hi
    obtain ⟨y,rfl⟩:=hx e3
    have hlt:i < cur.size:=(Array.getElem?_eq_some_iff.1 hz).1
    exact ⟨y,by rw [Array.getElem?_setIfInBounds_self_of_lt hlt]⟩
   ·exact ⟨z,by rw [Array.getElem?_setIfInBounds_ne (fun e=>hi e.symm)];exact hz⟩
  ·exact ⟨cur',(Below.heap_setCell _ _ _ _ (by dsimp only;exact hk)).trans e,rfl,fun _ _ z hz=>⟨z,hz⟩⟩
structure MS (P:TypeId->Prop) (B T:Nat) (W W':World):Prop where
 mid:Mid B T W W'
 shp:Shp P W W'
theorem Mid.trans {B T:Nat} {a b c:World} (h:Mid B T a b) (g:Mid B T b c):Mid B T a c :=
 ⟨g.os.trans h.os,g.tape.trans h.tape,g.output.trans h.output,Nat.le_trans h.size g.size,fun k hk hb=>(g.block k (Nat.lt_of_lt_of_le hk h.size) hb).trans (h.block k hk hb)⟩
theorem mid_gb {B T:Nat} {a b:World} (g:Gb a b):Mid B T a b:=⟨g.os,g.tape,g.output,g.size,fun k hk _=>g.block k hk⟩
theorem MS.refl (P:TypeId->Prop) (B T:Nat) (W:World):MS P B T W W:=⟨Mid.refl _ _ _,Shp.refl _ _⟩
theorem MS.trans {P:TypeId->Prop} {B T:Nat} {a b c:World} (h:MS P B T a b) (g:MS P B T b c):MS P B T a c:=⟨h.mid.trans g.mid,h.shp.trans g.shp⟩
theorem MS.mono {P Q:TypeId->Prop} {B T:Nat} {a b:World} (h:MS P B T a b) (hp:∀ t,P t->Q t):MS Q B T a b:=⟨h.mid,h.shp.mono hp⟩
theorem ms_gb {P:TypeId->Prop} {B T:Nat} {a b:World} (g:Gb a b):MS P B T a b:=⟨mid_gb g,Shp.gb g⟩
theorem MS.set {P:TypeId->Prop} {B T g:Nat} {W0 W:World} {cur:Array Value} {t:TypeId} {f:Nat × Nat} (m:MS P B T W0 W) (h1:B<=g) (h2:g < T) (h:W.heap[g]? = some (.cells cur t f)) (hp:P t) (o:Nat) (x:Value) (hx:t=3->∃ y:Int,x=.int .i64 y):MS P B T W0 (W.setCell ⟨g,o,none⟩ x) :=
 ⟨⟨m.mid.os,m.mid.tape,m.mid.output,by simpa [World.setCell] using m.mid.size,fun k hk hb=>(Below.heap_setCell _ _ _ _ (by dsimp only;omega)).trans (m.mid.block k hk hb)⟩,m.shp.trans (Shp.set h hp o x hx)⟩
theorem MS.cell {P:TypeId->Prop} {B T b o:Nat} {W W':World} {v:Value} (m:MS P B T W W') (hb:T<=b) (h:W.cell? ⟨b,o,none⟩=some v):W'.cell? ⟨b,o,none⟩=some v :=
 (World.cell?_of_block (a:=⟨b,o,none⟩) (m.mid.block b (World.block_lt_of_cell? W _ h) (.inr hb))).trans h
def WL (W:World) (B T:Nat) (ty:TypeId) (k:Nat) (a:Option Addr) (n:Nat):Prop:=n=0 ∨ ∃ g cur,a=some ⟨g,0,none⟩/\B<=g/\g < T/\W.heap[g]? = some (.cells cur ty (0,0))/\n * k<=cur.size
theorem WL.ms {P:TypeId->Prop} {W W':World} {B T B' T':Nat} {ty:TypeId} {k:Nat} {a:Option Addr} {n:Nat} (h:WL W B T ty k a n) (m:MS P B' T' W W'):WL W' B T ty k a n:=by
 rcases h with h | ⟨g,cur,e,h1,h2,h3,h4⟩
 ·exact .inl h
 ·obtain ⟨c1,e1,s1,_⟩:=m.shp.size g cur ty (0,0) h3
  exact .inr ⟨g,c1,e,h1,h2,e1,by omega⟩
def WI (W:World) (B T:Nat) (v:Value):Prop:=∃ a n c,v=.slice a n c/\n<=4611686018427387904/\(n=0 ∨ ∃ g cur,a=some ⟨g,0,none⟩/\B<=g/\g < T/\W.heap[g]? = some (.cells cur 3 (0,0))/\∀ i,i < n->∃ x:Int,cur[i]? = some (.int .i64 x))
theorem WI.ms {P:TypeId->Prop} {W W':World} {B T B' T':Nat} {v:Value} (h:WI W B T v) (m:MS P B' T' W W'):WI W' B T v:=by
 obtain ⟨a,n,c,rfl,hn,h⟩:=h
 refine ⟨a,n,c,rfl,hn,?_⟩
 rcases h with h | ⟨g,cur,e,h1,h2,h3,h4⟩
 ·exact .inl h
 ·obtain ⟨c1,e1,s1,i1⟩:=m.shp.size g cur 3 (0,0) h3
  exact .inr ⟨g,c1,e,h1,h2,e1,fun i hi=>by obtain ⟨x,hx⟩:=h4 i hi;exact i1 rfl i x hx⟩
theorem wi_own {W:World} {B T:Nat} {v:Value} {l:List Int} (h:Own W B v l) (hn:l.length<=4611686018427387904) (hT:∀ g,v.ownBlock=some g->g < T):WI W B T v:=by
 rcases h.2 with ⟨rfl,h0⟩ | ⟨g,cap,cur,rfl,hb,hh,hc,_,hs,ht⟩
 ·exact ⟨none,0,0,rfl,Nat.zero_le _,.inl rfl⟩
 ·refine ⟨_,_,_,rfl,hn,.inr ⟨g,cur,rfl,hb,hT g rfl,hh,fun i hi=>?_⟩⟩
  have h1:(cur.toList.take (l.length * 1))[i]? = (l.map (Value.int .i64))[i]? := by rw [ht]
  rw [List.getElem?_take_of_lt (by omega),List.getElem?_map,List.getElem?_eq_getElem hi] at h1
  exact ⟨l[i],by simpa using h1⟩
structure OwnA (W:World) (B T:Nat) (vh vs vr:Value):Prop where
 top:T<=W.heap.size
 hits:∃ a n c,vh=.slice a n c/\n<=4611686018427387904/\WL W B T 60 3 a n
 seen:WI W B T vs
 rest:∃ a n c,vr=.slice a n c/\n<=4611686018427387904/\(n=0 ∨ ∃ g cur,a=some ⟨g,0,none⟩/\B<=g/\g < T/\W.heap[g]? = some (.cells cur 97 (0,0)) /\
  ∀ i,i < n->∃ (S:Int) (vl vu:Value) (h l:Int) (vi:Value),cur[i * 6]? = some (.int .i64 S)/\cur[i * 6 + 1]? = some vl/\cur[i * 6 + 2]? = some vu/\cur[i * 6 + 3]? = some (.int .u64 h)/\cur[i * 6 + 4]? = some (.int .u64 l)/\cur[i * 6 + 5]? = some vi/\WI W B T vl/\WI W B T vu/\WI W B T vi)
theorem OwnA.gb {W W':World} {B T:Nat} {vh vs vr:Value} (h:OwnA W B T vh vs vr) (g:Gb W W'):OwnA W' B T vh vs vr:=by
 have m:MS (fun _=>False) B T W W':=ms_gb g
 obtain ⟨a,n,c,e,hn,hl⟩:=h.hits
 obtain ⟨a',n',c',e',hn',hl'⟩:=h.rest
 refine ⟨Nat.le_trans h.top g.size,⟨a,n,c,e,hn,hl.ms m⟩,h.seen.ms m,⟨a',n',c',e',hn',?_⟩⟩
 rcases hl' with h0 | ⟨x,cur,h1,h2,h3,h4,h5⟩
 ·exact .inl h0
 ·refine .inr ⟨x,cur,h1,h2,h3,(g.block x (Array.getElem?_eq_some_iff.1 h4).1).trans h4,fun i hi=>?_⟩
  obtain ⟨S,vl,vu,p,l,vi,d0,d1,d2,d3,d4,d5,w1,w2,w3⟩:=h5 i hi
  exact ⟨S,vl,vu,p,l,vi,d0,d1,d2,d3,d4,d5,w1.ms m,w2.ms m,w3.ms m⟩
theorem size_of_last {cur:Array Value} {o:Nat} {v:Value} (h:cur[o]? = some v):o < cur.size:=(Array.getElem?_eq_some_iff.1 h).1
theorem cell_of {W:World} {g o:Nat} {cur:Array Value} {t:TypeId} {v:Value} (h:W.heap[g]? = some (.cells cur t (0,0))) (hc:cur[o]? = some v):W.cell? ⟨g,o,none⟩=some v:=by simp [World.cell?,h,hc]
theorem froz_of {W:World} {g:Nat} {cur:Array Value} {t:TypeId} (h:W.heap[g]? = some (.cells cur t (0,0))) (o:Nat):W.frozen? ⟨g,o,none⟩=false:=by simp [World.frozen?,h]
theorem some_of {cur:Array Value} {o:Nat} (h:o < cur.size):∃ v,cur[o]? = some v:=⟨cur[o],Array.getElem?_eq_getElem h⟩
abbrev tInt:TypeId->Prop:=fun t=>t=3
abbrev tHI:TypeId->Prop:=fun t=>t=3 ∨ t=60
abbrev tReg:TypeId->Prop:=fun t=>t=3 ∨ t=97 ∨ t=60
theorem spoil_c {w:World} {B T:Nat} {vh vs vr:Value} (h:OwnA w B T vh vs vr) :
  Calls Tryz.prog 51 #[.agg #[vh,vs,vr]] w fun e w'=>e=.returned (.tuple #[])/\Mid B T w w':=by
 obtain ⟨ah,nh,ch,evh,hnb,hH⟩:=h.hits
 obtain ⟨sa,ns,cs,evs,hsb,hS⟩:=h.seen
 obtain ⟨ar,nr,cr,evr,hrb,hR⟩:=h.rest
 have TOP:Hid (T<=w.heap.size):=h.top
 have SW:Hid (WI w B T (.slice sa ns cs)):=evs ▸ h.seen
 subst evh;subst evs;subst evr
 have HH:Hid (WL w B T 60 3 ah nh):=hH
 have HR:Hid _:=hR
 clear hH hS hR h
 obtain ⟨W1,hW1⟩:∃ W1,W1=w.alloc (.cells #[.slice ah nh ch,.slice sa ns cs,.slice ar nr cr] 51):=⟨_,rfl⟩
 have G0:Hid (Gb w W1):=by unfold Hid;rw [hW1];exact gb_alloc (Below.refl _ _) _
 have BX:Hid (W1.cell? ⟨w.heap.size,0,none⟩=some (.slice ah nh ch)/\W1.cell? ⟨w.heap.size,1,none⟩=some (.slice sa ns cs)/\W1.cell? ⟨w.heap.size,2,none⟩=some (.slice ar nr cr)):=by
  unfold Hid;rw [hW1];exact ⟨by simp [go_sem],by simp [go_sem],by simp [go_sem]⟩
 go_enter Tryz.func51,Tryz.ntmps51
 go_wp2_with fail
 rw [<- hW1]
 clear hW1
 go_loopw [2] (fun iv W=>∃ p:Nat,iv=.int .i64 (p:Int)/\p<=nh/\Hid (MS tHI B T W1 W)) (fun iv _=>nh - (intOf iv).toNat)
 case atStart=>exact ⟨0,rfl,Nat.zero_le _,MS.refl _ _ _ _⟩
 case round =>
  obtain ⟨p,rfl,hp,X⟩:=hrel
  obtain ⟨x0,x1,x2⟩:=BX.out
  have x0:=X.out.cell TOP.out x0
  clear x1 x2
  by_cases hpn:p < nh
  ·have hpi:(p:Int) < (nh:Int):=by omega
   obtain ⟨g,cur,e,h1,h2,h3,h4⟩:∃ g cur,ah=some ⟨g,0,none⟩/\B<=g/\g < T/\wr.heap[g]? = some (.cells cur 60 (0,0))/\nh * 3<=cur.size:=by
    rcases (HH.out.ms (P:=tHI) (B':=B) (T':=T) (ms_gb G0.out)).ms X.out with h | h
    ·omega
    ·exact h
   subst e
   obtain ⟨v0,k0⟩:=some_of (cur:=cur) (o:=p * 3) (by omega)
   obtain ⟨v1,k1⟩:=some_of (cur:=cur) (o:=p * 3 + 1) (by omega)
   obtain ⟨v2,k2⟩:=some_of (cur:=cur) (o:=p * 3 + 2) (by omega)
   have c0:=cell_of h3 k0
   have c1:=cell_of h3 k1
   have c2:=cell_of h3 k2
   have f0:=froz_of h3 (p * 3)
   have f1:=froz_of h3 (p * 3 + 1)
   have f2:=froz_of h3 (p * 3 + 2)
   have XN:Hid (MS tHI B T W1 (((wr.setCell ⟨g,p * 3,none⟩ (.int .i64 (-1))).setCell ⟨g,p * 3 + 1,none⟩ (.int .u64 0)).setCell ⟨g,p * 3 + 2,none⟩ (.int .u64 0))) :=
    ((X.out.set h1 h2 h3 (.inr rfl) _ _ (fun e=>by simp at e)).set h1 h2 (heap_set h3) (.inr rfl) _ _ (fun e=>by simp at e)).set h1 h2 (heap_set (heap_set h3)) (.inr rfl) _ _ (fun e=>by simp at e)
   clear h3 h4 k0 k1 k2
   go_wp2
   go_roundw
   case rel=>exact ⟨p + 1,by first | rfl | go_num | simp,hpn,XN⟩
   case measure=>simp [intOf];omega
  ·have hpi:¬ (p:Int) < (nh:Int):=by omega
   go_wp2
   clear x0
   go_loopw [3] (fun iv W=>∃ p:Nat,iv=.int .i64 (p:Int)/\p<=ns/\Hid (MS tHI B T W1 W)) (fun iv _=>ns - (intOf iv).toNat)
   case atStart=>exact ⟨0,rfl,Nat.zero_le _,X⟩
   case round =>
    clear X hp hpi hpn
    obtain ⟨p,rfl,hp,X⟩:=hrel
    obtain ⟨x0,x1,x2⟩:=BX.out
    have x1:=X.out.cell TOP.out x1
    clear x0 x2
    by_cases hpn:p < ns
    ·have hpi:(p:Int) < (ns:Int):=by omega
     obtain ⟨g,cur,e,h1,h2,h3,h4⟩:∃ g cur,sa=some ⟨g,0,none⟩/\B<=g/\g < T/\wr.heap[g]? = some (.cells cur 3 (0,0))/\∀ i,i < ns->∃ x:Int,cur[i]? = some (.int .i64 x):=by
      obtain ⟨_,_,_,e,_,h⟩:=(SW.out.ms (P:=tHI) (B':=B) (T':=T) (ms_gb G0.out)).ms X.out
      cases e
      rcases h with h | h
      ·omega
      ·exact h
     subst e
     obtain ⟨y,k0⟩:=h4 p hpn
     have c0:=cell_of h3 k0
     have f0:=froz_of h3 p
     have XN:Hid (MS tHI B T W1 (wr.setCell ⟨g,p,none⟩ (.int .i64 (-1)))):=X.out.set h1 h2 h3 (.inl rfl) _ _ (fun _=>⟨_,rfl⟩)
     clear h3 h4 k0
     go_wp2
     go_roundw
     case rel=>exact ⟨p + 1,by first | rfl | go_num | simp,hpn,XN⟩
     case measure=>simp [intOf];omega
    ·have hpi:¬ (p:Int) < (ns:Int):=by omega
     go_wp2
     clear x1
     go_loopw [4] (fun iv W=>∃ p:Nat,iv=.int .i64 (p:Int)/\p<=nr/\Hid (MS tReg B T W1 W/\(∀ g cur,ar=some ⟨g,0,none⟩->w.heap[g]? = some (.cells cur 97 (0,0))->∃ cur',W.heap[g]? = some (.cells cur' 97 (0,0))/\cur'.size=cur.size/\∀ j,p * 6<=j->cur'[j]? = cur[j]?))) (fun iv _=>nr - (intOf iv).toNat)
     case atStart=>exact ⟨0,rfl,Nat.zero_le _,X.out.mono (fun t h=>by rcases h with h | h;exact .inl h;exact .inr (.inr h)),fun g cur e hg=>by
      have h1:=(G0.out.block g (Array.getElem?_eq_some_iff.1 hg).1).trans hg
      exact ⟨cur,(X.out.shp.keep g _ _ _ h1 (by simp)).trans h1,rfl,fun _ _=>rfl⟩⟩
     case round =>
      clear X hp hpi hpn
      obtain ⟨p,rfl,hp,X⟩:=hrel
      obtain ⟨x0,x1,x2⟩:=BX.out
      have x2:=X.out.1.cell TOP.out x2
      clear x0 x1
      by_cases hpn:p < nr
      ·have hpi:decide ((p:Int) < (nr:Int))=true:=by rw [decide_eq_true_eq];omega
       have hpp:(p:Int) < (nr:Int):=by omega
       obtain ⟨rg,rcur,e,r1,r2,r3,r4⟩:∃ g cur,ar=some ⟨g,0,none⟩/\B<=g/\g < T/\w.heap[g]? = some (.cells cur 97 (0,0)) /\
         ∀ i,i < nr->∃ (S:Int) (vl vu:Value) (h l:Int) (vi:Value),cur[i * 6]? = some (.int .i64 S)/\cur[i * 6 + 1]? = some vl/\cur[i * 6 + 2]? = some vu/\cur[i * 6 + 3]? = some (.int .u64 h)/\cur[i * 6 + 4]? = some (.int .u64 l)/\cur[i * 6 + 5]? = some vi/\WI w B T vl/\WI w B T vu/\WI w B T vi:=by
        rcases HR.out with h | h
        ·omega
        ·exact h
       subst e
       obtain ⟨cur',s3,s4,s5⟩:=X.out.2 rg rcur rfl r3
       obtain ⟨S,vl,vu,h,l,vi,d0,d1,d2,d3,d4,d5,w1,w2,w3⟩:=r4 p hpn
       rw [<- s5 _ (by omega)] at d0 d1 d2 d3 d4 d5
       have c0:=cell_of s3 d0
       have c1:=cell_of s3 d1
       have c2:=cell_of s3 d2
       have c3:=cell_of s3 d3
       have c4:=cell_of s3 d4
       have c5:=cell_of s3 d5
       obtain ⟨W3,hW3⟩:∃ W3,W3=wr.alloc (.cells #[.int .i64 S,vl,vu,.int .u64 h,.int .u64 l,vi] 97):=⟨_,rfl⟩
       obtain ⟨rb,hrb⟩:∃ rb,rb=wr.heap.size:=⟨_,rfl⟩
       have G3:Hid (Gb wr W3):=by unfold Hid;rw [hW3];exact gb_alloc (Below.refl _ _) _
       have M3:Hid (MS tReg B T W1 W3):=X.out.1.trans (ms_gb G3.out)
       have MW:Hid (MS tReg B T w W3):=(ms_gb G0.out).trans M3.out
       have L1:Hid (WI W3 B T vl):=w1.ms MW.out
       have L2:Hid (WI W3 B T vu):=w2.ms MW.out
       have L3:Hid (WI W3 B T vi):=w3.ms MW.out
       have RT:Hid (T<=rb):=by unfold Hid;rw [hrb];have:=TOP.out;have:=G0.out.size;have:=X.out.1.mid.size;omega
       have RB:Hid (W3.cell? ⟨rb,1,none⟩=some vl/\W3.cell? ⟨rb,2,none⟩=some vu/\W3.cell? ⟨rb,5,none⟩=some vi):=by
        unfold Hid;rw [hW3,hrb];exact ⟨by simp [go_sem],by simp [go_sem],by simp [go_sem]⟩
       have HC:Hid (W3.heap[rg]? = some (.cells cur' 97 (0,0))/\cur'.size=rcur.size/\(∀ j,p * 6<=j->cur'[j]? = rcur[j]?)/\p * 6 + 5 < cur'.size/\B<=rg/\rg < T/\w.heap[rg]? = some (.cells rcur 97 (0,0))) :=
        ⟨(G3.out.block rg (Array.getElem?_eq_some_iff.1 s3).1).trans s3,s4,s5,size_of_last d5,r1,r2,r3⟩
       obtain ⟨a1,n1,q1,e1,b1',_⟩:=w1
       obtain ⟨a2,n2,q2,e2,b2',_⟩:=w2
       obtain ⟨a3,n3,q3,e3,b3',_⟩:=w3
       subst e1;subst e2;subst e3
       clear r1 r2 r3 r4 s3 s4 s5 d0 d1 d2 d3 d4 d5 X
       go_wp2_with fail
       rw [<- hW3,<- hrb]
       clear hW3 hrb c0 c1 c2 c3 c4 c5 x2
       go_loopw [6] (fun iv W=>∃ y:Nat,iv=.int .i64 (y:Int)/\y<=n1/\Hid (MS tInt B T W3 W)) (fun iv _=>n1 - (intOf iv).toNat)
       case atStart=>exact ⟨0,rfl,Nat.zero_le _,(MS.refl _ _ _ _:MS tInt B T W3 W3)⟩
       case round =>
        obtain ⟨y,rfl,hy,X⟩:=hrel
        obtain ⟨b1,b2,b3⟩:=RB.out
        have b1:=X.out.cell RT.out b1
        clear b2 b3
        by_cases hyn:y < n1
        ·have hyi:(y:Int) < (n1:Int):=by omega
         obtain ⟨g,cur,e,h1,h2,h3,h4⟩:∃ g cur,a1=some ⟨g,0,none⟩/\B<=g/\g < T/\wr.heap[g]? = some (.cells cur 3 (0,0))/\∀ i,i < n1->∃ x:Int,cur[i]? = some (.int .i64 x):=by
          obtain ⟨_,_,_,e,_,h⟩:=L1.out.ms X.out
          cases e
          rcases h with h | h
          ·omega
          ·exact h
         subst e
         obtain ⟨x,k0⟩:=h4 y hyn
         have c0:=cell_of h3 k0
         have f0:=froz_of h3 y
         have hgr:g ≠ rb:=by have:=RT.out;omega
         have XD:Hid (∀ z,MS tInt B T W3 (wr.drew.setCell ⟨g,y,none⟩ (.int .i64 z))):=fun z=>(X.out.trans (ms_gb (Below.refl _ _).drew)).set h1 h2 h3 rfl _ _ (fun _=>⟨_,rfl⟩)
         have b1:wr.drew.cell? ⟨rb,1,none⟩=some (.slice (some ⟨g,0,none⟩) n1 q1):=b1
         have c0:wr.drew.cell? ⟨g,y,none⟩=some (.int .i64 x):=c0
         have f0:wr.drew.frozen? ⟨g,y,none⟩=false:=f0
         clear h3 h4 k0
         go_wp2_with fail
         refine wp_region_held_drew (S:=fun W=>W.cell? ⟨rb,1,none⟩=some (.slice (some ⟨g,0,none⟩) n1 q1)) (by kernel_rfl) (b1) (fun hHeld=>?_)
         refine tkn 0 ?_ rfl ?_ ?_;rotate_left;·(intro w hSw;(try dsimp only at hSw);go_simp;try rfl)
         try simp only [Act.put,List.getElem_toArray,List.getElem_cons_zero,List.setIfInBounds_toArray,List.set_cons_zero,List.set_cons_succ]
         refine tkn 1 ?_ rfl ?_ ?_;rotate_left;·(intro w hSw;(try dsimp only at hSw);go_simp;try rfl)
         try simp only [Act.put,List.getElem_toArray,List.getElem_cons_zero,List.getElem_cons_succ,List.setIfInBounds_toArray,List.set_cons_zero,List.set_cons_succ]
         refine tkn 2 ?_ rfl ?_ ?_;rotate_left;·(intro w hSw;(try dsimp only at hSw);go_simp;try rfl)
         try simp only [Act.put,List.getElem_toArray,List.getElem_cons_zero,List.getElem_cons_succ,List.setIfInBounds_toArray,List.set_cons_zero,List.set_cons_succ]
         refine tkn 3 ?_ rfl ?_ ?_;rotate_left;·(intro w hSw;(try dsimp only at hSw);go_simp;try rfl)
         try simp only [Act.put,List.getElem_toArray,List.getElem_cons_zero,List.getElem_cons_succ,List.setIfInBounds_toArray,List.set_cons_zero,List.set_cons_succ]
         refine tkn 4 ?_ rfl ?_ ?_;rotate_left;·(intro w hSw;(try dsimp only at hSw);go_simp;try rfl)
         try simp only [Act.put,List.getElem_toArray,List.getElem_cons_zero,List.getElem_cons_succ,List.setIfInBounds_toArray,List.set_cons_zero,List.set_cons_succ]
         refine tkn 5 ?_ rfl ?_ ?_;rotate_left;·(intro w hSw;(try dsimp only at hSw);go_simp;try rfl)
         try simp only [Act.put,List.getElem_toArray,List.getElem_cons_zero,List.getElem_cons_succ,List.setIfInBounds_toArray,List.set_cons_zero,List.set_cons_succ]
         refine tkn 6 ?_ rfl ?_ ?_;rotate_left;·(intro w hSw;(try dsimp only at hSw);go_simp;try rfl)
         try simp only [Act.put,List.getElem_toArray,List.getElem_cons_zero,List.getElem_cons_succ,List.setIfInBounds_toArray,List.set_cons_zero,List.set_cons_succ]
         refine rdn 7 rfl (fun K hK=>?_)
         go_simp
         refine hK.out _ _ (hHeld) (fun hHeld=>?_)
         clear hK K
         try simp only [Act.put,List.getElem_toArray,List.getElem_cons_zero,List.getElem_cons_succ,List.setIfInBounds_toArray,List.set_cons_zero,List.set_cons_succ]
         refine tkn 8 ?_ rfl ?_ ?_;rotate_left;·(intro w hSw;(try dsimp only at hSw);go_simp;try rfl)
         try simp only [Act.put,List.getElem_toArray,List.getElem_cons_zero,List.getElem_cons_succ,List.setIfInBounds_toArray,List.set_cons_zero,List.set_cons_succ]
         refine tkn 9 ?_ rfl ?_ ?_;rotate_left;·(intro w hSw;(try dsimp only at hSw);go_simp;try rfl)
         try simp only [Act.put,List.getElem_toArray,List.getElem_cons_zero,List.getElem_cons_succ,List.setIfInBounds_toArray,List.set_cons_zero,List.set_cons_succ]
         refine rdn 10 rfl (fun K hK=>?_)
         go_simp
         refine hK.out _ _ ((World.cell?_setCell_far _ _ _ _ (by dsimp only;omega)).trans hHeld) (fun hHeld=>?_)
         clear hK K
         try simp only [Act.put,List.getElem_toArray,List.getElem_cons_zero,List.getElem_cons_succ,List.setIfInBounds_toArray,List.set_cons_zero,List.set_cons_succ]
         refine wpAnyH_done (by kernel_rfl) ?_ _
         go_wp2
         go_roundw
         case rel=>exact ⟨y + 1,by first | rfl | go_num | simp,hyn,XD.out _⟩
         case measure=>simp [intOf];omega
        ·have hyi:¬ (y:Int) < (n1:Int):=by omega
         have XE6:Hid (MS tInt B T W3 wr):=X
         clear X
         go_wp2
         go_loopw [7] (fun iv W=>∃ y:Nat,iv=.int .i64 (y:Int)/\y<=n2/\Hid (MS tInt B T W3 W)) (fun iv _=>n2 - (intOf iv).toNat)
         case atStart=>exact ⟨0,rfl,Nat.zero_le _,XE6⟩
         case round =>
          obtain ⟨y,rfl,hy,X⟩:=hrel
          obtain ⟨b1,b2,b3⟩:=RB.out
          have b2:=X.out.cell RT.out b2
          clear b1 b3
          by_cases hyn:y < n2
          ·have hyi:(y:Int) < (n2:Int):=by omega
           obtain ⟨g,cur,e,h1,h2,h3,h4⟩:∃ g cur,a2=some ⟨g,0,none⟩/\B<=g/\g < T/\wr.heap[g]? = some (.cells cur 3 (0,0))/\∀ i,i < n2->∃ x:Int,cur[i]? = some (.int .i64 x):=by
            obtain ⟨_,_,_,e,_,h⟩:=L2.out.ms X.out
            cases e
            rcases h with h | h
            ·omega
            ·exact h
           subst e
           obtain ⟨x,k0⟩:=h4 y hyn
           have c0:=cell_of h3 k0
           have f0:=froz_of h3 y
           have hgr:g ≠ rb:=by have:=RT.out;omega
           have XD:Hid (∀ z,MS tInt B T W3 (wr.drew.setCell ⟨g,y,none⟩ (.int .i64 z))):=fun z=>(X.out.trans (ms_gb (Below.refl _ _).drew)).set h1 h2 h3 rfl _ _ (fun _=>⟨_,rfl⟩)
           have b2:wr.drew.cell? ⟨rb,2,none⟩=some (.slice (some ⟨g,0,none⟩) n2 q2):=b2
           have c0:wr.drew.cell? ⟨g,y,none⟩=some (.int .i64 x):=c0
           have f0:wr.drew.frozen? ⟨g,y,none⟩=false:=f0
           clear h3 h4 k0
           go_wp2_with fail
           refine wp_region_held_drew (S:=fun W=>W.cell? ⟨rb,2,none⟩=some (.slice (some ⟨g,0,none⟩) n2 q2)) (by kernel_rfl) (b2) (fun hHeld=>?_)
           refine tkn 0 ?_ rfl ?_ ?_;rotate_left;·(intro w hSw;(try dsimp only at hSw);go_simp;try rfl)
           try simp only [Act.put,List.getElem_toArray,List.getElem_cons_zero,List.setIfInBounds_toArray,List.set_cons_zero,List.set_cons_succ]
           refine tkn 1 ?_ rfl ?_ ?_;rotate_left;·(intro w hSw;(try dsimp only at hSw);go_simp;try rfl)
           try simp only [Act.put,List.getElem_toArray,List.getElem_cons_zero,List.getElem_cons_succ,List.setIfInBounds_toArray,List.set_cons_zero,List.set_cons_succ]
           refine tkn 2 ?_ rfl ?_ ?_;rotate_left;·(intro w hSw;(try dsimp only at hSw);go_simp;try rfl)
           try simp only [Act.put,List.getElem_toArray,List.getElem_cons_zero,List.getElem_cons_succ,List.setIfInBounds_toArray,List.set_cons_zero,List.set_cons_succ]
           refine tkn 3 ?_ rfl ?_ ?_;rotate_left;·(intro w hSw;(try dsimp only at hSw);go_simp;try rfl)
           try simp only [Act.put,List.getElem_toArray,List.getElem_cons_zero,List.getElem_cons_succ,List.setIfInBounds_toArray,List.set_cons_zero,List.set_cons_succ]
           refine tkn 4 ?_ rfl ?_ ?_;rotate_left;·(intro w hSw;(try dsimp only at hSw);go_simp;try rfl)
           try simp only [Act.put,List.getElem_toArray,List.getElem_cons_zero,List.getElem_cons_succ,List.setIfInBounds_toArray,List.set_cons_zero,List.set_cons_succ]
           refine tkn 5 ?_ rfl ?_ ?_;rotate_left;·(intro w hSw;(try dsimp only at hSw);go_simp;try rfl)
           try simp only [Act.put,List.getElem_toArray,List.getElem_cons_zero,List.getElem_cons_succ,List.setIfInBounds_toArray,List.set_cons_zero,List.set_cons_succ]
           refine tkn 6 ?_ rfl ?_ ?_;rotate_left;·(intro w hSw;(try dsimp only at hSw);go_simp;try rfl)
           try simp only [Act.put,List.getElem_toArray,List.getElem_cons_zero,List.getElem_cons_succ,List.setIfInBounds_toArray,List.set_cons_zero,List.set_cons_succ]
           refine rdn 7 rfl (fun K hK=>?_)
           go_simp
           refine hK.out _ _ (hHeld) (fun hHeld=>?_)
           clear hK K
           try simp only [Act.put,List.getElem_toArray,List.getElem_cons_zero,List.getElem_cons_succ,List.setIfInBounds_toArray,List.set_cons_zero,List.set_cons_succ]
           refine tkn 8 ?_ rfl ?_ ?_;rotate_left;·(intro w hSw;(try dsimp only at hSw);go_simp;try rfl)
           try simp only [Act.put,List.getElem_toArray,List.getElem_cons_zero,List.getElem_cons_succ,List.setIfInBounds_toArray,List.set_cons_zero,List.set_cons_succ]
           refine tkn 9 ?_ rfl ?_ ?_;rotate_left;·(intro w hSw;(try dsimp only at hSw);go_simp;try rfl)
           try simp only [Act.put,List.getElem_toArray,List.getElem_cons_zero,List.getElem_cons_succ,List.setIfInBounds_toArray,List.set_cons_zero,List.set_cons_succ]
           refine rdn 10 rfl (fun K hK=>?_)
           go_simp
           refine hK.out _ _ ((World.cell?_setCell_far _ _ _ _ (by dsimp only;omega)).trans hHeld) (fun hHeld=>?_)
           clear hK K
           try simp only [Act.put,List.getElem_toArray,List.getElem_cons_zero,List.getElem_cons_succ,List.setIfInBounds_toArray,List.set_cons_zero,List.set_cons_succ]
           refine wpAnyH_done (by kernel_rfl) ?_ _
           go_wp2
           go_roundw
           case rel=>exact ⟨y + 1,by first | rfl | go_num | simp,hyn,XD.out _⟩
           case measure=>simp [intOf];omega
          ·have hyi:¬ (y:Int) < (n2:Int):=by omega
           have XE7:Hid (MS tInt B T W3 wr):=X
           clear X
           go_wp2
           go_loopw [8] (fun iv W=>∃ y:Nat,iv=.int .i64 (y:Int)/\y<=n3/\Hid (MS tInt B T W3 W)) (fun iv _=>n3 - (intOf iv).toNat)
           case atStart=>exact ⟨0,rfl,Nat.zero_le _,XE7⟩
           case round =>
            obtain ⟨y,rfl,hy,X⟩:=hrel
            obtain ⟨b1,b2,b3⟩:=RB.out
            have b3:=X.out.cell RT.out b3
            clear b1 b2
            by_cases hyn:y < n3
            ·have hyi:(y:Int) < (n3:Int):=by omega
             obtain ⟨g,cur,e,h1,h2,h3,h4⟩:∃ g cur,a3=some ⟨g,0,none⟩/\B<=g/\g < T/\wr.heap[g]? = some (.cells cur 3 (0,0))/\∀ i,i < n3->∃ x:Int,cur[i]? = some (.int .i64 x):=by
              obtain ⟨_,_,_,e,_,h⟩:=L3.out.ms X.out
              cases e
              rcases h with h | h
              ·omega
              ·exact h
             subst e
             obtain ⟨x,k0⟩:=h4 y hyn
             have c0:=cell_of h3 k0
             have f0:=froz_of h3 y
             have hgr:g ≠ rb:=by have:=RT.out;omega
             have XN:Hid (MS tInt B T W3 (wr.setCell ⟨g,y,none⟩ (.int .i64 (-1)))):=X.out.set h1 h2 h3 rfl _ _ (fun _=>⟨_,rfl⟩)
             clear h3 h4 k0
             go_wp2
             go_roundw
             case rel=>exact ⟨y + 1,by first | rfl | go_num | simp,hyn,XN⟩
             case measure=>simp [intOf];omega
            ·have hyi:¬ (y:Int) < (n3:Int):=by omega
             have XE8:Hid (MS tInt B T W3 wr):=X
             clear X
             obtain ⟨x0,x1,x2⟩:=BX.out
             have MF:Hid (MS tReg B T W1 wr):=M3.out.trans (XE8.out.mono (fun t h=>.inl h))
             have x2:=MF.out.cell TOP.out x2
             have h3:wr.heap[rg]? = some (.cells cur' 97 (0,0)):=(XE8.out.shp.keep rg _ _ _ HC.out.1 (by simp)).trans HC.out.1
             obtain ⟨hc1,hc2,hc3,hc4,hc5,hc6,hc7⟩:=HC.out
             obtain ⟨v0,k0⟩:=some_of (cur:=cur') (o:=p * 6) (by omega)
             obtain ⟨v1,k1⟩:=some_of (cur:=cur') (o:=p * 6 + 1) (by omega)
             obtain ⟨v2,k2⟩:=some_of (cur:=cur') (o:=p * 6 + 2) (by omega)
             obtain ⟨v3,k3⟩:=some_of (cur:=cur') (o:=p * 6 + 3) (by omega)
             obtain ⟨v4,k4⟩:=some_of (cur:=cur') (o:=p * 6 + 4) (by omega)
             obtain ⟨v5,k5⟩:=some_of (cur:=cur') (o:=p * 6 + 5) (by omega)
             have c0:=cell_of h3 k0
             have c1:=cell_of h3 k1
             have c2:=cell_of h3 k2
             have c3:=cell_of h3 k3
             have c4:=cell_of h3 k4
             have c5:=cell_of h3 k5
             have f0:=froz_of h3 (p * 6)
             have f1:=froz_of h3 (p * 6 + 1)
             have f2:=froz_of h3 (p * 6 + 2)
             have f3:=froz_of h3 (p * 6 + 3)
             have f4:=froz_of h3 (p * 6 + 4)
             have f5:=froz_of h3 (p * 6 + 5)
             have XN:Hid (∀ u0 u1 u2 u3 u4 u5:Value,MS tReg B T W1 ((((((wr.setCell ⟨rg,p * 6,none⟩ u0).setCell ⟨rg,p * 6 + 1,none⟩ u1).setCell ⟨rg,p * 6 + 2,none⟩ u2).setCell ⟨rg,p * 6 + 3,none⟩ u3).setCell ⟨rg,p * 6 + 4,none⟩ u4).setCell ⟨rg,p * 6 + 5,none⟩ u5)/\(∀ g cur,(some ⟨rg,0,none⟩:Option Addr)=some ⟨g,0,none⟩->w.heap[g]? = some (.cells cur 97 (0,0))->∃ cur',((((((wr.setCell ⟨rg,p * 6,none⟩ u0).setCell ⟨rg,p * 6 + 1,none⟩ u1).setCell ⟨rg,p * 6 + 2,none⟩ u2).setCell ⟨rg,p * 6 + 3,none⟩ u3).setCell ⟨rg,p * 6 + 4,none⟩ u4).setCell ⟨rg,p * 6 + 5,none⟩ u5).heap[g]? = some (.cells cur' 97 (0,0))/\cur'.size=cur.size/\∀ j,(p + 1) * 6<=j->cur'[j]? = cur[j]?)):=fun u0 u1 u2 u3 u4 u5=>by
              have e0:=heap_set (o:=p * 6) (x:=u0) h3
              have e1:=heap_set (o:=p * 6 + 1) (x:=u1) e0
              have e2:=heap_set (o:=p * 6 + 2) (x:=u2) e1
              have e3:=heap_set (o:=p * 6 + 3) (x:=u3) e2
              have e4:=heap_set (o:=p * 6 + 4) (x:=u4) e3
              have e5:=heap_set (o:=p * 6 + 5) (x:=u5) e4
              have nt:∀ x:Value,(97:TypeId)=3->∃ y:Int,x=.int .i64 y:=fun _ e=>by simp at e
              refine ⟨(((((MF.out.set hc5 hc6 h3 (.inr (.inl rfl)) _ _ (nt _)).set hc5 hc6 e0 (.inr (.inl rfl)) _ _ (nt _)).set hc5 hc6 e1 (.inr (.inl rfl)) _ _ (nt _)).set hc5 hc6 e2 (.inr (.inl rfl)) _ _ (nt _)).set hc5 hc6 e3 (.inr (.inl rfl)) _ _ (nt _)).set hc5 hc6 e4 (.inr (.inl rfl)) _ _ (nt _),fun g cur e hg=>?_⟩
              cases e
              rw [hc7] at hg
              cases hg
              refine ⟨_,e5,by simpa using hc2,fun j hj=>?_⟩
              rw [Array.getElem?_setIfInBounds_ne (by omega),Array.getElem?_setIfInBounds_ne (by omega),Array.getElem?_setIfInBounds_ne (by omega),Array.getElem?_setIfInBounds_ne (by omega),Array.getElem?_setIfInBounds_ne (by omega),Array.getElem?_setIfInBounds_ne (by omega)]
              exact hc3 j (by omega)
             clear x0 x1 h3 k0 k1 k2 k3 k4 k5 hc1 hc2 hc3 hc4 hc5 hc6 hc7 MF
             go_wp2
             go_roundw
             case rel=>exact ⟨p + 1,by first | rfl | go_num | simp,hpn,XN.out _ _ _ _ _ _⟩
             case measure=>simp [intOf];omega
      ·have hpi:¬ (p:Int) < (nr:Int):=by omega
       have G:Hid (Mid B T w wr):=(mid_gb G0.out).trans X.out.1.mid
       go_wp2
       go_end0
       exact ⟨rfl,G.out⟩
end Go.Proofs.YtgbgejflmbhigaaGreat

namespace Go.Proofs.YtgbgejflmbhigaaGreat
open Go.RowKit Go.Sort
set_option maxRecDepth 100000
set_option maxHeartbeats 1000000
theorem robeys_c {w:World} {v u vh vs vr:Value} {rs srs:List Rw} {q:List Int} {k b:Nat} {a:Ans} (hv:RdW w v rs) (hu:RdI w u q) (ha:RdA w vh vs vr a) (hask:askE rs q=0) (hk:k<=64) (h:SoundP rs q k a srs) (hb:a.seen.length<=b)
  (h3:a.seen.length=b ∨ a.seen.length=rs.length ∨ ∀ W,Gb w W->Calls Tryz.prog 85 #[u,.int .i64 (k:Int),.agg #[vh,vs,vr]] W fun e w'=>e=.returned (.bool true)/\Gb W w') :
  Calls Tryz.prog 50 #[v,u,.int .i64 (k:Int),.int .i64 (b:Int),.agg #[vh,vs,vr]] w fun e w'=>e=.returned (.bool true)/\Gb w w':=by
 obtain ⟨W1,hW1⟩:∃ W1,W1=w.alloc (.cells #[vh,vs,vr] 51):=⟨_,rfl⟩
 have G0:Hid (Gb w W1):=by unfold Hid;rw [hW1];exact gb_alloc (Below.refl _ _) _
 have cs:=rsound_c (hv.gb G0.out) (hu.gb G0.out) (ha.gb G0.out) hask hk h
 have BX:Hid (W1.cell? ⟨w.heap.size,0,none⟩=some vh/\W1.cell? ⟨w.heap.size,1,none⟩=some vs/\W1.cell? ⟨w.heap.size,2,none⟩=some vr):=by
  unfold Hid;rw [hW1];exact ⟨by simp [go_sem],by simp [go_sem],by simp [go_sem]⟩
 obtain ⟨av,cv,rfl,_⟩:=hv
 obtain ⟨au,cu,rfl,_⟩:=hu
 obtain ⟨ah,ch,evh,_⟩:=ha.hits.form
 obtain ⟨sa,sc,evs,_⟩:=ha.seen
 obtain ⟨ar,cr,evr,zr⟩:=ha.rest
 subst evh;subst evs;subst evr
 clear ha h hask zr
 generalize rs.length=n at *
 generalize q.length=m at *
 generalize a.hits.length=nh at *
 generalize a.seen.length=ns at *
 generalize a.rest.length=nr at *
 have hbi:¬ (b:Int) < (ns:Int):=by omega
 go_enter Tryz.func50,Tryz.ntmps50
 go_wp2_with fail
 rw [<- hW1]
 clear hW1
 obtain ⟨x0,x1,x2⟩:=BX.out
 go_wp2_with fail
 refine cs.mono ?_
 rintro e w2 ⟨rfl,g2⟩
 have G2:Hid (Gb W1 w2):=g2
 have GW:Hid (Gb w w2):=gb_trans G0.out g2
 clear cs x0 x1 x2 g2
 obtain ⟨x0,x1,x2⟩:=BX.out
 have x0:=gb_keeps G2.out x0
 have x1:=gb_keeps G2.out x1
 have x2:=gb_keeps G2.out x2
 by_cases e1:ns=b
 ·subst e1
  clear h3
  go_wp2
  go_ret
  exact ⟨rfl,GW.out⟩
 ·have e1':((ns:Int) == (b:Int))=false:=by rw [beq_eq_false_iff_ne];omega
  have e1'':¬ (ns:Int)=(b:Int):=by omega
  by_cases e2:ns=n
  ·subst e2
   clear h3
   go_wp2
   go_ret
   exact ⟨rfl,GW.out⟩
  ·have e2':((ns:Int) == (n:Int))=false:=by rw [beq_eq_false_iff_ne];omega
   have e2'':¬ (ns:Int)=(n:Int):=by omega
   have cc:∀ W,Gb w W->Calls Tryz.prog 85 #[.slice au m cu,.int .i64 (k:Int),.agg #[.slice ah nh ch,.slice sa ns sc,.slice ar nr cr]] W fun e w'=>e=.returned (.bool true)/\Gb W w':=by
    rcases h3 with h | h | h
    ·exact absurd h e1
    ·exact absurd h e2
    ·exact h
   have cc2:=cc _ GW.out
   clear h3 cc e1 e2
   go_wp2_with fail
   refine cc2.mono ?_
   rintro e w3 ⟨rfl,g3⟩
   go_wp2
   go_ret
   exact ⟨rfl,gb_trans GW.out g3⟩
def fsrchE (q:List Int) (d k b:Int):Int:=if chk q d=0 then (if 1<=k/\k<=64/\0<=b/\b<=1000000 then 0 else 1) else chk q d
theorem rsearched_c {w:World} {u:Value} {q:List Int} (hu:RdI w u q) (d k b:Int) :
  Calls Tryz.prog 48 #[u,.int .i64 d,.int .i64 k,.int .i64 b] w fun e w'=>e=.returned (.int .i64 (fsrchE q d k b))/\w=w':=by
 have cc:=rcheck_c hu d
 obtain ⟨au,cu,rfl,_⟩:=hu
 generalize q.length=m at *
 unfold fsrchE
 by_cases hz:chk q d=0
 ·rw [hz] at cc ⊢
  by_cases h1:k < 1
  ·have E:Hid ((if (0:Int)=0 then (if 1<=k/\k<=64/\0<=b/\b<=1000000 then (0:Int) else 1) else 0)=1):=by unfold Hid;rw [if_pos rfl,if_neg (by omega)]
   rw [E.out]
   go_enter Tryz.func48,Tryz.ntmps48
   go_wp2_with fail
   refine cc.mono ?_
   rintro e w1 ⟨rfl,rfl⟩
   go_wp2
   go_ret
   exact ⟨rfl,rfl⟩
  ·by_cases h2:64 < k
   ·have E:Hid ((if (0:Int)=0 then (if 1<=k/\k<=64/\0<=b/\b<=1000000 then (0:Int) else 1) else 0)=1):=by unfold Hid;rw [if_pos rfl,if_neg (by omega)]
    rw [E.out]
    go_enter Tryz.func48,Tryz.ntmps48
    go_wp2_with fail
    refine cc.mono ?_
    rintro e w1 ⟨rfl,rfl⟩
    go_wp2
    go_ret
    exact ⟨rfl,rfl⟩
   ·by_cases h3:b < 0
    ·have E:Hid ((if (0:Int)=0 then (if 1<=k/\k<=64/\0<=b/\b<=1000000 then (0:Int) else 1) else 0)=1):=by unfold Hid;rw [if_pos rfl,if_neg (by omega)]
     rw [E.out]
     go_enter Tryz.func48,Tryz.ntmps48
     go_wp2_with fail
     refine cc.mono ?_
     rintro e w1 ⟨rfl,rfl⟩
     go_wp2
     go_ret
     exact ⟨rfl,rfl⟩
    ·by_cases h4:1000000 < b
     ·have E:Hid ((if (0:Int)=0 then (if 1<=k/\k<=64/\0<=b/\b<=1000000 then (0:Int) else 1) else 0)=1):=by unfold Hid;rw [if_pos rfl,if_neg (by omega)]
      rw [E.out]
      go_enter Tryz.func48,Tryz.ntmps48
      go_wp2_with fail
      refine cc.mono ?_
      rintro e w1 ⟨rfl,rfl⟩
      go_wp2
      go_ret
      exact ⟨rfl,rfl⟩
     ·have E:Hid ((if (0:Int)=0 then (if 1<=k/\k<=64/\0<=b/\b<=1000000 then (0:Int) else 1) else 0)=0):=by unfold Hid;rw [if_pos rfl,if_pos (by omega)]
      rw [E.out]
      go_enter Tryz.func48,Tryz.ntmps48
      go_wp2_with fail
      refine cc.mono ?_
      rintro e w1 ⟨rfl,rfl⟩
      go_wp2
      go_ret
      exact ⟨rfl,rfl⟩
 ·rw [if_neg hz]
  have hz':(chk q d == 0)=false:=by rw [beq_eq_false_iff_ne];exact hz
  generalize chk q d=z at *
  go_enter Tryz.func48,Tryz.ntmps48
  go_wp2_with fail
  refine cc.mono ?_
  rintro e w1 ⟨rfl,rfl⟩
  go_wp2
  go_ret
  exact ⟨rfl,rfl⟩
end Go.Proofs.YtgbgejflmbhigaaGreat

namespace Go.Proofs.YtgbgejflmbhigaaGreat
open Go.RowKit Go.Sort
set_option maxRecDepth 100000
set_option maxHeartbeats 1000000
def coords (rs:List Rw):Nat:=(rs.map fun r=>r.2.length).sum
theorem coords_snoc {rs:List Rw} {q:Nat} (hq:q < rs.length):coords (rs.take (q + 1))=coords (rs.take q) + rs[q]!.2.length:=by
 unfold coords
 rw [List.take_succ_eq_append_getElem hq,List.map_append,List.sum_append,getElem!_pos rs q hq]
 simp
theorem coords_le {rs:List Rw} (q:Nat):coords (rs.take q)<=coords rs:=by
 have h:coords rs=coords (rs.take q) + coords (rs.drop q):=by
  unfold coords
  rw [<- List.sum_append,<- List.map_append,List.take_append_drop]
 omega
theorem coords_row {rs:List Rw} {i:Nat} (hi:i < rs.length):rs[i]!.2.length<=coords rs:=by
 have h1:=coords_snoc hi
 have h2:=coords_le (rs:=rs) (i + 1)
 omega
theorem vects_b {w:World} {v:Value} {rs:List Rw} (h:RdW w v rs) (most:Nat) (hlen:rs.length<=4611686018427387904) (hmost:most<=4611686018427387903) (hrow:∀ i,i < rs.length->rs[i]!.2.length<=4611686018427387904) :
  Calls Tryz.prog 11 #[v,.int .i64 (most:Int)] w fun e w'=>(∃ z:Int,e=.returned (.int .i64 z)/\(z<=(most:Int)->rs.length + coords rs<=most))/\w=w':=by
 obtain ⟨a,cap,rfl,ha⟩:=h
 have A:Hid (∀ i,i < rs.length->∃ b o u,a=some ⟨b,o,none⟩/\w.cell? ⟨b,o + i * 2,none⟩=some (.int .i64 rs[i]!.1)/\w.cell? ⟨b,o + i * 2 + 1,none⟩=some u/\RdI w u rs[i]!.2):=ha
 obtain ⟨n,hN⟩:∃ n,n=rs.length:=⟨_,rfl⟩
 have N:Hid (n=rs.length):=hN
 have HS:Hid (∀ i,i < rs.length->rs[i]!.2.length<=4611686018427387904):=hrow
 rw [<- hN] at hlen ⊢
 clear ha hN hrow
 go_enter Tryz.func11,Tryz.ntmps11
 go_wp2
 go_loopw [5,6] (fun zv iv w'=>∃ (q z:Nat),zv=.int .i64 (z:Int)/\iv=.int .i64 (q:Int)/\q<=n/\Hid (z=n + coords (rs.take q))/\w=w') (fun _ iv _=>n - (intOf iv).toNat)
 case atStart=>exact ⟨0,n,rfl,rfl,Nat.zero_le _,by unfold Hid;simp [coords],rfl⟩
 case round =>
  obtain ⟨q,z,rfl,rfl,hq,Z,rfl⟩:=hrel
  by_cases hqn:q < n
  ·have hqi:(q:Int) < (n:Int):=by omega
   by_cases hz:(z:Int)<=(most:Int)
   ·have hql:q < rs.length:=by have:=N.out;omega
    obtain ⟨b,o,u,ea,hc,hd,hr⟩:=A.out q hql
    obtain ⟨pu,cu,eu,_⟩:=hr
    subst ea;subst eu
    have hs:=coords_snoc hql
    have hZ:=Z.out
    have hS:=HS.out q hql
    generalize rs[q]!.2.length=k at *
    generalize rs[q]!.1=x at *
    obtain ⟨y,hy⟩:∃ y:Nat,y=z + k:=⟨_,rfl⟩
    have Y:Hid (y=n + coords (rs.take (q + 1))):=by unfold Hid;omega
    have hyb:y<=9223372036854775807:=by omega
    have hyi:(z:Int) + (k:Int)=(y:Int):=by omega
    clear hql hs hZ hS hy Z
    go_wp2
    go_roundw
    case rel=>exact ⟨q + 1,y,by first | rfl | go_num,by simp,hqn,Y,by first | rfl | trivial⟩
    case measure=>simp [intOf];omega
   ·go_wp2
    go_ret
    exact ⟨⟨_,rfl,fun h=>by omega⟩,by first | rfl | trivial⟩
  ·have hqi:¬ (q:Int) < (n:Int):=by omega
   have hZ:=Z.out
   rw [List.take_of_length_le (by have:=N.out;omega)] at hZ
   have F:Hid ((z:Int)<=(most:Int)->n + coords rs<=most):=fun h=>by omega
   clear Z hZ
   go_wp2
   go_ret
   exact ⟨⟨_,rfl,F.out⟩,by first | rfl | trivial⟩
end Go.Proofs.YtgbgejflmbhigaaGreat
