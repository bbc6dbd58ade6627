import Derived.Test.YtcipdampcmfmaabGreatJa23
import Derived.Test.YtcipdampcmfmaabGreatJa20
import Derived.Test.YtcipdampcmfmaabGreatJa18
import Derived.BigQuiet
import Derived.Test.YtcipdampcmfmaabGreatJa17
import Derived.Test.YtcipdampcmfmaabGreatJa0
import Derived.Test.YtcipdampcmfmaabGreatJa4
import Derived.Test.YtcipdampcmfmaabGreatJa19
import Derived.Test.YtcipdampcmfmaabGreatJa1
namespace Go.Proofs.YtcipdampcmfmaabGreat
open Go.RowKit Go.Sort Go.Maps
end Go.Proofs.YtcipdampcmfmaabGreat

namespace Go.Proofs.YtcipdampcmfmaabGreat
open Go.RowKit Go.Sort Go.Maps
end Go.Proofs.YtcipdampcmfmaabGreat

namespace Go.Proofs.YtcipdampcmfmaabGreat
open Go.RowKit Go.Sort Go.Maps
end Go.Proofs.YtcipdampcmfmaabGreat

namespace Go.Proofs.YtcipdampcmfmaabGreat
open Go.RowKit Go.Sort Go.Maps
end Go.Proofs.YtcipdampcmfmaabGreat

namespace Go.Proofs.YtcipdampcmfmaabGreat
open Go.RowKit Go.Sort Go.Maps
theorem wrapN {n:Nat} (h:n < 9223372036854775808):IntKind.i64.wrap (n:Int)=(n:Int):=by
 unfold IntKind.wrap IntKind.signed IntKind.bits
 simp
 omega
theorem ids_nd {rs:List Rw} {q:List Int} (h:askE rs q=0) {i j:Nat} (hi':i < rs.length) (hj:j < rs.length) (e:rs[i]!.1=rs[j]!.1):rs[i]! = rs[j]! := by
 have hp:=(askE_zero.1 h).2.ids
 rw [List.pairwise_iff_getElem] at hp
 by_cases hij:i=j
 ·rw [hij]
 ·exfalso
  have hi2:i < (idsOf rs).length:=by simpa [idsOf] using hi'
  have hj2:j < (idsOf rs).length:=by simpa [idsOf] using hj
  rcases Nat.lt_or_gt_of_ne hij with hlt | hlt
  ·exact hp i j hi2 hj2 hlt (by rw [ids_get hi',ids_get hj];exact e)
  ·exact hp j i hj2 hi2 hlt (by rw [ids_get hi',ids_get hj];exact e.symm)
theorem SoundP.ask {rs srs:List Rw} {q:List Int} {k:Nat} {a:Ans} (h:SoundP rs q k a srs) (hask:askE rs q=0):askE srs q=0:=by
 obtain ⟨h1,h2⟩:=askE_zero.1 hask
 have hl:a.seen.length<=rs.length:=by
  have:=h.all.length_eq
  unfold allIds at this
  rw [List.length_append] at this
  simp only [idsOf,List.length_map] at this
  omega
 have hsl:srs.length=a.seen.length:=by rw [<- h.ids];simp [idsOf]
 refine askE_zero.2 ⟨h1,⟨by have:=h2.few;omega,?_,fun r hr=>h2.row r (h.mem r hr)⟩⟩
 rw [h.ids]
 have hp:(allIds a).Pairwise (· ≠ ·):=(List.Perm.pairwise_iff (fun e=>Ne.symm e) h.all).2 h2.ids
 unfold allIds at hp
 exact (List.pairwise_append.1 hp).1
end Go.Proofs.YtcipdampcmfmaabGreat

namespace Go.Proofs.YtcipdampcmfmaabGreat
open Go.RowKit Go.Sort
set_option maxRecDepth 100000
set_option maxHeartbeats 2000000
theorem cless_v (a b:Nat) (ha:a < 340282366920938463463374607431768211456) (hb:b < 340282366920938463463374607431768211456) (r:Bool) (h:decide (a < b)=r) (w:World) :
  Calls Tryz.prog 12 #[Wd a,Wd b] w fun e w'=>e=.returned (.bool r)/\Gr w w':=by
 subst h;exact less_any a b ha hb w
theorem cballV_lt {a R:Nat} (ha:a < 340282366920938463463374607431768211456):ballV a R < 340282366920938463463374607431768211456:=by
 unfold ballV;split
 ·omega
 ·have h1:rt a - rup R<=rt a:=Nat.sub_le _ _
  have:=Nat.mul_le_mul h1 h1
  have:=(rt_is a).1;omega
theorem bdV_lt {r:Reg} {q:List Int} (h:ckB r q=0):bdV r q < 340282366920938463463374607431768211456:=by
 unfold bdV;split
 ·rename_i s
  obtain ⟨k1,k2,k3,k4,k5,k6,k7⟩:=box_ok h s
  exact bx_lt k4 k5 k6 k1 k2 k3
 ·split
  ·rename_i s
   obtain ⟨k1,k2,k3,k4⟩:=ball_ok h s
   exact cballV_lt (dst_lt k3 k4 k1 k2)
  ·omega
def dnH (x:Tk.Ht):Nat:=(x.2.1 * 18446744073709551616 + x.2.2).toNat
def certB (q:List Int) (k:Nat) (a:Ans):Bool:=a.rest.isEmpty || (decide (k<=a.hits.length) && a.rest.all fun r=>decide (dnH a.hits[k - 1]! < bdV r q))
theorem all_take {p:Nat} {l:List Reg} {f:Reg->Bool} (hp:p < l.length) (h:(l.take p).all f=true) (hx:f l[p]=true):(l.take (p + 1)).all f=true:=by
 rw [List.take_succ_eq_append_getElem hp,List.all_append,h]
 simpa using hx
theorem all_no {l:List Reg} {f:Reg->Bool} {x:Reg} (hx:x ∈ l) (h:f x=false):l.all f=false:=by
 rw [List.all_eq_false]
 exact ⟨x,hx,by rw [h];decide⟩
theorem rcertain_c {w:World} {u vh vs vr:Value} {q:List Int} {k:Nat} {a:Ans} (hu:RdI w u q) (ha:RdA w vh vs vr a) (hk:1<=k/\k<=64) (hn:a.rest.length<=4611686018427387904) (_hh:a.hits.length<=4611686018427387904)
  (hq:∀ r ∈ a.rest,ckB r q=0/\r.R < 340282366920938463463374607431768211456) (hd:∀ x ∈ a.hits,dnH x < 340282366920938463463374607431768211456/\x.2.1=hi (dnH x)/\x.2.2=lo (dnH x)) :
  Calls Tryz.prog 21 #[u,.int .i64 (k:Int),.agg #[vh,vs,vr]] w fun e w'=>e=.returned (.bool (certB q k a))/\Gb w w':=by
 obtain ⟨W1,hW1⟩:∃ W1,W1=w.alloc (.cells #[vh,vs,vr] 51):=⟨_,rfl⟩
 have G0:Hid (Gb w W1):=by unfold Hid;rw [hW1];exact gb_alloc (Below.refl _ _) _
 have BX:Hid (W1.cell? ⟨w.heap.size,0,none⟩=some vh/\W1.cell? ⟨w.heap.size,2,none⟩=some vr):=by
  unfold Hid;rw [hW1];exact ⟨by simp [go_sem],by simp [go_sem]⟩
 have A:Hid (RdA w vh vs vr a):=ha
 have U:Hid (RdI w u q):=hu
 have HQ:Hid (∀ r ∈ a.rest,ckB r q=0/\r.R < 340282366920938463463374607431768211456):=hq
 have HD:Hid (∀ x ∈ a.hits,dnH x < 340282366920938463463374607431768211456/\x.2.1=hi (dnH x)/\x.2.2=lo (dnH x)):=hd
 obtain ⟨au,cu,rfl,_⟩:=hu
 obtain ⟨ah,ch,evh,hlies⟩:=ha.hits.form
 obtain ⟨sa,sc,evs,_⟩:=ha.seen
 obtain ⟨ar,cr,evr,_⟩:=ha.rest
 have HL:Hid (∀ i,i < a.hits.length->∃ b o,ah=some ⟨b,o,none⟩/\Tk.Lies w b o a.hits):=hlies
 subst evh;subst evs;subst evr
 clear ha hq hd hlies
 obtain ⟨nh,hnh⟩:∃ nh,nh=a.hits.length:=⟨_,rfl⟩
 obtain ⟨ns,hns⟩:∃ ns,ns=a.seen.length:=⟨_,rfl⟩
 obtain ⟨nr,hnr⟩:∃ nr,nr=a.rest.length:=⟨_,rfl⟩
 obtain ⟨m,hm⟩:∃ m,m=q.length:=⟨_,rfl⟩
 have NH:Hid (nh=a.hits.length):=hnh
 have NR:Hid (nr=a.rest.length):=hnr
 simp only [<- hnh,<- hns,<- hnr] at A BX hW1 ⊢
 rw [<- hnr] at hn
 rw [<- hm] at U ⊢
 clear hnh hns hnr hm
 by_cases hz:nr=0
 ·have R:Hid (certB q k a=true):=by
   have:a.rest=[]:=List.length_eq_zero_iff.1 (by have:=NR.out;omega)
   unfold Hid certB;rw [this];rfl
  subst hz
  have G00:Hid (Gb w (w.alloc (.cells #[.slice ah nh ch,.slice sa ns sc,.slice ar 0 cr] 51))):=gb_alloc (Below.refl _ _) _
  go_enter Tryz.func21,Tryz.ntmps21
  go_wp2
  go_ret
  exact ⟨by rw [R.out];rfl,G00.out⟩
 have NE:Hid (a.rest.isEmpty=false):=by
  unfold Hid
  cases he:a.rest with
  | nil=>rw [he] at NR;exact absurd NR.out hz
  | cons x y=>rfl
 have hzb:((nr:Int) == 0)=false:=by rw [beq_eq_false_iff_ne];omega
 clear hz
 by_cases hlk:nh < k
 ·have hlki:(nh:Int) < (k:Int):=by omega
  have R:Hid (certB q k a=false):=by
   unfold Hid certB;rw [NE.out,decide_eq_false (by have:=NH.out;omega)];rfl
  have G00:Hid (Gb w (w.alloc (.cells #[.slice ah nh ch,.slice sa ns sc,.slice ar nr cr] 51))):=gb_alloc (Below.refl _ _) _
  go_enter Tryz.func21,Tryz.ntmps21
  go_wp2
  go_ret
  exact ⟨by rw [R.out];rfl,G00.out⟩
 have hlki:¬ (nh:Int) < (k:Int):=by omega
 have CB:Hid (certB q k a=a.rest.all fun r=>decide (dnH a.hits[k - 1]! < bdV r q)):=by
  unfold Hid certB;rw [NE.out,decide_eq_true (by have:=NH.out;omega)];rfl
 go_enter Tryz.func21,Tryz.ntmps21
 go_wp2
 rw [<- hW1]
 clear hW1 NE hzb
 go_loopw [7] (fun iv W=>∃ p:Nat,iv=.int .i64 (p:Int)/\p<=nr/\Hid (Gb W1 W/\(a.rest.take p).all (fun r=>decide (dnH a.hits[k - 1]! < bdV r q))=true)) (fun iv _=>nr - (intOf iv).toNat)
 case atStart=>exact ⟨0,rfl,Nat.zero_le _,Below.refl _ _,by simp⟩
 case round =>
  obtain ⟨p,rfl,hp,X⟩:=hrel
  obtain ⟨x0,x2⟩:=BX.out
  have x0:=gb_keeps X.out.1 x0
  have x2:=gb_keeps X.out.1 x2
  by_cases hpn:p < nr
  ·have hpi:(p:Int) < (nr:Int):=by omega
   have hpl:p < a.rest.length:=by have:=NR.out;omega
   have GX:Hid (Gb w wr):=gb_trans G0.out X.out.1
   obtain ⟨_,_,ea,hA⟩:=A.out.rest
   obtain ⟨b1,o1,x1,x2',x3,e1,a0,a1,a2,a3,a4,a5,r1,r2,r3⟩:=hA p hpl
   injection ea with ea1 ea2 ea3
   subst ea1;subst e1
   have fq:=HQ.out _ (List.getElem_mem hpl)
   have cn:=fun W (g:Gb w W)=>rnear_c (r:=a.rest[p]) ⟨x1,x2',x3,rfl,r1.gb g,r2.gb g,r3.gb g⟩ (U.out.gb g) fq.1 fq.2
   obtain ⟨k1,hk1⟩:∃ k1,k1=k - 1:=⟨_,rfl⟩
   have hkl:k1 < a.hits.length:=by have:=NH.out;omega
   obtain ⟨b2,o2,e2,hl⟩:=HL.out k1 hkl
   subst e2
   obtain ⟨_,k1',k2'⟩:=hl k1 hkl
   have fd:=HD.out a.hits[k1]! (by rw [getElem!_pos a.hits k1 hkl];exact List.getElem_mem hkl)
   obtain ⟨D,hDe⟩:∃ D,D=dnH a.hits[k1]! := ⟨_,rfl⟩
   obtain ⟨E,hEe⟩:∃ E,E=bdV a.rest[p] q:=⟨_,rfl⟩
   have f1:a.hits[k1]!.hi=hi D:=by rw [hDe];exact fd.2.1
   have f2:a.hits[k1]!.lo=lo D:=by rw [hDe];exact fd.2.2
   rw [f1] at k1'
   rw [f2] at k2'
   clear f1 f2
   have hD:D < 340282366920938463463374607431768211456:=by rw [hDe];exact fd.1
   have hE:E < 340282366920938463463374607431768211456:=by
    rw [hEe]
    exact bdV_lt fq.1
   rw [<- hEe] at cn
   have RY:Hid (D < E->(a.rest.take (p + 1)).all (fun r=>decide (dnH a.hits[k - 1]! < bdV r q))=true):=fun h=>all_take hpl X.out.2 (by rw [<- hk1,<- hDe,<- hEe];exact decide_eq_true h)
   have RN:Hid (¬ D < E->certB q k a=false):=fun h=>by
    rw [CB.out]
    exact all_no (List.getElem_mem hpl) (by rw [<- hk1,<- hDe,<- hEe];exact decide_eq_false h)
   have a0:=gb_keeps GX.out a0
   have a1:=gb_keeps GX.out a1
   have a2:=gb_keeps GX.out a2
   have a3:=gb_keeps GX.out a3
   have a4:=gb_keeps GX.out a4
   have a5:=gb_keeps GX.out a5
   have K1:=gb_keeps GX.out k1'
   have K2:=gb_keeps GX.out k2'
   obtain ⟨u1,u2,e,z0⟩:=r1;subst e
   obtain ⟨u3,u4,e,z1⟩:=r2;subst e
   obtain ⟨u5,u6,e,z2⟩:=r3;subst e
   dsimp only [rv] at cn
   generalize Value.slice u1 _ u2=x1 at *
   generalize Value.slice u3 _ u4=x2' at *
   generalize Value.slice u5 _ u6=x3 at *
   generalize a.rest[p].S=S at *
   generalize hi a.rest[p].R=R1 at *
   generalize lo a.rest[p].R=R2 at *
   have hki:(k:Int) - 1=(k1:Int):=by omega
   have hkw:IntKind.i64.wrap (k1:Int)=(k1:Int):=wrapN (by omega)
   have hkn:(k1:Int) < (nh:Int):=by omega
   have hk0:(0:Int)<=(k1:Int):=by omega
   have GD:Gb wr wr.drew:=⟨rfl,rfl,rfl,Nat.le_refl _,fun _ _=>rfl⟩
   clear z0 z1 z2 hDe hEe fd fq hl hkl hpl ea2 ea3 hA k1' k2' hk1
   by_cases hlt:D < E
   ·have cl:=fun W=>cless_v D E hD hE true (decide_eq_true hlt) W
    have RX:=RY.out hlt
    have RZ:Hid _:=RX
    clear hlt hD hE RX RY RN
    dsimp only [Wd] at cl cn
    generalize hi D=z1 at *
    generalize lo D=z2 at *
    generalize hi E=z3 at *
    generalize lo E=z4 at *
    go_wp2_with fail
    refine wp_region_held_drew (S:=fun W=>Gb wr W) (by kernel_rfl) (GD) (fun hHeld=>?_)
    refine tkn 0 ?_ rfl ?_ ?_;rotate_left;·(intro w hSw;obtain ⟨s0,s2,h1,h2,q0,q1,q2,q3,q4,q5⟩:=kp10 hSw x0 x2 K1 K2 a0 a1 a2 a3 a4 a5;go_simp;try rfl)
    try simp only [pt]
    refine tkn 1 ?_ rfl ?_ ?_;rotate_left;·(intro w hSw;obtain ⟨s0,s2,h1,h2,q0,q1,q2,q3,q4,q5⟩:=kp10 hSw x0 x2 K1 K2 a0 a1 a2 a3 a4 a5;go_simp;try rfl)
    try simp only [pt]
    refine tkn 2 ?_ rfl ?_ ?_;rotate_left;·(intro w hSw;obtain ⟨s0,s2,h1,h2,q0,q1,q2,q3,q4,q5⟩:=kp10 hSw x0 x2 K1 K2 a0 a1 a2 a3 a4 a5;go_simp;try rfl)
    try simp only [pt]
    refine tkn 3 ?_ rfl ?_ ?_;rotate_left;·(intro w hSw;obtain ⟨s0,s2,h1,h2,q0,q1,q2,q3,q4,q5⟩:=kp10 hSw x0 x2 K1 K2 a0 a1 a2 a3 a4 a5;go_simp;try rfl)
    try simp only [pt]
    refine tkn 4 ?_ rfl ?_ ?_;rotate_left;·(intro w hSw;obtain ⟨s0,s2,h1,h2,q0,q1,q2,q3,q4,q5⟩:=kp10 hSw x0 x2 K1 K2 a0 a1 a2 a3 a4 a5;go_simp;try rfl)
    try simp only [pt]
    refine tkn 5 ?_ rfl ?_ ?_;rotate_left;·(intro w hSw;obtain ⟨s0,s2,h1,h2,q0,q1,q2,q3,q4,q5⟩:=kp10 hSw x0 x2 K1 K2 a0 a1 a2 a3 a4 a5;go_simp;try rfl)
    try simp only [pt]
    refine tkn 6 ?_ rfl ?_ ?_;rotate_left;·(intro w hSw;obtain ⟨s0,s2,h1,h2,q0,q1,q2,q3,q4,q5⟩:=kp10 hSw x0 x2 K1 K2 a0 a1 a2 a3 a4 a5;go_simp;try rfl)
    try simp only [pt]
    refine tkn 7 ?_ rfl ?_ ?_;rotate_left;·(intro w hSw;obtain ⟨s0,s2,h1,h2,q0,q1,q2,q3,q4,q5⟩:=kp10 hSw x0 x2 K1 K2 a0 a1 a2 a3 a4 a5;go_simp;try rfl)
    try simp only [pt]
    refine tkn 8 ?_ rfl ?_ ?_;rotate_left;·(intro w hSw;obtain ⟨s0,s2,h1,h2,q0,q1,q2,q3,q4,q5⟩:=kp10 hSw x0 x2 K1 K2 a0 a1 a2 a3 a4 a5;go_simp;try rfl)
    try simp only [pt]
    refine tkn 9 ?_ rfl ?_ ?_;rotate_left;·(intro w hSw;obtain ⟨s0,s2,h1,h2,q0,q1,q2,q3,q4,q5⟩:=kp10 hSw x0 x2 K1 K2 a0 a1 a2 a3 a4 a5;go_simp;try rfl)
    try simp only [pt]
    refine tkn 10 ?_ rfl ?_ ?_;rotate_left;·(intro w hSw;obtain ⟨s0,s2,h1,h2,q0,q1,q2,q3,q4,q5⟩:=kp10 hSw x0 x2 K1 K2 a0 a1 a2 a3 a4 a5;go_simp;try rfl)
    try simp only [pt]
    refine tkn 11 ?_ rfl ?_ ?_;rotate_left;·(intro w hSw;obtain ⟨s0,s2,h1,h2,q0,q1,q2,q3,q4,q5⟩:=kp10 hSw x0 x2 K1 K2 a0 a1 a2 a3 a4 a5;go_simp;try rfl)
    try simp only [pt]
    refine tkn 12 ?_ rfl ?_ ?_;rotate_left;·(intro w hSw;obtain ⟨s0,s2,h1,h2,q0,q1,q2,q3,q4,q5⟩:=kp10 hSw x0 x2 K1 K2 a0 a1 a2 a3 a4 a5;go_simp;try rfl)
    try simp only [pt]
    refine rdn 13 rfl (fun K hK=>?_)
    go_simp
    refine (cn _ (gb_trans GX.out hHeld)).mono ?_
    rintro e w4 ⟨rfl,g4⟩
    refine hK.out _ _ (gb_trans hHeld g4.gb) (fun hHeld=>?_)
    clear hK K
    try simp only [pt]
    refine rdn 14 rfl (fun K hK=>?_)
    go_simp
    refine (cl _).mono ?_
    rintro e w5 ⟨rfl,g5⟩
    refine hK.out _ _ (gb_trans hHeld g5.gb) (fun hHeld=>?_)
    clear hK K
    try simp only [pt]
    refine tkn 15 ?_ rfl ?_ ?_;rotate_left;·(intro w hSw;obtain ⟨s0,s2,h1,h2,q0,q1,q2,q3,q4,q5⟩:=kp10 hSw x0 x2 K1 K2 a0 a1 a2 a3 a4 a5;go_simp;try rfl)
    try simp only [pt]
    refine wpAnyH_done (by kernel_rfl) ?_ _
    have GN:Hid (Gb W1 w5):=gb_trans X.out.1 hHeld
    clear hHeld GD cn cl a0 a1 a2 a3 a4 a5 K1 K2 x0 x2 X
    go_wp2
    go_roundw
    case rel=>exact ⟨p + 1,by first | rfl | go_num | simp,hpn,GN.out,RZ.out⟩
    case measure=>simp [intOf];omega
   ·have cl:=fun W=>cless_v D E hD hE false (decide_eq_false hlt) W
    have RX:=RN.out hlt
    have RZ:Hid _:=RX
    clear hlt hD hE RX RY RN
    dsimp only [Wd] at cl cn
    generalize hi D=z1 at *
    generalize lo D=z2 at *
    generalize hi E=z3 at *
    generalize lo E=z4 at *
    go_wp2_with fail
    refine wp_region_held_drew (S:=fun W=>Gb wr W) (by kernel_rfl) (GD) (fun hHeld=>?_)
    refine tkn 0 ?_ rfl ?_ ?_;rotate_left;·(intro w hSw;obtain ⟨s0,s2,h1,h2,q0,q1,q2,q3,q4,q5⟩:=kp10 hSw x0 x2 K1 K2 a0 a1 a2 a3 a4 a5;go_simp;try rfl)
    try simp only [pt]
    refine tkn 1 ?_ rfl ?_ ?_;rotate_left;·(intro w hSw;obtain ⟨s0,s2,h1,h2,q0,q1,q2,q3,q4,q5⟩:=kp10 hSw x0 x2 K1 K2 a0 a1 a2 a3 a4 a5;go_simp;try rfl)
    try simp only [pt]
    refine tkn 2 ?_ rfl ?_ ?_;rotate_left;·(intro w hSw;obtain ⟨s0,s2,h1,h2,q0,q1,q2,q3,q4,q5⟩:=kp10 hSw x0 x2 K1 K2 a0 a1 a2 a3 a4 a5;go_simp;try rfl)
    try simp only [pt]
    refine tkn 3 ?_ rfl ?_ ?_;rotate_left;·(intro w hSw;obtain ⟨s0,s2,h1,h2,q0,q1,q2,q3,q4,q5⟩:=kp10 hSw x0 x2 K1 K2 a0 a1 a2 a3 a4 a5;go_simp;try rfl)
    try simp only [pt]
    refine tkn 4 ?_ rfl ?_ ?_;rotate_left;·(intro w hSw;obtain ⟨s0,s2,h1,h2,q0,q1,q2,q3,q4,q5⟩:=kp10 hSw x0 x2 K1 K2 a0 a1 a2 a3 a4 a5;go_simp;try rfl)
    try simp only [pt]
    refine tkn 5 ?_ rfl ?_ ?_;rotate_left;·(intro w hSw;obtain ⟨s0,s2,h1,h2,q0,q1,q2,q3,q4,q5⟩:=kp10 hSw x0 x2 K1 K2 a0 a1 a2 a3 a4 a5;go_simp;try rfl)
    try simp only [pt]
    refine tkn 6 ?_ rfl ?_ ?_;rotate_left;·(intro w hSw;obtain ⟨s0,s2,h1,h2,q0,q1,q2,q3,q4,q5⟩:=kp10 hSw x0 x2 K1 K2 a0 a1 a2 a3 a4 a5;go_simp;try rfl)
    try simp only [pt]
    refine tkn 7 ?_ rfl ?_ ?_;rotate_left;·(intro w hSw;obtain ⟨s0,s2,h1,h2,q0,q1,q2,q3,q4,q5⟩:=kp10 hSw x0 x2 K1 K2 a0 a1 a2 a3 a4 a5;go_simp;try rfl)
    try simp only [pt]
    refine tkn 8 ?_ rfl ?_ ?_;rotate_left;·(intro w hSw;obtain ⟨s0,s2,h1,h2,q0,q1,q2,q3,q4,q5⟩:=kp10 hSw x0 x2 K1 K2 a0 a1 a2 a3 a4 a5;go_simp;try rfl)
    try simp only [pt]
    refine tkn 9 ?_ rfl ?_ ?_;rotate_left;·(intro w hSw;obtain ⟨s0,s2,h1,h2,q0,q1,q2,q3,q4,q5⟩:=kp10 hSw x0 x2 K1 K2 a0 a1 a2 a3 a4 a5;go_simp;try rfl)
    try simp only [pt]
    refine tkn 10 ?_ rfl ?_ ?_;rotate_left;·(intro w hSw;obtain ⟨s0,s2,h1,h2,q0,q1,q2,q3,q4,q5⟩:=kp10 hSw x0 x2 K1 K2 a0 a1 a2 a3 a4 a5;go_simp;try rfl)
    try simp only [pt]
    refine tkn 11 ?_ rfl ?_ ?_;rotate_left;·(intro w hSw;obtain ⟨s0,s2,h1,h2,q0,q1,q2,q3,q4,q5⟩:=kp10 hSw x0 x2 K1 K2 a0 a1 a2 a3 a4 a5;go_simp;try rfl)
    try simp only [pt]
    refine tkn 12 ?_ rfl ?_ ?_;rotate_left;·(intro w hSw;obtain ⟨s0,s2,h1,h2,q0,q1,q2,q3,q4,q5⟩:=kp10 hSw x0 x2 K1 K2 a0 a1 a2 a3 a4 a5;go_simp;try rfl)
    try simp only [pt]
    refine rdn 13 rfl (fun K hK=>?_)
    go_simp
    refine (cn _ (gb_trans GX.out hHeld)).mono ?_
    rintro e w4 ⟨rfl,g4⟩
    refine hK.out _ _ (gb_trans hHeld g4.gb) (fun hHeld=>?_)
    clear hK K
    try simp only [pt]
    refine rdn 14 rfl (fun K hK=>?_)
    go_simp
    refine (cl _).mono ?_
    rintro e w5 ⟨rfl,g5⟩
    refine hK.out _ _ (gb_trans hHeld g5.gb) (fun hHeld=>?_)
    clear hK K
    try simp only [pt]
    refine tkn 15 ?_ rfl ?_ ?_;rotate_left;·(intro w hSw;obtain ⟨s0,s2,h1,h2,q0,q1,q2,q3,q4,q5⟩:=kp10 hSw x0 x2 K1 K2 a0 a1 a2 a3 a4 a5;go_simp;try rfl)
    try simp only [pt]
    refine wpAnyH_done (by kernel_rfl) ?_ _
    have GN:Hid (Gb w w5):=gb_trans GX.out hHeld
    clear hHeld GD cn cl a0 a1 a2 a3 a4 a5 K1 K2 x0 x2 X
    go_wp2
    go_ret
    exact ⟨by rw [RZ.out];rfl,GN.out⟩
  ·have hpi:¬ (p:Int) < (nr:Int):=by omega
   have R:Hid (certB q k a=true):=by
    have:=X.out.2
    rw [List.take_of_length_le (by have:=NR.out;omega)] at this
    unfold Hid;rw [CB.out];exact this
   have GN:Hid (Gb w wr):=gb_trans G0.out X.out.1
   clear X
   go_wp2
   go_ret
   exact ⟨by rw [R.out];rfl,GN.out⟩
end Go.Proofs.YtcipdampcmfmaabGreat

namespace Go.Proofs.YtcipdampcmfmaabGreat
open Go.RowKit Go.Sort Go.Maps
end Go.Proofs.YtcipdampcmfmaabGreat

namespace Go.Proofs.YtcipdampcmfmaabGreat
open Go.RowKit Go.Sort Go.Maps
end Go.Proofs.YtcipdampcmfmaabGreat

namespace Go.Proofs.YtcipdampcmfmaabGreat
open Go.RowKit Go.Sort Go.Maps
structure Mid (B T:Nat) (w W:World):Prop where
 os:W.os=w.os
 tape:W.tape=w.tape
 output:W.output=w.output
 size:w.heap.size<=W.heap.size
 block:∀ k,k < w.heap.size->(k < B ∨ T<=k)->W.heap[k]? = w.heap[k]?
theorem Mid.refl (B T:Nat) (w:World):Mid B T w w:=⟨rfl,rfl,rfl,Nat.le_refl _,fun _ _ _=>rfl⟩
theorem Mid.gb {B T:Nat} {w0 w W:World} (h:Mid B T w W) (g:Gb w0 w) (hB:w0.heap.size<=B):Gb w0 W:=by
 have hs:=g.size
 exact ⟨h.os.trans g.os,h.tape.trans g.tape,h.output.trans g.output,Nat.le_trans g.size h.size,fun k hk=>(h.block k (by omega) (.inl (by omega))).trans (g.block k hk)⟩
theorem Mid.drew {B T:Nat} {w W:World} (h:Mid B T w W):Mid B T w W.drew:=⟨h.os,h.tape,h.output,h.size,h.block⟩
theorem Mid.grown {B T g:Nat} {w W W':World} (h:Mid B T w W) (k:W.grownBy W' (some g)) (h1:B<=g) (h2:g < T):Mid B T w W' :=
 ⟨k.os.trans h.os,k.tape.trans h.tape,k.output.trans h.output,Nat.le_trans h.size k.size,fun j hj hb=>(k.block j (Nat.lt_of_lt_of_le hj h.size) (by simp;omega)).trans (h.block j hj hb)⟩
theorem Mid.set {B T g:Nat} {w W:World} (h:Mid B T w W) (h1:B<=g) (h2:g < T) (o1 o2:Nat) (x y:Value):Mid B T w ((W.setCell ⟨g,o1,none⟩ x).setCell ⟨g,o2,none⟩ y) :=
 ⟨h.os,h.tape,h.output,by simpa [World.setCell] using h.size,fun j hj hb=>(two_far (by omega) _ _ _ _).trans (h.block j hj hb)⟩
structure LT (B T:Nat) (W:World) (G:Nat) (rs:List Rw) (f:Nat->Value × Value) (gs:Nat->Nat):Prop where
 lo:B<=G
 hi:G < T
 arr:RA W G (rs.length + 1) f
 mark:f rs.length=(.int .i64 (-77),.slice none 0 0)
 row:∀ i,i < rs.length->f i=(.int .i64 rs[i]!.1,.slice (some ⟨gs i,0,none⟩) rs[i]!.2.length (rs[i]!.2.length + 1))/\Lent W (G + 1) (gs i) rs[i]!.2/\gs i < T/\∀ j,j < i->gs j ≠ gs i
theorem LentR.lt {w W:World} {G:Nat} {rs:List Rw} (h:LentR w W G rs):∃ f gs,LT w.heap.size W.heap.size W G rs f gs:=by
 obtain ⟨f,h⟩:=h
 obtain ⟨gs,hl⟩:=h.lent
 exact ⟨f,gs,h.hG,h.arr.lt,h.arr,h.end',fun i hi=>⟨(hl i hi).1,(hl i hi).2.1,(hl i hi).2.1.lt,(hl i hi).2.2⟩⟩
theorem LT.keep {B T G:Nat} {W W':World} {rs:List Rw} {f:Nat->Value × Value} {gs:Nat->Nat} (h:LT B T W G rs f gs) (e:∀ k,B<=k->k < T->W'.heap[k]? = W.heap[k]?):LT B T W' G rs f gs :=
 ⟨h.lo,h.hi,h.arr.block (e _ h.lo h.hi),h.mark,fun i hi=>by
  obtain ⟨a,b,c,d⟩:=h.row i hi
  exact ⟨a,b.block (e _ (by have:=b.1;have:=h.lo;omega) c),c,d⟩⟩
structure Bk (B T:Nat) (w W:World) (G:Nat) (rs:List Rw) (f:Nat->Value × Value) (gs:Nat->Nat) (p:Nat):Prop where
 mid:Mid B T w W
 arr:∃ f',RA W G (rs.length + 1) f'/\∀ i,p<=i->f' i=f i
 lent:∀ i,p<=i->i < rs.length->Lent W (G + 1) (gs i) rs[i]!.2
theorem LT.bk {B T G:Nat} {W:World} {rs:List Rw} {f:Nat->Value × Value} {gs:Nat->Nat} (h:LT B T W G rs f gs):Bk B T W W G rs f gs 0 :=
 ⟨Mid.refl _ _ _,⟨f,h.arr,fun _ _=>rfl⟩,fun i _ hi=>(h.row i hi).2.1⟩
theorem Bk.drew {B T G p:Nat} {w W:World} {rs:List Rw} {f:Nat->Value × Value} {gs:Nat->Nat} (h:Bk B T w W G rs f gs p):Bk B T w W.drew G rs f gs p :=
 ⟨h.mid.drew,h.arr,h.lent⟩
theorem Bk.step {B T G p:Nat} {w W W2:World} {rs:List Rw} {f:Nat->Value × Value} {gs:Nat->Nat} (h:Bk B T w W G rs f gs p) (L:LT B T w G rs f gs) (hp:p < rs.length) (k:W.grownBy W2 (some (gs p))) (x y:Value) :
  Bk B T w ((W2.setCell ⟨G,p * 2,none⟩ x).setCell ⟨G,p * 2 + 1,none⟩ y) G rs f gs (p + 1):=by
 obtain ⟨_,b,c,_⟩:=L.row p hp
 have hb:=b.1
 have hlo:=L.lo
 obtain ⟨f',h1,h2⟩:=h.arr
 refine ⟨(h.mid.grown k (by omega) c).set L.lo L.hi _ _ _ _,⟨_,(h1.block (k.block G h1.lt (by simp;omega))).set (i:=p) (by omega) x y,fun i hi=>?_⟩,fun i hi hl=>?_⟩
 ·rw [if_neg (by omega)];exact h2 i (by omega)
 ·have h3:=h.lent i (by omega) hl
  have hne:=(L.row i hl).2.2.2 p (by omega)
  exact h3.block ((two_far (by have:=h3.1;omega) _ _ _ _).trans (k.block _ h3.lt (by simp;omega)))
structure Qs (W:World) (a b c d:Addr) (u v x y:Value):Prop where
 ca:W.cell? a=some u
 cb:W.cell? b=some v
 cc:W.cell? c=some x
 cd:W.cell? d=some y
theorem Qs.grown {W W':World} {a b c d:Addr} {u v x y:Value} {g:Nat} (h:Qs W a b c d u v x y) (k:W.grownBy W' (some g)) (ha:a.block ≠ g) (hb:b.block ≠ g) (hc:c.block ≠ g) (hd:d.block ≠ g):Qs W' a b c d u v x y:=by
 have far:∀ {p:Addr} {q:Value},p.block ≠ g->W.cell? p=some q->W'.cell? p=some q:=fun {p q} hp hq =>
  (World.cell?_of_block (k.block _ (World.block_lt_of_cell? W _ hq) (by simp;omega))).trans hq
 exact ⟨far ha h.ca,far hb h.cb,far hc h.cc,far hd h.cd⟩
end Go.Proofs.YtcipdampcmfmaabGreat

namespace Go.Proofs.YtcipdampcmfmaabGreat
open Go.RowKit Go.Sort
structure Shp (P:TypeId->Prop) (W W':World):Prop where
 keep:∀ (k:Nat) (cur:Array Value) (t:TypeId) (f:Nat × Nat),W.heap[k]? = some (.cells cur t f)->¬ P t->W'.heap[k]? = W.heap[k]?
 size:∀ (k:Nat) (cur:Array Value) (t:TypeId) (f:Nat × Nat),W.heap[k]? = some (.cells cur t f)->∃ cur',W'.heap[k]? = some (.cells cur' t f)/\cur'.size=cur.size/\(t=3->∀ (i:Nat) (x:Int),cur[i]? = some (.int .i64 x)->∃ y:Int,cur'[i]? = some (.int .i64 y))
theorem Shp.refl (P:TypeId->Prop) (W:World):Shp P W W:=⟨fun _ _ _ _ _ _=>rfl,fun _ cur _ _ h=>⟨cur,h,rfl,fun _ _ x hx=>⟨x,hx⟩⟩⟩
theorem Shp.trans {P:TypeId->Prop} {a b c:World} (h:Shp P a b) (g:Shp P b c):Shp P a c:=by
 refine ⟨fun k cur t f e n=>?_,fun k cur t f e=>?_⟩
 ·have h1:=h.keep k cur t f e n
  exact (g.keep k cur t f (h1.trans e) n).trans h1
 ·obtain ⟨c1,e1,s1,i1⟩:=h.size k cur t f e
  obtain ⟨c2,e2,s2,i2⟩:=g.size k c1 t f e1
  refine ⟨c2,e2,s2.trans s1,fun e3 i x hx=>?_⟩
  obtain ⟨y,hy⟩:=i1 e3 i x hx
  exact i2 e3 i y hy
theorem Shp.mono {P Q:TypeId->Prop} {a b:World} (h:Shp P a b) (hp:∀ t,P t->Q t):Shp Q a b:=⟨fun k cur t f e n=>h.keep k cur t f e fun p=>n (hp t p),h.size⟩
theorem Shp.gb {P:TypeId->Prop} {a b:World} (g:Gb a b):Shp P a b :=
 ⟨fun k _ _ _ e _=>g.block k (Array.getElem?_eq_some_iff.1 e).1,fun k cur _ _ e=>⟨cur,(g.block k (Array.getElem?_eq_some_iff.1 e).1).trans e,rfl,fun _ _ x hx=>⟨x,hx⟩⟩⟩
theorem heap_set {W:World} {g o:Nat} {x:Value} {cur:Array Value} {t:TypeId} {f:Nat × Nat} (h:W.heap[g]? = some (.cells cur t f)):(W.setCell ⟨g,o,none⟩ x).heap[g]? = some (.cells (cur.setIfInBounds o x) t f):=by
 simp [World.setCell,Array.getElem?_modify,h]
theorem Shp.set {P:TypeId->Prop} {W:World} {g:Nat} {cur:Array Value} {t:TypeId} {f:Nat × Nat} (h:W.heap[g]? = some (.cells cur t f)) (hp:P t) (o:Nat) (x:Value) (hx:t=3->∃ y:Int,x=.int .i64 y):Shp P W (W.setCell ⟨g,o,none⟩ x):=by
 refine ⟨fun k cur' t' f' e n=>?_,fun k cur' t' f' e=>?_⟩
 ·by_cases hk:k=g
  ·subst hk;rw [h] at e;cases e;exact absurd hp n
  ·exact Below.heap_setCell _ _ _ _ (by dsimp only;exact hk)
 ·by_cases hk:k=g
  ·subst hk
   rw [h] at e;cases e
   refine ⟨_,heap_set h,by simp,fun e3 i z hz=>?_⟩
   by_cases hi:i=o
   ·subst hi
    obtain ⟨y,rfl⟩:=hx e3
    have hlt:i < cur.size:=(Array.getElem?_eq_some_iff.1 hz).1
    exact ⟨y,by rw [Array.getElem?_setIfInBounds_self_of_lt hlt]⟩
   ·exact ⟨z,by rw [Array.getElem?_setIfInBounds_ne (fun e=>hi e.symm)];exact hz⟩
  ·exact ⟨cur',(Below.heap_setCell _ _ _ _ (by dsimp only;exact hk)).trans e,rfl,fun _ _ z hz=>⟨z,hz⟩⟩
structure MS (P:TypeId->Prop) (B T:Nat) (W W':World):Prop where
 mid:Mid B T W W'
 shp:Shp P W W'
theorem Mid.trans {B T:Nat} {a b c:World} (h:Mid B T a b) (g:Mid B T b c):Mid B T a c :=
 ⟨g.os.trans h.os,g.tape.trans h.tape,g.output.trans h.output,Nat.le_trans h.size g.size,fun k hk hb=>(g.block k (Nat.lt_of_lt_of_le hk h.size) hb).trans (h.block k hk hb)⟩
theorem mid_gb {B T:Nat} {a b:World} (g:Gb a b):Mid B T a b:=⟨g.os,g.tape,g.output,g.size,fun k hk _=>g.block k hk⟩
theorem MS.refl (P:TypeId->Prop) (B T:Nat) (W:World):MS P B T W W:=⟨Mid.refl _ _ _,Shp.refl _ _⟩
theorem MS.trans {P:TypeId->Prop} {B T:Nat} {a b c:World} (h:MS P B T a b) (g:MS P B T b c):MS P B T a c:=⟨h.mid.trans g.mid,h.shp.trans g.shp⟩
theorem MS.mono {P Q:TypeId->Prop} {B T:Nat} {a b:World} (h:MS P B T a b) (hp:∀ t,P t->Q t):MS Q B T a b:=⟨h.mid,h.shp.mono hp⟩
theorem ms_gb {P:TypeId->Prop} {B T:Nat} {a b:World} (g:Gb a b):MS P B T a b:=⟨mid_gb g,Shp.gb g⟩
theorem MS.set {P:TypeId->Prop} {B T g:Nat} {W0 W:World} {cur:Array Value} {t:TypeId} {f:Nat × Nat} (m:MS P B T W0 W) (h1:B<=g) (h2:g < T) (h:W.heap[g]? = some (.cells cur t f)) (hp:P t) (o:Nat) (x:Value) (hx:t=3->∃ y:Int,x=.int .i64 y):MS P B T W0 (W.setCell ⟨g,o,none⟩ x) :=
 ⟨⟨m.mid.os,m.mid.tape,m.mid.output,by simpa [World.setCell] using m.mid.size,fun k hk hb=>(Below.heap_setCell _ _ _ _ (by dsimp only;omega)).trans (m.mid.block k hk hb)⟩,m.shp.trans (Shp.set h hp o x hx)⟩
theorem MS.cell {P:TypeId->Prop} {B T b o:Nat} {W W':World} {v:Value} (m:MS P B T W W') (hb:T<=b) (h:W.cell? ⟨b,o,none⟩=some v):W'.cell? ⟨b,o,none⟩=some v :=
 (World.cell?_of_block (a:=⟨b,o,none⟩) (m.mid.block b (World.block_lt_of_cell? W _ h) (.inr hb))).trans h
def WL (W:World) (B T:Nat) (ty:TypeId) (k:Nat) (a:Option Addr) (n:Nat):Prop:=n=0 ∨ ∃ g cur,a=some ⟨g,0,none⟩/\B<=g/\g < T/\W.heap[g]? = some (.cells cur ty (0,0))/\n * k<=cur.size
theorem WL.ms {P:TypeId->Prop} {W W':World} {B T B' T':Nat} {ty:TypeId} {k:Nat} {a:Option Addr} {n:Nat} (h:WL W B T ty k a n) (m:MS P B' T' W W'):WL W' B T ty k a n:=by
 rcases h with h | ⟨g,cur,e,h1,h2,h3,h4⟩
 ·exact .inl h
 ·obtain ⟨c1,e1,s1,_⟩:=m.shp.size g cur ty (0,0) h3
  exact .inr ⟨g,c1,e,h1,h2,e1,by omega⟩
def WI (W:World) (B T:Nat) (v:Value):Prop:=∃ a n c,v=.slice a n c/\n<=4611686018427387904/\(n=0 ∨ ∃ g cur,a=some ⟨g,0,none⟩/\B<=g/\g < T/\W.heap[g]? = some (.cells cur 3 (0,0))/\∀ i,i < n->∃ x:Int,cur[i]? = some (.int .i64 x))
theorem WI.ms {P:TypeId->Prop} {W W':World} {B T B' T':Nat} {v:Value} (h:WI W B T v) (m:MS P B' T' W W'):WI W' B T v:=by
 obtain ⟨a,n,c,rfl,hn,h⟩:=h
 refine ⟨a,n,c,rfl,hn,?_⟩
 rcases h with h | ⟨g,cur,e,h1,h2,h3,h4⟩
 ·exact .inl h
 ·obtain ⟨c1,e1,s1,i1⟩:=m.shp.size g cur 3 (0,0) h3
  exact .inr ⟨g,c1,e,h1,h2,e1,fun i hi=>by obtain ⟨x,hx⟩:=h4 i hi;exact i1 rfl i x hx⟩
theorem wi_own {W:World} {B T:Nat} {v:Value} {l:List Int} (h:Own W B v l) (hn:l.length<=4611686018427387904) (hT:∀ g,v.ownBlock=some g->g < T):WI W B T v:=by
 rcases h.2 with ⟨rfl,h0⟩ | ⟨g,cap,cur,rfl,hb,hh,hc,_,hs,ht⟩
 ·exact ⟨none,0,0,rfl,Nat.zero_le _,.inl rfl⟩
 ·refine ⟨_,_,_,rfl,hn,.inr ⟨g,cur,rfl,hb,hT g rfl,hh,fun i hi=>?_⟩⟩
  have h1:(cur.toList.take (l.length * 1))[i]? = (l.map (Value.int .i64))[i]? := by rw [ht]
  rw [List.getElem?_take_of_lt (by omega),List.getElem?_map,List.getElem?_eq_getElem hi] at h1
  exact ⟨l[i],by simpa using h1⟩
structure OwnA (W:World) (B T:Nat) (vh vs vr:Value):Prop where
 top:T<=W.heap.size
 hits:∃ a n c,vh=.slice a n c/\n<=4611686018427387904/\WL W B T 58 3 a n
 seen:WI W B T vs
 rest:∃ a n c,vr=.slice a n c/\n<=4611686018427387904/\(n=0 ∨ ∃ g cur,a=some ⟨g,0,none⟩/\B<=g/\g < T/\W.heap[g]? = some (.cells cur 98 (0,0)) /\
  ∀ i,i < n->∃ (S:Int) (vl vu:Value) (h l:Int) (vi:Value),cur[i * 6]? = some (.int .i64 S)/\cur[i * 6 + 1]? = some vl/\cur[i * 6 + 2]? = some vu/\cur[i * 6 + 3]? = some (.int .u64 h)/\cur[i * 6 + 4]? = some (.int .u64 l)/\cur[i * 6 + 5]? = some vi/\WI W B T vl/\WI W B T vu/\WI W B T vi)
theorem OwnA.gb {W W':World} {B T:Nat} {vh vs vr:Value} (h:OwnA W B T vh vs vr) (g:Gb W W'):OwnA W' B T vh vs vr:=by
 have m:MS (fun _=>False) B T W W':=ms_gb g
 obtain ⟨a,n,c,e,hn,hl⟩:=h.hits
 obtain ⟨a',n',c',e',hn',hl'⟩:=h.rest
 refine ⟨Nat.le_trans h.top g.size,⟨a,n,c,e,hn,hl.ms m⟩,h.seen.ms m,⟨a',n',c',e',hn',?_⟩⟩
 rcases hl' with h0 | ⟨x,cur,h1,h2,h3,h4,h5⟩
 ·exact .inl h0
 ·refine .inr ⟨x,cur,h1,h2,h3,(g.block x (Array.getElem?_eq_some_iff.1 h4).1).trans h4,fun i hi=>?_⟩
  obtain ⟨S,vl,vu,p,l,vi,d0,d1,d2,d3,d4,d5,w1,w2,w3⟩:=h5 i hi
  exact ⟨S,vl,vu,p,l,vi,d0,d1,d2,d3,d4,d5,w1.ms m,w2.ms m,w3.ms m⟩
end Go.Proofs.YtcipdampcmfmaabGreat
