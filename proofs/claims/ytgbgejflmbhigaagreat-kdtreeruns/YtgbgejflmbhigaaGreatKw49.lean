import Derived.Test.YtgbgejflmbhigaaGreatKw40
import Derived.Test.YtgbgejflmbhigaaGreatKw22
import Derived.BigQuiet
import Derived.Test.YtgbgejflmbhigaaGreatKw33
import Derived.Test.YtgbgejflmbhigaaGreatKwFCert
import Derived.Test.YtgbgejflmbhigaaGreatKw47
namespace Go.Proofs.YtgbgejflmbhigaaGreat
open Go.RowKit Go.Sort
abbrev Opv:Type:=(Int × Int × Int × Int) × Rw × List Int
def RdO (w:World) (u:Value) (ops:List Opv):Prop:=∃ a cap,u=.slice a ops.length cap/\∀ i,i < ops.length->∃ b o rv qv,a=some ⟨b,o,none⟩ /\
 (w.cell? ⟨b,o + i * 7,none⟩=some (.int .i64 ops[i]!.1.1)/\w.cell? ⟨b,o + i * 7 + 1,none⟩=some (.int .i64 ops[i]!.1.2.1)/\w.cell? ⟨b,o + i * 7 + 2,none⟩=some (.int .i64 ops[i]!.1.2.2.1) /\
 w.cell? ⟨b,o + i * 7 + 3,none⟩=some (.int .i64 ops[i]!.1.2.2.2)/\w.cell? ⟨b,o + i * 7 + 4,none⟩=some (.int .i64 ops[i]!.2.1.1)/\w.cell? ⟨b,o + i * 7 + 5,none⟩=some rv/\w.cell? ⟨b,o + i * 7 + 6,none⟩=some qv) /\
 RdI w rv ops[i]!.2.1.2/\RdI w qv ops[i]!.2.2
theorem RdO.gb {w w':World} {v:Value} {l:List Opv} (h:RdO w v l) (g:Gb w w'):RdO w' v l:=by
 obtain ⟨a,cap,e,h⟩:=h
 refine ⟨a,cap,e,fun i hi'=>?_⟩
 obtain ⟨b,o,rv,qv,e0,⟨c0,c1,c2,c3,c4,c5,c6⟩,r1,r2⟩:=h i hi'
 exact ⟨b,o,rv,qv,e0,⟨gb_keeps g c0,gb_keeps g c1,gb_keeps g c2,gb_keeps g c3,gb_keeps g c4,gb_keeps g c5,gb_keeps g c6⟩,r1.gb g,r2.gb g⟩
theorem rdo_nil (w:World):RdO w (.slice none 0 0) []:=⟨none,0,rfl,fun _i hi=>absurd hi (Nat.not_lt_zero _)⟩
end Go.Proofs.YtgbgejflmbhigaaGreat

namespace Go.Proofs.YtgbgejflmbhigaaGreat
open Go.RowKit Go.Sort
set_option maxHeartbeats 1000000
def srchE (m:Nat) (q:List Int) (k b:Int):Int:=if chk q (m:Int)=0 then (if (1<=k/\k<=64)/\0<=b/\b<=1000000 then 0 else 1) else chk q (m:Int)
theorem srchE_zero {m:Nat} {q:List Int} {k b:Int}:srchE m q k b=0 ↔ chk q (m:Int)=0/\(1<=k/\k<=64)/\0<=b/\b<=1000000:=by
 unfold srchE
 by_cases h:chk q (m:Int)=0
 ·rw [if_pos h]
  split
  ·rename_i h1;exact ⟨fun _=>⟨h,h1⟩,fun _=>rfl⟩
  ·rename_i h1;exact ⟨fun e=>absurd e (by decide),fun e=>absurd e.2 h1⟩
 ·rw [if_neg h]
  exact ⟨fun e=>absurd e h,fun e=>absurd e.1 h⟩
theorem knew_bad (k:Int) (hk:k < 1 ∨ 64 < k) (w:World):Calls Tryz.prog 35 #[.int .i64 k] w fun e w'=>e=.returned (.tuple #[.pointer none,.int .i64 1])/\w'=w:=by
 rcases hk with h | h
 ·exact Tk.new_lo k h w
 ·exact Tk.new_hi k h w
theorem ksearch_no {Iq:Nat->Prop} {w:World} {tb m leaf:Nat} {rs:List Rw} {F:List Nat} (h:TreeAt Iq w tb m leaf rs F) {u:Value} {q:List Int} (hu:RdI w u q) (k b:Int) (hz:srchE m q k b ≠ 0) :
  Calls Tryz.prog 15 #[.pointer (some ⟨tb,0,none⟩),u,.int .i64 k,.int .i64 b] w fun e w'=>e=.returned (.tuple #[.agg #[.slice none 0 0,.slice none 0 0,.slice none 0 0],.int .i64 (srchE m q k b)])/\Gb w w':=by
 obtain ⟨_,_,_,c0,_⟩:=h.cells
 have g1:Gb w (w.alloc (.cells #[.slice none 0 0,.slice none 0 0,.slice none 0 0] 51)):=gb_alloc (Below.refl _ _) _
 have G:Hid (Gb w (w.alloc (.cells #[.slice none 0 0,.slice none 0 0,.slice none 0 0] 51))):=g1
 have e0:=gb_keeps g1 c0
 obtain ⟨x,hx⟩:∃ x,x=chk q (m:Int):=⟨_,rfl⟩
 have cK:=check_v (hu.gb g1) (m:Int) x hx.symm
 have hE:srchE m q k b=if x=0 then (if (1<=k/\k<=64)/\0<=b/\b<=1000000 then 0 else 1) else x:=by rw [hx];rfl
 rw [hE] at hz ⊢
 obtain ⟨ua,uc,eu,_⟩:=hu.rd0
 subst eu
 generalize q.length=nq at *
 clear hE hx hu h c0 g1
 by_cases h1:x=0
 ·subst h1
  rw [if_pos rfl] at hz ⊢
  by_cases h2:1<=k/\k<=64
  ·by_cases h3:0<=b/\b<=1000000
   ·rw [if_pos ⟨h2,h3⟩] at hz;exact absurd rfl hz
   ·rw [if_neg (fun h=>h3 h.2)]
    have cN:=Tk.new_ok k h2.1 h2.2 (w.alloc (.cells #[.slice none 0 0,.slice none 0 0,.slice none 0 0] 51))
    clear hz h2
    by_cases h4:b < 0
    ·go_enter Tryz.func15,Tryz.ntmps15
     go_wp2_with fail
     go_fit cK
     rintro e w1 ⟨rfl,rfl⟩
     clear cK
     go_wp2_with fail
     go_fit cN
     rintro e w2 ⟨rfl,rfl⟩
     clear cN h3
     go_wp2
     refine bodyPost_ret (v:=.tuple #[.agg #[.slice none 0 0,.slice none 0 0,.slice none 0 0],.int .i64 1]) (by simp [results,Tryz.results15,go_sem]) rfl ⟨rfl,?_⟩
     go_grown
    ·have h5:(1000000:Int) < b:=by omega
     clear h3
     go_enter Tryz.func15,Tryz.ntmps15
     go_wp2_with fail
     go_fit cK
     rintro e w1 ⟨rfl,rfl⟩
     clear cK
     go_wp2_with fail
     go_fit cN
     rintro e w2 ⟨rfl,rfl⟩
     clear cN
     go_wp2
     refine bodyPost_ret (v:=.tuple #[.agg #[.slice none 0 0,.slice none 0 0,.slice none 0 0],.int .i64 1]) (by simp [results,Tryz.results15,go_sem]) rfl ⟨rfl,?_⟩
     go_grown
  ·rw [if_neg (fun h=>h2 h.1)]
   have cN:=knew_bad k (by omega) (w.alloc (.cells #[.slice none 0 0,.slice none 0 0,.slice none 0 0] 51))
   clear hz h2
   go_enter Tryz.func15,Tryz.ntmps15
   go_wp2_with fail
   go_fit cK
   rintro e w1 ⟨rfl,rfl⟩
   clear cK
   go_wp2_with fail
   go_fit cN
   rintro e w2 ⟨rfl,rfl⟩
   clear cN
   go_wp2
   refine bodyPost_ret (v:=.tuple #[.agg #[.slice none 0 0,.slice none 0 0,.slice none 0 0],.int .i64 1]) (by simp [results,Tryz.results15,go_sem]) rfl ⟨rfl,?_⟩
   exact G.out
 ·have h2:(x == 0)=false:=by rw [beq_eq_false_iff_ne];exact h1
  rw [if_neg h1] at hz ⊢
  go_enter Tryz.func15,Tryz.ntmps15
  go_wp2_with fail
  go_fit cK
  rintro e w1 ⟨rfl,rfl⟩
  clear cK
  go_wp2
  refine bodyPost_ret (v:=.tuple #[.agg #[.slice none 0 0,.slice none 0 0,.slice none 0 0],.int .i64 x]) (by simp [results,Tryz.results15,go_sem]) rfl ⟨rfl,?_⟩
  exact G.out
def bldE (rs:List Rw) (d leaf:Int):Int:=if flatE rs d=0 then (if 1<=leaf/\leaf<=64 then 0 else 1) else flatE rs d
theorem kbuild_no {w:World} {v:Value} {rs:List Rw} (h:RdW w v rs) (hwf:Wf rs) (d leaf B S:Int) (hz:bldE rs d leaf ≠ 0) :
  Calls Tryz.prog 5 #[v,.int .i64 d,.agg #[.int .i64 leaf,.int .i64 B,.int .u64 S]] w fun e w'=>e=.returned (.tuple #[.pointer none,.int .i64 (bldE rs d leaf)])/\Gb w w':=by
 have g1:Gb w (w.alloc (.cells #[.int .i64 leaf,.int .i64 B,.int .u64 S] 25)):=gb_alloc (Below.refl _ _) _
 have cB:Calls Tryz.prog 12 #[v,.int .i64 d,.int .i64 leaf] (w.alloc (.cells #[.int .i64 leaf,.int .i64 B,.int .u64 S] 25)) fun e w'=>e=.returned (.tuple #[.pointer none,.int .i64 (bldE rs d leaf)])/\Gb w w':=by
  by_cases h1:flatE rs d=0
  ·by_cases h2:1<=leaf/\leaf<=64
   ·unfold bldE at hz;rw [if_pos h1,if_pos h2] at hz;exact absurd rfl hz
   ·have e:bldE rs d leaf=1:=by unfold bldE;rw [if_pos h1,if_neg h2]
    rw [e]
    exact (build_leaf (h.gb g1) hwf d leaf h1 (by omega)).mono fun e w' ⟨h3,h4⟩=>⟨h3,gb_trans g1 h4⟩
  ·have e:bldE rs d leaf=flatE rs d:=by unfold bldE;rw [if_neg h1]
   rw [e]
   exact (build_no (h.gb g1) hwf d leaf h1).mono fun e w' ⟨h3,h4⟩=>⟨h3,gb_trans g1 h4⟩
 obtain ⟨a,c,e,_⟩:=h
 subst e
 generalize rs.length=n at *
 generalize bldE rs d leaf=z at *
 clear g1 hwf
 go_enter Tryz.func5,Tryz.ntmps5
 go_wp2_with fail
 go_fit cB
 rintro e w1 ⟨rfl,hG⟩
 have HG:Hid _:=hG
 clear cB hG
 go_wp2
 refine bodyPost_ret (v:=.tuple #[.pointer none,.int .i64 z]) (by simp [results,Tryz.results5,go_sem]) rfl ⟨rfl,?_⟩
 exact HG.out
end Go.Proofs.YtgbgejflmbhigaaGreat

namespace Go.Proofs.YtgbgejflmbhigaaGreat
open Go.RowKit Go.Sort
structure SeaP (W:World) (tb:Nat) (rs:List Rw) (q:List Int) (k b:Nat) (a:Ans):Prop where
 sound:∃ srs,SoundP rs q k a srs
 few:Few a
 le:a.seen.length<=b
 stop:a.seen.length=b ∨ a.seen.length=rs.length ∨ certB q k a=true
 sure:certB q k a=true->a.hits=Tk.firsts k (hitsOf q rs)
 dist:∀ x ∈ a.hits,dnH x < 340282366920938463463374607431768211456/\x.2.1=hi (dnH x)/\x.2.2=lo (dnH x)
 reg:∀ r ∈ a.rest,ckB r q=0/\r.R < 340282366920938463463374607431768211456
 call:∀ W1 u,Gb W W1->RdI W1 u q->Calls Tryz.prog 15 #[.pointer (some ⟨tb,0,none⟩),u,.int .i64 (k:Int),.int .i64 (b:Int)] W1 fun e W'=>∃ vh vs vr,e=.returned (.tuple #[.agg #[vh,vs,vr],.int .i64 0])/\Gb W1 W'/\RdA W' vh vs vr a/\OwnA W' W1.heap.size W'.heap.size vh vs vr
theorem sub_flat {f:Pt->List Rw} {p:Pt}:∀ {l:List Pt},p ∈ l->(f p).Sublist (l.flatMap f)
 | [],h=>by cases h
 | x :: r,h=>by
  rw [List.flatMap_cons]
  rcases List.mem_cons.1 h with rfl | h
  ·exact List.sublist_append_left _ _
  ·exact (sub_flat h).trans (List.sublist_append_right _ _)
theorem rgat_rd {W:World} {B:Nat} {v:Value} {l:List Reg} (h:RgAt W B v l):RdL W v l:=by
 obtain ⟨xs,h1,h2⟩:=h
 rcases h1.2 with ⟨e,h0⟩ | ⟨g,cap,cur,e,_⟩
 ·have e0:l=[]:=List.length_eq_zero_iff.1 h0
  subst e e0
  exact rdl_nil W
 ·subst e
  refine ⟨_,cap,rfl,fun i hi'=>?_⟩
  obtain ⟨v1,v2,v3,s,r,a,b,c,d,e,f,o1,o2,o3⟩:=h2 i hi'
  have cc:=h1.cells (g:=g) rfl
  refine ⟨g,0,v1,v2,v3,rfl,?_,?_,?_,?_,?_,?_,o1.rd,o2.rd,o3.rd⟩
  ·have:=cc _ _ a;rw [Addr.add_lit] at this;rw [s];exact this
  ·have:=cc _ _ b;rw [Addr.add_lit] at this;rw [Nat.add_assoc];exact this
  ·have:=cc _ _ c;rw [Addr.add_lit] at this;rw [Nat.add_assoc];exact this
  ·have:=cc _ _ d;rw [Addr.add_lit] at this;rw [Nat.add_assoc,r];exact this
  ·have:=cc _ _ e;rw [Addr.add_lit] at this;rw [Nat.add_assoc,r];exact this
  ·have:=cc _ _ f;rw [Addr.add_lit] at this;rw [Nat.add_assoc];exact this
theorem kown_rd' {w:World} {v:Value} {l:List Tk.Ht} (h:Tk.Own w v l.toArray):Tk.Rd w v l:=by
 by_cases h0:0 < l.length
 ·obtain ⟨g,cap,e,_,hl⟩:=kown_sl h h0
  exact .inr (.inr ⟨g,0,cap,e,hl⟩)
 ·have e:l=[]:=List.length_eq_zero_iff.1 (by omega)
  subst e
  rcases h.2 with ⟨e,_⟩ | ⟨g,cap,cur,e,_⟩
  ·exact .inl ⟨e,rfl⟩
  ·exact .inr (.inl ⟨_,cap,e,rfl⟩)
theorem own_cur {W:World} {B n k:Nat} {t:TypeId} {v:Value} {xs:List Value} {g:Nat} {cap n':Nat} (h:W.ownsRow B t k v n xs) (e:v=.slice (some ⟨g,0,none⟩) n' cap):∃ cur,B<=g/\g < W.heap.size/\W.heap[g]? = some (.cells cur t (0,0))/\n * k<=cur.size/\∀ (j:Nat) u,xs[j]? = some u->cur[j]? = some u:=by
 have hc:=h.cells (g:=g) (by rw [e];rfl)
 have hlt:=h.lt g (by rw [e];rfl)
 rcases h.2 with ⟨e',_⟩ | ⟨g',cap',cur,e',hB,hh,h1,h2,h3,_⟩
 ·rw [e] at e';cases e'
 ·rw [e] at e'
  cases e'
  refine ⟨cur,hlt.1,hlt.2,hh,by rw [h3];exact Nat.mul_le_mul_right k h1,fun j u hj=>?_⟩
  have:=hc j u hj
  rw [Addr.add_lit,Nat.zero_add] at this
  simpa [World.cell?,hh] using this
theorem ansk_own {w0 W:World} {vh vs vr:Value} {hits:List Tk.Ht} {ids:List Int} {regs:List Reg} (h:AnsK w0 W vh vs vr hits ids regs) (h1:hits.length<=4000) (h2:ids.length<=4000) (h3:regs.length<=4000) (h4:∀ r ∈ regs,r.L.length<=4000/\r.H.length<=4000/\r.I.length<=4000):OwnA W w0.heap.size W.heap.size vh vs vr:=by
 refine ⟨Nat.le_refl _,?_,wi_own h.seen (by omega) (fun g e=>(World.ownsRow.lt h.seen g e).2),?_⟩
 ·rcases h.hits.2 with ⟨e,h0⟩ | ⟨g,cap,cur,e,_⟩
  ·exact ⟨_,_,_,e,Nat.zero_le _,.inl rfl⟩
  ·obtain ⟨cur',_,b2,b3,b4,_⟩:=own_cur h.hits e
   exact ⟨_,_,_,e,by simp;omega,.inr ⟨g,cur',rfl,h.hB g (by rw [e];rfl),b2,b3,by simpa using b4⟩⟩
 ·obtain ⟨xs,o1,o2⟩:=h.rest
  rcases o1.2 with ⟨e,h0⟩ | ⟨g,cap,cur,e,_⟩
  ·exact ⟨_,_,_,e,Nat.zero_le _,.inl rfl⟩
  ·obtain ⟨cur',b1,b2,b3,b4,b5⟩:=own_cur o1 e
   refine ⟨_,_,_,e,by omega,.inr ⟨g,cur',rfl,b1,b2,b3,fun i hi'=>?_⟩⟩
   obtain ⟨v1,v2,v3,s,r,a,b,c,d,e,f,q1,q2,q3⟩:=o2 i hi'
   obtain ⟨l1,l2,l3⟩:=h4 _ (List.getElem_mem hi')
   exact ⟨2,v1,v2,0,0,v3,b5 _ _ a,b5 _ _ b,b5 _ _ c,b5 _ _ d,b5 _ _ e,b5 _ _ f,wi_own q1 (by omega) (fun g e=>(World.ownsRow.lt q1 g e).2),wi_own q2 (by omega) (fun g e=>(World.ownsRow.lt q2 g e).2),wi_own q3 (by omega) (fun g e=>(World.ownsRow.lt q3 g e).2)⟩
theorem hit_dn {q:List Int} {r:Rw} (hd:dst q r.2 < 340282366920938463463374607431768211456):dnH (hitOf q r) < 340282366920938463463374607431768211456/\(hitOf q r).2.1=hi (dnH (hitOf q r))/\(hitOf q r).2.2=lo (dnH (hitOf q r)):=by
 have e:dnH (hitOf q r)=dst q r.2:=by
  unfold dnH hitOf hi lo
  dsimp only
  omega
 rw [e]
 exact ⟨hd,rfl,rfl⟩
theorem regP_ck {T:Nat->Pt} {m N:Nat} {p:Pt} {q:List Int} (ok:OkP T m N p) (hq:chk q (m:Int)=0) (hids:(idsOf (rowsP T N p)).Pairwise (· ≠ ·)) (hok:∀ r ∈ rowsP T N p,okId r.1=true):ckR (regP T N p) (q.length:Int)=0/\(regP T N p).L.length<=64/\(regP T N p).H.length<=64:=by
 have hb:=(okP_box ok).1
 have hl:=(chk_ok hq).2.2.1
 have hr:rise (srt (idsOf (rowsP T N p)))=true:=rise_of hids (fun x hx=>by
  obtain ⟨row,hrow,rfl⟩:=List.mem_map.1 hx
  exact hok row hrow)
 have hk:ckR (regP T N p) (q.length:Int)=0:=by
  rw [hl] at hb
  unfold ckR at hb ⊢
  split at hb
  ·rename_i h1
   rw [if_pos h1]
   split at hb
   ·rw [if_pos ⟨by simp [uses,regP],hr⟩]
    exact hb
   ·exact absurd hb (by decide)
  ·exact absurd hb (by decide)
 refine ⟨hk,?_⟩
 have hq':ckB (regP T N p) q=0:=by
  unfold ckB
  rw [if_pos hk,<- hl]
  exact hq
 obtain ⟨k1,k2,k3,_⟩:=box_ok hq' rfl
 omega
theorem kd_sea {Iq:Nat->Prop} {W:World} {tb m leaf:Nat} {rs:List Rw} {F:List Nat} (t:TreeAt Iq W tb m leaf rs F) {q:List Int} (hq:chk q (m:Int)=0) {k b:Nat} (hk:1<=k/\k<=64) (hb:b<=1000000):∃ a,SeaP W tb rs q k b a:=by
 obtain ⟨T,N,R,hI,hs,c⟩:=kd_search t hq hk hb
 obtain ⟨hok,hm⟩:=t.rok
 have hql:=(chk_ok hq).2.2.1
 have hids:=hI.rows
 have hlen:=hids.length_eq
 rw [List.length_append] at hlen
 have h512:=hok.few
 have hmem:∀ r,r ∈ R.seen ++ R.opn.flatMap (rowsP T N)->r ∈ rs:=fun r hr=>hids.mem_iff.1 hr
 have hnd:(idsOf (R.seen ++ R.opn.flatMap (rowsP T N))).Pairwise (· ≠ ·):=(List.Perm.pairwise_iff (fun e=>Ne.symm e) (hids.map Prod.fst)).2 hok.ids
 have hsn:(idsOf R.seen).Pairwise (· ≠ ·):=by
  unfold idsOf at hnd ⊢
  rw [List.map_append] at hnd
  exact (List.pairwise_append.1 hnd).1
 have hon:∀ p ∈ R.opn,(idsOf (rowsP T N p)).Pairwise (· ≠ ·):=fun p hp=>by
  unfold idsOf at hnd ⊢
  rw [List.map_append] at hnd
  exact (List.pairwise_append.1 hnd).2.1.sublist ((sub_flat hp).map _)
 have hom:∀ p ∈ R.opn,∀ r ∈ rowsP T N p,r ∈ rs:=fun p hp r hr=>hmem r (List.mem_append_right _ (List.mem_flatMap.2 ⟨p,hp,hr⟩))
 have hck:∀ p ∈ R.opn,ckR (regP T N p) (q.length:Int)=0/\(regP T N p).L.length<=64/\(regP T N p).H.length<=64:=fun p hp=>regP_ck (hI.ok p hp) hq (hon p hp) (fun r hr=>(hok.row r (hom p hp r hr)).1)
 have hpl:∀ p ∈ R.opn,(rowsP T N p).length<=(R.opn.flatMap (rowsP T N)).length:=fun p hp=>(sub_flat hp).length_le
 have hol:R.opn.length<=(R.opn.flatMap (rowsP T N)).length:=by
  rw [List.length_flatMap]
  have:∀ (l:List Pt),(∀ p ∈ l,1<=(rowsP T N p).length)->l.length<=(l.map fun p=>(rowsP T N p).length).sum:=by
   intro l
   induction l with
   | nil=>intro _;simp
   | cons p r ih =>
    intro h
    have:=ih (fun x hx=>h x (List.mem_cons_of_mem _ hx))
    have:=h p List.mem_cons_self
    simp only [List.map_cons,List.sum_cons,List.length_cons]
    omega
  exact this _ (fun p hp=>List.length_pos_iff.2 (okP_ne N p (hI.ok p hp)))
 have hsl:(srt (idsOf R.seen)).length=R.seen.length:=by rw [srt_len];simp [idsOf]
 have hil:∀ p,(srt (idsOf (rowsP T N p))).length=(rowsP T N p).length:=fun p=>by rw [srt_len];simp [idsOf]
 have hregs:∀ r ∈ R.opn.reverse.map (regP T N),∃ p ∈ R.opn,r=regP T N p:=fun r hr=>by
  obtain ⟨p,hp,rfl⟩:=List.mem_map.1 hr
  exact ⟨p,List.mem_reverse.1 hp,rfl⟩
 have hfl:(Tk.firsts k (hitsOf q R.seen)).length<=64:=by rw [Tk.firsts_len];omega
 have hcb:certB q k ⟨Tk.firsts k (hitsOf q R.seen),srt (idsOf R.seen),R.opn.reverse.map (regP T N)⟩=true ↔ R.opn=[] ∨ ((Tk.firsts k (hitsOf q R.seen)).length=k/\∀ p ∈ R.opn,dN (Tk.firsts k (hitsOf q R.seen))[k - 1]! < bnd q p):=by
  unfold certB
  dsimp only
  rw [Bool.or_eq_true,Bool.and_eq_true,List.isEmpty_iff,List.map_eq_nil_iff,List.reverse_eq_nil_iff,decide_eq_true_eq,List.all_eq_true]
  refine or_congr Iff.rfl (and_congr ?_ ?_)
  ·rw [Tk.firsts_len];omega
  ·constructor
   ·intro h p hp
    have:=h _ (List.mem_map.2 ⟨p,List.mem_reverse.2 hp,rfl⟩)
    simpa [bdV,regP,bnd,dN,dnH] using this
   ·intro h r hr
    obtain ⟨p,hp,rfl⟩:=hregs r hr
    have:=h p hp
    simpa [bdV,regP,bnd,dN,dnH] using this
 refine ⟨⟨Tk.firsts k (hitsOf q R.seen),srt (idsOf R.seen),R.opn.reverse.map (regP T N)⟩,?_,?_,?_,?_,?_,?_,?_,?_⟩
 ·refine ⟨srtR R.seen,srtR_ids _,fun r hr=>hmem r (List.mem_append_left _ ((srtR_perm _).subset hr)),srt_lt hsn,fun r hr=>?_,Tk.firsts_perm k (hitsOf_perm q (srtR_perm _)).symm,?_⟩
  ·obtain ⟨p,hp,rfl⟩:=hregs r hr
   refine ⟨(hck p hp).1,fun e=>?_,by show 0 < 340282366920938463463374607431768211456;decide,fun x hx=>?_⟩
   ·have h1:=List.length_pos_iff.2 (okP_ne N p (hI.ok p hp))
    have h0:(regP T N p).I.length=0:=by rw [e];rfl
    have h2:(regP T N p).I.length=(rowsP T N p).length:=hil p
    omega
   ·obtain ⟨row,hrow,e⟩:=List.mem_map.1 ((srt_perm _).subset hx)
    exact ⟨row,hom p hp row hrow,e,((okP_box (hI.ok p hp)).2 row hrow).2⟩
  ·unfold allIds
   dsimp only
   refine List.Perm.trans ?_ (hids.map Prod.fst)
   rw [List.map_append]
   refine List.Perm.append (srt_perm _) ?_
   rw [List.flatMap_map,List.map_flatMap]
   refine List.Perm.trans (List.Perm.flatMap_right _ (List.reverse_perm _)) ?_
   have:∀ (l:List Pt),(l.flatMap fun p=>(regP T N p).I).Perm (l.flatMap fun p=>(rowsP T N p).map Prod.fst):=by
    intro l
    induction l with
    | nil=>exact List.Perm.refl _
    | cons p r ih =>
     rw [List.flatMap_cons,List.flatMap_cons]
     exact List.Perm.append (srt_perm _) ih
   exact this _
 ·refine ⟨by dsimp only;omega,by dsimp only;rw [hsl];omega,by dsimp only;rw [List.length_map,List.length_reverse];omega,fun r hr=>?_⟩
  obtain ⟨p,hp,rfl⟩:=hregs r hr
  have h1:=hck p hp
  have h2:=hpl p hp
  refine ⟨by omega,by omega,?_⟩
  unfold regP
  dsimp only
  rw [hil]
  omega
 ·dsimp only
  rw [hsl]
  have:=hI.bud
  omega
 ·dsimp only
  rw [hsl,hcb]
  have:=hI.bud
  rcases step_none hI hs with h | h | h
  ·exact .inr (.inr (.inl h))
  ·exact .inr (.inr (.inr h))
  ·exact .inl (by omega)
 ·intro h
  exact search_whole hq hI hs (.inr (hcb.1 h))
 ·intro x hx
  dsimp only at hx
  unfold Tk.firsts at hx
  obtain ⟨r,hr,rfl⟩:=List.mem_map.1 ((Tk.srt_perm _).mem_iff.1 (List.mem_of_mem_take hx))
  have h1:=chk_ok (hok.row r (hmem r (List.mem_append_left _ hr))).2
  have h2:=chk_ok hq
  exact hit_dn (dst_lt h2.2.2.2 h1.2.2.2 (by omega) (by omega))
 ·intro r hr
  obtain ⟨p,hp,rfl⟩:=hregs r hr
  refine ⟨?_,by show 0 < 340282366920938463463374607431768211456;decide⟩
  unfold ckB
  rw [if_pos (hck p hp).1,<- hql]
  exact hq
 ·intro W1 u g hu
  refine (c W1 u g hu).mono ?_
  rintro e W' ⟨vh,vs,vr,rfl,hA⟩
  refine ⟨vh,vs,vr,rfl,hA.gb,⟨kown_rd' hA.hits,hA.seen.rd,rgat_rd hA.rest⟩,ansk_own hA (by omega) (by omega) (by rw [List.length_map,List.length_reverse];omega) (fun r hr=>?_)⟩
  obtain ⟨p,hp,rfl⟩:=hregs r hr
  have h1:=hck p hp
  have h2:=hpl p hp
  refine ⟨by omega,by omega,?_⟩
  unfold regP
  dsimp only
  rw [hil]
  omega
end Go.Proofs.YtgbgejflmbhigaaGreat

namespace Go.Proofs.YtgbgejflmbhigaaGreat
open Go.RowKit Go.Sort
theorem cell_same {w w':World} {B T:Nat} (e:∀ k,B<=k->k < T->w'.heap[k]? = w.heap[k]?) {g o:Nat} (h1:B<=g) (h2:g < T) {v:Value} (h:w.cell? ⟨g,o,none⟩=some v):w'.cell? ⟨g,o,none⟩=some v:=by
 rw [World.cell?_of_block (w:=w) (w':=w') (a:=⟨g,o,none⟩) (e g h1 h2)];exact h
theorem rdi_same {w w':World} {B T:Nat} (e:∀ k,B<=k->k < T->w'.heap[k]? = w.heap[k]?) {v:Value} {l:List Int} (h:RdI w v l) (o:WI w B T v):RdI w' v l:=by
 obtain ⟨a,cap,ev,ha⟩:=h
 obtain ⟨a',n',c',ev',_,ho⟩:=o
 rw [ev] at ev'
 injection ev' with q1 q2 q3
 refine ⟨a,cap,ev,fun i hi'=>?_⟩
 obtain ⟨b,of,ea,hc⟩:=ha i hi'
 rcases ho with h0 | ⟨g,cur,eg,h1,h2,_⟩
 ·omega
 ·rw [q1,eg] at ea
  cases ea
  exact ⟨_,_,by rw [q1,eg],cell_same e h1 h2 hc⟩
theorem wi_same {w w':World} {B T:Nat} (e:∀ k,B<=k->k < T->w'.heap[k]? = w.heap[k]?) {v:Value} (o:WI w B T v):WI w' B T v:=by
 obtain ⟨a,n,c,ev,hn,ho⟩:=o
 refine ⟨a,n,c,ev,hn,?_⟩
 rcases ho with h0 | ⟨g,cur,eg,h1,h2,h3,h4⟩
 ·exact .inl h0
 ·exact .inr ⟨g,cur,eg,h1,h2,by rw [e g h1 h2];exact h3,h4⟩
theorem rda_same {w w':World} {B T:Nat} {vh vs vr:Value} {a:Ans} (h:RdA w vh vs vr a) (o:OwnA w B T vh vs vr) (e:∀ k,B<=k->k < T->w'.heap[k]? = w.heap[k]?) (hT:T<=w'.heap.size):RdA w' vh vs vr a/\OwnA w' B T vh vs vr:=by
 obtain ⟨a1,n1,c1,e1,hn1,w1⟩:=o.hits
 obtain ⟨a3,n3,c3,e3,hn3,w3⟩:=o.rest
 refine ⟨⟨?_,rdi_same e h.seen o.seen,?_⟩,hT,⟨a1,n1,c1,e1,hn1,?_⟩,wi_same e o.seen,⟨a3,n3,c3,e3,hn3,?_⟩⟩
 ·rcases h.hits with ⟨q1,q2⟩ | ⟨ad,cap,q1,q2⟩ | ⟨g,of,cap,q1,hl⟩
  ·exact .inl ⟨q1,q2⟩
  ·exact .inr (.inl ⟨ad,cap,q1,q2⟩)
  ·refine .inr (.inr ⟨g,of,cap,q1,?_⟩)
   intro i hi'
   obtain ⟨x0,x1,x2⟩:=hl i hi'
   rw [e1] at q1
   injection q1 with p1 p2 p3
   rcases w1 with h0 | ⟨g',cur,eg,b1,b2,_⟩
   ·omega
   ·rw [p1] at eg
    cases eg
    exact ⟨cell_same e b1 b2 x0,cell_same e b1 b2 x1,cell_same e b1 b2 x2⟩
 ·obtain ⟨a',cap,ev,hx⟩:=h.rest
  refine ⟨a',cap,ev,fun i hi'=>?_⟩
  obtain ⟨b,of,vl,vh',vi,ea,k0,k1,k2,k3,k4,k5,r1,r2,r3⟩:=hx i hi'
  rw [e3] at ev
  injection ev with p1 p2 p3
  rcases w3 with h0 | ⟨g',cur,eg,b1,b2,hh,hc⟩
  ·omega
  ·rw [p1] at eg
   rw [eg] at ea
   cases ea
   obtain ⟨S,ul,uh,x,y,ui,d0,d1,d2,d3,d4,d5,o1,o2,o3⟩:=hc i (by omega)
   have f1:vl=ul:=by
    have:=cell_of hh d1
    rw [show i * 6 + 1=0 + i * 6 + 1 by omega,k1] at this
    injection this
   have f2:vh'=uh:=by
    have:=cell_of hh d2
    rw [show i * 6 + 2=0 + i * 6 + 2 by omega,k2] at this
    injection this
   have f3:vi=ui:=by
    have:=cell_of hh d5
    rw [show i * 6 + 5=0 + i * 6 + 5 by omega,k5] at this
    injection this
   subst f1 f2 f3
   exact ⟨_,_,vl,vh',vi,eg,cell_same e b1 b2 k0,cell_same e b1 b2 k1,cell_same e b1 b2 k2,cell_same e b1 b2 k3,cell_same e b1 b2 k4,cell_same e b1 b2 k5,rdi_same e r1 o1,rdi_same e r2 o2,rdi_same e r3 o3⟩
 ·rcases w1 with h0 | ⟨g',cur,eg,b1,b2,b3,b4⟩
  ·exact .inl h0
  ·exact .inr ⟨g',cur,eg,b1,b2,by rw [e g' b1 b2];exact b3,b4⟩
 ·rcases w3 with h0 | ⟨g',cur,eg,b1,b2,hh,hc⟩
  ·exact .inl h0
  ·refine .inr ⟨g',cur,eg,b1,b2,by rw [e g' b1 b2];exact hh,fun i hi'=>?_⟩
   obtain ⟨S,ul,uh,x,y,ui,d0,d1,d2,d3,d4,d5,o1,o2,o3⟩:=hc i hi'
   exact ⟨S,ul,uh,x,y,ui,d0,d1,d2,d3,d4,d5,wi_same e o1,wi_same e o2,wi_same e o3⟩
theorem krda_nil (w:World):RdA w (.slice none 0 0) (.slice none 0 0) (.slice none 0 0) ⟨[],[],[]⟩:=⟨.inl ⟨rfl,rfl⟩,⟨none,0,rfl,fun _ hi=>absurd hi (Nat.not_lt_zero _)⟩,rdl_nil _⟩
theorem kfew_nil:Few ⟨[],[],[]⟩:=⟨Nat.zero_le _,Nat.zero_le _,Nat.zero_le _,fun r hr=>by cases hr⟩
theorem srch_fs (m:Nat) (q:List Int) (k b:Int):fsrchE q (m:Int) k b=srchE m q k b:=by
 unfold fsrchE srchE
 by_cases h:chk q (m:Int)=0
 ·rw [if_pos h,if_pos h]
  by_cases h2:(1<=k/\k<=64)/\0<=b/\b<=1000000
  ·rw [if_pos h2,if_pos ⟨h2.1.1,h2.1.2,h2.2.1,h2.2.2⟩]
  ·rw [if_neg h2,if_neg (fun h=>h2 ⟨⟨h.1,h.2.1⟩,h.2.2.1,h.2.2.2⟩)]
 ·rw [if_neg h,if_neg h]
end Go.Proofs.YtgbgejflmbhigaaGreat
