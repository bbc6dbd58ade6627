import Derived.Test.YtgbgejflmbhigaaGreatKwKqTq
import Derived.Test.YtgbgejflmbhigaaGreatKw42
import Derived.Test.YtgbgejflmbhigaaGreatKw22
import Derived.Test.YtgbgejflmbhigaaGreatKw10
import Derived.Test.YtgbgejflmbhigaaGreatKw28
import Derived.Test.YtgbgejflmbhigaaGreatKw41
import Derived.Test.YtgbgejflmbhigaaGreatKwFar
import Derived.Test.YtgbgejflmbhigaaGreatKw12
namespace Go.Proofs.YtgbgejflmbhigaaGreat
open Go.RowKit Go.Sort Go.Maps
set_option maxRecDepth 100000
set_option maxHeartbeats 4000000
theorem fnd_has {rs:List Rw} {id z:Int} (h:Ris rs) (hf:Fnd rs id z):(z=-1/\hasId rs id=false) ∨ ∃ i:Nat,z=(i:Int)/\i < rs.length/\hasId rs id=true/\plc rs id=i:=by
 rcases hf with ⟨e,h1⟩ | ⟨i,e,hi,h1⟩
 ·refine .inl ⟨e,?_⟩
  rw [Bool.eq_false_iff]
  intro hh
  unfold hasId at hh
  obtain ⟨r,hr,e2⟩:=List.any_eq_true.1 hh
  obtain ⟨j,hj,rfl⟩:=List.getElem_of_mem hr
  have:=h1 j hj
  rw [getElem!_pos rs j hj] at this
  exact this (by simpa using e2)
 ·refine .inr ⟨i,e,hi,thas_at hi h1,?_⟩
  rw [getElem!_pos rs i hi] at h1
  have hp:=List.pairwise_iff_getElem.1 h
  refine plc_of (by omega) (fun t ht hti=>?_) (fun t ht hit=>?_)
  ·have:=hp t i ht hi hti;omega
  ·by_cases e3:i=t
   ·subst e3;omega
   ·have:=hp i t hi ht (by omega);omega
theorem tdel_c {w:World} {tb m:Nat} {rs:List Rw} {G:List Nat} (h:TbAt w tb m rs G) (id:Int) :
  Calls Tryz.prog 23 #[.pointer (some ⟨tb,0,none⟩),.int .i64 id] w fun e w'=>e=.returned (.bool (hasId rs id))/\TbOut w tb m (delRw rs id) G w':=by
 have TA:Hid (TbAt w tb m rs G):=h
 have fz:=h.froz
 obtain ⟨v,d,hb,ho,hdr,hri,hl5,hG⟩:=h
 have hdl:d.length=rs.length:=by rw [<- hdr,List.length_map]
 obtain ⟨a,cap,ev⟩:=owns_form ho.row
 subst ev
 have RI:Hid (Ris rs):=hri
 have DR:Hid (d.map rwR=rs):=hdr
 obtain ⟨n,hn⟩:∃ n,n=d.length:=⟨_,rfl⟩
 have CN:Hid (n<=cap):=by
  rw [hn]
  rcases ho.row.2 with ⟨e,h0⟩ | ⟨g,c,cur,e,_,_,hc,_⟩
  ·rw [h0];exact Nat.zero_le _
  ·injection e with _ _ e3;rw [e3];exact hc
 have DL:Hid (d.length=n):=hn.symm
 have NR:Hid (n=rs.length):=by rw [hn];exact hdl
 have n512:n<=512:=by have:=NR.out;omega
 rw [<- hn] at ho hb
 have HO:Hid (OwnRs IqT w (.slice a n cap) d):=ho
 have RW:RdW w (.slice a n cap) rs:=by rw [<- hdr];exact ho.rdw
 have c1:w.cell? ⟨tb,1,none⟩=some (.slice a n cap):=by simp [World.cell?,hb]
 have cF:=rfind_c RW (by have:=NR.out;omega) id
 obtain ⟨i0,hi,hz0,hz1,hz2⟩:=info_partsW
 have II:Hid (Tryz.prog.info? 39=some i0/\i0.zero=some (.agg #[.int .i64 0,.slice none 0 0])/\i0.size=2/\i0.bytes=32):=⟨hi,hz0,hz1,hz2⟩
 have FZ:Hid (∀ W,Gb w W->W.frozen? ⟨tb,1,none⟩=false):=fun W g=>(gb_froz g c1).trans fz
 have C1:Hid (w.cell? ⟨tb,1,none⟩=some (.slice a n cap)):=c1
 clear hb ho hdr hri hl5 hG hn hdl hi hz0 hz1 hz2 RW fz
 go_enter Tryz.func23,Tryz.ntmps23
 go_wp2_with fail
 refine cF.mono ?_
 rintro e w0 ⟨⟨z,rfl,hf⟩,e2⟩
 subst e2
 clear cF
 rcases fnd_has RI.out hf with ⟨rfl,hh⟩ | ⟨q,rfl,hq,hh,hp⟩
 ·have R:Hid (hasId rs id=false/\TbOut w tb m (delRw rs id) G w):=⟨hh,by rw [del_none hh];exact ⟨G,TA.out,fun y hy=>.inl hy,Tk.Kp.refl _ _⟩⟩
  clear hf hh c1
  go_wp2
  go_ret
  exact ⟨by rw [R.out.1];rfl,R.out.2⟩
 ·have hqn:q < n:=by have:=NR.out;omega
  have PT:Hid (delRw rs id=rs.take q ++ rs.drop (q + 1)):=by
   unfold Hid
   rw [del_split RI.out hh,hp]
  have PR:Hid (Ris (delRw rs id)):=del_ris id RI.out
  have PL:Hid ((delRw rs id).length<=512):=by
   have:(delRw rs id).length<=rs.length:=List.length_filter_le _ _
   have:=NR.out
   unfold Hid
   omega
  have HH:Hid (hasId rs id=true):=hh
  obtain ⟨t1,t2⟩:=take_news HO.out q (by omega)
  generalize hA:(if cap=q + 1 then a else Option.map (fun x=>x.add ((q + 1) * 2)) a)=a2
  obtain ⟨t3,t4⟩:=rest_news HO.out (q + 1) (by omega) hA
  have T1:Hid (a=none->q=0/\cap=0):=t1
  have T2:Hid (∀ ad,a=some ad->∀ j u,((d.take q).flatMap encR)[j]? = some u->w.cell? (ad.add j)=some u):=t2
  have T3:Hid (a2=none->n - (q + 1)=0/\cap - (q + 1)=0):=t3
  have T4:Hid (∀ ad,a2=some ad->∀ j u,((d.drop (q + 1)).flatMap encR)[j]? = some u->w.cell? (ad.add j)=some u):=t4
  have hA':∀ (x y:Nat),Value.slice (if cap=q + 1 then a else Option.map (fun x=>x.add ((q + 1) * 2)) a) x y=Value.slice a2 x y:=fun x y=>by rw [hA]
  have hcn:n<=cap:=CN.out
  have hq0:(0:Int)<=(q:Int):=by omega
  have hq1:(q:Int)<=(cap:Int):=by omega
  have hq2:(q:Int)<=(n:Int):=by omega
  have hq3:(n:Int)<=(cap:Int):=by omega
  clear t1 t2 t3 t4 hf hh hp hq
  go_wp2_with (first
   | (at_builtin;refine append_any rfl _ _ 22 rfl w.heap.size 39 i0 (.agg #[.int .i64 0,.slice none 0 0]) 2 32 Tryz.underlying22 II.out.1 II.out.2.1 II.out.2.2.1 II.out.2.2.2 rfl (by decide) (.slice none 0 0) 0 [] rfl (World.ownsRow_nil _ _ _ _) a q cap ((d.take q).flatMap encR) rfl T1.out (by rw [encR_len,List.length_take,DL.out];omega) T2.out (fun u hu=>encR_one HO.out.vec u (List.mem_of_mem_take (by rw [flat_takeR];exact hu))) (by simp only [maxLen];omega) (by omega) (Nat.le_refl _) ?_;intro v1 w1 ho1 hg1 _;have G1:Gb w w1:=below_grown (Below.refl _ _) hg1 (fun k e=>by cases e) (Nat.le_refl _);have c1:=gb_keeps G1 c1)
   | (at_builtin;refine append_any rfl _ _ 22 rfl w.heap.size 39 i0 (.agg #[.int .i64 0,.slice none 0 0]) 2 32 Tryz.underlying22 II.out.1 II.out.2.1 II.out.2.2.1 II.out.2.2.2 rfl (by decide) v1 (0 + q) ([] ++ (d.take q).flatMap encR) rfl ho1 a2 (n - (q + 1)) (cap - (q + 1)) ((d.drop (q + 1)).flatMap encR) rfl T3.out (by rw [encR_len,List.length_drop,DL.out]) (fun ad e j u h=>gb_keeps G1 (T4.out ad e j u h)) (fun u hu=>encR_one HO.out.vec u (List.mem_of_mem_drop (by rw [flat_dropR];exact hu))) (by simp only [maxLen];omega) (by omega) G1.size ?_;intro v4 w4 ho4 hg4 _;obtain ⟨FF,G4⟩:=del_fin TA.out HO.out DR.out (Below.refl _ _) ho1 hg1 ho4 hg4 (by rw [DL.out]) (by rw [DL.out];omega) PT.out PR.out PL.out;have f1:=FZ.out w4 G4;have c1:=gb_keeps G4 C1.out;generalize 0 + q + (n - (q + 1))=n4 at ho4;obtain ⟨a4,k4,e4⟩:=owns_form ho4;subst e4)
   | go_in)
  have FX:Hid _:=FF
  clear FF ho1 hg1 ho4 hg4
  go_wp2
  go_ret
  exact ⟨by rw [HH.out];rfl,FX.out⟩
theorem ris_eq:∀ {a b:List Rw},Ris a->Ris b->a.Perm b->a=b
 | [],b,_,_,p=>(p.symm.eq_nil).symm
 | x :: r,[],_,_,p=>absurd p.eq_nil (by simp)
 | x :: r,y :: s,ha,hb,p=>by
  have h1:=List.pairwise_cons.1 ha
  have h2:=List.pairwise_cons.1 hb
  have e:x=y:=by
   rcases List.mem_cons.1 (p.mem_iff.1 List.mem_cons_self) with e | hx
   ·exact e
   ·rcases List.mem_cons.1 (p.mem_iff.2 (List.mem_cons_self (a:=y) (l:=s))) with e | hy
    ·exact e.symm
    ·have:=h1.1 y hy
     have:=h2.1 x hx
     omega
  subst e
  rw [ris_eq h1.2 h2.2 (List.Perm.cons_inv p)]
def put1 (m:Nat) (rs:List Rw) (r:Rw):List Rw:=if putE m rs r=0 then putRw rs r else rs
theorem puts_same {m:Nat}:∀ {l:List Rw},RowsOk l (m:Int)->Ris (l.foldr (fun r a=>put1 m a r) [])/\(l.foldr (fun r a=>put1 m a r) []).Perm l
 | [],_=>⟨List.Pairwise.nil,List.Perm.refl _⟩
 | r :: l,h=>by
  have hl:RowsOk l (m:Int):=h.sub (List.sublist_cons_self r l)
  obtain ⟨a,p⟩:=puts_same hl
  rw [List.foldr_cons]
  generalize l.foldr (fun r a=>put1 m a r) []=x at a p
  have hn:∀ y ∈ x,y.1 ≠ r.1:=fun y hy e=>by
   have h1:=h.ids
   unfold idsOf at h1
   rw [List.map_cons,List.pairwise_cons] at h1
   exact h1.1 y.1 (List.mem_map.2 ⟨y,p.mem_iff.1 hy,rfl⟩) e.symm
  have hd:delRw x r.1=x:=by
   unfold delRw
   rw [List.filter_eq_self]
   intro y hy
   have:=hn y hy
   simpa using this
  have hf:=h.few
  have he:putE m x r=0:=by
   obtain ⟨h1,h2⟩:=h.row r List.mem_cons_self
   unfold putE
   rw [if_pos h1,if_pos h2,if_neg]
   rintro ⟨_,h4⟩
   rw [p.length_eq] at h4
   simp at hf
   omega
  unfold put1
  rw [if_pos he]
  unfold putRw
  rw [hd]
  refine ⟨ins_ris a hn,(ins_perm x r).trans ?_⟩
  exact (List.perm_append_singleton r x).trans (p.cons r)
theorem puts_l {m:Nat} {l rs:List Rw} (h:RowsOk l (m:Int)) (hr:Ris rs) (hp:rs.Perm l):l.foldl (put1 m) []=rs:=by
 have h':RowsOk l.reverse (m:Int):=h.perm (List.reverse_perm l).symm
 obtain ⟨a,p⟩:=puts_same h'
 rw [List.foldr_reverse] at a p
 exact ris_eq a hr ((p.trans (List.reverse_perm l)).trans hp.symm)
theorem tb_new {w:World} {m:Nat}:TbAt (w.alloc (.cells #[.int .i64 (m:Int),.slice none 0 0] 64)) w.heap.size m [] [w.heap.size]:=by
 refine ⟨.slice none 0 0,[],heap_new _ _,⟨World.ownsRow_nil _ _ _ _,(fun x hx=>by cases hx),upT _⟩,rfl,List.Pairwise.nil,by simp,rfl⟩
def OfO (w:World) (m:Nat) (rs:List Rw) (e:Ending) (w':World):Prop:=∃ tb G,e=.returned (.pointer (some ⟨tb,0,none⟩))/\TbAt w' tb m rs G/\(∀ y ∈ G,w.heap.size<=y)/\Gb w w'
theorem tof_c {w:World} {v:Value} {l rs:List Rw} {m:Nat} (hv:RdW w v l) (hok:RowsOk l (m:Int)) (hr:Ris rs) (hp:rs.Perm l) :
  Calls Tryz.prog 8 #[v,.int .i64 (m:Int)] w fun e w'=>OfO w m rs e w':=by
 have PS:Hid (l.foldl (put1 m) []=rs):=puts_l hok hr hp
 have V:Hid (RdW w v l):=hv
 obtain ⟨av,cv,ev,_⟩:=hv
 subst ev
 obtain ⟨n,hn⟩:∃ n,n=l.length:=⟨_,rfl⟩
 have N:Hid (n=l.length):=hn
 have n512:n<=512:=by rw [hn];exact hok.few
 have T0:=tb_new (w:=w) (m:=m)
 have G0:Gb w (w.alloc (.cells #[.int .i64 (m:Int),.slice none 0 0] 64)):=gb_alloc (Below.refl _ _) _
 obtain ⟨w1,hw1⟩:∃ w1,w1=w.alloc (.cells #[.int .i64 (m:Int),.slice none 0 0] 64):=⟨_,rfl⟩
 rw [<- hw1] at T0 G0
 have TT:Hid (∃ G,TbAt w1 w.heap.size m [] G/\(∀ y ∈ G,w.heap.size<=y)/\Gb w w1):=⟨_,T0,fun y hy=>by simp at hy;omega,G0⟩
 rw [<- hn] at V ⊢
 clear hn hok hr hp T0 G0
 go_enter Tryz.func8,Tryz.ntmps8
 go_wp2
 rw [<- hw1]
 clear hw1
 go_loopw [6] (fun iv W=>∃ q:Nat,iv=.int .i64 (q:Int)/\q<=n/\Hid (∃ G,TbAt W w.heap.size m ((l.take q).foldl (put1 m) []) G/\(∀ y ∈ G,w.heap.size<=y)/\Gb w W)) (fun iv _=>n - (intOf iv).toNat)
 case atStart=>exact ⟨0,rfl,Nat.zero_le _,TT⟩
 case round =>
  clear TT
  obtain ⟨q,rfl,hq,X⟩:=hrel
  by_cases hqn:q < n
  ·have hqi:(q:Int) < (n:Int):=by omega
   have hql:q < l.length:=by have:=N.out;omega
   obtain ⟨G,tt,hG,g⟩:=X.out
   obtain ⟨_,_,e,hc⟩:=V.out
   injection e with e1 e2 e3
   subst e1 e3
   obtain ⟨rb,ro,ru,e,r0,r1,hr⟩:=hc q hql
   subst e
   have r0:=gb_keeps g r0
   have r1:=gb_keeps g r1
   have cP:=tput_c (xi:=l[q]!.1) tt (hr.gb g)
   have hs:=g.size
   have NX:Hid (∀ W',TbOut wr w.heap.size m (if putE m ((l.take q).foldl (put1 m) []) (l[q]!.1,l[q]!.2)=0 then putRw ((l.take q).foldl (put1 m) []) (l[q]!.1,l[q]!.2) else (l.take q).foldl (put1 m) []) G W'->∃ G,TbAt W' w.heap.size m ((l.take (q + 1)).foldl (put1 m) []) G/\(∀ y ∈ G,w.heap.size<=y)/\Gb w W'):=by
    rintro W' ⟨G',t',l',k'⟩
    rw [List.take_succ_eq_append_getElem hql,List.foldl_append,<- getElem!_pos l q hql]
    refine ⟨G',t',fun y hy=>?_,g.trans (k'.gr hs (fun k e=>by omega))⟩
    rcases l' y hy with h | h
    ·exact hG y h
    ·omega
   obtain ⟨ar,cr,er,_⟩:=hr.rd0
   subst er
   generalize (l.take q).foldl (put1 m) []=rsq at *
   generalize l[q]!.1=xi at *
   generalize hxl:l[q]!.2=xl at *
   generalize putE m rsq (xi,xl)=pe at *
   clear hxl hc e2 hr tt X hG hql hs g
   go_wp2_with fail
   refine cP.mono ?_
   rintro e w3 ⟨rfl,hO⟩
   have XN:Hid _:=NX.out _ hO
   clear cP hO NX r0 r1
   go_wp2
   go_roundw
   case rel=>exact ⟨q + 1,by first | rfl | go_num | simp,hqn,XN⟩
   case measure=>simp [intOf];omega
  ·have hqi:¬ (q:Int) < (n:Int):=by omega
   have FX:Hid (∃ G,TbAt wr w.heap.size m rs G/\(∀ y ∈ G,w.heap.size<=y)/\Gb w wr):=by
    obtain ⟨G,tt,hG,g⟩:=X.out
    rw [List.take_of_length_le (by have:=N.out;omega),PS.out] at tt
    exact ⟨G,tt,hG,g⟩
   clear X
   go_wp2
   go_ret
   obtain ⟨G,tt,hG,g⟩:=FX.out
   exact ⟨_,G,rfl,tt,hG,g⟩
end Go.Proofs.YtgbgejflmbhigaaGreat

namespace Go.Proofs.YtgbgejflmbhigaaGreat
open Go.RowKit Go.Sort
set_option maxHeartbeats 1000000
theorem wdv_ne (a b c d:Int) (W:World):(binOp .neq 58 (.agg #[.int .u64 a,.int .u64 b]) (.agg #[.int .u64 c,.int .u64 d])).run Tryz.prog W=.ok (.bool (!(a == c && b == d))) W:=by
 have u37:=Tryz.underlying23
 have a37:=Tryz.isAgg23
 have z37:=Tryz.sizeOf23
 have hS2:Tryz.prog.underlying 58=some (.struct (Tryz.prog.fieldsOf 58)):=by kernel_rfl
 have hp2:Tryz.prog.stoodInHeld 58=false:=by kernel_rfl
 have h24:(Op.equalIn 10000 58 (.agg #[.int .u64 a,.int .u64 b]) (.agg #[.int .u64 c,.int .u64 d])).run Tryz.prog W=.ok (a == c && b == d) W:=by
  rw [show (10000:Nat)=9999 + 1 from rfl,run_equalIn_agg W 9999 58 _ _ hS2 hp2]
  simp only [Program.fieldsOf,Tryz.underlying58]
  go_simp
  by_cases h1:a=c <;> by_cases h2:b=d <;> simp [h1,h2]
 rw [run_neq_struct,h24];rfl
theorem before_c (i j:Int) (m n:Nat) (hm:m < 340282366920938463463374607431768211456) (hn:n < 340282366920938463463374607431768211456) (w:World) :
  Calls Tryz.prog 160 #[Tk.hv (i,hi m,lo m),Tk.hv (j,hi n,lo n)] w fun e w'=>e=.returned (.bool (Tk.hlt (i,hi m,lo m) (j,hi n,lo n)))/\Gr w w':=by
 have G0:Gr w ((w.alloc (.cells #[.int .i64 i,.int .u64 (hi m),.int .u64 (lo m)] 60)).alloc (.cells #[.int .i64 j,.int .u64 (hi n),.int .u64 (lo n)] 60)):=((Gr.refl _).alloc _ _).alloc _ _
 by_cases h:m=n
 ·subst h
  have he:=fun W=>wdv_ne (hi m) (lo m) (hi m) (lo m) W
  have hr:Tk.hlt (i,hi m,lo m) (j,hi m,lo m)=decide (i < j):=by
   rw [Bool.eq_iff_iff,hlt_hit,decide_eq_true_eq];omega
  rw [hr]
  simp only [beq_self_eq_true,Bool.and_self,Bool.not_true] at he
  go_enter Tryz.func160,Tryz.ntmps160
  go_wp2
  go_ret
  exact ⟨rfl,G0⟩
 ·have he:=fun W=>wdv_ne (hi m) (lo m) (hi n) (lo n) W
  have hf:(!(hi m == hi n && lo m == lo n))=true:=by
   rw [Bool.not_eq_true',Bool.and_eq_false_iff]
   by_cases h1:hi m=hi n
   ·right;rw [beq_eq_false_iff_ne];intro h2;exact h (wd_one h1 h2)
   ·left;rw [beq_eq_false_iff_ne];exact h1
  rw [hf] at he
  have hr:Tk.hlt (i,hi m,lo m) (j,hi n,lo n)=decide (m < n):=by
   rw [Bool.eq_iff_iff,hlt_hit,decide_eq_true_eq];omega
  rw [hr]
  have cl:=fun W=>less_any m n hm hn W
  go_enter Tryz.func160,Tryz.ntmps160
  go_wp2_with fail
  refine (cl _).mono ?_
  rintro e w' ⟨rfl,g⟩
  go_wp2
  go_ret
  exact ⟨rfl,G0.trans g⟩
theorem dst_comm5 {a b:List Int} (h:a.length=b.length):dst a b=dst b a:=by
 unfold dst
 rw [<- h]
 have hg:∀ x y:Int,gap x x y=gap y y x:=fun x y=>by unfold gap;(repeat' split) <;> omega
 have:∀ n,sumN (fun i=>gap a[i]! a[i]! b[i]! * gap a[i]! a[i]! b[i]!) n=sumN (fun i=>gap b[i]! b[i]! a[i]! * gap b[i]! b[i]! a[i]!) n:=fun n=>by
  congr 1;funext i;rw [hg]
 exact this _
end Go.Proofs.YtgbgejflmbhigaaGreat

namespace Go.Proofs.YtgbgejflmbhigaaGreat
open Go.RowKit Go.Sort Go.Maps
set_option maxRecDepth 100000
set_option maxHeartbeats 2000000
theorem ins_at (x:Tk.Ht):∀ (l:List Tk.Ht) (q:Nat),(∀ i,i < q->Tk.hlt x l[i]! = false)->q<=l.length->(q < l.length->Tk.hlt x l[q]! = true)->Tk.ins x l=l.take q ++ x :: l.drop q
 | [],q,_,hq,_=>by
  obtain rfl:q=0:=by simpa using hq
  rfl
 | y :: r,0,_,_,h=>by
  have:=h (by simp)
  simp only [List.getElem!_cons_zero] at this
  unfold Tk.ins
  rw [if_pos this];rfl
 | y :: r,q + 1,h1,h2,h3=>by
  have h0:=h1 0 (by omega)
  simp only [List.getElem!_cons_zero] at h0
  unfold Tk.ins
  rw [if_neg (by rw [h0];simp),ins_at x r q (fun i hi=>by have:=h1 (i + 1) (by omega);simpa using this) (by simpa using h2) (fun hq=>by have:=h3 (by simpa using hq);simpa using this)]
  rfl
structure H3 (W:World) (b:Nat) (x:Tk.Ht):Prop where
 c0:W.cell? ⟨b,0,none⟩=some (.int .i64 x.1)
 c1:W.cell? ⟨b,1,none⟩=some (.int .u64 x.2.1)
 c2:W.cell? ⟨b,2,none⟩=some (.int .u64 x.2.2)
theorem H3.gb {W W':World} {b:Nat} {x:Tk.Ht} (h:H3 W b x) (g:Gb W W'):H3 W' b x:=⟨gb_keeps g h.c0,gb_keeps g h.c1,gb_keeps g h.c2⟩
theorem H3.new (W:World) (x:Tk.Ht) (t:TypeId):H3 (W.alloc (.cells #[.int .i64 x.1,.int .u64 x.2.1,.int .u64 x.2.2] t)) W.heap.size x:=⟨by simp [go_sem],by simp [go_sem],by simp [go_sem]⟩
theorem H3.block {W W':World} {b:Nat} {x:Tk.Ht} (h:H3 W b x) (e:W'.heap[b]? = W.heap[b]?):H3 W' b x :=
 ⟨(World.cell?_of_block (a:=⟨b,0,none⟩) e).trans h.c0,(World.cell?_of_block (a:=⟨b,1,none⟩) e).trans h.c1,(World.cell?_of_block (a:=⟨b,2,none⟩) e).trans h.c2⟩
structure Hs (w W:World) (a b:Addr) (u v:Value):Prop where
 gb:Gb w W
 ca:W.cell? a=some u
 cb:W.cell? b=some v
 la:a.block < w.heap.size
 lb:b.block < w.heap.size
theorem Hs.gr {w W W':World} {a b:Addr} {u v:Value} (h:Hs w W a b u v) (g:Gb W W'):Hs w W' a b u v:=⟨gb_trans h.gb g,gb_keeps g h.ca,gb_keeps g h.cb,h.la,h.lb⟩
theorem Hs.set {w W:World} {a b:Addr} {u v:Value} {B:Nat} (h:Hs w W a b u v) (hB:w.heap.size<=B) (x y z:Value):Hs w (((W.setCell ⟨B,0,none⟩ x).setCell ⟨B,1,none⟩ y).setCell ⟨B,2,none⟩ z) a b u v:=by
 have far:∀ {p:Addr} {q:Value},p.block ≠ B->W.cell? p=some q->(((W.setCell ⟨B,0,none⟩ x).setCell ⟨B,1,none⟩ y).setCell ⟨B,2,none⟩ z).cell? p=some q:=fun {p q} hp hc=>by
  refine (World.cell?_of_block (Below.heap_setCell _ _ _ _ (by dsimp only;exact hp))).trans ?_
  refine (World.cell?_of_block (Below.heap_setCell _ _ _ _ (by dsimp only;exact hp))).trans ?_
  exact (World.cell?_of_block (Below.heap_setCell _ _ _ _ (by dsimp only;exact hp))).trans hc
 have ha:=h.la
 have hb:=h.lb
 exact ⟨gb_set (gb_set (gb_set h.gb (by dsimp only;exact hB) _) (by dsimp only;exact hB) _) (by dsimp only;exact hB) _,far (by omega) h.ca,far (by omega) h.cb,h.la,h.lb⟩
theorem hit_of_mem {q:List Int} {rs:List Rw} {x:Tk.Ht} (h:x ∈ Tk.srt (hitsOf q rs)):∃ r ∈ rs,x=hitOf q r:=by
 have:=(Tk.srt_perm _).mem_iff.1 h
 unfold hitsOf at this
 obtain ⟨r,hr,e⟩:=List.mem_map.1 this
 exact ⟨r,hr,e.symm⟩
structure Lay (w W:World) (g n cap Bh k:Nat) (L:List Tk.Ht) (x:Tk.Ht):Prop where
 arr:∃ f,HA W g (n + 1) cap f/\(∀ t,t < k->f t=L[t]!)/\∀ t,k < t->t<=n->f t=L[t - 1]!
 box:H3 W Bh x
 gb:Gb w W
 hg:w.heap.size<=g
 ne:Bh ≠ g
 more:∀ t,k<=t->t < n->Tk.hlt x L[t]! = true
theorem Lay.gr {w W W':World} {g n cap Bh k:Nat} {L:List Tk.Ht} {x:Tk.Ht} (h:Lay w W g n cap Bh k L x) (g':Gb W W'):Lay w W' g n cap Bh k L x:=by
 obtain ⟨f,h1,h2⟩:=h.arr
 exact ⟨⟨f,h1.block (g'.block _ h1.lt),h2⟩,h.box.gb g',gb_trans h.gb g',h.hg,h.ne,h.more⟩
theorem three_gb {g:Nat} {w W:World} (h:Gb w W) (hg:w.heap.size<=g) (o1 o2 o3:Nat) (x y z:Value):Gb w (((W.setCell ⟨g,o1,none⟩ x).setCell ⟨g,o2,none⟩ y).setCell ⟨g,o3,none⟩ z) :=
 gb_set (gb_set (gb_set h (by dsimp only;exact hg) _) (by dsimp only;exact hg) _) (by dsimp only;exact hg) _
theorem three_far {g b:Nat} {W:World} (hn:b ≠ g) (o1 o2 o3:Nat) (x y z:Value):(((W.setCell ⟨g,o1,none⟩ x).setCell ⟨g,o2,none⟩ y).setCell ⟨g,o3,none⟩ z).heap[b]? = W.heap[b]? :=
 (Below.heap_setCell _ _ _ _ (by dsimp only;exact hn)).trans ((Below.heap_setCell _ _ _ _ (by dsimp only;exact hn)).trans (Below.heap_setCell _ _ _ _ (by dsimp only;exact hn)))
theorem Lay.down {w W:World} {g n cap Bh k:Nat} {L:List Tk.Ht} {x:Tk.Ht} (h:Lay w W g n cap Bh (k + 1) L x) (hk:k + 1<=n) (hx:Tk.hlt x L[k]! = true) :
  Lay w (((W.setCell ⟨g,(k + 1) * 3,none⟩ (.int .i64 L[k]!.1)).setCell ⟨g,(k + 1) * 3 + 1,none⟩ (.int .u64 L[k]!.2.1)).setCell ⟨g,(k + 1) * 3 + 2,none⟩ (.int .u64 L[k]!.2.2)) g n cap Bh k L x:=by
 obtain ⟨f,h1,h2,h3⟩:=h.arr
 refine ⟨⟨_,h1.set (i:=k + 1) (by omega) L[k]!,fun t ht=>?_,fun t ht1 ht2=>?_⟩,h.box.block (three_far h.ne _ _ _ _ _ _),three_gb h.gb h.hg _ _ _ _ _ _,h.hg,h.ne,fun t ht1 ht2=>?_⟩
 ·rw [if_neg (by omega)];exact h2 t (by omega)
 ·by_cases e:t=k + 1
  ·subst e;rw [if_pos rfl];rfl
  ·rw [if_neg e];exact h3 t (by omega) ht2
 ·by_cases e:t=k
  ·subst e;exact hx
  ·exact h.more t (by omega) ht2
theorem Lay.done {w W:World} {g n cap Bh k:Nat} {L:List Tk.Ht} {x:Tk.Ht} (h:Lay w W g n cap Bh k L x) (hk:k<=n) (hn:L.length=n) (hS:Tk.Srtd L) (hx:k=0 ∨ Tk.hlt x L[k - 1]! = false) :
  OutH w (((W.setCell ⟨g,k * 3,none⟩ (.int .i64 x.1)).setCell ⟨g,k * 3 + 1,none⟩ (.int .u64 x.2.1)).setCell ⟨g,k * 3 + 2,none⟩ (.int .u64 x.2.2)) (.slice (some ⟨g,0,none⟩) (n + 1) cap) (Tk.ins x L):=by
 obtain ⟨f,h1,h2,h3⟩:=h.arr
 have hahead:∀ i,i < k->Tk.hlt x L[i]! = false:=fun i hi=>by
  rcases hx with e | e
  ·omega
  ·by_cases e2:i=k - 1
   ·rw [e2];exact e
   ·have:=List.pairwise_iff_getElem.1 hS i (k - 1) (by omega) (by omega) (by omega)
    rw [<- getElem!_pos L i (by omega),<- getElem!_pos L (k - 1) (by omega)] at this
    exact Tk.hlt_ntrans e this
 have hins:=ins_at x L k hahead (by omega) (fun hq=>h.more k (Nat.le_refl _) (by omega))
 have hl:(Tk.ins x L).length=n + 1:=by rw [Tk.ins_len,hn]
 refine ⟨?_,three_gb h.gb h.hg _ _ _ _ _ _,fun b e=>by cases e;exact h.hg⟩
 have h4:=h1.set (i:=k) (by omega) x
 rw [<- hl] at h4 ⊢
 refine own_of_ha h4 (fun i hi=>?_)
 rw [getElem!_pos (Tk.ins x L) i hi]
 have:∀ (M:List Tk.Ht) (hM:M=Tk.ins x L) (hi':i < M.length),(Tk.ins x L)[i]=M[i]:=fun M hM _=>by subst hM;rfl
 rw [this _ hins.symm (by rw [<- hins];exact hi)]
 by_cases e:i=k
 ·subst e;rw [if_pos rfl,List.getElem_append_right (by rw [List.length_take];omega)]
  simp only [List.length_take]
  rw [List.getElem_cons]
  simp
  omega
 ·rw [if_neg e]
  by_cases e2:i < k
  ·rw [h2 i e2,List.getElem_append_left (by rw [List.length_take];omega),List.getElem_take,getElem!_pos L i (by omega)]
  ·rw [h3 i (by omega) (by omega),List.getElem_append_right (by rw [List.length_take];omega)]
   rw [getElem!_pos L (i - 1) (by omega)]
   rw [List.getElem_cons]
   have e3:¬ (i - (List.take k L).length=0):=by rw [List.length_take];omega
   rw [dif_neg e3,List.getElem_drop]
   congr 1
   rw [List.length_take];omega
theorem three_new (w:World) (x:Tk.Ht) (t:TypeId):∀ j u,(Tk.enc x)[j]? = some u->(w.alloc (.cells #[.int .i64 x.1,.int .u64 x.2.1,.int .u64 x.2.2] t)).cell? ((⟨w.heap.size,0,none⟩:Addr).add j)=some u:=by
 intro j u hu
 rw [Addr.add_lit]
 rcases j with _ | _ | _ | j <;> simp [Tk.enc] at hu <;> subst hu <;> simp [go_sem]
theorem lay_new {w wr W9 w2:World} {ov v2:Value} {L:List Tk.Ht} {x:Tk.Ht} {p Bh:Nat} {o:Obj} (hp:L.length=p) (F0:H3 W9 Bh x) (FB:wr.heap.size<=Bh) (FL:Bh < W9.heap.size) (G9:Gb w W9)
  (hob:∀ g,ov.ownBlock=some g->w.heap.size<=g/\g < wr.heap.size) (hr:w2.ownsRow 0 60 3 v2 (p + 1) (Tk.fl L ++ Tk.enc x)) (hg:(W9.alloc o).grownBy w2 ov.ownBlock) (hloc:v2.ownBlock=ov.ownBlock ∨ v2.ownBlock=some (W9.alloc o).heap.size) :
  ∃ g cap,v2=.slice (some ⟨g,0,none⟩) (p + 1) cap/\Lay w w2 g p cap Bh p L x:=by
 have hO:Tk.Own w2 v2 (L ++ [x]).toArray:=by
  unfold Tk.Own
  rw [show (L ++ [x]).toArray.size=p + 1 by simp [hp],show (L ++ [x]).toArray.toList=L ++ [x] from rfl,Tk.fl_app,Tk.fl_one]
  exact hr
 rcases hr.2 with ⟨_,e0⟩ | ⟨g,cap,cur,rfl,_⟩
 ·omega
 have hA:=(ha_of_own hO).2
 rw [show (L ++ [x]).toArray.size=p + 1 by simp [hp]] at hA
 have hgl:w.heap.size<=g/\Bh ≠ g:=by
  rcases hloc with e | e
  ·have:=hob g e.symm;omega
  ·simp only [Value.ownBlock,Option.some.injEq] at e
   rw [World.size_alloc] at e
   have:=G9.size
   omega
 refine ⟨g,cap,rfl,⟨_,hA,fun t ht=>?_,fun t ht1 ht2=>by omega⟩,?_,below_grown (gb_alloc G9 _) hg (fun k e=>(hob k e).1) (by rw [World.size_alloc];have:=G9.size;omega),hgl.1,hgl.2,fun t ht1 ht2=>by omega⟩
 ·show (L ++ [x])[t]! = L[t]!
  rw [getElem!_pos (L ++ [x]) t (by simp;omega),List.getElem_append_left (by omega),<- getElem!_pos L t (by omega)]
 ·refine H3.block F0 ((hg.block Bh (by rw [World.size_alloc];omega) (fun e=>?_)).trans (Below.heap_alloc W9 _ Bh FL))
  have:=hob Bh e.symm
  omega
theorem own_fm {W:World} {ov:Value} {L:List Tk.Ht} {p:Nat} (h:Tk.Own W ov L.toArray) (hp:L.length=p):∃ a c,ov=.slice a p c:=by
 rcases h.2 with ⟨e,e0⟩ | ⟨g,cap,cur,e,_⟩
 ·have h0:p=0:=by rw [<- hp];simpa using e0
  subst h0
  exact ⟨none,0,e⟩
 ·exact ⟨some ⟨g,0,none⟩,cap,by rw [e];simp [hp]⟩
theorem six_gb {w0 W w':World} {p0 p1 p2 q0 q1 q2:Addr} {v0 v1 v2 u0 u1 u2:Value} (g:Gr W w') (h:Gb w0 W/\W.cell? p0=some v0/\W.cell? p1=some v1/\W.cell? p2=some v2/\W.cell? q0=some u0/\W.cell? q1=some u1/\W.cell? q2=some u2) :
  Gb w0 w'/\w'.cell? p0=some v0/\w'.cell? p1=some v1/\w'.cell? p2=some v2/\w'.cell? q0=some u0/\w'.cell? q1=some u1/\w'.cell? q2=some u2 :=
 ⟨gb_trans h.1 g.gb,g.keeps h.2.1,g.keeps h.2.2.1,g.keeps h.2.2.2.1,g.keeps h.2.2.2.2.1,g.keeps h.2.2.2.2.2.1,g.keeps h.2.2.2.2.2.2⟩
theorem rhits_c {w:World} {v u:Value} {rs:List Rw} {q:List Int} (hv:RdW w v rs) (hu:RdI w u q) (hask:askE rs q=0) :
  Calls Tryz.prog 123 #[v,u] w fun e w'=>∃ v',e=.returned v'/\OutH w w' v' (Tk.srt (hitsOf q rs)):=by
 have V:Hid (RdW w v rs):=hv
 have U:Hid (RdI w u q):=hu
 obtain ⟨hq0,hrok⟩:=askE_zero.1 hask
 have RO:Hid (∀ r ∈ rs,r.2.length=q.length/\allR r.2=true):=fun r hr=>by have:=chk_ok (hrok.row r hr).2;exact ⟨by omega,this.2.2.2⟩
 have QO:Hid (allR q=true/\q.length<=64):=by have:=chk_ok hq0;exact ⟨this.2.2.2,this.2.1⟩
 have hn512:=hrok.few
 obtain ⟨av,cv,rfl,_⟩:=hv
 obtain ⟨au,cu,rfl,_⟩:=hu
 obtain ⟨n,hN⟩:∃ n,n=rs.length:=⟨_,rfl⟩
 have N:Hid (n=rs.length):=hN
 obtain ⟨m,hM⟩:∃ m,m=q.length:=⟨_,rfl⟩
 rw [<- hN] at V hn512 ⊢
 rw [<- hM] at U ⊢
 clear hN hM hask hq0 hrok
 obtain ⟨i0,z0,hi0,hz0,hz1,hz2,hz3⟩:=Tk.info60
 have Z:Hid (Tryz.prog.info? 60=some i0/\i0.zero=some z0/\i0.size=3/\i0.bytes=24/\z0.cells.size=3):=⟨hi0,hz0,hz1,hz2,hz3⟩
 clear hi0 hz0 hz1 hz2 hz3
 go_enter Tryz.func123,Tryz.ntmps123
 go_wp2
 go_loopw [5,6] (fun ov iv W=>∃ p:Nat,iv=.int .i64 (p:Int)/\p<=n/\Hid (OutH w W ov (Tk.srt (hitsOf q (rs.take p))))) (fun _ iv _=>n - (intOf iv).toNat)
 case atStart=>exact ⟨0,rfl,Nat.zero_le _,by rw [List.take_zero];exact ⟨by rw [show Tk.srt (hitsOf q [])=[] from by simp [hitsOf,Tk.srt]];exact Tk.own_nil _,Below.refl _ _,fun g e=>by simp [Value.ownBlock] at e⟩⟩
 case round =>
  obtain ⟨p,rfl,hp,X⟩:=hrel
  by_cases hpn:p < n
  ·have hpi:decide ((p:Int) < (n:Int))=true:=by rw [decide_eq_true_eq];omega
   have hpp:(p:Int) < (n:Int):=by omega
   have hpl:p < rs.length:=by have:=N.out;omega
   have NX:Hid (Tk.srt (hitsOf q (rs.take (p + 1)))=Tk.ins (hitOf q rs[p]!) (Tk.srt (hitsOf q (rs.take p)))):=by unfold Hid;rw [hitsOf_snoc q hpl,Tk.srt_snoc]
   have SL:Hid ((Tk.srt (hitsOf q (rs.take p))).length=p/\Tk.Srtd (Tk.srt (hitsOf q (rs.take p)))/\∀ y ∈ Tk.srt (hitsOf q (rs.take p)),∃ (i:Int) (d:Nat),y=(i,hi d,lo d)/\d < 340282366920938463463374607431768211456) :=
    ⟨by rw [Tk.srt_len,hitsOf_len,List.length_take];omega,Tk.srt_srtd _,fun y hy=>by
     obtain ⟨r,hr,e⟩:=hit_of_mem hy
     have h1:=RO.out r (List.mem_of_mem_take hr)
     exact ⟨r.1,dst q r.2,e,dst_lt QO.out.1 h1.2 (by omega) QO.out.2⟩⟩
   have hrp:=RO.out rs[p]! (by rw [getElem!_pos rs p hpl];exact List.getElem_mem hpl)
   have hdl:dst q rs[p]!.2 < 340282366920938463463374607431768211456:=dst_lt QO.out.1 hrp.2 (by omega) QO.out.2
   obtain ⟨_,_,ev,hA⟩:=V.out
   obtain ⟨b,o,ur,ea,k1,k2,k3⟩:=hA p hpl
   injection ev with ev1 ev2 ev3
   subst ev1
   subst ea
   clear hA ev2 ev3
   have cf:=fun W (g:Gb w W)=>far_c (k3.gb g) (U.out.gb g) hrp.1 (by have:=QO.out.2;omega) hrp.2 QO.out.1
   rw [dst_comm5 hrp.1] at cf
   have gX:=X.out.2.1
   have y0:=gb_keeps gX k1
   have y1:=gb_keeps gX k2
   obtain ⟨pr,cr,rfl,_⟩:=k3
   have GX:Hid (Gb w wr):=gX
   obtain ⟨x,hx⟩:∃ x:Tk.Ht,x=hitOf q rs[p]! := ⟨_,rfl⟩
   have HX:Hid (x=hitOf q rs[p]!):=hx
   rw [<- hx] at NX
   have hx1:rs[p]!.1=x.1:=by rw [hx]
   have hx2:hi (dst q rs[p]!.2)=x.2.1:=by rw [hx]
   have hx3:lo (dst q rs[p]!.2)=x.2.2:=by rw [hx]
   have FS0:Hs wr wr.drew ⟨b,o + p * 2,none⟩ ⟨b,o + p * 2 + 1,none⟩ (.int .i64 rs[p]!.1) (.slice pr rs[p]!.2.length cr):=⟨(Below.refl _ _).drew,y0,y1,World.block_lt_of_cell? wr _ y0,World.block_lt_of_cell? wr _ y1⟩
   rw [hx1] at FS0
   have cf':∀ W,Gb w W->Calls Tryz.prog 159 #[.slice pr rs[p]!.2.length cr,.slice au m cu] W fun e w'=>e=.returned (.agg #[.int .u64 x.2.1,.int .u64 x.2.2])/\Gr W w':=fun W g=>by have:=cf W g;rw [show Wd (dst q rs[p]!.2)=.agg #[.int .u64 x.2.1,.int .u64 x.2.2] by rw [Wd,hx2,hx3]] at this;exact this
   have XD:Hid (∃ (i:Int) (d:Nat),x=(i,hi d,lo d)/\d < 340282366920938463463374607431768211456):=⟨_,_,hx,hdl⟩
   generalize rs[p]!.2.length=nr at *
   clear k1 k2 gX y0 y1 cf hx hx1 hx2 hx3 hdl hrp
   go_wp2
   refine wp_region_held_drew (S:=fun w'=>Hs wr w' ⟨b,o + p * 2,none⟩ ⟨b,o + p * 2 + 1,none⟩ (.int .i64 x.1) (.slice pr nr cr)) (by kernel_rfl) (FS0) (fun hHeld=>?_)
   refine tkn 0 ?_ rfl ?_ ?_;rotate_left;·(rintro w ⟨s1,s2,s3,s4,s5⟩;go_simp;try rfl)
   try simp only [Act.put,List.getElem_toArray,List.getElem_cons_zero,List.setIfInBounds_toArray,List.set_cons_zero,List.set_cons_succ]
   refine tkn 1 ?_ rfl ?_ ?_;rotate_left;·(rintro w ⟨s1,s2,s3,s4,s5⟩;go_simp;try rfl)
   try simp only [Act.put,List.getElem_toArray,List.getElem_cons_zero,List.getElem_cons_succ,List.setIfInBounds_toArray,List.set_cons_zero,List.set_cons_succ]
   refine tkn 2 ?_ rfl ?_ ?_;rotate_left;·(rintro w ⟨s1,s2,s3,s4,s5⟩;go_simp;try rfl)
   try simp only [Act.put,List.getElem_toArray,List.getElem_cons_zero,List.getElem_cons_succ,List.setIfInBounds_toArray,List.set_cons_zero,List.set_cons_succ]
   refine tkn 3 ?_ rfl ?_ ?_;rotate_left;·(rintro w ⟨s1,s2,s3,s4,s5⟩;go_simp;try rfl)
   try simp only [Act.put,List.getElem_toArray,List.getElem_cons_zero,List.getElem_cons_succ,List.setIfInBounds_toArray,List.set_cons_zero,List.set_cons_succ]
   refine tkn 4 ?_ rfl ?_ ?_;rotate_left;·(rintro w ⟨s1,s2,s3,s4,s5⟩;go_simp;try rfl)
   try simp only [Act.put,List.getElem_toArray,List.getElem_cons_zero,List.getElem_cons_succ,List.setIfInBounds_toArray,List.set_cons_zero,List.set_cons_succ]
   refine tkn 5 ?_ rfl ?_ ?_;rotate_left;·(rintro w ⟨s1,s2,s3,s4,s5⟩;go_simp;try rfl)
   try simp only [Act.put,List.getElem_toArray,List.getElem_cons_zero,List.getElem_cons_succ,List.setIfInBounds_toArray,List.set_cons_zero,List.set_cons_succ]
   refine tkn 6 ?_ rfl ?_ ?_;rotate_left;·(rintro w ⟨s1,s2,s3,s4,s5⟩;go_simp;try rfl)
   try simp only [Act.put,List.getElem_toArray,List.getElem_cons_zero,List.getElem_cons_succ,List.setIfInBounds_toArray,List.set_cons_zero,List.set_cons_succ]
   refine tkn 7 ?_ rfl ?_ ?_;rotate_left;·(rintro w ⟨s1,s2,s3,s4,s5⟩;go_simp;try rfl)
   try simp only [Act.put,List.getElem_toArray,List.getElem_cons_zero,List.getElem_cons_succ,List.setIfInBounds_toArray,List.set_cons_zero,List.set_cons_succ]
   refine tkn 8 ?_ rfl ?_ ?_;rotate_left;·(rintro w ⟨s1,s2,s3,s4,s5⟩;go_simp;try rfl)
   try simp only [Act.put,List.getElem_toArray,List.getElem_cons_zero,List.getElem_cons_succ,List.setIfInBounds_toArray,List.set_cons_zero,List.set_cons_succ]
   refine tkn 9 ?_ rfl ?_ ?_;rotate_left;·(rintro w ⟨s1,s2,s3,s4,s5⟩;go_simp;try rfl)
   try simp only [Act.put,List.getElem_toArray,List.getElem_cons_zero,List.getElem_cons_succ,List.setIfInBounds_toArray,List.set_cons_zero,List.set_cons_succ]
   refine tkn 10 ?_ rfl ?_ ?_;rotate_left;·(rintro w ⟨s1,s2,s3,s4,s5⟩;go_simp;try rfl)
   try simp only [Act.put,List.getElem_toArray,List.getElem_cons_zero,List.getElem_cons_succ,List.setIfInBounds_toArray,List.set_cons_zero,List.set_cons_succ]
   refine wpAnyH_ready (rs:=[11,13]) (by kernel_rfl) (by simp) ?_
   refine AllReadyH.cons rfl (fun K hK=>?_) (AllReadyH.cons rfl (fun K hK=>?_) AllReadyH.nil)
   ·have hHeldC:=hHeld
    go_simp
    refine (cf' _ (gb_trans GX.out hHeld.gb)).mono ?_
    rintro e w4 ⟨rfl,g4⟩
    refine hK.out _ _ (hHeld.gr g4.gb) (fun hHeld=>?_)
    clear hK K
    try simp only [Act.put,List.getElem_toArray,List.getElem_cons_zero,List.getElem_cons_succ,List.setIfInBounds_toArray,List.set_cons_zero,List.set_cons_succ]
    refine tkn 12 ?_ rfl ?_ ?_;rotate_left;·(rintro w ⟨s1,s2,s3,s4,s5⟩;go_simp;try rfl)
    try simp only [Act.put,List.getElem_toArray,List.getElem_cons_zero,List.getElem_cons_succ,List.setIfInBounds_toArray,List.set_cons_zero,List.set_cons_succ]
    refine rdn 13 rfl (fun K hK=>?_)
    go_simp
    refine hK.out _ _ (hHeld.gr (gb_alloc (Below.refl _ _) _)) (fun hHeld=>?_)
    clear hK K
    try simp only [Act.put,List.getElem_toArray,List.getElem_cons_zero,List.getElem_cons_succ,List.setIfInBounds_toArray,List.set_cons_zero,List.set_cons_succ]
    have hH4:=hHeldC.gr g4.gb
    refine rdn 14 rfl (fun K hK=>?_)
    go_simp
    refine hK.out _ _ (hH4.gr (gb_alloc (Below.refl _ _) _)) (fun hHeld=>?_)
    clear hK K
    try simp only [Act.put,List.getElem_toArray,List.getElem_cons_zero,List.getElem_cons_succ,List.setIfInBounds_toArray,List.set_cons_zero,List.set_cons_succ]
    refine wpAnyH_done (by kernel_rfl) ?_ _
    have F0:H3 (w4.alloc (.cells #[.int .i64 x.1,.int .u64 x.2.1,.int .u64 x.2.2] 60)) w4.heap.size x:=H3.new w4 x _
    have FB:wr.heap.size<=w4.heap.size:=hH4.gb.size
    have FL:w4.heap.size < (w4.alloc (.cells #[.int .i64 x.1,.int .u64 x.2.1,.int .u64 x.2.2] 60)).heap.size:=by rw [World.size_alloc];omega
    clear hHeldC g4 hH4
    generalize w4.heap.size=Bh at *
    have F2:=hHeld.gb
    generalize w4.alloc (.cells #[.int .i64 x.1,.int .u64 x.2.1,.int .u64 x.2.2] 60)=W9 at *
    clear hHeld
    obtain ⟨L,hL⟩:∃ L,L=Tk.srt (hitsOf q (rs.take p)):=⟨_,rfl⟩
    rw [<- hL] at X NX SL
    have OW:Tk.Own W9 u5 L.toArray:=Tk.own_gr X.out.1 F2
    have hob:Hid (∀ g,u5.ownBlock=some g->w.heap.size<=g/\g < wr.heap.size):=fun g e=>⟨X.out.2.2 g e,Tk.own_lt X.out.1 e⟩
    have G9:Hid (Gb w W9):=gb_trans X.out.2.1 F2
    obtain ⟨pv,cw,ev⟩:=own_fm OW SL.out.1
    subst ev
    have OW':W9.ownsRow 0 60 3 (.slice pv p cw) p (Tk.fl L):=by have h:=OW;unfold Tk.Own at h;rw [List.size_toArray,SL.out.1] at h;exact h
    have LN:Hid (∀ (v2:Value) (w2:World),w2.ownsRow 0 60 3 v2 (p + 1) (Tk.fl L ++ Tk.enc x)->(W9.alloc (.cells #[.int .i64 x.1,.int .u64 x.2.1,.int .u64 x.2.2] 60)).grownBy w2 (Value.slice pv p cw).ownBlock->(v2.ownBlock=(Value.slice pv p cw).ownBlock ∨ v2.ownBlock=some (W9.alloc (.cells #[.int .i64 x.1,.int .u64 x.2.1,.int .u64 x.2.2] 60)).heap.size)->∃ g cap,v2=.slice (some ⟨g,0,none⟩) (p + 1) cap/\Lay w w2 g p cap Bh p L x):=fun v2 w2 h1 h2 h3=>lay_new SL.out.1 F0 FB FL G9.out hob.out h1 h2 h3
    obtain ⟨e0,e1,e2⟩:=F0
    have Z':=Z.out
    have hp512:p<=512:=by omega
    clear X OW F2 hL FB FL
    go_wp2_with (first
     | (at_builtin;refine wpList_append_own_at _ rfl _ _ 48 rfl 0 60 i0 z0 3 24 Tryz.underlying48 Z'.1 Z'.2.1 Z'.2.2.1 Z'.2.2.2.1 Z'.2.2.2.2 (by decide) (.slice pv p cw) p (Tk.fl L) rfl (World.ownsRow.alloc OW' _) ⟨W9.heap.size,0,none⟩ 1 1 (Tk.enc x) rfl rfl (three_new _ _ _) (Tk.enc_one x) (by unfold maxLen;omega) (by omega) (Nat.zero_le _) ?_;intro v2 w2 hown2 hgrow2 hnil2 hloc2)
     | go_in)
    obtain ⟨g,cap2,ev2,hLay⟩:=LN.out v2 w2 hown2 hgrow2 hloc2
    subst ev2
    have LY0:Hid (Lay w w2 g p cap2 Bh p L x):=hLay
    clear hown2 hgrow2 hnil2 hloc2 LN OW' hLay e0 e1 e2
    go_loopw [8] (fun kv W=>∃ k:Nat,kv=.int .i64 (k:Int)/\k<=p/\Hid (Lay w W g p cap2 Bh k L x)) (fun kv _=>(intOf kv).toNat)
    case atStart=>exact ⟨p,rfl,Nat.le_refl _,LY0.out⟩
    case round =>
     clear LY0
     obtain ⟨k,rfl,hk,LY⟩:=hrel
     obtain ⟨f,hf1,hf2,hf3⟩:=LY.out.arr
     obtain ⟨e0,e1,e2⟩:=LY.out.box
     obtain ⟨c0,c1,c2⟩:=hf1.cell (i:=k) (by omega)
     have z0':=hf1.frozen (k * 3)
     have z1':=hf1.frozen (k * 3 + 1)
     have z2':=hf1.frozen (k * 3 + 2)
     have hkp:(k:Int) < (p:Int) + 1:=by omega
     by_cases hk0:k=0
     ·subst hk0
      have FN:Hid (∀ W',Gb wr W'->OutH w (((W'.setCell ⟨g,0,none⟩ (.int .i64 x.1)).setCell ⟨g,1,none⟩ (.int .u64 x.2.1)).setCell ⟨g,2,none⟩ (.int .u64 x.2.2)) (.slice (some ⟨g,0,none⟩) (p + 1) cap2) (Tk.srt (hitsOf q (rs.take (p + 1))))):=fun W' gW=>by rw [NX.out];have:=(LY.out.gr gW).done (Nat.zero_le _) SL.out.1 SL.out.2.1 (.inl rfl);simpa using this
      simp only [Nat.zero_mul,Nat.zero_add] at c0 c1 c2 z0' z1' z2'
      clear LY hf1 hf2 hf3
      go_wp2
      go_quiet (fail)
      go_wp2
      exact ⟨⟨p + 1,by go_num,hpn,FN.out _ (below_drewN (Below.refl _ _) _)⟩,by simp [intOf];omega⟩
     ·obtain ⟨j,hj⟩:∃ j,k=j + 1:=⟨k - 1,by omega⟩
      have hkpos:(0:Int) < (k:Int):=by omega
      have hk1:(k:Int) - 1=(j:Int):=by omega
      have hjw:IntKind.i64.wrap (j:Int)=(j:Int):=by rw [IntKind.wrap_i64];omega
      have hjp:(j:Int) < (p:Int) + 1:=by omega
      have hjn:j < p + 1:=by omega
      obtain ⟨d0,d1,d2⟩:=hf1.cell (i:=j) (by omega)
      rw [hf2 j (by omega)] at d0 d1 d2
      obtain ⟨iy,dy,ey,hdy⟩:=SL.out.2.2 L[j]! (by rw [getElem!_pos L j (by have:=SL.out.1;omega)];exact List.getElem_mem _)
      obtain ⟨ix,dx,ex,hdx⟩:=XD.out
      have cb:=fun W=>before_c ix iy dx dy hdx hdy W
      rw [<- ex,<- ey] at cb
      have DN:Hid (∀ W',Gb wr W'->Tk.hlt x L[j]! = true->Lay w (((W'.setCell ⟨g,k * 3,none⟩ (.int .i64 L[j]!.1)).setCell ⟨g,k * 3 + 1,none⟩ (.int .u64 L[j]!.2.1)).setCell ⟨g,k * 3 + 2,none⟩ (.int .u64 L[j]!.2.2)) g p cap2 Bh j L x):=fun W' gW hx=>by subst hj;exact (LY.out.gr gW).down hk hx
      have FN:Hid (∀ W',Gb wr W'->Tk.hlt x L[j]! = false->OutH w (((W'.setCell ⟨g,k * 3,none⟩ (.int .i64 x.1)).setCell ⟨g,k * 3 + 1,none⟩ (.int .u64 x.2.1)).setCell ⟨g,k * 3 + 2,none⟩ (.int .u64 x.2.2)) (.slice (some ⟨g,0,none⟩) (p + 1) cap2) (Tk.srt (hitsOf q (rs.take (p + 1))))):=fun W' gW hx=>by rw [NX.out];exact (LY.out.gr gW).done hk SL.out.1 SL.out.2.1 (.inr (by subst hj;exact hx))
      generalize L[j]! = y at *
      have hkd:decide (0 < k)=true:=decide_eq_true (by omega)
      have dr:Gb wr wr.drew:=(Below.refl _ _).drew
      have HH:Hid (HA wr g (p + 1) cap2 f):=hf1
      clear hf1 hf2 hf3 ey ex hdy hdx LY hj
      cases ht:Tk.hlt x y with
      | true =>
       have DN':Hid (∀ W',Gb wr W'->Lay w (((W'.setCell ⟨g,k * 3,none⟩ (.int .i64 y.1)).setCell ⟨g,k * 3 + 1,none⟩ (.int .u64 y.2.1)).setCell ⟨g,k * 3 + 2,none⟩ (.int .u64 y.2.2)) g p cap2 Bh j L x):=fun W' gW=>DN.out W' gW ht
       simp only [ht] at cb
       clear DN FN ht
       go_wp2
       go_region_held3 (fun w'=>Gb wr w'/\w'.cell? ⟨Bh,0,none⟩=some (.int .i64 x.1)/\w'.cell? ⟨Bh,1,none⟩=some (.int .u64 x.2.1)/\w'.cell? ⟨Bh,2,none⟩=some (.int .u64 x.2.2)/\w'.cell? ⟨g,j * 3,none⟩=some (.int .i64 y.1)/\w'.cell? ⟨g,j * 3 + 1,none⟩=some (.int .u64 y.2.1)/\w'.cell? ⟨g,j * 3 + 2,none⟩=some (.int .u64 y.2.2))
        (first | (with_reducible exact six_gb (by assumption) (by assumption)) | exact ⟨dr,e0,e1,e2,d0,d1,d2⟩)
        (first | (go_at_call 160;refine (cb _).mono ?_;rintro e w6 ⟨rfl,g6⟩))
       all_goals
        have G6:Gb wr w6:=gb_trans dr g6.gb
        have c0:=gb_keeps G6 c0
        have c1:=gb_keeps G6 c1
        have c2:=gb_keeps G6 c2
        have d0:=gb_keeps G6 d0
        have d1:=gb_keeps G6 d1
        have d2:=gb_keeps G6 d2
        have hA6:=HH.out.block (G6.block _ HH.out.lt)
        have z0':=hA6.frozen (k * 3)
        have z1':=hA6.frozen (k * 3 + 1)
        have z2':=hA6.frozen (k * 3 + 2)
        have D6:=DN'.out w6 G6
        clear cb g6 G6 hA6 DN' HH e0 e1 e2
        go_wp2
        exact ⟨⟨j,by go_num,by omega,D6⟩,by simp [intOf];omega⟩
      | false =>
       have FN':Hid (∀ W',Gb wr W'->OutH w (((W'.setCell ⟨g,k * 3,none⟩ (.int .i64 x.1)).setCell ⟨g,k * 3 + 1,none⟩ (.int .u64 x.2.1)).setCell ⟨g,k * 3 + 2,none⟩ (.int .u64 x.2.2)) (.slice (some ⟨g,0,none⟩) (p + 1) cap2) (Tk.srt (hitsOf q (rs.take (p + 1))))):=fun W' gW=>FN.out W' gW ht
       simp only [ht] at cb
       clear DN FN ht
       go_wp2
       go_region_held3 (fun w'=>Gb wr w'/\w'.cell? ⟨Bh,0,none⟩=some (.int .i64 x.1)/\w'.cell? ⟨Bh,1,none⟩=some (.int .u64 x.2.1)/\w'.cell? ⟨Bh,2,none⟩=some (.int .u64 x.2.2)/\w'.cell? ⟨g,j * 3,none⟩=some (.int .i64 y.1)/\w'.cell? ⟨g,j * 3 + 1,none⟩=some (.int .u64 y.2.1)/\w'.cell? ⟨g,j * 3 + 2,none⟩=some (.int .u64 y.2.2))
        (first | (with_reducible exact six_gb (by assumption) (by assumption)) | exact ⟨dr,e0,e1,e2,d0,d1,d2⟩)
        (first | (go_at_call 160;refine (cb _).mono ?_;rintro e w6 ⟨rfl,g6⟩))
       all_goals
        have G6:Gb wr w6:=gb_trans dr g6.gb
        have c0:=gb_keeps G6 c0
        have c1:=gb_keeps G6 c1
        have c2:=gb_keeps G6 c2
        have e0:=gb_keeps G6 e0
        have e1:=gb_keeps G6 e1
        have e2:=gb_keeps G6 e2
        have hA6:=HH.out.block (G6.block _ HH.out.lt)
        have z0':=hA6.frozen (k * 3)
        have z1':=hA6.frozen (k * 3 + 1)
        have z2':=hA6.frozen (k * 3 + 2)
        have D6:=FN'.out w6 G6
        clear cb g6 G6 hA6 FN' HH d0 d1 d2
        go_wp2
        exact ⟨⟨p + 1,by go_num,hpn,D6⟩,by simp [intOf];omega⟩
   ·have hHeldC:=hHeld
    go_simp
    refine hK.out _ _ (hHeld.gr (gb_alloc (Below.refl _ _) _)) (fun hHeld=>?_)
    clear hK K
    try simp only [Act.put,List.getElem_toArray,List.getElem_cons_zero,List.getElem_cons_succ,List.setIfInBounds_toArray,List.set_cons_zero,List.set_cons_succ]
    refine rdn 11 rfl (fun K hK=>?_)
    go_simp
    refine (cf' _ (gb_trans GX.out hHeld.gb)).mono ?_
    rintro e w4 ⟨rfl,g4⟩
    refine hK.out _ _ (hHeld.gr g4.gb) (fun hHeld=>?_)
    clear hK K
    try simp only [Act.put,List.getElem_toArray,List.getElem_cons_zero,List.getElem_cons_succ,List.setIfInBounds_toArray,List.set_cons_zero,List.set_cons_succ]
    refine tkn 12 ?_ rfl ?_ ?_;rotate_left;·(rintro w ⟨s1,s2,s3,s4,s5⟩;go_simp;try rfl)
    try simp only [Act.put,List.getElem_toArray,List.getElem_cons_zero,List.getElem_cons_succ,List.setIfInBounds_toArray,List.set_cons_zero,List.set_cons_succ]
    have A4:H3 w4 wr.heap.size (0,0,0):=(show H3 (wr.drew.alloc (.cells #[.int .i64 0,.int .u64 0,.int .u64 0] 60)) wr.heap.size (0,0,0) from H3.new wr.drew (0,0,0) _).gb g4.gb
    have FZ:∀ o,w4.frozen? ⟨wr.heap.size,o,none⟩=false:=fun o=>(g4.froz _).trans (by simp [go_sem])
    have FL0:wr.heap.size < w4.heap.size:=cell_lt A4.c0
    obtain ⟨a0,a1,a2⟩:=A4
    have f0:=FZ 0
    have f1:=FZ 1
    have f2:=FZ 2
    clear FZ
    refine rdn 14 rfl (fun K hK=>?_)
    go_simp
    refine hK.out _ _ (hHeld.set (Nat.le_refl _) _ _ _) (fun hHeld=>?_)
    clear hK K
    try simp only [Act.put,List.getElem_toArray,List.getElem_cons_zero,List.getElem_cons_succ,List.setIfInBounds_toArray,List.set_cons_zero,List.set_cons_succ]
    refine wpAnyH_done (by kernel_rfl) ?_ _
    have F0:H3 (((w4.setCell ⟨wr.heap.size,0,none⟩ (.int .i64 x.1)).setCell ⟨wr.heap.size,1,none⟩ (.int .u64 x.2.1)).setCell ⟨wr.heap.size,2,none⟩ (.int .u64 x.2.2)) wr.heap.size x:=⟨by simp [go_sem,a0],by simp [go_sem,a1],by simp [go_sem,a2]⟩
    have FB:wr.heap.size<=wr.heap.size:=Nat.le_refl _
    have FL:wr.heap.size < (((w4.setCell ⟨wr.heap.size,0,none⟩ (.int .i64 x.1)).setCell ⟨wr.heap.size,1,none⟩ (.int .u64 x.2.1)).setCell ⟨wr.heap.size,2,none⟩ (.int .u64 x.2.2)).heap.size:=by simpa [World.setCell] using FL0
    clear hHeldC g4 a0 a1 a2 f0 f1 f2 FL0
    obtain ⟨Bh,hBh⟩:∃ Bh,Bh=wr.heap.size:=⟨_,rfl⟩
    rw [<- hBh] at F0 FL hHeld ⊢
    have FB:wr.heap.size<=Bh:=by rw [hBh];exact Nat.le_refl _
    clear hBh
    have F2:=hHeld.gb
    generalize ((w4.setCell ⟨Bh,0,none⟩ (.int .i64 x.1)).setCell ⟨Bh,1,none⟩ (.int .u64 x.2.1)).setCell ⟨Bh,2,none⟩ (.int .u64 x.2.2)=W9 at *
    clear hHeld
    obtain ⟨L,hL⟩:∃ L,L=Tk.srt (hitsOf q (rs.take p)):=⟨_,rfl⟩
    rw [<- hL] at X NX SL
    have OW:Tk.Own W9 u5 L.toArray:=Tk.own_gr X.out.1 F2
    have hob:Hid (∀ g,u5.ownBlock=some g->w.heap.size<=g/\g < wr.heap.size):=fun g e=>⟨X.out.2.2 g e,Tk.own_lt X.out.1 e⟩
    have G9:Hid (Gb w W9):=gb_trans X.out.2.1 F2
    obtain ⟨pv,cw,ev⟩:=own_fm OW SL.out.1
    subst ev
    have OW':W9.ownsRow 0 60 3 (.slice pv p cw) p (Tk.fl L):=by have h:=OW;unfold Tk.Own at h;rw [List.size_toArray,SL.out.1] at h;exact h
    have LN:Hid (∀ (v2:Value) (w2:World),w2.ownsRow 0 60 3 v2 (p + 1) (Tk.fl L ++ Tk.enc x)->(W9.alloc (.cells #[.int .i64 x.1,.int .u64 x.2.1,.int .u64 x.2.2] 60)).grownBy w2 (Value.slice pv p cw).ownBlock->(v2.ownBlock=(Value.slice pv p cw).ownBlock ∨ v2.ownBlock=some (W9.alloc (.cells #[.int .i64 x.1,.int .u64 x.2.1,.int .u64 x.2.2] 60)).heap.size)->∃ g cap,v2=.slice (some ⟨g,0,none⟩) (p + 1) cap/\Lay w w2 g p cap Bh p L x):=fun v2 w2 h1 h2 h3=>lay_new SL.out.1 F0 FB FL G9.out hob.out h1 h2 h3
    obtain ⟨e0,e1,e2⟩:=F0
    have Z':=Z.out
    have hp512:p<=512:=by omega
    clear X OW F2 hL FB FL
    go_wp2_with (first
     | (at_builtin;refine wpList_append_own_at _ rfl _ _ 48 rfl 0 60 i0 z0 3 24 Tryz.underlying48 Z'.1 Z'.2.1 Z'.2.2.1 Z'.2.2.2.1 Z'.2.2.2.2 (by decide) (.slice pv p cw) p (Tk.fl L) rfl (World.ownsRow.alloc OW' _) ⟨W9.heap.size,0,none⟩ 1 1 (Tk.enc x) rfl rfl (three_new _ _ _) (Tk.enc_one x) (by unfold maxLen;omega) (by omega) (Nat.zero_le _) ?_;intro v2 w2 hown2 hgrow2 hnil2 hloc2)
     | go_in)
    obtain ⟨g,cap2,ev2,hLay⟩:=LN.out v2 w2 hown2 hgrow2 hloc2
    subst ev2
    have LY0:Hid (Lay w w2 g p cap2 Bh p L x):=hLay
    clear hown2 hgrow2 hnil2 hloc2 LN OW' hLay e0 e1 e2
    go_loopw [8] (fun kv W=>∃ k:Nat,kv=.int .i64 (k:Int)/\k<=p/\Hid (Lay w W g p cap2 Bh k L x)) (fun kv _=>(intOf kv).toNat)
    case atStart=>exact ⟨p,rfl,Nat.le_refl _,LY0.out⟩
    case round =>
     clear LY0
     obtain ⟨k,rfl,hk,LY⟩:=hrel
     obtain ⟨f,hf1,hf2,hf3⟩:=LY.out.arr
     obtain ⟨e0,e1,e2⟩:=LY.out.box
     obtain ⟨c0,c1,c2⟩:=hf1.cell (i:=k) (by omega)
     have z0':=hf1.frozen (k * 3)
     have z1':=hf1.frozen (k * 3 + 1)
     have z2':=hf1.frozen (k * 3 + 2)
     have hkp:(k:Int) < (p:Int) + 1:=by omega
     by_cases hk0:k=0
     ·subst hk0
      have FN:Hid (∀ W',Gb wr W'->OutH w (((W'.setCell ⟨g,0,none⟩ (.int .i64 x.1)).setCell ⟨g,1,none⟩ (.int .u64 x.2.1)).setCell ⟨g,2,none⟩ (.int .u64 x.2.2)) (.slice (some ⟨g,0,none⟩) (p + 1) cap2) (Tk.srt (hitsOf q (rs.take (p + 1))))):=fun W' gW=>by rw [NX.out];have:=(LY.out.gr gW).done (Nat.zero_le _) SL.out.1 SL.out.2.1 (.inl rfl);simpa using this
      simp only [Nat.zero_mul,Nat.zero_add] at c0 c1 c2 z0' z1' z2'
      clear LY hf1 hf2 hf3
      go_wp2
      go_quiet (fail)
      go_wp2
      exact ⟨⟨p + 1,by go_num,hpn,FN.out _ (below_drewN (Below.refl _ _) _)⟩,by simp [intOf];omega⟩
     ·obtain ⟨j,hj⟩:∃ j,k=j + 1:=⟨k - 1,by omega⟩
      have hkpos:(0:Int) < (k:Int):=by omega
      have hk1:(k:Int) - 1=(j:Int):=by omega
      have hjw:IntKind.i64.wrap (j:Int)=(j:Int):=by rw [IntKind.wrap_i64];omega
      have hjp:(j:Int) < (p:Int) + 1:=by omega
      have hjn:j < p + 1:=by omega
      obtain ⟨d0,d1,d2⟩:=hf1.cell (i:=j) (by omega)
      rw [hf2 j (by omega)] at d0 d1 d2
      obtain ⟨iy,dy,ey,hdy⟩:=SL.out.2.2 L[j]! (by rw [getElem!_pos L j (by have:=SL.out.1;omega)];exact List.getElem_mem _)
      obtain ⟨ix,dx,ex,hdx⟩:=XD.out
      have cb:=fun W=>before_c ix iy dx dy hdx hdy W
      rw [<- ex,<- ey] at cb
      have DN:Hid (∀ W',Gb wr W'->Tk.hlt x L[j]! = true->Lay w (((W'.setCell ⟨g,k * 3,none⟩ (.int .i64 L[j]!.1)).setCell ⟨g,k * 3 + 1,none⟩ (.int .u64 L[j]!.2.1)).setCell ⟨g,k * 3 + 2,none⟩ (.int .u64 L[j]!.2.2)) g p cap2 Bh j L x):=fun W' gW hx=>by subst hj;exact (LY.out.gr gW).down hk hx
      have FN:Hid (∀ W',Gb wr W'->Tk.hlt x L[j]! = false->OutH w (((W'.setCell ⟨g,k * 3,none⟩ (.int .i64 x.1)).setCell ⟨g,k * 3 + 1,none⟩ (.int .u64 x.2.1)).setCell ⟨g,k * 3 + 2,none⟩ (.int .u64 x.2.2)) (.slice (some ⟨g,0,none⟩) (p + 1) cap2) (Tk.srt (hitsOf q (rs.take (p + 1))))):=fun W' gW hx=>by rw [NX.out];exact (LY.out.gr gW).done hk SL.out.1 SL.out.2.1 (.inr (by subst hj;exact hx))
      generalize L[j]! = y at *
      have hkd:decide (0 < k)=true:=decide_eq_true (by omega)
      have dr:Gb wr wr.drew:=(Below.refl _ _).drew
      have HH:Hid (HA wr g (p + 1) cap2 f):=hf1
      clear hf1 hf2 hf3 ey ex hdy hdx LY hj
      cases ht:Tk.hlt x y with
      | true =>
       have DN':Hid (∀ W',Gb wr W'->Lay w (((W'.setCell ⟨g,k * 3,none⟩ (.int .i64 y.1)).setCell ⟨g,k * 3 + 1,none⟩ (.int .u64 y.2.1)).setCell ⟨g,k * 3 + 2,none⟩ (.int .u64 y.2.2)) g p cap2 Bh j L x):=fun W' gW=>DN.out W' gW ht
       simp only [ht] at cb
       clear DN FN ht
       go_wp2
       go_region_held3 (fun w'=>Gb wr w'/\w'.cell? ⟨Bh,0,none⟩=some (.int .i64 x.1)/\w'.cell? ⟨Bh,1,none⟩=some (.int .u64 x.2.1)/\w'.cell? ⟨Bh,2,none⟩=some (.int .u64 x.2.2)/\w'.cell? ⟨g,j * 3,none⟩=some (.int .i64 y.1)/\w'.cell? ⟨g,j * 3 + 1,none⟩=some (.int .u64 y.2.1)/\w'.cell? ⟨g,j * 3 + 2,none⟩=some (.int .u64 y.2.2))
        (first | (with_reducible exact six_gb (by assumption) (by assumption)) | exact ⟨dr,e0,e1,e2,d0,d1,d2⟩)
        (first | (go_at_call 160;refine (cb _).mono ?_;rintro e w6 ⟨rfl,g6⟩))
       all_goals
        have G6:Gb wr w6:=gb_trans dr g6.gb
        have c0:=gb_keeps G6 c0
        have c1:=gb_keeps G6 c1
        have c2:=gb_keeps G6 c2
        have d0:=gb_keeps G6 d0
        have d1:=gb_keeps G6 d1
        have d2:=gb_keeps G6 d2
        have hA6:=HH.out.block (G6.block _ HH.out.lt)
        have z0':=hA6.frozen (k * 3)
        have z1':=hA6.frozen (k * 3 + 1)
        have z2':=hA6.frozen (k * 3 + 2)
        have D6:=DN'.out w6 G6
        clear cb g6 G6 hA6 DN' HH e0 e1 e2
        go_wp2
        exact ⟨⟨j,by go_num,by omega,D6⟩,by simp [intOf];omega⟩
      | false =>
       have FN':Hid (∀ W',Gb wr W'->OutH w (((W'.setCell ⟨g,k * 3,none⟩ (.int .i64 x.1)).setCell ⟨g,k * 3 + 1,none⟩ (.int .u64 x.2.1)).setCell ⟨g,k * 3 + 2,none⟩ (.int .u64 x.2.2)) (.slice (some ⟨g,0,none⟩) (p + 1) cap2) (Tk.srt (hitsOf q (rs.take (p + 1))))):=fun W' gW=>FN.out W' gW ht
       simp only [ht] at cb
       clear DN FN ht
       go_wp2
       go_region_held3 (fun w'=>Gb wr w'/\w'.cell? ⟨Bh,0,none⟩=some (.int .i64 x.1)/\w'.cell? ⟨Bh,1,none⟩=some (.int .u64 x.2.1)/\w'.cell? ⟨Bh,2,none⟩=some (.int .u64 x.2.2)/\w'.cell? ⟨g,j * 3,none⟩=some (.int .i64 y.1)/\w'.cell? ⟨g,j * 3 + 1,none⟩=some (.int .u64 y.2.1)/\w'.cell? ⟨g,j * 3 + 2,none⟩=some (.int .u64 y.2.2))
        (first | (with_reducible exact six_gb (by assumption) (by assumption)) | exact ⟨dr,e0,e1,e2,d0,d1,d2⟩)
        (first | (go_at_call 160;refine (cb _).mono ?_;rintro e w6 ⟨rfl,g6⟩))
       all_goals
        have G6:Gb wr w6:=gb_trans dr g6.gb
        have c0:=gb_keeps G6 c0
        have c1:=gb_keeps G6 c1
        have c2:=gb_keeps G6 c2
        have e0:=gb_keeps G6 e0
        have e1:=gb_keeps G6 e1
        have e2:=gb_keeps G6 e2
        have hA6:=HH.out.block (G6.block _ HH.out.lt)
        have z0':=hA6.frozen (k * 3)
        have z1':=hA6.frozen (k * 3 + 1)
        have z2':=hA6.frozen (k * 3 + 2)
        have D6:=FN'.out w6 G6
        clear cb g6 G6 hA6 FN' HH d0 d1 d2
        go_wp2
        exact ⟨⟨p + 1,by go_num,hpn,D6⟩,by simp [intOf];omega⟩
  ·have hpi:¬ (p:Int) < (n:Int):=by omega
   have X':=X.out
   rw [List.take_of_length_le (by have:=N.out;omega)] at X'
   clear X
   go_wp2
   go_ret
   exact ⟨_,rfl,X'⟩
end Go.Proofs.YtgbgejflmbhigaaGreat

namespace Go.Proofs.YtgbgejflmbhigaaGreat
open Go.RowKit Go.Shelf Go.Sort Go.Lib
attribute [local go_sem] Oper.semAt_some
def R4:List Rw:=[(1,[0,0]),(2,[3,4]),(3,[0,1]),(4,[3,4])]
theorem rd_take {w:World} {b n cap c:Nat} {l:List Tk.Ht} (h:Tk.Lies w b 0 l) (hn:l.length=n) (hc:c<=n):Tk.Rd w (.slice (some ⟨b,0,none⟩) c cap) (l.take c):=by
 have hl:(l.take c).length=c:=by rw [List.length_take];omega
 refine .inr (.inr ⟨b,0,cap,by rw [hl],fun i hi=>?_⟩)
 rw [hl] at hi
 rw [getElem!_pos (l.take c) i (by omega),List.getElem_take,<- getElem!_pos l i (by omega)]
 exact h i (by omega)
theorem own_sl {w:World} {v:Value} {l:List Tk.Ht} (h:Tk.Own w v l.toArray) (h0:0 < l.length):∃ g cap,v=.slice (some ⟨g,0,none⟩) l.length cap/\l.length<=cap/\Tk.Lies w g 0 l:=by
 obtain ⟨g,cap,cur,e,hh,hc,_⟩:=Tk.own_form h (by simpa using h0)
 subst e
 exact ⟨g,cap,by simp,by simpa using hc,by simpa using Tk.own_lies h⟩
end Go.Proofs.YtgbgejflmbhigaaGreat
