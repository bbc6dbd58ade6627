import Derived.Test.YtcipdampcmfmaabGreatJa1
import Derived.Maps.OwnSet
import Derived.Maps.AppendAt
import Derived.Laws.MakeOwn
import Derived.Shelf.Sort.Plain
import Derived.Shelf.Slices.In.SortNone
import Derived.Shelf.Slices.Clone
import Derived.Shelf.Lay
import Derived.Ground.NamesProg
import Derived.Ground.Names2Prog
import Derived.Lib.OwnBridge
import Derived.Sort.OwnSortedInts
import Derived.Test.YtcipdampcmfmaabGreatJa4
import Derived.Lib.Overlaps
import Derived.Lib.AppendZerosOnto
import Derived.Laws.NewBlocks
import Derived.Laws.IdiomCopy
import Derived.Laws.Externs
import Derived.Shelf.RegionOpenPlain
import Derived.ArgAppend
namespace Go.Proofs.YtcipdampcmfmaabGreat
open Go.Shelf Go.RowKit Go.Lib Go.Sort
shelf_lay Lays.n189 Nm 189 at Tryz as Tryz.laysSort
shelf_lay Lays2.n15 Nm2 15 at Tryz as Tryz.laysClone
def Own (w:World) (base:Nat) (v:Value) (l:List Int):Prop:=w.ownsRow base 3 1 v l.length (l.map (Value.int .i64))
theorem Own.kept {w w':World} {base:Nat} {v:Value} {l:List Int} {row:Option Nat} (h:Own w base v l) (hg:w.grownBy w' row) (hne:v.ownBlock=none ∨ v.ownBlock ≠ row):Own w' base v l:=World.ownsRow.kept h hg hne
theorem Own.gb {w w':World} {base:Nat} {v:Value} {l:List Int} (h:Own w base v l) (g:Gb w w'):Own w' base v l :=
 h.kept (row:=none) ⟨g.os,g.tape,g.output,g.size,fun k hk _=>g.block k hk⟩ (by cases hv:v.ownBlock <;> simp)
theorem Own.mono {w:World} {b b':Nat} {v:Value} {l:List Int} (h:Own w b v l) (hb:b'<=b):Own w b' v l:=by
 refine ⟨h.1,?_⟩
 rcases h.2 with h | ⟨g,cap,cur,e,h1,r⟩
 ·exact .inl h
 ·exact .inr ⟨g,cap,cur,e,by omega,r⟩
theorem Own.rd {w:World} {base:Nat} {v:Value} {l:List Int} (h:Own w base v l):RdI w v l:=by
 rcases h.2 with ⟨rfl,h0⟩ | ⟨g,cap,cur,rfl,_⟩
 ·refine ⟨none,0,by rw [h0],fun i hi=>by omega⟩
 ·refine ⟨_,cap,rfl,fun i hi=>⟨g,0,rfl,?_⟩⟩
  have:=World.ownsRow.cells h (g:=g) rfl i (.int .i64 l[i]!) (by rw [List.getElem?_map,getElem!_pos l i hi,List.getElem?_eq_getElem hi];rfl)
  rwa [Addr.add_lit] at this
theorem own_nil (w:World) (base:Nat):Own w base (.slice none 0 0) []:=World.ownsRow_nil w base 3 1
theorem below_grown {B:Nat} {w0 w w':World} {row:Option Nat} (h:Below B w0 w) (g:w.grownBy w' row) (hr:∀ k,row=some k->B<=k) (hB:B<=w.heap.size):Below B w0 w' :=
 h.grown g hB (fun k e=>hr k e)
def srt (l:List Int):List Int:=l.mergeSort fun x y=>decide (x<=y)
theorem srt_len (l:List Int):(srt l).length=l.length:=List.length_mergeSort l
theorem sort_c {w:World} {base:Nat} {v:Value} {l:List Int} (h:Own w base v l) (hn:l.length<=100000) (hb:base<=w.heap.size) :
  Calls Tryz.prog 64 #[v] w fun e w'=>e=.returned (.tuple #[])/\Own w' base v (srt l)/\Below base w w':=by
 rcases h.2 with ⟨rfl,h0⟩ | ⟨g,cap,cur,rfl,hg,hh,h1,h2,h3,h4⟩
 ·have hc:=Any.slices_Sort_int_none Tryz.laysSort none 0 w
  change Calls Tryz.prog 64 _ _ _ at hc
  refine hc.mono ?_
  rintro e w' ⟨rfl,e2⟩
  subst e2
  refine ⟨rfl,?_,Below.refl _ _⟩
  have:l=[]:=List.eq_nil_of_length_eq_zero h0
  subst this
  rw [show srt []=[] by simp [srt]]
  exact own_nil _ _
 ·have hH:Holds (Value.int .i64) w g 0 l.toArray:=holds_of_blockI hh (by rw [Nat.mul_one] at h4;exact h4)
  have hc:=Any.slices_Sort_int Tryz.laysSort g 0 cap l w hH (Array.getElem?_eq_some_iff.1 hh).1 (by omega)
  change Calls Tryz.prog 64 _ _ _ at hc
  refine hc.mono ?_
  rintro e w' ⟨rfl,n,os,rfl⟩
  refine ⟨rfl,?_,?_⟩
  ·have:=ownsRow_sortedI (n:=n) (os:=os) (ts:=srt l) (srt_len l) hg hh h1 h2 h3
   unfold Own
   rw [srt_len];exact this
  ·exact below_grown (Below.refl _ _) (grownBy_sortedI _) (fun k e=>by cases e;exact hg) hb
theorem clone_c {w:World} {v:Value} {l:List Int} (h:RdI w v l) (hn:l.length<=100000) (h0:1<=l.length) :
  Calls Tryz.prog 43 #[v] w fun e w'=>∃ v',e=.returned v'/\Own w' w.heap.size v' l/\Gb w w':=by
 obtain ⟨a,cap,rfl,ha⟩:=h
 obtain ⟨b,o,rfl,_⟩:=ha 0 (by omega)
 have hc:=Any.slices_Clone_int Tryz.laysClone b o l.length cap l w (Nat.le_refl _) (by omega) (fun j hj=>by
  obtain ⟨b',o',e,hcell⟩:=ha j hj
  cases e
  rw [hcell,getElem!_pos l j hj,List.getD,List.getElem?_eq_getElem hj];rfl)
 change Calls Tryz.prog 43 _ _ _ at hc
 refine hc.mono ?_
 rintro e w' ⟨v',rfl,ho,_,hb⟩
 rw [List.take_of_length_le (Nat.le_refl _)] at ho
 exact ⟨v',rfl,ho,hb⟩
end Go.Proofs.YtcipdampcmfmaabGreat

namespace Go.Proofs.YtcipdampcmfmaabGreat
open Go.RowKit Go.Sort Go.Maps
set_option maxRecDepth 100000
set_option maxHeartbeats 4000000
abbrev Rw:Type:=Int × List Int
def RdW (w:World) (v:Value) (rs:List Rw):Prop:=∃ a cap,v=.slice a rs.length cap/\∀ i,i < rs.length->∃ b o u,a=some ⟨b,o,none⟩/\w.cell? ⟨b,o + i * 2,none⟩=some (.int .i64 rs[i]!.1)/\w.cell? ⟨b,o + i * 2 + 1,none⟩=some u/\RdI w u rs[i]!.2
theorem RdW.gb {w w':World} {v:Value} {rs:List Rw} (h:RdW w v rs) (g:Gb w w'):RdW w' v rs:=by
 obtain ⟨a,cap,e,h⟩:=h
 refine ⟨a,cap,e,fun i hi=>?_⟩
 obtain ⟨b,o,u,e1,e2,e3,e4⟩:=h i hi
 exact ⟨b,o,u,e1,gb_keeps g e2,gb_keeps g e3,e4.gb g⟩
def idsOf (rs:List Rw):List Int:=rs.map (·.1)
def rowE (rs:List Rw) (d:Int) (i:Nat):Int:=if ((idsOf rs).take i).contains rs[i]!.1=false/\okId rs[i]!.1=true then chk rs[i]!.2 d else 50
def rowsTo (rs:List Rw) (d:Int):Nat->Int
 | 0=>0
 | q + 1=>if rowsTo rs d q=0 then rowE rs d q else rowsTo rs d q
def idsE (rs:List Rw) (d:Int):Int:=if rs.length<=512 then rowsTo rs d rs.length else 2
theorem rowsTo_stay {rs:List Rw} {d:Int} {p q:Nat} (hpq:p<=q) (h:rowsTo rs d p ≠ 0):rowsTo rs d q=rowsTo rs d p:=by
 induction q with
 | zero =>
   have:p=0:=by omega
   subst this;rfl
 | succ q ih =>
  by_cases e:p=q + 1
  ·subst e;rfl
  ·have h1:=ih (by omega)
   rw [rowsTo,h1,if_neg h]
theorem rowsTo_err {rs:List Rw} {d:Int} {q:Nat} (hq:q < rs.length) (h0:rowsTo rs d q=0) (h:rowE rs d q ≠ 0) (hn:rs.length<=512):idsE rs d=rowE rs d q:=by
 have h1:rowsTo rs d (q + 1)=rowE rs d q:=by rw [rowsTo,if_pos h0]
 rw [idsE,if_pos hn,rowsTo_stay (p:=q + 1) (by omega) (by rw [h1];exact h),h1]
theorem rowsTo_next {rs:List Rw} {d:Int} {q:Nat} (h0:rowsTo rs d q=0) (h:rowE rs d q=0):rowsTo rs d (q + 1)=0:=by rw [rowsTo,if_pos h0,h]
theorem ids_take {rs:List Rw} {q:Nat} (hq:q < rs.length):(idsOf rs).take (q + 1)=(idsOf rs).take q ++ [rs[q]!.1]:=by
 unfold idsOf
 rw [List.take_succ_eq_append_getElem (by simpa using hq),getElem!_pos rs q hq];simp
theorem law3:Keyed Tryz.prog 3:=int_keyed Tryz.underlying3
theorem zero86 (w:World):(zeroValue 216).run Tryz.prog w=.ok (.agg #[]) w:=by kernel_rfl
theorem Tryz.info3:(Tryz.prog.info? 3).map (fun i=>(i.zero,i.size,i.bytes))=some (some (.int .i64 0),1,8):=by kernel_rfl
theorem make85 (n:Int) (w:World):(Instr.makeMap 215 (some (.int .i64 n))).run Tryz.prog w=.ok (.map (some w.heap.size)) (w.alloc (.map #[] 0)):=by
 have hu:=run_underlying Tryz.underlying215 w
 simp [Instr.makeMap,hu,go_sem]
def setI (l:List Int):DataW Unit:=setOf (.agg []) (l.map (Lit.int .i64))
theorem any_int (x:Int):∀ l:List Int,l.any ((fun y:Lit=>y.sameKey (.int .i64 x)) ∘ Lit.int .i64)=l.contains x
 | []=>rfl
 | a :: r=>by
  rw [List.any_cons,List.contains_cons,any_int x r]
  congr 1
  show decide (IntKind.i64=IntKind.i64/\a=x)=(x == a)
  by_cases e:a=x
  ·subst e;simp
  ·have e':¬ x=a:=fun h=>e h.symm
   simp [e,e']
theorem has_setI (l:List Int) (x:Int):Maps.has (setI l) (.int .i64 x)=l.contains x:=by
 unfold setI
 rw [has_setOf _ _ _ (fun y hy=>by obtain ⟨_,_,rfl⟩:=List.mem_map.1 hy;trivial),List.any_map]
 exact any_int x _
theorem setI_snoc (l:List Int) (x:Int):setI (l ++ [x])=(setI l).put (.int .i64 x) (.agg []):=by
 unfold setI
 rw [List.map_append,List.map_singleton,setOf_snoc]
structure IdSt (w W:World) (M:Nat) (v:Value) (l:List Int):Prop where
 map:W.ownsMap Tryz.prog 3 (unitElem (H:=Unit)) M l.length (setI l)
 row:Own W w.heap.size v l
 ne:v.ownBlock ≠ some M
 gb:Gb w W
 hM:w.heap.size<=M
theorem IdSt.alloc {w W:World} {M:Nat} {v:Value} {l:List Int} (h:IdSt w W M v l) (o:Obj):IdSt w (W.alloc o) M v l :=
 ⟨h.map.alloc o,World.ownsRow.alloc h.row o,h.ne,gb_alloc h.gb o,h.hM⟩
theorem IdSt.next {w W W1 W2:World} {M:Nat} {v v':Value} {l:List Int} {x:Int} {o:Obj} (h:IdSt w W M v l) (hm:W1.ownsMap Tryz.prog 3 (unitElem (H:=Unit)) M (l.length + 1) ((setI l).put (.int .i64 x) (.agg []))) (hg:W.grownBy W1 (some M))
  (hr:W2.ownsRow w.heap.size 3 1 v' (l.length + 1) (l.map (Value.int .i64) ++ [.int .i64 x])) (hg2:(W1.alloc o).grownBy W2 v.ownBlock) (hloc:v'.ownBlock=v.ownBlock ∨ v'.ownBlock=some (W1.alloc o).heap.size):IdSt w W2 M v' (l ++ [x]):=by
 have s1:=hg.size
 have s0:=h.gb.size
 refine ⟨?_,?_,?_,?_,h.hM⟩
 ·rw [setI_snoc,List.length_append]
  exact (hm.alloc o).kept hg2 (fun e=>h.ne e.symm)
 ·unfold Own
  rw [List.length_append,List.map_append]
  exact hr
 ·rcases hloc with e | e
  ·rw [e];exact h.ne
  ·rw [e]
   intro e2
   have:=hm.lt
   have e3:(W1.alloc o).heap.size=M:=by injection e2
   rw [World.size_alloc] at e3
   omega
 ·have b1:Below w.heap.size w W1:=below_grown h.gb hg (fun k e=>by cases e;exact h.hM) s0
  exact below_grown (b1.alloc (by omega) o) hg2 (fun k e=>(World.ownsRow.lt h.row k e).1) (by rw [World.size_alloc];omega)
theorem grown_cell {W W':World} {row:Option Nat} {p:Addr} {v:Value} (g:W.grownBy W' row) (hc:W.cell? p=some v) (hn:some p.block ≠ row):W'.cell? p=some v :=
 (World.cell?_of_block (g.block p.block (World.block_lt_of_cell? W p hc) hn)).trans hc
theorem idsOf_c {w:World} {v:Value} {rs:List Rw} (h:RdW w v rs) (d:Int) (hlen:rs.length<=4611686018427387904) (hwf:∀ i,i < rs.length->(Lit.int .i64 rs[i]!.1).wf=true) :
  Calls Tryz.prog 117 #[v,.int .i64 d] w fun e w'=>∃ v',e=.returned (.tuple #[v',.int .i64 (idsE rs d)])/\Gb w w'/\(idsE rs d=0->Own w' w.heap.size v' (srt (idsOf rs)))/\(idsE rs d ≠ 0->v'=.slice none 0 0):=by
 obtain ⟨a,cap,rfl,ha⟩:=h
 have A:Hid (∀ i,i < rs.length->∃ b o u,a=some ⟨b,o,none⟩/\w.cell? ⟨b,o + i * 2,none⟩=some (.int .i64 rs[i]!.1)/\w.cell? ⟨b,o + i * 2 + 1,none⟩=some u/\RdI w u rs[i]!.2):=ha
 have F:Hid (∀ i,i < rs.length->(Lit.int .i64 rs[i]!.1).wf=true):=hwf
 obtain ⟨n,hN⟩:∃ n,n=rs.length:=⟨_,rfl⟩
 have N:Hid (n=rs.length):=hN
 rw [<- hN] at hlen ⊢
 clear ha hwf
 by_cases hn:n<=512
 ·have E:Hid (idsE rs d=rowsTo rs d rs.length):=by unfold Hid idsE;rw [if_pos (by omega)]
  clear hN
  obtain ⟨i0,hi,hz0,hz1,hz2⟩:=info_parts Tryz.info3
  have II:Hid (Tryz.prog.info? 3=some i0/\i0.zero=some (.int .i64 0)/\i0.size=1/\i0.bytes=8):=⟨hi,hz0,hz1,hz2⟩
  obtain ⟨w1,hmk,ho,hg⟩:=run_make_own (P:=Tryz.prog) w w.heap.size 26 3 i0 (.int .i64 0) 1 Tryz.underlying26 hi hz0 hz1 .i64 .i64 n (by rw [hz2];omega) (by simp only [maxLen];omega) (Nat.le_refl _)
  have O:Hid (IdSt w (w1.alloc (.map #[] 0)) w1.heap.size (.slice (some ⟨w.heap.size,0,none⟩) 0 n) []):=by
   have hlt:=ho.lt w.heap.size rfl
   refine ⟨World.ownsMap_made _ _ _ _,World.ownsRow.alloc ho _,?_,?_,Nat.le_of_lt hlt.2⟩
   ·intro e
    have:w.heap.size=w1.heap.size:=by simpa [Value.ownBlock] using e
    omega
   ·exact gb_alloc (below_grown (Below.refl _ _) hg (fun k e=>by cases e) (Nat.le_refl _)) _
  have hmm:=make85 (n:Int)
  clear hi hz0 hz1 hz2 ho hg
  go_enter Tryz.func117,Tryz.ntmps117
  go_wp2
  clear hmk hmm
  generalize w1.heap.size=M at *
  go_loopw [6,24] (fun vv iv w'=>∃ q:Nat,iv=.int .i64 (q:Int)/\q<=n/\Hid (rowsTo rs d q=0)/\Hid (IdSt w w' M vv ((idsOf rs).take q))) (fun _ iv _=>n - (intOf iv).toNat)
  case atStart=>exact ⟨0,rfl,Nat.zero_le _,rfl,O.out⟩
  case round =>
   clear O
   obtain ⟨q,rfl,hq,X,Y⟩:=hrel
   by_cases hqn:q < n
   ·have hqi:(q:Int) < (n:Int):=by omega
    have hql:q < rs.length:=by have:=N.out;omega
    obtain ⟨b,o,u,ea,h1,h2,h3⟩:=A.out q hql
    have hkey:keyOf Tryz.prog 3 (.int .i64 rs[q]!.1)=some (.int .i64 rs[q]!.1):=keyOf_int_mk Tryz.underlying3 (F.out q hql)
    have EE:Hid (rowE rs d q=if ((idsOf rs).take q).contains rs[q]!.1=false/\okId rs[q]!.1=true then chk rs[q]!.2 d else 50):=rfl
    have NX:Hid ((idsOf rs).take (q + 1)=(idsOf rs).take q ++ [rs[q]!.1]):=ids_take hql
    have LL:Hid (((idsOf rs).take q).length=q):=by unfold Hid idsOf;rw [List.length_take];simp;omega
    have QQ:Hid (q < rs.length/\rs.length<=512):=⟨hql,by have:=N.out;omega⟩
    have hx0:=gb_keeps Y.out.gb h1
    have hx1:=gb_keeps Y.out.gb h2
    have h3:=h3.gb Y.out.gb
    have hhas:=has_setI ((idsOf rs).take q) rs[q]!.1
    have hE:Hid (rowE rs d q ≠ 0->idsE rs d=rowE rs d q):=fun h=>rowsTo_err QQ.out.1 X.out h QQ.out.2
    have hNext:Hid (rowE rs d q=0->rowsTo rs d (q + 1)=0):=fun h=>rowsTo_next X.out h
    generalize rs[q]!.1=x at *
    generalize rs[q]!.2=V at *
    generalize rowE rs d q=re at *
    clear h1 h2
    subst ea
    have hown:=fun o=>Y.out.map.alloc o
    generalize hD:setI ((idsOf rs).take q)=D at *
    generalize hL:(idsOf rs).take q=L at *
    have HD:Hid (setI L=D/\L=(idsOf rs).take q):=⟨hD,hL.symm⟩
    clear hD hL hql
    cases hcon:L.contains x with
    | true =>
     rw [hcon] at hhas
     have R:Hid (idsE rs d=50):=by
      have h1:=EE.out
      rw [if_neg (by rw [hcon];simp)] at h1
      have:=hE.out (by omega)
      unfold Hid;omega
     obtain ⟨pv,cv,rfl,_⟩:=h3
     generalize V.length=nv at *
     clear EE hE hNext NX LL hcon HD X
     go_wp2_with (first
      | (at_lookup;refine wpList_lookup_own_unit _ rfl _ _ 215 rfl 3 216 law3 Tryz.underlying215 (zero86 _) M L.length _ rfl (hown _) _ _ rfl hkey ?_)
      | go_in)
     exact bodyPost_ret (v:=.tuple #[.slice none 0 0,.int .i64 50]) (by simp [results,Tryz.results117,go_sem]) rfl ⟨.slice none 0 0,by rw [R.out],gb_alloc (gb_alloc Y.out.gb _) _,fun h=>absurd (R.out.symm.trans h) (by decide),fun _=>rfl⟩
    | false =>
     rw [hcon] at hhas
     cases hok:okId x with
     | false =>
      have c61:=fun W=>isId_v x false hok W
      have R:Hid (idsE rs d=50):=by
       have h1:=EE.out
       rw [if_neg (by rw [hok];simp)] at h1
       have:=hE.out (by omega)
       unfold Hid;omega
      obtain ⟨pv,cv,rfl,_⟩:=h3
      generalize V.length=nv at *
      clear EE hE hNext NX LL hcon HD X hok
      go_wp2_with (first
       | (at_lookup;refine wpList_lookup_own_unit _ rfl _ _ 215 rfl 3 216 law3 Tryz.underlying215 (zero86 _) M L.length _ rfl (hown _) _ _ rfl hkey ?_)
       | (go_at_call 153;refine (c61 _).mono ?_;rintro e w' ⟨rfl,e2⟩;subst e2)
       | go_in)
      exact bodyPost_ret (v:=.tuple #[.slice none 0 0,.int .i64 50]) (by simp [results,Tryz.results117,go_sem]) rfl ⟨.slice none 0 0,by rw [R.out],gb_alloc (gb_alloc Y.out.gb _) _,fun h=>absurd (R.out.symm.trans h) (by decide),fun _=>rfl⟩
     | true =>
      have c61:=fun W=>isId_v x true hok W
      have EE2:Hid (re=chk V d):=by
       have h1:=EE.out
       rw [if_pos ⟨hcon,hok⟩] at h1
       exact h1
      clear EE hok hcon
      by_cases hv:chk V d=0
      ·have c11:=fun W' (g:Gb wr W')=>check_v (h3.gb g) d 0 hv
       have R:Hid (rowsTo rs d (q + 1)=0):=hNext.out (by rw [EE2.out,hv])
       obtain ⟨pv,cv,rfl,_⟩:=h3
       generalize V.length=nv at *
       clear hE hNext EE2 hv
       have II':=II.out
       have hrow:=Y.out.row
       have hq512:L.length<=512:=by have:=LL.out;omega
       have hw0:=Y.out.gb.size
       have MW:Hid (some wr.heap.size ≠ some M):=by have:=Y.out.map.lt;unfold Hid;intro e;injection e;omega
       have T0:Hid (((wr.alloc (.cells #[.int .i64 x,.slice pv nv cv] 45)).alloc (.cells #[] 216)).cell? ⟨wr.heap.size,0,none⟩=some (.int .i64 x)):=by unfold Hid;simp [go_sem]
       go_wp2_with (first
        | (at_lookup;refine wpList_lookup_own_unit _ rfl _ _ 215 rfl 3 216 law3 Tryz.underlying215 (zero86 _) M L.length _ rfl (hown _) _ _ rfl hkey ?_)
        | (go_at_call 153;refine (c61 _).mono ?_;rintro e w' ⟨rfl,e2⟩;subst e2)
        | (go_at_call 27;refine (c11 _ (gb_alloc (gb_alloc (Below.refl _ _) _) _)).mono ?_;rintro e w' ⟨rfl,e2⟩;subst e2)
        | (at_mapUpdate;refine wpList_mapUpdate_own _ rfl _ _ _ 215 rfl 3 216 law3 Tryz.underlying215 (unitElem (H:=Unit)) M L.length _ rfl ((hown _).alloc _) (by unfold maxLen;omega) _ _ _ rfl rfl hkey _ [] unitElem_mk ?_;intro w1 hown1 hgrow1;have t0:=grown_cell hgrow1 T0.out MW.out)
        | (at_builtin;refine wpList_append_own_at _ rfl _ _ 26 rfl w.heap.size 3 i0 (.int .i64 0) 1 8 Tryz.underlying26 II'.1 II'.2.1 II'.2.2.1 II'.2.2.2 rfl (by decide) _ _ _ rfl (World.ownsRow.alloc (World.ownsRow.kept (World.ownsRow.alloc (World.ownsRow.alloc hrow _) _) hgrow1 (Or.inr Y.out.ne)) _) ⟨w1.heap.size,0,none⟩ 1 1 [.int .i64 x] rfl rfl (cell_one_new _ _ _) (ints_oneCell .i64 [x]) (by unfold maxLen;omega) (by omega) (by have:=hgrow1.size;simp at this ⊢;omega) ?_;intro v' w2 hown' hgrow2 hnil2 hloc)
        | go_in)
       have YN:=((Y.out.alloc (.cells #[.int .i64 x,.slice pv nv cv] 45)).alloc (.cells #[] 216)).next (HD.out.1 ▸ hown1) hgrow1 hown' hgrow2 hloc
       rw [<- NX.out] at YN
       clear hown1 hgrow1 hown' hgrow2 hloc hnil2 hown hrow t0
       go_roundw
       case rel=>exact ⟨q + 1,by go_num,hqn,R,YN⟩
       case measure=>simp [intOf];omega
      ·have c11:=fun W' (g:Gb wr W')=>check_v (h3.gb g) d _ rfl
       have hv':(chk V d == 0)=false:=by rw [beq_eq_false_iff_ne];exact hv
       have R:Hid (idsE rs d=chk V d/\chk V d ≠ 0):=by
        have:=hE.out (by rw [EE2.out];exact hv)
        exact ⟨by rw [this,EE2.out],hv⟩
       obtain ⟨pv,cv,rfl,_⟩:=h3
       generalize V.length=nv at *
       clear hE hNext EE2 hv NX LL HD X
       generalize chk V d=ce at *
       go_wp2_with (first
        | (at_lookup;refine wpList_lookup_own_unit _ rfl _ _ 215 rfl 3 216 law3 Tryz.underlying215 (zero86 _) M L.length _ rfl (hown _) _ _ rfl hkey ?_)
        | (go_at_call 153;refine (c61 _).mono ?_;rintro e w' ⟨rfl,e2⟩;subst e2)
        | (go_at_call 27;refine (c11 _ (gb_alloc (gb_alloc (Below.refl _ _) _) _)).mono ?_;rintro e w' ⟨rfl,e2⟩;subst e2)
        | go_in)
       exact bodyPost_ret (v:=.tuple #[.slice none 0 0,.int .i64 ce]) (by simp [results,Tryz.results117,go_sem]) rfl ⟨.slice none 0 0,by rw [R.out.1],gb_alloc (gb_alloc Y.out.gb _) _,fun h=>absurd (R.out.1.symm.trans h) R.out.2,fun _=>rfl⟩
   ·have hqi:¬ (q:Int) < (n:Int):=by omega
    have hL:(idsOf rs).take q=idsOf rs:=List.take_of_length_le (by unfold idsOf;rw [List.length_map];have:=N.out;omega)
    have Y':=Y.out
    rw [hL] at Y'
    have R:Hid (idsE rs d=0):=by
     have h1:=X.out
     rw [show q=rs.length by have:=N.out;omega] at h1
     rw [<- E.out] at h1;exact h1
    have c67:=sort_c Y'.row (by unfold idsOf;rw [List.length_map];have:=N.out;omega) Y'.gb.size
    have Y2:Hid (Gb w wr):=Y'.gb
    clear X Y Y' hL
    go_wp2_with fail
    refine c67.mono ?_
    rintro e w2 ⟨rfl,ho,hb⟩
    go_wp2
    refine bodyPost_ret (v:=.tuple #[u6,.int .i64 0]) (by simp [results,Tryz.results117,go_sem]) rfl ⟨u6,by rw [R.out],Y2.out.trans hb,fun _=>ho,fun h=>absurd R.out h⟩
 ·have hn':(n:Int) > 512:=by omega
  have E:Hid (idsE rs d=2):=by unfold Hid idsE;rw [if_neg (by omega)]
  clear hN
  go_enter Tryz.func117,Tryz.ntmps117
  go_wp2
  exact bodyPost_ret (v:=.tuple #[.slice none 0 0,.int .i64 2]) (by simp [results,Tryz.results117,go_sem]) rfl ⟨.slice none 0 0,by rw [E.out],Below.refl _ _,fun h=>absurd (E.out.symm.trans h) (by decide),fun _=>rfl⟩
end Go.Proofs.YtcipdampcmfmaabGreat

namespace Go.Proofs.YtcipdampcmfmaabGreat
open Go.RowKit Go.Sort
theorem setCells_heap (g:Nat) (e:TypeId) (s:Nat × Nat):∀ (vs:List Value) (o:Nat) (w:World) (cur:Array Value),w.heap[g]? = some (.cells cur e s)->o + vs.length<=cur.size ->
  ∃ cur',(w.setCells g o vs).heap[g]? = some (.cells cur' e s)/\cur'.size=cur.size/\∀ t,cur'[t]? = if o<=t/\t < o + vs.length then vs[t - o]? else cur[t]?
 | [],o,w,cur,h,_=>⟨cur,h,rfl,fun t=>by rw [if_neg];simp⟩
 | v :: r,o,w,cur,h,hl=>by
  rw [List.length_cons] at hl
  have h1:(w.setCell ⟨g,o,none⟩ v).heap[g]? = some (.cells (cur.setIfInBounds o v) e s):=by simp [World.setCell,Array.getElem?_modify,h]
  obtain ⟨c2,e2,s2,f2⟩:=setCells_heap g e s r (o + 1) (w.setCell ⟨g,o,none⟩ v) (cur.setIfInBounds o v) h1 (by simp;omega)
  refine ⟨c2,e2,by rw [s2];simp,fun t=>?_⟩
  rw [f2 t,List.length_cons]
  by_cases h3:o=t
  ·subst h3
   rw [if_neg (by omega),if_pos (by omega),Array.getElem?_setIfInBounds_self_of_lt (by omega)]
   simp
  ·by_cases h4:o + 1<=t/\t < o + 1 + r.length
   ·rw [if_pos h4,if_pos (by omega),show t - o=(t - (o + 1)) + 1 by omega,List.getElem?_cons_succ]
   ·rw [if_neg h4,if_neg (by omega),Array.getElem?_setIfInBounds_ne h3]
theorem kp_setCells {S:Nat->Prop} {a:World} {g:Nat} (hg:S g ∨ a.heap.size<=g):∀ (vs:List Value) (o:Nat) (w:World),Tk.Kp S a w->Tk.Kp S a (w.setCells g o vs)
 | [],_,_,h=>h
 | v :: r,o,_w,h=>kp_setCells hg r (o + 1) _ (h.setCell hg v)
theorem some_setCells (g:Nat) (e:TypeId) (s:Nat × Nat) {w:World} {cur:Array Value} (h:w.heap[g]? = some (.cells cur e s)) {o:Nat} (ho:o < cur.size):(w.cell? ⟨g,o,none⟩).isSome=true:=by
 simp [World.cell?,h,ho]
theorem run_copy_k {P:Program} (w:World) (dT sT ty elem:TypeId) (i:TypeInfo) (b o dLen dCap:Nat) (a:Addr) (sLen sCap m:Nat) (cs:List Value)
  (hu:P.underlying dT=some (.slice elem)) (hi:P.info? elem=some i) (hm:m=Nat.min sLen dLen) (hn:cs.length=m * i.size)
  (hsrc:∀ j v,cs[j]? = some v->w.cell? (a.add j)=some v) (hc:∀ j,j < cs.length->(w.cell? ⟨b,o + j,none⟩).isSome=true) (hf:∀ j,j < cs.length->w.frozen? ⟨b,o + j,none⟩=false) (h1:∀ v ∈ cs,v.oneCell'=true) :
  (Builtin.copy_ #[dT,sT] ty #[.slice (some ⟨b,o,none⟩) dLen dCap,.slice (some a) sLen sCap]).run P w=.ok (goInt m) (w.setCells b o cs):=by
 have hl:=run_firstCells_some (P:=P) w i.size m a sLen sCap cs hn hsrc
 have hst:=run_storeCells_cells (P:=P) b o cs 0 w (by simpa using hc) (by simpa using hf) h1
 simp only [Nat.add_zero] at hst
 simp [Builtin.copy_,run_underlying hu,Builtin.lenOf,sizeOf,typeInfo,hi,<- hm,hl,hst]
theorem wp_copy_k {P:Program} (w:World) {ops:Array Oper} {rest:List Oper} {o:Oper} {a:Act} {Q:Exit->Act->World->Prop} (hgd:o.guard=none) (d s:Operand) (t t':TypeId)
  (ho:o.op=.call { callee:=.builtin .copy,args:=#[d,s],argTypes:=#[t,t'] }) (v u:Value) (hd:a.eval d=v) (hs:a.eval s=u) {v':Value} {w':World}
  (hr:(Builtin.copy_ #[t,t'] o.type #[v,u]).run P w=.ok v' w') (h:wpList P ops Q rest (a.put o.dst v') w'):wpList P ops Q (o :: rest) a w:=by
 refine wpList_plain hgd fun _ hK=>?_
 unfold Oper.wp execOp
 simp only [ho,resolve,invoke,builtin,Sem.run_bind,Sem.run_pure,Result.andThen_ok,List.map_toArray,List.map_cons,List.map_nil,hd,hs,hr]
 exact hK _ _ h
theorem step_copy_k {P:Program} {ops:Array Oper} {o:Oper} {a:Act} {w:World} {K:Act->World->Prop} {Q:Exit->Act->World->Prop} {E:Prop}
  (hg:o.guard=none) (d x:Operand) (dT sT:TypeId) (hop:o.op=Op.call { callee:=Callee.builtin Builtin.copy,args:=#[d,x],argTypes:=#[dT,sT] })
  (v u:Value) (hd:a.eval d=v) (hx:a.eval x=u) {v':Value} {w':World} (hr:(Builtin.copy_ #[dT,sT] o.type #[v,u]).run P w=.ok v' w') (hK:K (a.put o.dst v') w') :
  if Region.wanted o (yielded ops a.tmps)=true then Oper.wp P o a w K Q else E:=by
 have hw:Region.wanted o (yielded ops a.tmps)=true:=by simp [Region.wanted,hg]
 rw [if_pos hw]
 unfold Oper.wp
 simp [execOp,hop,resolve,invoke,builtin,hd,hx,hr,Result.andThen]
 exact hK
theorem step_append_k {P:Program} {ops:Array Oper} {o:Oper} {a:Act} {w:World} {K:Act->World->Prop} {Q:Exit->Act->World->Prop} {E:Prop}
  (hg:o.guard=none) (d x:Operand) (dT sT:TypeId) (hop:o.op=Op.call { callee:=Callee.builtin Builtin.append,args:=#[d,x],argTypes:=#[dT,sT] })
  (v u:Value) (hd:a.eval d=v) (hx:a.eval x=u) {v':Value} {w':World} (hr:(Builtin.append_ #[dT,sT] o.type #[v,u]).run P w=.ok v' w') (hK:K (a.put o.dst v') w') :
  if Region.wanted o (yielded ops a.tmps)=true then Oper.wp P o a w K Q else E:=by
 have hw:Region.wanted o (yielded ops a.tmps)=true:=by simp [Region.wanted,hg]
 rw [if_pos hw]
 unfold Oper.wp
 simp [execOp,hop,resolve,invoke,builtin,hd,hx,hr,Result.andThen]
 exact hK
theorem ins_cells {xs vs:List Value} {a N:Nat} {cur c1 c2:Array Value} (ha:a<=xs.length) (hN:N=xs.length + vs.length) (hx:∀ t,t < a->cur[t]? = xs[t]?)
  (h1:∀ t,c1[t]? = if a + vs.length<=t/\t < a + vs.length + (xs.drop a).length then (xs.drop a)[t - (a + vs.length)]? else cur[t]?)
  (h2:∀ t,c2[t]? = if a<=t/\t < a + vs.length then vs[t - a]? else c1[t]?):c2.toList.take N=xs.take a ++ vs ++ xs.drop a:=by
 rw [List.length_drop] at h1
 apply List.ext_getElem?
 intro t
 have hl1:(xs.take a).length=a:=by rw [List.length_take];omega
 by_cases ht:t < N
 ·rw [List.getElem?_take_of_lt ht,Array.getElem?_toList,h2 t]
  by_cases c:t < a
  ·rw [if_neg (by omega),h1 t,if_neg (by omega),hx t c,List.append_assoc,List.getElem?_append_left (by omega),List.getElem?_take_of_lt c]
  ·by_cases c3:t < a + vs.length
   ·rw [if_pos (by omega),List.append_assoc,List.getElem?_append_right (by omega),hl1,List.getElem?_append_left (by omega)]
   ·rw [if_neg (by omega),h1 t,if_pos (by omega),List.getElem?_append_right (by rw [List.length_append,hl1];omega),List.length_append,hl1]
 ·rw [List.getElem?_eq_none (by rw [List.length_take];omega),List.getElem?_eq_none (by rw [List.length_append,List.length_append,hl1,List.length_drop];omega)]
theorem ins_cells' {xs vs:List Value} {a N:Nat} {cur c1 c2:Array Value} (ha:a<=xs.length) (hN:N=xs.length + vs.length) (hx:∀ t,t < a->cur[t]? = xs[t]?)
  (h1:∀ t,c1[t]? = if a<=t/\t < a + vs.length then vs[t - a]? else cur[t]?)
  (h2:∀ t,c2[t]? = if a + vs.length<=t/\t < a + vs.length + (xs.drop a).length then (xs.drop a)[t - (a + vs.length)]? else c1[t]?):c2.toList.take N=xs.take a ++ vs ++ xs.drop a:=by
 rw [List.length_drop] at h2
 apply List.ext_getElem?
 intro t
 have hl1:(xs.take a).length=a:=by rw [List.length_take];omega
 by_cases ht:t < N
 ·rw [List.getElem?_take_of_lt ht,Array.getElem?_toList,h2 t]
  by_cases c:t < a
  ·rw [if_neg (by omega),h1 t,if_neg (by omega),hx t c,List.append_assoc,List.getElem?_append_left (by omega),List.getElem?_take_of_lt c]
  ·by_cases c3:t < a + vs.length
   ·rw [if_neg (by omega),h1 t,if_pos (by omega),List.append_assoc,List.getElem?_append_right (by omega),hl1,List.getElem?_append_left (by omega)]
   ·rw [if_pos (by omega),List.getElem?_append_right (by rw [List.length_append,hl1];omega),List.length_append,hl1]
 ·rw [List.getElem?_eq_none (by rw [List.length_take];omega),List.getElem?_eq_none (by rw [List.length_append,List.length_append,hl1,List.length_drop];omega)]
end Go.Proofs.YtcipdampcmfmaabGreat
