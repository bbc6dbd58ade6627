import Derived.Test.YtcipdampcmfmaaaGreatIa2
import Derived.Laws.AppendOwnNone
import Derived.Test.YtcipdampcmfmaaaGreatIa12
import Derived.Test.YtcipdampcmfmaaaGreatIa14
import Derived.Test.YtcipdampcmfmaaaGreatIa9
import Derived.Test.YtcipdampcmfmaaaGreatIa17
import Derived.Deep.OwnRows
import Derived.Laws.CopyOwn
import Derived.Laws.OwnMore
namespace Go.Proofs.YtcipdampcmfmaaaGreat
open Go.RowKit Go.Sort Go.Maps
theorem Tryz.infoW:(Tryz.prog.info? 43).map (fun i=>(i.zero,i.size,i.bytes))=some (some (.agg #[.int .i64 0,.slice none 0 0]),2,32):=by kernel_rfl
theorem info_partsW:∃ i0,Tryz.prog.info? 43=some i0/\i0.zero=some (.agg #[.int .i64 0,.slice none 0 0])/\i0.size=2/\i0.bytes=32:=by
 obtain ⟨i,hi,hzz⟩:=Option.map_eq_some_iff.1 Tryz.infoW
 simp only [Prod.mk.injEq] at hzz
 exact ⟨i,hi,hzz.1,hzz.2.1,hzz.2.2⟩
def CellsW (w:World) (xs:List Value) (rs:List Rw):Prop:=∀ i,i < rs.length->xs[i * 2]? = some (.int .i64 rs[i]!.1)/\∃ u,xs[i * 2 + 1]? = some u/\RdI w u rs[i]!.2
theorem CellsW.gb {w w':World} {xs:List Value} {rs:List Rw} (h:CellsW w xs rs) (g:Gb w w'):CellsW w' xs rs:=fun i hi=>by
 obtain ⟨h1,u,h2,h3⟩:=h i hi
 exact ⟨h1,u,h2,h3.gb g⟩
def OwnW (w W:World) (B:Nat) (v:Value) (rs:List Rw):Prop:=∃ xs,W.ownsRow B 43 2 v rs.length xs/\CellsW w xs rs
theorem OwnW.kept {w W W':World} {B:Nat} {v:Value} {rs:List Rw} {row:Option Nat} (h:OwnW w W B v rs) (hg:W.grownBy W' row) (hne:v.ownBlock=none ∨ v.ownBlock ≠ row):OwnW w W' B v rs:=by
 obtain ⟨xs,h1,h2⟩:=h
 exact ⟨xs,h1.kept hg hne,h2⟩
theorem OwnW.gb {w W W':World} {B:Nat} {v:Value} {rs:List Rw} (h:OwnW w W B v rs) (g:Gb W W'):OwnW w W' B v rs :=
 h.kept (row:=none) ⟨g.os,g.tape,g.output,g.size,fun k hk _=>g.block k hk⟩ (by cases hv:v.ownBlock <;> simp)
theorem OwnW.rdw {w W:World} {B:Nat} {v:Value} {rs:List Rw} (h:OwnW w W B v rs) (g:Gb w W):RdW W v rs:=by
 obtain ⟨xs,h,hx⟩:=h
 rcases h.2 with ⟨rfl,h0⟩ | ⟨b,cap,cur,rfl,_⟩
 ·have:rs=[]:=List.eq_nil_of_length_eq_zero h0
  subst this
  exact ⟨none,0,rfl,fun i hi=>absurd hi (Nat.not_lt_zero _)⟩
 ·refine ⟨_,cap,rfl,fun i hi=>?_⟩
  obtain ⟨h1,u,h2,h3⟩:=hx i hi
  have c1:=World.ownsRow.cells h (g:=b) rfl (i * 2) _ h1
  have c2:=World.ownsRow.cells h (g:=b) rfl (i * 2 + 1) _ h2
  rw [Addr.add_lit] at c1 c2
  exact ⟨b,0,u,rfl,c1,by rw [Nat.add_assoc];exact c2,h3.gb g⟩
theorem OwnW.form {w W:World} {B:Nat} {v:Value} {rs:List Rw} (h:OwnW w W B v rs):∃ a cap,v=.slice a rs.length cap:=by
 obtain ⟨xs,h,_⟩:=h
 rcases h.2 with ⟨rfl,h0⟩ | ⟨b,cap,cur,rfl,_⟩
 ·exact ⟨none,0,by rw [h0]⟩
 ·exact ⟨_,cap,rfl⟩
theorem two_cells (w:World) (x y:Value) (t:TypeId):∀ j u,[x,y][j]? = some u->(w.alloc (.cells #[x,y] t)).cell? ((⟨w.heap.size,0,none⟩:Addr).add j)=some u:=by
 intro j u hj
 rw [Addr.add_lit]
 rcases j with _ | _ | j <;> simp at hj
 ·subst hj;simp [go_sem]
 ·subst hj;simp [go_sem]
end Go.Proofs.YtcipdampcmfmaaaGreat

namespace Go.Proofs.YtcipdampcmfmaaaGreat
open Go.RowKit Go.Sort
set_option maxHeartbeats 1000000
def Wf (rs:List Rw):Prop:=rs.length<=4611686018427387904/\∀ i,i < rs.length->(Lit.int .i64 rs[i]!.1).wf=true
theorem fcheck_c {w:World} {v:Value} {rs:List Rw} (h:RdW w v rs) (hwf:Wf rs) (d:Int) :
  Calls Tryz.prog 63 #[v,.int .i64 d] w fun e w'=>e=.returned (.int .i64 (flatE rs d))/\Gb w w':=by
 have hb:=box_c h d hwf.1 hwf.2
 have E:=flatE_box rs d
 obtain ⟨a,cap,rfl,_⟩:=h
 generalize boxR rs d=R at *
 generalize boxE rs d=x at *
 generalize flatE rs d=y at *
 generalize rs.length=n at *
 by_cases hx:x=1
 ·rw [if_pos hx] at E
  subst hx;subst E
  go_enter Tryz.func63,Tryz.ntmps63
  go_wp2_with fail
  refine hb.mono ?_
  rintro e w' ⟨vl,vh,vi,rfl,g,o1,o2,o3,_⟩
  obtain ⟨p1,c1,rfl,_⟩:=o1.rd
  obtain ⟨p2,c2,rfl,_⟩:=o2.rd
  obtain ⟨p3,c3,rfl,_⟩:=o3.rd
  clear hb o1 o2 o3
  go_wp2
  go_ret
  exact ⟨rfl,by refine gb_trans g ?_;go_grown⟩
 ·rw [if_neg hx] at E
  subst E
  have hx':(y == 1)=false:=by rw [beq_eq_false_iff_ne];exact hx
  go_enter Tryz.func63,Tryz.ntmps63
  go_wp2_with fail
  refine hb.mono ?_
  rintro e w' ⟨vl,vh,vi,rfl,g,o1,o2,o3,_⟩
  obtain ⟨p1,c1,rfl,_⟩:=o1.rd
  obtain ⟨p2,c2,rfl,_⟩:=o2.rd
  obtain ⟨p3,c3,rfl,_⟩:=o3.rd
  clear hb o1 o2 o3
  go_wp2
  go_ret
  exact ⟨rfl,by refine gb_trans g ?_;go_grown⟩
theorem ask_c {w:World} {v u:Value} {rs:List Rw} {q:List Int} (h:RdW w v rs) (hu:RdI w u q) (hwf:Wf rs) :
  Calls Tryz.prog 81 #[v,u] w fun e w'=>e=.returned (.int .i64 (askE rs q))/\Gb w w':=by
 have c1:=check_c hu (q.length:Int)
 have c2:=fcheck_c h hwf (q.length:Int)
 have E:askE rs q=if chk q (q.length:Int)=0 then flatE rs (q.length:Int) else chk q (q.length:Int):=rfl
 obtain ⟨a,cap,rfl,_⟩:=h
 obtain ⟨a',cap',rfl,_⟩:=hu
 generalize askE rs q=z at *
 generalize flatE rs (q.length:Int)=y at *
 generalize chk q (q.length:Int)=x at *
 generalize rs.length=n at *
 generalize q.length=m at *
 by_cases hx:x=0
 ·rw [if_pos hx] at E
  subst hx;subst E
  go_enter Tryz.func81,Tryz.ntmps81
  go_wp2_with fail
  refine c1.mono ?_
  rintro e w' ⟨rfl,e2⟩
  subst e2
  clear c1
  go_wp2_with fail
  refine c2.mono ?_
  rintro e w' ⟨rfl,g⟩
  clear c2
  go_wp2
  go_ret
  exact ⟨rfl,g⟩
 ·rw [if_neg hx] at E
  subst E
  have hx':(z == 0)=false:=by rw [beq_eq_false_iff_ne];exact hx
  go_enter Tryz.func81,Tryz.ntmps81
  go_wp2_with fail
  refine c1.mono ?_
  rintro e w' ⟨rfl,e2⟩
  subst e2
  clear c1 c2
  go_wp2
  go_ret
  exact ⟨rfl,Below.refl _ _⟩
def Begun (w w':World) (p:Value) (rs:List Rw) (q:List Int) (k:Int):Prop :=
 Gb w w'/\(topE rs q k ≠ 0->p=.pointer none)/\(topE rs q k=0->∃ hb,p=.pointer (some ⟨hb,0,none⟩)/\w.heap.size<=hb/\Tk.Has w' hb k.toNat (.slice none 0 0) [])
theorem begin_c {w:World} {v u:Value} {rs:List Rw} {q:List Int} (h:RdW w v rs) (hu:RdI w u q) (hwf:Wf rs) (k:Int) :
  Calls Tryz.prog 50 #[v,u,.int .i64 k] w fun e w'=>∃ p,e=.returned (.tuple #[p,.int .i64 (topE rs q k)])/\Begun w w' p rs q k:=by
 have c1:=ask_c h hu hwf
 have E:topE rs q k=if askE rs q=0 then (if 1<=k/\k<=64 then 0 else 1) else askE rs q:=rfl
 unfold Begun
 obtain ⟨a,cap,rfl,_⟩:=h
 obtain ⟨a',cap',rfl,_⟩:=hu
 generalize topE rs q k=z at *
 generalize askE rs q=x at *
 generalize rs.length=n at *
 generalize q.length=m at *
 by_cases hx:x=0
 ·rw [if_pos hx] at E
  subst hx
  by_cases hk:1<=k/\k<=64
  ·rw [if_pos hk] at E
   subst E
   go_enter Tryz.func50,Tryz.ntmps50
   go_wp2_with fail
   refine c1.mono ?_
   rintro e w' ⟨rfl,g⟩
   clear c1
   have cN:=Tk.new_ok k hk.1 hk.2 w'
   go_wp2_with fail
   refine cN.mono ?_
   rintro e w2 ⟨rfl,e2⟩
   subst e2
   clear cN
   go_wp2
   go_ret2
   refine ⟨_,rfl,gb_alloc g _,fun e=>absurd rfl e,fun _=>⟨_,rfl,g.size,?_⟩⟩
   have hh:=Tk.new_has k.toNat (by omega) (by omega) w'
   rwa [show ((k.toNat:Nat):Int)=k by omega] at hh
  ·rw [if_neg hk] at E
   subst E
   have hk':k < 1 ∨ 64 < k:=by omega
   clear hk
   go_enter Tryz.func50,Tryz.ntmps50
   go_wp2_with fail
   refine c1.mono ?_
   rintro e w' ⟨rfl,g⟩
   clear c1
   have cN:Calls Tryz.prog 46 #[.int .i64 k] w' fun e w''=>e=.returned (.tuple #[.pointer none,.int .i64 1])/\w''=w':=by
    rcases hk' with h | h
    ·exact Tk.new_lo k h w'
    ·exact Tk.new_hi k h w'
   go_wp2_with fail
   refine cN.mono ?_
   rintro e w2 ⟨rfl,e2⟩
   subst e2
   clear cN
   go_wp2
   go_ret2
   exact ⟨_,rfl,g,fun _=>rfl,fun e=>absurd e (by decide)⟩
 ·rw [if_neg hx] at E
  subst E
  have hx':(z == 0)=false:=by rw [beq_eq_false_iff_ne];exact hx
  go_enter Tryz.func50,Tryz.ntmps50
  go_wp2_with fail
  refine c1.mono ?_
  rintro e w' ⟨rfl,g⟩
  clear c1
  go_wp2
  go_ret2
  exact ⟨_,rfl,g,fun _=>rfl,fun e=>absurd e hx⟩
end Go.Proofs.YtcipdampcmfmaaaGreat

namespace Go.Proofs.YtcipdampcmfmaaaGreat
open Go.RowKit Go.Shelf
set_option maxHeartbeats 2000000
attribute [local go_sem] Oper.semAt_some
theorem hits_c (a a':Option Addr) (n n' c c':Nat) (w:World) :
  Calls Tryz.prog 82 #[.slice a n c,.slice a' n' c'] w fun e w'=>e=.returned (.func (.func 112) #[] #[.pointer (some ⟨w.heap.size,0,none⟩),.pointer (some ⟨w.heap.size + 1,0,none⟩)])/\(w.alloc (.cells #[.slice a n c] 22)).alloc (.cells #[.slice a' n' c'] 41)=w':=by
 go_enter Tryz.func82,Tryz.ntmps82
 go_wp2
 go_ret
 exact ⟨rfl,rfl⟩
structure HitsAt (W:World) (Br Bq:Nat) (v u:Value) (rs:List Rw) (q:List Int):Prop where
 br:Boxed W Br 22 v
 bq:Boxed W Bq 41 u
 rows:RdW W v rs
 q:RdI W u q
theorem hits1_gives (n:Nat) (hn:1<=n) (Br Bq:Nat) (v u:Value) (rs:List Rw) (q:List Int) (hask:askE rs q=0) (I:Nat->World->Prop)
  (hr:∀ k W,I k W->HitsAt W Br Bq v u rs q) :
  Gives n Tryz.prog 112 #[.pointer (some ⟨Br,0,none⟩),.pointer (some ⟨Bq,0,none⟩)] rs.length (fun k=>Tk.hv (hitOf q rs[k]!)) I:=by
 intro l J W hJI hgr hY h0
 refine callsIn_of_wp Tryz.func112 rfl trivial ?_ rfl
 simp only [Tryz.ntmps112,List.size_toArray,List.length_cons,List.length_nil,Nat.reduceAdd,Nat.reduceSub,Array.replicate_succ,Array.replicate_zero,List.push_toArray,List.append_toArray,List.nil_append,List.cons_append]
 obtain ⟨r1,r2,r3,_⟩:=hr 0 W (hJI 0 W h0)
 obtain ⟨a,cap,rfl,_⟩:=r3
 have hlen:rs.length<=512:=(askE_zero.1 hask).2.few
 have c1:=r1.cell
 obtain ⟨N,hN⟩:∃ N,N=rs.length:=⟨_,rfl⟩
 have NH:Hid (N=rs.length):=hN
 rw [<- hN] at hlen hr hY c1 ⊢
 clear hN
 gi_wp2
 clear c1 r1 r2
 gi_loopw [10] (fun v wr=>∃ k:Nat,v=.int .i64 k/\k<=N/\J k wr) (fun v _=>N - (intOf v).toNat)
 case atStart=>exact ⟨0,rfl,Nat.zero_le _,h0⟩
 case round =>
  obtain ⟨k,rfl,hk,hj⟩:=hrel
  by_cases hlt:k < N
  ·have hlt':(k:Int) < N:=by omega
   obtain ⟨r1,r2,r3,r4⟩:=hr k wr (hJI k wr hj)
   have hkr:k < rs.length:=by have:=NH.out;omega
   obtain ⟨a',cap',ev,ha⟩:=r3
   obtain ⟨b,o,x,ea,e1,e2,e3⟩:=ha k hkr
   injection ev with ev1 ev2 ev3
   subst ev1;subst ev3;subst ea
   clear ha ev2
   have c1:=r1.cell
   have c2:=r2.cell
   obtain ⟨hd1,hd2⟩:=row_dist hask (List.getElem_mem hkr)
   rw [<- getElem!_pos rs k hkr] at hd1 hd2
   have X:Hid (RdI wr x rs[k]!.2):=e3
   have U:Hid (RdI wr u q):=r4
   obtain ⟨pa,ca,rfl,_⟩:=e3
   obtain ⟨pb,cb,rfl,_⟩:=r4
   have hY':=fun W=>hY k W hlt
   have cD:=fun W (g:Gb wr W)=>dist_c (U.out.gb g) (X.out.gb g)
   rw [hd1,hd2] at cD
   obtain ⟨y,hy⟩:∃ y,y=rs[k]!.1:=⟨_,rfl⟩
   obtain ⟨m,hm⟩:∃ m,m=rs[k]!.2.length:=⟨_,rfl⟩
   obtain ⟨D,hD⟩:∃ D,D=dst q rs[k]!.2:=⟨_,rfl⟩
   have Y:Hid (y=rs[k]!.1/\D=dst q rs[k]!.2):=⟨hy,hD⟩
   rw [<- hm] at e2
   rw [<- hy] at e1
   rw [<- hD,<- hm] at cD
   have hY2:∀ W,J k W->YieldAt Fence.wide (n - 1) Tryz.prog l #[.agg #[.int .i64 y,.int .u64 (hi D),.int .u64 (lo D)]] W fun e W'=>e=.returned (.bool true)/\J (k + 1) W':=by
    rw [hy,hD];exact hY'
   clear hY' hd1 hd2 hy hm hD hY hr
   have G1:Gb wr (wr.alloc (.cells #[.int .i64 y,.slice pa m ca] 43)):=by go_grown
   have cD1:=cD _ G1
   clear cD
   have c3:=(r2.alloc (.cells #[.int .i64 y,.slice pa m ca] 43)).cell
   have k0:(wr.alloc (.cells #[.int .i64 y,.slice pa m ca] 43)).cell? ⟨wr.heap.size,0,none⟩=some (.int .i64 y):=by simp [go_sem]
   gi_wp2_with (refine ⟨trivial,?_⟩;gi_at_call 73;refine (callsIn_wide.2 cD1).mono ?_;rintro e w1 ⟨rfl,g1⟩;have k1:=gb_keeps g1.gb k0;have k2:=gb_keeps (gb_alloc (Below.refl _ w1) (.cells #[.int .u64 (hi D),.int .u64 (lo D)] 79)) k1;obtain ⟨fn,tmps,assign,body,hy,hR⟩:=hY2 (w1.alloc (.cells #[.int .u64 (hi D),.int .u64 (lo D)] 79)) (hgr k _ _ hj (gb_alloc (gb_trans G1 g1.gb) _)))
   refine hR.mono ?_
   rintro e W3 ⟨rfl,hJ3⟩
   clear hR hy k2 k1 k0 g1 cD1 G1 c3
   gi_wp2
   go_roundw
   case rel=>exact ⟨k + 1,by simp,by omega,hJ3⟩
   case measure=>simp [intOf];omega
  ·have hlt':¬ (k:Int) < N:=by omega
   gi_wp2
   go_end0
   obtain rfl:k=N:=by omega
   exact ⟨⟨_,rfl⟩,hj⟩
end Go.Proofs.YtcipdampcmfmaaaGreat

namespace Go.Proofs.YtcipdampcmfmaaaGreat
open Go.RowKit Go.Sort Go.Maps
set_option maxRecDepth 100000
set_option maxHeartbeats 2000000
def Lent (W:World) (B g:Nat) (l:List Int):Prop:=B<=g/\W.heap[g]? = some (.cells (l.map (Value.int .i64) ++ [Value.int .i64 (-77)]).toArray 3 (0,0))
theorem Lent.gb {W W':World} {B g:Nat} {l:List Int} (h:Lent W B g l) (k:Gb W W'):Lent W' B g l :=
 ⟨h.1,by rw [k.block g (Array.getElem?_eq_some_iff.1 h.2).1];exact h.2⟩
theorem Lent.far {W W':World} {B g g':Nat} {l:List Int} (h:Lent W B g l) (k:W.grownBy W' (some g')) (hne:g ≠ g'):Lent W' B g l :=
 ⟨h.1,by rw [k.block g (Array.getElem?_eq_some_iff.1 h.2).1 (by simpa using hne)];exact h.2⟩
theorem Lent.rd {W:World} {B g:Nat} {l:List Int} (h:Lent W B g l):RdI W (.slice (some ⟨g,0,none⟩) l.length (l.length + 1)) l:=by
 refine ⟨_,_,rfl,fun i hi=>⟨g,0,rfl,?_⟩⟩
 simp only [World.cell?,h.2,Nat.zero_add]
 simp only [Option.isSome_none,Bool.false_eq_true,if_false,List.getElem?_toArray]
 rw [List.getElem?_append_left (by simpa using hi)]
 simp [hi]
theorem Lent.mark {W:World} {B g:Nat} {l:List Int} (h:Lent W B g l):W.cell? ⟨g,l.length,none⟩=some (.int .i64 (-77)):=by
 simp only [World.cell?,h.2]
 simp
theorem Lent.own {W:World} {B g:Nat} {l:List Int} (h:Lent W B g l) (hl:l.length<=65536):Own W B (.slice (some ⟨g,0,none⟩) (l.length + 1) (l.length + 1)) (tab (fun i=>if i < l.length then l[i]! else -77) (l.length + 1)):=by
 unfold Own
 rw [tab_len]
 refine ⟨by simp [tab],.inr ⟨g,_,_,rfl,h.1,h.2,Nat.le_refl _,by simp only [maxLen];omega,by simp,?_⟩⟩
 apply List.ext_getElem?
 intro t
 by_cases ht:t < l.length + 1
 ·rw [Nat.mul_one,List.getElem?_take_of_lt ht]
  by_cases h2:t < l.length
  ·simp [tab,ht,h2]
  ·have e:t=l.length:=by omega
   subst e
   simp [tab]
 ·rw [List.getElem?_eq_none (by simp;omega),List.getElem?_eq_none (by simp [tab];omega)]
theorem lend_c {w:World} {u:Value} {l:List Int} (hu:RdI w u l) (hn:l.length<=65536) :
  Calls Tryz.prog 37 #[u] w fun e w'=>∃ g,e=.returned (.slice (some ⟨g,0,none⟩) l.length (l.length + 1))/\Lent w' w.heap.size g l/\Gb w w':=by
 obtain ⟨a,cap,rfl,ha⟩:=hu
 obtain ⟨n,hN⟩:∃ n,n=l.length:=⟨_,rfl⟩
 have N:Hid (n=l.length):=hN
 obtain ⟨m,hM⟩:∃ m,m=n + 1:=⟨_,rfl⟩
 have M:Hid (m=n + 1):=hM
 have hm:(n:Int) + 1=(m:Int):=by omega
 have hnm:(n:Int) < (m:Int):=by omega
 have hnm2:n<=m:=by omega
 have hmb:m<=65537:=by omega
 have hmk:=run_make_row' (P:=Tryz.prog) 41 3 (.int .i64 0) 8 Tryz.underlying41 Tryz.info3 rfl .i64 .i64 m (by omega) (by omega) w
 have hsz:(Tryz.prog.info? 3).map (·.size)=some 1:=by kernel_rfl
 have HR:Hid (∀ V:World,V.heap[w.heap.size]? = some (.cells (l.map (Value.int .i64) ++ [Value.int .i64 0]).toArray 3 (0,0))->Gb w V->V.cell? ⟨w.heap.size,n,none⟩=some (.int .i64 0)/\V.frozen? ⟨w.heap.size,n,none⟩=false/\Lent (V.setCell ⟨w.heap.size,n,none⟩ (.int .i64 (-77))) w.heap.size w.heap.size l/\Gb w (V.setCell ⟨w.heap.size,n,none⟩ (.int .i64 (-77)))):=by
  intro V hV hg
  refine ⟨?_,by simp [World.frozen?,hV],⟨Nat.le_refl _,?_⟩,gb_set hg (Nat.le_refl _) _⟩
  ·rw [hN];simp only [World.cell?,hV];simp
  ·rw [hN]
   simp only [World.setCell,Array.getElem?_modify,hV]
   simp
 have hmc:madeCells #[Value.int .i64 0] (0 + 1)=#[Value.int .i64 0]:=by apply Array.ext';rw [toList_madeCells_one];rfl
 have G0:Gb w (w.alloc (.cells (madeCells #[Value.int .i64 0] m) 3)):=gb_alloc (Below.refl _ _) _
 by_cases h0:l.length=0
 ·have hl:l=[]:=List.eq_nil_of_length_eq_zero h0
  have hnz:n=0:=by omega
  have hVV:=HR.out (w.alloc (.cells (madeCells #[Value.int .i64 0] m) 3)) (by rw [heap_alloc_new,hl,hM,hnz,hmc];rfl) G0
  obtain ⟨c0,f0,L0,G1⟩:=hVV
  have F:Hid (Lent ((w.alloc (.cells (madeCells #[Value.int .i64 0] m) 3)).setCell ⟨w.heap.size,n,none⟩ (.int .i64 (-77))) w.heap.size w.heap.size l/\Gb w ((w.alloc (.cells (madeCells #[Value.int .i64 0] m) 3)).setCell ⟨w.heap.size,n,none⟩ (.int .i64 (-77)))):=⟨L0,G1⟩
  rw [<- hN,<- hM]
  have hmin:Nat.min n m=0:=by rw [hnz];exact Nat.zero_min _
  have hcp:=run_copy_none (P:=Tryz.prog) (w.alloc (.cells (madeCells #[Value.int .i64 0] m) 3)) 41 41 3 3 (some ⟨w.heap.size,0,none⟩) a m m n cap Tryz.underlying41 hsz hmin
  clear HR L0 G1 G0 ha hN hM hn h0 hl hnz hmc hmin hsz
  generalize w.alloc (.cells (madeCells #[Value.int .i64 0] m) 3)=V at *
  go_enter Tryz.func37,Tryz.ntmps37
  go_wp2
  go_ret
  exact ⟨w.heap.size,rfl,F.out.1,F.out.2⟩
 ·obtain ⟨b,o,ea,_⟩:=ha 0 (by omega)
  subst ea
  have hcs:(l.map (Value.int .i64)).length=Nat.min n m:=by rw [List.length_map,<- hN];exact (Nat.min_eq_left hnm2).symm
  have hsrc:∀ j v,(l.map (Value.int .i64))[j]? = some v->(w.alloc (.cells (madeCells #[Value.int .i64 0] m) 3)).cell? ((⟨b,o,none⟩:Addr).add j)=some v:=by
   intro j v hj
   rw [List.getElem?_map] at hj
   obtain ⟨y,hy,rfl⟩:=Option.map_eq_some_iff.1 hj
   obtain ⟨hjl,hy⟩:=List.getElem?_eq_some_iff.1 hy
   obtain ⟨b',o',e,hc⟩:=ha j hjl
   cases e
   rw [Addr.add_lit]
   have:=gb_keeps G0 hc
   rw [this,getElem!_pos l j hjl,hy]
  have hblk:(w.alloc (.cells (madeCells #[Value.int .i64 0] m) 3)).heap[w.heap.size]? = some (.cells (madeCells #[Value.int .i64 0] m) 3 (0,0)):=heap_alloc_new _ _
  have hVV:=HR.out ((w.alloc (.cells (madeCells #[Value.int .i64 0] m) 3)).setRow w.heap.size ((madeCells #[Value.int .i64 0] m).toList.take 0 ++ l.map (Value.int .i64) ++ (madeCells #[Value.int .i64 0] m).toList.drop (0 + (l.map (Value.int .i64)).length)).toArray) (by
   rw [setRow_heap _ _ _ _ _ _ hblk]
   congr 2
   rw [toList_madeCells_one,List.length_map,Nat.zero_add,<- hN,hM]
   simp) (below_setRow G0 (Nat.le_refl _) _)
  obtain ⟨c0,f0,L0,G1⟩:=hVV
  have hcp:=run_copy_row (P:=Tryz.prog) (w.alloc (.cells (madeCells #[Value.int .i64 0] m) 3)) 41 41 3 3 w.heap.size 0 m m ⟨b,o,none⟩ n cap _ 3 (l.map (Value.int .i64)) Tryz.underlying41 hsz hblk hcs hsrc (by rw [size_madeCells,List.length_map];omega) (ints_oneCell .i64 l)
  generalize hV:(w.alloc (.cells (madeCells #[Value.int .i64 0] m) 3)).setRow w.heap.size ((madeCells #[Value.int .i64 0] m).toList.take 0 ++ l.map (Value.int .i64) ++ (madeCells #[Value.int .i64 0] m).toList.drop (0 + (l.map (Value.int .i64)).length)).toArray=V at *
  rw [List.length_map,<- hN] at hcp
  have F:Hid (Lent (V.setCell ⟨w.heap.size,n,none⟩ (.int .i64 (-77))) w.heap.size w.heap.size l/\Gb w (V.setCell ⟨w.heap.size,n,none⟩ (.int .i64 (-77)))):=⟨L0,G1⟩
  rw [<- hN,<- hM]
  clear HR L0 G1 G0 ha hN hM hn h0 hcs hsrc hblk hmc hV hsz
  go_enter Tryz.func37,Tryz.ntmps37
  go_wp2
  go_ret
  exact ⟨w.heap.size,rfl,F.out.1,F.out.2⟩
end Go.Proofs.YtcipdampcmfmaaaGreat

namespace Go.Proofs.YtcipdampcmfmaaaGreat
open Go.RowKit Go.Sort Go.Maps
set_option maxRecDepth 100000
set_option maxHeartbeats 4000000
theorem grown_set {w W:World} {g i:Nat} (h:w.grownBy W (some g)) (u:Value):w.grownBy (W.setCell ⟨g,i,none⟩ u) (some g) :=
 ⟨h.os,h.tape,h.output,by simpa [World.setCell] using h.size,fun k hk hn=>(Below.heap_setCell _ _ _ _ (fun e=>hn (by rw [e]))).trans (h.block k hk hn)⟩
theorem grown_gb {w W:World} {g:Nat} (h:Gb w W):w.grownBy W (some g):=⟨h.os,h.tape,h.output,h.size,fun k hk _=>h.block k hk⟩
theorem back_c {w:World} {B g:Nat} {v:Value} {l:List Int} (hg:Lent w B g l) (hv:RdI w v l) (hn:l.length<=65536) :
  Calls Tryz.prog 39 #[.slice (some ⟨g,0,none⟩) l.length (l.length + 1),v] w fun e w'=>e=.returned (.bool true)/\w.grownBy w' (some g):=by
 have c32:=ints_v hg.rd hv (by omega) true (by simp)
 have mk:=hg.mark
 have HG:Hid (Lent w B g l):=hg
 obtain ⟨a,cap,rfl,_⟩:=hv
 have OW:Hid (∀ W,Gb w W->Own W B (.slice (some ⟨g,0,none⟩) (l.length + 1) (l.length + 1)) (tab (fun i=>if i < l.length then l[i]! else -77) (l.length + 1))):=fun W k=>(HG.out.gb k).own hn
 obtain ⟨n,hN⟩:∃ n,n=l.length:=⟨_,rfl⟩
 rw [<- hN] at c32 mk hn OW ⊢
 obtain ⟨m,hM⟩:∃ m,m=n + 1:=⟨_,rfl⟩
 have hm:(n:Int) + 1=(m:Int):=by omega
 have hnm:(n:Int) < (m:Int):=by omega
 have hnm2:n < m:=by omega
 have hmb:m<=65537:=by omega
 rw [<- hM] at c32 OW ⊢
 clear HG hN hg hM
 go_enter Tryz.func39,Tryz.ntmps39
 go_wp2_with fail
 refine c32.mono ?_
 rintro e w1 ⟨rfl,g1⟩
 have mk1:=gb_keeps g1.gb mk
 clear mk c32
 go_wp2
 go_loopw [6] (fun iv w'=>∃ q:Nat,∃ f:Nat->Int,iv=.int .i64 (q:Int)/\q<=m/\Hid (Own w' B (.slice (some ⟨g,0,none⟩) m m) (tab f m)/\w.grownBy w' (some g))) (fun iv _=>m - (intOf iv).toNat)
 case atStart=>exact ⟨0,_,rfl,Nat.zero_le _,OW.out w1 g1.gb,grown_gb g1.gb⟩
 case round =>
  clear mk1 OW g1
  obtain ⟨q,f,rfl,hq,X⟩:=hrel
  by_cases hqm:q < m
  ·have hqi:(q:Int) < (m:Int):=by omega
   obtain ⟨c0,f0⟩:=X.out.1.at hqm
   go_wp2
   refine ⟨⟨q + 1,_,by go_num,hqm,own_set X.out.1 hqm _,grown_set X.out.2 _⟩,by simp [intOf];omega⟩
  ·have hqi:¬ (q:Int) < (m:Int):=by omega
   go_wp2
   go_ret
   exact ⟨rfl,X.out.2⟩
end Go.Proofs.YtcipdampcmfmaaaGreat
