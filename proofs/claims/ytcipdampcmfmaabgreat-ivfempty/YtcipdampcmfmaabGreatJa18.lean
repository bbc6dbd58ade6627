import Derived.Test.YtcipdampcmfmaabGreatJa5
import Derived.Laws.AppendOwnNone
import Derived.Test.YtcipdampcmfmaabGreatJa15
import Derived.Test.YtcipdampcmfmaabGreatJa17
import Derived.Test.YtcipdampcmfmaabGreatJa10
import Derived.Test.YtcipdampcmfmaabGreatJa14
import Derived.Test.YtcipdampcmfmaabGreatJa3
import Derived.Test.YtcipdampcmfmaabGreatJa11
import Derived.Test.YtcipdampcmfmaabGreatJa8
import Derived.Test.YtcipdampcmfmaabGreatJa6
import Derived.Test.YtcipdampcmfmaabGreatJa13
import Derived.Deep.OwnRows
import Derived.Laws.CopyOwn
import Derived.Laws.OwnMore
namespace Go.Proofs.YtcipdampcmfmaabGreat
open Go.RowKit Go.Sort Go.Maps
def SrtI (l:List Int):Prop:=l.Pairwise fun x y=>x<=y
theorem srt_perm (l:List Int):(srt l).Perm l:=List.mergeSort_perm l _
theorem srt_srtI (l:List Int):SrtI (srt l):=by
 have h:=List.pairwise_mergeSort (le:=fun x y:Int=>decide (x<=y)) (fun a b c h1 h2=>by
  simp only [decide_eq_true_eq] at *;omega) (fun a b=>by
  by_cases h:a<=b
  ·simp [h]
  ·have:b<=a:=by omega
   simp [this]) l
 exact h.imp (fun h=>by simpa using h)
theorem srtI_unique:∀ (l l':List Int),SrtI l->SrtI l'->l.Perm l'->l=l'
 | [],l',_,_,p=>(List.Perm.nil_eq p)
 | a :: r,[],_,_,p=>absurd p.length_eq (by simp)
 | a :: r,b :: r',h,h',p=>by
  have hb:b ∈ a :: r:=p.symm.subset List.mem_cons_self
  have ha:a ∈ b :: r':=p.subset List.mem_cons_self
  have e:a=b:=by
   rcases List.mem_cons.1 hb with e | hb
   ·exact e.symm
   rcases List.mem_cons.1 ha with e | ha
   ·exact e
   have h1:=List.rel_of_pairwise_cons h hb
   have h2:=List.rel_of_pairwise_cons h' ha
   omega
  subst e
  rw [srtI_unique r r' (List.Pairwise.of_cons h) (List.Pairwise.of_cons h') (List.Perm.cons_inv p)]
end Go.Proofs.YtcipdampcmfmaabGreat

namespace Go.Proofs.YtcipdampcmfmaabGreat
open Go.RowKit Go.Sort
end Go.Proofs.YtcipdampcmfmaabGreat

namespace Go.Proofs.YtcipdampcmfmaabGreat
open Go.RowKit Go.Sort
theorem gw_gb {w w':World} (h:Tk.Gw w w'):Gb w w':=h.gr
theorem compare_g (a b:Int) (w:World):Calls Tryz.prog 68 #[.int .i64 a,.int .i64 b] w fun e w'=>e=.returned (.int .i64 (Tk.ci a b))/\Tk.Gw w w' :=
 (Tk.compare_c a b w).mono fun _ _ ⟨h,e⟩=>⟨h,by rw [e];exact Tk.Gw.refl _⟩
theorem ci_neg (a b:Int):(¬ Tk.ci a b < 0) ↔ b<=a:=by
 unfold Tk.ci
 split
 ·omega
 ·split <;> omega
end Go.Proofs.YtcipdampcmfmaabGreat

namespace Go.Proofs.YtcipdampcmfmaabGreat
open Go.RowKit Go.Sort Go.Maps
theorem Tryz.infoW:(Tryz.prog.info? 45).map (fun i=>(i.zero,i.size,i.bytes))=some (some (.agg #[.int .i64 0,.slice none 0 0]),2,32):=by kernel_rfl
theorem info_partsW:∃ i0,Tryz.prog.info? 45=some i0/\i0.zero=some (.agg #[.int .i64 0,.slice none 0 0])/\i0.size=2/\i0.bytes=32:=by
 obtain ⟨i,hi,hzz⟩:=Option.map_eq_some_iff.1 Tryz.infoW
 simp only [Prod.mk.injEq] at hzz
 exact ⟨i,hi,hzz.1,hzz.2.1,hzz.2.2⟩
def CellsW (w:World) (xs:List Value) (rs:List Rw):Prop:=∀ i,i < rs.length->xs[i * 2]? = some (.int .i64 rs[i]!.1)/\∃ u,xs[i * 2 + 1]? = some u/\RdI w u rs[i]!.2
theorem CellsW.gb {w w':World} {xs:List Value} {rs:List Rw} (h:CellsW w xs rs) (g:Gb w w'):CellsW w' xs rs:=fun i hi=>by
 obtain ⟨h1,u,h2,h3⟩:=h i hi
 exact ⟨h1,u,h2,h3.gb g⟩
def OwnW (w W:World) (B:Nat) (v:Value) (rs:List Rw):Prop:=∃ xs,W.ownsRow B 45 2 v rs.length xs/\CellsW w xs rs
theorem OwnW.kept {w W W':World} {B:Nat} {v:Value} {rs:List Rw} {row:Option Nat} (h:OwnW w W B v rs) (hg:W.grownBy W' row) (hne:v.ownBlock=none ∨ v.ownBlock ≠ row):OwnW w W' B v rs:=by
 obtain ⟨xs,h1,h2⟩:=h
 exact ⟨xs,h1.kept hg hne,h2⟩
theorem OwnW.gb {w W W':World} {B:Nat} {v:Value} {rs:List Rw} (h:OwnW w W B v rs) (g:Gb W W'):OwnW w W' B v rs :=
 h.kept (row:=none) ⟨g.os,g.tape,g.output,g.size,fun k hk _=>g.block k hk⟩ (by cases hv:v.ownBlock <;> simp)
theorem OwnW.rdw {w W:World} {B:Nat} {v:Value} {rs:List Rw} (h:OwnW w W B v rs) (g:Gb w W):RdW W v rs:=by
 obtain ⟨xs,h,hx⟩:=h
 rcases h.2 with ⟨rfl,h0⟩ | ⟨b,cap,cur,rfl,_⟩
 ·have:rs=[]:=List.eq_nil_of_length_eq_zero h0
  subst this
  exact ⟨none,0,rfl,fun i hi=>absurd hi (Nat.not_lt_zero _)⟩
 ·refine ⟨_,cap,rfl,fun i hi=>?_⟩
  obtain ⟨h1,u,h2,h3⟩:=hx i hi
  have c1:=World.ownsRow.cells h (g:=b) rfl (i * 2) _ h1
  have c2:=World.ownsRow.cells h (g:=b) rfl (i * 2 + 1) _ h2
  rw [Addr.add_lit] at c1 c2
  exact ⟨b,0,u,rfl,c1,by rw [Nat.add_assoc];exact c2,h3.gb g⟩
theorem OwnW.form {w W:World} {B:Nat} {v:Value} {rs:List Rw} (h:OwnW w W B v rs):∃ a cap,v=.slice a rs.length cap:=by
 obtain ⟨xs,h,_⟩:=h
 rcases h.2 with ⟨rfl,h0⟩ | ⟨b,cap,cur,rfl,_⟩
 ·exact ⟨none,0,by rw [h0]⟩
 ·exact ⟨_,cap,rfl⟩
theorem two_cells (w:World) (x y:Value) (t:TypeId):∀ j u,[x,y][j]? = some u->(w.alloc (.cells #[x,y] t)).cell? ((⟨w.heap.size,0,none⟩:Addr).add j)=some u:=by
 intro j u hj
 rw [Addr.add_lit]
 rcases j with _ | _ | j <;> simp at hj
 ·subst hj;simp [go_sem]
 ·subst hj;simp [go_sem]
end Go.Proofs.YtcipdampcmfmaabGreat

namespace Go.Proofs.YtcipdampcmfmaabGreat.Rn
open Go.RowKit Go.Shelf
def Per (n:Nat) (f:Nat->Int):Prop:=(∀ i,i < n->0<=f i/\f i < n)/\∀ i j,i < n->j < n->f i=f j->i=j
theorem per_id (n:Nat):Per n (fun t=>(t:Int)):=⟨fun i hi=>⟨Int.natCast_nonneg i,by dsimp only;omega⟩,fun i j _ _ h=>by dsimp only at h;omega⟩
def sg (i j t:Nat):Nat:=if t=j then i else if t=i then j else t
theorem swp_sg (f:Nat->Int) (i j t:Nat):swp f i j t=f (sg i j t):=by
 unfold swp sg
 split
 ·rfl
 ·split <;> rfl
theorem sg_lt {n i j t:Nat} (hi:i < n) (hj:j < n) (ht:t < n):sg i j t < n:=by
 unfold sg;split
 ·exact hi
 ·split
  ·exact hj
  ·exact ht
theorem sg_inj {i j a b:Nat} (h:sg i j a=sg i j b):a=b:=by
 unfold sg at h
 by_cases a1:a=j <;> by_cases a2:a=i <;> by_cases b1:b=j <;> by_cases b2:b=i <;> simp only [if_pos,if_neg,a1,a2,b1,b2,not_false_eq_true] at h <;> (try split at h) <;> omega
theorem Per.swp {n:Nat} {f:Nat->Int} (h:Per n f) {i j:Nat} (hi:i < n) (hj:j < n):Per n (swp f i j) :=
 ⟨fun t ht=>by rw [swp_sg];exact h.1 _ (sg_lt hi hj ht),fun a b ha hb e=>by
  rw [swp_sg,swp_sg] at e
  exact sg_inj (h.2 _ _ (sg_lt hi hj ha) (sg_lt hi hj hb) e)⟩
theorem per_pS (x:Int) (n:Nat):∀ k,k<=n - 1->Per n (pS x n k)
 | 0,_=>per_id n
 | k + 1,hk=>by
  have hz:=u_mx (stN x (k + 1))
  have r1:=Int.emod_nonneg (mx (stN x (k + 1))) (b:=((n - 1 - k:Nat):Int) + 1) (by omega)
  have r2:=Int.emod_lt_of_pos (mx (stN x (k + 1))) (b:=((n - 1 - k:Nat):Int) + 1) (by omega)
  exact Per.swp (per_pS x n k (by omega)) (by omega) (by omega)
def Bl (w:World) (g n:Nat) (f:Nat->Bool):Prop :=
 ∃ cur:Array Value,w.heap[g]? = some (.cells cur 4 (0,0))/\cur.size=n/\∀ i,i < n->cur[i]? = some (.bool (f i))
theorem Bl.cell {w:World} {g n:Nat} {f:Nat->Bool} (h:Bl w g n f) {i:Nat} (hi:i < n):w.cell? ⟨g,i,none⟩=some (.bool (f i)):=by
 obtain ⟨cur,h1,_,h4⟩:=h
 simp [World.cell?,h1,h4 i hi]
theorem Bl.frozen {w:World} {g n:Nat} {f:Nat->Bool} (h:Bl w g n f) (i:Nat):w.frozen? ⟨g,i,none⟩=false:=by
 obtain ⟨cur,h1,_⟩:=h
 simp [World.frozen?,h1]
theorem Bl.set {w:World} {g n:Nat} {f:Nat->Bool} (h:Bl w g n f) {i:Nat} (hi:i < n) (x:Bool) :
  Bl (w.setCell ⟨g,i,none⟩ (.bool x)) g n (fun t=>if t=i then x else f t):=by
 obtain ⟨cur,h1,h2,h4⟩:=h
 refine ⟨cur.setIfInBounds i (.bool x),?_,by simpa using h2,fun t ht=>?_⟩
 ·simp [World.setCell,Array.getElem?_modify,h1]
 ·by_cases e:t=i
  ·subst e;simp [Array.getElem?_setIfInBounds];omega
  ·rw [Array.getElem?_setIfInBounds_ne (Ne.symm e),h4 t ht];simp only [if_neg e]
end Go.Proofs.YtcipdampcmfmaabGreat.Rn

namespace Go.Proofs.YtcipdampcmfmaabGreat
open Go.RowKit Go.Sort
end Go.Proofs.YtcipdampcmfmaabGreat

namespace Go.Proofs.YtcipdampcmfmaabGreat
open Go.RowKit
end Go.Proofs.YtcipdampcmfmaabGreat

namespace Go.Proofs.YtcipdampcmfmaabGreat
open Go.RowKit Go.Sort
end Go.Proofs.YtcipdampcmfmaabGreat

namespace Go.Proofs.YtcipdampcmfmaabGreat
open Go.RowKit
end Go.Proofs.YtcipdampcmfmaabGreat

namespace Go.Proofs.YtcipdampcmfmaabGreat
open Go.RowKit
end Go.Proofs.YtcipdampcmfmaabGreat

namespace Go.Proofs.YtcipdampcmfmaabGreat
open Go.RowKit
end Go.Proofs.YtcipdampcmfmaabGreat

namespace Go.Proofs.YtcipdampcmfmaabGreat
open Go.RowKit Go.Sort
set_option maxRecDepth 100000
set_option maxHeartbeats 2000000
theorem vects_c {w:World} {v:Value} {rs:List Rw} (h:RdW w v rs) (most:Int) (hlen:rs.length<=9223372036854775807) :
  Calls Tryz.prog 24 #[v,.int .i64 most] w fun e w'=>(∃ z:Int,e=.returned (.int .i64 z))/\w=w':=by
 obtain ⟨a,cap,rfl,ha⟩:=h
 have A:Hid (∀ i,i < rs.length->∃ b o u,a=some ⟨b,o,none⟩/\w.cell? ⟨b,o + i * 2,none⟩=some (.int .i64 rs[i]!.1)/\w.cell? ⟨b,o + i * 2 + 1,none⟩=some u/\RdI w u rs[i]!.2):=ha
 obtain ⟨n,hN⟩:∃ n,n=rs.length:=⟨_,rfl⟩
 have N:Hid (n=rs.length):=hN
 rw [<- hN] at hlen ⊢
 clear ha hN
 go_enter Tryz.func24,Tryz.ntmps24
 go_wp2
 go_loopw [5,6] (fun zv iv w'=>∃ (q:Nat) (z:Int),zv=.int .i64 z/\iv=.int .i64 (q:Int)/\q<=n/\w=w') (fun _ iv _=>n - (intOf iv).toNat)
 case atStart=>exact ⟨0,n,rfl,rfl,Nat.zero_le _,rfl⟩
 case round =>
  obtain ⟨q,z,rfl,rfl,hq,rfl⟩:=hrel
  by_cases hqn:q < n
  ·have hqi:(q:Int) < (n:Int):=by omega
   by_cases hz:z<=most
   ·have hql:q < rs.length:=by have:=N.out;omega
    obtain ⟨b,o,u,ea,hc,hd,hr⟩:=A.out q hql
    obtain ⟨pu,cu,eu,_⟩:=hr
    subst ea;subst eu
    generalize rs[q]!.2.length=k at *
    generalize rs[q]!.1=x at *
    clear hql
    go_wp2
    go_roundw
    case rel=>exact ⟨q + 1,_,rfl,by simp,hqn,by first | rfl | trivial⟩
    case measure=>simp [intOf];omega
   ·go_wp2
    go_ret
    exact ⟨⟨_,rfl⟩,by first | rfl | trivial⟩
  ·have hqi:¬ (q:Int) < (n:Int):=by omega
   go_wp2
   go_ret
   exact ⟨⟨_,rfl⟩,by first | rfl | trivial⟩
end Go.Proofs.YtcipdampcmfmaabGreat

namespace Go.Proofs.YtcipdampcmfmaabGreat
open Go.RowKit
set_option maxRecDepth 100000
set_option maxHeartbeats 8000000
theorem rmul_int (x y:Int) (n:Nat) (hx:0<=x) (hy:0<=y) (hx1:x < 18446744073709551616) (hy1:y < 18446744073709551616) (h:x.toNat * y.toNat=n) (w:World) :
  Calls Tryz.prog 72 #[.int .u64 x,.int .u64 y] w fun e w'=>e=.returned (Wd n)/\Gr w w':=by
 have:=rmul_any x.toNat y.toNat (by omega) (by omega) w
 rw [Int.toNat_of_nonneg hx,Int.toNat_of_nonneg hy,h] at this
 exact this
theorem rnear_ball {w:World} {v u:Value} {r:Reg} {a:List Int} (hv:RdR w v r) (hu:RdI w u a) (h0:ckB r a=0) (hR:r.R < 340282366920938463463374607431768211456) (s3:r.S=3) :
  Calls Tryz.prog 44 #[v,u] w fun e w'=>e=.returned (Wd (bdV r a))/\Gr w w':=by
 obtain ⟨vl,vh,vi,rfl,hL,hH,hI⟩:=hv
 have RA:Hid (RegAt (w.alloc (rc r vl vh vi)) w.heap.size r vl vh vi):=RegAt.new w r vl vh vi
 have G00:Gr w (w.alloc (rc r vl vh vi)):=(Gr.refl _).alloc _ _
 have G01:Gr (w.alloc (rc r vl vh vi)) (((w.alloc (rc r vl vh vi)).alloc (.cells #[.int .u64 0,.int .u64 0] 40)).alloc (.cells #[.int .u64 0,.int .u64 0] 40)):=((Gr.refl _).alloc _ _).alloc _ _
 have G0:=G00.trans G01
 have AA:Hid (At2 (((w.alloc (rc r vl vh vi)).alloc (.cells #[.int .u64 0,.int .u64 0] 40)).alloc (.cells #[.int .u64 0,.int .u64 0] 40)) (w.heap.size + 1) 0/\At2 (((w.alloc (rc r vl vh vi)).alloc (.cells #[.int .u64 0,.int .u64 0] 40)).alloc (.cells #[.int .u64 0,.int .u64 0] 40)) (w.heap.size + 1 + 1) 0):=by
  have h1:=At2.new (w.alloc (rc r vl vh vi)) 0 40
  have h2:=At2.new ((w.alloc (rc r vl vh vi)).alloc (.cells #[.int .u64 0,.int .u64 0] 40)) 0 40
  rw [World.size_alloc] at h1
  rw [World.size_alloc,World.size_alloc] at h2
  exact ⟨h1.gr ((Gr.refl _).alloc _ _),h2⟩
 obtain ⟨k1,k2,k3,k4⟩:=ball_ok h0 s3
 have c1:=far_c (hL.gb G0.gb) (hu.gb G0.gb) k1 k2 k3 k4
 have c2:=fun W=>rroot_c (dst r.L a) (dst_lt k3 k4 k1 k2) W
 have c3:=fun W=>rroot_c r.R hR W
 have l1:=rt_lt (dst_lt k3 k4 k1 k2)
 have l2:=rt_lt hR
 have E:Hid (bdV r a=if rt (dst r.L a)<=rt r.R then 0 else (rt (dst r.L a) - rup r.R) * (rt (dst r.L a) - rup r.R)):=by unfold Hid bdV;rw [if_neg (by omega),if_pos s3];rfl
 have E2:Hid (rup r.R=if rt r.R * rt r.R=r.R then rt r.R else rt r.R + 1):=rfl
 generalize bdV r a=res at *
 clear hH hI k1 k2 k3 k4 h0
 obtain ⟨S,L,H,R,I⟩:=r
 dsimp only at *
 subst s3
 obtain ⟨pl,cl,rfl,_⟩:=hL
 obtain ⟨pa,ca,rfl,_⟩:=hu
 generalize L.length=nl at *
 generalize a.length=na at *
 generalize dst L a=D at *
 generalize rt D=s at *
 generalize rup R=t' at *
 generalize rt R=t at *
 obtain ⟨W0,hW0⟩:∃ W0,((w.alloc (rc ⟨3,L,H,R,I⟩ (.slice pl nl cl) vh vi)).alloc (.cells #[.int .u64 0,.int .u64 0] 40)).alloc (.cells #[.int .u64 0,.int .u64 0] 40)=W0:=⟨_,rfl⟩
 obtain ⟨q0,q1,q2,q3,q4,q5⟩:=RA.out.gb G01.gb
 dsimp only at q0 q1 q2 q3 q4 q5
 rw [hW0] at c1 q0 q1 q2 q3 q4 q5
 have W1:Hid (Gr (w.alloc (rc ⟨3,L,H,R,I⟩ (.slice pl nl cl) vh vi)) W0):=by unfold Hid;rw [<- hW0];exact G01
 have AA0:Hid (At2 W0 (w.heap.size + 1) 0/\At2 W0 (w.heap.size + 1 + 1) 0):=by rw [<- hW0];exact AA.out
 have GG:Hid (Gr w W0):=by rw [<- hW0];exact G0
 have SZ:Hid (w.heap.size + 1 + 1 + 1=W0.heap.size):=by unfold Hid;rw [<- hW0];simp
 clear AA G00 G01 G0
 go_enter Tryz.func44,Tryz.ntmps44
 go_wp2_with fail
 refine c1.mono ?_
 rintro e w1 ⟨rfl,g1⟩
 clear hW0
 go_wp2_with fail
 refine (c2 _).mono ?_
 rintro e w2 ⟨rfl,g2⟩
 replace g2:=g1.trans g2
 clear q0 q1 q2 q3 q4 q5
 obtain ⟨_,_,_,q3,q4,_⟩:=RA.out.gb (W1.out.trans g2).gb
 dsimp only at q3 q4
 go_wp2_with fail
 refine (c3 _).mono ?_
 rintro e w3 ⟨rfl,g3⟩
 replace g3:=g2.trans g3
 clear c1 c2 c3 g1 g2 q3 q4
 obtain ⟨_,_,_,q3,q4,_⟩:=RA.out.gb (W1.out.trans g3).gb
 dsimp only at q3 q4
 have cm:=fun W=>rmul_any t t l2 l2 W
 by_cases ht:t * t=R
 ·have hne:=fun W=>wd_ne (t * t) R false (by simp [ht]) W
  rw [if_pos ht] at E2
  have e:=E2.out
  subst e
  by_cases hst:s<=t'
  ·rw [if_pos hst] at E
   have e:=E.out
   subst e
   have hst':¬ (t':Int) < (s:Int):=by omega
   clear E E2 hst ht
   go_wp2
   go_region_held3 (fun w'=>w'.cell? ⟨w.heap.size,3,none⟩=some (.int .u64 (hi R))/\w'.cell? ⟨w.heap.size,4,none⟩=some (.int .u64 (lo R))) (first | (with_reducible exact call_keeps2 (by assumption) (by assumption)) | exact ⟨q3,q4⟩)
    (first
     | (go_at_call 72;refine (cm _).mono ?_;rintro e w4 ⟨rfl,g4⟩))
   all_goals
    have G4:=g3.drew.trans g4
    obtain ⟨A1,A2⟩:=AA0.out
    replace A1:=A1.gr G4
    replace A2:=A2.gr G4
    obtain ⟨u0,u1,_,_⟩:=A1.set 0
    obtain ⟨r0,r1,r2,r3⟩:=A1
    obtain ⟨s0,s1,_,_⟩:=A2
    go_wp2
    exact bodyPost_ret (v:=Wd 0) (by simp [results,Tryz.results44,go_sem,u0,u1]) rfl ⟨rfl,((GG.out.trans G4).setCell (by simp) _).setCell (by simp) _⟩
  ·rw [if_neg hst] at E
   have hst':(t':Int) < (s:Int):=by omega
   have cs:=fun W=>rmul_int ((s:Int) - (t':Int)) ((s:Int) - (t':Int)) res (by omega) (by omega) (by omega) (by omega) (by rw [E.out];congr 1 <;> omega) W
   have b1:0<=(s:Int) - (t':Int):=by omega
   have b2:(s:Int) - (t':Int) < 18446744073709551616:=by omega
   clear E E2 hst ht
   go_wp2
   go_region_held3 (fun w'=>w'.cell? ⟨w.heap.size,3,none⟩=some (.int .u64 (hi R))/\w'.cell? ⟨w.heap.size,4,none⟩=some (.int .u64 (lo R))) (first | (with_reducible exact call_keeps2 (by assumption) (by assumption)) | exact ⟨q3,q4⟩)
    (first
     | (go_at_call 72;refine (cm _).mono ?_;rintro e w4 ⟨rfl,g4⟩))
   all_goals
    have G4:=g3.drew.trans g4
    go_wp2_with fail
    refine (cs _).mono ?_
    rintro e w5 ⟨rfl,g5⟩
    have G5:=G4.trans g5
    obtain ⟨A1,A2⟩:=AA0.out
    replace A1:=A1.gr G5
    replace A2:=A2.gr G5
    have A3:=A2.set res
    obtain ⟨s0,s1,s2,s3⟩:=A2
    obtain ⟨v0,v1,_,_⟩:=A3
    have A4:At2 ((w5.setCell ⟨w.heap.size + 1 + 1,0,none⟩ (.int .u64 (hi res))).setCell ⟨w.heap.size + 1 + 1,1,none⟩ (.int .u64 (lo res))) (w.heap.size + 1) 0:=by
     obtain ⟨r0,r1,r2,r3⟩:=A1
     exact ⟨set2_far' (by simp) r0 _ _,set2_far' (by simp) r1 _ _,by simpa using r2,by simpa using r3⟩
    have GX:Gr w ((w5.setCell ⟨w.heap.size + 1 + 1,0,none⟩ (.int .u64 (hi res))).setCell ⟨w.heap.size + 1 + 1,1,none⟩ (.int .u64 (lo res))):=((GG.out.trans G5).setCell (by simp;omega) _).setCell (by simp;omega) _
    obtain ⟨u0,u1,_,_⟩:=A4.set res
    obtain ⟨r0,r1,r2,r3⟩:=A4
    go_wp2
    exact bodyPost_ret (v:=Wd res) (by simp [results,Tryz.results44,go_sem,u0,u1]) rfl ⟨rfl,(GX.setCell (by simp) _).setCell (by simp) _⟩
 ·have hne:=fun W=>wd_ne (t * t) R true (by simp [ht]) W
  rw [if_neg ht] at E2
  by_cases hst:s<=t
  ·rw [if_pos hst] at E
   have e:=E.out
   subst e
   have hst':(s:Int)<=(t:Int):=by omega
   clear E E2 hst ht
   go_wp2
   go_region_held3 (fun w'=>w'.cell? ⟨w.heap.size,3,none⟩=some (.int .u64 (hi R))/\w'.cell? ⟨w.heap.size,4,none⟩=some (.int .u64 (lo R))) (first | (with_reducible exact call_keeps2 (by assumption) (by assumption)) | exact ⟨q3,q4⟩)
    (first
     | (go_at_call 72;refine (cm _).mono ?_;rintro e w4 ⟨rfl,g4⟩))
   all_goals
    have G4:=g3.drew.trans g4
    obtain ⟨A1,A2⟩:=AA0.out
    replace A1:=A1.gr G4
    replace A2:=A2.gr G4
    obtain ⟨u0,u1,_,_⟩:=A1.set 0
    obtain ⟨r0,r1,r2,r3⟩:=A1
    obtain ⟨s0,s1,_,_⟩:=A2
    go_wp2
    exact bodyPost_ret (v:=Wd 0) (by simp [results,Tryz.results44,go_sem,u0,u1]) rfl ⟨rfl,((GG.out.trans G4).setCell (by simp) _).setCell (by simp) _⟩
  ·rw [if_neg hst] at E
   have hst':¬ (s:Int)<=(t:Int):=by omega
   have T1:Hid ((t:Int) + 1=(t':Int)):=by unfold Hid;have:=E2.out;omega
   have hT:t'=t + 1:=E2.out
   by_cases hs2:s<=t'
   ·have e:res=0:=by rw [E.out,show s - t'=0 by omega]
    subst e
    have H2:Hid (¬ (t':Int) < (s:Int)):=by unfold Hid;omega
    clear E E2 hst ht hs2 hT
    go_wp2
    go_region_held3 (fun w'=>w'.cell? ⟨w.heap.size,3,none⟩=some (.int .u64 (hi R))/\w'.cell? ⟨w.heap.size,4,none⟩=some (.int .u64 (lo R))) (first | (with_reducible exact call_keeps2 (by assumption) (by assumption)) | exact ⟨q3,q4⟩)
     (first
      | (go_at_call 72;refine (cm _).mono ?_;rintro e w4 ⟨rfl,g4⟩))
    all_goals
     have T2:=T1.out
     have h2:=H2.out
     have G4:=g3.drew.trans g4
     obtain ⟨A1,A2⟩:=AA0.out
     replace A1:=A1.gr G4
     replace A2:=A2.gr G4
     obtain ⟨u0,u1,_,_⟩:=A1.set 0
     obtain ⟨r0,r1,r2,r3⟩:=A1
     obtain ⟨s0,s1,_,_⟩:=A2
     go_wp2
     exact bodyPost_ret (v:=Wd 0) (by simp [results,Tryz.results44,go_sem,u0,u1]) rfl ⟨rfl,((GG.out.trans G4).setCell (by simp) _).setCell (by simp) _⟩
   ·have cs:=fun W=>rmul_int ((s:Int) - (t':Int)) ((s:Int) - (t':Int)) res (by omega) (by omega) (by omega) (by omega) (by rw [E.out];congr 1 <;> omega) W
    have H2:Hid ((t':Int) < (s:Int)/\0<=(s:Int) - (t':Int)/\(s:Int) - (t':Int) < 18446744073709551616):=⟨by omega,by omega,by omega⟩
    clear E E2 hst ht hs2 hT
    go_wp2
    go_region_held3 (fun w'=>w'.cell? ⟨w.heap.size,3,none⟩=some (.int .u64 (hi R))/\w'.cell? ⟨w.heap.size,4,none⟩=some (.int .u64 (lo R))) (first | (with_reducible exact call_keeps2 (by assumption) (by assumption)) | exact ⟨q3,q4⟩)
     (first
      | (go_at_call 72;refine (cm _).mono ?_;rintro e w4 ⟨rfl,g4⟩))
    all_goals
     have G4:=g3.drew.trans g4
     have T2:=T1.out
     obtain ⟨h2,b1,b2⟩:=H2.out
     go_wp2_with fail
     refine (cs _).mono ?_
     rintro e w5 ⟨rfl,g5⟩
     have G5:=G4.trans g5
     obtain ⟨A1,A2⟩:=AA0.out
     replace A1:=A1.gr G5
     replace A2:=A2.gr G5
     have A3:=A2.set res
     obtain ⟨s0,s1,s2,s3⟩:=A2
     obtain ⟨v0,v1,_,_⟩:=A3
     have A4:At2 ((w5.setCell ⟨w.heap.size + 1 + 1,0,none⟩ (.int .u64 (hi res))).setCell ⟨w.heap.size + 1 + 1,1,none⟩ (.int .u64 (lo res))) (w.heap.size + 1) 0:=by
      obtain ⟨r0,r1,r2,r3⟩:=A1
      exact ⟨set2_far' (by simp) r0 _ _,set2_far' (by simp) r1 _ _,by simpa using r2,by simpa using r3⟩
     have GX:Gr w ((w5.setCell ⟨w.heap.size + 1 + 1,0,none⟩ (.int .u64 (hi res))).setCell ⟨w.heap.size + 1 + 1,1,none⟩ (.int .u64 (lo res))):=((GG.out.trans G5).setCell (by simp;omega) _).setCell (by simp;omega) _
     obtain ⟨u0,u1,_,_⟩:=A4.set res
     obtain ⟨r0,r1,r2,r3⟩:=A4
     go_wp2
     exact bodyPost_ret (v:=Wd res) (by simp [results,Tryz.results44,go_sem,u0,u1]) rfl ⟨rfl,(GX.setCell (by simp) _).setCell (by simp) _⟩
theorem rnear_all {w:World} {v u:Value} {r:Reg} {a:List Int} (hv:RdR w v r) (hu:RdI w u a) (s2:¬ r.S=2) (s3:¬ r.S=3) :
  Calls Tryz.prog 44 #[v,u] w fun e w'=>e=.returned (Wd (bdV r a))/\Gr w w':=by
 obtain ⟨vl,vh,vi,rfl,hL,hH,hI⟩:=hv
 have G0:Gr w (((w.alloc (rc r vl vh vi)).alloc (.cells #[.int .u64 0,.int .u64 0] 40)).alloc (.cells #[.int .u64 0,.int .u64 0] 40)):=(((Gr.refl _).alloc _ _).alloc _ _).alloc _ _
 have e:bdV r a=0:=by unfold bdV;rw [if_neg s2,if_neg s3]
 rw [e]
 have s2':(r.S == 2)=false:=by rw [beq_eq_false_iff_ne];exact s2
 have s3':(r.S == 3)=false:=by rw [beq_eq_false_iff_ne];exact s3
 obtain ⟨pa,ca,rfl,_⟩:=hu
 clear hL hH hI e s2 s3
 obtain ⟨S,L,H,R,I⟩:=r
 dsimp only at *
 generalize a.length=na at *
 go_enter Tryz.func44,Tryz.ntmps44
 go_wp2
 exact bodyPost_ret (v:=Wd 0) (by simp [results,Tryz.results44,go_sem,hi,lo]) rfl ⟨rfl,G0⟩
end Go.Proofs.YtcipdampcmfmaabGreat

namespace Go.Proofs.YtcipdampcmfmaabGreat
open Go.RowKit Go.Sort Go.Maps
theorem ilen_c {w:World} {tb mb:Nat} {ks:List Int} {f:Int->Value} (hp:w.cell? ⟨tb,3,none⟩=some (.map (some mb))) (hm:MapA Tryz.prog 3 w mb ks f) :
  Calls Tryz.prog 17 #[.pointer (some ⟨tb,0,none⟩)] w fun e w'=>e=.returned (.int .i64 (ks.length:Int))/\w'=w:=by
 have hl:=hm.len Tryz.underlying72 3
 clear hm
 go_enter Tryz.func17,Tryz.ntmps17
 go_wp2
 go_ret
 exact ⟨rfl,rfl⟩
theorem keep_none {w:World} {tb lb cap:Nat} {a:Option Addr} {ks:List Int} {f:Int->Value} {p:Int} (hp:w.cell? ⟨tb,2,none⟩=some (.map (some lb))) (hm:MapA Tryz.prog 3 w lb ks f) (kp:KWf p) :
  Calls Tryz.prog 60 #[.pointer (some ⟨tb,0,none⟩),.int .i64 p,.slice a 0 cap] w fun e w'=>e=.returned (.tuple #[])/\MapA Tryz.prog 3 w' lb (ks.erase p) f/\w.mapTurned w' lb:=by
 obtain ⟨w2,hd,hM,hT⟩:=hm.del (t:=71) Tryz.underlying3 Tryz.underlying71 kp 0
 have R:Hid (MapA Tryz.prog 3 w2 lb (ks.erase p) f/\w.mapTurned w2 lb):=⟨hM,hT⟩
 clear hm hM hT
 go_enter Tryz.func60,Tryz.ntmps60
 go_wp2
 exact bodyPost_ret (v:=.tuple #[]) (by simp [results,Tryz.results60,go_sem]) rfl ⟨rfl,R.out⟩
end Go.Proofs.YtcipdampcmfmaabGreat

namespace Go.Proofs.YtcipdampcmfmaabGreat
open Go.RowKit Go.Sort Go.Maps
def Lent (W:World) (B g:Nat) (l:List Int):Prop:=B<=g/\W.heap[g]? = some (.cells (l.map (Value.int .i64) ++ [Value.int .i64 (-77)]).toArray 3 (0,0))
theorem Lent.gb {W W':World} {B g:Nat} {l:List Int} (h:Lent W B g l) (k:Gb W W'):Lent W' B g l :=
 ⟨h.1,by rw [k.block g (Array.getElem?_eq_some_iff.1 h.2).1];exact h.2⟩
theorem Lent.far {W W':World} {B g g':Nat} {l:List Int} (h:Lent W B g l) (k:W.grownBy W' (some g')) (hne:g ≠ g'):Lent W' B g l :=
 ⟨h.1,by rw [k.block g (Array.getElem?_eq_some_iff.1 h.2).1 (by simpa using hne)];exact h.2⟩
theorem Lent.rd {W:World} {B g:Nat} {l:List Int} (h:Lent W B g l):RdI W (.slice (some ⟨g,0,none⟩) l.length (l.length + 1)) l:=by
 refine ⟨_,_,rfl,fun i hi=>⟨g,0,rfl,?_⟩⟩
 simp only [World.cell?,h.2,Nat.zero_add]
 simp only [Option.isSome_none,Bool.false_eq_true,if_false,List.getElem?_toArray]
 rw [List.getElem?_append_left (by simpa using hi)]
 simp [hi]
theorem Lent.mark {W:World} {B g:Nat} {l:List Int} (h:Lent W B g l):W.cell? ⟨g,l.length,none⟩=some (.int .i64 (-77)):=by
 simp only [World.cell?,h.2]
 simp
theorem Lent.own {W:World} {B g:Nat} {l:List Int} (h:Lent W B g l) (hl:l.length<=65536):Own W B (.slice (some ⟨g,0,none⟩) (l.length + 1) (l.length + 1)) (tab (fun i=>if i < l.length then l[i]! else -77) (l.length + 1)):=by
 unfold Own
 rw [tab_len]
 refine ⟨by simp [tab],.inr ⟨g,_,_,rfl,h.1,h.2,Nat.le_refl _,by simp only [maxLen];omega,by simp,?_⟩⟩
 apply List.ext_getElem?
 intro t
 by_cases ht:t < l.length + 1
 ·rw [Nat.mul_one,List.getElem?_take_of_lt ht]
  by_cases h2:t < l.length
  ·simp [tab,ht,h2]
  ·have e:t=l.length:=by omega
   subst e
   simp [tab]
 ·rw [List.getElem?_eq_none (by simp;omega),List.getElem?_eq_none (by simp [tab];omega)]
end Go.Proofs.YtcipdampcmfmaabGreat
