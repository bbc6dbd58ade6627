import Derived.Test.YtcipdampcmfmaabGreatJa11
import Derived.Test.YtcipdampcmfmaabGreatJa12
import Derived.Test.YtcipdampcmfmaabGreatJa1
import Derived.Test.YtcipdampcmfmaabGreatJa8
import Derived.Deep.OwnRows
import Derived.Deep.RegionHeld3
import Derived.Test.YtcipdampcmfmaabGreatJa4
namespace Go.Proofs.YtcipdampcmfmaabGreat
open Go.RowKit
set_option maxRecDepth 100000
set_option maxHeartbeats 4000000
def inV (r:Reg) (a:List Int):Bool:=if r.S=2 then decide (bx r.L r.H a=0) else if r.S=3 then decide (dst r.L a<=r.R) else true
def bdV (r:Reg) (a:List Int):Nat:=if r.S=2 then bx r.L r.H a else if r.S=3 then ballV (dst r.L a) r.R else 0
theorem ckB_ok {r:Reg} {a:List Int} (h:ckB r a=0):ckR r a.length=0/\chk a a.length=0:=by
 unfold ckB at h;split at h
 ·rename_i h1;exact ⟨h1,h⟩
 ·rename_i h1;exact absurd h h1
theorem ckR_ok {r:Reg} {d:Int} (h:ckR r d=0):(r.S=2->cornE r.L r.H d=0)/\(r.S=3->chk r.L d=0)/\uses r=true/\rise r.I=true:=by
 unfold ckR at h;split at h
 ·split at h
  ·rename_i h2
   refine ⟨fun e=>?_,fun e=>?_,h2⟩
   ·rw [if_pos e] at h;exact h
   ·rw [if_neg (by omega),if_pos e] at h;exact h
  ·cases h
 ·cases h
theorem cornE_ok {l h:List Int} {d:Int} (k:cornE l h d=0):chk l d=0/\chk h d=0/\below l h l.length=true:=by
 unfold cornE at k;split at k
 ·rename_i h1
  split at k
  ·rename_i h2
   split at k
   ·rename_i h3;exact ⟨h1,h2,h3⟩
   ·cases k
  ·rename_i h2;exact absurd k h2
 ·rename_i h1;exact absurd k h1
theorem box_ok {r:Reg} {a:List Int} (h:ckB r a=0) (s:r.S=2):r.L.length=a.length/\r.H.length=a.length/\a.length<=64/\allR r.L=true/\allR r.H=true/\allR a=true/\below r.L r.H a.length=true:=by
 obtain ⟨h1,h2⟩:=ckB_ok h
 obtain ⟨h3,h4,h5⟩:=cornE_ok ((ckR_ok h1).1 s)
 obtain ⟨a1,a2,a3,a4⟩:=chk_ok h3
 obtain ⟨b1,b2,b3,b4⟩:=chk_ok h4
 obtain ⟨c1,c2,c3,c4⟩:=chk_ok h2
 have e1:r.L.length=a.length:=by omega
 rw [e1] at h5
 exact ⟨e1,by omega,c2,a4,b4,c4,h5⟩
theorem ball_ok {r:Reg} {a:List Int} (h:ckB r a=0) (s:r.S=3):r.L.length=a.length/\r.L.length<=64/\allR r.L=true/\allR a=true:=by
 obtain ⟨h1,h2⟩:=ckB_ok h
 obtain ⟨a1,a2,a3,a4⟩:=chk_ok ((ckR_ok h1).2.1 s)
 obtain ⟨c1,c2,c3,c4⟩:=chk_ok h2
 exact ⟨by omega,a2,a4,c4⟩
theorem three_call {W w':World} {p0 p1 p2:Addr} {v0 v1 v2:Value} (g:Gr W w') (h:W.cell? p0=some v0/\W.cell? p1=some v1/\W.cell? p2=some v2) :
  w'.cell? p0=some v0/\w'.cell? p1=some v1/\w'.cell? p2=some v2:=⟨g.keeps h.1,g.keeps h.2.1,g.keeps h.2.2⟩
def bndV (r:Reg) (a:List Int):Nat:=if ckB r a=0 then bdV r a else 0
theorem bound_c {w:World} {v u:Value} {r:Reg} {a:List Int} (hv:RdR w v r) (hu:RdI w u a) (hlen:r.I.length<=4611686018427387904) (hR:r.R < 340282366920938463463374607431768211456) :
  Calls Tryz.prog 91 #[v,u] w fun e w'=>e=.returned (.tuple #[Wd (bndV r a),.int .i64 (ckB r a)])/\Gr w w':=by
 have HV:Hid (RdR w v r):=hv
 obtain ⟨vl,vh,vi,rfl,hL,hH,hI⟩:=hv
 have RA:Hid (RegAt (w.alloc (rc r vl vh vi)) w.heap.size r vl vh vi):=RegAt.new w r vl vh vi
 have G00:Gr w (w.alloc (rc r vl vh vi)):=(Gr.refl _).alloc _ _
 have G01:Gr (w.alloc (rc r vl vh vi)) ((w.alloc (rc r vl vh vi)).alloc (.cells #[.int .u64 0,.int .u64 0] 40)):=(Gr.refl _).alloc _ _
 have G0:=G00.trans G01
 have C1:=fun x hx=>checkBoth_v (HV.out.gb G0.gb) (hu.gb G0.gb) hlen x hx
 by_cases h0:ckB r a=0
 ·have c1:=C1 _ h0
  have E:Hid (bndV r a=bdV r a):=by unfold Hid bndV;rw [if_pos h0]
  rw [E.out,h0]
  clear C1 E
  have E:Hid (bdV r a=if r.S=2 then bx r.L r.H a else if r.S=3 then ballV (dst r.L a) r.R else 0):=rfl
  generalize bdV r a=res at *
  by_cases s2:r.S=2
  ·obtain ⟨k1,k2,k3,k4,k5,k6,k7⟩:=box_ok h0 s2
   rw [if_pos s2] at E
   have c2:=fun W' (g:Gr ((w.alloc (rc r vl vh vi)).alloc (.cells #[.int .u64 0,.int .u64 0] 40)) W')=>boxBound_c (HV.out.gb (G0.trans g).gb) (hu.gb (G0.trans g).gb) k1 k2 k3 k4 k5 k6
   rw [<- E.out] at c2
   obtain ⟨pa,ca,rfl,_⟩:=hu
   clear HV hL hH hI h0 k1 k2 k3 k4 k5 k6 k7 hlen hR E
   obtain ⟨S,L,H,R,I⟩:=r
   dsimp only at *
   subst s2
   generalize a.length=na at *
   go_enter Tryz.func91,Tryz.ntmps91
   go_wp2_with fail
   refine c1.mono ?_
   rintro e w1 ⟨rfl,g1⟩
   obtain ⟨q0,q1,q2,q3,q4,q5⟩:=RA.out.gb (G01.trans g1).gb
   dsimp only at q0 q1 q2 q3 q4 q5
   go_wp2_with fail
   refine (c2 _ g1).mono ?_
   rintro e w2 ⟨rfl,g2⟩
   have G2:=g1.trans g2
   have VV:=G2.var2
   simp only [World.size_alloc] at VV
   obtain ⟨v0,v1,v2,v3⟩:=VV
   go_wp2
   exact bodyPost_ret (v:=.tuple #[Wd res,.int .i64 0]) (by simp [results,Tryz.results91,go_sem,v0,v1]) rfl ⟨rfl,by repeat (first | exact G0.trans G2 | refine Gr.setCell ?_ (by simp) _)⟩
  ·have s2':(r.S == 2)=false:=by rw [beq_eq_false_iff_ne];exact s2
   rw [if_neg s2] at E
   by_cases s3:r.S=3
   ·obtain ⟨k1,k2,k3,k4⟩:=ball_ok h0 s3
    rw [if_pos s3] at E
    have c2:=fun W' (g:Gr ((w.alloc (rc r vl vh vi)).alloc (.cells #[.int .u64 0,.int .u64 0] 40)) W')=>ballBound_c (HV.out.gb (G0.trans g).gb) (hu.gb (G0.trans g).gb) k1 k2 k3 k4 hR
    rw [<- E.out] at c2
    obtain ⟨pa,ca,rfl,_⟩:=hu
    clear HV hL hH hI h0 k1 k2 k3 k4 hlen hR E s2 s2'
    obtain ⟨S,L,H,R,I⟩:=r
    dsimp only at *
    subst s3
    generalize a.length=na at *
    go_enter Tryz.func91,Tryz.ntmps91
    go_wp2_with fail
    refine c1.mono ?_
    rintro e w1 ⟨rfl,g1⟩
    obtain ⟨q0,q1,q2,q3,q4,q5⟩:=RA.out.gb (G01.trans g1).gb
    dsimp only at q0 q1 q2 q3 q4 q5
    go_wp2_with fail
    refine (c2 _ g1).mono ?_
    rintro e w2 ⟨rfl,g2⟩
    have G2:=g1.trans g2
    have VV:=G2.var2
    simp only [World.size_alloc] at VV
    obtain ⟨v0,v1,v2,v3⟩:=VV
    go_wp2
    exact bodyPost_ret (v:=.tuple #[Wd res,.int .i64 0]) (by simp [results,Tryz.results91,go_sem,v0,v1]) rfl ⟨rfl,by repeat (first | exact G0.trans G2 | refine Gr.setCell ?_ (by simp) _)⟩
   ·have s3':(r.S == 3)=false:=by rw [beq_eq_false_iff_ne];exact s3
    rw [if_neg s3] at E
    have e:=E.out
    subst e
    obtain ⟨pa,ca,rfl,_⟩:=hu
    clear HV hL hH hI h0 hlen hR E s2 s3
    obtain ⟨S,L,H,R,I⟩:=r
    dsimp only at *
    generalize a.length=na at *
    go_enter Tryz.func91,Tryz.ntmps91
    go_wp2_with fail
    refine c1.mono ?_
    rintro e w1 ⟨rfl,g1⟩
    obtain ⟨q0,q1,q2,q3,q4,q5⟩:=RA.out.gb (G01.trans g1).gb
    dsimp only at q0 q1 q2 q3 q4 q5
    have VV:=g1.var2
    simp only [World.size_alloc] at VV
    obtain ⟨v0,v1,v2,v3⟩:=VV
    go_wp2
    exact bodyPost_ret (v:=.tuple #[Wd 0,.int .i64 0]) (by simp [results,Tryz.results91,go_sem,v0,v1,hi,lo]) rfl ⟨rfl,by repeat (first | exact G0.trans g1 | refine Gr.setCell ?_ (by simp) _)⟩
 ·have c1:=C1 _ rfl
  have E:bndV r a=0:=by unfold bndV;rw [if_neg h0]
  have h1:(ckB r a == 0)=false:=by rw [beq_eq_false_iff_ne];exact h0
  rw [E]
  obtain ⟨pa,ca,rfl,_⟩:=hu
  clear C1 E HV hL hH hI hlen hR h0
  generalize ckB r a=res at *
  obtain ⟨S,L,H,R,I⟩:=r
  generalize a.length=na at *
  go_enter Tryz.func91,Tryz.ntmps91
  go_wp2_with fail
  refine c1.mono ?_
  rintro e w1 ⟨rfl,g1⟩
  have VV:=g1.var2
  simp only [World.size_alloc] at VV
  obtain ⟨v0,v1,v2,v3⟩:=VV
  go_wp2
  exact bodyPost_ret (v:=.tuple #[Wd 0,.int .i64 res]) (by simp [results,Tryz.results91,go_sem,v0,v1,hi,lo]) rfl ⟨rfl,by repeat (first | exact G0.trans g1 | refine Gr.setCell ?_ (by simp) _)⟩
end Go.Proofs.YtcipdampcmfmaabGreat

namespace Go.Proofs.YtcipdampcmfmaabGreat.Rn
open Go.RowKit Go.Shelf
set_option maxHeartbeats 1000000
def Arr (w:World) (g n cap:Nat) (f:Nat->Int):Prop :=
 ∃ cur:Array Value,w.heap[g]? = some (.cells cur 3 (0,0))/\cap<=cur.size/\n<=cap/\∀ i,i < n->cur[i]? = some (.int .i64 (f i))
theorem Arr.lt {w:World} {g n cap:Nat} {f:Nat->Int} (h:Arr w g n cap f):g < w.heap.size:=by
 obtain ⟨cur,h1,_⟩:=h;exact (Array.getElem?_eq_some_iff.1 h1).1
theorem Arr.cell {w:World} {g n cap:Nat} {f:Nat->Int} (h:Arr w g n cap f) {i:Nat} (hi:i < n):w.cell? ⟨g,i,none⟩=some (.int .i64 (f i)):=by
 obtain ⟨cur,h1,_,_,h4⟩:=h
 simp [World.cell?,h1,h4 i hi]
theorem Arr.frozen {w:World} {g n cap:Nat} {f:Nat->Int} (h:Arr w g n cap f) (i:Nat):w.frozen? ⟨g,i,none⟩=false:=by
 obtain ⟨cur,h1,_⟩:=h
 simp [World.frozen?,h1]
theorem Arr.kept {w w':World} {g n cap:Nat} {f:Nat->Int} {r:Option Nat} (h:Arr w g n cap f) (hg:w.grownBy w' r) (hn:some g ≠ r):Arr w' g n cap f:=by
 have hl:=h.lt
 obtain ⟨cur,h1,h2⟩:=h
 exact ⟨cur,(hg.block g hl hn).trans h1,h2⟩
theorem Arr.alloc {w:World} {g n cap:Nat} {f:Nat->Int} (h:Arr w g n cap f) (o:Obj):Arr (w.alloc o) g n cap f :=
 h.kept (World.grownBy_alloc w o none) (by simp)
theorem Arr.set {w:World} {g n cap:Nat} {f:Nat->Int} (h:Arr w g n cap f) {i:Nat} (hi:i < n) (x:Int) :
  Arr (w.setCell ⟨g,i,none⟩ (.int .i64 x)) g n cap (fun t=>if t=i then x else f t):=by
 obtain ⟨cur,h1,h2,h3,h4⟩:=h
 refine ⟨cur.setIfInBounds i (.int .i64 x),?_,by simpa using h2,h3,fun t ht=>?_⟩
 ·simp [World.setCell,Array.getElem?_modify,h1]
 ·by_cases e:t=i
  ·subst e;simp [Array.getElem?_setIfInBounds];omega
  ·rw [Array.getElem?_setIfInBounds_ne (Ne.symm e),h4 t ht];simp only [if_neg e]
theorem Arr.other {w:World} {g n cap:Nat} {f:Nat->Int} (h:Arr w g n cap f) {p:Addr} (hp:p.block ≠ g) (u:Value):Arr (w.setCell p u) g n cap f:=by
 obtain ⟨cur,h1,h2⟩:=h
 exact ⟨cur,(Below.heap_setCell w p u g (Ne.symm hp)).trans h1,h2⟩
theorem Arr.put {w:World} {g n cap:Nat} {f:Nat->Int} {D:Nat} {o:Obj} (h:Arr w g n cap f) (hD:w.heap[D]? = some o) (ho:o.isCells=false) (o':Obj):Arr (w.putObj D o') g n cap f:=by
 obtain ⟨cur,h1,h2⟩:=h
 refine ⟨cur,(World.putObj_heap_other (fun e=>?_)).trans h1,h2⟩
 subst e;rw [h1] at hD;cases hD;cases ho
theorem Arr.congr {w:World} {g n cap:Nat} {f f':Nat->Int} (h:Arr w g n cap f) (e:∀ i,i < n->f i=f' i):Arr w g n cap f':=by
 obtain ⟨cur,h1,h2,h3,h4⟩:=h
 exact ⟨cur,h1,h2,h3,fun i hi=>by rw [h4 i hi,e i hi]⟩
theorem ownFrom_arr {B g n cap:Nat} {f:Nat->Nat->Int}:OwnFrom B (fun (k:Nat) W=>Arr W g n cap (f k)) :=
 fun k A C row hs hg hr=>hs.kept hg (fun e=>by
  obtain ⟨_,o,ho,hc⟩:=hr g e.symm
  obtain ⟨cur,h1,_⟩:=hs
  rw [h1] at ho;cases ho;cases hc)
theorem arr_made (w:World) (n:Nat):Arr (w.alloc (.cells (madeCells #[Value.int .i64 0] n) 3)) w.heap.size n n (fun _=>0):=by
 refine ⟨_,World.alloc_heap_new w _,by rw [size_madeCells];exact Nat.le_refl _,Nat.le_refl _,fun i hi=>?_⟩
 simp [madeCells,hi,Nat.mod_one]
theorem Tryz.info3':(Tryz.prog.info? 3).map (fun i=>(i.zero,i.size,i.bytes))=some (some (.int .i64 0),1,8):=by kernel_rfl
theorem rising_c (n:Nat) (w:World) (hn:n<=65536) :
  Calls Tryz.prog 181 #[.int .i64 n] w fun e w'=>e=.returned (.slice (some ⟨w.heap.size,0,none⟩) n n)/\Arr w' w.heap.size n n (fun t=>(t:Int))/\w.grownBy w' none:=by
 have hmk:=run_make_row' (P:=Tryz.prog) 26 3 (.int .i64 0) 8 Tryz.underlying26 Tryz.info3' rfl .i64 .i64 n (by omega) (by omega) w
 have A0:=arr_made w n
 have G0:w.grownBy (w.alloc (.cells (madeCells #[Value.int .i64 0] n) 3)) none:=grownBy_al (grownBy_refl _ _) _
 generalize w.alloc (.cells (madeCells #[Value.int .i64 0] n) 3)=V at *
 go_enter Tryz.func181,Tryz.ntmps181
 go_wp2
 clear hmk
 go_loopw [4,9] (fun _ v wr=>∃ k:Nat,v=.int .i64 k/\k<=n/\Arr wr w.heap.size n n (fun t=>if t < k then (t:Int) else 0)/\w.grownBy wr none) (fun _ v _=>n - (intOf v).toNat)
 case atStart=>exact ⟨0,rfl,Nat.zero_le _,by simpa using A0,G0⟩
 case round =>
  clear A0 G0
  obtain ⟨k,rfl,hk,A,G⟩:=hrel
  by_cases hlt:k < n
  ·have hlt':(k:Int) < n:=by omega
   have c1:=A.cell hlt
   have f1:=A.frozen k
   go_wp2
   go_roundw
   case rel =>
    refine ⟨k + 1,by simp,by omega,(A.set hlt (k:Int)).congr (fun i hi=>?_),grownBy_new G (Nat.le_refl _) _⟩
    by_cases e:i=k
    ·subst e;simp
    ·simp only [if_neg e];by_cases e2:i < k
     ·rw [if_pos e2,if_pos (by omega)]
     ·rw [if_neg e2,if_neg (by omega)]
   case measure=>simp [intOf];omega
  ·obtain rfl:k=n:=by omega
   go_wp2
   go_ret
   exact ⟨rfl,A.congr (fun i hi=>by rw [if_pos hi]),G⟩
def swp (f:Nat->Int) (i j:Nat):Nat->Int:=fun t=>if t=j then f i else if t=i then f j else f t
def pS (x:Int) (n:Nat):Nat->Nat->Int
 | 0=>fun t=>(t:Int)
 | k + 1=>swp (pS x n k) (n - 1 - k) (mx (stN x (k + 1)) % ((n - 1 - k:Nat) + 1)).toNat
theorem any_round {l n:Nat} {P:Program} {ops:Array Oper} {Q:Exit->Act->World->Prop} {md:Region.Mode} (hnd:∀ (i:Nat) (o:Oper),ops[i]? = some o->∀ c,o.op ≠ .defer c) (hQ:¬ LetsOut Q) :
  ∀ (fuel:Nat) (listed:Array Bool) (a:Act) (w:World),wpAny P md ops Q fuel listed a w->wpAnyIn (Fence.wide.inRound l) n P md ops Q fuel listed a w
 | 0,_,_,_,h=>h
 | fuel + 1,listed,a,w,h=>by
  refine ⟨h.1,fun i hi=>?_⟩
  have:=h.2 i hi
  unfold wpOp at this
  unfold wpOpIn
  cases ho:ops[i]? with
  | none=>simp only [ho] at this ⊢;exact any_round hnd hQ fuel _ _ _ this
  | some o =>
   simp only [ho] at this ⊢
   by_cases hw:Region.wanted o (yielded ops a.tmps)=true
   ·simp only [hw,if_true] at this ⊢
    rcases this with this | this
    ·refine ⟨fun _ _=>trivial,?_⟩
     unfold Oper.wp at this
     rw [Oper.semAt_plain _ _ _ (hnd i o ho)]
     generalize (execOp a.eval o).run P w=r at *
     cases r with
     | ok x w' =>
      cases x <;> simp only [Oper.upon,Oper.uponIn] at this ⊢
      case value v=>exact any_round hnd hQ fuel _ _ _ this
      case skip=>exact any_round hnd hQ fuel _ _ _ this
      case defer d=>exact any_round hnd hQ fuel _ _ _ this
      case enter f args =>
       refine ⟨fun h=>by simp [Fence.wide,Fence.inRound] at h,CallsIn.inRound l (callsIn_wide.2 (Calls.mono this fun e w'' he=>?_))⟩
       cases e with
       | returned u=>exact any_round hnd hQ fuel _ _ _ he
       | panicked c=>exact he
       | outgrown=>exact he
      case row row args =>
       exact ⟨fun h=>by simp [Fence.wide,Fence.inRound] at h,fun c cs _=>let ⟨v,w',r,st⟩:=this c cs;⟨v,w',any_round hnd hQ fuel _ _ _ r,stepsIn_wide.2 st⟩⟩
     | halt x w'=>cases x <;> simp only [Oper.upon,Oper.uponIn] at this ⊢ <;> exact this
    ·exact (hQ this.2).elim
   ·simp only [hw] at this ⊢
    exact ⟨fun _ _=>trivial,any_round hnd hQ fuel _ _ _ this⟩
end Go.Proofs.YtcipdampcmfmaabGreat.Rn

namespace Go.Proofs.YtcipdampcmfmaabGreat.Rn
open Go.RowKit Go.Shelf
set_option maxRecDepth 100000
set_option maxHeartbeats 2000000
attribute [local go_sem] Oper.semAt_some
theorem Tryz.mixed:Tryz.prog.follows .mixedOrders=true:=by kernel_rfl
theorem region_round {l n id:Nat} {P:Program} {ops:Array Oper} {Q:Exit->Act->World->Prop} {S:World->Prop} {a:Act} {w:World} (hm:P.follows .mixedOrders=true)
  (hnd:ops.toList.all (fun o=>match o.op with | .defer _=>false | _=>true)=true) (hQ:¬ LetsOut Q) (hS:S w.drew)
  (h:S w.drew->wpAnyH P .any ops Q S ops.size (Array.replicate ops.size false) a w.drew):(Code.region id ops true).wpIn (Fence.wide.inRound l) n P Q a w:=by
 refine wpIn_region_any hm (any_round (fun i o ho c hc=>?_) hQ _ _ _ _ (wpAny_of_held _ _ _ _ (h hS)))
 have:=List.all_eq_true.1 hnd o (by rw [<- Array.getElem?_toList] at ho;exact List.mem_of_getElem? ho)
 rw [hc] at this
 cases this
theorem boxed_off {W:World} {B:Nat} {t:TypeId} {v:Value} (h:Boxed W B t v) {p:Addr} (hp:p.block ≠ B) (u:Value):Boxed (W.setCell p u) B t v :=
 (Below.heap_setCell W p u B (Ne.symm hp)).trans h
theorem perm_ok (b n:Nat) (x:Int) (w:World) (hb:Boxed w b 235 (.int .u64 x)) (hx:U x) (hn:n<=65536) :
  Calls Tryz.prog 156 #[.pointer (some ⟨b,0,none⟩),.int .i64 n] w fun e w'=>e=.returned (.tuple #[.slice (some ⟨w.heap.size,0,none⟩) n n,.int .i64 0]) /\
   Arr w' w.heap.size n n (pS x n (n - 1))/\Boxed w' b 235 (.int .u64 (stN x (n - 1)))/\w.grownBy w' (some b):=by
 have hck:=check_c ⟨b,0,none⟩ n 0 65536 w
 rw [ckE_ok ⟨by omega,by omega⟩] at hck
 have hbl:=hb.lt
 refine (callsIn_wide (n:=4)).1 ?_
 refine callsIn_of_wp_marks Tryz.func156 rfl trivial ?_ rfl
 simp only [Tryz.ntmps156,List.size_toArray,List.length_cons,List.length_nil,Nat.reduceAdd,Nat.reduceSub,Array.replicate_succ,Array.replicate_zero,List.push_toArray,List.append_toArray,List.nil_append,List.cons_append]
 gi_wp2_with first | (refine ⟨trivial,?_⟩;gi_at_call 180;refine (callsIn_wide.2 hck).mono ?_;rintro e w1 ⟨rfl,rfl⟩) | (refine ⟨trivial,?_⟩;gi_at_call 181;refine (callsIn_wide.2 (rising_c n _ hn)).mono ?_;rintro e w2 ⟨rfl,A2,g2⟩) | (refine ⟨trivial,?_⟩;gi_at_call 182;refine (callsIn_wide.2 (draws_c _ _ _)).mono ?_;rintro e w3 ⟨rfl,rfl⟩)
 obtain ⟨V,hV⟩:∃ V,((((w2.alloc (.cells #[.slice (some ⟨w.heap.size,0,none⟩) n n] 26)).alloc (.cells #[.int .i64 ((n:Int) - 1)] 3)).alloc (.cells #[.pointer (some ⟨b,0,none⟩)] 218)).alloc (.cells #[.int .i64 ((n:Int) - 1)] 3))=V:=⟨_,rfl⟩
 have s2:=g2.size
 have s3:=A2.lt
 have bB:Boxed V b 235 (.int .u64 x):=by rw [<- hV];exact ((((hb.kept g2 (by simp)).alloc _).alloc _).alloc _).alloc _
 have bN:Boxed V w2.heap.size 26 (.slice (some ⟨w.heap.size,0,none⟩) n n):=by rw [<- hV];exact (((Boxed.new w2 _ _).alloc _).alloc _).alloc _
 have bP:Boxed V (w2.heap.size + 1) 3 (.int .i64 ((n:Int) - 1)):=by
  rw [<- hV];have:=((Boxed.new (w2.alloc (.cells #[.slice (some ⟨w.heap.size,0,none⟩) n n] 26)) 3 (.int .i64 ((n:Int) - 1))).alloc (.cells #[.pointer (some ⟨b,0,none⟩)] 218)).alloc (.cells #[.int .i64 ((n:Int) - 1)] 3);rwa [World.size_alloc] at this
 have bS:Boxed V (w2.heap.size + 1 + 1) 218 (.pointer (some ⟨b,0,none⟩)):=by
  rw [<- hV];have:=(Boxed.new ((w2.alloc (.cells #[.slice (some ⟨w.heap.size,0,none⟩) n n] 26)).alloc (.cells #[.int .i64 ((n:Int) - 1)] 3)) 218 (.pointer (some ⟨b,0,none⟩))).alloc (.cells #[.int .i64 ((n:Int) - 1)] 3);rwa [World.size_alloc,World.size_alloc] at this
 have bC:Boxed V (w2.heap.size + 1 + 1 + 1) 3 (.int .i64 ((n:Int) - 1)):=by
  rw [<- hV];have:=Boxed.new (((w2.alloc (.cells #[.slice (some ⟨w.heap.size,0,none⟩) n n] 26)).alloc (.cells #[.int .i64 ((n:Int) - 1)] 3)).alloc (.cells #[.pointer (some ⟨b,0,none⟩)] 218)) 3 (.int .i64 ((n:Int) - 1));rwa [World.size_alloc,World.size_alloc,World.size_alloc] at this
 have aV:Arr V w.heap.size n n (pS x n 0):=by rw [<- hV];exact (((A2.alloc _).alloc _).alloc _).alloc _
 have gV:w.grownBy V (some b):=by rw [<- hV];exact grownBy_al (grownBy_al (grownBy_al (grownBy_al ⟨g2.os,g2.tape,g2.output,g2.size,fun k hk _=>g2.block k hk (by simp)⟩ _) _) _) _
 have sV:w2.heap.size + 4=V.heap.size:=by rw [<- hV];simp
 have eN:((n:Int) - 1).toNat=n - 1:=by omega
 rw [hV]
 refine range_c (gf:=196) (lb:=#[.pointer (some ⟨w2.heap.size + 1 + 1,0,none⟩),.pointer (some ⟨w2.heap.size + 1 + 1 + 1,0,none⟩)]) rfl (enters_of Tryz.func196 (by kernel_rfl) rfl) rfl
  (n - 1) b (fun k=>.int .u64 (stN x (k + 1))) (fun k=>.int .u64 (mx (stN x (k + 1))))
  (fun k W=>Arr W w.heap.size n n (pS x n k)/\Boxed W w2.heap.size 26 (.slice (some ⟨w.heap.size,0,none⟩) n n)/\Boxed W (w2.heap.size + 1) 3 (.int .i64 ((n:Int) - 1 - k))/\Boxed W b 235 (.int .u64 (stN x k))/\Boxed W (w2.heap.size + 1 + 1) 218 (.pointer (some ⟨b,0,none⟩))/\Boxed W (w2.heap.size + 1 + 1 + 1) 3 (.int .i64 ((n:Int) - 1))/\w.grownBy W (some b))
  (fun k W=>Arr W w.heap.size n n (pS x n k)/\Boxed W w2.heap.size 26 (.slice (some ⟨w.heap.size,0,none⟩) n n)/\Boxed W (w2.heap.size + 1) 3 (.int .i64 ((n:Int) - 1 - k))/\Boxed W b 235 (.int .u64 (stN x (k + 1)))/\Boxed W (w2.heap.size + 1 + 1) 218 (.pointer (some ⟨b,0,none⟩))/\Boxed W (w2.heap.size + 1 + 1 + 1) 3 (.int .i64 ((n:Int) - 1))/\w.grownBy W (some b))
  (fun _ _=>False)
  (ownFrom_arr.and (ownFrom_boxed.and (ownFrom_boxed.and (ownFrom_boxed.and (ownFrom_boxed.and (ownFrom_boxed.and (ownFrom_grown gV.size)))))))
  (ownFrom_arr.and (ownFrom_boxed.and (ownFrom_boxed.and (ownFrom_boxed.and (ownFrom_boxed.and (ownFrom_boxed.and (ownFrom_grown gV.size)))))))
  (fun _ _ _ _ h _ _=>h)
  ⟨aV,bN,by simpa using bP,bB,bS,bC,gV⟩
  (fun k W _ h=>⟨h.1.other (by simp;omega) _,h.2.1.other (by omega) _,h.2.2.1.other (by omega) _,h.2.2.2.1.set _,h.2.2.2.2.1.other (by omega) _,h.2.2.2.2.2.1.other (by omega) _,grownBy_set h.2.2.2.2.2.2 (.inl rfl) _⟩)
  (by
    have:=draws1_gives 3 (by decide) (w2.heap.size + 1 + 1) (w2.heap.size + 1 + 1 + 1) b ((n:Int) - 1) x hx (by omega)
     (fun k W=>Arr W w.heap.size n n (pS x n k)/\Boxed W w2.heap.size 26 (.slice (some ⟨w.heap.size,0,none⟩) n n)/\Boxed W (w2.heap.size + 1) 3 (.int .i64 ((n:Int) - 1 - k))/\Boxed W b 235 (.int .u64 (stN x k))/\Boxed W (w2.heap.size + 1 + 1) 218 (.pointer (some ⟨b,0,none⟩))/\Boxed W (w2.heap.size + 1 + 1 + 1) 3 (.int .i64 ((n:Int) - 1))/\w.grownBy W (some b))
     (fun k W h=>⟨h.2.2.2.2.1,h.2.2.2.2.2.1,h.2.2.2.1⟩)
    rw [eN] at this
    exact this)
  (fun k=>{ tmps:=#[.pointer (some ⟨b,0,none⟩),.int .i64 n,undef,undef,.slice none 0 0,.int .i64 0,.int .i64 0,.pointer (some ⟨w2.heap.size,0,none⟩),.pointer (some ⟨w2.heap.size + 1,0,none⟩),
   .int .u64 (mx (stN x (k + 1))),undef,.pointer (some ⟨b,0,none⟩),.int .i64 n,.int .i64 0,.int .i64 0,.bool false,undef,.int .i64 n,.slice (some ⟨w.heap.size,0,none⟩) n n,.int .i64 n,.int .i64 ((n:Int) - 1),
   .pointer (some ⟨b,0,none⟩),.int .i64 n,.int .i64 ((n:Int) - 1),.func (.func 196) #[] #[.pointer (some ⟨w2.heap.size + 1 + 1,0,none⟩),.pointer (some ⟨w2.heap.size + 1 + 1 + 1,0,none⟩)],
   .int .u64 (mx (stN x (k + 1))),undef,undef,undef,undef,undef,undef,undef,undef,undef,undef,undef,undef,undef,undef,undef,undef,undef,undef,undef,undef,undef],defers:=[] }) ?assign ?body ?done ?stop
 case assign =>
  intro l k W K hK
  gi_wp2
  exact hK
 case body =>
  clear hV aV bN bP bB bS bC gV hck A2 g2 hb
  rintro l k W hk ⟨hA,hN,hP,hB,hS,hC,hg⟩
  have hi:(n:Int) - 1 - k=((n - 1 - k:Nat):Int):=by omega
  have hin:n - 1 - k < n:=by omega
  have hz:=u_mx (stN x (k + 1))
  have hpS:pS x n (k + 1)=swp (pS x n k) (n - 1 - k) (mx (stN x (k + 1)) % ((n - 1 - k:Nat) + 1)).toNat:=rfl
  have hnext:(n:Int) - 1 - (k + 1:Nat)=((n - 1 - k:Nat):Int) - 1:=by omega
  rw [hi] at hP
  generalize mx (stN x (k + 1))=z at *
  generalize hii:n - 1 - k=i at *
  have r1:=Int.emod_nonneg z (b:=(i:Int) + 1) (by omega)
  have r2:=Int.emod_lt_of_pos z (b:=(i:Int) + 1) (by omega)
  obtain ⟨j,hj⟩:∃ j:Nat,z % ((i:Int) + 1)=j:=⟨(z % ((i:Int) + 1)).toNat,by omega⟩
  have hjn:j < n:=by omega
  have hr:=rest_c z ((i:Int) + 1) W hz (by omega) (by omega)
  rw [hj] at hr
  have hpS':pS x n (k + 1)=swp (pS x n k) i j:=by rw [hpS,hj];simp
  clear hpS r1 r2 hj hz hi
  have cP:=hP.cell
  gi_wp2_with (refine ⟨trivial,?_⟩;gi_at_call 183;refine (CallsIn.inRound l (callsIn_wide.2 hr)).mono ?_;rintro e w5 ⟨rfl,rfl⟩)
  have cN:=hN.cell
  have cI:=hA.cell hin
  have cJ:=hA.cell hjn
  have fI:=hA.frozen i
  have fJ:=hA.frozen j
  have cJ2:=(hA.set hin (pS x n k j)).cell hjn
  have fJ2:=(hA.set hin (pS x n k j)).frozen j
  have hset:∀ (V:World) (p:Addr) (u:Value),p.block=w.heap.size->(V.cell? ⟨w2.heap.size,0,none⟩=some (.slice (some ⟨w.heap.size,0,none⟩) n n)/\V.cell? ⟨w2.heap.size + 1,0,none⟩=some (.int .i64 i)) ->
    ((V.setCell p u).cell? ⟨w2.heap.size,0,none⟩=some (.slice (some ⟨w.heap.size,0,none⟩) n n)/\(V.setCell p u).cell? ⟨w2.heap.size + 1,0,none⟩=some (.int .i64 i)):=fun V p u hp h =>
   ⟨(World.cell?_of_block (Below.heap_setCell V p u _ (by dsimp only;omega))).trans h.1,(World.cell?_of_block (Below.heap_setCell V p u _ (by dsimp only;omega))).trans h.2⟩
  have FIN:∃ X,X=((W.setCell ⟨w.heap.size,i,none⟩ (.int .i64 (pS x n k j))).setCell ⟨w.heap.size,j,none⟩ (.int .i64 (pS x n k i))).drew /\
    Arr X w.heap.size n n (pS x n (k + 1))/\Boxed X w2.heap.size 26 (.slice (some ⟨w.heap.size,0,none⟩) n n)/\Boxed X (w2.heap.size + 1) 3 (.int .i64 i)/\Boxed X b 235 (.int .u64 (stN x (k + 1)))/\Boxed X (w2.heap.size + 1 + 1) 218 (.pointer (some ⟨b,0,none⟩))/\Boxed X (w2.heap.size + 1 + 1 + 1) 3 (.int .i64 ((n:Int) - 1))/\w.grownBy X (some b)/\KeepsOthers W X:=by
   refine ⟨_,rfl,?_,?_,?_,?_,?_,?_,?_,?_⟩
   ·have A2:=(hA.set hin (pS x n k j)).set hjn (pS x n k i)
    rw [hpS']
    exact A2
   ·exact boxed_off (boxed_off hN (by dsimp only;omega) _) (by dsimp only;omega) _
   ·exact boxed_off (boxed_off hP (by dsimp only;omega) _) (by dsimp only;omega) _
   ·exact boxed_off (boxed_off hB (by dsimp only;omega) _) (by dsimp only;omega) _
   ·exact boxed_off (boxed_off hS (by dsimp only;omega) _) (by dsimp only;omega) _
   ·exact boxed_off (boxed_off hC (by dsimp only;omega) _) (by dsimp only;omega) _
   ·have:=grownBy_new (p:=⟨w.heap.size,j,none⟩) (grownBy_new (p:=⟨w.heap.size,i,none⟩) hg (Nat.le_refl _) (.int .i64 (pS x n k j))) (Nat.le_refl _) (.int .i64 (pS x n k i))
    exact ⟨this.os,this.tape,this.output,this.size,this.block⟩
   ·exact ((KeepsOthers.setCell W _ _).trans (KeepsOthers.setCell _ _ _)).trans (KeepsOthers.drew _)
  obtain ⟨X,hX,FA,FN,FP,FB,FS,FC,Fg,FK⟩:=FIN
  refine region_round (S:=fun w'=>w'.cell? ⟨w2.heap.size,0,none⟩=some (.slice (some ⟨w.heap.size,0,none⟩) n n)/\w'.cell? ⟨w2.heap.size + 1,0,none⟩=some (.int .i64 i)) Tryz.mixed (by kernel_rfl) (by rintro ⟨a',w',h⟩;exact h) ⟨cN,cP⟩ (fun hHeld=>?_)
  refine wpAnyH_take (i:=0) (v:=?_) rfl (by kernel_rfl) (by kernel_rfl) (by kernel_rfl) (fun _ _ _ h=>h) (Or.inl ⟨by rfl,?_⟩) (by assumption) ?_
  rotate_left 1
  ·(intro w' hSw;obtain ⟨q1,q2⟩:=hSw;go_simp;try with_reducible rfl)
  try simp only [pt]
  refine wpAnyH_take (i:=1) (v:=?_) rfl (by kernel_rfl) (by kernel_rfl) (by kernel_rfl) (fun _ _ _ h=>h) (Or.inl ⟨by rfl,?_⟩) (by assumption) ?_
  rotate_left 1
  ·(intro w' hSw;obtain ⟨q1,q2⟩:=hSw;go_simp;try with_reducible rfl)
  try simp only [Act.put]
  refine wpAnyH_take (i:=2) (v:=?_) rfl (by kernel_rfl) (by kernel_rfl) (by kernel_rfl) (fun _ _ _ h=>h) (Or.inl ⟨by rfl,?_⟩) (by assumption) ?_
  rotate_left 1
  ·(intro w' hSw;obtain ⟨q1,q2⟩:=hSw;go_simp;try with_reducible rfl)
  try simp only [Act.put]
  refine wpAnyH_take (i:=3) (v:=?_) rfl (by kernel_rfl) (by kernel_rfl) (by kernel_rfl) (fun _ _ _ h=>h) (Or.inl ⟨by rfl,?_⟩) (by assumption) ?_
  rotate_left 1
  ·(intro w' hSw;obtain ⟨q1,q2⟩:=hSw;go_simp;try with_reducible rfl)
  try simp only [Act.put]
  refine wpAnyH_take (i:=4) (v:=?_) rfl (by kernel_rfl) (by kernel_rfl) (by kernel_rfl) (fun _ _ _ h=>h) (Or.inl ⟨by rfl,?_⟩) (by assumption) ?_
  rotate_left 1
  ·(intro w' hSw;obtain ⟨q1,q2⟩:=hSw;go_simp;try with_reducible rfl)
  try simp only [Act.put]
  refine wpAnyH_take (i:=5) (v:=?_) rfl (by kernel_rfl) (by kernel_rfl) (by kernel_rfl) (fun _ _ _ h=>h) (Or.inl ⟨by rfl,?_⟩) (by assumption) ?_
  rotate_left 1
  ·(intro w' hSw;obtain ⟨q1,q2⟩:=hSw;go_simp;try with_reducible rfl)
  try simp only [Act.put]
  refine wpAnyH_take (i:=6) (v:=?_) rfl (by kernel_rfl) (by kernel_rfl) (by kernel_rfl) (fun _ _ _ h=>h) (Or.inl ⟨by rfl,?_⟩) (by assumption) ?_
  rotate_left 1
  ·(intro w' hSw;obtain ⟨q1,q2⟩:=hSw;go_simp;try with_reducible rfl)
  try simp only [Act.put]
  refine wpAnyH_take (i:=8) (v:=?_) rfl (by kernel_rfl) (by kernel_rfl) (by kernel_rfl) (fun _ _ _ h=>h) (Or.inl ⟨by rfl,?_⟩) (by assumption) ?_
  rotate_left 1
  ·(intro w' hSw;obtain ⟨q1,q2⟩:=hSw;go_simp;try with_reducible rfl)
  try simp only [Act.put]
  refine wpAnyH_take (i:=9) (v:=?_) rfl (by kernel_rfl) (by kernel_rfl) (by kernel_rfl) (fun _ _ _ h=>h) (Or.inl ⟨by rfl,?_⟩) (by assumption) ?_
  rotate_left 1
  ·(intro w' hSw;obtain ⟨q1,q2⟩:=hSw;go_simp;try with_reducible rfl)
  try simp only [Act.put]
  refine wpAnyH_take (i:=10) (v:=?_) rfl (by kernel_rfl) (by kernel_rfl) (by kernel_rfl) (fun _ _ _ h=>h) (Or.inl ⟨by rfl,?_⟩) (by assumption) ?_
  rotate_left 1
  ·(intro w' hSw;obtain ⟨q1,q2⟩:=hSw;go_simp;try with_reducible rfl)
  try simp only [Act.put]
  refine wpAnyH_ready (rs:=[7,11]) (by kernel_rfl) (by simp) ?_
  refine AllReadyH.cons rfl (fun K hK=>?_) (AllReadyH.cons rfl (fun K hK=>?_) (AllReadyH.nil))
  ·go_simp
   refine hK.out _ _ hHeld (fun hHeld=>?_)
   clear hK K
   try simp only [pt]
   refine rdn 11 rfl (fun K hK=>?_)
   go_simp
   refine hK.out _ _ hHeld (fun hHeld=>?_)
   clear hK K
   try simp only [pt]
   refine wpAnyH_take (i:=12) (v:=?_) rfl (by kernel_rfl) (by kernel_rfl) (by kernel_rfl) (fun _ _ _ h=>h) (Or.inl ⟨by rfl,?_⟩) (by assumption) ?_
   rotate_left 1
   ·(intro w' hSw;obtain ⟨q1,q2⟩:=hSw;go_simp;try with_reducible rfl)
   try simp only [pt]
   refine rdn 13 rfl (fun K hK=>?_)
   go_simp
   refine hK.out _ _ (hset W ⟨w.heap.size,i,none⟩ _ rfl hHeld) (fun hHeld=>?_)
   clear hK K
   try simp only [pt]
   refine wpAnyH_take (i:=14) (v:=?_) rfl (by kernel_rfl) (by kernel_rfl) (by kernel_rfl) (fun _ _ _ h=>h) (Or.inl ⟨by rfl,?_⟩) (by assumption) ?_
   rotate_left 1
   ·(intro w' hSw;obtain ⟨q1,q2⟩:=hSw;go_simp;try with_reducible rfl)
   try simp only [pt]
   refine rdn 15 rfl (fun K hK=>?_)
   go_simp
   refine hK.out _ _ (hset (W.setCell ⟨w.heap.size,i,none⟩ (.int .i64 (pS x n k j))) ⟨w.heap.size,j,none⟩ _ rfl hHeld) (fun hHeld=>?_)
   clear hK K
   try simp only [pt]
   refine wpAnyH_done (by kernel_rfl) ?_ _
   rw [<- hX]
   clear cI cJ fI fJ cJ2 fJ2 cN cP hHeld hset hX hA hN hP hB hS hC hg hr
   have cX:=FP.cell
   have fX:=FP.frozen
   gi_wp2
   exact ⟨FK.trans (KeepsOthers.setCell _ _ _),FA.other (by simp;omega) _,FN.other (by omega) _,by rw [hnext];exact FP.set _,FB.other (by omega) _,FS.other (by omega) _,FC.other (by omega) _,grownBy_new Fg (by dsimp only;omega) _⟩
  ·go_simp
   refine hK.out _ _ hHeld (fun hHeld=>?_)
   clear hK K
   try simp only [pt]
   refine rdn 7 rfl (fun K hK=>?_)
   go_simp
   refine hK.out _ _ hHeld (fun hHeld=>?_)
   clear hK K
   try simp only [pt]
   refine wpAnyH_take (i:=12) (v:=?_) rfl (by kernel_rfl) (by kernel_rfl) (by kernel_rfl) (fun _ _ _ h=>h) (Or.inl ⟨by rfl,?_⟩) (by assumption) ?_
   rotate_left 1
   ·(intro w' hSw;obtain ⟨q1,q2⟩:=hSw;go_simp;try with_reducible rfl)
   try simp only [pt]
   refine rdn 13 rfl (fun K hK=>?_)
   go_simp
   refine hK.out _ _ (hset W ⟨w.heap.size,i,none⟩ _ rfl hHeld) (fun hHeld=>?_)
   clear hK K
   try simp only [pt]
   refine wpAnyH_take (i:=14) (v:=?_) rfl (by kernel_rfl) (by kernel_rfl) (by kernel_rfl) (fun _ _ _ h=>h) (Or.inl ⟨by rfl,?_⟩) (by assumption) ?_
   rotate_left 1
   ·(intro w' hSw;obtain ⟨q1,q2⟩:=hSw;go_simp;try with_reducible rfl)
   try simp only [pt]
   refine rdn 15 rfl (fun K hK=>?_)
   go_simp
   refine hK.out _ _ (hset (W.setCell ⟨w.heap.size,i,none⟩ (.int .i64 (pS x n k j))) ⟨w.heap.size,j,none⟩ _ rfl hHeld) (fun hHeld=>?_)
   clear hK K
   try simp only [pt]
   refine wpAnyH_done (by kernel_rfl) ?_ _
   rw [<- hX]
   clear cI cJ fI fJ cJ2 fJ2 cN cP hHeld hset hX hA hN hP hB hS hC hg hr
   have cX:=FP.cell
   have fX:=FP.frozen
   gi_wp2
   exact ⟨FK.trans (KeepsOthers.setCell _ _ _),FA.other (by simp;omega) _,FN.other (by omega) _,by rw [hnext];exact FP.set _,FB.other (by omega) _,FS.other (by omega) _,FC.other (by omega) _,grownBy_new Fg (by dsimp only;omega) _⟩
 case done =>
  rintro D W hD ⟨h1,h2,h3,h4,h5,h6,hg⟩ hK
  have c2:=h2.cell
  gi_wp2
  refine ⟨by simp,.inl ⟨_,_,rfl,run_takeDeferred hK,?_⟩⟩
  exact ⟨.tuple #[.slice (some ⟨w.heap.size,0,none⟩) n n,.int .i64 0],by simp [results,Tryz.results156,go_sem],rfl,Arr.put h1 hK rfl _,Boxed.put h4 hK rfl _,grownBy_put hg (by omega) _⟩
 case stop =>
  rintro D k W hD hk h
  exact h.elim
end Go.Proofs.YtcipdampcmfmaabGreat.Rn
