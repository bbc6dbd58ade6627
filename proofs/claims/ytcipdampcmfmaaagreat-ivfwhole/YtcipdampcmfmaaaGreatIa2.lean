import Derived.Test.YtcipdampcmfmaaaGreatIa1
import Derived.Maps.OwnSet
import Derived.Maps.AppendAt
import Derived.Laws.MakeOwn
import Derived.Shelf.Sort.Plain
import Derived.Shelf.Slices.In.SortNone
import Derived.Shelf.Slices.Clone
import Derived.Shelf.Lay
import Derived.Ground.NamesProg
import Derived.Ground.Names2Prog
import Derived.Lib.OwnBridge
import Derived.Sort.OwnSortedInts
namespace Go.Proofs.YtcipdampcmfmaaaGreat
open Go.RowKit
set_option maxRecDepth 100000
set_option maxHeartbeats 2000000
structure Reg where
 S:Int
 L:List Int
 H:List Int
 R:Nat
 I:List Int
abbrev rv (r:Reg) (vl vh vi:Value):Value:=.agg #[.int .i64 r.S,vl,vh,.int .u64 (hi r.R),.int .u64 (lo r.R),vi]
def RdR (w:World) (v:Value) (r:Reg):Prop:=∃ vl vh vi,v=rv r vl vh vi/\RdI w vl r.L/\RdI w vh r.H/\RdI w vi r.I
theorem RdR.gb {w w':World} {v:Value} {r:Reg} (h:RdR w v r) (g:Gb w w'):RdR w' v r:=by
 obtain ⟨vl,vh,vi,e,h1,h2,h3⟩:=h
 exact ⟨vl,vh,vi,e,h1.gb g,h2.gb g,h3.gb g⟩
theorem wd_run (a b c d:Int) (W:World):(binOp .eql 79 (.agg #[.int .u64 a,.int .u64 b]) (.agg #[.int .u64 c,.int .u64 d])).run Tryz.prog W=.ok (.bool (a == c && b == d)) W:=by
 have u24:=Tryz.underlying23
 have a24:=Tryz.isAgg23
 have z24:=Tryz.sizeOf23
 have hS:Tryz.prog.underlying 79=some (.struct (Tryz.prog.fieldsOf 79)):=by kernel_rfl
 have hp:Tryz.prog.stoodInHeld 79=false:=by kernel_rfl
 have h:(Op.equalIn 10000 79 (.agg #[.int .u64 a,.int .u64 b]) (.agg #[.int .u64 c,.int .u64 d])).run Tryz.prog W=.ok (a == c && b == d) W:=by
  rw [show (10000:Nat)=9999 + 1 from rfl,run_equalIn_agg W 9999 79 _ _ hS hp]
  simp only [Program.fieldsOf,Tryz.underlying79]
  go_simp
  by_cases h1:a=c <;> by_cases h2:b=d <;> simp [h1,h2]
 rw [run_eql_struct,h];rfl
theorem wd_inj {a b:Nat} (h:hi a=hi b) (k:lo a=lo b):a=b:=by unfold hi at h;unfold lo at k;omega
theorem wd_eq (a b:Nat) (W:World):(binOp .eql 79 (Wd a) (Wd b)).run Tryz.prog W=.ok (.bool (decide (a=b))) W:=by
 rw [wd_run]
 have:(hi a == hi b && lo a == lo b)=decide (a=b):=by
  by_cases h:a=b
  ·subst h;simp
  ·rw [decide_eq_false h,Bool.and_eq_false_iff,beq_eq_false_iff_ne,beq_eq_false_iff_ne]
   by_cases h1:hi a=hi b
   ·right;intro h2;exact h (wd_inj h1 h2)
   ·exact .inl h1
 rw [this]
theorem wd_eq0 (a:Nat) (r:Bool) (h:decide (a=0)=r) (W:World):(binOp .eql 79 (.agg #[.int .u64 (hi a),.int .u64 (lo a)]) (.agg #[.int .u64 0,.int .u64 0])).run Tryz.prog W=.ok (.bool r) W:=by
 subst h;exact wd_eq a 0 W
def okId (x:Int):Bool:=decide (1<=x) && decide (x<=1000000000)
theorem okId_iff (x:Int):okId x=true ↔ 1<=x/\x<=1000000000:=by simp [okId]
theorem isId_c (x:Int) (w:World):Calls Tryz.prog 181 #[.int .i64 x] w fun e w'=>e=.returned (.bool (okId x))/\w=w':=by
 by_cases h:1<=x
 ·by_cases h2:x<=1000000000
  ·have E:Hid (okId x=true):=(okId_iff x).2 ⟨h,h2⟩
   go_enter Tryz.func181,Tryz.ntmps181
   go_wp2
   go_ret
   exact ⟨by rw [E.out];rfl,rfl⟩
  ·have E:Hid (okId x=false):=by unfold Hid;rw [<- Bool.not_eq_true,okId_iff];omega
   go_enter Tryz.func181,Tryz.ntmps181
   go_wp2
   go_ret
   exact ⟨by rw [E.out];rfl,rfl⟩
 ·have E:Hid (okId x=false):=by unfold Hid;rw [<- Bool.not_eq_true,okId_iff];omega
  go_enter Tryz.func181,Tryz.ntmps181
  go_wp2
  go_ret
  exact ⟨by rw [E.out];rfl,rfl⟩
theorem isId_v (x:Int) (b:Bool) (h:okId x=b) (w:World):Calls Tryz.prog 181 #[.int .i64 x] w fun e w'=>e=.returned (.bool b)/\w=w':=by
 subst h;exact isId_c x w
def okAt (l:List Int) (i:Nat):Bool:=okId l[i]! && (i == 0 || decide (l[i - 1]! < l[i]!))
def riseTo (l:List Int):Nat->Bool
 | 0=>true
 | q + 1=>riseTo l q && okAt l q
def rise (l:List Int):Bool:=riseTo l l.length
theorem riseTo_le {l:List Int} {p q:Nat} (h:p<=q) (hp:riseTo l p=false):riseTo l q=false:=by
 induction q with
 | zero =>
   have:p=0:=by omega
   subst this;exact hp
 | succ q ih =>
  by_cases e:p=q + 1
  ·subst e;exact hp
  ·simp only [riseTo];rw [ih (by omega)];rfl
theorem rise_no {l:List Int} {q:Nat} (hq:q < l.length) (h:okAt l q=false):rise l=false :=
 riseTo_le (p:=q + 1) (by omega) (by simp only [riseTo];rw [h,Bool.and_false])
theorem idsRise_c {w:World} {v:Value} {l:List Int} (h:RdI w v l) (hlen:l.length<=4611686018427387904) :
  Calls Tryz.prog 227 #[v] w fun e w'=>e=.returned (.bool (rise l))/\w=w':=by
 obtain ⟨a,cap,rfl,ha⟩:=h
 have A:Hid (∀ i,i < l.length->∃ b o,a=some ⟨b,o,none⟩/\w.cell? ⟨b,o + i,none⟩=some (.int .i64 l[i]!)):=ha
 obtain ⟨n,hN⟩:∃ n,n=l.length:=⟨_,rfl⟩
 have N:Hid (n=l.length):=hN
 rw [<- hN] at hlen ⊢
 clear ha hN
 go_enter Tryz.func227,Tryz.ntmps227
 go_wp2
 go_loopw [7] (fun iv w'=>∃ q:Nat,iv=.int .i64 (q:Int)/\q<=n/\w=w'/\Hid (riseTo l q=true)) (fun iv _=>n - (intOf iv).toNat)
 case atStart=>exact ⟨0,rfl,Nat.zero_le _,rfl,rfl⟩
 case round =>
  obtain ⟨q,rfl,hq,rfl,X⟩:=hrel
  by_cases hqn:q < n
  ·have hqi:(q:Int) < (n:Int):=by omega
   have hql:q < l.length:=by have:=N.out;omega
   obtain ⟨b,o,ea,hc⟩:=A.out q hql
   by_cases hid:okId l[q]! = true
   ·have c:=fun W=>isId_v l[q]! true hid W
    by_cases h0:q=0
    ·have R:Hid (riseTo l (q + 1)=true):=by unfold Hid;simp only [riseTo,okAt];rw [X.out,hid,h0];rfl
     subst ea
     have h0':¬ (q:Int) > 0:=by omega
     generalize l[q]! = x at *
     clear X hid hql h0
     go_wp2_with (go_at_call 181;refine (c _).mono ?_;rintro e w' ⟨rfl,e2⟩;subst e2)
     go_roundw
     case rel=>exact ⟨q + 1,by simp,hqn,by first | rfl | trivial,R⟩
     case measure=>simp [intOf];omega
    ·obtain ⟨p,hp⟩:∃ p,q=p + 1:=⟨q - 1,by omega⟩
     subst hp
     obtain ⟨b',o',ea',hc'⟩:=A.out p (by omega)
     rw [ea] at ea'
     cases ea'
     have hpi:((p + 1:Nat):Int) - 1=(p:Int):=by omega
     have hp0:((p + 1:Nat):Int) > 0:=by omega
     by_cases hlt:l[p]! < l[p + 1]!
     ·have R:Hid (riseTo l (p + 1 + 1)=true):=by
       have x1:=X.out
       unfold Hid
       rw [riseTo,x1,okAt,hid,Nat.add_sub_cancel,decide_eq_true hlt];simp
      have hlt':¬ l[p + 1]! <= l[p]! := by omega
      subst ea
      generalize l[p + 1]! = x at *
      generalize l[p]! = y at *
      clear X hid hql
      go_wp2_with (go_at_call 181;refine (c _).mono ?_;rintro e w' ⟨rfl,e2⟩;subst e2)
      go_roundw
      case rel=>exact ⟨p + 1 + 1,by simp,hqn,by first | rfl | trivial,R⟩
      case measure=>simp [intOf];omega
     ·have R:Hid (rise l=false):=rise_no hql (by rw [okAt,hid,Nat.add_sub_cancel,decide_eq_false hlt];simp)
      have hlt':l[p + 1]! <= l[p]! := by omega
      subst ea
      generalize l[p + 1]! = x at *
      generalize l[p]! = y at *
      clear X hid hql
      go_wp2_with (go_at_call 181;refine (c _).mono ?_;rintro e w' ⟨rfl,e2⟩;subst e2)
      go_ret
      exact ⟨by rw [R.out];rfl,by first | rfl | trivial⟩
   ·have c:=fun W=>isId_v l[q]! false (by simpa using hid) W
    have R:Hid (rise l=false):=rise_no hql (by rw [okAt,show okId l[q]! = false by simpa using hid];rfl)
    subst ea
    generalize l[q]! = x at *
    clear X hid hql
    go_wp2_with (go_at_call 181;refine (c _).mono ?_;rintro e w' ⟨rfl,e2⟩;subst e2)
    go_ret
    exact ⟨by rw [R.out];rfl,by first | rfl | trivial⟩
  ·have hqi:¬ (q:Int) < (n:Int):=by omega
   have R:Hid (rise l=true):=by
    have h1:=X.out
    have h2:q=l.length:=by have:=N.out;omega
    rw [h2] at h1;exact h1
   go_wp2
   go_ret
   exact ⟨by rw [R.out];rfl,by first | rfl | trivial⟩
def uses (r:Reg):Bool:=if r.S=1 then decide (r.L.length=0) && decide (r.H.length=0) && decide (r.R=0) else if r.S=2 then decide (r.R=0) else if r.S=3 then decide (r.H.length=0) else false
structure RegAt (w:World) (b:Nat) (r:Reg) (vl vh vi:Value):Prop where
 c0:w.cell? ⟨b,0,none⟩=some (.int .i64 r.S)
 c1:w.cell? ⟨b,1,none⟩=some vl
 c2:w.cell? ⟨b,2,none⟩=some vh
 c3:w.cell? ⟨b,3,none⟩=some (.int .u64 (hi r.R))
 c4:w.cell? ⟨b,4,none⟩=some (.int .u64 (lo r.R))
 c5:w.cell? ⟨b,5,none⟩=some vi
theorem RegAt.gb {w w':World} {b:Nat} {r:Reg} {vl vh vi:Value} (h:RegAt w b r vl vh vi) (g:Gb w w'):RegAt w' b r vl vh vi :=
 ⟨gb_keeps g h.c0,gb_keeps g h.c1,gb_keeps g h.c2,gb_keeps g h.c3,gb_keeps g h.c4,gb_keeps g h.c5⟩
abbrev rc (r:Reg) (vl vh vi:Value):Obj:=.cells #[.int .i64 r.S,vl,vh,.int .u64 (hi r.R),.int .u64 (lo r.R),vi] 99
theorem RegAt.new (w:World) (r:Reg) (vl vh vi:Value):RegAt (w.alloc (rc r vl vh vi)) w.heap.size r vl vh vi :=
 ⟨by simp [go_sem],by simp [go_sem],by simp [go_sem],by simp [go_sem],by simp [go_sem],by simp [go_sem]⟩
theorem uses_c {w:World} {v:Value} {r:Reg} (h:RdR w v r) :
  Calls Tryz.prog 226 #[v] w fun e w'=>e=.returned (.bool (uses r))/\Gr w w':=by
 obtain ⟨vl,vh,vi,rfl,⟨pl,cl,rfl,_⟩,⟨ph,ch,rfl,_⟩,h3⟩:=h
 clear h3
 have E:Hid (uses r=if r.S=1 then decide (r.L.length=0) && decide (r.H.length=0) && decide (r.R=0) else if r.S=2 then decide (r.R=0) else if r.S=3 then decide (r.H.length=0) else false):=rfl
 generalize uses r=res at *
 obtain ⟨S,L,H,R,I⟩:=r
 dsimp only at *
 generalize L.length=nl at *
 generalize H.length=nh at *
 by_cases s1:S=1
 ·subst s1
  rw [if_pos rfl] at E
  by_cases k1:nl=0
  ·subst k1
   by_cases k2:nh=0
   ·subst k2
    have hz:=fun W=>wd_eq0 R res (by have:=E.out;simpa using this.symm) W
    go_enter Tryz.func226,Tryz.ntmps226
    go_wp2
    go_ret
    exact ⟨rfl,(Gr.refl _).alloc _ _⟩
   ·have e:res=false:=by have:=E.out;rw [this];simp [k2]
    subst e
    have k2':((nh:Int) == 0)=false:=by rw [beq_eq_false_iff_ne];omega
    clear k2 E
    go_enter Tryz.func226,Tryz.ntmps226
    go_wp2
    go_ret
    exact ⟨rfl,(Gr.refl _).alloc _ _⟩
  ·have e:res=false:=by have:=E.out;rw [this];simp [k1]
   subst e
   have k2':((nl:Int) == 0)=false:=by rw [beq_eq_false_iff_ne];omega
   clear k1 E
   go_enter Tryz.func226,Tryz.ntmps226
   go_wp2
   go_ret
   exact ⟨rfl,(Gr.refl _).alloc _ _⟩
 ·have s1':(S == 1)=false:=by rw [beq_eq_false_iff_ne];exact s1
  by_cases s2:S=2
  ·subst s2
   have hz:=fun W=>wd_eq0 R res (by have:=E.out;simpa using this.symm) W
   clear E s1
   go_enter Tryz.func226,Tryz.ntmps226
   go_wp2
   go_ret
   exact ⟨rfl,(Gr.refl _).alloc _ _⟩
  ·have s2':(S == 2)=false:=by rw [beq_eq_false_iff_ne];exact s2
   by_cases s3:S=3
   ·subst s3
    have e:Hid (res=((nh:Int) == 0)):=by
     have:=E.out
     unfold Hid
     rw [this]
     by_cases k:nh=0
     ·simp [k]
     ·have:((nh:Int) == 0)=false:=by rw [beq_eq_false_iff_ne];omega
      rw [this];simp [k]
    clear E s1 s2
    go_enter Tryz.func226,Tryz.ntmps226
    go_wp2
    go_ret
    exact ⟨by rw [e.out];rfl,(Gr.refl _).alloc _ _⟩
   ·have s3':(S == 3)=false:=by rw [beq_eq_false_iff_ne];exact s3
    have e:res=false:=by have:=E.out;rw [this,if_neg s1,if_neg s2,if_neg s3]
    subst e
    clear E s1 s2 s3
    go_enter Tryz.func226,Tryz.ntmps226
    go_wp2
    go_ret
    exact ⟨rfl,(Gr.refl _).alloc _ _⟩
theorem uses_v {w:World} {v:Value} {r:Reg} (h:RdR w v r) (b:Bool) (hb:uses r=b) :
  Calls Tryz.prog 226 #[v] w fun e w'=>e=.returned (.bool b)/\Gr w w':=by
 subst hb;exact uses_c h
theorem idsRise_v {w:World} {v:Value} {l:List Int} (h:RdI w v l) (hlen:l.length<=4611686018427387904) (b:Bool) (hb:rise l=b) :
  Calls Tryz.prog 227 #[v] w fun e w'=>e=.returned (.bool b)/\w=w':=by
 subst hb;exact idsRise_c h hlen
def below (l h:List Int):Nat->Bool
 | 0=>true
 | q + 1=>below l h q && decide (l[q]! <= h[q]!)
theorem below_le {l h:List Int} {p q:Nat} (hpq:p<=q) (hp:below l h p=false):below l h q=false:=by
 induction q with
 | zero =>
   have:p=0:=by omega
   subst this;exact hp
 | succ q ih =>
  by_cases e:p=q + 1
  ·subst e;exact hp
  ·simp only [below];rw [ih (by omega)];rfl
def cornE (l h:List Int) (d:Int):Int:=if chk l d=0 then (if chk h d=0 then (if below l h l.length=true then 0 else 32) else chk h d) else chk l d
theorem corners_c {w:World} {u v:Value} {l h:List Int} (hu:RdI w u l) (hv:RdI w v h) (d:Int) :
  Calls Tryz.prog 228 #[u,v,.int .i64 d] w fun e w'=>e=.returned (.int .i64 (cornE l h d))/\w=w':=by
 have cA:=fun r k=>check_v hu d r k
 have cB:=fun r k=>check_v hv d r k
 obtain ⟨pa,ca,rfl,ha⟩:=hu
 obtain ⟨pb,cb,rfl,hb⟩:=hv
 have A:Hid (∀ i,i < l.length->∃ b o,pa=some ⟨b,o,none⟩/\w.cell? ⟨b,o + i,none⟩=some (.int .i64 l[i]!)):=ha
 have B:Hid (∀ i,i < h.length->∃ b o,pb=some ⟨b,o,none⟩/\w.cell? ⟨b,o + i,none⟩=some (.int .i64 h[i]!)):=hb
 clear ha hb
 by_cases h1:chk l d=0
 ·have c1:=cA _ h1
  by_cases h2:chk h d=0
  ·have c2:=cB _ h2
   have E:Hid (cornE l h d=if below l h l.length=true then 0 else 32):=by unfold Hid cornE;rw [if_pos h1,if_pos h2]
   obtain ⟨k1,k2,k3,_⟩:=chk_ok h1
   obtain ⟨_,_,k4,_⟩:=chk_ok h2
   have LL:Hid (h.length=l.length):=by unfold Hid;omega
   rw [show h.length=l.length by omega] at c2 ⊢
   obtain ⟨n,hN⟩:∃ n,n=l.length:=⟨_,rfl⟩
   have N:Hid (n=l.length):=hN
   rw [<- hN] at c1 c2 k1 k2 ⊢
   generalize cornE l h d=res at *
   clear cA cB h1 h2 k3 k4 hN
   go_enter Tryz.func228,Tryz.ntmps228
   go_wp2_with fail
   refine c1.mono ?_
   rintro e w' ⟨rfl,e2⟩
   subst e2
   go_wp2_with fail
   refine c2.mono ?_
   rintro e w' ⟨rfl,e2⟩
   subst e2
   clear c1 c2
   go_wp2
   go_loopw [25] (fun iv w'=>∃ q:Nat,iv=.int .i64 (q:Int)/\q<=n/\w=w'/\Hid (below l h q=true)) (fun iv _=>n - (intOf iv).toNat)
   case atStart=>exact ⟨0,rfl,Nat.zero_le _,rfl,rfl⟩
   case round =>
    obtain ⟨q,rfl,hq,rfl,X⟩:=hrel
    by_cases hqn:q < n
    ·have hqi:(q:Int) < (n:Int):=by omega
     have hql:q < l.length:=by have:=N.out;omega
     obtain ⟨b1,o1,ea,hc1⟩:=A.out q hql
     obtain ⟨b2,o2,eb,hc2⟩:=B.out q (by have:=LL.out;omega)
     subst ea;subst eb
     by_cases hle:l[q]! <= h[q]!
     ·have R:Hid (below l h (q + 1)=true):=by unfold Hid;rw [below,X.out,decide_eq_true hle];rfl
      have hle':¬ l[q]! > h[q]! := by omega
      generalize l[q]! = x at *
      generalize h[q]! = y at *
      clear hle
      go_wp2
      go_roundw
      case rel=>exact ⟨q + 1,by simp,hqn,by first | rfl | trivial,R⟩
      case measure=>simp [intOf];omega
     ·have R:Hid (res=32):=by
       have h1:below l h l.length=false:=below_le (p:=q + 1) (by omega) (by rw [below,decide_eq_false hle,Bool.and_false])
       have h2:=E.out
       rw [h1] at h2;exact h2
      have hle':l[q]! > h[q]! := by omega
      generalize l[q]! = x at *
      generalize h[q]! = y at *
      clear hle
      go_wp2
      go_ret
      exact ⟨by rw [R.out];rfl,by first | rfl | trivial⟩
    ·have hqi:¬ (q:Int) < (n:Int):=by omega
     have R:Hid (res=0):=by
      have h1:=X.out
      have h2:=E.out
      rw [show q=l.length by have:=N.out;omega] at h1
      rw [h1] at h2;exact h2
     go_wp2
     go_ret
     exact ⟨by rw [R.out];rfl,by first | rfl | trivial⟩
  ·have c2:=cB _ rfl
   have E:cornE l h d=chk h d:=by unfold cornE;rw [if_pos h1,if_neg h2]
   have h3:(chk h d == 0)=false:=by rw [beq_eq_false_iff_ne];exact h2
   rw [E]
   clear cA cB h1 h2 E A B
   generalize chk h d=s at *
   generalize l.length=m at *
   generalize h.length=n at *
   go_enter Tryz.func228,Tryz.ntmps228
   go_wp2_with fail
   refine c1.mono ?_
   rintro e w' ⟨rfl,e2⟩
   subst e2
   go_wp2_with fail
   refine c2.mono ?_
   rintro e w' ⟨rfl,e2⟩
   subst e2
   go_wp2
   go_ret
   exact ⟨rfl,rfl⟩
 ·have c1:=cA _ rfl
  have E:cornE l h d=chk l d:=by unfold cornE;rw [if_neg h1]
  have h3:(chk l d == 0)=false:=by rw [beq_eq_false_iff_ne];exact h1
  rw [E]
  clear cA cB h1 E A B
  generalize chk l d=s at *
  generalize l.length=m at *
  generalize h.length=n at *
  go_enter Tryz.func228,Tryz.ntmps228
  go_wp2_with fail
  refine c1.mono ?_
  rintro e w' ⟨rfl,e2⟩
  subst e2
  go_wp2
  go_ret
  exact ⟨rfl,rfl⟩
theorem corners_v {w:World} {u v:Value} {l h:List Int} (hu:RdI w u l) (hv:RdI w v h) (d r:Int) (hr:cornE l h d=r) :
  Calls Tryz.prog 228 #[u,v,.int .i64 d] w fun e w'=>e=.returned (.int .i64 r)/\w=w':=by
 subst hr;exact corners_c hu hv d
end Go.Proofs.YtcipdampcmfmaaaGreat

namespace Go.Proofs.YtcipdampcmfmaaaGreat
open Go.Shelf Go.RowKit Go.Lib Go.Sort
shelf_lay Lays.n189 Nm 189 at Tryz as Tryz.laysSort
shelf_lay Lays2.n15 Nm2 15 at Tryz as Tryz.laysClone
def Own (w:World) (base:Nat) (v:Value) (l:List Int):Prop:=w.ownsRow base 3 1 v l.length (l.map (Value.int .i64))
theorem Own.kept {w w':World} {base:Nat} {v:Value} {l:List Int} {row:Option Nat} (h:Own w base v l) (hg:w.grownBy w' row) (hne:v.ownBlock=none ∨ v.ownBlock ≠ row):Own w' base v l:=World.ownsRow.kept h hg hne
theorem Own.gb {w w':World} {base:Nat} {v:Value} {l:List Int} (h:Own w base v l) (g:Gb w w'):Own w' base v l :=
 h.kept (row:=none) ⟨g.os,g.tape,g.output,g.size,fun k hk _=>g.block k hk⟩ (by cases hv:v.ownBlock <;> simp)
theorem Own.mono {w:World} {b b':Nat} {v:Value} {l:List Int} (h:Own w b v l) (hb:b'<=b):Own w b' v l:=by
 refine ⟨h.1,?_⟩
 rcases h.2 with h | ⟨g,cap,cur,e,h1,r⟩
 ·exact .inl h
 ·exact .inr ⟨g,cap,cur,e,by omega,r⟩
theorem Own.rd {w:World} {base:Nat} {v:Value} {l:List Int} (h:Own w base v l):RdI w v l:=by
 rcases h.2 with ⟨rfl,h0⟩ | ⟨g,cap,cur,rfl,_⟩
 ·refine ⟨none,0,by rw [h0],fun i hi=>by omega⟩
 ·refine ⟨_,cap,rfl,fun i hi=>⟨g,0,rfl,?_⟩⟩
  have:=World.ownsRow.cells h (g:=g) rfl i (.int .i64 l[i]!) (by rw [List.getElem?_map,getElem!_pos l i hi,List.getElem?_eq_getElem hi];rfl)
  rwa [Addr.add_lit] at this
theorem own_nil (w:World) (base:Nat):Own w base (.slice none 0 0) []:=World.ownsRow_nil w base 3 1
theorem below_grown {B:Nat} {w0 w w':World} {row:Option Nat} (h:Below B w0 w) (g:w.grownBy w' row) (hr:∀ k,row=some k->B<=k) (hB:B<=w.heap.size):Below B w0 w' :=
 h.grown g hB (fun k e=>hr k e)
def srt (l:List Int):List Int:=l.mergeSort fun x y=>decide (x<=y)
theorem srt_len (l:List Int):(srt l).length=l.length:=List.length_mergeSort l
theorem sort_c {w:World} {base:Nat} {v:Value} {l:List Int} (h:Own w base v l) (hn:l.length<=100000) (hb:base<=w.heap.size) :
  Calls Tryz.prog 79 #[v] w fun e w'=>e=.returned (.tuple #[])/\Own w' base v (srt l)/\Below base w w':=by
 rcases h.2 with ⟨rfl,h0⟩ | ⟨g,cap,cur,rfl,hg,hh,h1,h2,h3,h4⟩
 ·have hc:=Any.slices_Sort_int_none Tryz.laysSort none 0 w
  change Calls Tryz.prog 79 _ _ _ at hc
  refine hc.mono ?_
  rintro e w' ⟨rfl,e2⟩
  subst e2
  refine ⟨rfl,?_,Below.refl _ _⟩
  have:l=[]:=List.eq_nil_of_length_eq_zero h0
  subst this
  rw [show srt []=[] by simp [srt]]
  exact own_nil _ _
 ·have hH:Holds (Value.int .i64) w g 0 l.toArray:=holds_of_blockI hh (by rw [Nat.mul_one] at h4;exact h4)
  have hc:=Any.slices_Sort_int Tryz.laysSort g 0 cap l w hH (Array.getElem?_eq_some_iff.1 hh).1 (by omega)
  change Calls Tryz.prog 79 _ _ _ at hc
  refine hc.mono ?_
  rintro e w' ⟨rfl,n,os,rfl⟩
  refine ⟨rfl,?_,?_⟩
  ·have:=ownsRow_sortedI (n:=n) (os:=os) (ts:=srt l) (srt_len l) hg hh h1 h2 h3
   unfold Own
   rw [srt_len];exact this
  ·exact below_grown (Below.refl _ _) (grownBy_sortedI _) (fun k e=>by cases e;exact hg) hb
theorem clone_c {w:World} {v:Value} {l:List Int} (h:RdI w v l) (hn:l.length<=100000) (h0:1<=l.length) :
  Calls Tryz.prog 57 #[v] w fun e w'=>∃ v',e=.returned v'/\Own w' w.heap.size v' l/\Gb w w':=by
 obtain ⟨a,cap,rfl,ha⟩:=h
 obtain ⟨b,o,rfl,_⟩:=ha 0 (by omega)
 have hc:=Any.slices_Clone_int Tryz.laysClone b o l.length cap l w (Nat.le_refl _) (by omega) (fun j hj=>by
  obtain ⟨b',o',e,hcell⟩:=ha j hj
  cases e
  rw [hcell,getElem!_pos l j hj,List.getD,List.getElem?_eq_getElem hj];rfl)
 change Calls Tryz.prog 57 _ _ _ at hc
 refine hc.mono ?_
 rintro e w' ⟨v',rfl,ho,_,hb⟩
 rw [List.take_of_length_le (Nat.le_refl _)] at ho
 exact ⟨v',rfl,ho,hb⟩
end Go.Proofs.YtcipdampcmfmaaaGreat

namespace Go.Proofs.YtcipdampcmfmaaaGreat
open Go.RowKit Go.Sort Go.Maps
set_option maxRecDepth 100000
set_option maxHeartbeats 4000000
abbrev Rw:Type:=Int × List Int
def RdW (w:World) (v:Value) (rs:List Rw):Prop:=∃ a cap,v=.slice a rs.length cap/\∀ i,i < rs.length->∃ b o u,a=some ⟨b,o,none⟩/\w.cell? ⟨b,o + i * 2,none⟩=some (.int .i64 rs[i]!.1)/\w.cell? ⟨b,o + i * 2 + 1,none⟩=some u/\RdI w u rs[i]!.2
theorem RdW.gb {w w':World} {v:Value} {rs:List Rw} (h:RdW w v rs) (g:Gb w w'):RdW w' v rs:=by
 obtain ⟨a,cap,e,h⟩:=h
 refine ⟨a,cap,e,fun i hi=>?_⟩
 obtain ⟨b,o,u,e1,e2,e3,e4⟩:=h i hi
 exact ⟨b,o,u,e1,gb_keeps g e2,gb_keeps g e3,e4.gb g⟩
def idsOf (rs:List Rw):List Int:=rs.map (·.1)
def rowE (rs:List Rw) (d:Int) (i:Nat):Int:=if ((idsOf rs).take i).contains rs[i]!.1=false/\okId rs[i]!.1=true then chk rs[i]!.2 d else 50
def rowsTo (rs:List Rw) (d:Int):Nat->Int
 | 0=>0
 | q + 1=>if rowsTo rs d q=0 then rowE rs d q else rowsTo rs d q
def idsE (rs:List Rw) (d:Int):Int:=if rs.length<=512 then rowsTo rs d rs.length else 2
theorem rowsTo_stay {rs:List Rw} {d:Int} {p q:Nat} (hpq:p<=q) (h:rowsTo rs d p ≠ 0):rowsTo rs d q=rowsTo rs d p:=by
 induction q with
 | zero =>
   have:p=0:=by omega
   subst this;rfl
 | succ q ih =>
  by_cases e:p=q + 1
  ·subst e;rfl
  ·have h1:=ih (by omega)
   rw [rowsTo,h1,if_neg h]
theorem rowsTo_err {rs:List Rw} {d:Int} {q:Nat} (hq:q < rs.length) (h0:rowsTo rs d q=0) (h:rowE rs d q ≠ 0) (hn:rs.length<=512):idsE rs d=rowE rs d q:=by
 have h1:rowsTo rs d (q + 1)=rowE rs d q:=by rw [rowsTo,if_pos h0]
 rw [idsE,if_pos hn,rowsTo_stay (p:=q + 1) (by omega) (by rw [h1];exact h),h1]
theorem rowsTo_next {rs:List Rw} {d:Int} {q:Nat} (h0:rowsTo rs d q=0) (h:rowE rs d q=0):rowsTo rs d (q + 1)=0:=by rw [rowsTo,if_pos h0,h]
theorem ids_take {rs:List Rw} {q:Nat} (hq:q < rs.length):(idsOf rs).take (q + 1)=(idsOf rs).take q ++ [rs[q]!.1]:=by
 unfold idsOf
 rw [List.take_succ_eq_append_getElem (by simpa using hq),getElem!_pos rs q hq];simp
theorem law3:Keyed Tryz.prog 3:=int_keyed Tryz.underlying3
theorem zero86 (w:World):(zeroValue 229).run Tryz.prog w=.ok (.agg #[]) w:=by kernel_rfl
theorem Tryz.info3:(Tryz.prog.info? 3).map (fun i=>(i.zero,i.size,i.bytes))=some (some (.int .i64 0),1,8):=by kernel_rfl
theorem make85 (n:Int) (w:World):(Instr.makeMap 228 (some (.int .i64 n))).run Tryz.prog w=.ok (.map (some w.heap.size)) (w.alloc (.map #[] 0)):=by
 have hu:=run_underlying Tryz.underlying228 w
 simp [Instr.makeMap,hu,go_sem]
def setI (l:List Int):DataW Unit:=setOf (.agg []) (l.map (Lit.int .i64))
theorem any_int (x:Int):∀ l:List Int,l.any ((fun y:Lit=>y.sameKey (.int .i64 x)) ∘ Lit.int .i64)=l.contains x
 | []=>rfl
 | a :: r=>by
  rw [List.any_cons,List.contains_cons,any_int x r]
  congr 1
  show decide (IntKind.i64=IntKind.i64/\a=x)=(x == a)
  by_cases e:a=x
  ·subst e;simp
  ·have e':¬ x=a:=fun h=>e h.symm
   simp [e,e']
theorem has_setI (l:List Int) (x:Int):Maps.has (setI l) (.int .i64 x)=l.contains x:=by
 unfold setI
 rw [has_setOf _ _ _ (fun y hy=>by obtain ⟨_,_,rfl⟩:=List.mem_map.1 hy;trivial),List.any_map]
 exact any_int x _
theorem setI_snoc (l:List Int) (x:Int):setI (l ++ [x])=(setI l).put (.int .i64 x) (.agg []):=by
 unfold setI
 rw [List.map_append,List.map_singleton,setOf_snoc]
structure IdSt (w W:World) (M:Nat) (v:Value) (l:List Int):Prop where
 map:W.ownsMap Tryz.prog 3 (unitElem (H:=Unit)) M l.length (setI l)
 row:Own W w.heap.size v l
 ne:v.ownBlock ≠ some M
 gb:Gb w W
 hM:w.heap.size<=M
theorem IdSt.alloc {w W:World} {M:Nat} {v:Value} {l:List Int} (h:IdSt w W M v l) (o:Obj):IdSt w (W.alloc o) M v l :=
 ⟨h.map.alloc o,World.ownsRow.alloc h.row o,h.ne,gb_alloc h.gb o,h.hM⟩
theorem IdSt.next {w W W1 W2:World} {M:Nat} {v v':Value} {l:List Int} {x:Int} {o:Obj} (h:IdSt w W M v l) (hm:W1.ownsMap Tryz.prog 3 (unitElem (H:=Unit)) M (l.length + 1) ((setI l).put (.int .i64 x) (.agg []))) (hg:W.grownBy W1 (some M))
  (hr:W2.ownsRow w.heap.size 3 1 v' (l.length + 1) (l.map (Value.int .i64) ++ [.int .i64 x])) (hg2:(W1.alloc o).grownBy W2 v.ownBlock) (hloc:v'.ownBlock=v.ownBlock ∨ v'.ownBlock=some (W1.alloc o).heap.size):IdSt w W2 M v' (l ++ [x]):=by
 have s1:=hg.size
 have s0:=h.gb.size
 refine ⟨?_,?_,?_,?_,h.hM⟩
 ·rw [setI_snoc,List.length_append]
  exact (hm.alloc o).kept hg2 (fun e=>h.ne e.symm)
 ·unfold Own
  rw [List.length_append,List.map_append]
  exact hr
 ·rcases hloc with e | e
  ·rw [e];exact h.ne
  ·rw [e]
   intro e2
   have:=hm.lt
   have e3:(W1.alloc o).heap.size=M:=by injection e2
   rw [World.size_alloc] at e3
   omega
 ·have b1:Below w.heap.size w W1:=below_grown h.gb hg (fun k e=>by cases e;exact h.hM) s0
  exact below_grown (b1.alloc (by omega) o) hg2 (fun k e=>(World.ownsRow.lt h.row k e).1) (by rw [World.size_alloc];omega)
theorem grown_cell {W W':World} {row:Option Nat} {p:Addr} {v:Value} (g:W.grownBy W' row) (hc:W.cell? p=some v) (hn:some p.block ≠ row):W'.cell? p=some v :=
 (World.cell?_of_block (g.block p.block (World.block_lt_of_cell? W p hc) hn)).trans hc
theorem idsOf_c {w:World} {v:Value} {rs:List Rw} (h:RdW w v rs) (d:Int) (hlen:rs.length<=4611686018427387904) (hwf:∀ i,i < rs.length->(Lit.int .i64 rs[i]!.1).wf=true) :
  Calls Tryz.prog 140 #[v,.int .i64 d] w fun e w'=>∃ v',e=.returned (.tuple #[v',.int .i64 (idsE rs d)])/\Gb w w'/\(idsE rs d=0->Own w' w.heap.size v' (srt (idsOf rs)))/\(idsE rs d ≠ 0->v'=.slice none 0 0):=by
 obtain ⟨a,cap,rfl,ha⟩:=h
 have A:Hid (∀ i,i < rs.length->∃ b o u,a=some ⟨b,o,none⟩/\w.cell? ⟨b,o + i * 2,none⟩=some (.int .i64 rs[i]!.1)/\w.cell? ⟨b,o + i * 2 + 1,none⟩=some u/\RdI w u rs[i]!.2):=ha
 have F:Hid (∀ i,i < rs.length->(Lit.int .i64 rs[i]!.1).wf=true):=hwf
 obtain ⟨n,hN⟩:∃ n,n=rs.length:=⟨_,rfl⟩
 have N:Hid (n=rs.length):=hN
 rw [<- hN] at hlen ⊢
 clear ha hwf
 by_cases hn:n<=512
 ·have E:Hid (idsE rs d=rowsTo rs d rs.length):=by unfold Hid idsE;rw [if_pos (by omega)]
  clear hN
  obtain ⟨i0,hi,hz0,hz1,hz2⟩:=info_parts Tryz.info3
  have II:Hid (Tryz.prog.info? 3=some i0/\i0.zero=some (.int .i64 0)/\i0.size=1/\i0.bytes=8):=⟨hi,hz0,hz1,hz2⟩
  obtain ⟨w1,hmk,ho,hg⟩:=run_make_own (P:=Tryz.prog) w w.heap.size 41 3 i0 (.int .i64 0) 1 Tryz.underlying41 hi hz0 hz1 .i64 .i64 n (by rw [hz2];omega) (by simp only [maxLen];omega) (Nat.le_refl _)
  have O:Hid (IdSt w (w1.alloc (.map #[] 0)) w1.heap.size (.slice (some ⟨w.heap.size,0,none⟩) 0 n) []):=by
   have hlt:=ho.lt w.heap.size rfl
   refine ⟨World.ownsMap_made _ _ _ _,World.ownsRow.alloc ho _,?_,?_,Nat.le_of_lt hlt.2⟩
   ·intro e
    have:w.heap.size=w1.heap.size:=by simpa [Value.ownBlock] using e
    omega
   ·exact gb_alloc (below_grown (Below.refl _ _) hg (fun k e=>by cases e) (Nat.le_refl _)) _
  have hmm:=make85 (n:Int)
  clear hi hz0 hz1 hz2 ho hg
  go_enter Tryz.func140,Tryz.ntmps140
  go_wp2
  clear hmk hmm
  generalize w1.heap.size=M at *
  go_loopw [6,24] (fun vv iv w'=>∃ q:Nat,iv=.int .i64 (q:Int)/\q<=n/\Hid (rowsTo rs d q=0)/\Hid (IdSt w w' M vv ((idsOf rs).take q))) (fun _ iv _=>n - (intOf iv).toNat)
  case atStart=>exact ⟨0,rfl,Nat.zero_le _,rfl,O.out⟩
  case round =>
   clear O
   obtain ⟨q,rfl,hq,X,Y⟩:=hrel
   by_cases hqn:q < n
   ·have hqi:(q:Int) < (n:Int):=by omega
    have hql:q < rs.length:=by have:=N.out;omega
    obtain ⟨b,o,u,ea,h1,h2,h3⟩:=A.out q hql
    have hkey:keyOf Tryz.prog 3 (.int .i64 rs[q]!.1)=some (.int .i64 rs[q]!.1):=keyOf_int_mk Tryz.underlying3 (F.out q hql)
    have EE:Hid (rowE rs d q=if ((idsOf rs).take q).contains rs[q]!.1=false/\okId rs[q]!.1=true then chk rs[q]!.2 d else 50):=rfl
    have NX:Hid ((idsOf rs).take (q + 1)=(idsOf rs).take q ++ [rs[q]!.1]):=ids_take hql
    have LL:Hid (((idsOf rs).take q).length=q):=by unfold Hid idsOf;rw [List.length_take];simp;omega
    have QQ:Hid (q < rs.length/\rs.length<=512):=⟨hql,by have:=N.out;omega⟩
    have hx0:=gb_keeps Y.out.gb h1
    have hx1:=gb_keeps Y.out.gb h2
    have h3:=h3.gb Y.out.gb
    have hhas:=has_setI ((idsOf rs).take q) rs[q]!.1
    have hE:Hid (rowE rs d q ≠ 0->idsE rs d=rowE rs d q):=fun h=>rowsTo_err QQ.out.1 X.out h QQ.out.2
    have hNext:Hid (rowE rs d q=0->rowsTo rs d (q + 1)=0):=fun h=>rowsTo_next X.out h
    generalize rs[q]!.1=x at *
    generalize rs[q]!.2=V at *
    generalize rowE rs d q=re at *
    clear h1 h2
    subst ea
    have hown:=fun o=>Y.out.map.alloc o
    generalize hD:setI ((idsOf rs).take q)=D at *
    generalize hL:(idsOf rs).take q=L at *
    have HD:Hid (setI L=D/\L=(idsOf rs).take q):=⟨hD,hL.symm⟩
    clear hD hL hql
    cases hcon:L.contains x with
    | true =>
     rw [hcon] at hhas
     have R:Hid (idsE rs d=50):=by
      have h1:=EE.out
      rw [if_neg (by rw [hcon];simp)] at h1
      have:=hE.out (by omega)
      unfold Hid;omega
     obtain ⟨pv,cv,rfl,_⟩:=h3
     generalize V.length=nv at *
     clear EE hE hNext NX LL hcon HD X
     go_wp2_with (first
      | (at_lookup;refine wpList_lookup_own_unit _ rfl _ _ 228 rfl 3 229 law3 Tryz.underlying228 (zero86 _) M L.length _ rfl (hown _) _ _ rfl hkey ?_)
      | go_in)
     exact bodyPost_ret (v:=.tuple #[.slice none 0 0,.int .i64 50]) (by simp [results,Tryz.results140,go_sem]) rfl ⟨.slice none 0 0,by rw [R.out],gb_alloc (gb_alloc Y.out.gb _) _,fun h=>absurd (R.out.symm.trans h) (by decide),fun _=>rfl⟩
    | false =>
     rw [hcon] at hhas
     cases hok:okId x with
     | false =>
      have c61:=fun W=>isId_v x false hok W
      have R:Hid (idsE rs d=50):=by
       have h1:=EE.out
       rw [if_neg (by rw [hok];simp)] at h1
       have:=hE.out (by omega)
       unfold Hid;omega
      obtain ⟨pv,cv,rfl,_⟩:=h3
      generalize V.length=nv at *
      clear EE hE hNext NX LL hcon HD X hok
      go_wp2_with (first
       | (at_lookup;refine wpList_lookup_own_unit _ rfl _ _ 228 rfl 3 229 law3 Tryz.underlying228 (zero86 _) M L.length _ rfl (hown _) _ _ rfl hkey ?_)
       | (go_at_call 181;refine (c61 _).mono ?_;rintro e w' ⟨rfl,e2⟩;subst e2)
       | go_in)
      exact bodyPost_ret (v:=.tuple #[.slice none 0 0,.int .i64 50]) (by simp [results,Tryz.results140,go_sem]) rfl ⟨.slice none 0 0,by rw [R.out],gb_alloc (gb_alloc Y.out.gb _) _,fun h=>absurd (R.out.symm.trans h) (by decide),fun _=>rfl⟩
     | true =>
      have c61:=fun W=>isId_v x true hok W
      have EE2:Hid (re=chk V d):=by
       have h1:=EE.out
       rw [if_pos ⟨hcon,hok⟩] at h1
       exact h1
      clear EE hok hcon
      by_cases hv:chk V d=0
      ·have c11:=fun W' (g:Gb wr W')=>check_v (h3.gb g) d 0 hv
       have R:Hid (rowsTo rs d (q + 1)=0):=hNext.out (by rw [EE2.out,hv])
       obtain ⟨pv,cv,rfl,_⟩:=h3
       generalize V.length=nv at *
       clear hE hNext EE2 hv
       have II':=II.out
       have hrow:=Y.out.row
       have hq512:L.length<=512:=by have:=LL.out;omega
       have hw0:=Y.out.gb.size
       have MW:Hid (some wr.heap.size ≠ some M):=by have:=Y.out.map.lt;unfold Hid;intro e;injection e;omega
       have T0:Hid (((wr.alloc (.cells #[.int .i64 x,.slice pv nv cv] 43)).alloc (.cells #[] 229)).cell? ⟨wr.heap.size,0,none⟩=some (.int .i64 x)):=by unfold Hid;simp [go_sem]
       go_wp2_with (first
        | (at_lookup;refine wpList_lookup_own_unit _ rfl _ _ 228 rfl 3 229 law3 Tryz.underlying228 (zero86 _) M L.length _ rfl (hown _) _ _ rfl hkey ?_)
        | (go_at_call 181;refine (c61 _).mono ?_;rintro e w' ⟨rfl,e2⟩;subst e2)
        | (go_at_call 45;refine (c11 _ (gb_alloc (gb_alloc (Below.refl _ _) _) _)).mono ?_;rintro e w' ⟨rfl,e2⟩;subst e2)
        | (at_mapUpdate;refine wpList_mapUpdate_own _ rfl _ _ _ 228 rfl 3 229 law3 Tryz.underlying228 (unitElem (H:=Unit)) M L.length _ rfl ((hown _).alloc _) (by unfold maxLen;omega) _ _ _ rfl rfl hkey _ [] unitElem_mk ?_;intro w1 hown1 hgrow1;have t0:=grown_cell hgrow1 T0.out MW.out)
        | (at_builtin;refine wpList_append_own_at _ rfl _ _ 41 rfl w.heap.size 3 i0 (.int .i64 0) 1 8 Tryz.underlying41 II'.1 II'.2.1 II'.2.2.1 II'.2.2.2 rfl (by decide) _ _ _ rfl (World.ownsRow.alloc (World.ownsRow.kept (World.ownsRow.alloc (World.ownsRow.alloc hrow _) _) hgrow1 (Or.inr Y.out.ne)) _) ⟨w1.heap.size,0,none⟩ 1 1 [.int .i64 x] rfl rfl (cell_one_new _ _ _) (ints_oneCell .i64 [x]) (by unfold maxLen;omega) (by omega) (by have:=hgrow1.size;simp at this ⊢;omega) ?_;intro v' w2 hown' hgrow2 hnil2 hloc)
        | go_in)
       have YN:=((Y.out.alloc (.cells #[.int .i64 x,.slice pv nv cv] 43)).alloc (.cells #[] 229)).next (HD.out.1 ▸ hown1) hgrow1 hown' hgrow2 hloc
       rw [<- NX.out] at YN
       clear hown1 hgrow1 hown' hgrow2 hloc hnil2 hown hrow t0
       go_roundw
       case rel=>exact ⟨q + 1,by go_num,hqn,R,YN⟩
       case measure=>simp [intOf];omega
      ·have c11:=fun W' (g:Gb wr W')=>check_v (h3.gb g) d _ rfl
       have hv':(chk V d == 0)=false:=by rw [beq_eq_false_iff_ne];exact hv
       have R:Hid (idsE rs d=chk V d/\chk V d ≠ 0):=by
        have:=hE.out (by rw [EE2.out];exact hv)
        exact ⟨by rw [this,EE2.out],hv⟩
       obtain ⟨pv,cv,rfl,_⟩:=h3
       generalize V.length=nv at *
       clear hE hNext EE2 hv NX LL HD X
       generalize chk V d=ce at *
       go_wp2_with (first
        | (at_lookup;refine wpList_lookup_own_unit _ rfl _ _ 228 rfl 3 229 law3 Tryz.underlying228 (zero86 _) M L.length _ rfl (hown _) _ _ rfl hkey ?_)
        | (go_at_call 181;refine (c61 _).mono ?_;rintro e w' ⟨rfl,e2⟩;subst e2)
        | (go_at_call 45;refine (c11 _ (gb_alloc (gb_alloc (Below.refl _ _) _) _)).mono ?_;rintro e w' ⟨rfl,e2⟩;subst e2)
        | go_in)
       exact bodyPost_ret (v:=.tuple #[.slice none 0 0,.int .i64 ce]) (by simp [results,Tryz.results140,go_sem]) rfl ⟨.slice none 0 0,by rw [R.out.1],gb_alloc (gb_alloc Y.out.gb _) _,fun h=>absurd (R.out.1.symm.trans h) R.out.2,fun _=>rfl⟩
   ·have hqi:¬ (q:Int) < (n:Int):=by omega
    have hL:(idsOf rs).take q=idsOf rs:=List.take_of_length_le (by unfold idsOf;rw [List.length_map];have:=N.out;omega)
    have Y':=Y.out
    rw [hL] at Y'
    have R:Hid (idsE rs d=0):=by
     have h1:=X.out
     rw [show q=rs.length by have:=N.out;omega] at h1
     rw [<- E.out] at h1;exact h1
    have c67:=sort_c Y'.row (by unfold idsOf;rw [List.length_map];have:=N.out;omega) Y'.gb.size
    have Y2:Hid (Gb w wr):=Y'.gb
    clear X Y Y' hL
    go_wp2_with fail
    refine c67.mono ?_
    rintro e w2 ⟨rfl,ho,hb⟩
    go_wp2
    refine bodyPost_ret (v:=.tuple #[u6,.int .i64 0]) (by simp [results,Tryz.results140,go_sem]) rfl ⟨u6,by rw [R.out],Y2.out.trans hb,fun _=>ho,fun h=>absurd R.out h⟩
 ·have hn':(n:Int) > 512:=by omega
  have E:Hid (idsE rs d=2):=by unfold Hid idsE;rw [if_neg (by omega)]
  clear hN
  go_enter Tryz.func140,Tryz.ntmps140
  go_wp2
  exact bodyPost_ret (v:=.tuple #[.slice none 0 0,.int .i64 2]) (by simp [results,Tryz.results140,go_sem]) rfl ⟨.slice none 0 0,by rw [E.out],Below.refl _ _,fun h=>absurd (E.out.symm.trans h) (by decide),fun _=>rfl⟩
end Go.Proofs.YtcipdampcmfmaaaGreat
