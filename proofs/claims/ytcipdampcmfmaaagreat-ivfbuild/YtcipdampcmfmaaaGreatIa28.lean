import Derived.Test.YtcipdampcmfmaaaGreatIaRwL
import Derived.Test.YtcipdampcmfmaaaGreatIa19
import Derived.Test.YtcipdampcmfmaaaGreatIa27
import Derived.Test.YtcipdampcmfmaaaGreatIa20
import Derived.Test.YtcipdampcmfmaaaGreatIa2
namespace Go.Proofs.YtcipdampcmfmaaaGreat
open Go.RowKit Go.Sort
theorem symR {g o cap bf:Nat} {c lt:El->El->Prop} (ht:∀ x y z,lt x y->lt y z->lt x z):∀ (N a m b:Nat) (l:List El) (w:World),b - a<=N->a < m->m < b->b<=l.length->l.length<=4000->SRA w g o l->PreM c lt l a m b->CmpR w g bf l c ->
  Calls Tryz.prog 188 #[.slice (some ⟨g,o,none⟩) l.length cap,.int .i64 (a:Int),.int .i64 (m:Int),.int .i64 (b:Int),.func (.func 100) #[] #[.pointer (some ⟨bf,0,none⟩)]] w fun e w'=>e=.returned (.tuple #[])/\∃ l',Seg l l' a b/\Ri lt l' a b/\SRA w' g o l'/\Tk.Kp (fun k=>k=g) w w'
 | 0,a,m,b,l,w,h0,h1,h2,_,_,_,_,_=>by omega
 | N + 1,a,m,b,l,w,h0,h1,h2,hb,hl,hI,hP,hC=>by
  by_cases e1:m=a + 1
  ·exact symR_one ht hI hl hb hP hC e1 h2
  ·by_cases e2:b=m + 1
   ·exact symR_last ht hI hl hb hP hC e2 (by omega)
   ·have RE:Hid (∀ (a' m' b':Nat) (l':List El) (W:World),b' - a' < b - a->a' < m'->m' < b'->b'<=l.length->l'.length=l.length->SRA W g o l'->PreM c lt l' a' m' b'->CmpR W g bf l' c->Calls Tryz.prog 188 #[.slice (some ⟨g,o,none⟩) l.length cap,.int .i64 (a':Int),.int .i64 (m':Int),.int .i64 (b':Int),.func (.func 100) #[] #[.pointer (some ⟨bf,0,none⟩)]] W fun e w'=>e=.returned (.tuple #[])/\∃ l2,Seg l' l2 a' b'/\Ri lt l2 a' b'/\SRA w' g o l2/\Tk.Kp (fun k=>k=g) W w'):=by
     intro a' m' b' l' W q1 q2 q3 q4 q5 q6 q7 q8
     have:=symR (cap:=cap) ht N a' m' b' l' W (by omega) q2 q3 (by omega) (by omega) q6 q7 q8
     rw [q5] at this
     exact this
    by_cases e3:(a + b) / 2 < m
    ·exact symR_cutA ht hI hl hb hP hC (by omega) (by omega) rfl e3 RE
    ·exact symR_cutB ht hI hl hb hP hC (by omega) (by omega) rfl e3 RE
def TagR (c lt:El->El->Prop) (l:List El) (a b:Nat):Prop:=∀ i j,a<=i->i < j->j < b->(c l[j]! l[i]! ↔ lt l[j]! l[i]!)/\(lt l[i]! l[j]! ∨ lt l[j]! l[i]!)
structure InsR (c lt:El->El->Prop) (l l1:List El) (a i j:Nat):Prop where
 seg:Seg l l1 a (i + 1)
 lo:Ri lt l1 a j
 hi:Ri lt l1 j (i + 1)
 crs:∀ x y,a<=x->x < j->j < y->y < i + 1->lt l1[x]! l1[y]!
 tag:∀ x,a<=x->x < j->(c l1[j]! l1[x]! ↔ lt l1[j]! l1[x]!)/\(lt l1[x]! l1[j]! ∨ lt l1[j]! l1[x]!)
theorem InsR.down {c lt:El->El->Prop} {l l1:List El} {a i j:Nat} (h:InsR c lt l l1 a i j) (haj:a < j) (hji:j<=i) (hil:i < l.length) (hlt:lt l1[j]! l1[j - 1]!):InsR c lt l (sws l1 j (j - 1)) a i (j - 1):=by
 have hl:=h.seg.len
 have g:=fun k=>sws_get l1 j (j - 1) k (by omega) (by omega)
 refine ⟨h.seg.sws ⟨by omega,by omega⟩ ⟨by omega,by omega⟩ (by omega),fun x y h1 h2 h3=>?_,fun x y h1 h2 h3=>?_,fun x y h1 h2 h3 h4=>?_,fun x h1 h2=>?_⟩
 ·rw [g,g,if_neg (by omega),if_neg (by omega),if_neg (by omega),if_neg (by omega)]
  exact h.lo x y h1 h2 (by omega)
 ·rw [g,g]
  by_cases hx:x=j - 1
  ·rw [if_pos hx,if_neg (by omega)]
   by_cases hy:y=j
   ·rw [if_pos hy];exact hlt
   ·rw [if_neg hy];exact h.hi j y (Nat.le_refl _) (by omega) h3
  ·rw [if_neg hx,if_neg (show ¬ y=j - 1 by omega),if_neg (show ¬ y=j by omega)]
   by_cases hxj:x=j
   ·rw [if_pos hxj];exact h.crs (j - 1) y (by omega) (by omega) (by omega) h3
   ·rw [if_neg hxj];exact h.hi x y (by omega) h2 h3
 ·rw [g,g,if_neg (by omega),if_neg (by omega),if_neg (by omega)]
  by_cases hyj:y=j
  ·rw [if_pos hyj];exact h.lo x (j - 1) h1 h2 (by omega)
  ·rw [if_neg hyj];exact h.crs x y h1 (by omega) (by omega) h4
 ·rw [g,g,if_pos rfl,if_neg (by omega),if_neg (by omega)]
  exact h.tag x h1 (by omega)
theorem InsR.fin {c lt:El->El->Prop} (ht:∀ x y z,lt x y->lt y z->lt x z) {l l1:List El} {a i j:Nat} (h:InsR c lt l l1 a i j) (haj:a<=j) (hji:j<=i) (hd:j=a ∨ ¬ c l1[j]! l1[j - 1]!):Ri lt l1 a (i + 1):=by
 refine ri_join lt h.lo h.hi (fun x y h1 h2 h3 h4=>?_)
 by_cases hy:y=j
 ·subst hy
  have q:=h.tag (y - 1) (by omega) (by omega)
  have n:¬ lt l1[y]! l1[y - 1]! := fun e=>by
   rcases hd with hd | hd
   ·omega
   ·exact hd (q.1.2 e)
  exact ri_trans lt ht h.lo h1 (show x<=y - 1 by omega) (by omega) (q.2.resolve_right n)
 ·exact h.crs x y h1 h2 (by omega) h4
theorem InsR.start {c lt:El->El->Prop} {l:List El} {a b i:Nat} (hr:Ri lt l a i) (ht:TagR c lt l a b) (hib:i < b) (_hai:a<=i):InsR c lt l l a i i :=
 ⟨Seg.refl _ _ _,hr,fun x y h1 h2 h3=>by omega,fun x y h1 h2 h3 h4=>by omega,fun x h1 h2=>ht x i h1 h2 hib⟩
end Go.Proofs.YtcipdampcmfmaaaGreat

namespace Go.Proofs.YtcipdampcmfmaaaGreat
structure BkR (lt:El->El->Prop) (l l1:List El) (n s:Nat):Prop where
 perm:l1.Perm l
 run:∀ p,s ∣ p->Ri lt l1 p (min (p + s) n)
 loc:∀ p,s ∣ p->∀ i,p<=i->i < min (p + s) n->∃ j,(p<=j/\j < min (p + s) n)/\l1[i]! = l[j]!
structure PaR (lt:El->El->Prop) (l l0 l1:List El) (n t a:Nat):Prop where
 perm:l1.Perm l
 run:∀ p,t ∣ p->p < a->Ri lt l1 p (min (p + t) n)
 loc:∀ p,t ∣ p->p < a->∀ i,p<=i->i < min (p + t) n->∃ j,(p<=j/\j < min (p + t) n)/\l1[i]! = l[j]!
 rest:∀ i,a<=i->l1[i]! = l0[i]!
theorem PaR.start {lt:El->El->Prop} {l l0:List El} {n t:Nat} (h:l0.Perm l):PaR lt l l0 l0 n t 0 :=
 ⟨h,fun _p _ h=>absurd h (Nat.not_lt_zero _),fun _p _ h=>absurd h (Nat.not_lt_zero _),fun _ _=>rfl⟩
theorem PaR.step {lt:El->El->Prop} {l l0 l1 l2:List El} {n t a:Nat} (h:PaR lt l l0 l1 n t a) (ht:0 < t) (hta:t ∣ a) (han:a<=n) (hn:n<=l.length) (hs:Seg l1 l2 a (min (a + t) n)) (hr:Ri lt l2 a (min (a + t) n))
  (hl:∀ i,a<=i->i < min (a + t) n->∃ j,(a<=j/\j < min (a + t) n)/\l0[i]! = l[j]!):PaR lt l l0 l2 n t (a + t):=by
 have hlen:=h.perm.length_eq
 have old:∀ p,t ∣ p->p < a->∀ i,i < min (p + t) n->l2[i]! = l1[i]! := fun p hp hpa i hi=>hs.out i (Or.inl (by have:=dvd_next hta hp hpa;omega))
 have one:∀ p,t ∣ p->p < a + t->¬ p < a->p=a:=fun p hp h1 h2=>by
  by_cases h3:a < p
  ·have:=dvd_next hp hta h3;omega
  ·omega
 refine ⟨hs.perm.trans h.perm,fun p hp hpa=>?_,fun p hp hpa i h1 h2=>?_,fun i hi=>(hs.out i (by omega)).trans (h.rest i (by omega))⟩
 ·by_cases hlt:p < a
  ·intro i j h1 h2 h3
   rw [old p hp hlt i (by omega),old p hp hlt j h3]
   exact h.run p hp hlt i j h1 h2 h3
  ·obtain rfl:=one p hp hpa hlt
   exact hr
 ·by_cases hlt:p < a
  ·rw [old p hp hlt i h2]
   exact h.loc p hp hlt i h1 h2
  ·obtain rfl:=one p hp hpa hlt
   obtain ⟨k,hk,e⟩:=hs.mem (by omega) (by omega) (i:=i) ⟨h1,h2⟩
   rw [e,h.rest k hk.1]
   exact hl k hk.1 hk.2
theorem PaR.fin {lt:El->El->Prop} {l l0 l1:List El} {n t a:Nat} (h:PaR lt l l0 l1 n t a) (hna:n<=a):BkR lt l l1 n t:=by
 refine ⟨h.perm,fun p hp=>?_,fun p hp i h1 h2=>?_⟩
 ·by_cases hpa:p < a
  ·exact h.run p hp hpa
  ·intro i j h1 h2 h3;omega
 ·by_cases hpa:p < a
  ·exact h.loc p hp hpa i h1 h2
  ·omega
theorem BkR.pre {c lt:El->El->Prop} {l l0 l1:List El} {n s a b:Nat} (h:BkR lt l l0 n s) (hT:TagR c lt l 0 n) (hs:0 < s) (hsa:s ∣ a) (hb:b=min (a + 2 * s) n) (hmn:a + s < n) (hrest:∀ i,a<=i->l1[i]! = l0[i]!):PreM c lt l1 a (a + s) b:=by
 have r1:=h.run a hsa
 have r2:=h.run (a + s) (Nat.dvd_add hsa (Nat.dvd_refl s))
 have q1:=h.loc a hsa
 have q2:=h.loc (a + s) (Nat.dvd_add hsa (Nat.dvd_refl s))
 refine ⟨fun i j h1 h2 h3=>?_,fun i j h1 h2 h3=>?_,fun i j h1 h2 h3 h4=>?_⟩
 ·rw [hrest i h1,hrest j (by omega)]
  exact r1 i j h1 h2 (by omega)
 ·rw [hrest i (by omega),hrest j (by omega)]
  exact r2 i j h1 h2 (by omega)
 ·rw [hrest i h1,hrest j (by omega)]
  obtain ⟨i',hi',e1⟩:=q1 i h1 (by omega)
  obtain ⟨j',hj',e2⟩:=q2 j h3 (by omega)
  rw [e1,e2]
  exact hT i' j' (Nat.zero_le _) (by omega) (by omega)
theorem BkR.two {lt:El->El->Prop} {l l0:List El} {n s a:Nat} (h:BkR lt l l0 n s) (hsa:s ∣ a) (i:Nat) (h1:a<=i) (h2:i < min (a + 2 * s) n):∃ j,(a<=j/\j < min (a + 2 * s) n)/\l0[i]! = l[j]! := by
 by_cases hi:i < a + s
 ·obtain ⟨j,hj,e⟩:=h.loc a hsa i h1 (by omega)
  exact ⟨j,by omega,e⟩
 ·obtain ⟨j,hj,e⟩:=h.loc (a + s) (Nat.dvd_add hsa (Nat.dvd_refl s)) i (by omega) (by omega)
  exact ⟨j,by omega,e⟩
theorem BkR.alone {lt:El->El->Prop} {l l0 l1:List El} {n s a:Nat} (h:BkR lt l l0 n s) (hsa:s ∣ a) (hmn:n<=a + s) (hrest:∀ i,a<=i->l1[i]! = l0[i]!):Ri lt l1 a (min (a + 2 * s) n):=by
 intro i j h1 h2 h3
 rw [hrest i h1,hrest j (by omega)]
 exact h.run a hsa i j h1 h2 (by omega)
theorem BkR.done {lt:El->El->Prop} {l l0:List El} {n s:Nat} (h:BkR lt l l0 n s) (hn:n<=s):Ri lt l0 0 n:=by
 have:=h.run 0 (Nat.dvd_zero s)
 rw [show min (0 + s) n=n by omega] at this
 exact this
end Go.Proofs.YtcipdampcmfmaaaGreat

namespace Go.Proofs.YtcipdampcmfmaaaGreat
open Go.RowKit Go.Maps
set_option maxRecDepth 100000
set_option maxHeartbeats 4000000
def Gs (gs:Nat->Nat) (k:Nat):Nat->Prop:=fun b=>∃ i,i < k/\b=gs i
theorem four_kp {W w':World} {p0 p1 p2 p3:Addr} {v0 v1 v2 v3:Value} {S:Nat->Prop} (g:Kp S W w') (h0:¬ S p0.block) (h1:¬ S p1.block) (h2:¬ S p2.block) (h3:¬ S p3.block)
  (h:W.cell? p0=some v0/\W.cell? p1=some v1/\W.cell? p2=some v2/\W.cell? p3=some v3):w'.cell? p0=some v0/\w'.cell? p1=some v1/\w'.cell? p2=some v2/\w'.cell? p3=some v3 :=
 ⟨g.cell h.1 h0,g.cell h.2.1 h1,g.cell h.2.2.1 h2,g.cell h.2.2.2 h3⟩
theorem boxed_kp {W w':World} {b:Nat} {t:TypeId} {v:Value} {S:Nat->Prop} (h:Boxed W b t v) (g:Kp S W w') (hn:¬ S b):Boxed w' b t v:=(g.block b h.lt hn).trans h
structure Rd2 (w0 w W:World) (cb b0 b1 pb:Nat) (gs cp:Nat->Nat) (us:Nat->Value) (k d q:Nat) (l cs:Vs) (lv cv:Value):Prop where
 cen:Cen w0.heap.size W cb gs cp k d (fun i=>if i < q then midF l (cenF cs i) (belTo cs l i l.length) else cenF cs i)
 row:W.rowIs pb 41 k us
 own:∀ i,i < k->Own W w.heap.size (us i) (belI cs l l.length i)
 x0:Boxed W b0 65 lv
 x1:Boxed W b1 65 cv
 kp:Kp (Gs gs k) w W
theorem Rd2.next {w0 w W W':World} {cb b0 b1 pb:Nat} {gs cp:Nat->Nat} {us:Nat->Value} {k d q:Nat} {l cs:Vs} {lv cv:Value} (h:Rd2 w0 w W cb b0 b1 pb gs cp us k d q l cs lv cv) (hq:q < k)
  (hG:∀ i,i < k->gs i < w.heap.size) (hpb:w.heap.size<=pb) (n0:¬ Gs gs k b0) (n1:¬ Gs gs k b1)
  (hA:Rn.Arr W' (gs q) d (cp q) (midF l (cenF cs q) (belTo cs l q l.length))) (g:Kp (fun b=>b=gs q) W W'):Rd2 w0 w W' cb b0 b1 pb gs cp us k d (q + 1) l cs lv cv:=by
 have hgq:=hG q hq
 refine ⟨⟨h.cen.row.of_block (g.block _ h.cen.row.lt (fun e=>h.cen.ne q hq e.symm)),fun i hi=>?_,h.cen.base,h.cen.hB,h.cen.ne,h.cen.inj⟩,h.row.of_block (g.block _ h.row.lt (fun e=>by omega)),fun i hi=>own_kp (h.own i hi) g (fun b e e2=>?_),
  boxed_kp h.x0 g (fun e=>n0 ⟨q,hq,e⟩),boxed_kp h.x1 g (fun e=>n1 ⟨q,hq,e⟩),h.kp.trans (g.mono fun b e=>⟨q,hq,e⟩)⟩
 ·by_cases e:i=q
  ·subst e
   simp only [Nat.lt_succ_self,if_true]
   exact hA
  ·have h1:=arr_kp (h.cen.arr i hi) g (fun e2=>e (h.cen.inj i q hi hq e2))
   by_cases e2:i < q
   ·simp only [if_pos e2] at h1;simp only [if_pos (Nat.lt_succ_of_lt e2)];exact h1
   ·simp only [if_neg e2] at h1;simp only [if_neg (show ¬ i < q + 1 by omega)];exact h1
 ·have:=(k_own_lt (h.own i hi) e).2
  omega
theorem midF_is {l cs:Vs} {i t d:Nat} (hd:cs[i]!.length=d) (ht:t < d) (hi:i < cs.length):midF l (cenF cs i) (belTo cs l i l.length) t=cenF (roundV l cs) i t:=by
 unfold cenF midF
 rw [roundV_get l hi]
 by_cases h:(belTo cs l i l.length).length=0
 ·rw [if_pos h];unfold middle;rw [if_pos h]
 ·rw [if_neg h,middle_get h (by omega)]
theorem round_c {w0 w:World} {cb b0 b1:Nat} {gs cp:Nat->Nat} {k d:Nat} {l cs:Vs} {lv:Value} (hl:RdV w0 lv l) (g0:Gb w0 w) (hC:Cen w0.heap.size w cb gs cp k d (cenF cs)) (hk:cs.length=k)
  (x0:Boxed w b0 65 lv) (x1:Boxed w b1 65 (.slice (some ⟨cb,0,none⟩) k k)) (n0:¬ Gs gs k b0) (n1:¬ Gs gs k b1)
  (hlo:VsOk l (d:Int)) (hco:VsOk cs (d:Int)) (h1:1<=k) (h64:k<=64) (hn:l.length<=512) :
  Calls Tryz.prog 185 #[.pointer (some ⟨b0,0,none⟩),.pointer (some ⟨b1,0,none⟩)] w fun e w'=>e=.returned (.tuple #[])/\Cen w0.heap.size w' cb gs cp k d (cenF (roundV l cs))/\Kp (Gs gs k) w w':=by
 have hcd:∀ i,i < k->cs[i]!.length=d:=fun i hi=>by have:=hco.get (i:=i) (by omega);omega
 have cb':=belonging_c (hl.gb g0) (hC.rd hk hcd) hlo hco (by omega) (by omega) hn
 rw [hk] at cb'
 have hG:∀ i,i < k->gs i < w.heap.size:=fun i hi=>(hC.arr i hi).lt
 have H:Hid ((∀ i,i < k->gs i < w.heap.size)/\¬ Gs gs k b0/\¬ Gs gs k b1/\(∀ i,i < k->cs[i]!.length=d)/\cs.length=k):=⟨hG,n0,n1,hcd,hk⟩
 have L:Hid (RdV w0 lv l/\Gb w0 w/\(∀ b,Gs gs k b->w0.heap.size<=b)):=⟨hl,g0,fun b ⟨i,hi,e⟩=>by rw [e];exact hC.base i hi⟩
 have O:Hid (∀ j,j < l.length->l[j]!.length=d/\allR l[j]! = true):=fun j hj=>by have:=hlo.get hj;exact ⟨by omega,this.2.2.2⟩
 obtain ⟨al,cl,rfl,_⟩:=hl
 have hd64:d<=64:=by have:=hco.get (i:=0) (by omega);omega
 obtain ⟨nl,hnl⟩:∃ nl,nl=l.length:=⟨_,rfl⟩
 rw [<- hnl] at cb' L x0
 have NL:Hid (nl=l.length):=hnl
 have y0:=x0.cell
 have y1:=x1.cell
 clear hlo hco hcd hG n0 n1 hnl
 go_enter Tryz.func185,Tryz.ntmps185
 go_wp2_with fail
 refine cb'.mono ?_
 rintro e w1 ⟨us,rfl,hP⟩
 have X0:Rd2 w0 w w1 cb b0 b1 w.heap.size gs cp us k d 0 l cs (.slice al nl cl) (.slice (some ⟨cb,0,none⟩) k k):=by
  have hP':=hP
  rw [NL.out] at hP'
  exact ⟨by simpa using hC.gb hP.gb,hP.row,hP'.own,(hP.gb.block _ x0.lt).trans x0,(hP.gb.block _ x1.lt).trans x1,Kp.gb hP.gb⟩
 clear cb' hP hC x0 x1 y0 y1
 have y0:=X0.x0.cell
 have y1:=X0.x1.cell
 go_wp2
 clear y0 y1
 go_loopw [9] (fun iv W=>∃ q:Nat,iv=.int .i64 (q:Int)/\q<=k/\Hid (Rd2 w0 w W cb b0 b1 w.heap.size gs cp us k d q l cs (.slice al nl cl) (.slice (some ⟨cb,0,none⟩) k k))) (fun iv _=>k - (intOf iv).toNat)
 case atStart=>exact ⟨0,rfl,Nat.zero_le _,X0⟩
 case round =>
  clear X0
  obtain ⟨q,rfl,hq,X⟩:=hrel
  by_cases hqn:q < k
  ·have hqi:(q:Int) < (k:Int):=by omega
   have y0:=X.out.x0.cell
   have y1:=X.out.x1.cell
   have r0:=X.out.cen.row.cell hqn
   have r1:=X.out.row.cell hqn
   have hA:=X.out.cen.arr q hqn
   simp only [Nat.lt_irrefl,if_false] at hA
   have hro:=X.out.own q hqn
   have cm:=fun W (gW:Gb wr W)=>(move_c (w:=W) (lv:=.slice al nl cl) (pv:=us q) (l:=l) (g:=gs q) (d:=d) (cap:=cp q) (f:=cenF cs q) (ps:=belTo cs l q l.length)
    (fun W' hK=>L.out.1.gb (((Kp.gb gW).trans hK).below (X.out.kp.below L.out.2.1 L.out.2.2) (fun b e=>by rw [e];exact L.out.2.2 _ ⟨q,hqn,rfl⟩)))
    (fun W' hK=>(own_kp hro ((Kp.gb gW).trans hK) (fun b e e2=>by have:=(k_own_lt hro e).2;have:=H.out.1 q hqn;omega)).rd) (arr_kp (S:=fun _=>False) hA (Kp.gb gW) id) hd64
    (fun i hi=>belTo_lt (by rw [getElem!_pos _ i hi];exact List.getElem_mem hi)) (Nat.le_trans (belTo_len _ _ _ _) hn) O.out)
   obtain ⟨nu,pu,cu,eu⟩:∃ nu pu cu,us q=.slice pu nu cu:=by obtain ⟨pv,cv,ev,_⟩:=hro.rd;exact ⟨_,pv,cv,ev⟩
   rw [eu] at r1 cm
   have nn:gs q ≠ b1/\gs q ≠ cb/\gs q ≠ b0/\gs q ≠ w.heap.size:=⟨fun e=>H.out.2.2.1 ⟨q,hqn,e.symm⟩,X.out.cen.ne q hqn,fun e=>H.out.2.1 ⟨q,hqn,e.symm⟩,by have:=H.out.1 q hqn;omega⟩
   obtain ⟨z1,z2,z3,z4⟩:=nn
   have Z:Hid (¬ b1=gs q/\¬ cb=gs q/\¬ b0=gs q/\¬ w.heap.size=gs q):=⟨fun e=>z1 e.symm,fun e=>z2 e.symm,fun e=>z3 e.symm,fun e=>z4 e.symm⟩
   have hgq:=H.out.1 q hqn
   clear hA hro z1 z2 z3 z4 hgq
   have XN:Hid (∀ W',Rn.Arr W' (gs q) d (cp q) (midF l (cenF cs q) (belTo cs l q l.length))->Kp (fun b=>b=gs q) wr.drew W'->Rd2 w0 w W' cb b0 b1 w.heap.size gs cp us k d (q + 1) l cs (.slice al nl cl) (.slice (some ⟨cb,0,none⟩) k k)) :=
    fun W' a b=>X.out.next hqn H.out.1 (Nat.le_refl _) H.out.2.1 H.out.2.2.1 a ((Kp.gb (Below.refl _ _).drew).trans b)
   generalize gs q=gq at *
   generalize cp q=cq at *
   clear X eu
   go_wp2
   go_region_held3 (fun w'=>w'.cell? ⟨b1,0,none⟩=some (.slice (some ⟨cb,0,none⟩) k k)/\w'.cell? ⟨cb,q,none⟩=some (.slice (some ⟨gq,0,none⟩) d cq)/\w'.cell? ⟨b0,0,none⟩=some (.slice al nl cl)/\w'.cell? ⟨w.heap.size,q,none⟩=some (.slice pu nu cu))
    (first | (with_reducible exact four_kp (by assumption) Z.out.1 Z.out.2.1 Z.out.2.2.1 Z.out.2.2.2 (by assumption)) | exact ⟨y1,r0,y0,r1⟩)
    (first | (go_at_call 187;refine (cm _ (Below.refl _ _).drew).mono ?_;rintro e w4 ⟨rfl,hA4,g4⟩))
   all_goals
    have X4:=XN.out _ hA4 g4
    clear cm hA4 g4 XN
    go_wp2
    first | (refine ⟨⟨q + 1,by go_num,hqn,X4⟩,by simp [intOf];omega⟩) | trace_state
  ·have hqi:¬ (q:Int) < (k:Int):=by omega
   have hqk:q=k:=by omega
   subst hqk
   have X':=X.out
   have HH:=H.out
   clear X H L O
   go_wp2
   refine bodyPost_end (results_none rfl _ _ _) rfl ?_
   exact ⟨rfl,⟨X'.cen.row,fun i hi=>(X'.cen.arr i hi).congr (fun t ht=>by simp only [if_pos hi];exact midF_is (HH.2.2.2.1 i hi) ht (by rw [HH.2.2.2.2];exact hi)),X'.cen.base,X'.cen.hB,X'.cen.ne,X'.cen.inj⟩,X'.kp⟩
end Go.Proofs.YtcipdampcmfmaaaGreat

namespace Go.Proofs.YtcipdampcmfmaaaGreat
open Go.RowKit Go.Maps
set_option maxRecDepth 100000
set_option maxHeartbeats 4000000
theorem roundOf_c (a c:Option Addr) (n m k j:Nat) (w:World) :
  Calls Tryz.prog 143 #[.slice a n m,.slice c k j] w fun e w'=>e=.returned (.func (.func 185) #[] #[.pointer (some ⟨w.heap.size,0,none⟩),.pointer (some ⟨w.heap.size + 1,0,none⟩)]) /\
   w'=(w.alloc (.cells #[.slice a n m] 65)).alloc (.cells #[.slice c k j] 65):=by
 go_enter Tryz.func143,Tryz.ntmps143
 go_wp2
 go_ret
 exact ⟨rfl,rfl⟩
structure Tr (w W:World) (cb b0 b1:Nat) (gs cp:Nat->Nat) (k d:Nat) (lv:Value) (cs:Vs):Prop where
 cen:Cen w.heap.size W cb gs cp k d (cenF cs)
 x0:Boxed W b0 65 lv
 x1:Boxed W b1 65 (.slice (some ⟨cb,0,none⟩) k k)
 n0:¬ Gs gs k b0
 n1:¬ Gs gs k b1
 gb:Gb w W
def OutC (w w':World) (v:Value) (k d:Nat) (cs:Vs):Prop:=∃ cb gs cp,v=.slice (some ⟨cb,0,none⟩) k k/\Cen w.heap.size w' cb gs cp k d (cenF cs)
theorem train_ok_c {w:World} {lv:Value} {l:Vs} (hl:RdV w lv l) {k r:Int} (x:Int) (hx:Rn.U x) (hz:trainE l k r=0) :
  Calls Tryz.prog 98 #[lv,.int .i64 k,.int .i64 r,.int .u64 x] w fun e w'=>∃ v,e=.returned (.tuple #[v,.int .i64 0])/\OutC w w' v k.toNat l[0]!.length (trainV l k.toNat r.toNat x)/\Gb w w':=by
 have ck:=checkTraining_c hl k r
 rw [hz] at ck
 obtain ⟨h1,h2,h3,h4⟩:=trainE_zero.1 hz
 have TO:Hid (∀ q,VsOk (roundsV l (drawnV l k.toNat x) q) (l[0]!.length:Int)/\(roundsV l (drawnV l k.toNat x) q).length=k.toNat):=fun q=>(train_ok hz x q).2
 have LO:Hid (VsOk l (l[0]!.length:Int)/\l.length<=512):=⟨h4,h2⟩
 obtain ⟨K,rfl⟩:∃ K:Nat,k=(K:Int):=⟨k.toNat,by omega⟩
 obtain ⟨R,rfl⟩:∃ R:Nat,r=(R:Int):=⟨r.toNat,by omega⟩
 simp only [Int.toNat_natCast] at TO ⊢
 have cd:=drawn_c hl h4 K (by omega) (by omega) h2 x hx
 have KB:Hid (1<=K/\K<=64):=⟨by omega,by omega⟩
 have L:Hid (RdV w lv l):=hl
 have TV:Hid (trainV l K R x=roundsV l (drawnV l K x) R):=rfl
 obtain ⟨al,cl,rfl,_⟩:=hl
 generalize l[0]!.length=d at *
 obtain ⟨nl,hnl⟩:∃ nl,nl=l.length:=⟨_,rfl⟩
 rw [<- hnl] at ck cd L
 have hR:R<=20:=by omega
 clear h1 h2 h3 h4 hz
 rw [<- hnl]
 clear hnl
 go_enter Tryz.func98,Tryz.ntmps98
 go_wp2_with fail
 refine ck.mono ?_
 rintro e w' ⟨rfl,e2⟩
 subst e2
 go_wp2_with fail
 refine cd.mono ?_
 rintro e w1 ⟨cb,gs,cp,rfl,hC,g1⟩
 clear ck cd
 go_wp2_with fail
 refine (roundOf_c _ _ _ _ _ _ _).mono ?_
 rintro e w2 ⟨rfl,hw2⟩
 have T0:Tr w w2 cb w1.heap.size (w1.heap.size + 1) gs cp K d (.slice al nl cl) (roundsV l (drawnV l K x) 0):=by
  have hlt:∀ i,i < K->gs i < w1.heap.size:=fun i hi=>(hC.arr i hi).lt
  have b2:=Boxed.new (w1.alloc (.cells #[.slice al nl cl] 65)) 65 (.slice (some ⟨cb,0,none⟩) K K)
  rw [World.size_alloc] at b2
  rw [hw2]
  exact ⟨(hC.gb (gb_alloc (Below.refl _ _) _)).gb (gb_alloc (Below.refl _ _) _),(Boxed.new w1 _ _).alloc _,b2,fun ⟨i,hi,e⟩=>by have:=hlt i hi;omega,fun ⟨i,hi,e⟩=>by have:=hlt i hi;omega,gb_alloc (gb_alloc g1 _) _⟩
 generalize w1.heap.size=b0 at *
 generalize b0 + 1=b1 at *
 clear hC g1 hw2
 go_wp2
 go_loopw [28] (fun iv W=>∃ q:Nat,iv=.int .i64 (q:Int)/\q<=R/\Hid (Tr w W cb b0 b1 gs cp K d (.slice al nl cl) (roundsV l (drawnV l K x) q))) (fun iv _=>R - (intOf iv).toNat)
 case atStart=>exact ⟨0,rfl,Nat.zero_le _,T0⟩
 case round =>
  clear T0
  obtain ⟨q,rfl,hq,X⟩:=hrel
  by_cases hqn:q < R
  ·have hqi:(q:Int) < (R:Int):=by omega
   have cr:=round_c L.out X.out.gb X.out.cen (TO.out q).2 X.out.x0 X.out.x1 X.out.n0 X.out.n1 LO.out.1 (TO.out q).1 KB.out.1 KB.out.2 LO.out.2
   have NX:Hid (roundsV l (drawnV l K x) (q + 1)=roundV l (roundsV l (drawnV l K x) q)):=rfl
   go_wp2_with (go_at_call 185;refine cr.mono ?_;rintro e w4 ⟨rfl,hC4,g4⟩)
   have X4:Tr w w4 cb b0 b1 gs cp K d (.slice al nl cl) (roundsV l (drawnV l K x) (q + 1)) :=
    ⟨by rw [NX.out];exact hC4,boxed_kp X.out.x0 g4 X.out.n0,boxed_kp X.out.x1 g4 X.out.n1,X.out.n0,X.out.n1,g4.below X.out.gb (fun b ⟨i,hi,e⟩=>by rw [e];exact X.out.cen.base i hi)⟩
   clear X hC4 g4 cr
   go_roundw
   case rel=>exact ⟨q + 1,by go_num,hqn,X4⟩
   case measure=>simp [intOf];omega
  ·have hqi:¬ (q:Int) < (R:Int):=by omega
   have hqr:q=R:=by omega
   subst hqr
   have X':=X.out
   clear X
   go_wp2
   go_ret2
   exact ⟨_,rfl,⟨cb,gs,cp,rfl,by rw [TV.out];exact X'.cen⟩,X'.gb⟩
end Go.Proofs.YtcipdampcmfmaaaGreat

namespace Go.Proofs.YtcipdampcmfmaaaGreat
open Go.RowKit Go.Sort Go.Maps
def RA (W:World) (g n:Nat) (f:Nat->Value × Value):Prop :=
 ∃ cur:Array Value,W.heap[g]? = some (.cells cur 43 (0,0))/\cur.size=n * 2/\∀ i,i < n->cur[i * 2]? = some (f i).1/\cur[i * 2 + 1]? = some (f i).2
theorem RA.lt {W:World} {g n:Nat} {f:Nat->Value × Value} (h:RA W g n f):g < W.heap.size:=by
 obtain ⟨cur,h1,_⟩:=h;exact (Array.getElem?_eq_some_iff.1 h1).1
theorem RA.cell {W:World} {g n:Nat} {f:Nat->Value × Value} (h:RA W g n f) {i:Nat} (hi:i < n):W.cell? ⟨g,i * 2,none⟩=some (f i).1/\W.cell? ⟨g,i * 2 + 1,none⟩=some (f i).2:=by
 obtain ⟨cur,h1,_,h4⟩:=h
 obtain ⟨a,b⟩:=h4 i hi
 simp [World.cell?,h1,a,b]
theorem RA.frozen {W:World} {g n:Nat} {f:Nat->Value × Value} (h:RA W g n f) (o:Nat):W.frozen? ⟨g,o,none⟩=false:=by
 obtain ⟨cur,h1,_⟩:=h
 simp [World.frozen?,h1]
theorem RA.block {W W':World} {g n:Nat} {f:Nat->Value × Value} (h:RA W g n f) (e:W'.heap[g]? = W.heap[g]?):RA W' g n f:=by
 obtain ⟨cur,h1,h2⟩:=h
 exact ⟨cur,e.trans h1,h2⟩
theorem RA.set {W:World} {g n:Nat} {f:Nat->Value × Value} (h:RA W g n f) {i:Nat} (hi:i < n) (x y:Value) :
  RA ((W.setCell ⟨g,i * 2,none⟩ x).setCell ⟨g,i * 2 + 1,none⟩ y) g n (fun t=>if t=i then (x,y) else f t):=by
 obtain ⟨cur,h1,h2,h5⟩:=h
 refine ⟨(cur.setIfInBounds (i * 2) x).setIfInBounds (i * 2 + 1) y,?_,by simpa using h2,fun t ht=>?_⟩
 ·simp [World.setCell,Array.getElem?_modify,h1]
 ·by_cases e:t=i
  ·subst e
   simp only [if_true]
   refine ⟨?_,?_⟩
   ·rw [Array.getElem?_setIfInBounds_ne (by omega),Array.getElem?_setIfInBounds_self_of_lt (by omega)]
   ·rw [Array.getElem?_setIfInBounds_self_of_lt (by simp;omega)]
  ·simp only [if_neg e]
   obtain ⟨a,b⟩:=h5 t ht
   refine ⟨?_,?_⟩
   ·rw [Array.getElem?_setIfInBounds_ne (by omega),Array.getElem?_setIfInBounds_ne (by omega)];exact a
   ·rw [Array.getElem?_setIfInBounds_ne (by omega),Array.getElem?_setIfInBounds_ne (by omega)];exact b
theorem ra_made (w:World) (n:Nat):RA (w.alloc (.cells (madeCells #[.int .i64 0,.slice none 0 0] (n * 2)) 43)) w.heap.size n (fun _=>(.int .i64 0,.slice none 0 0)):=by
 refine ⟨_,heap_alloc_new _ _,size_madeCells _ _,fun i hi=>⟨?_,?_⟩⟩
 ·simp [madeCells,show i * 2 < n * 2 by omega]
 ·simp [madeCells,show i * 2 + 1 < n * 2 by omega,show (i * 2 + 1) % 2=1 by omega]
theorem Tryz.infoR:(Tryz.prog.info? 43).map (fun i=>(i.zero,i.size,i.bytes))=some (some (.agg #[.int .i64 0,.slice none 0 0]),2,32):=by kernel_rfl
theorem run_make_two (n:Nat) (hn:n<=65537) (w:World):(Instr.makeSlice 22 (.int .i64 (n:Int)) (.int .i64 (n:Int))).run Tryz.prog w=.ok (.slice (some ⟨w.heap.size,0,none⟩) n n) (w.alloc (.cells (madeCells #[.int .i64 0,.slice none 0 0] (n * 2)) 43)):=by
 obtain ⟨i,hi,hzz⟩:=Option.map_eq_some_iff.1 Tryz.infoR
 simp only [Prod.mk.injEq] at hzz
 obtain ⟨hz,hs,hb⟩:=hzz
 have hr:=run_make (P:=Tryz.prog) w 22 43 i _ Tryz.underlying22 hi hz .i64 .i64 n n (by omega) (Int.le_refl _) (by rw [hb];omega) (by omega)
 simp only [Int.toNat_natCast,hs] at hr
 exact hr
structure Lr (w W:World) (G n:Nat) (rs:List Rw) (p:Nat) (z:Prop) (f:Nat->Value × Value):Prop where
 gb:Gb w W
 hG:w.heap.size<=G
 arr:RA W G n f
 lent:∃ gs:Nat->Nat,∀ i,i < p->f i=(.int .i64 rs[i]!.1,.slice (some ⟨gs i,0,none⟩) rs[i]!.2.length (rs[i]!.2.length + 1))/\Lent W (G + 1) (gs i) rs[i]!.2/\∀ j,j < i->gs j ≠ gs i
 end':z
theorem Lr.gr {w W W':World} {G n p:Nat} {rs:List Rw} {z:Prop} {f:Nat->Value × Value} (h:Lr w W G n rs p z f) (g:Gb W W'):Lr w W' G n rs p z f:=by
 obtain ⟨gs,hl⟩:=h.lent
 exact ⟨gb_trans h.gb g,h.hG,h.arr.block (g.block _ h.arr.lt),⟨gs,fun i hi=>⟨(hl i hi).1,(hl i hi).2.1.gb g,(hl i hi).2.2⟩⟩,h.end'⟩
theorem two_far {g b:Nat} {W:World} (hn:b ≠ g) (o1 o2:Nat) (x y:Value):((W.setCell ⟨g,o1,none⟩ x).setCell ⟨g,o2,none⟩ y).heap[b]? = W.heap[b]? :=
 (Below.heap_setCell _ _ _ _ (by dsimp only;exact hn)).trans (Below.heap_setCell _ _ _ _ (by dsimp only;exact hn))
theorem two_gb {g:Nat} {w W:World} (h:Gb w W) (hg:w.heap.size<=g) (o1 o2:Nat) (x y:Value):Gb w ((W.setCell ⟨g,o1,none⟩ x).setCell ⟨g,o2,none⟩ y) :=
 gb_set (gb_set h (by dsimp only;exact hg) _) (by dsimp only;exact hg) _
theorem Lent.block {W W':World} {B g:Nat} {l:List Int} (h:Lent W B g l) (e:W'.heap[g]? = W.heap[g]?):Lent W' B g l:=⟨h.1,e.trans h.2⟩
theorem Lent.lt {W:World} {B g:Nat} {l:List Int} (h:Lent W B g l):g < W.heap.size:=(Array.getElem?_eq_some_iff.1 h.2).1
theorem Lr.step {w W W2:World} {G n p g:Nat} {rs:List Rw} {f:Nat->Value × Value} (h:Lr w W G n rs p True f) (hp:p < n) (g2:Gb W W2) (L:Lent W2 W.heap.size g rs[p]!.2) :
  ∃ f',Lr w ((W2.setCell ⟨G,p * 2,none⟩ (.int .i64 rs[p]!.1)).setCell ⟨G,p * 2 + 1,none⟩ (.slice (some ⟨g,0,none⟩) rs[p]!.2.length (rs[p]!.2.length + 1))) G n rs (p + 1) True f':=by
 have hGW:=h.arr.lt
 have h2:=h.gr g2
 obtain ⟨gs,hl⟩:=h2.lent
 obtain ⟨gs0,hl0⟩:=h.lent
 have hgs:∀ i,i < p->gs i < W.heap.size:=fun i hi=>by
  have e:=(hl i hi).1.symm.trans (hl0 i hi).1
  simp at e
  rw [e]
  exact (hl0 i hi).2.1.lt
 have hg:=L.1
 refine ⟨_,two_gb h2.gb h2.hG _ _ _ _,h.hG,h2.arr.set hp _ _,⟨fun i=>if i=p then g else gs i,fun i hi=>?_⟩,trivial⟩
 by_cases e:i=p
 ·subst e
  simp only [if_true]
  refine ⟨trivial,⟨by omega,(two_far (by omega) _ _ _ _).trans L.2⟩,fun j hj=>?_⟩
  rw [if_neg (by omega)]
  have:=hgs j hj
  omega
 ·simp only [if_neg e]
  obtain ⟨a,b,c⟩:=hl i (by omega)
  refine ⟨a,b.block (two_far (by have:=b.1;omega) _ _ _ _),fun j hj=>?_⟩
  rw [if_neg (by omega)]
  exact c j hj
def LentR (w W:World) (G:Nat) (rs:List Rw):Prop:=∃ f,Lr w W G (rs.length + 1) rs rs.length (f rs.length=(.int .i64 (-77),.slice none 0 0)) f
theorem Lr.mark {w W:World} {G n:Nat} {rs:List Rw} {f:Nat->Value × Value} (h:Lr w W G (n + 1) rs n True f) (hn:n=rs.length) :
  LentR w ((W.setCell ⟨G,n * 2,none⟩ (.int .i64 (-77))).setCell ⟨G,n * 2 + 1,none⟩ (.slice none 0 0)) G rs:=by
 subst hn
 obtain ⟨gs,hl⟩:=h.lent
 refine ⟨_,two_gb h.gb h.hG _ _ _ _,h.hG,h.arr.set (Nat.lt_succ_self _) _ _,⟨gs,fun i hi=>?_⟩,by simp⟩
 obtain ⟨a,b,c⟩:=hl i hi
 exact ⟨by rw [if_neg (by omega)];exact a,b.block (two_far (by have:=b.1;omega) _ _ _ _),c⟩
theorem LentR.gr {w W W':World} {G:Nat} {rs:List Rw} (h:LentR w W G rs) (g:Gb W W'):LentR w W' G rs:=by
 obtain ⟨f,h⟩:=h
 exact ⟨f,h.gr g⟩
theorem LentR.rd {w W:World} {G:Nat} {rs:List Rw} (h:LentR w W G rs):RdW W (.slice (some ⟨G,0,none⟩) rs.length (rs.length + 1)) rs:=by
 obtain ⟨f,h⟩:=h
 obtain ⟨gs,hl⟩:=h.lent
 refine ⟨_,_,rfl,fun i hi=>?_⟩
 obtain ⟨a,b,_⟩:=hl i hi
 have hc:=h.arr.cell (i:=i) (by omega)
 rw [a] at hc
 exact ⟨G,0,_,rfl,by rw [Nat.zero_add];exact hc.1,by rw [Nat.zero_add];exact hc.2,b.rd⟩
structure Rs (w W:World) (a b:Addr) (u v:Value):Prop where
 gb:Gb w W
 ca:W.cell? a=some u
 cb:W.cell? b=some v
 la:a.block < w.heap.size
 lb:b.block < w.heap.size
theorem Rs.gr {w W W':World} {a b:Addr} {u v:Value} (h:Rs w W a b u v) (g:Gb W W'):Rs w W' a b u v:=⟨gb_trans h.gb g,gb_keeps g h.ca,gb_keeps g h.cb,h.la,h.lb⟩
theorem Rs.set {w W:World} {a b:Addr} {u v:Value} {B:Nat} (h:Rs w W a b u v) (hB:w.heap.size<=B) (o1 o2:Nat) (x y:Value):Rs w ((W.setCell ⟨B,o1,none⟩ x).setCell ⟨B,o2,none⟩ y) a b u v:=by
 have ha:=h.la
 have hb:=h.lb
 exact ⟨two_gb h.gb hB _ _ _ _,(World.cell?_of_block (two_far (by omega) _ _ _ _)).trans h.ca,(World.cell?_of_block (two_far (by omega) _ _ _ _)).trans h.cb,h.la,h.lb⟩
end Go.Proofs.YtcipdampcmfmaaaGreat

namespace Go.Proofs.YtcipdampcmfmaaaGreat
open Go.RowKit Go.Sort Go.Maps
structure Mid (B T:Nat) (w W:World):Prop where
 os:W.os=w.os
 tape:W.tape=w.tape
 output:W.output=w.output
 size:w.heap.size<=W.heap.size
 block:∀ k,k < w.heap.size->(k < B ∨ T<=k)->W.heap[k]? = w.heap[k]?
theorem Mid.refl (B T:Nat) (w:World):Mid B T w w:=⟨rfl,rfl,rfl,Nat.le_refl _,fun _ _ _=>rfl⟩
theorem Mid.gb {B T:Nat} {w0 w W:World} (h:Mid B T w W) (g:Gb w0 w) (hB:w0.heap.size<=B):Gb w0 W:=by
 have hs:=g.size
 exact ⟨h.os.trans g.os,h.tape.trans g.tape,h.output.trans g.output,Nat.le_trans g.size h.size,fun k hk=>(h.block k (by omega) (.inl (by omega))).trans (g.block k hk)⟩
theorem Mid.drew {B T:Nat} {w W:World} (h:Mid B T w W):Mid B T w W.drew:=⟨h.os,h.tape,h.output,h.size,h.block⟩
theorem Mid.grown {B T g:Nat} {w W W':World} (h:Mid B T w W) (k:W.grownBy W' (some g)) (h1:B<=g) (h2:g < T):Mid B T w W' :=
 ⟨k.os.trans h.os,k.tape.trans h.tape,k.output.trans h.output,Nat.le_trans h.size k.size,fun j hj hb=>(k.block j (Nat.lt_of_lt_of_le hj h.size) (by simp;omega)).trans (h.block j hj hb)⟩
theorem Mid.set {B T g:Nat} {w W:World} (h:Mid B T w W) (h1:B<=g) (h2:g < T) (o1 o2:Nat) (x y:Value):Mid B T w ((W.setCell ⟨g,o1,none⟩ x).setCell ⟨g,o2,none⟩ y) :=
 ⟨h.os,h.tape,h.output,by simpa [World.setCell] using h.size,fun j hj hb=>(two_far (by omega) _ _ _ _).trans (h.block j hj hb)⟩
structure LT (B T:Nat) (W:World) (G:Nat) (rs:List Rw) (f:Nat->Value × Value) (gs:Nat->Nat):Prop where
 lo:B<=G
 hi:G < T
 arr:RA W G (rs.length + 1) f
 mark:f rs.length=(.int .i64 (-77),.slice none 0 0)
 row:∀ i,i < rs.length->f i=(.int .i64 rs[i]!.1,.slice (some ⟨gs i,0,none⟩) rs[i]!.2.length (rs[i]!.2.length + 1))/\Lent W (G + 1) (gs i) rs[i]!.2/\gs i < T/\∀ j,j < i->gs j ≠ gs i
theorem LentR.lt {w W:World} {G:Nat} {rs:List Rw} (h:LentR w W G rs):∃ f gs,LT w.heap.size W.heap.size W G rs f gs:=by
 obtain ⟨f,h⟩:=h
 obtain ⟨gs,hl⟩:=h.lent
 exact ⟨f,gs,h.hG,h.arr.lt,h.arr,h.end',fun i hi=>⟨(hl i hi).1,(hl i hi).2.1,(hl i hi).2.1.lt,(hl i hi).2.2⟩⟩
theorem LT.keep {B T G:Nat} {W W':World} {rs:List Rw} {f:Nat->Value × Value} {gs:Nat->Nat} (h:LT B T W G rs f gs) (e:∀ k,B<=k->k < T->W'.heap[k]? = W.heap[k]?):LT B T W' G rs f gs :=
 ⟨h.lo,h.hi,h.arr.block (e _ h.lo h.hi),h.mark,fun i hi=>by
  obtain ⟨a,b,c,d⟩:=h.row i hi
  exact ⟨a,b.block (e _ (by have:=b.1;have:=h.lo;omega) c),c,d⟩⟩
structure Bk (B T:Nat) (w W:World) (G:Nat) (rs:List Rw) (f:Nat->Value × Value) (gs:Nat->Nat) (p:Nat):Prop where
 mid:Mid B T w W
 arr:∃ f',RA W G (rs.length + 1) f'/\∀ i,p<=i->f' i=f i
 lent:∀ i,p<=i->i < rs.length->Lent W (G + 1) (gs i) rs[i]!.2
theorem LT.bk {B T G:Nat} {W:World} {rs:List Rw} {f:Nat->Value × Value} {gs:Nat->Nat} (h:LT B T W G rs f gs):Bk B T W W G rs f gs 0 :=
 ⟨Mid.refl _ _ _,⟨f,h.arr,fun _ _=>rfl⟩,fun i _ hi=>(h.row i hi).2.1⟩
theorem Bk.drew {B T G p:Nat} {w W:World} {rs:List Rw} {f:Nat->Value × Value} {gs:Nat->Nat} (h:Bk B T w W G rs f gs p):Bk B T w W.drew G rs f gs p :=
 ⟨h.mid.drew,h.arr,h.lent⟩
theorem Bk.step {B T G p:Nat} {w W W2:World} {rs:List Rw} {f:Nat->Value × Value} {gs:Nat->Nat} (h:Bk B T w W G rs f gs p) (L:LT B T w G rs f gs) (hp:p < rs.length) (k:W.grownBy W2 (some (gs p))) (x y:Value) :
  Bk B T w ((W2.setCell ⟨G,p * 2,none⟩ x).setCell ⟨G,p * 2 + 1,none⟩ y) G rs f gs (p + 1):=by
 obtain ⟨_,b,c,_⟩:=L.row p hp
 have hb:=b.1
 have hlo:=L.lo
 obtain ⟨f',h1,h2⟩:=h.arr
 refine ⟨(h.mid.grown k (by omega) c).set L.lo L.hi _ _ _ _,⟨_,(h1.block (k.block G h1.lt (by simp;omega))).set (i:=p) (by omega) x y,fun i hi=>?_⟩,fun i hi hl=>?_⟩
 ·rw [if_neg (by omega)];exact h2 i (by omega)
 ·have h3:=h.lent i (by omega) hl
  have hne:=(L.row i hl).2.2.2 p (by omega)
  exact h3.block ((two_far (by have:=h3.1;omega) _ _ _ _).trans (k.block _ h3.lt (by simp;omega)))
structure Qs (W:World) (a b c d:Addr) (u v x y:Value):Prop where
 ca:W.cell? a=some u
 cb:W.cell? b=some v
 cc:W.cell? c=some x
 cd:W.cell? d=some y
theorem Qs.grown {W W':World} {a b c d:Addr} {u v x y:Value} {g:Nat} (h:Qs W a b c d u v x y) (k:W.grownBy W' (some g)) (ha:a.block ≠ g) (hb:b.block ≠ g) (hc:c.block ≠ g) (hd:d.block ≠ g):Qs W' a b c d u v x y:=by
 have far:∀ {p:Addr} {q:Value},p.block ≠ g->W.cell? p=some q->W'.cell? p=some q:=fun {p q} hp hq =>
  (World.cell?_of_block (k.block _ (World.block_lt_of_cell? W _ hq) (by simp;omega))).trans hq
 exact ⟨far ha h.ca,far hb h.cb,far hc h.cc,far hd h.cd⟩
end Go.Proofs.YtcipdampcmfmaaaGreat

namespace Go.Proofs.YtcipdampcmfmaaaGreat
open Go.RowKit Go.Sort
structure Shp (P:TypeId->Prop) (W W':World):Prop where
 keep:∀ (k:Nat) (cur:Array Value) (t:TypeId) (f:Nat × Nat),W.heap[k]? = some (.cells cur t f)->¬ P t->W'.heap[k]? = W.heap[k]?
 size:∀ (k:Nat) (cur:Array Value) (t:TypeId) (f:Nat × Nat),W.heap[k]? = some (.cells cur t f)->∃ cur',W'.heap[k]? = some (.cells cur' t f)/\cur'.size=cur.size/\(t=3->∀ (i:Nat) (x:Int),cur[i]? = some (.int .i64 x)->∃ y:Int,cur'[i]? = some (.int .i64 y))
theorem Shp.refl (P:TypeId->Prop) (W:World):Shp P W W:=⟨fun _ _ _ _ _ _=>rfl,fun _ cur _ _ h=>⟨cur,h,rfl,fun _ _ x hx=>⟨x,hx⟩⟩⟩
theorem Shp.trans {P:TypeId->Prop} {a b c:World} (h:Shp P a b) (g:Shp P b c):Shp P a c:=by
 refine ⟨fun k cur t f e n=>?_,fun k cur t f e=>?_⟩
 ·have h1:=h.keep k cur t f e n
  exact (g.keep k cur t f (h1.trans e) n).trans h1
 ·obtain ⟨c1,e1,s1,i1⟩:=h.size k cur t f e
  obtain ⟨c2,e2,s2,i2⟩:=g.size k c1 t f e1
  refine ⟨c2,e2,s2.trans s1,fun e3 i x hx=>?_⟩
  obtain ⟨y,hy⟩:=i1 e3 i x hx
  exact i2 e3 i y hy
theorem Shp.mono {P Q:TypeId->Prop} {a b:World} (h:Shp P a b) (hp:∀ t,P t->Q t):Shp Q a b:=⟨fun k cur t f e n=>h.keep k cur t f e fun p=>n (hp t p),h.size⟩
theorem Shp.gb {P:TypeId->Prop} {a b:World} (g:Gb a b):Shp P a b :=
 ⟨fun k _ _ _ e _=>g.block k (Array.getElem?_eq_some_iff.1 e).1,fun k cur _ _ e=>⟨cur,(g.block k (Array.getElem?_eq_some_iff.1 e).1).trans e,rfl,fun _ _ x hx=>⟨x,hx⟩⟩⟩
theorem heap_set {W:World} {g o:Nat} {x:Value} {cur:Array Value} {t:TypeId} {f:Nat × Nat} (h:W.heap[g]? = some (.cells cur t f)):(W.setCell ⟨g,o,none⟩ x).heap[g]? = some (.cells (cur.setIfInBounds o x) t f):=by
 simp [World.setCell,Array.getElem?_modify,h]
theorem Shp.set {P:TypeId->Prop} {W:World} {g:Nat} {cur:Array Value} {t:TypeId} {f:Nat × Nat} (h:W.heap[g]? = some (.cells cur t f)) (hp:P t) (o:Nat) (x:Value) (hx:t=3->∃ y:Int,x=.int .i64 y):Shp P W (W.setCell ⟨g,o,none⟩ x):=by
 refine ⟨fun k cur' t' f' e n=>?_,fun k cur' t' f' e=>?_⟩
 ·by_cases hk:k=g
  ·subst hk;rw [h] at e;cases e;exact absurd hp n
  ·exact Below.heap_setCell _ _ _ _ (by dsimp only;exact hk)
 ·by_cases hk:k=g
  ·subst hk
   rw [h] at e;cases e
   refine ⟨_,heap_set h,by simp,fun e3 i z hz=>?_⟩
   by_cases hi:i=o
   ·subst hi
    obtain ⟨y,rfl⟩:=hx e3
    have hlt:i < cur.size:=(Array.getElem?_eq_some_iff.1 hz).1
    exact ⟨y,by rw [Array.getElem?_setIfInBounds_self_of_lt hlt]⟩
   ·exact ⟨z,by rw [Array.getElem?_setIfInBounds_ne (fun e=>hi e.symm)];exact hz⟩
  ·exact ⟨cur',(Below.heap_setCell _ _ _ _ (by dsimp only;exact hk)).trans e,rfl,fun _ _ z hz=>⟨z,hz⟩⟩
structure MS (P:TypeId->Prop) (B T:Nat) (W W':World):Prop where
 mid:Mid B T W W'
 shp:Shp P W W'
theorem Mid.trans {B T:Nat} {a b c:World} (h:Mid B T a b) (g:Mid B T b c):Mid B T a c :=
 ⟨g.os.trans h.os,g.tape.trans h.tape,g.output.trans h.output,Nat.le_trans h.size g.size,fun k hk hb=>(g.block k (Nat.lt_of_lt_of_le hk h.size) hb).trans (h.block k hk hb)⟩
theorem mid_gb {B T:Nat} {a b:World} (g:Gb a b):Mid B T a b:=⟨g.os,g.tape,g.output,g.size,fun k hk _=>g.block k hk⟩
theorem MS.refl (P:TypeId->Prop) (B T:Nat) (W:World):MS P B T W W:=⟨Mid.refl _ _ _,Shp.refl _ _⟩
theorem MS.trans {P:TypeId->Prop} {B T:Nat} {a b c:World} (h:MS P B T a b) (g:MS P B T b c):MS P B T a c:=⟨h.mid.trans g.mid,h.shp.trans g.shp⟩
theorem MS.mono {P Q:TypeId->Prop} {B T:Nat} {a b:World} (h:MS P B T a b) (hp:∀ t,P t->Q t):MS Q B T a b:=⟨h.mid,h.shp.mono hp⟩
theorem ms_gb {P:TypeId->Prop} {B T:Nat} {a b:World} (g:Gb a b):MS P B T a b:=⟨mid_gb g,Shp.gb g⟩
theorem MS.set {P:TypeId->Prop} {B T g:Nat} {W0 W:World} {cur:Array Value} {t:TypeId} {f:Nat × Nat} (m:MS P B T W0 W) (h1:B<=g) (h2:g < T) (h:W.heap[g]? = some (.cells cur t f)) (hp:P t) (o:Nat) (x:Value) (hx:t=3->∃ y:Int,x=.int .i64 y):MS P B T W0 (W.setCell ⟨g,o,none⟩ x) :=
 ⟨⟨m.mid.os,m.mid.tape,m.mid.output,by simpa [World.setCell] using m.mid.size,fun k hk hb=>(Below.heap_setCell _ _ _ _ (by dsimp only;omega)).trans (m.mid.block k hk hb)⟩,m.shp.trans (Shp.set h hp o x hx)⟩
theorem MS.cell {P:TypeId->Prop} {B T b o:Nat} {W W':World} {v:Value} (m:MS P B T W W') (hb:T<=b) (h:W.cell? ⟨b,o,none⟩=some v):W'.cell? ⟨b,o,none⟩=some v :=
 (World.cell?_of_block (a:=⟨b,o,none⟩) (m.mid.block b (World.block_lt_of_cell? W _ h) (.inr hb))).trans h
def WL (W:World) (B T:Nat) (ty:TypeId) (k:Nat) (a:Option Addr) (n:Nat):Prop:=n=0 ∨ ∃ g cur,a=some ⟨g,0,none⟩/\B<=g/\g < T/\W.heap[g]? = some (.cells cur ty (0,0))/\n * k<=cur.size
theorem WL.ms {P:TypeId->Prop} {W W':World} {B T B' T':Nat} {ty:TypeId} {k:Nat} {a:Option Addr} {n:Nat} (h:WL W B T ty k a n) (m:MS P B' T' W W'):WL W' B T ty k a n:=by
 rcases h with h | ⟨g,cur,e,h1,h2,h3,h4⟩
 ·exact .inl h
 ·obtain ⟨c1,e1,s1,_⟩:=m.shp.size g cur ty (0,0) h3
  exact .inr ⟨g,c1,e,h1,h2,e1,by omega⟩
def WI (W:World) (B T:Nat) (v:Value):Prop:=∃ a n c,v=.slice a n c/\n<=4611686018427387904/\(n=0 ∨ ∃ g cur,a=some ⟨g,0,none⟩/\B<=g/\g < T/\W.heap[g]? = some (.cells cur 3 (0,0))/\∀ i,i < n->∃ x:Int,cur[i]? = some (.int .i64 x))
theorem WI.ms {P:TypeId->Prop} {W W':World} {B T B' T':Nat} {v:Value} (h:WI W B T v) (m:MS P B' T' W W'):WI W' B T v:=by
 obtain ⟨a,n,c,rfl,hn,h⟩:=h
 refine ⟨a,n,c,rfl,hn,?_⟩
 rcases h with h | ⟨g,cur,e,h1,h2,h3,h4⟩
 ·exact .inl h
 ·obtain ⟨c1,e1,s1,i1⟩:=m.shp.size g cur 3 (0,0) h3
  exact .inr ⟨g,c1,e,h1,h2,e1,fun i hi=>by obtain ⟨x,hx⟩:=h4 i hi;exact i1 rfl i x hx⟩
theorem wi_own {W:World} {B T:Nat} {v:Value} {l:List Int} (h:Own W B v l) (hn:l.length<=4611686018427387904) (hT:∀ g,v.ownBlock=some g->g < T):WI W B T v:=by
 rcases h.2 with ⟨rfl,h0⟩ | ⟨g,cap,cur,rfl,hb,hh,hc,_,hs,ht⟩
 ·exact ⟨none,0,0,rfl,Nat.zero_le _,.inl rfl⟩
 ·refine ⟨_,_,_,rfl,hn,.inr ⟨g,cur,rfl,hb,hT g rfl,hh,fun i hi=>?_⟩⟩
  have h1:(cur.toList.take (l.length * 1))[i]? = (l.map (Value.int .i64))[i]? := by rw [ht]
  rw [List.getElem?_take_of_lt (by omega),List.getElem?_map,List.getElem?_eq_getElem hi] at h1
  exact ⟨l[i],by simpa using h1⟩
structure OwnA (W:World) (B T:Nat) (vh vs vr:Value):Prop where
 top:T<=W.heap.size
 hits:∃ a n c,vh=.slice a n c/\n<=4611686018427387904/\WL W B T 81 3 a n
 seen:WI W B T vs
 rest:∃ a n c,vr=.slice a n c/\n<=4611686018427387904/\(n=0 ∨ ∃ g cur,a=some ⟨g,0,none⟩/\B<=g/\g < T/\W.heap[g]? = some (.cells cur 99 (0,0)) /\
  ∀ i,i < n->∃ (S:Int) (vl vu:Value) (h l:Int) (vi:Value),cur[i * 6]? = some (.int .i64 S)/\cur[i * 6 + 1]? = some vl/\cur[i * 6 + 2]? = some vu/\cur[i * 6 + 3]? = some (.int .u64 h)/\cur[i * 6 + 4]? = some (.int .u64 l)/\cur[i * 6 + 5]? = some vi/\WI W B T vl/\WI W B T vu/\WI W B T vi)
theorem OwnA.gb {W W':World} {B T:Nat} {vh vs vr:Value} (h:OwnA W B T vh vs vr) (g:Gb W W'):OwnA W' B T vh vs vr:=by
 have m:MS (fun _=>False) B T W W':=ms_gb g
 obtain ⟨a,n,c,e,hn,hl⟩:=h.hits
 obtain ⟨a',n',c',e',hn',hl'⟩:=h.rest
 refine ⟨Nat.le_trans h.top g.size,⟨a,n,c,e,hn,hl.ms m⟩,h.seen.ms m,⟨a',n',c',e',hn',?_⟩⟩
 rcases hl' with h0 | ⟨x,cur,h1,h2,h3,h4,h5⟩
 ·exact .inl h0
 ·refine .inr ⟨x,cur,h1,h2,h3,(g.block x (Array.getElem?_eq_some_iff.1 h4).1).trans h4,fun i hi=>?_⟩
  obtain ⟨S,vl,vu,p,l,vi,d0,d1,d2,d3,d4,d5,w1,w2,w3⟩:=h5 i hi
  exact ⟨S,vl,vu,p,l,vi,d0,d1,d2,d3,d4,d5,w1.ms m,w2.ms m,w3.ms m⟩
theorem cell_of {W:World} {g o:Nat} {cur:Array Value} {t:TypeId} {v:Value} (h:W.heap[g]? = some (.cells cur t (0,0))) (hc:cur[o]? = some v):W.cell? ⟨g,o,none⟩=some v:=by simp [World.cell?,h,hc]
theorem froz_of {W:World} {g:Nat} {cur:Array Value} {t:TypeId} (h:W.heap[g]? = some (.cells cur t (0,0))) (o:Nat):W.frozen? ⟨g,o,none⟩=false:=by simp [World.frozen?,h]
abbrev tInt:TypeId->Prop:=fun t=>t=3
end Go.Proofs.YtcipdampcmfmaaaGreat
