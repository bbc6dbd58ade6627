import Derived.Test.YtcipdampcmfmaabGreatJa14
import Derived.Test.YtcipdampcmfmaabGreatJaSmL
import Derived.Test.YtcipdampcmfmaabGreatJa4
namespace Go.Proofs.YtcipdampcmfmaabGreat
theorem gap_abs (x y:Int):gap x x y=(x - y).natAbs:=by unfold gap;split <;> (try split) <;> omega
theorem gap_comm (x y:Int):gap x x y=gap y y x:=by rw [gap_abs,gap_abs];omega
theorem sumN_ext {f g:Nat->Nat} {n:Nat} (h:∀ i,i < n->f i=g i):sumN f n=sumN g n:=by
 induction n with
 | zero=>rfl
 | succ n ih=>simp only [sumN];rw [ih (fun i hi=>h i (by omega)),h n (by omega)]
theorem sumN_mono {f g:Nat->Nat} {n:Nat} (h:∀ i,i < n->f i<=g i):sumN f n<=sumN g n:=by
 induction n with
 | zero=>exact Nat.le_refl _
 | succ n ih =>
  have:=ih (fun i hi=>h i (by omega))
  have:=h n (by omega)
  simp only [sumN];omega
theorem sumN_zero {f:Nat->Nat} {n:Nat} (h:sumN f n=0) {i:Nat} (hi:i < n):f i=0:=by
 induction n with
 | zero=>omega
 | succ n ih =>
  simp only [sumN] at h
  by_cases e:i=n
  ·subst e;omega
  ·exact ih (by omega) (by omega)
theorem sumN_mul (f:Nat->Nat) (c n:Nat):sumN (fun i=>c * f i) n=c * sumN f n:=by
 induction n with
 | zero=>rfl
 | succ n ih=>simp only [sumN];rw [ih,Nat.mul_add]
theorem sumN_add (f g:Nat->Nat) (n:Nat):sumN (fun i=>f i + g i) n=sumN f n + sumN g n:=by
 induction n with
 | zero=>rfl
 | succ n ih=>simp only [sumN];rw [ih];omega
theorem dst_comm {a b:List Int} (h:a.length=b.length):dst a b=dst b a:=by
 unfold dst;rw [h]
 exact sumN_ext (fun i _=>by rw [gap_comm])
theorem tri_one (x y z:Int) (t u:Nat):t * u * (gap x x z * gap x x z)<=u * (t + u) * (gap x x y * gap x x y) + t * (t + u) * (gap y y z * gap y y z):=by
 rw [gap_abs,gap_abs,gap_abs]
 have e1:((x - z).natAbs:Int) * ((x - z).natAbs:Int)=(x - z) * (x - z):=by rw [Int.natAbs_mul_self' (x - z)]
 have e2:((x - y).natAbs:Int) * ((x - y).natAbs:Int)=(x - y) * (x - y):=by rw [Int.natAbs_mul_self' (x - y)]
 have e3:((y - z).natAbs:Int) * ((y - z).natAbs:Int)=(y - z) * (y - z):=by rw [Int.natAbs_mul_self' (y - z)]
 apply Int.ofNat_le.1
 simp only [Int.natCast_mul,Int.natCast_add]
 rw [e1,e2,e3]
 have h:0<=((u:Int) * (x - y) - (t:Int) * (y - z)) * ((u:Int) * (x - y) - (t:Int) * (y - z)):=by
  rcases Int.le_total 0 ((u:Int) * (x - y) - (t:Int) * (y - z)) with h | h
  ·exact Int.mul_nonneg h h
  ·exact Int.mul_nonneg_of_nonpos_of_nonpos h h
 have h2:(t:Int) * u * ((x - z) * (x - z)) + ((u:Int) * (x - y) - (t:Int) * (y - z)) * ((u:Int) * (x - y) - (t:Int) * (y - z))=(u:Int) * (t + u) * ((x - y) * (x - y)) + (t:Int) * (t + u) * ((y - z) * (y - z)):=by
  grind
 omega
theorem tri_sum (a b c:List Int) (hab:a.length=b.length) (t u:Nat):t * u * dst a c<=u * (t + u) * dst a b + t * (t + u) * dst b c:=by
 unfold dst
 rw [<- hab,<- sumN_mul,<- sumN_mul,<- sumN_mul,<- sumN_add]
 exact sumN_mono (fun i _=>tri_one _ _ _ t u)
theorem tri_lt {a b c:List Int} (hab:a.length=b.length) {t u:Nat} (h1:dst a b<=t * t) (h2:dst b c < u * u):dst a c < (t + u) * (t + u):=by
 by_cases ht:t=0
 ·subst ht
  have hA:dst a b=0:=by omega
  have h:=tri_sum a b c hab 1 (dst b c + 1)
  rw [hA] at h
  apply Nat.lt_of_le_of_lt _ (show dst b c < (0 + u) * (0 + u) by simpa using h2)
  apply Nat.le_of_not_lt
  intro hc
  have h3:(dst b c + 1) * (dst b c + 1)<=(dst b c + 1) * dst a c:=Nat.mul_le_mul_left _ hc
  simp only [Nat.one_mul,Nat.mul_zero,Nat.zero_add] at h
  have h4:(dst b c + 1) * (dst b c + 1)<=(1 + (dst b c + 1)) * dst b c:=Nat.le_trans h3 h
  rw [Nat.add_mul 1,Nat.mul_add] at h4
  omega
 ·have hu:u ≠ 0:=by rintro rfl;simp at h2
  have h:=tri_sum a b c hab t u
  have k1:u * (t + u) * dst a b<=u * (t + u) * (t * t):=Nat.mul_le_mul_left _ h1
  have k2:t * (t + u) * dst b c < t * (t + u) * (u * u):=Nat.mul_lt_mul_of_pos_left h2 (Nat.mul_pos (by omega) (by omega))
  have k3:u * (t + u) * (t * t) + t * (t + u) * (u * u)=t * u * ((t + u) * (t + u)):=by grind
  exact Nat.lt_of_mul_lt_mul_left (a:=t * u) (by omega)
theorem ball_bound {l v q:List Int} (hlv:l.length=v.length) {R:Nat} (h:dst l v<=R):ballV (dst l q) R<=dst v q:=by
 unfold ballV
 split
 ·exact Nat.zero_le _
 ·rename_i h0
  apply Nat.le_of_not_lt
  intro hc
  have hR:R<=rup R * rup R:=by
   unfold rup;split
   ·rename_i e;omega
   ·have:=(rt_is R).2;omega
  have hu:rup R < rt (dst l q):=by
   apply Nat.lt_of_not_le;intro hle
   rw [Nat.sub_eq_zero_of_le hle] at hc;simp at hc
  have:=tri_lt (c:=q) hlv (t:=rup R) (u:=rt (dst l q) - rup R) (by omega) hc
  rw [Nat.add_sub_cancel' (by omega)] at this
  have:=(rt_is (dst l q)).1
  omega
theorem gap_out {l h x y:Int} (h1:gap l h x=0):gap l h y<=gap x x y:=by
 unfold gap at *;split at h1 <;> (try split at h1) <;> split <;> (try split) <;> (try split) <;> (try split) <;> omega
theorem bound_le {r:Reg} {v q:List Int} (h1:ckB r v=0) (h2:ckB r q=0) (hin:inV r v=true):bdV r q<=dst v q:=by
 unfold bdV
 unfold inV at hin
 split
 ·rename_i s
  rw [if_pos s] at hin
  obtain ⟨a1,a2,a3,a4,a5,a6,a7⟩:=box_ok h1 s
  obtain ⟨b1,b2,b3,b4,b5,b6,b7⟩:=box_ok h2 s
  have h0:bx r.L r.H v=0:=by simpa using hin
  have e:v.length=q.length:=by omega
  unfold bx bxN at h0 ⊢
  unfold dst
  rw [e] at h0 ⊢
  refine sumN_mono (fun i hi=>?_)
  have h3:=sumN_zero h0 hi
  have h4:gap r.L[i]! r.H[i]! v[i]! = 0:=by
   rcases Nat.mul_eq_zero.1 h3 with h | h <;> exact h
  exact Nat.mul_le_mul (gap_out h4) (gap_out h4)
 ·rename_i s
  rw [if_neg s] at hin
  split
  ·rename_i s3
   rw [if_pos s3] at hin
   obtain ⟨a1,_⟩:=ball_ok h1 s3
   exact ball_bound a1 (by simpa using hin)
  ·exact Nat.zero_le _
end Go.Proofs.YtcipdampcmfmaabGreat

namespace Go.Proofs.YtcipdampcmfmaabGreat
open Go.RowKit Go.Sort
theorem symI {g o cap bf:Nat} {c lt:Int->Int->Prop} (ht:∀ x y z,lt x y->lt y z->lt x z):∀ (N a m b:Nat) (l:List Int) (w:World),b - a<=N->a < m->m < b->b<=l.length->l.length<=4000->IA w g o l->PreM c lt l a m b->CmpI w g bf l c ->
  Calls Tryz.prog 125 #[.slice (some ⟨g,o,none⟩) l.length cap,.int .i64 (a:Int),.int .i64 (m:Int),.int .i64 (b:Int),.func (.func 53) #[] #[.pointer (some ⟨bf,0,none⟩)]] w fun e w'=>e=.returned (.tuple #[])/\∃ l',Seg l l' a b/\Ri lt l' a b/\IA w' g o l'/\Tk.Kp (fun k=>k=g) w w'
 | 0,a,m,b,l,w,h0,h1,h2,_,_,_,_,_=>by omega
 | N + 1,a,m,b,l,w,h0,h1,h2,hb,hl,hI,hP,hC=>by
  by_cases e1:m=a + 1
  ·exact symI_one ht hI hl hb hP hC e1 h2
  ·by_cases e2:b=m + 1
   ·exact symI_last ht hI hl hb hP hC e2 (by omega)
   ·have RE:Hid (∀ (a' m' b':Nat) (l':List Int) (W:World),b' - a' < b - a->a' < m'->m' < b'->b'<=l.length->l'.length=l.length->IA W g o l'->PreM c lt l' a' m' b'->CmpI W g bf l' c->Calls Tryz.prog 125 #[.slice (some ⟨g,o,none⟩) l.length cap,.int .i64 (a':Int),.int .i64 (m':Int),.int .i64 (b':Int),.func (.func 53) #[] #[.pointer (some ⟨bf,0,none⟩)]] W fun e w'=>e=.returned (.tuple #[])/\∃ l2,Seg l' l2 a' b'/\Ri lt l2 a' b'/\IA w' g o l2/\Tk.Kp (fun k=>k=g) W w'):=by
     intro a' m' b' l' W q1 q2 q3 q4 q5 q6 q7 q8
     have:=symI (cap:=cap) ht N a' m' b' l' W (by omega) q2 q3 (by omega) (by omega) q6 q7 q8
     rw [q5] at this
     exact this
    by_cases e3:(a + b) / 2 < m
    ·exact symI_cutA ht hI hl hb hP hC (by omega) (by omega) rfl e3 RE
    ·exact symI_cutB ht hI hl hb hP hC (by omega) (by omega) rfl e3 RE
def Tag (c lt:Int->Int->Prop) (l:List Int) (a b:Nat):Prop:=∀ i j,a<=i->i < j->j < b->(c l[j]! l[i]! ↔ lt l[j]! l[i]!)/\(lt l[i]! l[j]! ∨ lt l[j]! l[i]!)
structure Ins (c lt:Int->Int->Prop) (l l1:List Int) (a i j:Nat):Prop where
 seg:Seg l l1 a (i + 1)
 lo:Ri lt l1 a j
 hi:Ri lt l1 j (i + 1)
 crs:∀ x y,a<=x->x < j->j < y->y < i + 1->lt l1[x]! l1[y]!
 tag:∀ x,a<=x->x < j->(c l1[j]! l1[x]! ↔ lt l1[j]! l1[x]!)/\(lt l1[x]! l1[j]! ∨ lt l1[j]! l1[x]!)
theorem Ins.down {c lt:Int->Int->Prop} {l l1:List Int} {a i j:Nat} (h:Ins c lt l l1 a i j) (haj:a < j) (hji:j<=i) (hil:i < l.length) (hlt:lt l1[j]! l1[j - 1]!):Ins c lt l (sws l1 j (j - 1)) a i (j - 1):=by
 have hl:=h.seg.len
 have g:=fun k=>sws_get l1 j (j - 1) k (by omega) (by omega)
 refine ⟨h.seg.sws ⟨by omega,by omega⟩ ⟨by omega,by omega⟩ (by omega),fun x y h1 h2 h3=>?_,fun x y h1 h2 h3=>?_,fun x y h1 h2 h3 h4=>?_,fun x h1 h2=>?_⟩
 ·rw [g,g,if_neg (by omega),if_neg (by omega),if_neg (by omega),if_neg (by omega)]
  exact h.lo x y h1 h2 (by omega)
 ·rw [g,g]
  by_cases hx:x=j - 1
  ·rw [if_pos hx,if_neg (by omega)]
   by_cases hy:y=j
   ·rw [if_pos hy];exact hlt
   ·rw [if_neg hy];exact h.hi j y (Nat.le_refl _) (by omega) h3
  ·rw [if_neg hx,if_neg (show ¬ y=j - 1 by omega),if_neg (show ¬ y=j by omega)]
   by_cases hxj:x=j
   ·rw [if_pos hxj];exact h.crs (j - 1) y (by omega) (by omega) (by omega) h3
   ·rw [if_neg hxj];exact h.hi x y (by omega) h2 h3
 ·rw [g,g,if_neg (by omega),if_neg (by omega),if_neg (by omega)]
  by_cases hyj:y=j
  ·rw [if_pos hyj];exact h.lo x (j - 1) h1 h2 (by omega)
  ·rw [if_neg hyj];exact h.crs x y h1 (by omega) (by omega) h4
 ·rw [g,g,if_pos rfl,if_neg (by omega),if_neg (by omega)]
  exact h.tag x h1 (by omega)
theorem Ins.fin {c lt:Int->Int->Prop} (ht:∀ x y z,lt x y->lt y z->lt x z) {l l1:List Int} {a i j:Nat} (h:Ins c lt l l1 a i j) (haj:a<=j) (hji:j<=i) (hd:j=a ∨ ¬ c l1[j]! l1[j - 1]!):Ri lt l1 a (i + 1):=by
 refine ri_join lt h.lo h.hi (fun x y h1 h2 h3 h4=>?_)
 by_cases hy:y=j
 ·subst hy
  have q:=h.tag (y - 1) (by omega) (by omega)
  have n:¬ lt l1[y]! l1[y - 1]! := fun e=>by
   rcases hd with hd | hd
   ·omega
   ·exact hd (q.1.2 e)
  exact ri_trans lt ht h.lo h1 (show x<=y - 1 by omega) (by omega) (q.2.resolve_right n)
 ·exact h.crs x y h1 h2 (by omega) h4
theorem Ins.start {c lt:Int->Int->Prop} {l:List Int} {a b i:Nat} (hr:Ri lt l a i) (ht:Tag c lt l a b) (hib:i < b) (_hai:a<=i):Ins c lt l l a i i :=
 ⟨Seg.refl _ _ _,hr,fun x y h1 h2 h3=>by omega,fun x y h1 h2 h3 h4=>by omega,fun x h1 h2=>ht x i h1 h2 hib⟩
end Go.Proofs.YtcipdampcmfmaabGreat

namespace Go.Proofs.YtcipdampcmfmaabGreat
open Go.RowKit Go.Sort
set_option maxRecDepth 100000
set_option maxHeartbeats 8000000
theorem tag_next {c lt:Int->Int->Prop} {l l1:List Int} {a b i:Nat} (h:Tag c lt l a b) (hs:Seg l l1 a i) (hr:Ri lt l1 a i) (hai:a<=i) (hib:i < b) (hb:b<=l.length):Ins c lt l1 l1 a i i:=by
 refine ⟨Seg.refl _ _ _,hr,fun x y h1 h2 h3=>by omega,fun x y h1 h2 h3 h4=>by omega,fun x h1 h2=>?_⟩
 obtain ⟨y,hy,e⟩:=hs.mem hai (by omega) (i:=x) ⟨h1,h2⟩
 rw [e,hs.out i (Or.inr (Nat.le_refl _))]
 exact h y i hy.1 hy.2 hib
theorem smInsI {w:World} {g o cap bf a b:Nat} {l:List Int} {c lt:Int->Int->Prop} (ht:∀ x y z,lt x y->lt y z->lt x z) (h:IA w g o l) (hl:l.length<=4000) (hab:a<=b) (hb:b<=l.length) (hT:Tag c lt l a b) (hc:CmpI w g bf l c) :
  Calls Tryz.prog 124 #[.slice (some ⟨g,o,none⟩) l.length cap,.int .i64 (a:Int),.int .i64 (b:Int),.func (.func 53) #[] #[.pointer (some ⟨bf,0,none⟩)]] w fun e w'=>e=.returned (.tuple #[])/\∃ l',Seg l l' a b/\Ri lt l' a b/\IA w' g o l'/\Tk.Kp (fun k=>k=g) w w':=by
 have H0:Hid (IA w g o l):=h
 have CC:Hid (CmpI w g bf l c):=hc
 have PM:Hid (Tag c lt l a b/\∀ x y z,lt x y->lt y z->lt x z):=⟨hT,ht⟩
 clear h hc hT ht
 go_enter Tryz.func124,Tryz.ntmps124
 go_wp2
 go_loopw [8] (fun iv W0=>∃ (W:World) (_:W=W0) (i:Nat) (l1:List Int),iv=.int .i64 (i:Int)/\a + 1<=i/\(i<=b ∨ (i=a + 1/\l1=l))/\Hid (Seg l l1 a i/\Ri lt l1 a i/\IA W g o l1/\Tk.Kp (fun k=>k=g) w W)) (fun iv _=>b - (intOf iv).toNat)
 case atStart=>exact ⟨_,rfl,a + 1,l,by go_num,Nat.le_refl _,Or.inr ⟨rfl,rfl⟩,Seg.refl _ _ _,fun x y h1 h2 h3=>by omega,H0.out,Tk.Kp.refl _ _⟩
 case round =>
  obtain ⟨W0,hW0,i,l1,rfl,hai,hib,X⟩:=hrel
  subst hW0
  by_cases hi:i < b
  ·have hii:(i:Int) < (b:Int):=by omega
   have hl1:Hid (l1.length=l.length):=X.out.1.len
   have I0:Hid (Ins c lt l1 l1 a i i):=tag_next PM.out.1 X.out.1 X.out.2.1 (by omega) hi hb
   go_wp2
   go_loopw [9] (fun jv W1=>∃ (W:World) (_:W=W1) (j:Nat) (l2:List Int),jv=.int .i64 (j:Int)/\a<=j/\j<=i/\Hid (Ins c lt l1 l2 a i j/\IA W g o l2/\Tk.Kp (fun k=>k=g) w W)) (fun jv _=>(intOf jv).toNat)
   case atStart=>exact ⟨_,rfl,i,l1,rfl,by omega,Nat.le_refl _,I0.out,X.out.2.2.1,X.out.2.2.2⟩
   case round =>
    obtain ⟨W,hW,j,l2,rfl,haj,hji,Y⟩:=hrel
    subst hW
    have DN:Hid (∀ (W2:World),Tk.Gw W W2->(j=a ∨ ¬ c l2[j]! l2[j - 1]!)->Seg l l2 a (i + 1)/\Ri lt l2 a (i + 1)/\IA W2 g o l2/\Tk.Kp (fun k=>k=g) w W2):=fun W2 hg hd =>
     ⟨(X.out.1.mono (Nat.le_refl _) (Nat.le_succ _)).trans Y.out.1.seg,Y.out.1.fin PM.out.2 haj hji hd,Y.out.2.1.same (hg.gr.block _ Y.out.2.1.lt),Y.out.2.2.trans (Tk.Kp.of_gr hg.gr)⟩
    by_cases hja:a < j
    ·obtain ⟨k,hjk⟩:∃ k,k + 1=j:=⟨j - 1,by omega⟩
     have ek:(j:Int) - 1=(k:Int):=by omega
     have haji:(a:Int) < (j:Int):=by omega
     have hl2:l2.length=l.length:=Y.out.1.seg.len.trans hl1.out
     have k1:(j:Int) < (l.length:Int):=by omega
     have k2:(k:Int) < (l.length:Int):=by omega
     have wk:IntKind.i64.wrap (k:Int)=(k:Int):=wrap_small (by omega)
     obtain ⟨x,y,c1,c2,E1,E2,XL⟩:∃ x y:Int,W.cell? ⟨g,o + j,none⟩=some (.int .i64 x)/\W.cell? ⟨g,o + k,none⟩=some (.int .i64 y)/\Hid (x ∈ l)/\Hid (y ∈ l)/\Hid (∀ z:Int,(z < 0 ↔ c x y)->(z < 0->Ins c lt l1 (sws l2 j k) a i k/\∀ W2,Tk.Gw W W2->IA ((W2.setCell ⟨g,o + j,none⟩ (.int .i64 y)).setCell ⟨g,o + k,none⟩ (.int .i64 x)) g o (sws l2 j k))/\(¬ z < 0->¬ c l2[j]! l2[j - 1]!)):=by
      have hm:∀ t,t < l2.length->l2[t]! ∈ l:=fun t ht=>X.out.1.perm.mem_iff.1 (Y.out.1.seg.perm.mem_iff.1 (get_mem ht))
      refine ⟨l2[j]!,l2[k]!,Y.out.2.1.cell (by omega),Y.out.2.1.cell (by omega),hm j (by omega),hm k (by omega),fun z hz=>⟨fun h=>⟨?_,fun W2 hg=>(Y.out.2.1.same (hg.gr.block _ Y.out.2.1.lt)).sws (by omega) (by omega)⟩,fun h h'=>h (hz.2 (by rw [show j - 1=k by omega] at h';exact h'))⟩⟩
      have hlt:lt l2[j]! l2[j - 1]! := (Y.out.1.tag (j - 1) (by omega) (by omega)).1.1 (by rw [show j - 1=k by omega];exact hz.1 h)
      have q:=Y.out.1.down hja hji (by have:=hl1.out;omega) hlt
      rw [show j - 1=k by omega] at q
      exact q
     have KW:Hid (Tk.Kp (fun k=>k=g) w W):=Y.out.2.2
     have f1:∀ W2,Tk.Gw W W2->W2.frozen? ⟨g,o + j,none⟩=false/\W2.frozen? ⟨g,o + k,none⟩=false/\W2.cell? ⟨g,o + j,none⟩=some (.int .i64 x)/\W2.cell? ⟨g,o + k,none⟩=some (.int .i64 y)/\g < W2.heap.size:=fun W2 hg=>by
      have q:=Y.out.2.1.same (hg.gr.block _ Y.out.2.1.lt)
      exact ⟨q.froz _,q.froz _,gwk hg c1,gwk hg c2,q.lt⟩
     have F1:Hid (∀ W2,Tk.Gw W W2->W2.frozen? ⟨g,o + j,none⟩=false/\W2.frozen? ⟨g,o + k,none⟩=false/\W2.cell? ⟨g,o + j,none⟩=some (.int .i64 x)/\W2.cell? ⟨g,o + k,none⟩=some (.int .i64 y)/\g < W2.heap.size):=f1
     have hne:j ≠ k:=by omega
     have JK:Hid (k + 1=j):=hjk
     clear f1 hl2 hjk
     go_wp2
     refine wp_region_held_drew (S:=fun W2=>Tk.Gw W W2) (by kernel_rfl) ((Tk.Gw.refl W).drew) (fun hHeld=>?_)
     refine tkn 0 ?_ rfl ?_ ?_;rotate_left;·(intro w hSw;(have s1:=gwk hSw c1;have s2:=gwk hSw c2);go_simp;try rfl)
     try simp only [pt]
     refine tkn 1 ?_ rfl ?_ ?_;rotate_left;·(intro w hSw;(have s1:=gwk hSw c1;have s2:=gwk hSw c2);go_simp;try rfl)
     try simp only [pt]
     refine tkn 2 ?_ rfl ?_ ?_;rotate_left;·(intro w hSw;(have s1:=gwk hSw c1;have s2:=gwk hSw c2);go_simp;try rfl)
     try simp only [pt]
     refine tkn 3 ?_ rfl ?_ ?_;rotate_left;·(intro w hSw;(have s1:=gwk hSw c1;have s2:=gwk hSw c2);go_simp;try rfl)
     try simp only [pt]
     refine tkn 4 ?_ rfl ?_ ?_;rotate_left;·(intro w hSw;(have s1:=gwk hSw c1;have s2:=gwk hSw c2);go_simp;try rfl)
     try simp only [pt]
     refine tkn 5 ?_ rfl ?_ ?_;rotate_left;·(intro w hSw;(have s1:=gwk hSw c1;have s2:=gwk hSw c2);go_simp;try rfl)
     try simp only [pt]
     refine tkn 6 ?_ rfl ?_ ?_;rotate_left;·(intro w hSw;(have s1:=gwk hSw c1;have s2:=gwk hSw c2);go_simp;try rfl)
     try simp only [pt]
     refine tkn 7 ?_ rfl ?_ ?_;rotate_left;·(intro w hSw;(have s1:=gwk hSw c1;have s2:=gwk hSw c2);go_simp;try rfl)
     try simp only [pt]
     refine tkn 8 ?_ rfl ?_ ?_;rotate_left;·(intro w hSw;(have s1:=gwk hSw c1;have s2:=gwk hSw c2);go_simp;try rfl)
     try simp only [pt]
     refine tkn 9 ?_ rfl ?_ ?_;rotate_left;·(intro w hSw;(have s1:=gwk hSw c1;have s2:=gwk hSw c2);go_simp;try rfl)
     try simp only [pt]
     refine tkn 10 ?_ rfl ?_ ?_;rotate_left;·(intro w hSw;(have s1:=gwk hSw c1;have s2:=gwk hSw c2);go_simp;try rfl)
     try simp only [pt]
     refine tkn 11 ?_ rfl ?_ ?_;rotate_left;·(intro w hSw;(have s1:=gwk hSw c1;have s2:=gwk hSw c2);go_simp;try rfl)
     try simp only [pt]
     refine tkn 12 ?_ rfl ?_ ?_;rotate_left;·(intro w hSw;(have s1:=gwk hSw c1;have s2:=gwk hSw c2);go_simp;try rfl)
     try simp only [pt]
     refine tkn 13 ?_ rfl ?_ ?_;rotate_left;·(intro w hSw;(have s1:=gwk hSw c1;have s2:=gwk hSw c2);go_simp;try rfl)
     try simp only [pt]
     refine rdn 14 rfl (fun K hK=>?_)
     go_simp
     refine (CC.out _ (KW.out.trans (Tk.Kp.of_gr hHeld.gr)) _ _ E1.out E2.out).mono ?_
     rintro e wa ⟨z,rfl,hz,ga⟩
     refine hK.out _ _ (hHeld.trans ga) (fun hHeld=>?_)
     clear hK K
     try simp only [pt]
     refine tkn 15 ?_ rfl ?_ ?_;rotate_left;·(intro w hSw;(have s1:=gwk hSw c1;have s2:=gwk hSw c2);go_simp;try rfl)
     try simp only [pt]
     refine tkn 16 ?_ rfl ?_ ?_;rotate_left;·(intro w hSw;(have s1:=gwk hSw c1;have s2:=gwk hSw c2);go_simp;try rfl)
     try simp only [pt]
     refine wpAnyH_done (by kernel_rfl) ?_ _
     have XZ:Hid _:=XL.out z hz
     obtain ⟨f1,f2,c3,c4,lt4⟩:=F1.out _ hHeld
     clear hz XL F1
     by_cases hz0:z < 0
     ·have N:=(XZ.out.1 hz0).1
      have N':Hid (Ins c lt l1 (sws l2 j k) a i k):=N
      have M:Hid (IA ((wa.setCell ⟨g,o + j,none⟩ (.int .i64 y)).setCell ⟨g,o + k,none⟩ (.int .i64 x)) g o (sws l2 j k)):=(XZ.out.1 hz0).2 _ hHeld
      clear N XZ
      go_wp2
      go_region
      go_wp2
      go_roundw
      case rel=>exact ⟨_,rfl,k,sws l2 j k,rfl,by have:=JK.out;omega,by have:=JK.out;omega,N'.out,M.out.same rfl,KW.out.trans ((Tk.Kp.of_gr hHeld.gr).trans (kp_swp _ g _ _ _ _))⟩
      case measure=>have:=JK.out;simp [intOf];omega
     ·have D:=DN.out _ hHeld (Or.inr (XZ.out.2 (by omega)))
      have D':Hid _:=D
      clear D XZ
      go_wp2
      go_roundw
      case rel=>exact ⟨_,rfl,i + 1,l2,by go_num,by omega,Or.inl hi,D'.out⟩
      case measure=>simp [intOf];omega
    ·obtain rfl:j=a:=by omega
     have haji:¬ (j:Int) < (j:Int):=by omega
     have JA:Hid (∀ W2,Tk.Gw W W2->Seg l l2 j (i + 1)/\Ri lt l2 j (i + 1)/\IA W2 g o l2/\Tk.Kp (fun k=>k=g) w W2):=fun W2 hg=>DN.out W2 hg (Or.inl rfl)
     clear DN Y I0 X
     go_wp2
     refine wp_region_held_drew (S:=fun W2=>Tk.Gw W W2) (by kernel_rfl) ((Tk.Gw.refl W).drew) (fun hHeld=>?_)
     refine tkn 0 ?_ rfl ?_ ?_;rotate_left;·(intro w hSw;(try dsimp only at hSw);go_simp;try rfl)
     try simp only [pt]
     refine tkn 1 ?_ rfl ?_ ?_;rotate_left;·(intro w hSw;(try dsimp only at hSw);go_simp;try rfl)
     try simp only [pt]
     refine tkn 2 ?_ rfl ?_ ?_;rotate_left;·(intro w hSw;(try dsimp only at hSw);go_simp;try rfl)
     try simp only [pt]
     refine tkn 3 ?_ rfl ?_ ?_;rotate_left;·(intro w hSw;(try dsimp only at hSw);go_simp;try rfl)
     try simp only [pt]
     refine wpAnyH_take (i:=4) (v:=undef) rfl (by kernel_rfl) (by kernel_rfl) (by kernel_rfl) (fun _ _ _ h=>h) (Or.inr ⟨by rfl,rfl⟩) (by assumption) ?_
     try simp only [pt]
     refine wpAnyH_take (i:=5) (v:=undef) rfl (by kernel_rfl) (by kernel_rfl) (by kernel_rfl) (fun _ _ _ h=>h) (Or.inr ⟨by rfl,rfl⟩) (by assumption) ?_
     try simp only [pt]
     refine wpAnyH_take (i:=6) (v:=undef) rfl (by kernel_rfl) (by kernel_rfl) (by kernel_rfl) (fun _ _ _ h=>h) (Or.inr ⟨by rfl,rfl⟩) (by assumption) ?_
     try simp only [pt]
     refine wpAnyH_take (i:=7) (v:=undef) rfl (by kernel_rfl) (by kernel_rfl) (by kernel_rfl) (fun _ _ _ h=>h) (Or.inr ⟨by rfl,rfl⟩) (by assumption) ?_
     try simp only [pt]
     refine wpAnyH_take (i:=8) (v:=undef) rfl (by kernel_rfl) (by kernel_rfl) (by kernel_rfl) (fun _ _ _ h=>h) (Or.inr ⟨by rfl,rfl⟩) (by assumption) ?_
     try simp only [pt]
     refine wpAnyH_take (i:=9) (v:=undef) rfl (by kernel_rfl) (by kernel_rfl) (by kernel_rfl) (fun _ _ _ h=>h) (Or.inr ⟨by rfl,rfl⟩) (by assumption) ?_
     try simp only [pt]
     refine wpAnyH_take (i:=10) (v:=undef) rfl (by kernel_rfl) (by kernel_rfl) (by kernel_rfl) (fun _ _ _ h=>h) (Or.inr ⟨by rfl,rfl⟩) (by assumption) ?_
     try simp only [pt]
     refine wpAnyH_take (i:=11) (v:=undef) rfl (by kernel_rfl) (by kernel_rfl) (by kernel_rfl) (fun _ _ _ h=>h) (Or.inr ⟨by rfl,rfl⟩) (by assumption) ?_
     try simp only [pt]
     refine wpAnyH_take (i:=12) (v:=undef) rfl (by kernel_rfl) (by kernel_rfl) (by kernel_rfl) (fun _ _ _ h=>h) (Or.inr ⟨by rfl,rfl⟩) (by assumption) ?_
     try simp only [pt]
     refine wpAnyH_take (i:=13) (v:=undef) rfl (by kernel_rfl) (by kernel_rfl) (by kernel_rfl) (fun _ _ _ h=>h) (Or.inr ⟨by rfl,rfl⟩) (by assumption) ?_
     try simp only [pt]
     refine wpAnyH_take (i:=14) (v:=undef) rfl (by kernel_rfl) (by kernel_rfl) (by kernel_rfl) (fun _ _ _ h=>h) (Or.inr ⟨by rfl,rfl⟩) (by assumption) ?_
     try simp only [pt]
     refine wpAnyH_take (i:=15) (v:=undef) rfl (by kernel_rfl) (by kernel_rfl) (by kernel_rfl) (fun _ _ _ h=>h) (Or.inr ⟨by rfl,rfl⟩) (by assumption) ?_
     try simp only [pt]
     refine tkn 16 ?_ rfl ?_ ?_;rotate_left;·(intro w hSw;(try dsimp only at hSw);go_simp;try rfl)
     try simp only [pt]
     refine wpAnyH_done (by kernel_rfl) ?_ _
     have D':Hid _:=JA.out _ hHeld
     clear JA
     go_wp2
     go_roundw
     case rel=>exact ⟨_,rfl,i + 1,l2,by go_num,by omega,Or.inl hi,D'.out⟩
     case measure=>simp [intOf];omega
  ·have hii:¬ (i:Int) < (b:Int):=by omega
   go_wp2
   go_end0
   refine ⟨rfl,l1,?_,?_,X.out.2.2⟩
   ·rcases hib with h1 | ⟨h1,h2⟩
    ·have e:i=b:=by omega
     have q:=X.out.1;rw [e] at q;exact q
    ·rw [h2];exact Seg.refl _ _ _
   ·intro p q h1 h2 h3
    exact X.out.2.1 p q h1 h2 (by omega)
end Go.Proofs.YtcipdampcmfmaabGreat
