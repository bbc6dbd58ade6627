import Derived.Test.YtcipdampcmfmaabGreatJa3
import Derived.Shelf.GgSortFunc.RowK
import Derived.Shelf.GgSortFunc.InsertionK
import Derived.Deep.AppendLies
import Derived.Deep.DrawnRows
import Derived.Test.YtcipdampcmfmaabGreatProg
import Derived.WalkKit
import Derived.WalkSpells
import Derived.WalkLawsBesides
import Derived.RowKit3
import Derived.WalkSmall
import Derived.Deep.RegionHeld3
import Derived.Test.YtcipdampcmfmaabGreatJaSmM
import Derived.BigRegion
namespace Go.Proofs.YtcipdampcmfmaabGreat.Tk
open Go.RowKit Go.Sort
def fl (l:List Ht):List Value:=l.flatMap enc
theorem fl_len (l:List Ht):(fl l).length=l.length * 3:=by
 induction l with
 | nil=>rfl
 | cons a r ih=>simp only [fl,List.flatMap_cons,List.length_append,List.length_cons] at *;rw [ih];simp [enc];omega
theorem fl_app (a b:List Ht):fl (a ++ b)=fl a ++ fl b:=by simp [fl]
theorem fl_one (x:Ht):fl [x]=enc x:=by simp [fl]
theorem fl_get (l:List Ht) (i c:Nat) (hi:i < l.length) (hc:c < 3):(fl l)[i * 3 + c]? = (enc (l[i]'hi))[c]? := by
 induction l generalizing i with
 | nil=>exact absurd hi (Nat.not_lt_zero _)
 | cons a r ih =>
  have e:fl (a :: r)=enc a ++ fl r:=by simp [fl]
  rw [e]
  cases i with
  | zero =>
   rw [List.getElem?_append_left (by simp [enc];omega)]
   simp
  | succ i =>
   rw [List.getElem?_append_right (by simp [enc];omega)]
   have:(i + 1) * 3 + c - (enc a).length=i * 3 + c:=by simp [enc];omega
   rw [this,ih i (by simpa using hi)]
   simp
theorem fl_one_cell (l:List Ht):∀ u ∈ fl l,u.oneCell'=true:=by
 intro u hu
 simp only [fl,List.mem_flatMap,enc,List.mem_cons,List.not_mem_nil,or_false] at hu
 obtain ⟨x,_,rfl | rfl | rfl⟩:=hu <;> rfl
theorem enc_len (x:Ht):(enc x).length=3:=rfl
theorem enc_one (x:Ht):∀ v ∈ enc x,v.oneCell'=true:=by
 intro v hv;simp only [enc,List.mem_cons,List.not_mem_nil,or_false] at hv;rcases hv with rfl | rfl | rfl <;> rfl
theorem flatK_fl (d:Array Ht):(flatK enc 3 d).toList=fl d.toList:=by
 apply List.ext_getElem?
 intro t
 by_cases h:t < d.size * 3
 ·have hi:t / 3 < d.size:=by omega
  have h2:=fl_get d.toList (t / 3) (t % 3) (by simpa using hi) (Nat.mod_lt _ (by omega))
  rw [show t / 3 * 3 + t % 3=t by omega] at h2
  rw [h2]
  have h3:=get_flatK enc 3 d t h
  rw [getElem!_pos (flatK enc 3 d) t (by simpa using h)] at h3
  rw [List.getElem?_eq_getElem (by simpa using h)]
  simp only [Array.getElem_toList]
  rw [h3,getElem!_pos d (t / 3) hi]
  have hm:t % 3 < (enc d[t / 3]).length:=by rw [enc_len];exact Nat.mod_lt _ (by omega)
  rw [getElem!_pos (enc d[t / 3]) (t % 3) hm,List.getElem?_eq_getElem hm]
 ·rw [List.getElem?_eq_none (by simp;omega),List.getElem?_eq_none (by rw [fl_len];simp;omega)]
def Own (w:World) (v:Value) (d:Array Ht):Prop:=w.ownsRow 0 58 3 v d.size (fl d.toList)
theorem own_nil (w:World):Own w (.slice none 0 0) #[]:=World.ownsRow_nil w 0 58 3
theorem own_form {w:World} {v:Value} {d:Array Ht} (h:Own w v d) (hn:0 < d.size) :
  ∃ g cap cur,v=.slice (some ⟨g,0,none⟩) d.size cap/\w.heap[g]? = some (.cells cur 58 (0,0))/\d.size<=cap/\cap<=maxLen/\cur.size=cap * 3/\cur.toList.take (d.size * 3)=fl d.toList:=by
 rcases h.2 with ⟨_,h2⟩ | ⟨g,cap,cur,rfl,_,r⟩
 ·omega
 ·exact ⟨g,cap,cur,rfl,r⟩
theorem own_kept {w w':World} {g n cap:Nat} {d:Array Ht} (h:Own w (.slice (some ⟨g,0,none⟩) n cap) d) (hb:w'.heap[g]? = w.heap[g]?):Own w' (.slice (some ⟨g,0,none⟩) n cap) d:=by
 refine ⟨h.1,?_⟩
 rcases h.2 with ⟨h1,_⟩ | ⟨g',cap',cur,e,hb',hh,r⟩
 ·cases h1
 ·cases e
  exact .inr ⟨_,_,cur,rfl,hb',by rw [hb];exact hh,r⟩
theorem own_gr {w w':World} {v:Value} {d:Array Ht} (h:Own w v d) (g:Gr w w'):Own w' v d:=by
 refine ⟨h.1,?_⟩
 rcases h.2 with h1 | ⟨g',cap',cur,e,hb',hh,r⟩
 ·exact .inl h1
 ·exact .inr ⟨g',cap',cur,e,hb',by rw [g.block g' (Array.getElem?_eq_some_iff.1 hh).1];exact hh,r⟩
theorem own_lt {w:World} {v:Value} {d:Array Ht} (h:Own w v d) {g:Nat} (hg:v.ownBlock=some g):g < w.heap.size:=(h.lt g hg).2
theorem own_cell {w:World} {g n cap:Nat} {d:Array Ht} (h:Own w (.slice (some ⟨g,0,none⟩) n cap) d) {i:Nat} (hi:i < d.size) :
  w.cell? ⟨g,i * 3,none⟩=some (.int .i64 d[i]!.id)/\w.cell? ⟨g,i * 3 + 1,none⟩=some (.int .u64 d[i]!.hi)/\w.cell? ⟨g,i * 3 + 2,none⟩=some (.int .u64 d[i]!.lo):=by
 have hc:=h.cells (g:=g) rfl
 have e:d[i]! = d.toList[i]'(by simpa using hi):=by rw [getElem!_pos d i hi];simp
 have hh:∀ c,c < 3->∀ u,(enc d[i]!)[c]? = some u->w.cell? ⟨g,i * 3 + c,none⟩=some u:=by
  intro c hc3 u hu
  have:=hc (i * 3 + c) u (by rw [fl_get _ _ _ (by simpa using hi) hc3,<- e];exact hu)
  rw [Addr.add_lit,Nat.zero_add] at this;exact this
 exact ⟨hh 0 (by omega) _ rfl,hh 1 (by omega) _ rfl,hh 2 (by omega) _ rfl⟩
theorem own_froz {w:World} {g n cap:Nat} {d:Array Ht} (h:Own w (.slice (some ⟨g,0,none⟩) n cap) d) (o:Nat):w.frozen? ⟨g,o,none⟩=false:=by
 rcases h.2 with ⟨h1,_⟩ | ⟨g',cap',cur,e,_,hh,_⟩
 ·cases h1
 ·cases e
  simp [World.frozen?,hh]
theorem own_holds {w:World} {g n cap:Nat} {d:Array Ht} (h:Own w (.slice (some ⟨g,0,none⟩) n cap) d):HoldsK enc 3 w g 0 d:=by
 intro t ht
 have ht':t < d.size * 3:=by simpa using ht
 refine ⟨?_,own_froz h _⟩
 have hc:=h.cells (g:=g) rfl t ((flatK enc 3 d)[t]!) (by
  rw [<- flatK_fl,getElem!_pos (flatK enc 3 d) t ht,List.getElem?_eq_getElem (by simpa using ht')];simp)
 rw [Addr.add_lit] at hc;exact hc
theorem heap_putRow (w:World) (g m:Nat) (d:Array Ht) (cur:Array Value) (hh:w.heap[g]? = some (.cells cur 58 (0,0))) :
  (putRowK enc 3 (Sort.ahead w m) g 0 d).heap[g]? = some (.cells (putCells id 0 (flatK enc 3 d) cur) 58 (0,0)):=by
 simp [putRowK,putRow,mapBlock,Array.getElem?_modify,hh,onCells]
theorem own_put {w:World} {g n cap:Nat} {d:Array Ht} (h:Own w (.slice (some ⟨g,0,none⟩) n cap) d) (m:Nat) (d':Array Ht) (hs:d'.size=d.size) :
  Own (putRowK enc 3 (Sort.ahead w m) g 0 d') (.slice (some ⟨g,0,none⟩) n cap) d':=by
 refine ⟨by rw [fl_len];simp,?_⟩
 rcases h.2 with ⟨h1,_⟩ | ⟨g',cap',cur,e,hb',hh,hle,hmx,hsz,htk⟩
 ·cases h1
 ·cases e
  refine .inr ⟨_,_,_,by rw [hs],hb',heap_putRow w g m d' cur hh,by rw [hs];exact hle,hmx,by simp [putCells,hsz],?_⟩
  rw [<- flatK_fl]
  apply List.ext_getElem?
  intro t
  by_cases ht:t < d'.size * 3
  ·have ht2:t < cur.size:=by rw [hsz];have:=Nat.mul_le_mul_right 3 hle;omega
   rw [List.getElem?_take,if_pos ht,List.getElem?_eq_getElem (by simpa [putCells] using ht2),List.getElem?_eq_getElem (by simpa using ht)]
   simp only [Array.getElem_toList,putCells,Array.getElem_mapIdx]
   rw [if_pos ⟨by omega,by simp;omega⟩]
   simp [getElem!_pos,ht]
  ·rw [List.getElem?_eq_none (by simp;omega),List.getElem?_eq_none (by simp;omega)]
structure Kp (S:Nat->Prop) (w w':World):Prop where
 os:w'.os=w.os
 tape:w'.tape=w.tape
 output:w'.output=w.output
 size:w.heap.size<=w'.heap.size
 block:∀ k,k < w.heap.size->¬ S k->w'.heap[k]? = w.heap[k]?
theorem Kp.refl (S:Nat->Prop) (w:World):Kp S w w:=⟨rfl,rfl,rfl,Nat.le_refl _,fun _ _ _=>rfl⟩
theorem Kp.trans {S:Nat->Prop} {a b c:World} (h:Kp S a b) (k:Kp S b c):Kp S a c :=
 ⟨k.os.trans h.os,k.tape.trans h.tape,k.output.trans h.output,Nat.le_trans h.size k.size,fun i hi hn=>(k.block i (Nat.lt_of_lt_of_le hi h.size) hn).trans (h.block i hi hn)⟩
theorem Kp.mono {S T:Nat->Prop} {a b:World} (h:Kp S a b) (hst:∀ k,k < a.heap.size->S k->T k):Kp T a b :=
 ⟨h.os,h.tape,h.output,h.size,fun i hi hn=>h.block i hi (fun hs=>hn (hst i hi hs))⟩
theorem Kp.of_gr {S:Nat->Prop} {a b:World} (h:Gr a b):Kp S a b:=⟨h.os,h.tape,h.output,h.size,fun i hi _=>h.block i hi⟩
theorem Kp.gr {S:Nat->Prop} {a b:World} (h:Kp S a b) {B:Nat} (hB:B<=a.heap.size) (hS:∀ k,S k->B<=k):Below B a b :=
 ⟨h.os,h.tape,h.output,h.size,fun i hi=>h.block i (by omega) (fun hs=>by have:=hS i hs;omega)⟩
theorem Kp.grown {a b:World} {r:Option Nat} (h:a.grownBy b r):Kp (fun k=>some k=r) a b:=⟨h.os,h.tape,h.output,h.size,fun i hi hn=>h.block i hi hn⟩
theorem Kp.setCell {S:Nat->Prop} {a w:World} (h:Kp S a w) {p:Addr} (hp:S p.block ∨ a.heap.size<=p.block) (u:Value):Kp S a (w.setCell p u) :=
 ⟨h.os,h.tape,h.output,by simpa [World.setCell] using h.size,fun k hk hn=>(Below.heap_setCell _ _ _ _ (by rintro rfl;rcases hp with hp | hp;exact hn hp;omega)).trans (h.block k hk hn)⟩
theorem Kp.put {g m:Nat} (w:World) (d:Array Ht):Kp (fun k=>k=g) w (putRowK enc 3 (Sort.ahead w m) g 0 d):=by
 refine ⟨rfl,rfl,rfl,by simp [putRowK],fun k _ hn=>?_⟩
 simp [putRowK,putRow,mapBlock,Array.getElem?_modify,Ne.symm hn]
theorem Kp.cell {S:Nat->Prop} {a b:World} (h:Kp S a b) {p:Addr} {v:Value} (hc:a.cell? p=some v) (hn:¬ S p.block):b.cell? p=some v :=
 (World.cell?_of_block (h.block p.block (World.block_lt_of_cell? a p hc) hn)).trans hc
theorem own_kp {S:Nat->Prop} {w w':World} {v:Value} {d:Array Ht} (h:Own w v d) (k:Kp S w w') (hn:∀ g,v.ownBlock=some g->¬ S g):Own w' v d:=by
 refine ⟨h.1,?_⟩
 rcases h.2 with h1 | ⟨g',cap',cur,rfl,hb',hh,r⟩
 ·exact .inl h1
 ·exact .inr ⟨g',cap',cur,rfl,hb',by rw [k.block g' (Array.getElem?_eq_some_iff.1 hh).1 (hn _ rfl)];exact hh,r⟩
end Go.Proofs.YtcipdampcmfmaabGreat.Tk

namespace Go.Proofs.YtcipdampcmfmaabGreat.Tk
open Go.RowKit Go.Sort
def MaxH (d:Array Ht):Prop:=∀ i,0 < i->i < d.size->hlt d[(i - 1) / 2]! d[i]! = false
def UpInv (d:Array Ht) (j:Nat):Prop :=
 (∀ i,0 < i->i < d.size->i ≠ j->hlt d[(i - 1) / 2]! d[i]! = false)/\∀ c,0 < c->c < d.size->(c - 1) / 2=j->0 < j->hlt d[(j - 1) / 2]! d[c]! = false
def DownInv (d:Array Ht) (i:Nat):Prop :=
 (∀ c,0 < c->c < d.size->(c - 1) / 2 ≠ i->hlt d[(c - 1) / 2]! d[c]! = false)/\∀ c,0 < c->c < d.size->(c - 1) / 2=i->0 < i->hlt d[(i - 1) / 2]! d[c]! = false
theorem swp_perm (d:Array Ht) (i j:Nat) (hi:i < d.size) (hj:j < d.size):(swp d i j).toList.Perm d.toList:=by
 have h:=(swp_permIn d 0 d.size i j (Nat.zero_le _) hi (Nat.zero_le _) hj (Nat.le_refl _)).2.2
 rw [show (swp d i j).extract 0 d.size=swp d i j by rw [<- size_swp d i j,Array.extract_size],Array.extract_size] at h
 exact h
theorem maxh_root {d:Array Ht} (h:MaxH d):∀ i,i < d.size->hlt d[0]! d[i]! = false:=by
 intro i
 induction i using Nat.strongRecOn with
 | _ i ih =>
  intro hi
  by_cases h0:i=0
  ·subst h0;exact hlt_irrefl _
  ·exact hlt_ntrans (ih ((i - 1) / 2) (by omega) (by omega)) (h i (by omega) hi)
theorem up_zero {d:Array Ht} (h:UpInv d 0):MaxH d:=fun i h0 h1=>h.1 i h0 h1 (by omega)
theorem up_stop {d:Array Ht} {j:Nat} (h:UpInv d j) (hn:0 < j->hlt d[(j - 1) / 2]! d[j]! = false):MaxH d:=by
 intro i h0 h1
 by_cases e:i=j
 ·subst e;exact hn h0
 ·exact h.1 i h0 h1 e
theorem up_step {d:Array Ht} {j:Nat} (h:UpInv d j) (h0:0 < j) (hj:j < d.size) (hl:hlt d[(j - 1) / 2]! d[j]! = true):UpInv (swp d ((j - 1) / 2) j) ((j - 1) / 2):=by
 have hi:(j - 1) / 2 < d.size:=by omega
 have g:=swp_get d hi hj
 constructor
 ·intro c c0 c1 c2
  rw [size_swp] at c1
  rw [g,g]
  by_cases e1:c=j
  ·subst e1
   rw [if_neg (by omega),if_pos rfl,if_pos rfl]
   exact hlt_asymm hl
  ·rw [if_neg e1,if_neg c2]
   by_cases e2:(c - 1) / 2=j
   ·rw [if_pos e2]
    exact h.2 c c0 c1 e2 h0
   ·rw [if_neg e2]
    by_cases e3:(c - 1) / 2=(j - 1) / 2
    ·rw [if_pos e3]
     have:=h.1 c c0 c1 e1
     rw [e3] at this
     exact hlt_ntrans (hlt_asymm hl) this
    ·rw [if_neg e3]
     exact h.1 c c0 c1 e1
 ·intro c c0 c1 c2 c3
  rw [size_swp] at c1
  rw [g,g,if_neg (by omega),if_neg (by omega)]
  by_cases e1:c=j
  ·subst e1
   rw [if_pos rfl]
   exact h.1 _ c3 hi (by omega)
  ·rw [if_neg e1,if_neg (by omega)]
   have a:=h.1 c c0 c1 e1
   rw [c2] at a
   exact hlt_ntrans (h.1 _ c3 hi (by omega)) a
theorem up_push {d:Array Ht} (h:MaxH d) (x:Ht):UpInv (d.push x) d.size:=by
 constructor
 ·intro i h0 h1 h2
  rw [Array.size_push] at h1
  have:=h i h0 (by omega)
  rw [getElem!_pos d _ (show (i - 1) / 2 < d.size by omega),getElem!_pos d _ (show i < d.size by omega)] at this
  rw [getElem!_pos (d.push x) _ (show (i - 1) / 2 < (d.push x).size by rw [Array.size_push];omega),getElem!_pos (d.push x) _ (show i < (d.push x).size by rw [Array.size_push];omega),Array.getElem_push_lt (by omega),Array.getElem_push_lt (by omega)]
  exact this
 ·intro c h0 h1 h2 _
  rw [Array.size_push] at h1;omega
theorem down_stop0 {d:Array Ht} {i:Nat} (h:DownInv d i) (hn:d.size<=2 * i + 1):MaxH d:=fun c c0 c1=>h.1 c c0 c1 (by omega)
def Child (d:Array Ht) (i j:Nat):Prop:=0 < j/\j < d.size/\(j - 1) / 2=i/\∀ c,0 < c->c < d.size->(c - 1) / 2=i->hlt d[j]! d[c]! = false
theorem down_stop1 {d:Array Ht} {i j:Nat} (h:DownInv d i) (hc:Child d i j) (hn:hlt d[i]! d[j]! = false):MaxH d:=by
 intro c c0 c1
 by_cases e:(c - 1) / 2=i
 ·rw [e];exact hlt_ntrans hn (hc.2.2.2 c c0 c1 e)
 ·exact h.1 c c0 c1 e
theorem down_step {d:Array Ht} {i j:Nat} (h:DownInv d i) (hc:Child d i j) (hl:hlt d[i]! d[j]! = true):DownInv (swp d i j) j:=by
 obtain ⟨j0,j1,j2,j3⟩:=hc
 have hi:i < d.size:=by omega
 have g:=swp_get d hi j1
 constructor
 ·intro c c0 c1 c2
  rw [size_swp] at c1
  rw [g,g,if_neg c2]
  by_cases e1:(c - 1) / 2=i
  ·rw [if_pos e1]
   by_cases e2:c=j
   ·rw [if_pos e2];exact hlt_asymm hl
   ·rw [if_neg e2,if_neg (by omega)]
    exact j3 c c0 c1 e1
  ·rw [if_neg e1]
   by_cases e2:c=j
   ·subst e2;omega
   ·rw [if_neg e2]
    by_cases e3:c=i
    ·subst e3
     rw [if_pos rfl]
     exact h.2 j j0 j1 j2 c0
    ·rw [if_neg e3];exact h.1 c c0 c1 e1
 ·intro c c0 c1 c2 _
  rw [size_swp] at c1
  rw [g,g,if_neg (by omega),if_pos j2,if_neg (by omega),if_neg (by omega)]
  have:=h.1 c c0 c1 (by omega)
  rw [c2] at this
  exact this
theorem child_one {d:Array Ht} {i:Nat} (h1:2 * i + 1 < d.size) (h2:d.size<=2 * i + 2):Child d i (2 * i + 1) :=
 ⟨by
   omega,h1,by omega,fun c _ c1 c2=>by
   obtain rfl:c=2 * i + 1:=by omega
   exact hlt_irrefl _⟩
theorem child_l {d:Array Ht} {i:Nat} (h2:2 * i + 2 < d.size) (hl:hlt d[2 * i + 1]! d[2 * i + 2]! = false):Child d i (2 * i + 1) :=
 ⟨by omega,by omega,by omega,fun c _ c1 c2=>by
  have:c=2 * i + 1 ∨ c=2 * i + 2:=by omega
  rcases this with rfl | rfl
  ·exact hlt_irrefl _
  ·exact hl⟩
theorem child_r {d:Array Ht} {i:Nat} (h2:2 * i + 2 < d.size) (hl:hlt d[2 * i + 1]! d[2 * i + 2]! = true):Child d i (2 * i + 2) :=
 ⟨by omega,by omega,by omega,fun c _ c1 c2=>by
  have:c=2 * i + 1 ∨ c=2 * i + 2:=by omega
  rcases this with rfl | rfl
  ·exact hlt_asymm hl
  ·exact hlt_irrefl _⟩
theorem down_set {d:Array Ht} (h:MaxH d) (x:Ht):DownInv (d.setIfInBounds 0 x) 0:=by
 constructor
 ·intro c c0 c1 c2
  rw [Array.size_setIfInBounds] at c1
  rw [getElem!_set_other d 0 _ x c2,getElem!_set_other d 0 _ x (by omega)]
  exact h c c0 c1
 ·intro c _ _ _ h0;exact absurd h0 (Nat.lt_irrefl _)
end Go.Proofs.YtcipdampcmfmaabGreat.Tk

namespace Go.Proofs.YtcipdampcmfmaabGreat
open Go.RowKit
theorem tkn {P : Program} {ops : Array Oper} {Q : Exit → Act → World → Prop} {md : Region.Mode} {S : World → Prop} (i : Nat) {oi : Oper} {fuel : Nat} {listed : Array Bool} {a : Act} {w : World} (v : Value) (hi : ops[i]? = some oi) (hy : ∀ w, S w → (execOp a.eval oi).run P w = .ok (.value v) w)
 (h : wpAnyH P md ops Q S fuel (listed.setIfInBounds i true) (a.put oi.dst v) w) (hs : Region.noSelect ops = true := by kernel_rfl) (hf : Region.free md ops listed i = true := by kernel_rfl) (hr : (Region.ready md ops listed).contains i = true := by kernel_rfl) (hQ : ∀ c a w, Q (.panic c) (a.put oi.dst v) w → Q (.panic c) a w := by exact fun _ _ _ h => h)
 (hw : Region.wanted oi (yielded ops a.tmps) = true := by rfl) (hS : S w := by assumption) : wpAnyH P md ops Q S (fuel + 1) listed a w := wpAnyH_take hi hs hf hr hQ (Or.inl ⟨hw, hy⟩) hS h
theorem rdn {P : Program} {ops : Array Oper} {Q : Exit → Act → World → Prop} {md : Region.Mode} {S : World → Prop} (i : Nat) {o : Oper} {fuel : Nat} {listed : Array Bool} {a : Act} {w : World} (ho : ops[i]? = some o)
 (h : ∀ K' : Act → World → Prop, Shut (∀ a w, S w → (S w → wpAnyH P md ops Q S fuel (listed.setIfInBounds i true) a w) → K' a w) → if Region.wanted o (yielded ops a.tmps) = true then Oper.wp P o a w K' Q else K' (a.put o.dst undef) w) (hr : Region.ready md ops listed = [i] := by kernel_rfl) : wpAnyH P md ops Q S (fuel + 1) listed a w := wpAnyH_ready hr (by simp) (AllReadyH.cons ho h AllReadyH.nil)
theorem pt : (∀ (a : Act) (d : Tmp) (v : Value), a.put (some d) v = { a with tmps := a.tmps.setIfInBounds d v }) ∧ (∀ (a : Act) (v : Value), a.put none v = a) ∧ (∀ {α : Type} (l : List α) (i : Nat) (h : i < l.toArray.size), l.toArray[i]'h = l[i]'(by simpa using h)) ∧ (∀ {α : Type} (a : α) (l : List α) (h : 0 < (a :: l).length), (a :: l)[0]'h = a) ∧ (∀ {α : Type} (a : α) (l : List α) (i : Nat) (h : i + 1 < (a :: l).length), (a :: l)[i + 1]'h = l[i]'(by simpa using h)) ∧ (∀ {α : Type} (l : List α) (i : Nat) (a : α), l.toArray.setIfInBounds i a = (l.set i a).toArray) ∧ (∀ {α : Type} (a b : α) (l : List α), (a :: l).set 0 b = b :: l) ∧ (∀ {α : Type} (a b : α) (l : List α) (i : Nat), (a :: l).set (i + 1) b = a :: l.set i b) := ⟨fun _ _ _ => rfl, fun _ _ => rfl, fun _ _ _ => by simp, fun _ _ _ => rfl, fun _ _ _ _ => rfl, fun _ _ _ => by simp, fun _ _ _ => rfl, fun _ _ _ _ => rfl⟩
theorem kp3 {a b : World} (g : Below a.heap.size a b) {p0 : Addr} {v0 : Value} {p1 : Addr} {v1 : Value} {p2 : Addr} {v2 : Value} (h0 : a.cell? p0 = some v0) (h1 : a.cell? p1 = some v1) (h2 : a.cell? p2 = some v2) : b.cell? p0 = some v0 ∧ b.cell? p1 = some v1 ∧ b.cell? p2 = some v2 := ⟨(g.cell (World.block_lt_of_cell? a _ h0)).trans h0, (g.cell (World.block_lt_of_cell? a _ h1)).trans h1, (g.cell (World.block_lt_of_cell? a _ h2)).trans h2⟩
theorem kp10 {a b : World} (g : Below a.heap.size a b) {p0 : Addr} {v0 : Value} {p1 : Addr} {v1 : Value} {p2 : Addr} {v2 : Value} {p3 : Addr} {v3 : Value} {p4 : Addr} {v4 : Value} {p5 : Addr} {v5 : Value} {p6 : Addr} {v6 : Value} {p7 : Addr} {v7 : Value} {p8 : Addr} {v8 : Value} {p9 : Addr} {v9 : Value} (h0 : a.cell? p0 = some v0) (h1 : a.cell? p1 = some v1) (h2 : a.cell? p2 = some v2) (h3 : a.cell? p3 = some v3) (h4 : a.cell? p4 = some v4) (h5 : a.cell? p5 = some v5) (h6 : a.cell? p6 = some v6) (h7 : a.cell? p7 = some v7) (h8 : a.cell? p8 = some v8) (h9 : a.cell? p9 = some v9) : b.cell? p0 = some v0 ∧ b.cell? p1 = some v1 ∧ b.cell? p2 = some v2 ∧ b.cell? p3 = some v3 ∧ b.cell? p4 = some v4 ∧ b.cell? p5 = some v5 ∧ b.cell? p6 = some v6 ∧ b.cell? p7 = some v7 ∧ b.cell? p8 = some v8 ∧ b.cell? p9 = some v9 := ⟨(g.cell (World.block_lt_of_cell? a _ h0)).trans h0, (g.cell (World.block_lt_of_cell? a _ h1)).trans h1, (g.cell (World.block_lt_of_cell? a _ h2)).trans h2, (g.cell (World.block_lt_of_cell? a _ h3)).trans h3, (g.cell (World.block_lt_of_cell? a _ h4)).trans h4, (g.cell (World.block_lt_of_cell? a _ h5)).trans h5, (g.cell (World.block_lt_of_cell? a _ h6)).trans h6, (g.cell (World.block_lt_of_cell? a _ h7)).trans h7, (g.cell (World.block_lt_of_cell? a _ h8)).trans h8, (g.cell (World.block_lt_of_cell? a _ h9)).trans h9⟩
end Go.Proofs.YtcipdampcmfmaabGreat

namespace Go.Proofs.YtcipdampcmfmaabGreat
open Go.RowKit Go.Sort
set_option maxHeartbeats 2000000
theorem _root_.Go.Proofs.YtcipdampcmfmaabGreat.Tk.Kp.drew' {S:Nat->Prop} {a w:World} (h:Tk.Kp S a w):Tk.Kp S a w.drew:=⟨h.os,h.tape,h.output,h.size,h.block⟩
theorem kp_swp (W:World) (g p q:Nat) (u v:Value):Tk.Kp (fun k=>k=g) W ((W.setCell ⟨g,p,none⟩ u).setCell ⟨g,q,none⟩ v).drew :=
 (((Tk.Kp.refl (fun k=>k=g) W).setCell (p:=⟨g,p,none⟩) (Or.inl rfl) u).setCell (p:=⟨g,q,none⟩) (Or.inl rfl) v).drew'
def IA (w:World) (g o:Nat) (l:List Int):Prop:=∃ cs t,w.heap[g]? = some (.cells cs t (0,0))/\∀ i,i < l.length->cs[o + i]? = some (.int .i64 l[i]!)
theorem IA.cell {w:World} {g o:Nat} {l:List Int} (h:IA w g o l) {i:Nat} (hi:i < l.length):w.cell? ⟨g,o + i,none⟩=some (.int .i64 l[i]!):=by
 obtain ⟨cs,t,hb,hc⟩:=h
 simp [World.cell?,hb,hc i hi]
theorem IA.froz {w:World} {g o:Nat} {l:List Int} (h:IA w g o l) (i:Nat):w.frozen? ⟨g,i,none⟩=false:=by
 obtain ⟨cs,t,hb,hc⟩:=h
 simp [World.frozen?,hb]
theorem IA.lt {w:World} {g o:Nat} {l:List Int} (h:IA w g o l):g < w.heap.size:=by
 obtain ⟨cs,t,hb,hc⟩:=h
 exact (Array.getElem?_eq_some_iff.1 hb).1
theorem IA.same {w w':World} {g o:Nat} {l:List Int} (h:IA w g o l) (hb:w'.heap[g]? = w.heap[g]?):IA w' g o l:=by
 obtain ⟨cs,t,h1,hc⟩:=h
 exact ⟨cs,t,hb.trans h1,hc⟩
theorem IA.set {w:World} {g o:Nat} {l:List Int} (h:IA w g o l) {i:Nat} (hi:i < l.length) (x:Int):IA (w.setCell ⟨g,o + i,none⟩ (.int .i64 x)) g o (l.set i x):=by
 obtain ⟨cs,t,hb,hc⟩:=h
 refine ⟨cs.setIfInBounds (o + i) (.int .i64 x),t,by simp [World.setCell,Array.getElem?_modify,hb],fun k hk=>?_⟩
 rw [get_set _ _ _ _ hi]
 simp only [List.length_set] at hk
 by_cases hki:k=i
 ·subst hki
  have:=hc k hk
  have hlt:o + k < cs.size:=by
   rcases Nat.lt_or_ge (o + k) cs.size with h' | h'
   ·exact h'
   ·rw [Array.getElem?_eq_none h'] at this;cases this
  simp [hlt]
 ·rw [if_neg hki,Array.getElem?_setIfInBounds_ne (by omega)]
  exact hc k hk
theorem IA.sws {w:World} {g o:Nat} {l:List Int} (h:IA w g o l) {i j:Nat} (hi:i < l.length) (hj:j < l.length) :
  IA ((w.setCell ⟨g,o + i,none⟩ (.int .i64 l[j]!)).setCell ⟨g,o + j,none⟩ (.int .i64 l[i]!)) g o (sws l i j) :=
 (h.set hi _).set (by simpa using hj) _
theorem swapRangeI {w:World} {g o cap a b n:Nat} {l:List Int} (cv:Value) (h:IA w g o l) (hl:l.length<=4000) (hab:a + n<=b) (hb:b + n<=l.length) :
  Calls Tryz.prog 188 #[.slice (some ⟨g,o,none⟩) l.length cap,.int .i64 (a:Int),.int .i64 (b:Int),.int .i64 (n:Int),cv] w fun e w'=>e=.returned (.tuple #[])/\∃ l',SwR l l' a b n/\IA w' g o l'/\Tk.Kp (fun k=>k=g) w w':=by
 have H0:Hid (IA w g o l):=h
 clear h
 go_enter Tryz.func188,Tryz.ntmps188
 go_wp2
 go_loopw [10] (fun iv W0=>∃ (W:World) (_:W=W0) (i:Nat) (l1:List Int),iv=.int .i64 (i:Int)/\i<=n/\Hid (SwR l l1 a b i/\IA W g o l1/\Tk.Kp (fun k=>k=g) w W)) (fun iv _=>n - (intOf iv).toNat)
 case atStart=>exact ⟨_,rfl,0,l,rfl,Nat.zero_le _,SwR.zero l a b,H0.out,Tk.Kp.refl _ _⟩
 case round =>
  obtain ⟨W,hW,i,l1,rfl,hin,H⟩:=hrel
  subst hW
  by_cases hi:i < n
  ·have hl1:l1.length=l.length:=H.out.1.perm.length_eq
   have ii:(i:Int) < (n:Int):=by omega
   have k1:(a:Int) + (i:Int) < (l.length:Int):=by omega
   have k2:(b:Int) + (i:Int) < (l.length:Int):=by omega
   have c1:W.cell? ⟨g,o + (a + i),none⟩=some (.int .i64 l1[a + i]!):=H.out.2.1.cell (by omega)
   have c2:W.cell? ⟨g,o + (b + i),none⟩=some (.int .i64 l1[b + i]!):=H.out.2.1.cell (by omega)
   have f1:W.frozen? ⟨g,o + (a + i),none⟩=false:=H.out.2.1.froz _
   have f2:W.frozen? ⟨g,o + (b + i),none⟩=false:=H.out.2.1.froz _
   have hne:a + i ≠ b + i:=by omega
   have N:Hid (SwR l (sws l1 (a + i) (b + i)) a b (i + 1)):=H.out.1.step (by omega) (by omega)
   have M:Hid (IA ((W.setCell ⟨g,o + (a + i),none⟩ (.int .i64 l1[b + i]!)).setCell ⟨g,o + (b + i),none⟩ (.int .i64 l1[a + i]!)) g o (sws l1 (a + i) (b + i))):=H.out.2.1.sws (by omega) (by omega)
   generalize l1[a + i]! = x at *
   generalize l1[b + i]! = y at *
   go_wp2
   go_region
   go_wp2
   go_roundw
   case rel=>exact ⟨_,rfl,i + 1,sws l1 (a + i) (b + i),by go_num,hi,N.out,M.out.same rfl,H.out.2.2.trans (kp_swp W g _ _ _ _)⟩
   case measure=>simp [intOf];omega
  ·obtain rfl:i=n:=by omega
   go_wp2
   go_end0
   exact ⟨rfl,l1,H.out⟩
theorem rotateI {w:World} {g o cap a m b:Nat} {l:List Int} (cv:Value) (h:IA w g o l) (hl:l.length<=4000) (ham:a < m) (hmb:m < b) (hb:b<=l.length) :
  Calls Tryz.prog 164 #[.slice (some ⟨g,o,none⟩) l.length cap,.int .i64 (a:Int),.int .i64 (m:Int),.int .i64 (b:Int),cv] w fun e w'=>e=.returned (.tuple #[])/\∃ l',Rot l l' a m b/\IA w' g o l'/\Tk.Kp (fun k=>k=g) w w':=by
 have H0:Hid (IA w g o l):=h
 clear h
 have sw:=fun (W:World) (l1:List Int) (hl1:l1.length=l.length) (x y n:Nat) (hA:IA W g o l1) (h1:x + n<=y) (h2:y + n<=l.length)=>swapRangeI (cap:=cap) (a:=x) (b:=y) (n:=n) cv hA (by omega) h1 (by omega)
 have SW:Hid (∀ (W:World) (l1:List Int) (hl1:l1.length=l.length) (x y n:Nat) (hA:IA W g o l1) (h1:x + n<=y) (h2:y + n<=l.length),Calls Tryz.prog 188 #[.slice (some ⟨g,o,none⟩) l.length cap,.int .i64 (x:Int),.int .i64 (y:Int),.int .i64 (n:Int),cv] W fun e w'=>e=.returned (.tuple #[])/\∃ l',SwR l1 l' x y n/\IA w' g o l'/\Tk.Kp (fun k=>k=g) W w') :=
  fun W l1 hl1 x y n hA h1 h2=>by have:=sw W l1 hl1 x y n hA h1 h2;rw [hl1] at this;exact this
 clear sw
 obtain ⟨i0,j0,ha0,hb0,hi0,hj0,him⟩:∃ i0 j0:Nat,m - i0=a/\m + j0=b/\0 < i0/\0 < j0/\i0<=m:=⟨m - a,b - m,by omega,by omega,by omega,by omega,by omega⟩
 have ei:(m:Int) - (a:Int)=(i0:Int):=by omega
 have ej:(b:Int) - (m:Int)=(j0:Int):=by omega
 have hjl:m + j0<=l.length:=by omega
 have AB:Hid (m - i0=a/\m + j0=b):=⟨ha0,hb0⟩
 clear ha0 hb0 ham hmb hb
 go_enter Tryz.func164,Tryz.ntmps164
 go_wp2
 go_loopw [10,11] (fun iv jv W0=>∃ (W:World) (_:W=W0) (i j:Nat) (l1:List Int),iv=.int .i64 (i:Int)/\jv=.int .i64 (j:Int)/\(0 < i/\i<=i0)/\(0 < j/\j<=j0)/\Hid (l1.length=l.length/\IA W g o l1/\Tk.Kp (fun k=>k=g) w W/\∀ l2,Rot l1 l2 (m - i) m (m + j)->Rot l l2 a m b)) (fun iv jv _=>(intOf iv).toNat + (intOf jv).toNat)
 case atStart=>exact ⟨_,rfl,i0,j0,l,by first | rfl | (congr 1;omega) | (congr 1),by first | rfl | (congr 1;omega) | (congr 1),⟨hi0,Nat.le_refl _⟩,⟨hj0,Nat.le_refl _⟩,rfl,H0.out,Tk.Kp.refl _ _,fun l2 h=>by have q:=AB.out;rw [q.1,q.2] at h;exact h⟩
 case round =>
  obtain ⟨W,hW,i,j,l1,rfl,rfl,⟨hi,hi'⟩,⟨hj,hj'⟩,H⟩:=hrel
  subst hW
  by_cases hij:i=j
  ·subst hij
   have e1:(m:Int) - (i:Int)=((m - i:Nat):Int):=by omega
   have S:=SW.out W l1 H.out.1 (m - i) m i H.out.2.1 (by omega) (by omega)
   go_wp2_with fail
   refine S.mono ?_
   rintro e w1 ⟨rfl,l2,s2,a2,k2⟩
   go_wp2
   go_end0
   exact ⟨rfl,l2,H.out.2.2.2 l2 (Rot.eq s2 (by omega)),a2,H.out.2.2.1.trans k2⟩
  ·by_cases hgt:j < i
   ·have e1:(m:Int) - (i:Int)=((m - i:Nat):Int):=by omega
    have b1:((i:Int) == (j:Int))=false:=by rw [beq_eq_false_iff_ne];omega
    have b2:(j:Int) < (i:Int):=by omega
    have S:=SW.out W l1 H.out.1 (m - i) m j H.out.2.1 (by omega) (by omega)
    go_wp2_with fail
    refine S.mono ?_
    rintro e w1 ⟨rfl,l2,s2,a2,k2⟩
    clear e1 b1 S
    have e3:(i:Int) - (j:Int)=((i - j:Nat):Int):=by omega
    go_wp2
    clear e3 b2
    go_roundw
    case rel=>exact ⟨_,rfl,i - j,j,l2,by first | rfl | (congr 1;omega),rfl,⟨by omega,by omega⟩,⟨hj,hj'⟩,s2.perm.length_eq.trans H.out.1,a2,H.out.2.2.1.trans k2,fun l3 h3=>H.out.2.2.2 l3 (Rot.left hgt (by omega) s2 h3)⟩
    case measure=>simp [intOf];omega
   ·have e1:(m:Int) - (i:Int)=((m - i:Nat):Int):=by omega
    have e2:(m:Int) + (j:Int) - (i:Int)=((m + j - i:Nat):Int):=by omega
    have b1:((i:Int) == (j:Int))=false:=by rw [beq_eq_false_iff_ne];omega
    have b2:¬ (j:Int) < (i:Int):=by omega
    have S:=SW.out W l1 H.out.1 (m - i) (m + j - i) i H.out.2.1 (by omega) (by omega)
    go_wp2_with fail
    refine S.mono ?_
    rintro e w1 ⟨rfl,l2,s2,a2,k2⟩
    go_wp2
    go_roundw
    case rel=>exact ⟨_,rfl,i,j - i,l2,rfl,by congr 1;omega,⟨hi,hi'⟩,⟨by omega,by omega⟩,s2.perm.length_eq.trans H.out.1,a2,H.out.2.2.1.trans k2,fun l3 h3=>H.out.2.2.2 l3 (Rot.right (by omega) (by omega) s2 h3)⟩
    case measure=>simp [intOf];omega
end Go.Proofs.YtcipdampcmfmaabGreat
